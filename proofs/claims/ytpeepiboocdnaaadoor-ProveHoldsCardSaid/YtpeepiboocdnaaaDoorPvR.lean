/- The package's own calls, part 2: Some, Range, Exist, Absent, Size. -/
import Derived.Test.YtpeepiboocdnaaaDoorPvP
import Derived.Test.YtpeepiboocdnaaaDoorPvF
import Derived.Test.YtpeepiboocdnaaaDoorKM
import Derived.Test.YtpeepiboocdnaaaDoorKJ
namespace Go.Proofs.YtpeepiboocdnaaaDoor
open Go.RowKit

/-- An elder block is written. -/
theorem IsPf.grown {w w' : World} {P : Pf} {A : Option Addr} {c : Nat} {B : Option Addr} {d : Nat} {rs : List Ph} {N g : Nat} (h : IsPf w P A c B d rs) (hn : NewPf N A B rs) (hs : w.grownBy w' (some g)) (hg : g < N) : IsPf w' P A c B d rs := by
  have ne : ∀ ad : Addr, N ≤ ad.block → some ad.block ≠ some g := fun ad h e => by injection e with e; omega
  exact ⟨h.hc, RdAt.keep h.rd hs (fun ad e => ne ad (hn.a ad e)), h.hd, ⟨RdAt.keep h.rp.1 hs (fun ad e => ne ad (hn.b ad e)), fun r hr => ⟨RdAt.keep (h.rp.2 r hr).rd hs (fun ad e => ne ad (hn.r r hr ad e)), (h.rp.2 r hr).len, (h.rp.2 r hr).cap, (h.rp.2 r hr).at0⟩⟩, h.ps⟩

set_option maxRecDepth 100000 in
set_option maxHeartbeats 2000000 in
theorem Some_any (A : Option Addr) (c : Nat) (ps : List Kv) (f t : Int) (w : World) (hr : RowQ w A c ps) (hk : Laid2 w) (hf : -1000 ≤ f ∧ f ≤ 1000) (ht : -1000 ≤ t ∧ t ≤ 1000) :
    Calls Tryd.prog 18 #[.slice A ps.length c, .int .i64 f, .int .i64 t] w fun e w' => PfAt w (someL ps f.toNat (min t.toNat ps.length)) e w' := by
  have hn := hr.hn
  have k1 := fun W => cut_any A c ps.length f hf.1 hf.2 (by omega) W
  have k2 := fun W => cut_any A c ps.length t ht.1 ht.2 (by omega) W
  obtain ⟨F, hF⟩ : ∃ F, F = min f.toNat ps.length := ⟨_, rfl⟩
  obtain ⟨T, hT⟩ : ∃ T, T = min t.toNat ps.length := ⟨_, rfl⟩
  rw [← hF] at k1
  rw [← hT] at k2 ⊢
  by_cases hlt : F < T
  · obtain ⟨m, hm⟩ : ∃ m, T = F + m := ⟨T - F, by omega⟩
    have hfF : f.toNat = F := by omega
    have hQl : ((ps.drop F).take m).length = m := by rw [List.length_take, List.length_drop]; omega
    have hfin : someL ps f.toNat T = ⟨ps.length, F, (ps.drop F).take m, pathsB ps F m⟩ := by unfold someL; rw [hfF, if_pos hlt, show T - F = m by omega]
    rw [hfin]
    clear hfin hfF hF
    have hTn : T ≤ ps.length := by omega
    clear hT hf ht
    have s1 := sl_lhQ A ps.length c F T (by omega) (by have := hr.hc; omega)
    rw [show T - F = m by omega] at s1
    have hRQ := fun W (hg : w.grownBy W none) => (RdQ.cut (hr.rd.kept hg) (k := F) hr.hc).take m
    generalize (if c = F then A else A.map (·.add (F * 2))) = A1 at *
    have hC := fun (W : World) (hg : w.grownBy W none) => CloneQ_new A1 (c - F) _ W (hRQ W hg) (by rw [hQl]; omega)
    rw [hQl] at hC
    have hP := fun (W : World) (hg : w.grownBy W none) => paths_any A c ps F m T W (hr.rd.kept hg) hn hr.hs hm hTn (hk.kept hg)
    generalize c - F = c1 at *
    generalize hQ : (ps.drop F).take m = Q at *
    clear hRQ hr
    obtain ⟨N, hN⟩ : ∃ N, N = ps.length := ⟨_, rfl⟩
    rw [← hN] at k1 k2 hP hn hTn s1 ⊢
    replace hN := Lib.hid hN
    have hge : decide ((T : Int) ≤ (F : Int)) = false := decide_eq_false (by omega)
    replace hm := Lib.hid hm
    replace hQl := Lib.hid hQl
    go_enter Tryd.func18, Tryd.ntmps18
    go_upto_region 2 with (fail)
    generalize hW : World.alloc (World.alloc w _) _ = W
    have hG : W.heap[w.heap.size + 1]? = some (.cells #[.int .i64 (N : Nat), .int .i64 0, .slice none 0 0, .slice none 0 0] 27 (0, 0)) := by rw [← hW]; exact alloc_at (by simp)
    have hR : ∃ CR, CR.size = 4 ∧ W.heap[w.heap.size]? = some (.cells CR 27 (0, 0)) := by rw [← hW]; exact ⟨_, rfl, alloc_old (alloc_at rfl)⟩
    have hgW : w.grownBy W none := by rw [← hW]; exact grown_alloc (grown_alloc (grown_refl _ _) _) _
    obtain ⟨CR, hCR, hR⟩ := hR
    clear hW
    have e1 : W.cell? ⟨w.heap.size + 1, 1, none⟩ = some (.int .i64 0) := by rw [cell_of_row W _ 1 _ _ _ hG]; rfl
    have f1 : W.frozen? ⟨w.heap.size + 1, 1, none⟩ = false := frozen_of_row W _ 1 _ _ hG
    go_upto_region 6 with (first
      | (go_at_call 29; refine (k1 _).mono ?_; clear k1; rintro e w1 ⟨rfl, h4⟩; obtain rfl : W = w1 := h4.symm; clear h4)
      | (go_at_call 29; refine (k2 _).mono ?_; clear k2; rintro e w1 ⟨rfl, h4⟩; obtain rfl : W = w1 := h4.symm; clear h4))
    have hW1 : ∃ W1, W1 = W.setCell ⟨w.heap.size + 1, 1, none⟩ (.int .i64 (F : Nat)) := ⟨_, rfl⟩
    obtain ⟨W1, hW1⟩ := hW1
    rw [← hW1]
    have hG1 : W1.heap[w.heap.size + 1]? = some (.cells #[.int .i64 (N : Nat), .int .i64 (F : Nat), .slice none 0 0, .slice none 0 0] 27 (0, 0)) := by rw [hW1]; exact heap_setCell_same W _ 1 _ _ _ hG
    have hR1 : W1.heap[w.heap.size]? = some (.cells CR 27 (0, 0)) := by rw [hW1]; exact (Below.heap_setCell W ⟨w.heap.size + 1, 1, none⟩ _ w.heap.size (by simp)).trans hR
    have hgW1 : w.grownBy W1 none := by rw [hW1]; exact grown_set hgW (.inr (by simp)) _
    have hsz1 : w.heap.size + 1 < W1.heap.size := (Array.getElem?_eq_some_iff.1 hG1).1
    clear hW1 hG hR hgW e1 f1
    go_upto_region 7 with (first
      | (go_at_call 30; refine (hC _ hgW1).mono ?_; rintro e w5 ⟨v5, rfl, hp5, hg5, hn5⟩; obtain ⟨A5, c5, e5, hc5, hr5, hl5⟩ := hp5.form; rw [hQl.out] at e5; subst e5; have hG5 := keep_of hG1 hg5; have e2 : w5.cell? ⟨w.heap.size + 1, 2, none⟩ = some (.slice none 0 0) := (by rw [cell_of_row w5 _ 2 _ _ _ hG5]; rfl); have f2 : w5.frozen? ⟨w.heap.size + 1, 2, none⟩ = false := frozen_of_row w5 _ 2 _ _ hG5))
    obtain ⟨W2, hW2⟩ : ∃ W2, W2 = w5.setCell ⟨w.heap.size + 1, 2, none⟩ (.slice A5 m c5) := ⟨_, rfl⟩
    rw [← hW2]
    have hs2 : w5.grownBy W2 (some (w.heap.size + 1)) := by rw [hW2]; exact grown_set (grown_refl _ _) (.inl rfl) _
    have hG2 : W2.heap[w.heap.size + 1]? = some (.cells #[.int .i64 (N : Nat), .int .i64 (F : Nat), .slice A5 m c5, .slice none 0 0] 27 (0, 0)) := by rw [hW2]; exact heap_setCell_same w5 _ 2 _ _ _ hG5
    have hR2 : W2.heap[w.heap.size]? = some (.cells CR 27 (0, 0)) := by rw [hW2]; exact (Below.heap_setCell w5 ⟨w.heap.size + 1, 2, none⟩ _ w.heap.size (by simp)).trans (keep_of hR1 hg5)
    have hgW2 : w.grownBy W2 none := by rw [hW2]; exact grown_set (grown_none hgW1 hg5) (.inr (by simp)) _
    have hA5 : ∀ ad, A5 = some ad → W1.heap.size ≤ ad.block := fun ad e => hn5 _ (by rw [e]; rfl)
    have hr2 : RdQ W2 A5 Q := RdAt.keep hr5 hs2 (fun ad e e2 => by injection e2 with e2; have := hA5 ad e; omega)
    have hsz2 : W1.heap.size ≤ W2.heap.size := Nat.le_trans hg5.size hs2.size
    clear hW2 hs2 hG5 hG1 hR1 hgW1 hC e2 f2 hn5 hp5 hl5 hr5
    go_upto_region 8 with (first
      | (go_at_call 31; refine (hP _ hgW2).mono ?_; rintro e w6 ⟨B6, rs, rfl, hrp, hrs, hB6, hr6, hg6⟩; have hG6 := keep_of hG2 hg6; have e3 : w6.cell? ⟨w.heap.size + 1, 3, none⟩ = some (.slice none 0 0) := (by rw [cell_of_row w6 _ 3 _ _ _ hG6]; rfl); have f3 : w6.frozen? ⟨w.heap.size + 1, 3, none⟩ = false := frozen_of_row w6 _ 3 _ _ hG6))
    obtain ⟨W3, hW3⟩ : ∃ W3, W3 = w6.setCell ⟨w.heap.size + 1, 3, none⟩ (.slice B6 m m) := ⟨_, rfl⟩
    rw [← hW3]
    have hs3 : w6.grownBy W3 (some (w.heap.size + 1)) := by rw [hW3]; exact grown_set (grown_refl _ _) (.inl rfl) _
    have hG3 : W3.heap[w.heap.size + 1]? = some (.cells #[.int .i64 (N : Nat), .int .i64 (F : Nat), .slice A5 m c5, .slice B6 m m] 27 (0, 0)) := by rw [hW3]; exact heap_setCell_same w6 _ 3 _ _ _ hG6
    have hR3 : W3.heap[w.heap.size]? = some (.cells CR 27 (0, 0)) := by rw [hW3]; exact (Below.heap_setCell w6 ⟨w.heap.size + 1, 3, none⟩ _ w.heap.size (by simp)).trans (keep_of hR2 hg6)
    have hgW3 : w.grownBy W3 none := by rw [hW3]; exact grown_set (grown_none hgW2 hg6) (.inr (by simp)) _
    have hI6 : IsPf w6 ⟨N, F, Q, pathsB ps F m⟩ A5 c5 B6 m rs := ⟨by show Q.length ≤ c5; rw [hQl.out] at hc5 ⊢; exact hc5, RdAt.kept hr2 hg6, by show (pathsB ps F m).length ≤ m; rw [pathsB_len]; exact Nat.le_refl _, hrp, hrs⟩
    have hN6 : NewPf (w.heap.size + 2) A5 B6 rs := ⟨fun ad e => by have := hA5 ad e; omega, fun ad e => by have := hB6 ad e; omega, fun r hr ad e => by have := hr6 r hr ad e; omega⟩
    have hI3 := hI6.grown hN6 hs3 (by omega)
    clear hW3 hs3 hG6 hG2 hR2 hgW2 hP e3 f3 hI6 hg6 hrp hrs hB6 hr6 hr2 hA5 hsz1 hsz2 hc5 hg5
    have hsz : (Tryd.prog.info? 27).map (·.size) = some (#[Value.int .i64 (N : Nat), .int .i64 (F : Nat), .slice A5 m c5, .slice B6 m m] : Array Value).size := size_pf
    have hall : (#[Value.int .i64 (N : Nat), .int .i64 (F : Nat), .slice A5 m c5, .slice B6 m m] : Array Value).all (·.oneCell') = true := by simp [Value.oneCell']
    go_wp2_with (first
      | (refine wpList_load_row rfl 27 _ rfl (w.heap.size + 1) rfl _ #[.int .i64 (N : Nat), .int .i64 (F : Nat), .slice A5 m c5, .slice B6 m m] (0, 0) _ hG3 Tryd.underlying27 rfl hsz ?_)
      | (refine wpList_store_row rfl 27 _ _ rfl w.heap.size #[.int .i64 (N : Nat), .int .i64 (F : Nat), .slice A5 m c5, .slice B6 m m] rfl rfl 27 _ hR3 hsz hCR hall ?_))
    refine bodyPost_ret (results_cell_row rfl _ _ w.heap.size 27 #[.int .i64 (N : Nat), .int .i64 (F : Nat), .slice A5 m c5, .slice B6 m m] (0, 0) _ rfl (setRow_heap _ _ _ _ _ _ hR3) Tryd.underlying27 rfl hsz) rfl ?_
    refine ⟨A5, c5, B6, m, rs, ?_, hI3.grown hN6 (grown_setRow (grown_refl _ _) (.inl rfl) _) (by omega), hN6.le (by omega), grown_setRow hgW3 (.inr (Nat.le_refl _)) _⟩
    unfold pfv
    dsimp only
    rw [hQl.out, pathsB_len]
  · have hfin : someL ps f.toNat T = ⟨ps.length, 0, [], []⟩ := by unfold someL; rw [if_neg (by omega)]
    rw [hfin]
    clear hfin hF hT hf ht hr hk
    obtain ⟨N, hN⟩ : ∃ N, N = ps.length := ⟨_, rfl⟩
    rw [← hN] at k1 k2 ⊢
    clear hN
    have hge : decide ((T : Int) ≤ (F : Int)) = true := decide_eq_true (by omega)
    go_enter Tryd.func18, Tryd.ntmps18
    go_upto_region 2 with (fail)
    generalize hW : World.alloc (World.alloc w _) _ = W
    have hG : W.heap[w.heap.size + 1]? = some (.cells #[.int .i64 (N : Nat), .int .i64 0, .slice none 0 0, .slice none 0 0] 27 (0, 0)) := by rw [← hW]; exact alloc_at (by simp)
    have hR : ∃ CR, CR.size = 4 ∧ W.heap[w.heap.size]? = some (.cells CR 27 (0, 0)) := by rw [← hW]; exact ⟨_, rfl, alloc_old (alloc_at rfl)⟩
    have hgW : w.grownBy W none := by rw [← hW]; exact grown_alloc (grown_alloc (grown_refl _ _) _) _
    obtain ⟨CR, hCR, hR⟩ := hR
    clear hW
    have hsz : (Tryd.prog.info? 27).map (·.size) = some (#[Value.int .i64 (N : Nat), .int .i64 0, .slice none 0 0, .slice none 0 0] : Array Value).size := size_pf
    have hall : (#[Value.int .i64 (N : Nat), .int .i64 0, .slice none 0 0, .slice none 0 0] : Array Value).all (·.oneCell') = true := by simp [Value.oneCell']
    go_wp2_with (first
      | (go_at_call 29; refine (k1 _).mono ?_; clear k1; rintro e w1 ⟨rfl, h4⟩; obtain rfl : W = w1 := h4.symm; clear h4)
      | (go_at_call 29; refine (k2 _).mono ?_; clear k2; rintro e w1 ⟨rfl, h4⟩; obtain rfl : W = w1 := h4.symm; clear h4)
      | (refine wpList_load_row rfl 27 _ rfl (w.heap.size + 1) rfl _ #[.int .i64 (N : Nat), .int .i64 0, .slice none 0 0, .slice none 0 0] (0, 0) _ hG Tryd.underlying27 rfl hsz ?_)
      | (refine wpList_store_row rfl 27 _ _ rfl w.heap.size #[.int .i64 (N : Nat), .int .i64 0, .slice none 0 0, .slice none 0 0] rfl rfl 27 _ hR hsz hCR hall ?_))
    refine bodyPost_ret (results_cell_row rfl _ _ w.heap.size 27 #[.int .i64 (N : Nat), .int .i64 0, .slice none 0 0, .slice none 0 0] (0, 0) _ rfl (setRow_heap _ _ _ _ _ _ hR) Tryd.underlying27 rfl hsz) rfl ?_
    exact ⟨none, 0, none, 0, [], rfl, ⟨Nat.le_refl _, RdAt.nil, Nat.le_refl _, ⟨RdAt.nil, fun r hr => by cases hr⟩, rfl⟩, ⟨(fun ad e => by cases e), (fun ad e => by cases e), fun r hr => by cases hr⟩, grown_setRow hgW (.inr (Nat.le_refl _)) _⟩
end Go.Proofs.YtpeepiboocdnaaaDoor
