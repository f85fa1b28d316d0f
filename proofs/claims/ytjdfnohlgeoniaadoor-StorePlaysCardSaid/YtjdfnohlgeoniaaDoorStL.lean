/- A store's Commit. -/
import Derived.Test.YtjdfnohlgeoniaaDoorStJ
namespace Go.Proofs.YtjdfnohlgeoniaaDoor
open Go.RowKit

theorem lit_1p (A1 : Option Addr) (n1 c1 : Nat) (w : World) : (Instr.buildSlice 26 1 #[(0, .slice A1 n1 c1)]).run Tryd.prog w = .ok (.slice (some ⟨w.heap.size, 0, none⟩) 1 1) (w.alloc (.cells #[.slice A1 n1 c1] 25)) := by kernel_rfl
theorem GrewIn.mono {w w' : World} {C D : Nat → Prop} (h : GrewIn w w' C) (hd : ∀ k, C k → D k) : GrewIn w w' D := ⟨h.os, h.tape, h.output, h.size, fun k hk hn => h.block k hk (fun e => hn (hd k e))⟩
theorem GrewIn.ofRow {w w' : World} {row : Option Nat} (h : w.grownBy w' row) : GrewIn w w' (fun k => row = some k) := ⟨h.os, h.tape, h.output, h.size, fun k hk hn => h.block k hk (fun e => hn e.symm)⟩
/-- What a commit makes of a store. -/
theorem SAx.com {w w' : World} {g : Nat} {B R : Nat → Prop} {s : Vers} {A : Option Addr} {c : Nat} {kv kv' : Value} {rs : List Rq} (x : SAx w g B R s A c kv rs) (h : GrewIn w w' B)
    (hg : w'.heap[g]? = some (.cells #[.slice A s.now.length c, .int .i64 ((s.all.length + 1 : Nat) : Int), kv'] 54 (0, 0)))
    (ho : OwnV 25 w' kv' (((rs ++ [(A, s.now, c)]).drop (rs.length + 1 - 6)).map rv)) (hb : ∀ k, kv'.ownBlock = some k → kv.ownBlock = some k ∨ w.heap.size ≤ k) (hn : s.all.length < 16) :
    SA w' g (More B w w') (More R w w') s.commit ∧ Did w w' B R (More B w w') (More R w w') := by
  have hlt := x.lt
  have hl := x.len
  have hnB : ∀ k, k < w.heap.size → ¬ B k → ¬ More B w w' k := fun k hk hb e => by
    rcases e with e | e
    · exact hb e
    · omega
  refine ⟨⟨A, c, kv', (rs ++ [(A, s.now, c)]).drop (rs.length + 1 - 6), ?_⟩, h, fun k hk => hk.imp id (fun h => h.1), fun k hk => hk.imp id (fun h => h.1)⟩
  have hcm : s.commit = ⟨s.now, s.all ++ [s.now]⟩ := by unfold Vers.commit; rw [if_pos hn]
  rw [hcm]
  have hrow : ∀ r ∈ rs ++ [(A, s.now, c)], RdQ w' r.1 r.2.1 ∧ r.2.1.length ≤ r.2.2 ∧ ∀ ad, r.1 = some ad → R ad.block ∧ ¬ B ad.block := fun r hr => by
    rcases List.mem_append.1 hr with hr | hr
    · exact ⟨h.keep (x.rr r hr).1 (fun ad e => x.rl _ ((x.rr r hr).2.2 ad e).1) (fun ad e => ((x.rr r hr).2.2 ad e).2), (x.rr r hr).2⟩
    · rw [List.mem_singleton.1 hr]
      exact ⟨h.keep x.rn (fun ad e => x.rl _ (x.an ad e).1) (fun ad e => (x.an ad e).2), x.cn, x.an⟩
  exact {
    hg := by simpa using hg
    rn := h.keep x.rn (fun ad e => x.rl _ (x.an ad e).1) (fun ad e => (x.an ad e).2)
    cn := x.cn
    an := fun ad e => ⟨.inl (x.an ad e).1, hnB _ (x.rl _ (x.an ad e).1) (x.an ad e).2⟩
    ok := ho
    bk := fun k e => by
      rcases hb k e with e2 | e2
      · exact ⟨.inl (x.bk k e2).1, (x.bk k e2).2⟩
      · exact ⟨.inr ⟨e2, ho.lt k e⟩, by omega⟩
    rr := fun r hr => by
      obtain ⟨h1, h2, h3⟩ := hrow r (List.mem_of_mem_drop hr)
      exact ⟨h1, h2, fun ad e => ⟨.inl (h3 ad e).1, hnB _ (x.rl _ (h3 ad e).1) (h3 ad e).2⟩⟩
    rk := by
      rw [List.map_drop, List.map_append, x.rk]
      show (s.all.drop (s.all.length - 6) ++ [s.now]).drop (rs.length + 1 - 6) = (s.all ++ [s.now]).drop ((s.all ++ [s.now]).length - 6)
      rw [List.length_append, List.length_singleton, hl]
      by_cases h6 : s.all.length < 6
      · rw [show min s.all.length 6 + 1 - 6 = 0 by omega, show s.all.length - 6 = 0 by omega, show s.all.length + 1 - 6 = 0 by omega]; rfl
      · rw [show min s.all.length 6 + 1 - 6 = 1 by omega, ← List.drop_append_of_le_length (by omega), List.drop_drop, show s.all.length - 6 + 1 = s.all.length + 1 - 6 by omega]
    bg := .inl x.bg
    br := fun k hk => hk.imp (x.br k) id
    rl := fun k hk => by
      rcases hk with hk | hk
      · exact Nat.lt_of_lt_of_le (x.rl k hk) h.size
      · exact hk.2
    ri := ⟨x.ri.1, by rw [List.length_append, List.length_singleton]; omega, fun r hr => by
      rcases List.mem_append.1 hr with hr | hr
      · exact x.ri.2.2 r hr
      · rw [List.mem_singleton.1 hr]; exact x.ri.1⟩ }

set_option maxRecDepth 100000 in
set_option maxHeartbeats 2000000 in
theorem Commit_any {w : World} {g : Nat} {B R : Nat → Prop} {s : Vers} (hs : SA w g B R s) :
    Calls Tryd.prog 11 #[sptr g] w fun e w' => ∃ B' R', e = .returned (.int .i64 (s.commits : Nat)) ∧ SA w' g B' R' s.commit ∧ Did w w' B R B' R' := by
  obtain ⟨A, c, kv, rs, x⟩ := hs
  have c1 := x.cell1
  by_cases h16 : s.all.length < 16
  · have hcs : s.commits = s.all.length + 1 := by unfold Vers.commits; rw [if_pos h16]
    rw [hcs]
    have hl := x.len
    -- the world behind the height's store
    obtain ⟨W1, hW1⟩ : ∃ W1, W1 = w.setCell ⟨g, 1, none⟩ (.int .i64 ((s.all.length : Int) + 1)) := ⟨_, rfl⟩
    have hG1 : W1.heap[g]? = some (.cells #[.slice A s.now.length c, .int .i64 ((s.all.length : Int) + 1), kv] 54 (0, 0)) := by rw [hW1]; exact heap_setCell_same w g 1 _ _ _ x.hg
    have hgr1 : GrewIn w W1 (· = g) := by rw [hW1]; exact setCell_in w g 1 _
    have ho1 := hgr1.ownV x.ok (fun k e => (x.bk k e).2)
    have f0 := x.froz 1
    obtain ⟨N, hN⟩ : ∃ N, N = s.all.length := ⟨_, rfl⟩
    have e2 : IntKind.i64.wrap ((N : Int) + 1) = (N : Int) + 1 := IntWalk.i64_in _ ⟨by omega, by omega⟩
    have hlt : ¬ (16 : Int) ≤ (N : Int) := by omega
    have HW1 : Hid (w.setCell ⟨g, 1, none⟩ (.int .i64 ((N : Int) + 1)) = W1) := by show _ = _; rw [hN, hW1]
    rw [← hN] at c1 hG1 ⊢
    rw [show ((N + 1 : Nat) : Int) = (N : Int) + 1 by omega]
    have hcells : ∀ W : World, W.heap[g]? = some (.cells #[.slice A s.now.length c, .int .i64 ((N : Int) + 1), kv] 54 (0, 0)) → W.cell? ⟨g, 0, none⟩ = some (.slice A s.now.length c) ∧ W.cell? ⟨g, 2, none⟩ = some kv ∧ W.frozen? ⟨g, 2, none⟩ = false := fun W h =>
      ⟨by rw [cell_of_row W g 0 _ _ _ h]; rfl, by rw [cell_of_row W g 2 _ _ _ h]; rfl, frozen_of_row W g 2 _ _ h⟩
    obtain ⟨q0, q2, q3⟩ := hcells _ (show W1.drew.heap[g]? = _ from hG1)
    have hgA : W1.grownBy ((W1.alloc (.cells #[.slice A s.now.length c] 25)).drew) none := grown_drew (grown_alloc (grown_refl _ _) _)
    have ho1' := ho1.kept hgA
    have hrd : RdAt ((W1.alloc (.cells #[.slice A s.now.length c] 25)).drew) (some ⟨W1.heap.size, 0, none⟩) [rv (A, s.now, c)] := rd_row (cs := [_]) (heap_alloc_new W1 _)
    obtain ⟨m, hm⟩ : ∃ m, m = rs.length + 1 := ⟨_, rfl⟩
    have hb1 : ((rs.map rv).length + [rv (A, s.now, c)].length) * 24 ≤ 140737488355328 := by rw [List.length_map, List.length_singleton]; omega
    have hb2 : (rs.map rv).length + [rv (A, s.now, c)].length ≤ maxLen := by rw [List.length_map, List.length_singleton]; unfold maxLen; omega
    have hlen1 : (rs.map rv ++ [rv (A, s.now, c)]).length = m := by rw [List.length_append, List.length_map, List.length_singleton, hm]
    have hgrow1 : ∀ w1 v1, Grew ((W1.alloc (.cells #[.slice A s.now.length c] 25)).drew) w1 kv v1 → w1.heap[g]? = some (.cells #[.slice A s.now.length c, .int .i64 ((N : Int) + 1), kv] 54 (0, 0)) := fun w1 v1 h => by
      refine (h.1.block g ?_ (fun e => (x.bk g e.symm).2 rfl)).trans ((hgA.block g ?_ (by simp)).trans hG1)
      · have := x.lt; have := hgr1.size; have := hgA.size; omega
      · have := x.lt; have := hgr1.size; omega
    have hGA : (W1.alloc (.cells #[.slice A s.now.length c] 25)).heap[g]? = some (.cells #[.slice A s.now.length c, .int .i64 ((N : Int) + 1), kv] 54 (0, 0)) := (hgA.block g (Array.getElem?_eq_some_iff.1 hG1).1 (by simp)).trans hG1
    obtain ⟨q7, q8, -⟩ := hcells _ hGA
    have HM := Lib.hid hm
    have HN := Lib.hid hN
    have X := Lib.hid x
    have HL := Lib.hid hl
    have H16 := Lib.hid h16
    have HG1 := Lib.hid hG1
    clear hGA hW1 x hN hl hcs h16 hG1 hm
    unfold sptr
    go_enter Tryd.func11, Tryd.ntmps11
    go_upto_region 4 with (fail)
    rw [HW1.out]
    go_region_law (refine step_appV (v := kv) rfl _ _ 26 rfl Tryd.underlying26 info_listQ rfl rfl ho1' (news := [rv (A, s.now, c)]) rfl rfl hrd (by intro u hu; rw [List.mem_singleton.1 hu]; rfl) hb1 hb2 ?_; intro v1 w1 ho2 hg2; obtain ⟨K1, ck1, e1, -, -, -⟩ := ho2.slice; rw [hlen1] at e1; subst e1; have hG2 := hgrow1 w1 _ hg2; obtain ⟨q4, q5, q6⟩ := hcells _ hG2)
    all_goals
      obtain ⟨W2, hW2⟩ : ∃ W2, W2 = w1.setCell ⟨g, 2, none⟩ (.slice K1 m ck1) := ⟨_, rfl⟩
      rw [← hW2]
      have hG3 : W2.heap[g]? = some (.cells #[.slice A s.now.length c, .int .i64 ((N : Int) + 1), .slice K1 m ck1] 54 (0, 0)) := by rw [hW2]; exact heap_setCell_same w1 g 2 _ _ _ hG2
      have hwA : w.heap.size ≤ (W1.alloc (.cells #[.slice A s.now.length c] 25)).drew.heap.size := Nat.le_trans hgr1.size hgA.size
      have hv1 : ∀ k, (Value.slice K1 m ck1).ownBlock = some k → kv.ownBlock = some k ∨ w.heap.size ≤ k := fun k e => by
        rcases hg2.2 with h | ⟨k2, h, h2⟩
        · exact .inl (h ▸ e)
        · rw [e] at h; injection h with h; exact .inr (by omega)
      have hv1g : ∀ k, (Value.slice K1 m ck1).ownBlock = some k → k ≠ g := fun k e => by
        rcases hv1 k e with h | h
        · exact (X.out.bk k h).2
        · have := X.out.lt; omega
      have hv1B : ∀ k, (Value.slice K1 m ck1).ownBlock = some k → B k ∨ w.heap.size ≤ k := fun k e => (hv1 k e).imp (fun h => (X.out.bk k h).1) id
      have hgB : ∀ k, k = g → B k ∨ w.heap.size ≤ k := fun k e => .inl (by rw [e]; exact X.out.bg)
      have hin : GrewIn w W2 B := by
        have a1 := hgr1.mono (D := B) (fun k e => by rw [e]; exact X.out.bg)
        have a2 := a1.then hgA
        have a3 := a2.trans (GrewIn.ofRow hg2.1) (fun k e => .inl (X.out.bk k e).1)
        have a4 := a3.trans (setCell_in w1 g 2 (.slice K1 m ck1)) hgB
        rw [hW2]; exact a4
      have ho3 : OwnV 25 W2 (.slice K1 m ck1) ((rs ++ [(A, s.now, c)]).map rv) := by
        rw [hW2, List.map_append]
        exact (setCell_in w1 g 2 _).ownV ho2 (fun k e => hv1g k e)
      obtain ⟨y1, y2⟩ : W2.cell? ⟨g, 2, none⟩ = some (.slice K1 m ck1) ∧ W2.cell? ⟨g, 1, none⟩ = some (.int .i64 ((N : Int) + 1)) := ⟨by rw [cell_of_row W2 g 2 _ _ _ hG3]; rfl, by rw [cell_of_row W2 g 1 _ _ _ hG3]; rfl⟩
      clear q0 q2 q3 q4 q5 q6 q7 q8 hcells
      replace hW2 := Lib.hid hW2
      replace ho3 := Lib.hid ho3
      by_cases h6 : (6 : Int) < (m : Int)
      · have hD := Delete_any (.slice K1 m ck1) (rs ++ [(A, s.now, c)]) W2 ho3.out (by simp) (by rw [List.length_append, List.length_singleton]; have := HL.out; omega)
        have hb4 : ∀ w3, W2.grownBy w3 (Value.slice K1 m ck1).ownBlock → w3.heap[g]? = some (.cells #[.slice A s.now.length c, .int .i64 ((N : Int) + 1), .slice K1 m ck1] 54 (0, 0)) := fun w3 h => (h.block g (Array.getElem?_eq_some_iff.1 hG3).1 (fun e => hv1g g e.symm rfl)).trans hG3
        go_wp2_with (go_at_call 30; refine hD.mono ?_; rintro e w3 ⟨v3, rfl, ho4, hg4, hv4⟩; obtain ⟨K3, ck3, e3, -, -, -⟩ := ho4.slice; rw [List.length_map] at e3; have ho4' := Lib.hid ho4; clear ho4; obtain ⟨n3, hn3⟩ : ∃ n3, n3 = (List.drop 1 (rs ++ [(A, s.now, c)])).length := ⟨_, rfl⟩; rw [← hn3] at e3; clear hn3; subst e3; have hG4 := hb4 w3 hg4; obtain ⟨z1, z2, z3⟩ : w3.cell? ⟨g, 2, none⟩ = some (.slice K1 m ck1) ∧ w3.cell? ⟨g, 1, none⟩ = some (.int .i64 ((N : Int) + 1)) ∧ w3.frozen? ⟨g, 2, none⟩ = false := ⟨by rw [cell_of_row w3 g 2 _ _ _ hG4]; rfl, by rw [cell_of_row w3 g 1 _ _ _ hG4]; rfl, frozen_of_row w3 g 2 _ _ hG4⟩)
        go_ret
        have hm6 : rs.length + 1 - 6 = 1 := by have := HM.out; have := HL.out; omega
        have hF := X.out.com (w' := w3.setCell ⟨g, 2, none⟩ (.slice K3 n3 ck3)) ((hin.trans (GrewIn.ofRow hg4) (fun k e => hv1B k e)).trans (setCell_in w3 g 2 _) hgB) (by rw [← HN.out]; exact heap_setCell_same w3 g 2 _ _ _ hG4) (by rw [hm6]; exact (setCell_in w3 g 2 _).ownV ho4'.out (fun k e => hv1g k (by rw [← hv4]; exact e))) (fun k e => hv1 k (by rw [← hv4]; exact e)) H16.out
        first | exact ⟨rfl, _, _, hF.1, hF.2⟩ | exact ⟨_, _, rfl, hF.1, hF.2⟩
      · go_wp2
        go_ret
        have hm6 : rs.length + 1 - 6 = 0 := by have := HM.out; omega
        have hF := X.out.com hin (by rw [← HN.out]; exact hG3) (by rw [hm6]; exact ho3.out) hv1 H16.out
        first | exact ⟨rfl, _, _, hF.1, hF.2⟩ | exact ⟨_, _, rfl, hF.1, hF.2⟩
  · have hcs : s.commits = 0 := by unfold Vers.commits; rw [if_neg h16]
    have hcm : s.commit = s := by unfold Vers.commit; rw [if_neg h16]
    rw [hcs, hcm]
    have hge : (16 : Int) ≤ (s.all.length : Int) := by omega
    have X := Lib.hid x
    clear x hcs hcm
    unfold sptr
    go_enter Tryd.func11, Tryd.ntmps11
    go_wp2
    go_ret
    exact ⟨B, R, rfl, ⟨A, c, kv, rs, X.out⟩, .refl _ _, fun _ h => .inl h, fun _ h => .inl h⟩
end Go.Proofs.YtjdfnohlgeoniaaDoor
