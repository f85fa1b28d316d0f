/- Rows of rows: slices.Delete of the first one, slices.Clone; a store's Now. -/
import Derived.Test.YtjdfnohlgeoniaaDoorStI
import Derived.Lib.SlicesDelete
import Derived.Lib.SliceRun
import Derived.Deep.RegionLaw
namespace Go.Proofs.YtjdfnohlgeoniaaDoor
open Go.RowKit

theorem info_listQ : (Tryd.prog.info? 25).map (fun i => (i.zero, i.size, i.bytes)) = some (some (.slice none 0 0), 1, 24) := by kernel_rfl
theorem rv_one (rs : List Rq) : ∀ u ∈ rs.map rv, u.oneCell' = true := by
  intro u hu; obtain ⟨r, -, rfl⟩ := List.mem_map.1 hu; rfl
theorem setCells_row {g : Nat} {t : TypeId} : ∀ (xs : List Value) (k : Nat) (cur : Array Value) (w : World), w.heap[g]? = some (.cells cur t (0, 0)) → (w.setCells g k xs).heap[g]? = some (.cells (Lib.lay cur k xs) t (0, 0))
  | [], _, _, _, h => h
  | x :: r, k, cur, w, h => setCells_row r (k + 1) (cur.setIfInBounds k x) (w.setCell ⟨g, k, none⟩ x) (heap_setCell_same w g k cur t x h)
theorem setCells_grown (g : Nat) : ∀ (xs : List Value) (k : Nat) (w : World), w.grownBy (w.setCells g k xs) (some g)
  | [], _, w => grown_refl w _
  | x :: r, k, w => grown_same (grown_set (grown_refl w (some g)) (.inl rfl) x) (setCells_grown g r (k + 1) (w.setCell ⟨g, k, none⟩ x))
theorem lay_first (cur : Array Value) (xs : List Value) (z : Value) (h : xs.length < cur.size) : (Lib.lay (Lib.lay cur 0 xs) xs.length [z]).toList.take xs.length = xs := by
  apply List.ext_getElem?
  intro j
  rw [List.getElem?_take]
  split
  · rename_i hj
    rw [Array.getElem?_toList, Lib.lay_get? _ _ _ _ (by rw [Lib.lay_size]; simp; omega), if_neg (by omega), Lib.lay_get? _ _ _ _ (by omega), if_pos (by omega)]
    simp
  · rename_i hj
    rw [List.getElem?_eq_none (by omega)]

set_option maxHeartbeats 4000000 in
set_option maxRecDepth 1000000 in
theorem Delete_any (v : Value) (rs : List Rq) (w : World) (ho : OwnV 25 w v (rs.map rv)) (h1 : 1 ≤ rs.length) (hm : rs.length ≤ 1000) :
    Calls Tryd.prog 30 #[v, .int .i64 0, .int .i64 1] w fun e w' => ∃ v', e = .returned v' ∧ OwnV 25 w' v' ((rs.drop 1).map rv) ∧ w.grownBy w' v.ownBlock ∧ v'.ownBlock = v.ownBlock := by
  obtain ⟨i0, hi0, hz0, hz1, hz2⟩ := info_parts info_listQ
  have hv0 : ∀ W, (zeroValue 25).run Tryd.prog W = .ok (Value.slice none 0 0) W := fun W => by kernel_rfl
  obtain ⟨base, hbase, hlen, hown⟩ := ho
  rcases hown with ⟨-, h0⟩ | ⟨G, cap, cur, rfl, hbG, hG, hnc, hcm, hsz, htk⟩
  · rw [List.length_map] at h0; omega
  rw [List.length_map] at hnc htk ⊢
  obtain ⟨n, hn⟩ : ∃ n, n = rs.length - 1 := ⟨_, rfl⟩
  have hrn : rs.length = n + 1 := by omega
  rw [hrn] at hnc htk ⊢
  obtain ⟨news, hnews⟩ : ∃ news, news = (rs.drop 1).map rv := ⟨_, rfl⟩
  have hlen2 : news.length = n := by rw [hnews, List.length_map, List.length_drop]; omega
  have hcur : ∀ t, t < cap → cur[t]? ≠ none := fun t ht => by rw [Array.getElem?_eq_getElem (by omega)]; simp
  have hcell : ∀ t, w.cell? ⟨G, t, none⟩ = cur[t]? := fun t => cell_of_row w G t cur _ _ hG
  have hget : ∀ t u, news[t]? = some u → w.cell? ⟨G, t + 1, none⟩ = some u := by
    intro t u hu
    have hlt : t < n := by rw [← hlen2]; exact (List.getElem?_eq_some_iff.1 hu).1
    rw [hcell, ← Array.getElem?_toList]
    have e : (cur.toList.take ((n + 1) * 1))[t + 1]? = cur.toList[t + 1]? := by rw [List.getElem?_take, if_pos (by omega)]
    rw [← e, htk]
    rw [hnews, List.getElem?_map, List.getElem?_drop] at hu
    rw [List.getElem?_map, Nat.add_comm t 1]
    exact hu
  obtain ⟨A, hA, hsrc⟩ : ∃ A : Addr, (if cap = 1 then some (⟨G, 0, none⟩ : Addr) else some ⟨G, 1, none⟩) = some A ∧ Hid (∀ t u, news[t]? = some u → w.drew.cell? (A.add t) = some u) := by
    by_cases h : cap = 1
    · refine ⟨⟨G, 0, none⟩, by simp [h], fun t u hu => ?_⟩
      have h0 : news.length = 0 := by omega
      rw [List.length_eq_zero_iff.1 h0] at hu
      simp at hu
    · refine ⟨⟨G, 1, none⟩, by simp [h], fun t u hu => ?_⟩
      rw [Addr.add_lit, Nat.add_comm 1 t]
      exact hget t u hu
  have s1 : Hid (news.length = n * 1) := by rw [Nat.mul_one]; exact hlen2
  have s2 : Hid (∀ u ∈ news, u.oneCell' = true) := by rw [hnews]; exact rv_one _
  have s3 : Hid (∀ t, t < news.length → (w.drew.cell? ⟨G, 0 + 0 * 1 + t, none⟩).isSome = true ∧ w.drew.frozen? ⟨G, 0 + 0 * 1 + t, none⟩ = false) := by
    intro t ht
    refine ⟨?_, frozen_of_row w G _ _ _ hG⟩
    show (w.cell? _).isSome = true
    rw [hcell, Array.getElem?_eq_getElem (by omega)]; rfl
  obtain ⟨W1, hW1⟩ : ∃ W1, W1 = w.drew.setCells G (0 + 0 * 1) news := ⟨_, rfl⟩
  have hW1b : W1.heap[G]? = some (.cells (Lib.lay cur 0 news) 25 (0, 0)) := by rw [hW1]; exact setCells_row news 0 cur w.drew hG
  have hW1g : w.grownBy W1 (some G) := by rw [hW1]; exact grown_same (grown_drew (grown_refl w _)) (setCells_grown G news _ _)
  have hls : (Lib.lay cur 0 news).size = cap := by rw [Lib.lay_size, hsz, Nat.mul_one]
  have hcl : ∀ ty, (Builtin.clear_ #[26] ty #[.slice (some ⟨G, n, none⟩) 1 (cap - n)]).run Tryd.prog W1 = .ok (.tuple #[]) (W1.setCells G n (List.replicate 1 (.slice none 0 0))) :=
    fun ty => Lib.run_clear_slice W1 _ _ ty _ Tryd.underlying26 hv0 rfl rfl G n _ _ (by omega) (fun t ht => by rw [cell_of_row W1 G _ _ _ _ hW1b, Array.getElem?_eq_getElem (by omega)]; rfl) (fun t _ => frozen_of_row W1 G _ _ _ hW1b)
  have hfin : OwnV 25 (W1.setCells G n (List.replicate 1 (.slice none 0 0))) (.slice (some ⟨G, 0, none⟩) n cap) ((rs.drop 1).map rv) := by
    refine ⟨base, Nat.le_trans hbase ?_, by simp, .inr ⟨G, cap, _, ?_, hbG, setCells_row _ _ _ _ hW1b, ?_, hcm, ?_, ?_⟩⟩
    · exact (grown_same hW1g (setCells_grown G _ _ _)).size
    · rw [← hnews, hlen2]
    · rw [← hnews, hlen2]; omega
    · rw [Lib.lay_size, hls, Nat.mul_one]
    · rw [← hnews, hlen2, Nat.mul_one]
      have := lay_first cur news (.slice none 0 0) (by omega)
      rw [hlen2] at this
      exact this
  have hfg : w.grownBy (W1.setCells G n (List.replicate 1 (.slice none 0 0))) (some G) := grown_same hW1g (setCells_grown G _ _ _)
  have hW : Hid (W1 = w.drew.setCells G (0 + 0 * 1) news) := hW1
  have hfin' := Lib.hid hfin
  have hfg' := Lib.hid hfg
  have hn0 : n ≤ 1000 := by omega
  have q1 : (1 : Int) ≤ (n : Int) + 1 := by omega
  have q2 : (n : Int) + 1 ≤ (cap : Int) := by omega
  have q3 : (n : Int) ≤ (n : Int) + 1 := by omega
  unfold maxLen at hcm
  clear hW1 hW1b hW1g hls hfin hfg hget hcell hcur htk hlen hG hsz hnews hlen2 hrn hn
  go_enter Tryd.func30, Tryd.ntmps30
  go_wp2_with fail
  go_region_law (refine step_append_room rfl (.tmp 22) (.tmp 25) 26 rfl 25 i0 1 Tryd.underlying26 hi0 hz1 G 0 0 cap (by simp [Act.eval, Act.put]) A n (cap - 1) news (by simp [Act.eval, Act.put]) s1.out hsrc.out s2.out (by omega) s3.out ?_; rw [← hW.out])
  go_wp2
  go_ret
  exact ⟨_, rfl, hfin'.out, hfg'.out, rfl⟩

theorem eq_nilR (w : World) (A : Option Addr) (n c n' c' : Nat) : (binOp .eql 26 (.slice A n c) (.slice none n' c')).run Tryd.prog w = .ok (.bool A.isNone) w := Lib.run_eql_slice_nil w _ _ A n c n' c' Tryd.underlying26
theorem emptyRow (t : TypeId) (w : World) : OwnV t (w.alloc (.cells #[] t)) (.slice (some ⟨w.heap.size, 0, none⟩) 0 0) [] :=
  ⟨w.heap.size, by simp, by simp, .inr ⟨w.heap.size, 0, #[], rfl, Nat.le_refl _, heap_alloc_new w _, Nat.zero_le _, Nat.zero_le _, rfl, rfl⟩⟩

set_option maxRecDepth 100000 in
theorem CloneR_any (v : Value) (rs : List Rq) (w : World) (ho : OwnV 25 w v (rs.map rv)) (hm : rs.length ≤ 1000) :
    Calls Tryd.prog 29 #[v] w fun e w' => ∃ v', e = .returned v' ∧ OwnV 25 w' v' (rs.map rv) ∧ w.grownBy w' none ∧ ∀ x, v'.ownBlock = some x → w.heap.size ≤ x := by
  have q := eq_nilR
  obtain ⟨A, c, rfl, hc, hcm, hr⟩ := ho.slice
  cases A with
  | none =>
    have h0 : rs.map rv = [] := by
      rcases hr with h | ⟨ad, e, -⟩
      · exact h
      · cases e
    rw [h0]
    go_enter Tryd.func29, Tryd.ntmps29
    go_wp2
    go_ret
    exact ⟨_, rfl, OwnV.nil _, grown_refl _ _, fun x e => by cases e⟩
  | some ad =>
    have hr2 := hr.alloc (.cells #[] 25)
    have hO := emptyRow 25 w
    have hl : (rs.map rv).length = rs.length := List.length_map ..
    have h1 := rv_one rs
    generalize rs.map rv = xs at *
    go_enter Tryd.func29, Tryd.ntmps29
    go_wp2_with (at_builtin; refine wpList_appV _ rfl _ _ 26 rfl Tryd.underlying26 info_listQ rfl rfl hO (news := xs) rfl rfl hr2 h1 (by rw [hl]; simp; omega) (by rw [hl]; simp [maxLen]; omega) ?_)
    intro v' w' ho' hg
    go_wp2
    go_ret
    exact ⟨_, rfl, ho', (Grew.fresh hg).nil, (Grew.fresh hg).new⟩

set_option maxRecDepth 100000 in
theorem Now_any {w : World} {g : Nat} {B R : Nat → Prop} {s : Vers} (h : SA w g B R s) : Calls Tryd.prog 18 #[sptr g] w fun e w' => ∃ v, e = .returned v ∧ PB w' v s.now ∧ (∀ x, v.ownBlock = some x → ¬ B x) ∧ w.grownBy w' none := by
  obtain ⟨A, c, kv, rs, x⟩ := h
  obtain ⟨hlen, -, -⟩ := (right_iff _).1 x.ri.1
  have hC := CloneQ_new A c s.now w x.rn (by omega)
  have c0 := x.cell0
  have hlt : ∀ k, B k → k < w.heap.size := fun k hk => x.rl k (x.br k hk)
  clear x
  unfold sptr
  go_enter Tryd.func18, Tryd.ntmps18
  go_wp2_with (go_at_call 34; refine hC.mono ?_; rintro e w1 ⟨v1, rfl, hp1, hg1, hf1⟩)
  go_ret
  exact ⟨_, rfl, hp1, fun k e hb => by have := hf1 k e; have := hlt k hb; omega, hg1⟩

set_option maxRecDepth 100000 in
theorem lowest_any {w : World} {g : Nat} {B R : Nat → Prop} {s : Vers} {A : Option Addr} {c : Nat} {kv : Value} {rs : List Rq} (x : SAx w g B R s A c kv rs) {d : Nat} (hd : s.all.length = rs.length + d) :
    Calls Tryd.prog 39 #[sptr g] w fun e w' => e = .returned (.int .i64 ((d : Int) + 1)) ∧ w.grownBy w' none := by
  obtain ⟨K, ck, rfl, hck, -, -⟩ := x.ok.slice
  have c1 := x.cell1
  have c2 := x.cell2
  have hl := x.len
  have hn := x.ri.2.1
  rw [List.length_map] at c2
  rw [hd] at c1
  generalize rs.length = m at *
  have e1 : IntKind.i64.wrap (((m + d : Nat) : Int) - (m : Int)) = (d : Int) := by rw [show ((m + d : Nat) : Int) - (m : Int) = (d : Int) by omega]; exact IntWalk.i64_in _ ⟨by omega, by omega⟩
  have e2 : IntKind.i64.wrap ((d : Int) + 1) = (d : Int) + 1 := IntWalk.i64_in _ ⟨by omega, by omega⟩
  obtain ⟨N, hN⟩ : ∃ N, N = ((m + d : Nat) : Int) := ⟨_, rfl⟩
  rw [← hN] at c1 e1
  clear x hN hl hn hd
  unfold sptr
  go_enter Tryd.func39, Tryd.ntmps39
  go_upto_region 1 with (fail)
  go_region_with (fail)
  all_goals
    go_wp2
    go_ret
    exact ⟨rfl, grown_drew (grown_refl _ _)⟩
end Go.Proofs.YtjdfnohlgeoniaaDoor
