/- A store's At, Kept, Copy. -/
import Derived.Test.YtjdfnohlgeoniaaDoorStJ
namespace Go.Proofs.YtjdfnohlgeoniaaDoor
open Go.RowKit

/-- What is kept of a height, by the rows that are kept. -/
theorem SAx.at_ {w : World} {g : Nat} {B R : Nat → Prop} {s : Vers} {A : Option Addr} {c : Nat} {kv : Value} {rs : List Rq} (x : SAx w g B R s A c kv rs) {d k : Nat} (hd : s.all.length = rs.length + d) (hk : k < rs.length) : s.at? ((d : Int) + 1 + (k : Int)) = some rs[k].2.1 := by
  have hl := x.len
  unfold Vers.at?
  rw [if_pos ⟨by omega, by omega⟩, show ((d : Int) + 1 + (k : Int) - 1).toNat = d + k by omega]
  have h2 := congrArg (fun l => l[k]?) x.rk
  simp only [List.getElem?_drop, List.getElem?_map] at h2
  rw [show d + k = s.all.length - 6 + k by omega, ← h2, List.getElem?_eq_getElem hk]; rfl
theorem SAx.at_not {w : World} {g : Nat} {B R : Nat → Prop} {s : Vers} {A : Option Addr} {c : Nat} {kv : Value} {rs : List Rq} (x : SAx w g B R s A c kv rs) {d : Nat} (hd : s.all.length = rs.length + d) {h : Int} (hh : h < (d : Int) + 1 ∨ (s.all.length : Int) < h) : s.at? h = none := by
  have hl := x.len
  unfold Vers.at?
  split
  · exact List.getElem?_eq_none (by omega)
  · rfl

theorem idx_R (ad : Addr) (n c k : Nat) (hk : k < n) (w : World) : (Instr.indexAt 26 (.slice (some ad) n c) (.int .i64 (k : Int))).run Tryd.prog w = .ok (.pointer (some (ad.add k))) w := by
  rw [run_indexAt_slice (P := Tryd.prog) (h := by kernel_rfl), if_pos ⟨by omega, by omega⟩]
  rw [show (sizeOf (Tryd.prog.elem 26)).run Tryd.prog w = .ok 1 w from by kernel_rfl, Result.andThen_ok]
  simp
theorem info_intK : (Tryd.prog.info? 3).map (fun i => (i.zero, i.size, i.bytes)) = some (some (.int .i64 0), 1, 8) := by kernel_rfl
set_option maxRecDepth 100000 in
theorem version_any {w : World} {g : Nat} {B R : Nat → Prop} {s : Vers} (h : Int) (hs : SA w g B R s) (hb : -1000 ≤ h ∧ h ≤ 1000) :
    Calls Tryd.prog 35 #[sptr g, .int .i64 h] w fun e w' => ∃ (A : Option Addr) (c n : Nat), e = .returned (.tuple #[.slice A n c, .bool (s.at? h).isSome]) ∧ n = ((s.at? h).getD []).length ∧ n ≤ c ∧ RdQ w' A ((s.at? h).getD []) ∧ w.grownBy w' none := by
  obtain ⟨A, c, kv, rs, x⟩ := hs
  obtain ⟨d, hd⟩ : ∃ d, s.all.length = rs.length + d := ⟨s.all.length - rs.length, by have := x.len; omega⟩
  have hlow := fun W (hg : w.grownBy W none) => (lowest_any (x.kept hg) hd).mono (fun e w' (h : _ ∧ W.grownBy w' none) => ((⟨h.1, grown_none hg h.2, h.2⟩ : _ ∧ w.grownBy w' none ∧ W.grownBy w' none)))
  have hc1 := fun W (hg : w.grownBy W none) => (x.kept hg).cell1
  have hc2 := fun W (hg : w.grownBy W none) => (x.kept hg).cell2
  obtain ⟨K, ck, rfl, hck, -, hrk⟩ := x.ok.slice
  rw [List.length_map] at hck hc2
  have hl := x.len
  have hn := x.ri.2.1
  have hlow0 := hlow w (grown_refl _ _)
  by_cases h1 : h < (d : Int) + 1
  · have hat := x.at_not hd (h := h) (.inl h1)
    rw [hat]
    clear hc1 hc2 hrk x hat hlow
    unfold sptr
    go_enter Tryd.func35, Tryd.ntmps35
    go_wp2_with (go_at_call 39; refine hlow0.mono ?_; rintro e w1 ⟨rfl, hg1, -⟩)
    go_ret2
    exact ⟨none, 0, 0, rfl, rfl, Nat.le_refl _, RdAt.nil, hg1⟩
  · by_cases h2 : (s.all.length : Int) < h
    · have hat := x.at_not hd (h := h) (.inr h2)
      rw [hat]
      clear hc2 hrk x hat hlow
      obtain ⟨N, hN⟩ : ∃ N, N = (s.all.length : Int) := ⟨_, rfl⟩
      rw [← hN] at hc1 h2
      clear hN
      unfold sptr
      go_enter Tryd.func35, Tryd.ntmps35
      go_wp2_with (go_at_call 39; refine hlow0.mono ?_; rintro e w1 ⟨rfl, hg1, -⟩; have hc11 := hc1 _ hg1)
      go_ret2
      exact ⟨none, 0, 0, rfl, rfl, Nat.le_refl _, RdAt.nil, hg1⟩
    · obtain ⟨k, hk⟩ : ∃ k : Nat, h = (d : Int) + 1 + (k : Int) := ⟨(h - ((d : Int) + 1)).toNat, by omega⟩
      have hkl : k < rs.length := by omega
      have hat := x.at_ hd hkl
      rw [hk, hat]
      have hrr := x.rr rs[k] (List.getElem_mem hkl)
      obtain ⟨ad, rfl, hcell⟩ := RdAt.get hrk (k := k) (by rw [List.length_map]; exact hkl)
      rw [List.getElem_map] at hcell
      have hcell2 : ∀ W, w.grownBy W none → W.cell? (ad.add k) = some (rv rs[k]) := fun W hg => hg.cell hcell (by simp)
      generalize rs[k] = r at *
      have hrr1 := fun W (hg : w.grownBy W none) => RdAt.kept hrr.1 hg
      have hrr2 := hrr.2.1
      unfold rv at hcell2
      have e1 : IntKind.i64.wrap ((d : Int) + 1 + (k : Int) - ((d : Int) + 1)) = (k : Int) := by rw [show (d : Int) + 1 + (k : Int) - ((d : Int) + 1) = (k : Int) by omega]; exact IntWalk.i64_in _ ⟨by omega, by omega⟩
      have e2 : ((d : Int) + 1 + (k : Int) < (d : Int) + 1) = False := by simp; omega
      obtain ⟨N, hN⟩ : ∃ N, N = (s.all.length : Int) := ⟨_, rfl⟩
      have e3 : ¬ N < (d : Int) + 1 + (k : Int) := by omega
      rw [← hN] at hc1
      obtain ⟨m, hm⟩ : ∃ m, m = rs.length := ⟨_, rfl⟩
      rw [← hm] at hkl hc2
      have hkm : (k : Int) < (m : Int) := by omega
      have hc00 := hc1 w (grown_refl _ _)
      obtain ⟨L, hL⟩ : ∃ L, L = (d : Int) + 1 := ⟨_, rfl⟩
      have hge : ¬ L + (k : Int) < L := by omega
      rw [← hL] at e1 e2 e3 hlow0 hlow
      simp only [← hL]
      have hlowd := hlow
      clear hN hm hrk x hat hrr hcell hd hn hl h1 h2 hk hL e2 hb
      unfold sptr
      go_enter Tryd.func35, Tryd.ntmps35
      go_upto_region 3 with (go_at_call 39; refine hlow0.mono ?_; rintro e w1 ⟨rfl, hg1, -⟩; have hc11 := hc1 _ hg1)
      have hc22 := hc2 w1.drew (grown_drew hg1)
      have hlow1 := hlow w1.drew (grown_drew hg1)
      go_region_with (go_at_call 39; refine hlow1.mono ?_; rintro e w2 ⟨rfl, hg2, -⟩; have hc23 := hc2 _ hg2; have hcell3 := hcell2 _ hg2)
      all_goals
        go_wp2
        go_ret2
        exact ⟨r.1, r.2.2, r.2.1.length, rfl, rfl, hrr2, hrr1 _ hg2, hg2⟩

set_option maxRecDepth 100000 in
theorem At_any {w : World} {g : Nat} {B R : Nat → Prop} {s : Vers} (h : Int) (hs : SA w g B R s) (hb : -1000 ≤ h ∧ h ≤ 1000) :
    Calls Tryd.prog 19 #[sptr g, .int .i64 h] w fun e w' => ∃ v, e = .returned (.tuple #[v, .bool (s.at? h).isSome]) ∧ PB w' v ((s.at? h).getD []) ∧ (∀ x, v.ownBlock = some x → ¬ B x) ∧ w.grownBy w' none := by
  have hv := version_any h hs hb
  have hlt : ∀ k, B k → k < w.heap.size := fun k hk => by obtain ⟨A, c, kv, rs, x⟩ := hs; exact x.rl k (x.br k hk)
  have hle : ((s.at? h).getD []).length ≤ 30 := by
    obtain ⟨A, c, kv, rs, x⟩ := hs
    unfold Vers.at?
    split
    · cases hq : s.all[(h - 1).toNat]? with
      | none => simp
      | some l => exact ((right_iff _).1 (x.ri.2.2 l (List.mem_of_getElem? hq))).1
    · simp
  clear hs
  generalize (s.at? h).getD [] = ps at *
  generalize (s.at? h).isSome = ok at *
  have hC := fun A c n W (hn : n = ps.length) (hr : RdQ W A ps) => (by subst hn; exact CloneQ_new A c ps W hr (by omega) : Calls Tryd.prog 34 #[.slice A n c] W fun e w' => ∃ v', e = .returned v' ∧ PB w' v' ps ∧ W.grownBy w' none ∧ ∀ x, v'.ownBlock = some x → W.heap.size ≤ x)
  unfold sptr at hv ⊢
  go_enter Tryd.func19, Tryd.ntmps19
  go_wp2_with (first
    | (go_at_call 35; refine hv.mono ?_; rintro e w1 ⟨A, c, n, rfl, hn, hnc, hr1, hg1⟩; have HN := Lib.hid hn; clear hn)
    | (go_at_call 34; refine (hC A c n _ HN.out hr1).mono ?_; rintro e w2 ⟨v2, rfl, hp2, hg2, hf2⟩))
  go_ret2
  exact ⟨_, rfl, hp2, fun k e hk => by have := hf2 k e; have := hlt k hk; have := hg1.size; omega, grown_none hg1 hg2⟩

/-- j numbers from d + 1 on. -/
def keptL (d j : Nat) : List Int := (List.range j).map (fun i : Nat => ((d + 1 + i : Nat) : Int))
theorem kept_next (d j : Nat) : keptL d (j + 1) = keptL d j ++ [(d : Int) + 1 + (j : Int)] := by
  unfold keptL
  rw [List.range_succ, List.map_append]
  simp
theorem keptL_len (d j : Nat) : (keptL d j).length = j := by simp [keptL]

set_option maxRecDepth 100000 in
theorem Kept_any {w : World} {g : Nat} {B R : Nat → Prop} {s : Vers} (hs : SA w g B R s) :
    Calls Tryd.prog 23 #[sptr g] w fun e w' => ∃ A c, e = .returned (.slice A s.kept.length c) ∧ s.kept.length ≤ c ∧ RdAt w' A (s.kept.map iv) ∧ w.grownBy w' none := by
  obtain ⟨A, c, kv, rs, x⟩ := hs
  obtain ⟨d, hd⟩ : ∃ d, s.all.length = rs.length + d := ⟨s.all.length - rs.length, by have := x.len; omega⟩
  have hlow := lowest_any x hd
  have hl := x.len
  have hn := x.ri.2.1
  have hk : s.kept = keptL d rs.length := by
    unfold Vers.kept keptL
    rw [← hl]
    refine List.map_congr_left fun i _ => ?_
    rw [show s.all.length - rs.length + 1 + i = d + 1 + i by omega]
  have hc1 := fun W (hg : w.grownBy W none) => (x.kept hg).cell1
  rw [hk, keptL_len]
  have HK := Lib.hid hk
  obtain ⟨N, hN⟩ : ∃ N, N = (s.all.length : Int) := ⟨_, rfl⟩
  rw [← hN] at hc1
  have hNd : N = (rs.length : Int) + d := by omega
  generalize rs.length = m at *
  have HNd := Lib.hid hNd
  have hm16 : m ≤ 16 := by omega
  have hd16 : d ≤ 16 := by omega
  clear hN x hk hd hl hNd HK hn
  unfold sptr
  go_enter Tryd.func23, Tryd.ntmps23
  go_wp2_with (go_at_call 39; refine hlow.mono ?_; rintro e w1 ⟨rfl, hg1⟩)
  go_loopw [3, 4] (fun xv i wr => ∃ j : Nat, j ≤ m ∧ i = .int .i64 ((d : Int) + 1 + (j : Int)) ∧ OwnV 3 wr xv ((keptL d j).map iv) ∧ Grew w wr (.slice none 0 0) xv) (fun _ i _ => (N - intOf i + 1).toNat)
  case atStart => exact ⟨0, Nat.zero_le _, by simp, OwnV.nil _, .pre hg1 (Grew.refl _ _)⟩
  case round =>
    obtain ⟨j, hj, rfl, ho, hgr⟩ := hrel
    have hc11 := hc1 _ hgr.nil
    have hN2 := HNd.out
    by_cases hlt : j < m
    · have hle : (d : Int) + 1 + (j : Int) ≤ N := by omega
      have hw1 : IntKind.i64.wrap ((d : Int) + 1 + (j : Int) + 1) = (d : Int) + 1 + (j : Int) + 1 := IntWalk.i64_in _ ⟨by omega, by omega⟩
      have hq : ((keptL d j).map iv).length = j := by rw [List.length_map, keptL_len]
      clear hN2
      go_wp2_with (at_builtin; refine wpList_appV _ rfl _ _ 22 rfl Tryd.underlying22 info_intK rfl rfl (ho.alloc _) (news := [iv ((d : Int) + 1 + (j : Int))]) rfl rfl (rd_row (cs := [_]) (alloc_at rfl)) (by intro u hu; rw [List.mem_singleton.1 hu]; rfl) (by rw [hq]; simp; omega) (by rw [hq]; simp [maxLen]; omega) ?_)
      intro v' w' ho' hg'
      go_wp2
      go_roundw
      case rel => exact ⟨j + 1, by omega, by go_num, by rw [kept_next, List.map_append]; exact ho', (hgr.post (grown_alloc (grown_refl _ _) _)).trans hg'⟩
      case measure => simp [intOf]; omega
    · obtain rfl : j = m := by omega
      obtain ⟨A1, c1, e1, hc1', -, hr1⟩ := ho.slice
      have hq : ((keptL d j).map iv).length = j := by rw [List.length_map, keptL_len]
      rw [hq] at e1 hc1'
      subst e1
      have hgt : ¬ (d : Int) + 1 + (j : Int) ≤ N := by omega
      clear hN2
      go_wp2
      go_ret
      exact ⟨A1, c1, rfl, hc1', hr1, hgr.nil⟩

/-- What a copy's block and its row of rows make. -/
theorem SAx.copy {w w1 : World} {g : Nat} {B R : Nat → Prop} {s : Vers} {A : Option Addr} {c : Nat} {kv v1 : Value} {rs : List Rq} (x : SAx w g B R s A c kv rs) (hg : w.grownBy w1 none) (ho : OwnV 25 w1 v1 (rs.map rv)) (hf : ∀ k, v1.ownBlock = some k → w.heap.size ≤ k) {N : Int} (hN : N = s.all.length) :
    SA (w1.alloc (.cells #[.slice A s.now.length c, .int .i64 N, v1] 54)) w1.heap.size (fun k => k = w1.heap.size ∨ v1.ownBlock = some k) (fun k => (k = w1.heap.size ∨ v1.ownBlock = some k) ∨ (R k ∧ ¬ B k)) s ∧
      w.grownBy (w1.alloc (.cells #[.slice A s.now.length c, .int .i64 N, v1] 54)) none ∧
      (∀ k, (k = w1.heap.size ∨ v1.ownBlock = some k) → w.heap.size ≤ k) ∧ (∀ k, ((k = w1.heap.size ∨ v1.ownBlock = some k) ∨ (R k ∧ ¬ B k)) → R k ∨ w.heap.size ≤ k) ∧ ∀ k, B k → ¬ ((k = w1.heap.size ∨ v1.ownBlock = some k) ∨ (R k ∧ ¬ B k)) := by
  subst hN
  have hB : ∀ k, (k = w1.heap.size ∨ v1.ownBlock = some k) → w.heap.size ≤ k := fun k hk => by
    rcases hk with rfl | hk
    · exact hg.size
    · exact hf k hk
  have hGW : w.grownBy (w1.alloc (.cells #[.slice A s.now.length c, .int .i64 (s.all.length : Nat), v1] 54)) none := grown_alloc hg _
  have x1 := x.kept hGW
  have hlt : ∀ k, R k → ¬ (k = w1.heap.size ∨ v1.ownBlock = some k) := fun k hr hk => by have := x.rl k hr; have := hB k hk; omega
  refine ⟨⟨A, c, v1, rs, ?_⟩, hGW, hB, ?_, ?_⟩
  · exact {
      hg := heap_alloc_new _ _
      rn := x1.rn
      cn := x.cn
      an := fun ad e => ⟨.inr (x.an ad e), hlt _ (x.an ad e).1⟩
      ok := ho.alloc _
      bk := fun k e => ⟨.inr e, fun e2 => by have := ho.lt k e; omega⟩
      rr := fun r hr => ⟨(x1.rr r hr).1, (x.rr r hr).2.1, fun ad e => ⟨.inr ((x.rr r hr).2.2 ad e), hlt _ ((x.rr r hr).2.2 ad e).1⟩⟩
      rk := x.rk
      bg := .inl rfl
      br := fun k hk => .inl hk
      rl := fun k hk => by
        rcases hk with (rfl | hk) | hk
        · simp
        · have := ho.lt k hk; simp; omega
        · exact x1.rl k hk.1
      ri := x.ri }
  · rintro k (hk | hk)
    · exact .inr (hB k hk)
    · exact .inl hk.1
  · rintro k hb (hk | hk)
    · exact hlt k (x.br k hb) hk
    · exact hk.2 hb

set_option maxRecDepth 100000 in
set_option maxHeartbeats 2000000 in
theorem Copy_any {w : World} {g : Nat} {B R : Nat → Prop} {s : Vers} (hs : SA w g B R s) :
    Calls Tryd.prog 10 #[sptr g] w fun e w' => ∃ g' B' R', e = .returned (sptr g') ∧ SA w' g' B' R' s ∧ w.grownBy w' none ∧ (∀ x, B' x → w.heap.size ≤ x) ∧ (∀ x, R' x → R x ∨ w.heap.size ≤ x) ∧ ∀ x, B x → ¬ R' x := by
  obtain ⟨A, c, kv, rs, x⟩ := hs
  have hc := fun W (hg : w.grownBy W none) => (⟨(x.kept hg).cell0, (x.kept hg).cell1, (x.kept hg).cell2⟩ : _ ∧ _ ∧ _)
  have hC := CloneR_any kv rs w.drew (x.ok.kept (grown_drew (grown_refl _ _))) (by have := x.len; omega)
  obtain ⟨K, ck, rfl, -, -, -⟩ := x.ok.slice
  rw [List.length_map] at hC hc
  obtain ⟨c0, c1, c2⟩ := hc w.drew (grown_drew (grown_refl _ _))
  obtain ⟨N, hN⟩ : ∃ N, N = (s.all.length : Int) := ⟨_, rfl⟩
  have hN' := Lib.hid hN
  have X := Lib.hid x
  rw [← hN] at c1
  clear x hN
  unfold sptr
  go_enter Tryd.func10, Tryd.ntmps10
  go_upto_region 1 with (fail)
  go_region_with (go_at_call 29; refine hC.mono ?_; rintro e w1 ⟨v1, rfl, ho1, hg1, hf1⟩; obtain ⟨K1, ck1, e1, -, -, -⟩ := ho1.slice; rw [List.length_map] at e1; subst e1; obtain ⟨c01, c11, c21⟩ := hc _ (grown_none (grown_drew (grown_refl _ _)) hg1); rw [← hN'.out] at c11)
  all_goals
    go_wp2
    go_ret
    exact ⟨w1.heap.size, _, _, rfl, X.out.copy (grown_none (grown_drew (grown_refl _ _)) hg1) (by simpa using ho1) hf1 hN'.out⟩
end Go.Proofs.YtjdfnohlgeoniaaDoor
