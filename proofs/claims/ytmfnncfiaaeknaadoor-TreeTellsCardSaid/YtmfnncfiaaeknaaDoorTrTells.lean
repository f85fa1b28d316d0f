/- The law on roots, paths and what paths lead up to: its contract. -/
import Derived.Test.YtmfnncfiaaeknaaDoorTrKit
namespace Go.Proofs.YtmfnncfiaaeknaaDoor
open Go.RowKit

/-- Both paths, and the depth: whatever the place. -/
theorem paths_of (A : Option Addr) (ps : List Part) (c : Nat) (x : Int) (W : World) (hc : ps.length ≤ c) (h5 : ps.length ≤ 20) (hx1 : -1 ≤ x) (hx2 : x ≤ (ps.length : Int)) (hl : ∀ p ∈ ps, p.2.1.length ≤ 1000) (hk : Laid2 W) (hr : RdP W A ps) :
    ∃ (P : List UInt8) (d : Nat) (D : Int), d ≤ 500 ∧ (∀ w', W.grownBy w' none → Calls Tryd.prog 16 #[.slice A ps.length c, .int .i64 x] w' fun e w'' => PathAt w' P d e w'') ∧ (∀ w', W.grownBy w' none → Calls Tryd.prog 22 #[.slice A ps.length c, .int .i64 x] w' fun e w'' => PathAt w' P d e w'') ∧
      (∀ w', Calls Tryd.prog 20 #[.int .i64 x, .int .i64 (ps.length : Int)] w' fun e w'' => e = .returned (.int .i64 D) ∧ w'' = w') ∧ ((0 ≤ x ∧ x < (ps.length : Int)) → D = (d : Int)) ∧ (¬ (0 ≤ x ∧ x < (ps.length : Int)) → D = -1) := by
  by_cases hx : x < 0
  · exact ⟨[], 0, -1, by omega, fun w' h => Path_neg _ A c x hx w', fun w' h => RPath_neg _ A c x hx w', fun w' => Depth_no x _ (.inl hx) w', fun h => by omega, fun _ => rfl⟩
  · obtain ⟨i, rfl⟩ : ∃ i : Nat, x = (i : Int) := ⟨x.toNat, by omega⟩
    have hle := pathL_le (leavesOf ps) i
    rw [leavesOf_len] at hle
    refine ⟨(pathL (leavesOf ps) i).flatten, (pathL (leavesOf ps) i).length, if i < ps.length then (depthN i ps.length : Int) else -1, by omega, fun w' h => Path_any _ A ps c i w' rfl hc (by omega) (by omega) hl (hk.kept h) (hr.kept h), fun w' h => RPath_any _ A ps c i w' rfl hc (by omega) (by omega) hl (hr.kept h), fun w' => ?_, fun h => ?_, fun h => ?_⟩
    · by_cases hi : i < ps.length
      · rw [if_pos hi]; exact Depth_any i _ hi (by omega) w'
      · rw [if_neg hi]; exact Depth_no _ _ (by omega) w'
    · have hi : i < ps.length := by omega
      rw [if_pos hi, pathL_len _ _ (by rw [leavesOf_len]; exact hi), leavesOf_len]
    · rw [if_neg (by omega)]
/-- What both say that a path leads up to. -/
theorem ups_of (x y : Int) (m : Nat) (Q : List UInt8) (hx : x ≤ 9) (hy : y ≤ 9) (hm : m ≤ 6) (hQ : Q.length = m * 32) :
    ∃ (U : List UInt8) (ok : Bool), U.length = 32 ∧ (ok = false → U = zeroH) ∧
      (∀ A' B cq w', RdB w' A' [108, 101, 97, 102] → RdB w' B Q → (m = 0 ∨ ∃ g, B = some ⟨g, 0, none⟩) → m ≤ cq → Laid2 w' → Calls Tryd.prog 17 #[.slice A' 4 4, .int .i64 x, .int .i64 y, .slice B m cq] w' fun e w'' => e = .returned (.tuple #[.agg (U.map bv).toArray, .bool ok]) ∧ w'.grownBy w'' none) ∧
      (∀ A' B cq w', RdB w' A' [108, 101, 97, 102] → RdB w' B Q → (m = 0 ∨ ∃ g, B = some ⟨g, 0, none⟩) → m ≤ cq → Calls Tryd.prog 23 #[.slice A' 4 4, .int .i64 x, .int .i64 y, .slice B m cq] w' fun e w'' => ∃ Z : List UInt8, Z.length = 32 ∧ (ok = true → Z = U) ∧ e = .returned (.tuple #[.agg (Z.map bv).toArray, .bool ok]) ∧ w'.grownBy w'' none) := by
  by_cases hv : 0 ≤ x ∧ x < y
  · obtain ⟨i, rfl⟩ : ∃ i : Nat, x = (i : Int) := ⟨x.toNat, by omega⟩
    obtain ⟨n, rfl⟩ : ∃ n : Nat, y = (n : Int) := ⟨y.toNat, by omega⟩
    have hin : i < n := by omega
    by_cases hd : m = depthN i n
    · refine ⟨upL [108, 101, 97, 102] i n Q m, true, upL_len _ _ _ _ _, (fun h => by cases h), fun A' B cq w' h1 h2 h3 h4 h5 => Up_any A' [108, 101, 97, 102] 4 (by decide) i n m B Q cq w' hin (by omega) hd h3 hQ h4 h1 h2 h5, fun A' B cq w' h1 h2 h3 h4 => ?_⟩
      refine (RUp_any A' [108, 101, 97, 102] 4 (by decide) n i m B Q cq w' hin (by omega) (by omega) h3 hQ h4 h1 h2).mono ?_
      rintro e w'' ⟨Z, hZ, hZu, rfl, hg⟩
      exact ⟨Z, hZ, fun _ => hZu hd, by rw [decide_eq_true hd], hg⟩
    · refine ⟨zeroH, false, zeroH_len, fun _ => rfl, fun A' B cq w' h1 h2 h3 h4 h5 => Up_no A' 4 4 i n B m cq (depthN i n) (fun w => Depth_any i n hin (by omega) w) (by omega) w', fun A' B cq w' h1 h2 h3 h4 => ?_⟩
      refine (RUp_any A' [108, 101, 97, 102] 4 (by decide) n i m B Q cq w' hin (by omega) (by omega) h3 hQ h4 h1 h2).mono ?_
      rintro e w'' ⟨Z, hZ, hZu, rfl, hg⟩
      exact ⟨Z, hZ, (fun h => by cases h), by rw [decide_eq_false hd], hg⟩
  · refine ⟨zeroH, false, zeroH_len, fun _ => rfl, fun A' B cq w' h1 h2 h3 h4 h5 => Up_no A' 4 4 x y B m cq (-1) (fun w => Depth_no x y (by omega) w) (by omega) w', fun A' B cq w' h1 h2 h3 h4 => ?_⟩
    refine (RUp_no A' 4 4 x y B m cq (by omega) w').mono ?_
    rintro e w'' ⟨rfl, hg⟩
    exact ⟨zeroH, zeroH_len, (fun h => by cases h), rfl, hg⟩

set_option maxRecDepth 100000 in
set_option maxHeartbeats 4000000 in
theorem TreeTells_any (A0 : Option Addr) (L0 : List (List UInt8)) (c0 : Nat) (n1 : Int) (A2 : Option Addr) (l2 : List UInt8) (k2 c2 : Nat) (n3 n4 : Int) (W0 : World) (hk : Laid2 W0) (hr : RdS W0 A0 L0) (hc2 : k2 ≤ c2) (hl2 : l2.length = k2 * 32) (hr2 : RdB W0 A2 l2) :
    Calls Tryd.prog 5 #[.slice A0 L0.length c0, .int .i64 n1, .slice A2 k2 c2, .int .i64 n3, .int .i64 n4] W0 fun e w' => e = .returned (.bool true) ∧ W0.grownBy w' none := by
  have hrow : ∀ w', RdS w' A0 L0 → Calls Tryd.prog 21 #[.slice A0 L0.length c0, .int .i64 20] w' _ := fun w' h => rows_any A0 L0 c0 20 (by decide) w' h
  obtain ⟨m, hmin0, hm1, hm6⟩ := min_some k2 6
  obtain ⟨Q, hQ0⟩ : ∃ Q, Q = l2.take (m * 32) := ⟨_, rfl⟩
  have hQl : Q.length = m * 32 := by rw [hQ0, List.length_take]; omega
  have hrQ : RdB W0 A2 Q := by rw [hQ0]; exact rd_takeB hr2 _
  obtain ⟨x, hx1, hx2, hWx⟩ := Within_m1 n3 9 (by omega) (by omega)
  obtain ⟨y, hy1, hy2, hWy⟩ := Within_m1 n4 9 (by omega) (by omega)
  obtain ⟨U, ok, hUl0, hUz, hup, hru⟩ := ups_of x y m Q hx2 hy2 hm6 hQl
  have hUl := Lib.hid hUl0
  have hmc : m ≤ c2 := by omega
  clear hQ0 hr2 hl2 hUl0
  go_enter Tryd.func5, Tryd.ntmps5
  go_upto_region 2 with (go_at_call 21; refine (hrow _ hr).mono ?_; rintro e W ⟨A, ps, c, rfl, hc, hrP, hL, hgW⟩)
  have hps := congrArg List.length hL
  rw [leavesOf_len, List.length_map, List.length_take] at hps
  have hN20 : ps.length ≤ 20 := by omega
  have hpl : ∀ p ∈ ps, p.2.1.length ≤ 1000 := by
    intro p hp
    have h2 : p.2.1 ∈ leavesOf ps := List.mem_map.2 ⟨p, hp, rfl⟩
    rw [hL] at h2
    obtain ⟨s, _, e⟩ := List.mem_map.1 h2
    rw [← e, List.length_take]; omega
  replace hk := hk.kept hgW
  replace hrQ := hrQ.kept hgW
  obtain ⟨xk, hk1, hk2, hWk⟩ := Within_m1 n1 (ps.length : Int) (by omega) (by omega)
  obtain ⟨P, d, D, hd5, hpa, hpr, hdep, hDy, hDn⟩ := paths_of A ps c xk W hc hN20 hk1 hk2 hpl hk hrP
  have hroT := fun w' (h : W.grownBy w' none) => Root_any ps.length A ps c w' rfl hc (by omega) hpl (hk.kept h) (hrP.kept h)
  have hroR := fun w' (h : W.grownBy w' none) => RRoot_any ps.length A ps c w' rfl hc (by omega) hpl (hrP.kept h)
  obtain ⟨R, hR⟩ : ∃ R, R = rootL (leavesOf ps) := ⟨_, rfl⟩
  have hRl : Hid (R.length = 32) := by rw [hR]; exact rootL_len _
  rw [← hR] at hroT hroR
  obtain ⟨N, hN⟩ : ∃ N, N = ps.length := ⟨_, rfl⟩
  rw [← hN] at hWk hpa hpr hdep hDy hDn hroT hroR hc hN20 hk2 ⊢
  clear hR hN hps hL hpl hrP hrow hr
  obtain ⟨C, hco, hmx⟩ : ∃ C : Int, (∀ w, Calls Tryd.prog 18 #[.int .i64 (N : Int)] w fun e w' => e = .returned (.int .i64 C) ∧ w' = w) ∧ (if 2 * (N : Int) - 1 < 1 then (1 : Int) else 2 * (N : Int) - 1) = C := by
    rcases Nat.eq_zero_or_pos N with rfl | h
    · exact ⟨1, fun w => Cost_0 w, by simp⟩
    · refine ⟨2 * (N : Int) - 1, fun w => Cost_n N h (by omega) w, ?_⟩
      by_cases h1 : 2 * (N : Int) - 1 < 1
      · rw [if_pos h1]; omega
      · rw [if_neg h1]
  have HMX := Lib.hid hmx
  clear hmx
  have hmin : (if ((6 : Int) < (k2 : Int)) then (6 : Int) else (k2 : Int)) = (m : Int) := hmin0
  clear hmin0
  go_upto_region 7 with (first
    | (go_at_call 12; refine (hWk _).mono ?_; clear hWk; rintro e w1 ⟨rfl, rfl⟩)
    | (go_at_call 12; refine (hWx _).mono ?_; clear hWx; rintro e w1 ⟨rfl, rfl⟩)
    | (go_at_call 12; refine (hWy _).mono ?_; clear hWy; rintro e w1 ⟨rfl, rfl⟩)
    | (go_at_call 16; refine (hpa _ (grown_refl _ _)).mono ?_; clear hpa; rintro e w3 ⟨vp, rfl, hop, hg3, hn3, hl3⟩; obtain ⟨Ap, cp, rfl, hcp, hrp, -, hgp⟩ := hop.form; have hPl := hop.len; clear hop hn3 hl3)
    | (go_at_call 22; refine (hpr _ hg3).mono ?_; clear hpr; rintro e w4 ⟨vo, rfl, hoo, hg4, hn4, hl4⟩; obtain ⟨Ao, co, rfl, hco1, hro, -, hgo⟩ := hoo.form; clear hoo hn4 hl4)
    | (at_builtin; refine wpList_appHr rfl _ _ rfl rfl (ownH_new _) rfl (((hrQ.kept hg3).kept hg4).alloc _) hQl (by omega) ?_; intro vq w5 hoq hgrq; rw [List.nil_append, Nat.zero_add] at hoq; obtain ⟨B, cq, rfl, hcq, hrB, hB1, -⟩ := hoq.form; have hg5 := (Grew.fresh hgrq).nil; clear hoq hgrq)
    | (refine wpList_leaf rfl _ rfl rfl ?_; intro wl hgl hbl)
    | (go_at_call 17; refine (hup _ _ _ _ hbl (hrB.kept hgl) hB1 hcq ((((hk.kept hg3).kept hg4).kept hg5).kept hgl)).mono ?_; clear hup; rintro e w6 ⟨rfl, hg6⟩)
    | (refine wpList_store_row rfl 23 _ _ rfl (w6.heap.size) (U.map bv).toArray rfl rfl 23 _ (alloc_at rfl) (hashV_size U hUl.out) (by rw [show (U.map bv).toArray.size = 32 from by rw [List.size_toArray, List.length_map, hUl.out]]; rfl) (bv_all' _) ?_; generalize hw9 : World.setRow _ _ _ = V; have HV := new_hash hw9; clear hw9))
  have hGV : W.grownBy V none := grown_same (grown_same (grown_same (grown_same hg3 hg4) hg5) hgl) (grown_same hg6 HV.2)
  replace hrB := ((hrB.kept hgl).kept hg6).kept HV.2
  replace hrp := ((((hrp.kept hg4).kept hg5).kept hgl).kept hg6).kept HV.2
  replace hro := (((hro.kept hg5).kept hgl).kept hg6).kept HV.2
  have h18 := HV.1
  clear HV hg3 hg4 hg5 hg6 hgl hbl
  generalize w6.heap.size = b18 at h18 ⊢
  go_upto_region 8 with (first
    | (refine wpList_leaf rfl _ rfl rfl ?_; intro wl hgl hbl)
    | (go_at_call 23; refine (hru _ _ _ _ hbl (hrB.kept hgl) hB1 hcq).mono ?_; clear hru; rintro e w7 ⟨Z, hZ0, hZu, rfl, hg7⟩; have hZl := Lib.hid hZ0; have HZU := Lib.hid hZu; clear hZ0 hZu)
    | (refine wpList_store_row rfl 23 _ _ rfl (w7.heap.size) (Z.map bv).toArray rfl rfl 23 _ (alloc_at rfl) (hashV_size Z hZl.out) (by rw [show (Z.map bv).toArray.size = 32 from by rw [List.size_toArray, List.length_map, hZl.out]]; rfl) (bv_all' _) ?_; generalize hw9 : World.setRow _ _ _ = X; have HX := new_hash hw9; clear hw9))
  have hGX : W.grownBy X none := grown_same hGV (grown_same hgl (grown_same hg7 HX.2))
  have hlt18 := lt_of_heap (keep_of (keep_of h18 hgl) hg7)
  replace h18 := keep_of (keep_of (keep_of h18 hgl) hg7) HX.2
  have hrp7 := (hrp.kept hgl).kept hg7
  have hro7 := (hro.kept hgl).kept hg7
  have hG7 : W.grownBy w7 none := grown_same hGV (grown_same hgl hg7)
  replace hrp := ((hrp.kept hgl).kept hg7).kept HX.2
  replace hro := ((hro.kept hgl).kept hg7).kept HX.2
  have h20 := HX.1
  clear HX hgl hbl hg7 hrB hB1 hcq hGV
  have hne : b18 ≠ w7.heap.size := by omega
  clear hlt18
  have hpn : ∀ g, 0 < d → Ap = some ⟨g, 0, none⟩ → g ≠ w7.heap.size := fun g h e => by
    have h1 : g < w7.heap.size := RdAt.lt hrp7 (by intro e2; have := congrArg List.length e2; rw [List.length_map, hPl] at this; simp at this; omega) _ e
    omega
  have hon : ∀ g, 0 < d → Ao = some ⟨g, 0, none⟩ → g ≠ w7.heap.size := fun g h e => by
    have h1 : g < w7.heap.size := RdAt.lt hro7 (by intro e2; have := congrArg List.length e2; rw [List.length_map, hPl] at this; simp at this; omega) _ e
    omega
  have hge20 : W.heap.size ≤ w7.heap.size := hG7.size
  clear hrp7 hro7 hG7
  generalize w7.heap.size = b20 at h20 hne hpn hon hge20 ⊢
  have heU : ∀ w, (binOp .eql 23 (.agg (U.map bv).toArray) (.agg (U.map bv).toArray)).run Tryd.prog w = .ok (.bool true) w := fun w => eqlH_same U hUl.out w
  have heR : ∀ w, (binOp .eql 23 (.agg (R.map bv).toArray) (.agg (R.map bv).toArray)).run Tryd.prog w = .ok (.bool true) w := fun w => eqlH_same R hRl.out w
  have hmx := HMX.out
  have hgp' : d = 0 ∨ ∃ g, Ap = some ⟨g, 0, none⟩ ∧ g ≠ b20 := by
    rcases Nat.eq_zero_or_pos d with h | h
    · exact .inl h
    · obtain ⟨g, rfl⟩ := hgp h
      exact .inr ⟨g, rfl, hpn g (by omega) rfl⟩
  have hgo' : d = 0 ∨ ∃ g, Ao = some ⟨g, 0, none⟩ ∧ g ≠ b20 := by
    rcases Nat.eq_zero_or_pos d with h | h
    · exact .inl h
    · obtain ⟨g, rfl⟩ := hgo h
      exact .inr ⟨g, rfl, hon g (by omega) rfl⟩
  clear hpn hon
  cases ok
  · have hU0 := hUz rfl
    have hsz : Hid ((Tryd.prog.info? 23).map (·.size) = some (rowH []).size) := by show _ = _; rw [rowH_size _ (by simp)]; exact size_hash
    have hal : Hid ((rowH []).all (·.oneCell') = true) := by show _ = _; rw [rowZ]; exact bv_all' _
    have hzs : Hid ((Z.map bv).toArray.size = (rowH []).size) := by show _ = _; rw [rowH_size _ (by simp), List.size_toArray, List.length_map, hZl.out]
    have hUr : Hid ((rowH []) = (U.map bv).toArray) := by show _ = _; rw [hU0]; exact rowZ
    clear hU0 hUz
    go_upto_region 10 with (refine wpList_store_row rfl 23 _ _ rfl b20 (rowH []) rfl rfl 23 _ h20 hsz.out hzs.out hal.out ?_; generalize hw8 : World.setRow _ _ _ = Y)
    have h20' : Y.heap[b20]? = some (.cells (rowH []) 23 (0, 0)) := by rw [← hw8]; exact setRow_heap _ _ _ _ _ _ h20
    have h18' : Y.heap[b18]? = some (.cells (U.map bv).toArray 23 (0, 0)) := by rw [← hw8]; exact (setRow_other _ _ _ _ hne).trans h18
    have hgY : X.grownBy Y (some b20) := by rw [← hw8]; exact grown_setRow (grown_refl _ _) (.inl rfl) _
    have hGY : W.grownBy Y none := grown_trans hGX hgY (.inr fun g e => by cases e; exact hge20)
    have hrp2 : RdB Y Ap P := by
      rcases hgp' with rfl | ⟨g, rfl, hg⟩
      · rw [show P = [] from List.eq_nil_of_length_eq_zero (by omega)]; exact RdAt.nil
      · exact hrp.keep hgY fun ad e => by cases e; simpa using hg
    have hro2 : RdB Y Ao P := by
      rcases hgo' with rfl | ⟨g, rfl, hg⟩
      · rw [show P = [] from List.eq_nil_of_length_eq_zero (by omega)]; exact RdAt.nil
      · exact hro.keep hgY fun ad e => by cases e; simpa using hg
    rw [hUr.out] at h20'
    clear hw8 h20 h18 hUr hrp hro hne hgY
    have hsame := fun w' (h : Y.grownBy w' none) => SameP_any Ap Ao d cp co P (by omega) hPl w' (hrp2.kept h) (hro2.kept h) hgp hgo
    replace hroT := fun w' (h : Y.grownBy w' none) => hroT w' (grown_same hGY h)
    replace hroR := fun w' (h : Y.grownBy w' none) => hroR w' (grown_same hGY h)
    replace hk := hk.kept hGY
    have hgX := grown_same hgW hGY
    have h18 := h18'
    have h20 := h20'
    clear hrp2 hro2 hgp hgo hGX hGY hgW h18' h20' hgp' hgo' hge20
    by_cases hx0 : xk < 0
    · have hD1 := hDn (by omega)
      subst hD1
      have hx0' : ¬ (0 : Int) ≤ xk := by omega
      clear hDn hDy hx0
      go_wp2_with (first
        | (go_at_call 19; refine (hroT _ (grown_refl _ _)).mono ?_; clear hroT; rintro e w1 ⟨rfl, hg1⟩)
        | (go_at_call 24; refine (hroR _ hg1).mono ?_; clear hroR; rintro e w2 ⟨rfl, hg2⟩; have hG2 := grown_same hg1 hg2)
        | (go_at_call 25; refine (hsame _ hG2).mono ?_; clear hsame; rintro e w3 ⟨rfl, hg3⟩; have hG3 := grown_same hG2 hg3; have k18 := keep_of h18 hG3; have k20 := keep_of h20 hG3)
        | (refine wpList_load_row_g (by rfl) 23 _ rfl b18 rfl _ (U.map bv).toArray (0, 0) _ k18 Tryd.underlying23 rfl (hashV_size U hUl.out) ?_)
        | (refine wpList_load_row_g (by rfl) 23 _ rfl b20 rfl _ (U.map bv).toArray (0, 0) _ k20 Tryd.underlying23 rfl (hashV_size U hUl.out) ?_)
        | (go_at_call 20; refine (hdep _).mono ?_; clear hdep; rintro e w4 ⟨rfl, h4w⟩; obtain rfl : w3 = w4 := h4w.symm)
        | (go_at_call 18; refine (hco _).mono ?_; clear hco; rintro e w4 ⟨rfl, h4w⟩; obtain rfl : w3 = w4 := h4w.symm)
        | (go_at_call 4; refine (TreeRuns_any _ (hk.kept hG3)).mono ?_; rintro e w5 ⟨rfl, hg5⟩))
      go_ret
      exact ⟨rfl, grown_same hgX (grown_same hG3 hg5)⟩
    have hx0' : (0 : Int) ≤ xk := by omega
    by_cases hx1 : xk < (N : Int)
    · have hD1 := hDy ⟨hx0', hx1⟩
      subst hD1
      clear hDn hDy hx0
      go_wp2_with (first
        | (go_at_call 19; refine (hroT _ (grown_refl _ _)).mono ?_; clear hroT; rintro e w1 ⟨rfl, hg1⟩)
        | (go_at_call 24; refine (hroR _ hg1).mono ?_; clear hroR; rintro e w2 ⟨rfl, hg2⟩; have hG2 := grown_same hg1 hg2)
        | (go_at_call 25; refine (hsame _ hG2).mono ?_; clear hsame; rintro e w3 ⟨rfl, hg3⟩; have hG3 := grown_same hG2 hg3; have k18 := keep_of h18 hG3; have k20 := keep_of h20 hG3)
        | (refine wpList_load_row_g (by rfl) 23 _ rfl b18 rfl _ (U.map bv).toArray (0, 0) _ k18 Tryd.underlying23 rfl (hashV_size U hUl.out) ?_)
        | (refine wpList_load_row_g (by rfl) 23 _ rfl b20 rfl _ (U.map bv).toArray (0, 0) _ k20 Tryd.underlying23 rfl (hashV_size U hUl.out) ?_)
        | (go_at_call 20; refine (hdep _).mono ?_; clear hdep; rintro e w4 ⟨rfl, h4w⟩; obtain rfl : w3 = w4 := h4w.symm)
        | (go_at_call 18; refine (hco _).mono ?_; clear hco; rintro e w4 ⟨rfl, h4w⟩; obtain rfl : w3 = w4 := h4w.symm)
        | (go_at_call 4; refine (TreeRuns_any _ (hk.kept hG3)).mono ?_; rintro e w5 ⟨rfl, hg5⟩))
      go_ret
      exact ⟨rfl, grown_same hgX (grown_same hG3 hg5)⟩
    · have hD1 := hDn (by omega)
      subst hD1
      clear hDn hDy hx0
      go_wp2_with (first
        | (go_at_call 19; refine (hroT _ (grown_refl _ _)).mono ?_; clear hroT; rintro e w1 ⟨rfl, hg1⟩)
        | (go_at_call 24; refine (hroR _ hg1).mono ?_; clear hroR; rintro e w2 ⟨rfl, hg2⟩; have hG2 := grown_same hg1 hg2)
        | (go_at_call 25; refine (hsame _ hG2).mono ?_; clear hsame; rintro e w3 ⟨rfl, hg3⟩; have hG3 := grown_same hG2 hg3; have k18 := keep_of h18 hG3; have k20 := keep_of h20 hG3)
        | (refine wpList_load_row_g (by rfl) 23 _ rfl b18 rfl _ (U.map bv).toArray (0, 0) _ k18 Tryd.underlying23 rfl (hashV_size U hUl.out) ?_)
        | (refine wpList_load_row_g (by rfl) 23 _ rfl b20 rfl _ (U.map bv).toArray (0, 0) _ k20 Tryd.underlying23 rfl (hashV_size U hUl.out) ?_)
        | (go_at_call 20; refine (hdep _).mono ?_; clear hdep; rintro e w4 ⟨rfl, h4w⟩; obtain rfl : w3 = w4 := h4w.symm)
        | (go_at_call 18; refine (hco _).mono ?_; clear hco; rintro e w4 ⟨rfl, h4w⟩; obtain rfl : w3 = w4 := h4w.symm)
        | (go_at_call 4; refine (TreeRuns_any _ (hk.kept hG3)).mono ?_; rintro e w5 ⟨rfl, hg5⟩))
      go_ret
      exact ⟨rfl, grown_same hgX (grown_same hG3 hg5)⟩

  · obtain rfl : U = Z := (HZU.out rfl).symm
    clear hUz HZU
    replace hpr := hrp
    have hsame := fun w' (h : X.grownBy w' none) => SameP_any Ap Ao d cp co P (by omega) hPl w' (hrp.kept h) (hro.kept h) hgp hgo
    replace hroT := fun w' (h : X.grownBy w' none) => hroT w' (grown_same hGX h)
    replace hroR := fun w' (h : X.grownBy w' none) => hroR w' (grown_same hGX h)
    replace hk := hk.kept hGX
    have hgX := grown_same hgW hGX
    clear hrp hro hpr hgp hgo hGX hgW hne hgp' hgo' hge20
    by_cases hx0 : xk < 0
    · have hD1 := hDn (by omega)
      subst hD1
      have hx0' : ¬ (0 : Int) ≤ xk := by omega
      clear hDn hDy hx0
      go_wp2_with (first
        | (go_at_call 19; refine (hroT _ (grown_refl _ _)).mono ?_; clear hroT; rintro e w1 ⟨rfl, hg1⟩)
        | (go_at_call 24; refine (hroR _ hg1).mono ?_; clear hroR; rintro e w2 ⟨rfl, hg2⟩; have hG2 := grown_same hg1 hg2)
        | (go_at_call 25; refine (hsame _ hG2).mono ?_; clear hsame; rintro e w3 ⟨rfl, hg3⟩; have hG3 := grown_same hG2 hg3; have k18 := keep_of h18 hG3; have k20 := keep_of h20 hG3)
        | (refine wpList_load_row_g (by rfl) 23 _ rfl b18 rfl _ (U.map bv).toArray (0, 0) _ k18 Tryd.underlying23 rfl (hashV_size U hUl.out) ?_)
        | (refine wpList_load_row_g (by rfl) 23 _ rfl b20 rfl _ (U.map bv).toArray (0, 0) _ k20 Tryd.underlying23 rfl (hashV_size U hUl.out) ?_)
        | (go_at_call 20; refine (hdep _).mono ?_; clear hdep; rintro e w4 ⟨rfl, h4w⟩; obtain rfl : w3 = w4 := h4w.symm)
        | (go_at_call 18; refine (hco _).mono ?_; clear hco; rintro e w4 ⟨rfl, h4w⟩; obtain rfl : w3 = w4 := h4w.symm)
        | (go_at_call 4; refine (TreeRuns_any _ (hk.kept hG3)).mono ?_; rintro e w5 ⟨rfl, hg5⟩))
      go_ret
      exact ⟨rfl, grown_same hgX (grown_same hG3 hg5)⟩
    have hx0' : (0 : Int) ≤ xk := by omega
    by_cases hx1 : xk < (N : Int)
    · have hD1 := hDy ⟨hx0', hx1⟩
      subst hD1
      clear hDn hDy hx0
      go_wp2_with (first
        | (go_at_call 19; refine (hroT _ (grown_refl _ _)).mono ?_; clear hroT; rintro e w1 ⟨rfl, hg1⟩)
        | (go_at_call 24; refine (hroR _ hg1).mono ?_; clear hroR; rintro e w2 ⟨rfl, hg2⟩; have hG2 := grown_same hg1 hg2)
        | (go_at_call 25; refine (hsame _ hG2).mono ?_; clear hsame; rintro e w3 ⟨rfl, hg3⟩; have hG3 := grown_same hG2 hg3; have k18 := keep_of h18 hG3; have k20 := keep_of h20 hG3)
        | (refine wpList_load_row_g (by rfl) 23 _ rfl b18 rfl _ (U.map bv).toArray (0, 0) _ k18 Tryd.underlying23 rfl (hashV_size U hUl.out) ?_)
        | (refine wpList_load_row_g (by rfl) 23 _ rfl b20 rfl _ (U.map bv).toArray (0, 0) _ k20 Tryd.underlying23 rfl (hashV_size U hUl.out) ?_)
        | (go_at_call 20; refine (hdep _).mono ?_; clear hdep; rintro e w4 ⟨rfl, h4w⟩; obtain rfl : w3 = w4 := h4w.symm)
        | (go_at_call 18; refine (hco _).mono ?_; clear hco; rintro e w4 ⟨rfl, h4w⟩; obtain rfl : w3 = w4 := h4w.symm)
        | (go_at_call 4; refine (TreeRuns_any _ (hk.kept hG3)).mono ?_; rintro e w5 ⟨rfl, hg5⟩))
      go_ret
      exact ⟨rfl, grown_same hgX (grown_same hG3 hg5)⟩
    · have hD1 := hDn (by omega)
      subst hD1
      clear hDn hDy hx0
      go_wp2_with (first
        | (go_at_call 19; refine (hroT _ (grown_refl _ _)).mono ?_; clear hroT; rintro e w1 ⟨rfl, hg1⟩)
        | (go_at_call 24; refine (hroR _ hg1).mono ?_; clear hroR; rintro e w2 ⟨rfl, hg2⟩; have hG2 := grown_same hg1 hg2)
        | (go_at_call 25; refine (hsame _ hG2).mono ?_; clear hsame; rintro e w3 ⟨rfl, hg3⟩; have hG3 := grown_same hG2 hg3; have k18 := keep_of h18 hG3; have k20 := keep_of h20 hG3)
        | (refine wpList_load_row_g (by rfl) 23 _ rfl b18 rfl _ (U.map bv).toArray (0, 0) _ k18 Tryd.underlying23 rfl (hashV_size U hUl.out) ?_)
        | (refine wpList_load_row_g (by rfl) 23 _ rfl b20 rfl _ (U.map bv).toArray (0, 0) _ k20 Tryd.underlying23 rfl (hashV_size U hUl.out) ?_)
        | (go_at_call 20; refine (hdep _).mono ?_; clear hdep; rintro e w4 ⟨rfl, h4w⟩; obtain rfl : w3 = w4 := h4w.symm)
        | (go_at_call 18; refine (hco _).mono ?_; clear hco; rintro e w4 ⟨rfl, h4w⟩; obtain rfl : w3 = w4 := h4w.symm)
        | (go_at_call 4; refine (TreeRuns_any _ (hk.kept hG3)).mono ?_; rintro e w5 ⟨rfl, hg5⟩))
      go_ret
      exact ⟨rfl, grown_same hgX (grown_same hG3 hg5)⟩

end Go.Proofs.YtmfnncfiaaeknaaDoor
