/- ProveHolds. -/
import Derived.Test.YtpeepiboocdnaaaDoorPvL
import Derived.Test.YtpeepiboocdnaaaDoorPvB
import Derived.Test.YtpeepiboocdnaaaDoorPvS
import Derived.Test.YtpeepiboocdnaaaDoorKO
import Derived.Test.YtpeepiboocdnaaaDoorKJ
import Derived.Test.YtpeepiboocdnaaaDoorKF
import Derived.Deep.DeepCutAuto
namespace Go.Proofs.YtpeepiboocdnaaaDoor
open Go.RowKit

/-- A range's proof: from the neighbour below to the neighbour above. -/
theorem coverL_form {ps : List Kv} (hs : Rises ps) {x y : List UInt8} (h : kl y x = false) : ∃ f m, f = lowN ps x - 1 ∧ f + m = max f (min (lowN ps y + 1) ps.length) ∧ lowN ps x ≤ lowN ps y ∧ f + m ≤ ps.length ∧ (coverL ps x y).count = (ps.length : Nat) ∧ (coverL ps x y).first = (f : Nat) ∧ (coverL ps x y).pairs = (ps.drop f).take m ∧ (coverL ps x y).paths = pathsB ps f m ∧ (coverL ps x y).pairs.length = m ∧ (coverL ps x y).paths.length = m := by
  have hab := low_mono hs h
  have hbn := lowN_le ps y
  refine ⟨lowN ps x - 1, min (lowN ps y + 1) ps.length - (lowN ps x - 1), rfl, by omega, hab, by omega, ?_⟩
  have hc : coverL ps x y = someL ps (lowN ps x - 1) (min (lowN ps y + 1) ps.length) := by unfold coverL; rw [Nat.max_eq_right hab]
  rw [hc]
  by_cases hlt : lowN ps x - 1 < min (lowN ps y + 1) ps.length
  · obtain ⟨h1, h2, h3, h4, h5, h6⟩ := someL_some (ps := ps) hlt (by omega)
    exact ⟨h1, h2, h3, h4, h5, h6⟩
  · have e0 : lowN ps x - 1 = 0 := by omega
    rw [someL_none hlt, e0, show min (lowN ps y + 1) ps.length - 0 = 0 by omega]
    exact ⟨rfl, rfl, rfl, rfl, rfl, rfl⟩

def phaS (t : Nat) : Bool := t == 71 || t == 72 || t == 73 || t == 74 || t == 75 || t == 76 || t == 77 || t == 78 || t == 79 || t == 80 || t == 81 || t == 82 || t == 83 || t == 84 || t == 85 || t == 86 || t == 87 || t == 88 || t == 89 || t == 90 || t == 91 || t == 92 || t == 93 || t == 94
def phaDie (_ : Nat) : Nat := 99
def phaOwn (_ : Nat) : Bool := false
def phaAl (k : Nat) : Bool := k == 0 || k == 11 || k == 14 || k == 15 || k == 16 || k == 21
def phaF (Aa : Option Addr) (adl b10 : Addr) (cl d10 n m f k na ca g10 : Nat) (ps : List Kv) (q : Kv) : Nat → Value → World → Prop
  | 0 => fun v _ => v = .slice (some adl) n cl
  | 1 => fun v _ => v = .pointer (some ⟨g10, 1, none⟩)
  | 2 => fun v _ => v = .int .i64 (f : Int)
  | 3 => fun v _ => v = .int .i64 (k : Int)
  | 4 => fun v _ => v = .int .i64 ((f : Int) + (k : Int))
  | 5 => fun v _ => v = .pointer (some (adl.add ((f + k) * 2)))
  | 6 => fun v _ => v = .agg #[.string ⟨q.1.toArray⟩, .string ⟨q.2.toArray⟩]
  | 7 => fun v _ => v = (.agg #[.string ⟨q.1.toArray⟩, .string ⟨q.2.toArray⟩])
  | 8 => fun v _ => v = .bool false
  | 9 => fun v _ => v = .bool false
  | 10 => fun v _ => v = .pointer (some ⟨g10, 3, none⟩)
  | 11 => fun v _ => v = .slice (some b10) m d10
  | 12 => fun v _ => v = .int .i64 (k : Int)
  | 13 => fun v _ => v = .pointer (some (b10.add k))
  | 14 => fun v _ => v = .slice Aa na ca
  | 15 => fun v _ => v = .slice (some adl) n cl
  | 16 => fun v w => ∃ (A' : Option Addr) (qs : List Part) (c' : Nat), v = .slice A' n c' ∧ n ≤ c' ∧ RdP w A' qs ∧ leavesOf qs = leavesL ps
  | 17 => fun v _ => v = .pointer (some ⟨g10, 1, none⟩)
  | 18 => fun v _ => v = .int .i64 (f : Int)
  | 19 => fun v _ => v = .int .i64 (k : Int)
  | 20 => fun v _ => v = .int .i64 ((f : Int) + (k : Int))
  | 21 => fun v w => ∃ r : Ph, v = hv r ∧ Ph.ok w r ∧ r.2.1 = pathB ps (f + k)
  | 22 => fun v _ => v = .bool true
  | 23 => fun v _ => v = .bool false
  | _ => fun _ _ => True
theorem phaF_lasts (Aa : Option Addr) (adl b10 : Addr) (cl d10 n m f k na ca g10 : Nat) (ps : List Kv) (q : Kv) : ∀ kq, LastsK phaAl true kq (phaF Aa adl b10 cl d10 n m f k na ca g10 ps q kq)
  | 0 => LastsK.val _
  | 1 => LastsK.val _
  | 2 => LastsK.val _
  | 3 => LastsK.val _
  | 4 => LastsK.val _
  | 5 => LastsK.val _
  | 6 => LastsK.val _
  | 7 => LastsK.val _
  | 8 => LastsK.val _
  | 9 => LastsK.val _
  | 10 => LastsK.val _
  | 11 => LastsK.val _
  | 12 => LastsK.val _
  | 13 => LastsK.val _
  | 14 => LastsK.val _
  | 15 => LastsK.val _
  | 16 => LastsK.calm fun _ _ _ ⟨A', qs, c', e, h1, h2, h3⟩ hg => ⟨A', qs, c', e, h1, h2.kept hg, h3⟩
  | 17 => LastsK.val _
  | 18 => LastsK.val _
  | 19 => LastsK.val _
  | 20 => LastsK.val _
  | 21 => LastsK.calm fun _ _ _ ⟨r, e, h1, h2⟩ hg => ⟨r, e, h1.kept hg, h2⟩
  | 22 => LastsK.val _
  | 23 => LastsK.val _
  | _ + 24 => fun _ _ _ _ _ _ _ _ => trivial

set_option maxRecDepth 100000 in
set_option maxHeartbeats 2000000 in
theorem ProveHolds_any (K : ProveK) (A0 : Option Addr) (c0 : Nat) (ns : List Int) (n1 n2 : Int) (w : World) (hk : Laid2 w) (hr : RdI w A0 ns) :
    Calls Tryd.prog 5 #[.slice A0 ns.length c0, .int .i64 n1, .int .i64 n2] w fun e w' => e = .returned (.bool true) ∧ w.grownBy w' none := by
  have kp := Pairs_any A0 c0 ns w hr
  obtain ⟨x, hx, kx⟩ := KKey_any n1
  obtain ⟨y, hy, ky⟩ := KKey_any n2
  generalize ns.length = N0 at *
  go_enter Tryd.func5, Tryd.ntmps5
  go_upto_region 3 with (first
    | (go_at_call 11; refine kp.mono ?_; clear kp; rintro e w1 ⟨v1, ps, rfl, hkept, hpb, hg1⟩; obtain ⟨Al, cl, rfl, hcl, hrl, hbl⟩ := hpb.form)
    | (go_at_call 12; refine (kx _).mono ?_; clear kx; rintro e w2 ⟨rfl, hg2⟩)
    | (go_at_call 12; refine (ky _).mono ?_; clear ky; rintro e w3 ⟨rfl, hg3⟩))
  have hlen := hkept.len
  have hgw3 : w.grownBy w3 none := grown_none hg1 (grown_none hg2 hg3)
  have hrow : RowQ w3 Al cl ps := ⟨hrl.kept (grown_none hg2 hg3), hcl, hkept.rises, by omega, fun p hp => by have := hkept.may p hp; unfold mayQ at this; rw [decide_eq_true_iff] at this; omega⟩
  replace hk := hk.kept hgw3
  clear hr hpb hrl hbl hcl hkept hx hy hg1 hg2 hg3
  have gl := lss_str
  go_upto_if 26 with fail
  go_cut [8, 9] (fun u v wx => ∃ x1 y1 : List UInt8, u = .string ⟨x1.toArray⟩ ∧ v = .string ⟨y1.toArray⟩ ∧ kl y1 x1 = false ∧ w3 = wx)
  case first =>
    cases hxy : kl y x
    · go_wp2
      go_meet
      exact ⟨x, y, rfl, rfl, hxy, rfl⟩
    · go_wp2
      go_meet
      exact ⟨y, x, rfl, rfl, kl_asymm hxy, rfl⟩
  case rest =>
    obtain ⟨x1, y1, rfl, rfl, hxy, rfl⟩ := hcut
    have kra := K.range x1 y1 hrow hk
    obtain ⟨f, m, hf, hfm, hab, hfmn, e1, e2, e3, e4, e5, e6⟩ := coverL_form hrow.up hxy
    obtain ⟨P, hP⟩ : ∃ P, P = coverL ps x1 y1 := ⟨_, rfl⟩
    rw [← hP] at kra e1 e2 e3 e4 e5 e6
    clear hP
    replace e1 := Lib.hid e1
    replace e2 := Lib.hid e2
    replace e3 := Lib.hid e3
    replace e4 := Lib.hid e4
    replace e5 := Lib.hid e5
    replace e6 := Lib.hid e6
    replace hf := Lib.hid hf
    replace hfm := Lib.hid hfm
    go_upto_region 6 with (go_at_call 9; refine kra.mono ?_; clear kra; rintro e wa ⟨A10, c10, B10, d10, rs10, rfl, hp10, -, hga⟩; unfold pfv; have hst := store_pf P.count P.first A10 B10 P.pairs.length P.paths.length c10 d10 wa)
    clear hst
    have hb10 : (wa.alloc (.cells #[.int .i64 P.count, .int .i64 P.first, .slice A10 P.pairs.length c10, .slice B10 P.paths.length d10] 27)).heap[wa.heap.size]? = some (.cells #[.int .i64 P.count, .int .i64 P.first, .slice A10 P.pairs.length c10, .slice B10 P.paths.length d10] 27 (0, 0)) := alloc_at rfl
    have hgn := grown_alloc hga (.cells #[.int .i64 P.count, .int .i64 P.first, .slice A10 P.pairs.length c10, .slice B10 P.paths.length d10] 27)
    replace hp10 := hp10.kept (grown_alloc (grown_refl wa none) (.cells #[.int .i64 P.count, .int .i64 P.first, .slice A10 P.pairs.length c10, .slice B10 P.paths.length d10] 27))
    generalize wa.alloc (.cells #[.int .i64 P.count, .int .i64 P.first, .slice A10 P.pairs.length c10, .slice B10 P.paths.length d10] 27) = W at *
    generalize wa.heap.size = g10 at *
    replace hgw3 := grown_none hgw3 hgn
    replace hk := hk.kept hgn
    replace hrow := hrow.kept hgn
    clear hga hgn
    have kr := fun W' (hg : W.grownBy W' none) => ProveRuns_any K W' (hk.kept hg)
    rw [box_of e1.out e2.out e5.out e6.out] at hb10
    obtain ⟨n, hn⟩ : ∃ n, n = ps.length := ⟨_, rfl⟩
    rw [← hn] at hb10 hfmn hlen ⊢
    replace hn := Lib.hid hn
    have F10 : ∀ wq, W.grownBy wq none → wq.cell? ⟨g10, 0, none⟩ = some (.int .i64 (n : Nat)) ∧ wq.cell? ⟨g10, 1, none⟩ = some (.int .i64 (f : Nat)) ∧ wq.cell? ⟨g10, 2, none⟩ = some (.slice A10 m c10) ∧ wq.cell? ⟨g10, 3, none⟩ = some (.slice B10 m d10) := fun wq hq => ⟨(by rw [cell_of_row wq _ 0 _ _ _ (keep_of hb10 hq)]; rfl), (by rw [cell_of_row wq _ 1 _ _ _ (keep_of hb10 hq)]; rfl), (by rw [cell_of_row wq _ 2 _ _ _ (keep_of hb10 hq)]; rfl), (by rw [cell_of_row wq _ 3 _ _ _ (keep_of hb10 hq)]; rfl)⟩
    obtain ⟨c0', c1', c2', c3'⟩ := F10 W (grown_refl _ _)
    have hw1 : IntKind.i64.wrap ((f : Int) + (m : Int)) = (f : Int) + (m : Int) := IntWalk.i64_in _ ⟨by omega, by omega⟩
    have q2 : ¬ (n : Int) < (f : Int) + (m : Int) := by omega
    have q3 : ¬ (f : Int) < 0 := by omega
    go_wp2_with fail
    go_loopw [66] (fun t wr => ∃ k : Nat, k ≤ m ∧ t = .int .i64 (k : Int) ∧ W.grownBy wr none) (fun t _ => m - (intOf t).toNat)
    case atStart => exact ⟨0, Nat.zero_le _, rfl, grown_refl _ _⟩
    case round =>
      obtain ⟨k, hkm, rfl, hgr⟩ := hrel
      by_cases hlt : k < m
      · have q1 : (k : Int) < (m : Int) := by omega
        have hkn : f + k < ps.length := by have := hn.out; omega
        have hkn' : f + k < n := by omega
        have hkp : k < P.pairs.length := by rw [e5.out]; exact hlt
        obtain ⟨ad10, ea10, t10⟩ := RdQ.at (hp10.rd.kept hgr) hkp
        have hpk : P.pairs[k] = ps[f + k] := by
          have h1 := congrArg (fun l => l[k]?) e3.out
          simp only [List.getElem?_take, if_pos hlt, List.getElem?_drop] at h1
          rw [List.getElem?_eq_getElem hkp, List.getElem?_eq_getElem hkn] at h1
          exact Option.some.inj h1
        rw [hpk] at t10
        clear hpk
        obtain ⟨adl, eal, tl⟩ := RdQ.at (hrow.rd.kept hgr) hkn
        obtain ⟨b10, ra, eb10, hca, hoa, hpa⟩ := hp10.path e4.out hlt
        have u3 : ra.2.1.length ≤ 32000 := by
          rw [hpa, pathB_len ps (f + k) hkn]
          have := depthN_lt ps.length (f + k)
          have := hn.out
          omega
        generalize ps[f + k] = q at *
        obtain ⟨Aa, Pa, na, ca⟩ := ra
        have u1 := hoa.len
        unfold hv at hca
        dsimp only at hca hpa u1 u3
        subst ea10
        subst eal
        subst eb10
        have HC := Lib.hid t10
        have ia := fun W => idx_Q ad10 m c10 k hlt W
        clear t10
        go_upto_region 11 with (first
          | (refine wpList_load_kv (by rfl) _ rfl (ad10.add (k * 2)) rfl q HC.out ?_))
        have hb12 : (wr.alloc (.cells #[.string ⟨q.1.toArray⟩, .string ⟨q.2.toArray⟩] 23)).heap[wr.heap.size]? = some (.cells #[.string ⟨q.1.toArray⟩, .string ⟨q.2.toArray⟩] 23 (0, 0)) := alloc_at rfl
        have hgn := grown_alloc (grown_refl wr none) (.cells #[.string ⟨q.1.toArray⟩, .string ⟨q.2.toArray⟩] 23)
        generalize wr.alloc (.cells #[.string ⟨q.1.toArray⟩, .string ⟨q.2.toArray⟩] 23) = V at *
        generalize wr.heap.size = g12 at *
        have hgV := grown_none hgr hgn
        have TL : ∀ wq, V.grownBy wq none → AtQ wq (adl.add ((f + k) * 2)) q := fun wq hq => tl.kept (grown_none hgn hq)
        have G10 := fun wq (hq : V.grownBy wq none) => F10 wq (grown_none hgV hq)
        have FA : ∀ wq, V.grownBy wq none → wq.cell? (b10.add k) = some (.slice Aa na ca) := fun wq hq => (grown_none hgV hq).cell hca (by simp)
        have HOA : ∀ wq, V.grownBy wq none → Ph.ok wq (Aa, Pa, na, ca) := fun wq hq => hoa.kept (grown_none hgV hq)
        have ix := fun W => idx_Q adl n cl (f + k) hkn' W
        rw [show ((f + k : Nat) : Int) = (f : Int) + (k : Int) by omega] at ix
        have ib := fun W => idx_Hs b10 m d10 k hlt W
        have hwa : IntKind.i64.wrap ((f : Int) + (k : Int)) = (f : Int) + (k : Int) := IntWalk.i64_in _ ⟨by omega, by omega⟩
        have hkV := hk.kept hgV
        have KL : ∀ wq, V.grownBy wq none → Calls Tryd.prog 22 #[.slice (some adl) n cl] wq fun e w' => ∃ (A' : Option Addr) (qs : List Part) (c' : Nat), e = .returned (.slice A' n c') ∧ n ≤ c' ∧ RdP w' A' qs ∧ leavesOf qs = leavesL ps ∧ wq.grownBy w' none := fun wq hq => by
          have h := LLeaves_any (some adl) cl ps wq (hrow.rd.kept (grown_none hgV hq)) (by have := hn.out; omega) hrow.hs
          rw [← hn.out] at h
          refine h.mono ?_
          rintro e w' ⟨A', qs, c', rfl, h1, h2, h3, h4⟩
          have h5 := leaves_len h3
          rw [← hn.out] at h5
          exact ⟨A', qs, c', by rw [h5], by omega, h2, h3, h4⟩
        have KPA : ∀ wq A' qs c', V.grownBy wq none → n ≤ c' → RdP wq A' qs → leavesOf qs = leavesL ps → Calls Tryd.prog 21 #[.slice A' n c', .int .i64 ((f : Int) + (k : Int))] wq fun e w' => ∃ r : Ph, e = .returned (hv r) ∧ Ph.ok w' r ∧ r.2.1 = pathB ps (f + k) ∧ wq.grownBy w' none := fun wq A' qs c' hq h1 h2 h3 => by
          have h5 := leaves_len h3
          rw [← hn.out] at h5
          have h := Path_any n A' qs c' (f + k) wq h5 h1 (by omega) (by omega) (leaves_le h3 hrow.hs) (hkV.kept hq) h2
          rw [show ((f + k : Nat) : Int) = (f : Int) + (k : Int) by omega] at h
          refine h.mono ?_
          rintro e w' ⟨v, rfl, ho, hg, -, -⟩
          rw [h3] at ho
          obtain ⟨r, e1, e2, e3⟩ := own_path ho
          refine ⟨r, by rw [e1], path_ok ?_, e2, hg⟩
          rw [e1] at ho
          rw [e2, e3]
          exact ho
        have KSM : ∀ wq (r : Ph), V.grownBy wq none → Ph.ok wq r → r.2.1 = pathB ps (f + k) → Calls Tryd.prog 20 #[.slice Aa na ca, hv r] wq fun e w' => e = .returned (.bool true) ∧ wq.grownBy w' none := fun wq r hq h1 h2 => by
          obtain ⟨Ar, Pr, nr, cr⟩ := r
          have h3 := h1.len
          dsimp only at h2 h3
          have e : Pr = Pa := h2.trans hpa.symm
          subst e
          obtain rfl : nr = na := by omega
          exact SameP_any Aa Ar nr ca cr Pr (by omega) u1 wq (HOA wq hq).rd h1.rd (HOA wq hq).at0 h1.at0
        clear hca hoa HC ia tl hb10
        refine wp_region_gt (R := none) (i1 := 999) (q := true) (al := phaAl) 24 (N := 128) (S := phaS) (die := phaDie) (own := phaOwn) (F := phaF Aa adl b10 cl d10 n m f k na ca g10 ps q) (by kernel_rfl) (Nat.le_of_ble_eq_true (by kernel_rfl)) (by kernel_rfl) (by kernel_rfl) (by kernel_rfl) (by kernel_rfl) (Nat.le_of_ble_eq_true (by kernel_rfl)) (fun g e => by cases e) (phaF_lasts Aa adl b10 cl d10 n m f k na ca g10 ps q) ?_ ?_
        · intro i o L' a w K hi ho hg hgN hLi hout hpre houter hitem h1 h2
          have hcases : i = 0 ∨ i = 1 ∨ i = 2 ∨ i = 3 ∨ i = 4 ∨ i = 5 ∨ i = 6 ∨ i = 7 ∨ i = 8 ∨ i = 9 ∨ i = 10 ∨ i = 11 ∨ i = 12 ∨ i = 13 ∨ i = 14 ∨ i = 15 ∨ i = 16 ∨ i = 17 ∨ i = 18 ∨ i = 19 ∨ i = 20 ∨ i = 21 ∨ i = 22 ∨ i = 23 := by omega
          rcases hcases with rfl | rfl | rfl | rfl | rfl | rfl | rfl | rfl | rfl | rfl | rfl | rfl | rfl | rfl | rfl | rfl | rfl | rfl | rfl | rfl | rfl | rfl | rfl | rfl
          · cases (show some _ = some o from ho)
            exact ⟨rfl, wp_move rfl (h1 _ _ (grown_refl _ none) (houter _ rfl) (by rw [houter _ rfl]; exact (fun g e => by cases (show (none : Option Nat) = some g from e))) (by rw [houter _ rfl]; exact .inl rfl))⟩
          · cases (show some _ = some o from ho)
            exact ⟨rfl, wp_field rfl (houter _ rfl) (field_pf _ 1 (by omega)) (h1 _ _ (grown_refl _ none) rfl (nob rfl) (.inl rfl))⟩
          · cases (show some _ = some o from ho)
            exact ⟨rfl, wp_loadC rfl (hitem 1 (by decide) ⟨hpre 1 rfl, hout _ (by decide)⟩) (load_cell ((G10 w hg).2.1) Tryd.underlying3 rfl) (h1 _ _ (grown_refl _ none) rfl (nob rfl) (.inl rfl))⟩
          · cases (show some _ = some o from ho)
            exact ⟨rfl, wp_move rfl (h1 _ _ (grown_refl _ none) (houter _ rfl) (by rw [houter _ rfl]; exact nob rfl) (by rw [houter _ rfl]; exact .inl rfl))⟩
          · cases (show some _ = some o from ho)
            exact ⟨rfl, wp_bin rfl (hitem 2 (by decide) ⟨hpre 2 rfl, hout _ (by decide)⟩) (hitem 3 (by decide) ⟨hpre 3 rfl, hout _ (by decide)⟩) (guard_add _ _ _ _ _) (add_to hwa _) (h1 _ _ (grown_refl _ none) rfl (nob rfl) (.inl rfl))⟩
          · cases (show some _ = some o from ho)
            exact ⟨rfl, wp_index rfl (hitem 0 (by decide) ⟨hpre 0 rfl, hout _ (by decide)⟩) (hitem 4 (by decide) ⟨hpre 4 rfl, hout _ (by decide)⟩) (ix w) (h1 _ _ (grown_refl _ none) rfl (nob rfl) (.inl rfl))⟩
          · cases (show some _ = some o from ho)
            exact ⟨rfl, wp_load_kv rfl (hitem 5 (by decide) ⟨hpre 5 rfl, hout _ (by decide)⟩) (TL w hg) (h1 _ _ (grown_refl _ none) rfl (nob rfl) (.inl rfl))⟩
          · cases (show some _ = some o from ho)
            exact ⟨rfl, wp_load_row 23 _ rfl _ (houter _ rfl) _ #[.string ⟨q.1.toArray⟩, .string ⟨q.2.toArray⟩] (0, 0) _ (keep_of hb12 hg) Tryd.underlying23 rfl (size_kv) (h1 _ _ (grown_refl _ none) rfl (nob rfl) (.inl rfl))⟩
          · cases (show some _ = some o from ho)
            exact ⟨rfl, wp_bin rfl (hitem 6 (by decide) ⟨hpre 6 rfl, hout _ (by decide)⟩) (hitem 7 (by decide) ⟨hpre 7 rfl, hout _ (by decide)⟩) (guard_neK _ _ _ _ _) (neq_same _ _) (h1 _ _ (grown_refl _ none) rfl (nob rfl) (.inl rfl))⟩
          · cases (show some _ = some o from ho)
            have hx := hitem 8 (by decide) ⟨hpre 8 rfl, hout _ (by decide)⟩
            exact ⟨rfl, wp_move rfl (h1 _ _ (grown_refl _ none) hx (by rw [show a.eval (.tmp 79) = .bool false from hx]; exact nob rfl) (by rw [show a.eval (.tmp 79) = .bool false from hx]; exact .inl rfl))⟩
          · cases (show some _ = some o from ho)
            exact ⟨wanted_not (j := 9) rfl rfl (hitem 9 (by decide) ⟨hpre 9 rfl, hout _ (by decide)⟩), wp_field rfl (houter _ rfl) (field_pf _ 3 (by omega)) (h1 _ _ (grown_refl _ none) rfl (nob rfl) (.inl rfl))⟩
          · cases (show some _ = some o from ho)
            exact ⟨wanted_not (j := 9) rfl rfl (hitem 9 (by decide) ⟨hpre 9 rfl, hout _ (by decide)⟩), wp_loadC rfl (hitem 10 (by decide) ⟨hpre 10 rfl, hout _ (by decide)⟩) (load_cell ((G10 w hg).2.2.2) Tryd.underlying25 rfl) (h1 _ _ (grown_refl _ none) rfl (fun g e => by cases (show (none : Option Nat) = some g from e)) (.inl rfl))⟩
          · cases (show some _ = some o from ho)
            exact ⟨wanted_not (j := 9) rfl rfl (hitem 9 (by decide) ⟨hpre 9 rfl, hout _ (by decide)⟩), wp_move rfl (h1 _ _ (grown_refl _ none) (houter _ rfl) (by rw [houter _ rfl]; exact nob rfl) (by rw [houter _ rfl]; exact .inl rfl))⟩
          · cases (show some _ = some o from ho)
            exact ⟨wanted_not (j := 9) rfl rfl (hitem 9 (by decide) ⟨hpre 9 rfl, hout _ (by decide)⟩), wp_index rfl (hitem 11 (by decide) ⟨hpre 11 rfl, hout _ (by decide)⟩) (hitem 12 (by decide) ⟨hpre 12 rfl, hout _ (by decide)⟩) (ib w) (h1 _ _ (grown_refl _ none) rfl (nob rfl) (.inl rfl))⟩
          · cases (show some _ = some o from ho)
            exact ⟨wanted_not (j := 9) rfl rfl (hitem 9 (by decide) ⟨hpre 9 rfl, hout _ (by decide)⟩), wp_loadC rfl (hitem 13 (by decide) ⟨hpre 13 rfl, hout _ (by decide)⟩) (load_cell (FA w hg) Tryd.underlying39 rfl) (h1 _ _ (grown_refl _ none) rfl (fun g e => by cases (show (none : Option Nat) = some g from e)) (.inl rfl))⟩
          · cases (show some _ = some o from ho)
            exact ⟨wanted_not (j := 9) rfl rfl (hitem 9 (by decide) ⟨hpre 9 rfl, hout _ (by decide)⟩), wp_move rfl (h1 _ _ (grown_refl _ none) (houter _ rfl) (by rw [houter _ rfl]; exact (fun g e => by cases (show (none : Option Nat) = some g from e))) (by rw [houter _ rfl]; exact .inl rfl))⟩
          · cases (show some _ = some o from ho)
            have x86 : a.eval (.tmp 86) = .slice (some adl) n cl := hitem 15 (by decide) ⟨hpre 15 rfl, hout _ (by decide)⟩
            refine ⟨wanted_not (j := 9) rfl rfl (hitem 9 (by decide) ⟨hpre 9 rfl, hout _ (by decide)⟩), wp_call rfl Tryd.func22 (by kernel_rfl) (by kernel_rfl) (args := #[.slice (some adl) n cl]) (by simp [x86]) ((KL w hg).mono ?_)⟩
            rintro e w' ⟨A', qs, c', rfl, h5, h6, h7, hg'⟩
            exact ⟨_, rfl, h1 _ _ hg' ⟨A', qs, c', rfl, h5, h6, h7⟩ (fun g e => by cases (show (none : Option Nat) = some g from e)) (.inl rfl)⟩
          · cases (show some _ = some o from ho)
            exact ⟨wanted_not (j := 9) rfl rfl (hitem 9 (by decide) ⟨hpre 9 rfl, hout _ (by decide)⟩), wp_field rfl (houter _ rfl) (field_pf _ 1 (by omega)) (h1 _ _ (grown_refl _ none) rfl (nob rfl) (.inl rfl))⟩
          · cases (show some _ = some o from ho)
            exact ⟨wanted_not (j := 9) rfl rfl (hitem 9 (by decide) ⟨hpre 9 rfl, hout _ (by decide)⟩), wp_loadC rfl (hitem 17 (by decide) ⟨hpre 17 rfl, hout _ (by decide)⟩) (load_cell ((G10 w hg).2.1) Tryd.underlying3 rfl) (h1 _ _ (grown_refl _ none) rfl (nob rfl) (.inl rfl))⟩
          · cases (show some _ = some o from ho)
            exact ⟨wanted_not (j := 9) rfl rfl (hitem 9 (by decide) ⟨hpre 9 rfl, hout _ (by decide)⟩), wp_move rfl (h1 _ _ (grown_refl _ none) (houter _ rfl) (by rw [houter _ rfl]; exact nob rfl) (by rw [houter _ rfl]; exact .inl rfl))⟩
          · cases (show some _ = some o from ho)
            exact ⟨wanted_not (j := 9) rfl rfl (hitem 9 (by decide) ⟨hpre 9 rfl, hout _ (by decide)⟩), wp_bin rfl (hitem 18 (by decide) ⟨hpre 18 rfl, hout _ (by decide)⟩) (hitem 19 (by decide) ⟨hpre 19 rfl, hout _ (by decide)⟩) (guard_add _ _ _ _ _) (add_to hwa _) (h1 _ _ (grown_refl _ none) rfl (nob rfl) (.inl rfl))⟩
          · cases (show some _ = some o from ho)
            obtain ⟨A', qs, c', ea, h5, h6, h7⟩ := hitem 16 (by decide) ⟨hpre 16 rfl, hout _ (by decide)⟩
            replace ea : a.eval (.tmp 87) = _ := ea
            have x91 : a.eval (.tmp 91) = .int .i64 ((f : Int) + (k : Int)) := hitem 20 (by decide) ⟨hpre 20 rfl, hout _ (by decide)⟩
            refine ⟨wanted_not (j := 9) rfl rfl (hitem 9 (by decide) ⟨hpre 9 rfl, hout _ (by decide)⟩), wp_call rfl Tryd.func21 (by kernel_rfl) (by kernel_rfl) (args := #[.slice A' n c', .int .i64 ((f : Int) + (k : Int))]) (by simp [ea, x91]) ((KPA w A' qs c' hg h5 h6 h7).mono ?_)⟩
            rintro e w' ⟨r, rfl, h8, h9, hg'⟩
            exact ⟨_, rfl, h1 _ _ hg' ⟨r, rfl, h8, h9⟩ (fun g e => by cases (show (none : Option Nat) = some g from e)) (.inl rfl)⟩
          · cases (show some _ = some o from ho)
            have x85 : a.eval (.tmp 85) = .slice Aa na ca := hitem 14 (by decide) ⟨hpre 14 rfl, hout _ (by decide)⟩
            obtain ⟨r, ea, h8, h9⟩ := hitem 21 (by decide) ⟨hpre 21 rfl, hout _ (by decide)⟩
            replace ea : a.eval (.tmp 92) = _ := ea
            refine ⟨wanted_not (j := 9) rfl rfl (hitem 9 (by decide) ⟨hpre 9 rfl, hout _ (by decide)⟩), wp_call rfl Tryd.func20 (by kernel_rfl) (by kernel_rfl) (args := #[.slice Aa na ca, hv r]) (by simp [ea, x85]) ((KSM w r hg h8 h9).mono ?_)⟩
            rintro e w' ⟨rfl, hg'⟩
            exact ⟨_, rfl, h1 _ _ hg' rfl (nob rfl) (.inl rfl)⟩
          · cases (show some _ = some o from ho)
            exact ⟨wanted_not (j := 9) rfl rfl (hitem 9 (by decide) ⟨hpre 9 rfl, hout _ (by decide)⟩), wp_not rfl (hitem 22 (by decide) ⟨hpre 22 rfl, hout _ (by decide)⟩) (h1 _ _ (grown_refl _ none) rfl (nob rfl) (.inl rfl))⟩
        · intro a wT hgT hend hap ha
          obtain ⟨f, hf⟩ : ∃ f : Nat → Value, f = fun t => a.tmps.getD t undef := ⟨_, rfl⟩
          have s80 : f 80 = .bool false := by rw [hf]; exact (hend 9 (by decide) (by decide)).1
          have s94 : f 94 = .bool false := by rw [hf]; exact (hend 23 (by decide) (by decide)).1
          rw [← hf] at ha
          clear hend hap
          clear hf
          subst ha
          simp only [fill, phaS, Nat.reduceAdd, Nat.reduceBEq, Bool.or_false, Bool.or_true, cond_true, cond_false, s80, s94]
          clear s80 s94
          change wpList _ _ _ [_] _ _
          go_wp2_with fail
          go_roundw
          case rel => exact ⟨k + 1, by omega, by go_num, grown_none hgV hgT⟩
          case measure => simp [intOf]; omega
      · have q1 : ¬ (k : Int) < (m : Int) := by omega
        obtain rfl : k = m := by omega
        obtain ⟨a, ha⟩ : ∃ a, a = lowN ps x1 := ⟨_, rfl⟩
        obtain ⟨b, hb⟩ : ∃ b, b = lowN ps y1 := ⟨_, rfl⟩
        have hup := hrow.up
        have hbn : b ≤ n := by rw [hb, hn.out]; exact lowN_le ps y1
        rw [← ha, ← hb] at hab
        have hfin : k = min 1 (min n a) + (min n b - min n a) + min 1 (n - b) := by
          have h1 := hf.out
          have h2 := hfm.out
          have h3 := hn.out
          rw [← ha] at h1
          rw [← hb, ← h3] at h2
          omega
        have hlow : ∀ z (hz : z < ps.length), (z < a → kl ps[z].1 x1 = true) ∧ (a ≤ z → kl ps[z].1 x1 = false) ∧ (z < b → kl ps[z].1 y1 = true) ∧ (b ≤ z → kl ps[z].1 y1 = false) := fun z hz => ⟨fun h => below_low hup x1 (by omega) hz, fun h => above_low hup x1 (by omega) hz, fun h => below_low hup y1 (by omega) hz, fun h => above_low hup y1 (by omega) hz⟩
        clear ha hb hup
        replace hfin := Lib.hid hfin
        go_wp2_with fail
        go_loopw [13, 14, 15, 99] (fun u1 u2 u3 t wq => ∃ z : Nat, z ≤ n ∧ t = .int .i64 (z : Int) ∧ u1 = .int .i64 ((min z b - min z a : Nat) : Int) ∧ u2 = .int .i64 ((min 1 (min z a) : Nat) : Int) ∧ u3 = .int .i64 ((min 1 (z - b) : Nat) : Int) ∧ W.grownBy wq none) (fun _ _ _ t _ => n - (intOf t).toNat)
        case atStart => exact ⟨0, Nat.zero_le _, rfl, by simp, by simp, by simp, hgr⟩
        case round =>
          obtain ⟨z, hzn, rfl, rfl, rfl, rfl, hgz⟩ := hrel
          by_cases hlt : z < n
          · have q4 : (z : Int) < (n : Int) := by omega
            have hzp : z < ps.length := by have := hn.out; omega
            obtain ⟨adl, eal, tl⟩ := RdQ.at (hrow.rd.kept hgz) hzp
            obtain ⟨l1, l2, l3, l4⟩ := hlow z hzp
            generalize ps[z] = q at *
            subst eal
            have HC := Lib.hid tl
            have ia := fun W => idx_Q adl n cl z hlt W
            have hbq : ∀ W : World, (wr.alloc (Obj.cells #[Value.string ⟨q.1.toArray⟩, Value.string ⟨q.2.toArray⟩] 23)).grownBy W none → AtQ W ⟨wr.heap.size, 0, none⟩ q := fun W h => box_at h
            have hb0 := (hbq _ (grown_refl _ _)).1
            unfold sv at hb0
            clear tl
            have hgA := grown_alloc hgz (.cells #[.string ⟨q.1.toArray⟩, .string ⟨q.2.toArray⟩] 23)
            by_cases hza : z < a
            · have lx := l1 hza
              clear l1 l2 l3 l4 hlow
              go_wp2_with (first | (refine wpList_load_kv (by rfl) _ rfl (adl.add (z * 2)) rfl q HC.out ?_))
              go_roundw
              case rel => exact ⟨z + 1, by omega, by go_num, by congr 1; omega, by congr 1; omega, by congr 1; omega, hgA⟩
              case measure => simp [intOf]; omega
            · have lx := l2 (by omega)
              by_cases hzb : z < b
              · have ly := l3 hzb
                obtain ⟨I, hI⟩ : ∃ I, I = min z b - min z a := ⟨_, rfl⟩
                have hI2 : I ≤ 12 := by omega
                rw [← hI]
                replace hI := Lib.hid hI
                clear l1 l2 l3 l4 hlow
                go_wp2_with (first | (refine wpList_load_kv (by rfl) _ rfl (adl.add (z * 2)) rfl q HC.out ?_))
                go_roundw
                case rel => exact ⟨z + 1, by omega, by go_num, by have := hI.out; congr 1; omega, by congr 1; omega, by congr 1; omega, hgA⟩
                case measure => simp [intOf]; omega
              · have ly := l4 (by omega)
                clear l1 l2 l3 l4 hlow
                go_wp2_with (first | (refine wpList_load_kv (by rfl) _ rfl (adl.add (z * 2)) rfl q HC.out ?_))
                go_roundw
                case rel => exact ⟨z + 1, by omega, by go_num, by congr 1; omega, by congr 1; omega, by congr 1; omega, hgA⟩
                case measure => simp [intOf]; omega
          · have q4 : ¬ (z : Int) < (n : Int) := by omega
            obtain rfl : z = n := by omega
            have c2q := (F10 wr hgz).2.2.1
            obtain ⟨I, hI⟩ : ∃ I, I = min z b - min z a := ⟨_, rfl⟩
            obtain ⟨B, hB⟩ : ∃ B, B = min 1 (min z a) := ⟨_, rfl⟩
            obtain ⟨C, hC⟩ : ∃ C, C = min 1 (z - b) := ⟨_, rfl⟩
            have hI2 : I ≤ 12 := by omega
            have hB2 : B ≤ 1 := by omega
            have hC2 : C ≤ 1 := by omega
            have hS : (B : Int) + (I : Int) + (C : Int) = (k : Int) := by have := hfin.out; omega
            rw [← hI, ← hB, ← hC]
            clear hI hB hC hlow
            have krz := kr wr hgz
            go_wp2_with (go_at_call 3; refine krz.mono ?_; clear krz; rintro e we ⟨rfl, hge⟩)
            go_ret
            exact ⟨rfl, grown_none hgw3 (grown_none hgz hge)⟩
end Go.Proofs.YtpeepiboocdnaaaDoor
