/- For any bytes and any two numbers VintOnly returns true: what is read as a number has just those bytes, or the Reader isn't good; unlike numbers have unlike bytes. Nothing that was there changes. Condition: none. -/
import Derived.Test.YthccbbdabfpjcaaPure
import Derived.Test.YthccbbdabfpjcaaLRuns
namespace Go.Proofs.Ythccbbdabfpjcaa
open Go.ChangeShapes Go.WideShapes Go.ChangeAt Go.RowKit

set_option maxHeartbeats 1000000 in
theorem VintOnly_any (A : Option Addr) (raw : List UInt8) (c : Nat) (a b : Int) (W : World) (hr : RdB W A raw) (hc : raw.length ≤ c) (hm : c ≤ maxLen) :
    Calls Try.prog 6 #[.slice A raw.length c, .int .i64 a, .int .i64 b] W fun e w' => e = .returned (.bool true) ∧ W.grownBy w' none := by
  have hm' : c ≤ 9223372036854775807 := hm
  obtain ⟨m, hmin0, hm1, hm2⟩ := min_some raw.length 12
  have hmin : (if (12 : Int) < (raw.length : Int) then (12 : Int) else (raw.length : Int)) = (m : Int) := hmin0
  clear hmin0
  obtain ⟨L, hL⟩ : ∃ L, L = raw.take m := ⟨_, rfl⟩
  have hLl : Hid (L.length = m) := by show _ = _; rw [hL, List.length_take]; omega
  have hrL : RdB W A L := by rw [hL]; exact rd_takeB hr m
  clear hL
  obtain ⟨x, hx, hwx⟩ := Within_nat a 1099511627775 (Nat.le_refl _)
  obtain ⟨y, hy, hwy⟩ := Within_nat b 1099511627775 (Nat.le_refl _)
  have HWX := Lib.hid hwx
  have HWY := Lib.hid hwy
  clear hwx hwy
  have hx1 := putN_ne x
  have hx6 := putN_len x hx
  have hown := ownB_new W #[] [] 0 rfl rfl (Nat.zero_le _)
  go_enter Try.func6, Try.ntmps6
  go_wp2_with (at_builtin; go_loud (refine wpList_appB _ rfl _ _ rfl rfl hown (news := L) rfl hLl.out.symm (hrL.alloc _) ?c1 ?_))
  case c1 => rw [hLl.out]; simp; omega
  intro v1 w1 ho1 hg1
  have hW1 := hg1.fresh.nil
  obtain ⟨A1, c1, rfl, q1, q2, hr1⟩ := ho1.slice
  have hL12 : L.length ≤ 12 := by rw [hLl.out]; exact hm2
  go_wp2_with fail
  refine (Read_any _ _ _ _ hr1 (by omega)).mono ?_
  rintro e w2 ⟨g, rfl, hgs, hR2, hg2⟩
  have hW2 : W.grownBy w2 none := grown_none hW1 hg2
  have hgW : W.heap.size ≤ g := Nat.le_trans hW1.size hgs
  have hN := Number_any g (L, false) _ hR2
  have hns := numOf_le L
  have hnm := numOf_max L
  by_cases hs : (numOf L).2 = 0
  · rw [show rNum (L, false) = (0, ([], true)) from by unfold rNum; rw [if_pos hs]] at hN
    have HN := Lib.hid hN
    clear hN hs
    go_wp2_with fail
    refine HN.out.mono ?_
    rintro e w5 ⟨rfl, hR3, hg3⟩
    have hW5 : W.grownBy w5 none := grown_trans hW2 hg3 (.inr fun r e => by injection e with e; omega)
    go_wp2_with fail
    refine (Good_any g ([], true) _ hR3).mono ?_
    rintro e w' ⟨rfl, rfl⟩
    go_wp2_with fail
    refine (HWX.out _).mono ?_
    rintro e w' ⟨rfl, rfl⟩
    go_wp2_with fail
    refine (HWY.out _).mono ?_
    rintro e w' ⟨rfl, rfl⟩
    go_wp2_with fail
    refine (Put1_any _ _ x _ (rd_new _ _ _ _ rfl)).mono ?_
    rintro e w6 ⟨v6, rfl, ho6, hg6⟩
    rw [putL_some hx] at ho6
    have hW6 : W.grownBy w6 none := grown_none (grown_alloc hW5 _) hg6.nil
    obtain ⟨A6, c6, rfl, r1, r2, hr6⟩ := ho6.slice
    go_wp2_with fail
    refine (Put1_any _ _ y _ (rd_new _ _ _ _ rfl)).mono ?_
    rintro e w7 ⟨v7, rfl, ho7, hg7⟩
    rw [putL_some hy] at ho7
    have hW67 : w6.grownBy w7 none := grown_none (grown_alloc (grown_refl _ _) _) hg7.nil
    have hr67 : RdB w7 A6 (putN x) := hr6.kept hW67
    obtain ⟨A7, c7, rfl, r3, r4, hr7⟩ := ho7.slice
    go_wp2_with fail
    refine (sameB_any A6 A7 (putN x) (putN y) c6 c7 _ hr67 hr7 (by omega) (by omega)).mono ?_
    rintro e w8 ⟨rfl, hg8⟩
    have hW8 : W.grownBy w8 none := grown_none (grown_none hW6 hW67) hg8
    by_cases hxy : x = y
    all_goals
      first
      | rw [show decide (putN x = putN y) = true from by rw [hxy]; simp]; have hb : ((x : Int) == (y : Int)) = true := by rw [hxy]; simp
      | rw [show decide (putN x = putN y) = false from by rw [decide_eq_false_iff_not]; exact fun h => hxy (putN_inj hx hy h)]; have hb : ((x : Int) == (y : Int)) = false := by rw [beq_eq_false_iff_ne]; omega
      clear hxy
      go_wp2_with fail
      refine (Put1_any _ _ (-1) _ (rd_new _ _ _ _ rfl)).mono ?_
      rintro e w9 ⟨v9, rfl, ho9, hg9⟩
      rw [putL_none (by omega)] at ho9
      have hW9 : W.grownBy w9 none := grown_none (grown_alloc hW8 _) hg9.nil
      obtain ⟨A9, c9, rfl, r5, r6, hr9⟩ := ho9.slice
      go_wp2_with fail
      refine (Put1_any _ _ 1099511627776 _ (rd_new _ _ _ _ rfl)).mono ?_
      rintro e w10 ⟨v10, rfl, ho10, hg10⟩
      rw [putL_none (by omega)] at ho10
      have hW10 : W.grownBy w10 none := grown_none (grown_alloc hW9 _) hg10.nil
      obtain ⟨A10, c10, rfl, r7, r8, hr10⟩ := ho10.slice
      go_wp2_with fail
      refine (VintRuns_any _).mono ?_
      rintro e w11 ⟨rfl, hg11⟩
      go_wp2
      go_ret
      exact ⟨rfl, grown_none hW10 hg11⟩
  · obtain ⟨n, hn⟩ : ∃ n, n = (numOf L).1 := ⟨_, rfl⟩
    obtain ⟨s, hs'⟩ : ∃ s, s = (numOf L).2 := ⟨_, rfl⟩
    have hput := numOf_made hs
    rw [show rNum (L, false) = (n, (L.drop s, false)) from by unfold rNum; rw [if_neg hs, hn, hs']] at hN
    rw [← hn, ← hs'] at hput
    rw [← hn] at hnm
    rw [← hs'] at hns hs
    have HN := Lib.hid hN
    have HP := Lib.hid hput
    have hpl : Hid ((putN n).length = s) := by show _ = _; rw [hput, List.length_take]; omega
    clear hN hn hs' hput
    go_wp2_with fail
    refine HN.out.mono ?_
    rintro e w3 ⟨rfl, hR3, hg3⟩
    have hW3 : W.grownBy w3 none := grown_trans hW2 hg3 (.inr fun r e => by injection e with e; omega)
    go_wp2_with fail
    refine (Good_any g (L.drop s, false) _ hR3).mono ?_
    rintro e w' ⟨rfl, rfl⟩
    go_wp2_with fail
    refine (Put1_any _ _ n _ (rd_new _ _ _ _ rfl)).mono ?_
    rintro e w4 ⟨v4, rfl, ho4, hg4⟩
    have hW4 : w3.grownBy w4 none := grown_none (grown_alloc (grown_refl _ _) _) hg4.nil
    have hR4 := hR3.kept hW4
    have hrL4 : RdB w4 A1 L := ((hr1.kept hg2).keep hg3 (fun ad e er => by
      injection er with er
      have := ho1.lt ad.block (by rw [e]; rfl)
      omega)).kept hW4
    rw [putL_some hnm] at ho4
    obtain ⟨A4, c4, rfl, q3, q4, hr4⟩ := ho4.slice
    have hple : (putN n).length ≤ L.length := by rw [hpl.out]; exact hns
    have hple' : (putN n).length ≤ c1 := Nat.le_trans hple q1
    have hc1m : c1 ≤ 9223372036854775807 := q2
    go_wp2_with fail
    refine (sameB_true _ _ (putN n) (L.take s) _ _ _ _ _ hr4 (rd_takeB hrL4 s) rfl (by rw [← HP.out]) (by unfold maxLen; omega) HP.out).mono ?_
    rintro e w5 ⟨rfl, hg5⟩
    have hR5 := hR4.kept hg5
    have hW5 : W.grownBy w5 none := grown_none (grown_none hW3 hW4) hg5
    have hD := Done_any g (L.drop s, false) _ hR5
    by_cases hall : s = L.length
    · rw [show (!(L.drop s, false).2 && (L.drop s, false).1.isEmpty) = true from by simp [hall]] at hD
      have hq : (((putN n).length : Int) == (L.length : Int)) = true := by rw [hpl.out, hall]; simp
      have HD := Lib.hid hD
      clear hD hall
      go_wp2_with fail
      refine HD.out.mono ?_
      rintro e w' ⟨rfl, rfl⟩
      go_wp2_with fail
      refine (HWX.out _).mono ?_
      rintro e w' ⟨rfl, rfl⟩
      go_wp2_with fail
      refine (HWY.out _).mono ?_
      rintro e w' ⟨rfl, rfl⟩
      go_wp2_with fail
      refine (Put1_any _ _ x _ (rd_new _ _ _ _ rfl)).mono ?_
      rintro e w6 ⟨v6, rfl, ho6, hg6⟩
      rw [putL_some hx] at ho6
      have hW6 : W.grownBy w6 none := grown_none (grown_alloc hW5 _) hg6.nil
      obtain ⟨A6, c6, rfl, r1, r2, hr6⟩ := ho6.slice
      go_wp2_with fail
      refine (Put1_any _ _ y _ (rd_new _ _ _ _ rfl)).mono ?_
      rintro e w7 ⟨v7, rfl, ho7, hg7⟩
      rw [putL_some hy] at ho7
      have hW67 : w6.grownBy w7 none := grown_none (grown_alloc (grown_refl _ _) _) hg7.nil
      have hr67 : RdB w7 A6 (putN x) := hr6.kept hW67
      obtain ⟨A7, c7, rfl, r3, r4, hr7⟩ := ho7.slice
      go_wp2_with fail
      refine (sameB_any A6 A7 (putN x) (putN y) c6 c7 _ hr67 hr7 (by omega) (by omega)).mono ?_
      rintro e w8 ⟨rfl, hg8⟩
      have hW8 : W.grownBy w8 none := grown_none (grown_none hW6 hW67) hg8
      by_cases hxy : x = y
      all_goals
        first
        | rw [show decide (putN x = putN y) = true from by rw [hxy]; simp]; have hb : ((x : Int) == (y : Int)) = true := by rw [hxy]; simp
        | rw [show decide (putN x = putN y) = false from by rw [decide_eq_false_iff_not]; exact fun h => hxy (putN_inj hx hy h)]; have hb : ((x : Int) == (y : Int)) = false := by rw [beq_eq_false_iff_ne]; omega
        clear hxy
        go_wp2_with fail
        refine (Put1_any _ _ (-1) _ (rd_new _ _ _ _ rfl)).mono ?_
        rintro e w9 ⟨v9, rfl, ho9, hg9⟩
        rw [putL_none (by omega)] at ho9
        have hW9 : W.grownBy w9 none := grown_none (grown_alloc hW8 _) hg9.nil
        obtain ⟨A9, c9, rfl, r5, r6, hr9⟩ := ho9.slice
        go_wp2_with fail
        refine (Put1_any _ _ 1099511627776 _ (rd_new _ _ _ _ rfl)).mono ?_
        rintro e w10 ⟨v10, rfl, ho10, hg10⟩
        rw [putL_none (by omega)] at ho10
        have hW10 : W.grownBy w10 none := grown_none (grown_alloc hW9 _) hg10.nil
        obtain ⟨A10, c10, rfl, r7, r8, hr10⟩ := ho10.slice
        go_wp2_with fail
        refine (VintRuns_any _).mono ?_
        rintro e w11 ⟨rfl, hg11⟩
        go_wp2
        go_ret
        exact ⟨rfl, grown_none hW10 hg11⟩
    · have hlt : s < L.length := by omega
      rw [show (!(L.drop s, false).2 && (L.drop s, false).1.isEmpty) = false from by
        simp only [Bool.not_false, Bool.true_and, List.isEmpty_eq_false_iff, ne_eq, List.drop_eq_nil_iff]; omega] at hD
      have hq : (((putN n).length : Int) == (L.length : Int)) = false := by rw [hpl.out, beq_eq_false_iff_ne]; omega
      have HD := Lib.hid hD
      clear hD hall
      go_wp2_with fail
      refine HD.out.mono ?_
      rintro e w' ⟨rfl, rfl⟩
      go_wp2_with fail
      refine (HWX.out _).mono ?_
      rintro e w' ⟨rfl, rfl⟩
      go_wp2_with fail
      refine (HWY.out _).mono ?_
      rintro e w' ⟨rfl, rfl⟩
      go_wp2_with fail
      refine (Put1_any _ _ x _ (rd_new _ _ _ _ rfl)).mono ?_
      rintro e w6 ⟨v6, rfl, ho6, hg6⟩
      rw [putL_some hx] at ho6
      have hW6 : W.grownBy w6 none := grown_none (grown_alloc hW5 _) hg6.nil
      obtain ⟨A6, c6, rfl, r1, r2, hr6⟩ := ho6.slice
      go_wp2_with fail
      refine (Put1_any _ _ y _ (rd_new _ _ _ _ rfl)).mono ?_
      rintro e w7 ⟨v7, rfl, ho7, hg7⟩
      rw [putL_some hy] at ho7
      have hW67 : w6.grownBy w7 none := grown_none (grown_alloc (grown_refl _ _) _) hg7.nil
      have hr67 : RdB w7 A6 (putN x) := hr6.kept hW67
      obtain ⟨A7, c7, rfl, r3, r4, hr7⟩ := ho7.slice
      go_wp2_with fail
      refine (sameB_any A6 A7 (putN x) (putN y) c6 c7 _ hr67 hr7 (by omega) (by omega)).mono ?_
      rintro e w8 ⟨rfl, hg8⟩
      have hW8 : W.grownBy w8 none := grown_none (grown_none hW6 hW67) hg8
      by_cases hxy : x = y
      all_goals
        first
        | rw [show decide (putN x = putN y) = true from by rw [hxy]; simp]; have hb : ((x : Int) == (y : Int)) = true := by rw [hxy]; simp
        | rw [show decide (putN x = putN y) = false from by rw [decide_eq_false_iff_not]; exact fun h => hxy (putN_inj hx hy h)]; have hb : ((x : Int) == (y : Int)) = false := by rw [beq_eq_false_iff_ne]; omega
        clear hxy
        go_wp2_with fail
        refine (Put1_any _ _ (-1) _ (rd_new _ _ _ _ rfl)).mono ?_
        rintro e w9 ⟨v9, rfl, ho9, hg9⟩
        rw [putL_none (by omega)] at ho9
        have hW9 : W.grownBy w9 none := grown_none (grown_alloc hW8 _) hg9.nil
        obtain ⟨A9, c9, rfl, r5, r6, hr9⟩ := ho9.slice
        go_wp2_with fail
        refine (Put1_any _ _ 1099511627776 _ (rd_new _ _ _ _ rfl)).mono ?_
        rintro e w10 ⟨v10, rfl, ho10, hg10⟩
        rw [putL_none (by omega)] at ho10
        have hW10 : W.grownBy w10 none := grown_none (grown_alloc hW9 _) hg10.nil
        obtain ⟨A10, c10, rfl, r7, r8, hr10⟩ := ho10.slice
        go_wp2_with fail
        refine (VintRuns_any _).mono ?_
        rintro e w11 ⟨rfl, hg11⟩
        go_wp2
        go_ret
        exact ⟨rfl, grown_none hW10 hg11⟩
-- THE ROW
set_option maxRecDepth 100000 in
theorem VintOnly_lifted (os : Os) (started : os.Started) (H : Type) (enc : TypeId × Value → H) :
    ReturnsInHanded {} Try.checked os 6 .any (Rows.vintOnlySpec.pre6 enc Try.prog Try.f6 Rows.vintOnlyRow.domain false) (Rows.vintOnlySpec.post enc Try.prog Try.f6 false true false false) := by
  refine returnsInHanded_of_change (C := Try.checked) Try.own started (by kernel_rfl) Try.func6
    (ChangeSpec.witness6 (enc := enc) (C := Try.checked) false ⟨#[], #[.slice none 0 0, .int .i64 0, .int .i64 0], []⟩ 40 (by kernel_rfl) (by kernel_rfl) (by kernel_rfl) (by kernel_rfl)) ?_
  intro W base args ds gs before hval0 hW hcnd _
  have hW0 := hW
  have hval : ∀ (j : Nat) t v, Try.f6.params[j]? = some t → args[j]? = some v → Value.okWide Try.prog W .any base t v := hval0
  obtain ⟨p, q, hA0, hV, rfl, hfz, hnd⟩ := hW
  have hA : DataW.TrodAll enc Try.prog W 0 (fun _ => true) true Try.f6.params.toList args.toList ds p := hA0
  rw [Try.params6] at hA hval
  obtain ⟨v0, vs0, d0, ds0, p0, q0, hargs, rfl, rfl, h0, r0⟩ := trodAll_cons hA
  obtain ⟨v1, vs1, d1, ds1, p1, q1, rfl, rfl, rfl, h1, r1⟩ := trodAll_cons r0
  obtain ⟨v2, vs2, d2, ds2, p2, q2, rfl, rfl, rfl, h2, r2⟩ := trodAll_cons r1
  obtain ⟨rfl, rfl, rfl⟩ := trodAll_nil r2
  obtain ⟨xs⟩ := args
  simp only at hargs
  subst hargs
  obtain ⟨rfl, rfl⟩ := trodVars_none hV
  obtain ⟨A0, l0, c0, rfl, hc0, hm0, hr0⟩ := arg_bytes Try.underlying24 Try.underlying5 (by kernel_rfl) (hval 0 _ _ rfl rfl) h0
  obtain ⟨n1, rfl, hlo1, hhi1⟩ := arg_int Try.underlying3 (hval 1 _ _ rfl rfl) h1
  obtain ⟨n2, rfl, hlo2, hhi2⟩ := arg_int Try.underlying3 (hval 2 _ _ rfl rfl) h2
  refine (VintOnly_any A0 l0 c0 n1 n2 W hr0 hc0 hm0).mono fun e W' ⟨he, hg⟩ => ?_
  subst he
  exact ⟨_, rfl, law_post Try.laidOut (by kernel_rfl) rfl Try.underlying4 rfl rfl hW0 hg⟩

theorem VintOnly_holds : Rows.VintOnlySaid :=
  OpenClaim.holds_of_wide 6 Try.f6 rfl rfl rfl rfl rfl rfl rfl ⟨rfl, rfl, rfl, rfl, rfl⟩ rfl rfl rfl rfl rfl (by kernel_rfl) Try.func6 (by kernel_rfl)
    (of_decide_eq_true (by kernel_rfl)) (by unfold Func.isWrapper; first | (rw [if_pos (by decide +kernel)]; kernel_rfl) | (rw [if_neg (by decide +kernel)]; exact ⟨rfl, rfl⟩))
    (fun os started H enc _ => VintOnly_lifted os started H enc)
end Go.Proofs.Ythccbbdabfpjcaa
