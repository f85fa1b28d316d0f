/- For any numbers, any texts, any k VintParts returns true: many at once are each by itself; sevens of bits are bytes; the greatest number. Nothing that was there changes. Condition: none. -/
import Derived.Test.YthccbbdabfpjcaaOwn
import Derived.Test.YthccbbdabfpjcaaLRuns
import Derived.Deep.DeepCutAuto
import Derived.Deep.CutBlock
namespace Go.Proofs.Ythccbbdabfpjcaa
open Go.ChangeShapes Go.WideShapes Go.ChangeAt Go.RowKit

/-- A number brought into 0 .. MaxNumber. -/
def wi (z : Int) : Int := within z 0 1099511627775
theorem wi_le (z : Int) : 0 ≤ wi z ∧ wi z ≤ 1099511627775 := within_le (by omega)
theorem Wi_any (z : Int) (w : World) : Calls Try.prog 20 #[.int .i64 z, .int .i64 0, .int .i64 1099511627775] w fun e w' => e = .returned (.int .i64 (wi z)) ∧ w = w' :=
  Within_any z 0 1099511627775 w (by omega) (by omega) (by omega)
theorem iv_ok (x : Int) : ∀ u ∈ [iv x], u.oneCell' = true := iv_one [x]
theorem sv_ok (x : List UInt8) : ∀ u ∈ [sv x], u.oneCell' = true := sv_one [x]
theorem last_get {α : Type} {X : List α} {x : α} {Y : List α} (h : Y = X ++ [x]) {k : Nat} (hk : X.length = k) : ∃ hk' : k < Y.length, Y[k] = x := by
  subst h
  subst hk
  exact ⟨by simp, by simp⟩
theorem map_next {α β : Type} (f : α → β) {l : List α} {k : Nat} (h : k < l.length) : (l.take (k + 1)).map f = (l.take k).map f ++ [f l[k]] := by
  rw [List.take_succ_eq_append_getElem h, List.map_append]; rfl
theorem putsL_snoc (l : List Int) (x : Int) : putsL (l ++ [x]) = putsL l ++ putL x := by simp [putsL]
theorem textsL_snoc (l : List (List UInt8)) (x : List UInt8) : textsL (l ++ [x]) = textsL l ++ textL x := by simp [textsL]

set_option maxRecDepth 100000 in
set_option maxHeartbeats 2000000 in
theorem VintParts_any (A0 : Option Addr) (ns : List Int) (c0 : Nat) (A1 : Option Addr) (ss : List (List UInt8)) (c1 : Nat) (k : Int) (W : World) (hr0 : RdI W A0 ns) (hc0 : ns.length ≤ c0) (hm0 : c0 ≤ maxLen)
    (hr1 : RdS W A1 ss) (hc1 : ss.length ≤ c1) (hm1 : c1 ≤ maxLen) (hs1 : ∀ s ∈ ss, s.length ≤ maxLen) :
    Calls Try.prog 7 #[.slice A0 ns.length c0, .slice A1 ss.length c1, .int .i64 k] W fun e w' => e = .returned (.bool true) ∧ W.grownBy w' none := by
  have hm0' : c0 ≤ 9223372036854775807 := hm0
  have hn0' : ns.length ≤ 9223372036854775807 := Nat.le_trans hc0 hm0
  have hn1' : ss.length ≤ 9223372036854775807 := Nat.le_trans hc1 hm1
  have hm1' : c1 ≤ 9223372036854775807 := hm1
  go_enter Try.func7, Try.ntmps7
  go_upto_block 0 with (fail)
  go_cut [7, 9] (fun b o w' => OwnB w' b (putsL ((ns.take 9).map wi)) ∧ OwnI w' o ((ns.take 9).map wi) ∧ Grew W w' (.slice none 0 0) b ∧ Grew W w' (.slice none 0 0) o)
  case first =>
    go_wp2_with fail
    go_loopw [7, 9, 10] (fun b o i w' => ∃ k : Nat, k ≤ 9 ∧ k ≤ ns.length ∧ i = .int .i64 k ∧ OwnB w' b (putsL ((ns.take k).map wi)) ∧ OwnI w' o ((ns.take k).map wi) ∧ Grew W w' (.slice none 0 0) b ∧ Grew W w' (.slice none 0 0) o) (fun _ _ i _ => 9 - (intOf i).toNat)
    case atStart => exact ⟨0, by omega, by omega, rfl, OwnB.nil _, OwnV.nil _, Grew.refl _ _, Grew.refl _ _⟩
    case round =>
      obtain ⟨k, hk9, hkn, rfl, ho, hoi, hgb, hgo⟩ := hrel
      by_cases hkl : k < ns.length
      · by_cases hk : k < 9
        · obtain ⟨ad, rfl, hcell⟩ := RdI.get (hr0.kept hgo.nil) hkl
          obtain ⟨z, hz⟩ : ∃ z, z = ns[k] := ⟨_, rfl⟩
          rw [← hz] at hcell
          obtain ⟨X, hX⟩ : ∃ X, X = (ns.take k).map wi := ⟨_, rfl⟩
          have hX1 : Hid ((ns.take (k + 1)).map wi = X ++ [wi z]) := by show _ = _; rw [map_next wi hkl, ← hX, ← hz]
          have hXl : Hid (X.length = k) := by show _ = _; rw [hX, List.length_map, List.length_take]; omega
          rw [← hX] at ho hoi
          have HZ := Lib.hid hz
          clear hz hX
          have hwz := wi_le z
          have hap := ho.toV.apart hoi (by decide)
          have hpl := putsL_len X
          have hpz := putL_len (wi z)
          rw [hXl.out] at hpl
          go_wp2_with (first | (go_at_call 20; refine (Wi_any z _).mono ?_; rintro e w' ⟨rfl, rfl⟩) | (at_builtin; refine wpList_appV _ rfl _ _ 30 rfl Try.underlying30 info_int rfl rfl (hoi.alloc _) (news := [iv (wi z)]) rfl rfl (rd_new _ _ _ _ rfl) (iv_ok _) ?c1 ?c2 ?_))
          case c1 => simp [hXl.out]; omega
          case c2 => simp [hXl.out, maxLen]; omega
          intro v1 w1 hoi1 hg1
          have hG1 := Grew.pre (grown_alloc (grown_refl wr none) _) hg1
          have ho1 : OwnB w1 u7 (putsL X) := ho.keep hG1.1 hap
          have hgo1 := hgo.trans hG1
          have hgb1 := hgb.keepNew hgo1.1
          obtain ⟨Y, hY⟩ : ∃ Y, Y = X ++ [wi z] := ⟨_, rfl⟩
          have hoY : OwnI w1 v1 Y := by rw [hY]; show OwnV _ _ _ ((X ++ [wi z]).map iv); rw [List.map_append]; exact hoi1
          obtain ⟨hkY, hYk⟩ := last_get hY hXl.out
          obtain ⟨A9, c9, rfl, q1, q2, hr9⟩ := hoY.slice
          obtain ⟨ad9, rfl, hcell9⟩ := hr9.get hkY
          rw [hYk] at hcell9
          have HY := Lib.hid hY
          clear hY hYk hoi1 hg1 hG1 hgo hgb hap hcell
          go_wp2_with (first | (go_at_call 12; refine (Put1_any _ _ (wi z) _ (rd_new _ _ _ _ rfl)).mono ?_; rintro e w2 ⟨v2, rfl, ho2, hg2⟩; obtain ⟨A2, c2, rfl, q3, q4, hr2⟩ := ho2.slice; have hw12 := grown_none (grown_alloc (grown_refl w1 none) _) hg2.nil) | (at_builtin; refine wpList_appB _ rfl _ _ rfl rfl (ho1.kept hw12) (news := putL (wi z)) rfl rfl hr2 ?c3 ?_))
          case c3 => omega
          intro v3 w3 ho3 hg3
          have hap2 := (hoY.kept hw12).apart (ho1.kept hw12).toV (by decide)
          have hoY3 : OwnI w3 (.slice (some ad9) Y.length c9) Y := (hoY.kept hw12).keep hg3.1 hap2
          have hgb3 := (hgb1.post hw12).trans hg3
          have hgo3 := hgo1.keepNew hgb3.1
          go_wp2
          go_roundw
          case rel => exact ⟨k + 1, by omega, by omega, by go_num, by rw [hX1.out, putsL_snoc]; exact ho3, by rw [hX1.out, ← HY.out]; exact hoY3, hgb3, hgo3⟩
          case measure => simp [intOf]; omega
        · go_wp2_with fail
          go_meet
          obtain rfl : k = 9 := by omega
          exact ⟨ho, hoi, hgb, hgo⟩
      · go_wp2_with fail
        go_meet
        have e : ns.take 9 = ns.take k := by rw [List.take_of_length_le (by omega), List.take_of_length_le (by omega)]
        rw [e]
        exact ⟨ho, hoi, hgb, hgo⟩
  case rest =>
    obtain ⟨hb, ho, hgb, hgo⟩ := hcut
    obtain ⟨X, hX⟩ : ∃ X, X = (ns.take 9).map wi := ⟨_, rfl⟩
    rw [← hX] at hb ho
    have hXl : X.length ≤ 9 := by rw [hX, List.length_map, List.length_take]; omega
    have hXr : ∀ x ∈ X, 0 ≤ x ∧ x ≤ 1099511627775 := by
      intro x hx
      rw [hX] at hx
      simp only [List.mem_map] at hx
      obtain ⟨z, _, rfl⟩ := hx
      exact wi_le z
    have HXR := Lib.hid hXr
    clear hX hXr hr0
    go_upto_block 2 with (fail)
    go_cut [8, 11] (fun b o w' => OwnB w' b (textsL ((ss.take 4).map (·.take 130))) ∧ OwnS w' o ((ss.take 4).map (·.take 130)) ∧ wc.grownBy w' none ∧ Grew wc w' (.slice none 0 0) b ∧ Grew wc w' (.slice none 0 0) o)
    case first =>
      go_wp2_with fail
      go_loopw [8, 11, 12] (fun b o i w' => ∃ k : Nat, k ≤ 4 ∧ k ≤ ss.length ∧ i = .int .i64 k ∧ OwnB w' b (textsL ((ss.take k).map (·.take 130))) ∧ OwnS w' o ((ss.take k).map (·.take 130)) ∧ Grew wc w' (.slice none 0 0) b ∧ Grew wc w' (.slice none 0 0) o) (fun _ _ i _ => 4 - (intOf i).toNat)
      case atStart => exact ⟨0, by omega, by omega, rfl, OwnB.nil _, OwnV.nil _, Grew.refl _ _, Grew.refl _ _⟩
      case round =>
        obtain ⟨k, hk9, hkn, rfl, hob, hos, hGb, hGo⟩ := hrel
        by_cases hkl : k < ss.length
        · by_cases hk : k < 4
          · obtain ⟨ad, rfl, hcell⟩ := RdS.get ((hr1.kept hgb.nil).kept hGo.nil) hkl
            obtain ⟨z, hz⟩ : ∃ z, z = ss[k] := ⟨_, rfl⟩
            rw [← hz] at hcell
            have hzl : z.length ≤ 9223372036854775807 := by rw [hz]; exact hs1 _ (List.getElem_mem hkl)
            obtain ⟨m, hmin0, hm1, hm2⟩ := min_some z.length 130
            have hmin : (if (130 : Int) < (z.length : Int) then (130 : Int) else (z.length : Int)) = (m : Int) := hmin0
            clear hmin0
            have htm : z.take 130 = z.take m := take_min hmin
            obtain ⟨T, hT⟩ : ∃ T, T = z.take m := ⟨_, rfl⟩
            have hTl : T.length ≤ 130 := by rw [hT, List.length_take]; omega
            have hTv : Value.string ((⟨z.toArray⟩ : ByteArray).extract 0 m) = sv T := by rw [hT, extract_take]; rfl
            rw [← hT] at htm
            have HTV := Lib.hid hTv
            have HTM := Lib.hid htm
            clear hT htm hTv
            obtain ⟨X, hX⟩ : ∃ X, X = (ss.take k).map (·.take 130) := ⟨_, rfl⟩
            have hX1 : Hid ((ss.take (k + 1)).map (·.take 130) = X ++ [T]) := by show _ = _; rw [map_next (·.take 130) hkl, ← hX, ← hz]; rw [HTM.out]
            have hXl : Hid (X.length = k) := by show _ = _; rw [hX, List.length_map, List.length_take]; omega
            have hxl : (textsL X).length ≤ 1000 := by
              have h1 := textsL_len X 130 fun s h => by
                rw [hX] at h
                simp only [List.mem_map] at h
                obtain ⟨y, _, rfl⟩ := h
                rw [List.length_take]; omega
              rw [hXl.out] at h1
              omega
            rw [← hX] at hob hos
            have HZ := Lib.hid hz
            clear hz hX
            have hkl' : (k : Int) < (ss.length : Int) := by omega
            go_wp2_with fail
            go_region_law (first | (refine step_appV (v := u11) rfl _ _ 31 rfl Try.underlying31 info_str rfl rfl (hos.kept (grown_drew (grown_alloc (grown_refl _ _) _))) (news := [sv T]) rfl rfl ((rd_new _ _ _ _ (by show [_] = _; rw [HTV.out])).kept (grown_drew (grown_refl _ _))) (sv_ok _) (by simp [hXl.out]; omega) (by simp [hXl.out, maxLen]; omega) ?_; intro v1 w1 hos1 hg1))
            all_goals
              have hG1 := Grew.pre (grown_drew (grown_alloc (grown_refl wr none) _)) hg1
              have hap := hob.toV.apart hos (by decide)
              have hob1 : OwnB w1 u8 (textsL X) := hob.keep hG1.1 hap
              have hGo1 := hGo.trans hG1
              have hGb1 := hGb.keepNew hGo1.1
              obtain ⟨Y, hY⟩ : ∃ Y, Y = X ++ [T] := ⟨_, rfl⟩
              have hoY : OwnS w1 v1 Y := by rw [hY]; show OwnV _ _ _ ((X ++ [T]).map sv); rw [List.map_append]; exact hos1
              obtain ⟨hkY, hYk⟩ := last_get hY hXl.out
              obtain ⟨A9, c9, rfl, q1, q2, hr9⟩ := hoY.slice
              obtain ⟨ad9, rfl, hcell9⟩ := hr9.get hkY
              rw [hYk] at hcell9
              have HY := Lib.hid hY
              clear hY hYk hos1 hg1 hG1 hGo hGb hap hcell
              go_wp2_with (first | (go_at_call 14; refine (Text1_any _ _ T _ (rd_new _ _ _ _ rfl) (by omega)).mono ?_; rintro e w2 ⟨v2, rfl, ho2, hg2⟩; obtain ⟨A2, c2, rfl, q3, q4, hr2⟩ := ho2.slice; have hw12 := grown_none (grown_alloc (grown_refl w1 none) _) hg2.nil) | (at_builtin; refine wpList_appB (v := u8) _ rfl _ _ rfl rfl (hob1.kept hw12) (news := textL T) rfl rfl hr2 (by have := putL_len T.length; simp only [textL, List.length_append]; omega) ?_; intro v3 w3 ho3 hg3))
              have hap2 := (hoY.kept hw12).apart (hob1.kept hw12).toV (by decide)
              have hoY3 : OwnS w3 (.slice (some ad9) Y.length c9) Y := (hoY.kept hw12).keep hg3.1 hap2
              have hGb3 := (hGb1.post hw12).trans hg3
              have hGo3 := hGo1.keepNew hGb3.1
              go_roundw
              case rel => exact ⟨k + 1, by omega, by omega, by go_num, by rw [hX1.out, textsL_snoc]; exact ho3, by rw [hX1.out, ← HY.out]; exact hoY3, hGb3, hGo3⟩
              case measure => simp [intOf]; omega
          · go_wp2_with fail
            go_meet
            obtain rfl : k = 4 := by omega
            exact ⟨hob, hos, hGb.nil, hGb, hGo⟩
        · go_wp2_with fail
          go_meet
          have e : ss.take 4 = ss.take k := by rw [List.take_of_length_le (by omega), List.take_of_length_le (by omega)]
          rw [e]
          exact ⟨hob, hos, hGb.nil, hGb, hGo⟩
    case rest =>
      obtain ⟨hB8, hO11, hcw, hG8, hG11⟩ := hcut
      obtain ⟨TT, hTT⟩ : ∃ TT, TT = (ss.take 4).map (·.take 130) := ⟨_, rfl⟩
      rw [← hTT] at hB8 hO11
      have hTl : TT.length ≤ 4 := by rw [hTT, List.length_map, List.length_take]; omega
      have hTr : ∀ s ∈ TT, s.length ≤ 130 := by
        intro s hs
        rw [hTT] at hs
        simp only [List.mem_map] at hs
        obtain ⟨y, _, rfl⟩ := hs
        rw [List.length_take]; omega
      have HTR := Lib.hid hTr
      clear hTT hTr hr1 hs1
      have hW1 := grown_none hgb.nil hcw
      obtain ⟨A9, c9, rfl, e1, e2, hr9⟩ := OwnI.slice (OwnV.kept ho hcw)
      obtain ⟨A7, c7, rfl, e3, e4, hr7⟩ := (hb.kept hcw).slice
      obtain ⟨A11, c11, rfl, e5, e6, hr11⟩ := hO11.slice
      obtain ⟨A8, c8, rfl, e7, e8, hr8⟩ := hB8.slice
      have hpl : (putsL X).length ≤ 54 := by have := putsL_len X; omega
      have htl : (textsL TT).length ≤ 600 := by have := textsL_len TT 130 HTR.out; omega
      have h9lt : ∀ ad, A9 = some ad → ad.block < wc.heap.size := fun ad e => (OwnV.kept ho hcw).lt ad.block (by rw [e]; rfl)
      have h11lt : ∀ ad, A11 = some ad → ad.block < wc.heap.size := fun ad e => hO11.lt ad.block (by rw [e]; rfl)
      clear hgo ho hgb hb hG11 hO11 hG8 hB8 hcw
      obtain ⟨B, hB⟩ : ∃ B, B = putsL X := ⟨_, rfl⟩
      obtain ⟨S, hS⟩ : ∃ S, S = textsL TT := ⟨_, rfl⟩
      rw [← hB] at hr7 e3 hpl ⊢
      rw [← hS] at hr8 e7 htl ⊢
      have HB := Lib.hid hB
      have HS := Lib.hid hS
      clear hB hS
      go_wp2_with fail
      refine (Put_any _ _ X _ hr9 (by omega)).mono ?_
      rintro e v1w ⟨v1, rfl, ho1, hg1⟩
      rw [← HB.out] at ho1
      obtain ⟨B1, d1, rfl, f1, f2, hrb1⟩ := ho1.slice
      have hW2 := grown_none hW1 hg1.nil
      go_wp2_with fail
      refine (sameB_true _ _ B B _ _ _ _ _ hrb1 (hr7.kept hg1.nil) rfl rfl (by unfold maxLen; omega) rfl).mono ?_
      rintro e w2 ⟨rfl, hg2⟩
      have hw2 := grown_none hg1.nil hg2
      go_wp2_with fail
      refine (Text_any _ _ TT _ (hr11.kept hw2) (by omega) (fun s hs => by have := HTR.out s hs; omega)).mono ?_
      rintro e w3 ⟨v3, rfl, ho3, hg3⟩
      rw [← HS.out] at ho3
      obtain ⟨B3, d3, rfl, f3, f4, hrb3⟩ := ho3.slice
      have hw3 := grown_none hw2 hg3.nil
      go_wp2_with fail
      refine (sameB_true _ _ S S _ _ _ _ _ hrb3 (hr8.kept hw3) rfl rfl (by unfold maxLen; omega) rfl).mono ?_
      rintro e w4 ⟨rfl, hg4⟩
      have hw4 := grown_none hw3 hg4
      go_wp2_with fail
      refine (Hash0_any _).mono ?_
      rintro e w5 ⟨v5, rfl, ho5, hg5⟩
      obtain ⟨B5, d5, rfl, f5, f6, hrb5⟩ := ho5.slice
      have hw5 := grown_none hw4 hg5.nil
      have hown := ownB_new w5 #[] [] 0 rfl rfl (Nat.zero_le _)
      have hr7' : RdB w5 A7 B := hr7.kept hw5
      clear hrb1 hrb3 hrb5 ho1 ho3 ho5 hg1 hg2 hg3 hg4 hg5 hw2 hw3 hw4 hW2
      go_wp2_with (at_builtin; refine wpList_appB _ rfl _ _ rfl rfl hown (news := B) rfl rfl (hr7'.alloc _) (by simp; omega) ?_)
      intro v6 w6 ho6 hg6
      have hG6 := hg6.fresh
      have hw6 := grown_none hw5 hG6.nil
      have ho6' : OwnB w6 v6 B := by simpa using ho6
      go_wp2_with (at_builtin; refine wpList_appB (v := v6) _ rfl _ _ rfl rfl ho6' (news := S) rfl rfl (hr8.kept hw6) (by omega) ?_)
      intro v7 w7 ho7 hg7
      have hG7 := hG6.trans hg7
      have hw7 := grown_none hw5 hG7.nil
      obtain ⟨D, hD⟩ : ∃ D, D = B ++ S := ⟨_, rfl⟩
      rw [← hD] at ho7
      have hDl : D.length ≤ 654 := by rw [hD, List.length_append]; omega
      have HD := Lib.hid hD
      clear hD hg6 hg7 ho6 ho6' hG6 hw6 hown hr7' hG7
      obtain ⟨B7, d7, rfl, f7, f8, hrb7⟩ := ho7.slice
      go_wp2_with fail
      refine (Read_any _ _ _ _ hrb7 (by omega)).mono ?_
      rintro e w8 ⟨g, rfl, hgs, hR8, hg8⟩
      have hw8 := grown_none hw7 hg8
      have hW8 := grown_none hW1 hw8
      have hgwc : wc.heap.size ≤ g := Nat.le_trans hw7.size hgs
      have hr9' : RdI w8 A9 X := hr9.kept hw8
      have hr11' : RdS w8 A11 TT := hr11.kept hw8
      clear hr9 hr11 hr7 hr8 hg8 hw5 hw7 ho7 hrb7
      rw [HD.out, HB.out, HS.out] at hR8
      have hj := within_le (n := k) (lo := 1) (hi := 5) (by omega)
      obtain ⟨jv, hjv⟩ : ∃ jv, jv = within k 1 5 := ⟨_, rfl⟩
      have hJ : ∀ w : World, Calls Try.prog 20 #[.int .i64 k, .int .i64 1, .int .i64 5] w fun e w' => e = .returned (.int .i64 jv) ∧ w = w' := fun w => by rw [hjv]; exact Within_any k 1 5 w (by omega) (by omega) (by omega)
      rw [← hjv] at hj
      have HJ := Lib.hid hJ
      clear hjv hJ
      go_wp2
      go_loopw [105] (fun i w' => ∃ n : Nat, n ≤ X.length ∧ i = .int .i64 n ∧ IsR w' g (putsL (X.drop n) ++ textsL TT) false ∧ w8.grownBy w' (some g)) (fun i _ => X.length - (intOf i).toNat)
      case atStart => exact ⟨0, Nat.zero_le _, rfl, hR8, grown_refl _ _⟩
      case round =>
        obtain ⟨n, hn, rfl, hRn, hgn⟩ := hrel
        by_cases hnl : n < X.length
        · have hr9n : RdI wr A9 X := hr9'.keep hgn (fun ad e er => by injection er with er; have := h9lt ad e; omega)
          obtain ⟨ad, hA, hcell⟩ := hr9n.get hnl
          obtain ⟨z, hz⟩ : ∃ z, z = X[n] := ⟨_, rfl⟩
          rw [← hz] at hcell
          have hzr : 0 ≤ z ∧ z ≤ 1099511627775 := by rw [hz]; exact HXR.out _ (List.getElem_mem hnl)
          obtain ⟨m, rfl⟩ := Int.eq_ofNat_of_zero_le hzr.1
          have hN := Number_any g (putsL (X.drop n) ++ textsL TT, false) _ hRn
          rw [show rNum (putsL (X.drop n) ++ textsL TT, false) = (m, (putsL (X.drop (n + 1)) ++ textsL TT, false)) from by
            rw [drop_one hnl, putsL_cons, ← hz, List.append_assoc, putL_some (by omega)]
            exact rNum_read m _ _ (by omega)] at hN
          subst hA
          have HN := Lib.hid hN
          clear hN hz hzr
          go_wp2_with (go_at_call 10; refine HN.out.mono ?_; rintro e w9 ⟨rfl, hR9, hg9⟩)
          go_roundw
          case rel => exact ⟨n + 1, by omega, by go_num, hR9, grown_same hgn hg9⟩
          case measure => simp [intOf]; omega
        · obtain rfl : n = X.length := by omega
          have hRt : IsR wr g (textsL TT) false := by rw [List.drop_length] at hRn; exact hRn
          clear hRn
          go_wp2
          go_loopw [116] (fun i w' => ∃ n : Nat, n ≤ TT.length ∧ i = .int .i64 n ∧ IsR w' g (textsL (TT.drop n)) false ∧ w8.grownBy w' (some g)) (fun i _ => TT.length - (intOf i).toNat)
          case atStart => exact ⟨0, Nat.zero_le _, rfl, hRt, hgn⟩
          case round =>
            clear hRt hgn
            obtain ⟨n, hn, rfl, hRn, hgn⟩ := hrel
            by_cases hnl : n < TT.length
            · have hr11n : RdS wr A11 TT := hr11'.keep hgn (fun ad e er => by injection er with er; have := h11lt ad e; omega)
              obtain ⟨ad, hA, hcell⟩ := hr11n.get hnl
              obtain ⟨z, hz⟩ : ∃ z, z = TT[n] := ⟨_, rfl⟩
              rw [← hz] at hcell
              have hzr : z.length ≤ 130 := by rw [hz]; exact HTR.out _ (List.getElem_mem hnl)
              have hN := RText_any g (textsL (TT.drop n), false) _ hRn
              rw [show rText (textsL (TT.drop n), false) = (z, (textsL (TT.drop (n + 1)), false)) from by
                rw [drop_one hnl, textsL_cons, ← hz]
                exact rText_read z _ _ (by omega)] at hN
              subst hA
              have HN := Lib.hid hN
              clear hN hz hzr
              go_wp2_with (go_at_call 21; refine HN.out.mono ?_; rintro e w9 ⟨rfl, hR9, hg9⟩)
              go_roundw
              case rel => exact ⟨n + 1, by omega, by go_num, hR9, grown_same hgn hg9⟩
              case measure => simp [intOf]; omega
            · obtain rfl : n = TT.length := by omega
              have hRe : IsR wr g [] false := by rw [List.drop_length] at hRn; exact hRn
              have hWr : W.grownBy wr none := grown_trans hW8 hgn (.inr fun r e => by injection e with e; have := hW1.size; omega)
              clear hRn hgn hn hnl
              have hcases : jv = 1 ∨ jv = 2 ∨ jv = 3 ∨ jv = 4 ∨ jv = 5 := by omega
              have hl6 := len_max
              rcases hcases with rfl | rfl | rfl | rfl | rfl
              · obtain ⟨hla, hlb⟩ := len_128
                go_wp2_with fail
                refine (HJ.out _).mono ?_
                rintro e w' ⟨rfl, rfl⟩
                go_wp2_with fail
                refine (Put1_any _ _ 128 _ (rd_new _ _ _ _ rfl)).mono ?_
                rintro e y1 ⟨u1, rfl, ho1, hg1⟩
                obtain ⟨E1, k1, rfl, _, _, _⟩ := ho1.slice
                have hy1 := grown_none (grown_alloc (grown_refl wr none) _) hg1.nil
                go_wp2_with fail
                refine (Done_any g ([], false) _ (hRe.kept hy1)).mono ?_
                rintro e w' ⟨rfl, rfl⟩
                go_wp2_with fail
                refine (Put1_any _ _ 127 _ (rd_new _ _ _ _ rfl)).mono ?_
                rintro e y2 ⟨u2, rfl, ho2, hg2⟩
                obtain ⟨E2, k2, rfl, _, _, _⟩ := ho2.slice
                have hy2 := grown_none (grown_alloc hy1 _) hg2.nil
                go_wp2_with fail
                refine (Put1_any _ _ 1099511627775 _ (rd_new _ _ _ _ rfl)).mono ?_
                rintro e y3 ⟨u3, rfl, ho3, hg3⟩
                obtain ⟨E3, k3, rfl, _, _, _⟩ := ho3.slice
                have hy3 := grown_none (grown_alloc hy2 _) hg3.nil
                go_wp2_with fail
                refine (VintRuns_any _).mono ?_
                rintro e y4 ⟨rfl, hg4⟩
                go_wp2
                go_ret
                exact ⟨rfl, grown_none (grown_none hWr hy3) hg4⟩
              · obtain ⟨hla, hlb⟩ := len_16384
                go_wp2_with fail
                refine (HJ.out _).mono ?_
                rintro e w' ⟨rfl, rfl⟩
                go_wp2_with fail
                refine (Put1_any _ _ 16384 _ (rd_new _ _ _ _ rfl)).mono ?_
                rintro e y1 ⟨u1, rfl, ho1, hg1⟩
                obtain ⟨E1, k1, rfl, _, _, _⟩ := ho1.slice
                have hy1 := grown_none (grown_alloc (grown_refl wr none) _) hg1.nil
                go_wp2_with fail
                refine (Done_any g ([], false) _ (hRe.kept hy1)).mono ?_
                rintro e w' ⟨rfl, rfl⟩
                go_wp2_with fail
                refine (Put1_any _ _ 16383 _ (rd_new _ _ _ _ rfl)).mono ?_
                rintro e y2 ⟨u2, rfl, ho2, hg2⟩
                obtain ⟨E2, k2, rfl, _, _, _⟩ := ho2.slice
                have hy2 := grown_none (grown_alloc hy1 _) hg2.nil
                go_wp2_with fail
                refine (Put1_any _ _ 1099511627775 _ (rd_new _ _ _ _ rfl)).mono ?_
                rintro e y3 ⟨u3, rfl, ho3, hg3⟩
                obtain ⟨E3, k3, rfl, _, _, _⟩ := ho3.slice
                have hy3 := grown_none (grown_alloc hy2 _) hg3.nil
                go_wp2_with fail
                refine (VintRuns_any _).mono ?_
                rintro e y4 ⟨rfl, hg4⟩
                go_wp2
                go_ret
                exact ⟨rfl, grown_none (grown_none hWr hy3) hg4⟩
              · obtain ⟨hla, hlb⟩ := len_2097152
                go_wp2_with fail
                refine (HJ.out _).mono ?_
                rintro e w' ⟨rfl, rfl⟩
                go_wp2_with fail
                refine (Put1_any _ _ 2097152 _ (rd_new _ _ _ _ rfl)).mono ?_
                rintro e y1 ⟨u1, rfl, ho1, hg1⟩
                obtain ⟨E1, k1, rfl, _, _, _⟩ := ho1.slice
                have hy1 := grown_none (grown_alloc (grown_refl wr none) _) hg1.nil
                go_wp2_with fail
                refine (Done_any g ([], false) _ (hRe.kept hy1)).mono ?_
                rintro e w' ⟨rfl, rfl⟩
                go_wp2_with fail
                refine (Put1_any _ _ 2097151 _ (rd_new _ _ _ _ rfl)).mono ?_
                rintro e y2 ⟨u2, rfl, ho2, hg2⟩
                obtain ⟨E2, k2, rfl, _, _, _⟩ := ho2.slice
                have hy2 := grown_none (grown_alloc hy1 _) hg2.nil
                go_wp2_with fail
                refine (Put1_any _ _ 1099511627775 _ (rd_new _ _ _ _ rfl)).mono ?_
                rintro e y3 ⟨u3, rfl, ho3, hg3⟩
                obtain ⟨E3, k3, rfl, _, _, _⟩ := ho3.slice
                have hy3 := grown_none (grown_alloc hy2 _) hg3.nil
                go_wp2_with fail
                refine (VintRuns_any _).mono ?_
                rintro e y4 ⟨rfl, hg4⟩
                go_wp2
                go_ret
                exact ⟨rfl, grown_none (grown_none hWr hy3) hg4⟩
              · obtain ⟨hla, hlb⟩ := len_268435456
                go_wp2_with fail
                refine (HJ.out _).mono ?_
                rintro e w' ⟨rfl, rfl⟩
                go_wp2_with fail
                refine (Put1_any _ _ 268435456 _ (rd_new _ _ _ _ rfl)).mono ?_
                rintro e y1 ⟨u1, rfl, ho1, hg1⟩
                obtain ⟨E1, k1, rfl, _, _, _⟩ := ho1.slice
                have hy1 := grown_none (grown_alloc (grown_refl wr none) _) hg1.nil
                go_wp2_with fail
                refine (Done_any g ([], false) _ (hRe.kept hy1)).mono ?_
                rintro e w' ⟨rfl, rfl⟩
                go_wp2_with fail
                refine (Put1_any _ _ 268435455 _ (rd_new _ _ _ _ rfl)).mono ?_
                rintro e y2 ⟨u2, rfl, ho2, hg2⟩
                obtain ⟨E2, k2, rfl, _, _, _⟩ := ho2.slice
                have hy2 := grown_none (grown_alloc hy1 _) hg2.nil
                go_wp2_with fail
                refine (Put1_any _ _ 1099511627775 _ (rd_new _ _ _ _ rfl)).mono ?_
                rintro e y3 ⟨u3, rfl, ho3, hg3⟩
                obtain ⟨E3, k3, rfl, _, _, _⟩ := ho3.slice
                have hy3 := grown_none (grown_alloc hy2 _) hg3.nil
                go_wp2_with fail
                refine (VintRuns_any _).mono ?_
                rintro e y4 ⟨rfl, hg4⟩
                go_wp2
                go_ret
                exact ⟨rfl, grown_none (grown_none hWr hy3) hg4⟩
              · obtain ⟨hla, hlb⟩ := len_34359738368
                go_wp2_with fail
                refine (HJ.out _).mono ?_
                rintro e w' ⟨rfl, rfl⟩
                go_wp2_with fail
                refine (Put1_any _ _ 34359738368 _ (rd_new _ _ _ _ rfl)).mono ?_
                rintro e y1 ⟨u1, rfl, ho1, hg1⟩
                obtain ⟨E1, k1, rfl, _, _, _⟩ := ho1.slice
                have hy1 := grown_none (grown_alloc (grown_refl wr none) _) hg1.nil
                go_wp2_with fail
                refine (Done_any g ([], false) _ (hRe.kept hy1)).mono ?_
                rintro e w' ⟨rfl, rfl⟩
                go_wp2_with fail
                refine (Put1_any _ _ 34359738367 _ (rd_new _ _ _ _ rfl)).mono ?_
                rintro e y2 ⟨u2, rfl, ho2, hg2⟩
                obtain ⟨E2, k2, rfl, _, _, _⟩ := ho2.slice
                have hy2 := grown_none (grown_alloc hy1 _) hg2.nil
                go_wp2_with fail
                refine (Put1_any _ _ 1099511627775 _ (rd_new _ _ _ _ rfl)).mono ?_
                rintro e y3 ⟨u3, rfl, ho3, hg3⟩
                obtain ⟨E3, k3, rfl, _, _, _⟩ := ho3.slice
                have hy3 := grown_none (grown_alloc hy2 _) hg3.nil
                go_wp2_with fail
                refine (VintRuns_any _).mono ?_
                rintro e y4 ⟨rfl, hg4⟩
                go_wp2
                go_ret
                exact ⟨rfl, grown_none (grown_none hWr hy3) hg4⟩
-- THE ROW
set_option maxRecDepth 100000 in
theorem VintParts_lifted (os : Os) (started : os.Started) (H : Type) (enc : TypeId × Value → H) :
    ReturnsInHanded {} Try.checked os 7 .any (Rows.vintPartsSpec.pre6 enc Try.prog Try.f7 Rows.vintPartsRow.domain false) (Rows.vintPartsSpec.post enc Try.prog Try.f7 false true false false) := by
  refine returnsInHanded_of_change (C := Try.checked) Try.own started (by kernel_rfl) Try.func7
    (ChangeSpec.witness6 (enc := enc) (C := Try.checked) false ⟨#[], #[.slice none 0 0, .slice none 0 0, .int .i64 0], []⟩ 40 (by kernel_rfl) (by kernel_rfl) (by kernel_rfl) (by kernel_rfl)) ?_
  intro W base args ds gs before hval0 hW hcnd _
  have hW0 := hW
  have hval : ∀ (j : Nat) t v, Try.f7.params[j]? = some t → args[j]? = some v → Value.okWide Try.prog W .any base t v := hval0
  obtain ⟨p, q, hA0, hV, rfl, hfz, hnd⟩ := hW
  have hA : DataW.TrodAll enc Try.prog W 0 (fun _ => true) true Try.f7.params.toList args.toList ds p := hA0
  rw [Try.params7] at hA hval
  obtain ⟨v0, vs0, d0, ds0, p0, q0, hargs, rfl, rfl, h0, r0⟩ := trodAll_cons hA
  obtain ⟨v1, vs1, d1, ds1, p1, q1, rfl, rfl, rfl, h1, r1⟩ := trodAll_cons r0
  obtain ⟨v2, vs2, d2, ds2, p2, q2, rfl, rfl, rfl, h2, r2⟩ := trodAll_cons r1
  obtain ⟨rfl, rfl, rfl⟩ := trodAll_nil r2
  obtain ⟨xs⟩ := args
  simp only at hargs
  subst hargs
  obtain ⟨rfl, rfl⟩ := trodVars_none hV
  obtain ⟨A0, l0, c0, rfl, hc0, hm0, hr0, hb0⟩ := arg_ints Try.underlying30 Try.underlying3 (by kernel_rfl) (hval 0 _ _ rfl rfl) h0
  obtain ⟨A1, l1, c1, rfl, hc1, hm1, hr1, hb1⟩ := arg_texts Try.underlying31 Try.underlying9 (by kernel_rfl) (hval 1 _ _ rfl rfl) h1
  obtain ⟨n2, rfl, hlo2, hhi2⟩ := arg_int Try.underlying3 (hval 2 _ _ rfl rfl) h2
  refine (VintParts_any A0 l0 c0 A1 l1 c1 n2 W hr0 hc0 hm0 hr1 hc1 hm1 hb1).mono fun e W' ⟨he, hg⟩ => ?_
  subst he
  exact ⟨_, rfl, law_post Try.laidOut (by kernel_rfl) rfl Try.underlying4 rfl rfl hW0 hg⟩

theorem VintParts_holds : Rows.VintPartsSaid :=
  OpenClaim.holds_of_wide 7 Try.f7 rfl rfl rfl rfl rfl rfl rfl ⟨rfl, rfl, rfl, rfl, rfl⟩ rfl rfl rfl rfl rfl (by kernel_rfl) Try.func7 (by kernel_rfl)
    (of_decide_eq_true (by kernel_rfl)) (by unfold Func.isWrapper; first | (rw [if_pos (by decide +kernel)]; kernel_rfl) | (rw [if_neg (by decide +kernel)]; exact ⟨rfl, rfl⟩))
    (fun os started H enc _ => VintParts_lifted os started H enc)
end Go.Proofs.Ythccbbdabfpjcaa
