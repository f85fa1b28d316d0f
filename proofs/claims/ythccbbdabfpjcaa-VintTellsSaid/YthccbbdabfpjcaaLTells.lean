/- For any numbers, any texts, any hash VintTells returns true: numbers, texts and hashes are put as the document says. Nothing that was there changes. Condition: none. -/
import Derived.Test.YthccbbdabfpjcaaRoomy
import Derived.Test.YthccbbdabfpjcaaOps2
import Derived.Test.YthccbbdabfpjcaaLParts
import Derived.Deep.DeepCutAuto
import Derived.Deep.CutBlock
namespace Go.Proofs.Ythccbbdabfpjcaa
open Go.ChangeShapes Go.WideShapes Go.ChangeAt Go.RowKit

def tDie : Nat → Nat
  | 23 => 25 | 25 => 27 | _ => 99
def tS (t : Nat) : Bool := t == 6 || decide (65 ≤ t)
def tOwn (k : Nat) : Bool := k == 23 || k == 25
def tF (full mine texts want words part : Value) (n g : Nat) (B S h : List UInt8) : Nat → Value → World → Prop
  | 0 => fun v _ => v = full
  | 1 => fun v _ => v = mine
  | 2 => fun v _ => v = .int .i64 n
  | 3 => fun v _ => v = part
  | 4 => fun v w => ∃ A c, v = .slice A B.length c ∧ RdAt w A (B.map bv)
  | 5 => fun v _ => v = want
  | 8 => fun v _ => v = full
  | 9 => fun v _ => v = mine
  | 13 => fun v _ => v = texts
  | 14 => fun v w => ∃ A c, v = .slice A S.length c ∧ RdAt w A (S.map bv)
  | 15 => fun v _ => v = words
  | 19 => fun v _ => v = .agg (h.map bv).toArray
  | 20 => fun v _ => v = .agg (h.map bv).toArray
  | 21 => fun v w => ∃ A c, v = .slice A 2 c ∧ RdH w A [h, h]
  | 22 => fun v w => ∃ A c, v = .slice A (h ++ h).length c ∧ RdAt w A ((h ++ h).map bv)
  | 23 => fun v w => OwnB w v []
  | 24 => fun v _ => v = .slice (some ⟨g, 0, none⟩) 32 32
  | 25 => fun v w => OwnB w v h
  | 26 => fun v _ => v = .slice (some ⟨g, 0, none⟩) 32 32
  | 27 => fun v w => OwnB w v (h ++ h)
  | _ => fun v _ => v = .bool true
theorem tF_lasts (full mine texts want words part : Value) (n g : Nat) (B S h : List UInt8) : ∀ k, Lasts (tF full mine texts want words part n g B S h k) := by
  intro k
  unfold tF
  split <;> first | exact lasts_val _ | exact lasts_own _ | exact lasts_rd _ _ | exact lasts_rdH _ _
theorem lt_bool {v : Value} {b : Bool} (h : v = .bool b) {n : Nat} : ∀ g, v.ownBlock = some g → g < n := by
  subst h
  intro g e
  cases e
theorem Fresh.bool {own : Nat → Bool} {W : World} {i : Nat} {w : World} {row : Option Nat} {v : Value} {b : Bool} (h : v = .bool b) : Fresh own W i w row v := .inl (by rw [h]; rfl)
theorem lt_new (w : World) (o : Obj) {n c : Nat} : ∀ g, (Value.slice (some ⟨w.heap.size, 0, none⟩) n c).ownBlock = some g → g < (w.alloc o).heap.size := by
  intro g e
  cases e
  simp
theorem rd_of_own {w : World} {v : Value} {B l : List UInt8} (e : B = l) (h : OwnB w v l) : ∃ A c, v = .slice A B.length c ∧ RdAt w A (B.map bv) := by
  subst e
  obtain ⟨A, c, e, _, _, hr⟩ := h.slice
  exact ⟨A, c, e, hr⟩

set_option maxRecDepth 100000 in
set_option maxHeartbeats 2000000 in
theorem VintTells_any (A0 : Option Addr) (ns : List Int) (c0 : Nat) (A1 : Option Addr) (ss : List (List UInt8)) (c1 : Nat) (h : List UInt8) (W : World) (hr0 : RdI W A0 ns) (hc0 : ns.length ≤ c0) (hm0 : c0 ≤ maxLen)
    (hr1 : RdS W A1 ss) (hc1 : ss.length ≤ c1) (hm1 : c1 ≤ maxLen) (hs1 : ∀ s ∈ ss, s.length ≤ maxLen) (hh : h.length = 32) :
    Calls Try.prog 4 #[.slice A0 ns.length c0, .slice A1 ss.length c1, .agg (h.map bv).toArray] W fun e w' => e = .returned (.bool true) ∧ W.grownBy w' none := by
  have hm0' : c0 ≤ 9223372036854775807 := hm0
  have hn1' : ss.length ≤ 9223372036854775807 := Nat.le_trans hc1 hm1
  have hm1' : c1 ≤ 9223372036854775807 := hm1
  obtain ⟨m, hmin0, hmn, hm8⟩ := min_some ns.length 8
  have hmin : (if (8 : Int) < (ns.length : Int) then (8 : Int) else (ns.length : Int)) = (m : Int) := hmin0
  clear hmin0
  obtain ⟨L, hL⟩ : ∃ L, L = ns.take m := ⟨_, rfl⟩
  have hLl : Hid (L.length = m) := by show _ = _; rw [hL, List.length_take]; omega
  have hrL : RdI W A0 L := by rw [hL]; exact (by have := hr0.take m; rwa [← List.map_take] at this)
  clear hL
  have HH := Lib.hid hh
  clear hh
  have hb0 := heap_alloc_new W (.cells (h.map bv).toArray 33)
  have hown := ownV_new (W.alloc (.cells (h.map bv).toArray 33)) 3 #[] [] 0 rfl rfl (Nat.zero_le _)
  have hsz1 : (W.alloc (.cells (h.map bv).toArray 33)).heap.size = W.heap.size + 1 := by simp
  rw [hsz1] at hown
  have HSZ := Lib.hid hsz1
  clear hsz1
  go_enter Try.func4, Try.ntmps4
  go_wp2_with (at_builtin; go_loud (refine wpList_appV _ rfl _ _ 30 rfl Try.underlying30 info_int rfl rfl hown (news := L.map iv) rfl (by rw [List.length_map, hLl.out]) ((hrL.alloc _).alloc _) (iv_one L) ?c1 ?c2 ?_))
  case c1 => rw [List.length_map, hLl.out]; simp; omega
  case c2 => rw [List.length_map, hLl.out]; simp [maxLen]; omega
  intro v1 w1 ho1 hg1
  have hG1 : Grew (W.alloc (.cells (h.map bv).toArray 33)) w1 (.slice none 0 0) v1 := by rw [← HSZ.out] at hg1; exact hg1.fresh
  have hoL : OwnI w1 v1 L := ho1
  clear hown ho1 hg1 HSZ
  have hB1 := hG1.nil
  have hr1' : RdS w1 A1 ss := (hr1.alloc _).kept hB1
  have hL8 : L.length ≤ 8 := by rw [hLl.out]; exact hm8
  clear hr0 hmin hrL
  obtain ⟨A9, c9, rfl, q1, q2, hr9⟩ := hoL.slice
  have q2' : c9 ≤ 9223372036854775807 := q2
  go_upto_block 0 with (fail)
  go_cut [8] (fun b w' => OwnB w' b (putsL L) ∧ Grew w1 w' (.slice none 0 0) b)
  case first =>
    go_wp2_with fail
    go_loopw [8, 25] (fun b i w' => ∃ k : Nat, k ≤ L.length ∧ i = .int .i64 k ∧ OwnB w' b (putsL (L.take k)) ∧ Grew w1 w' (.slice none 0 0) b) (fun _ i _ => L.length - (intOf i).toNat)
    case atStart => exact ⟨0, Nat.zero_le _, rfl, OwnB.nil _, Grew.refl _ _⟩
    case round =>
      obtain ⟨k, hk, rfl, ho, hg⟩ := hrel
      have hle := putsL_len (L.take k)
      rw [List.length_take] at hle
      by_cases hlt : k < L.length
      · obtain ⟨ad, rfl, hc⟩ := RdI.get (hr9.kept hg.nil) hlt
        obtain ⟨z, hz⟩ : ∃ z, z = L[k] := ⟨_, rfl⟩
        rw [← hz] at hc
        have HZ := Lib.hid hz
        clear hz
        have hpz := putL_len z
        go_wp2_with (first | (go_at_call 15; refine (Put_ref z _).mono ?_; rintro e w2 ⟨v2, rfl, ho2, hg2⟩; obtain ⟨A2, c2, rfl, q3, q4, hr2⟩ := ho2.slice) | (at_builtin; refine wpList_appB _ rfl _ _ rfl rfl (ho.kept hg2.nil) (news := putL z) rfl rfl hr2 (by omega) ?_; intro v3 w3 ho3 hg3))
        go_roundw
        case rel => exact ⟨k + 1, by omega, by go_num, by rw [putsL_next hlt, ← HZ.out]; exact ho3, (hg.post hg2.nil).trans hg3⟩
        case measure => simp [intOf]; omega
      · go_wp2_with fail
        go_meet
        exact ⟨by rw [List.take_of_length_le (by omega)] at ho; exact ho, hg⟩
  case rest =>
    obtain ⟨hB8, hG8⟩ := hcut
    have hBc := grown_none hB1 hG8.nil
    have hoLc : OwnI wc (.slice A9 L.length c9) L := OwnV.kept hoL hG8.nil
    have hr1c := hr1'.kept hG8.nil
    obtain ⟨T5, hT5⟩ : ∃ T5, T5 = (ss.take 5).map (·.take 200) := ⟨_, rfl⟩
    have HT5 := Lib.hid hT5
    clear hT5
    go_upto_block 2 with (fail)
    go_cut [9, 12] (fun b o w' => OwnB w' b (textsL T5) ∧ OwnS w' o T5 ∧ wc.grownBy w' none ∧ Grew wc w' (.slice none 0 0) b ∧ Grew wc w' (.slice none 0 0) o)
    case first =>
      go_wp2_with fail
      go_loopw [9, 12, 13] (fun b o i w' => ∃ k : Nat, k ≤ 5 ∧ k ≤ ss.length ∧ i = .int .i64 k ∧ OwnB w' b (textsL ((ss.take k).map (·.take 200))) ∧ OwnS w' o ((ss.take k).map (·.take 200)) ∧ Grew wc w' (.slice none 0 0) b ∧ Grew wc w' (.slice none 0 0) o) (fun _ _ i _ => 5 - (intOf i).toNat)
      case atStart => exact ⟨0, by omega, by omega, rfl, OwnB.nil _, OwnV.nil _, Grew.refl _ _, Grew.refl _ _⟩
      case round =>
        obtain ⟨k, hk9, hkn, rfl, hob, hos, hGb, hGo⟩ := hrel
        by_cases hkl : k < ss.length
        · by_cases hk : k < 5
          · obtain ⟨ad, rfl, hcell⟩ := RdS.get (RdAt.kept hr1c hGo.nil) hkl
            obtain ⟨z, hz⟩ : ∃ z, z = ss[k] := ⟨_, rfl⟩
            rw [← hz] at hcell
            have hzl : z.length ≤ 9223372036854775807 := by rw [hz]; exact hs1 _ (List.getElem_mem hkl)
            obtain ⟨m, hmin0, hm1, hm2⟩ := min_some z.length 200
            have hmin : (if (200 : Int) < (z.length : Int) then (200 : Int) else (z.length : Int)) = (m : Int) := hmin0
            clear hmin0
            have htm : z.take 200 = z.take m := take_min hmin
            obtain ⟨T, hT⟩ : ∃ T, T = z.take m := ⟨_, rfl⟩
            have hTl : T.length ≤ 200 := by rw [hT, List.length_take]; omega
            have hTv : Value.string ((⟨z.toArray⟩ : ByteArray).extract 0 m) = sv T := by rw [hT, extract_take]; rfl
            rw [← hT] at htm
            have HTV := Lib.hid hTv
            have HTM := Lib.hid htm
            clear hT htm hTv
            obtain ⟨X, hX⟩ : ∃ X, X = (ss.take k).map (·.take 200) := ⟨_, rfl⟩
            have hX1 : Hid ((ss.take (k + 1)).map (·.take 200) = X ++ [T]) := by show _ = _; rw [map_next (·.take 200) hkl, ← hX, ← hz]; rw [HTM.out]
            have hXl : Hid (X.length = k) := by show _ = _; rw [hX, List.length_map, List.length_take]; omega
            have hxl : (textsL X).length ≤ 2000 := by
              have h1 := textsL_len X 200 fun s h => by
                rw [hX] at h
                simp only [List.mem_map] at h
                obtain ⟨y, _, rfl⟩ := h
                rw [List.length_take]; omega
              rw [hXl.out] at h1
              omega
            rw [← hX] at hob hos
            have HZ := Lib.hid hz
            clear hz hX
            have hkl' : (k : Int) < (ss.length : Int) := by omega
            go_wp2_with fail
            go_quiet (fail)
            go_wp2_with (at_builtin; go_loud (refine wpList_appV (v := u12) _ rfl _ _ 31 rfl Try.underlying31 info_str rfl rfl (hos.kept (grown_alloc (grown_drewN (grown_refl _ _) _) _)) (news := [sv T]) rfl rfl (rd_new _ _ _ _ (by show [_] = _; rw [HTV.out])) (sv_ok _) (by simp [hXl.out]; omega) (by simp [hXl.out, maxLen]; omega) ?_; intro v3 w3 hos1 hg1))
            have hG1 := Grew.pre (grown_alloc (grown_drewN (grown_refl wr none) nq) _) hg1
            have hap := hob.toV.apart hos (by decide)
            have hob1 : OwnB w3 u9 (textsL X) := hob.keep hG1.1 hap
            have hGo1 := hGo.trans hG1
            have hGb1 := hGb.keepNew hGo1.1
            obtain ⟨Y, hY⟩ : ∃ Y, Y = X ++ [T] := ⟨_, rfl⟩
            have hoY : OwnS w3 v3 Y := by rw [hY]; show OwnV _ _ _ ((X ++ [T]).map sv); rw [List.map_append]; exact hos1
            have HY := Lib.hid hY
            clear hY hos1 hg1 hG1 hGo hGb hap hcell
            have hTR := Text_ref T w3 (by omega)
            rw [show Value.string ⟨T.toArray⟩ = Value.string ((⟨z.toArray⟩ : ByteArray).extract 0 m) from HTV.out.symm] at hTR
            have HTR := Lib.hid hTR
            clear hTR
            go_wp2_with fail
            refine HTR.out.mono ?_
            rintro e w4 ⟨v4, rfl, ho4, hg4⟩
            obtain ⟨A4, c4, rfl, q3, q4, hr4⟩ := ho4.slice
            have hpT := putL_len T.length
            have htl : (textL T).length ≤ 206 := by unfold textL; rw [List.length_append]; omega
            go_wp2_with (at_builtin; refine wpList_appB (v := u9) _ rfl _ _ rfl rfl (hob1.kept hg4.nil) (news := textL T) rfl rfl hr4 (by omega) ?_; intro v5 w5 ho5 hg5)
            have hap2 := (OwnV.kept hoY hg4.nil).apart (hob1.kept hg4.nil).toV (by decide)
            have hoY5 : OwnS w5 v3 Y := (OwnV.kept hoY hg4.nil).keep hg5.1 hap2
            have hGb5 := (hGb1.post hg4.nil).trans hg5
            have hGo5 := hGo1.keepNew hGb5.1
            go_roundw
            case rel => exact ⟨k + 1, by omega, by omega, by go_num, by rw [hX1.out, textsL_snoc]; exact ho5, by rw [hX1.out, ← HY.out]; exact hoY5, hGb5, hGo5⟩
            case measure => simp [intOf]; omega
          · go_wp2_with fail
            go_meet
            obtain rfl : k = 5 := by omega
            rw [HT5.out]
            exact ⟨hob, hos, hGb.nil, hGb, hGo⟩
        · go_wp2_with fail
          go_meet
          have e : ss.take 5 = ss.take k := by rw [List.take_of_length_le (by omega), List.take_of_length_le (by omega)]
          rw [HT5.out, e]
          exact ⟨hob, hos, hGb.nil, hGb, hGo⟩
    case rest =>
      obtain ⟨hB9, hO12, hcw, hG9, hG12⟩ := hcut
      have hT5l : T5.length ≤ 5 := by rw [HT5.out, List.length_map, List.length_take]; omega
      have hT5r : ∀ s ∈ T5, s.length ≤ 200 := by
        intro s hs
        rw [HT5.out] at hs
        simp only [List.mem_map] at hs
        obtain ⟨y, _, rfl⟩ := hs
        rw [List.length_take]; omega
      have HT5R := Lib.hid hT5r
      clear hT5r HT5 hr1 hs1 hr1c hr1'
      have hBw := grown_none hBc hcw
      have hoLw : OwnI wc (.slice A9 L.length c9) L := OwnV.kept hoLc hcw
      have hB8w := hB8.kept hcw
      have hB9w := hB9
      obtain ⟨A8, c8, rfl, e3, e4, hr8⟩ := hB8w.slice
      obtain ⟨A12, c12, rfl, e5, e6, hr12⟩ := hO12.slice
      obtain ⟨A11, c11, rfl, e7, e8, hr11⟩ := hB9.slice
      have hpl : (putsL L).length ≤ 48 := by have := putsL_len L; omega
      have htl : (textsL T5).length ≤ 1030 := by have := textsL_len T5 200 HT5R.out; omega
      obtain ⟨A9', c9', e9, q3, q4, hrL⟩ := hoLw.slice
      cases e9
      clear hG1 hG8 hB8 hB9 hG9 hG12 hoL hoLc hr9 hcw hBc hB1
      obtain ⟨B, hB⟩ : ∃ B, B = putsL L := ⟨_, rfl⟩
      obtain ⟨S, hS⟩ : ∃ S, S = textsL T5 := ⟨_, rfl⟩
      rw [← hB] at hr8 e3 hpl hB8w ⊢
      rw [← hS] at hr11 e7 htl hB9w ⊢
      have HB := Lib.hid hB
      have HS := Lib.hid hS
      clear hB hS
      go_wp2_with fail
      refine (RoomyI_any _ L _ 7 _ hrL (by omega)).mono ?_
      rintro e w2 ⟨v2, rfl, ho2, hg2⟩
      obtain ⟨A2, c2, rfl, f1, f2, hr2⟩ := ho2.slice
      have f2' : c2 ≤ 9223372036854775807 := f2
      rw [List.length_append, List.length_replicate] at f1 ⊢
      have hsc := hBw.size
      simp at hsc
      have hs2 := hg2.1.size
      have hltF : ∀ g, (Value.slice A2 (L.length + 80) c2).ownBlock = some g → g < w2.heap.size := fun g e => OwnV.lt ho2 g (by cases A2 <;> exact e)
      have hltP : ∀ g, (Value.slice A2 L.length c2).ownBlock = some g → g < w2.heap.size := fun g e => OwnV.lt ho2 g (by cases A2 <;> exact e)
      have hltO : ∀ g, (Value.slice A9 L.length c9).ownBlock = some g → g < w2.heap.size := fun g e => OwnV.lt (OwnV.kept hoLw hg2.nil) g e
      have hltB : ∀ g, (Value.slice A8 B.length c8).ownBlock = some g → g < w2.heap.size := fun g e => (hB8w.kept hg2.nil).lt g e
      have hltT : ∀ g, (Value.slice A12 T5.length c12).ownBlock = some g → g < w2.heap.size := fun g e => OwnV.lt (OwnV.kept hO12 hg2.nil) g e
      have hltS : ∀ g, (Value.slice A11 S.length c11).ownBlock = some g → g < w2.heap.size := fun g e => (hB9w.kept hg2.nil).lt g e
      have hltH : ∀ g, (Value.slice (some ⟨W.heap.size, 0, none⟩) 32 32).ownBlock = some g → g < w2.heap.size := fun g e => by
        cases e
        show W.heap.size < _
        omega
      have hLc2 : L.length ≤ c2 := by omega
      have hrF : RdI w2 A2 (L ++ List.replicate 80 7) := hr2
      have hrP : RdI w2 A2 L := by
        have := RdAt.take hr2 L.length
        simpa [RdI] using this
      have hrO : RdI w2 A9 L := RdAt.kept hrL hg2.nil
      have hrB : RdB w2 A8 B := RdAt.kept hr8 hg2.nil
      have hrT : RdS w2 A12 T5 := RdAt.kept hr12 hg2.nil
      have hrS : RdB w2 A11 S := RdAt.kept hr11 hg2.nil
      have hheap : ∀ {w : World}, w2.grownBy w none → w.heap[W.heap.size]? = some (.cells (h.map bv).toArray 33 (0, 0)) := fun {w} hg =>
        ((grown_none (grown_none hBw hg2.nil) hg).block W.heap.size (by simp) (by simp)).trans hb0
      go_wp2_with fail
      refine wp_region_go2 (N := 98) (S := tS) (die := tDie) (own := tOwn) (F := tF (.slice A2 (L.length + 80) c2) (.slice A9 L.length c9) (.slice A12 T5.length c12) (.slice A8 B.length c8) (.slice A11 S.length c11) (.slice A2 L.length c2) L.length W.heap.size B S h) (by kernel_rfl) (by kernel_rfl) (Nat.le_of_ble_eq_true (by kernel_rfl)) (tF_lasts _ _ _ _ _ _ _ _ _ _ _) ?_ ?_
      · intro i o L' a w K hi ho hg hLi hout hpre houter hitem h1 h2
        have hcases : i = 0 ∨ i = 1 ∨ i = 2 ∨ i = 3 ∨ i = 4 ∨ i = 5 ∨ i = 6 ∨ i = 7 ∨ i = 8 ∨ i = 9 ∨ i = 10 ∨ i = 11 ∨ i = 12 ∨ i = 13 ∨ i = 14 ∨ i = 15 ∨ i = 16 ∨ i = 17 ∨ i = 18 ∨ i = 19 ∨ i = 20 ∨ i = 21 ∨ i = 22 ∨ i = 23 ∨ i = 24 ∨ i = 25 ∨ i = 26 ∨ i = 27 ∨ i = 28 ∨ i = 29 ∨ i = 30 ∨ i = 31 ∨ i = 32 ∨ i = 33 := by
          have : i < 34 := hi
          omega
        rcases hcases with rfl | rfl | rfl | rfl | rfl | rfl | rfl | rfl | rfl | rfl | rfl | rfl | rfl | rfl | rfl | rfl | rfl | rfl | rfl | rfl | rfl | rfl | rfl | rfl | rfl | rfl | rfl | rfl | rfl | rfl | rfl | rfl | rfl | rfl
        · cases (show some _ = some o from ho)
          refine ⟨rfl, wp_move rfl (h1 _ _ (grown_refl _ none) (houter _ rfl) ?_ ?_)⟩
          · rw [houter _ rfl]; exact fun g e => Nat.lt_of_lt_of_le (hltF g e) hg.size
          · rw [houter _ rfl]; exact Fresh.old rfl hltF
        · cases (show some _ = some o from ho)
          refine ⟨rfl, wp_move rfl (h1 _ _ (grown_refl _ none) (houter _ rfl) ?_ ?_)⟩
          · rw [houter _ rfl]; exact fun g e => Nat.lt_of_lt_of_le (hltO g e) hg.size
          · rw [houter _ rfl]; exact Fresh.old rfl hltO
        · cases (show some _ = some o from ho)
          exact ⟨rfl, wp_len rfl (by kernel_rfl) (hitem 1 (by decide) ⟨hpre 1 rfl, hout _ (by decide)⟩) (h1 _ _ (grown_refl _ none) rfl (fun g e => by cases e) (.inl rfl))⟩
        · cases (show some _ = some o from ho)
          exact ⟨rfl, wp_slice_hi rfl (hitem 0 (by decide) ⟨hpre 0 rfl, hout _ (by decide)⟩) (hitem 2 (by decide) ⟨hpre 2 rfl, hout _ (by decide)⟩) (sl_int A2 _ c2 L.length hLc2 w) (h1 _ _ (grown_refl _ none) rfl (fun g e => Nat.lt_of_lt_of_le (hltP g e) hg.size) (Fresh.old rfl hltP))⟩
        · cases (show some _ = some o from ho)
          exact ⟨rfl, wp_puts rfl (hitem 3 (by decide) ⟨hpre 3 rfl, hout _ (by decide)⟩) (hrP.kept hg) rfl (by omega) (fun v w' hv hw => h1 v w' hw.nil (rd_of_own HB.out hv) (fun g e => hv.lt _ e) (Fresh.ofNil hw))⟩
        · cases (show some _ = some o from ho)
          refine ⟨rfl, wp_move rfl (h1 _ _ (grown_refl _ none) (houter _ rfl) ?_ ?_)⟩
          · rw [houter _ rfl]; exact fun g e => Nat.lt_of_lt_of_le (hltB g e) hg.size
          · rw [houter _ rfl]; exact Fresh.old rfl hltB
        · cases (show some _ = some o from ho)
          obtain ⟨A, c, hx, hr⟩ := hitem 4 (by decide) ⟨hpre 4 rfl, hout _ (by decide)⟩
          exact ⟨rfl, wp_sameB rfl hx (hitem 5 (by decide) ⟨hpre 5 rfl, hout _ (by decide)⟩) hr (hrB.kept hg) rfl rfl (by unfold maxLen; omega) (fun w' hg' => h1 _ _ hg' rfl (lt_bool rfl) (Fresh.bool rfl))⟩
        · cases (show some _ = some o from ho)
          have hx := hitem 6 (by decide) ⟨hpre 6 rfl, hout _ (by decide)⟩
          exact ⟨rfl, wp_move rfl (h1 _ _ (grown_refl _ none) hx (lt_bool hx) (Fresh.bool hx))⟩
        · cases (show some _ = some o from ho)
          refine ⟨wanted_of (j := 7) rfl rfl (hitem 7 (by decide) ⟨hpre 7 rfl, hout _ (by decide)⟩), wp_move rfl (h1 _ _ (grown_refl _ none) (houter _ rfl) ?_ ?_)⟩
          · rw [houter _ rfl]; exact fun g e => Nat.lt_of_lt_of_le (hltF g e) hg.size
          · rw [houter _ rfl]; exact Fresh.old rfl hltF
        · cases (show some _ = some o from ho)
          refine ⟨wanted_of (j := 7) rfl rfl (hitem 7 (by decide) ⟨hpre 7 rfl, hout _ (by decide)⟩), wp_move rfl (h1 _ _ (grown_refl _ none) (houter _ rfl) ?_ ?_)⟩
          · rw [houter _ rfl]; exact fun g e => Nat.lt_of_lt_of_le (hltO g e) hg.size
          · rw [houter _ rfl]; exact Fresh.old rfl hltO
        · cases (show some _ = some o from ho)
          exact ⟨wanted_of (j := 7) rfl rfl (hitem 7 (by decide) ⟨hpre 7 rfl, hout _ (by decide)⟩), wp_intact rfl (hitem 8 (by decide) ⟨hpre 8 rfl, hout _ (by decide)⟩) (hitem 9 (by decide) ⟨hpre 9 rfl, hout _ (by decide)⟩) rfl (hrF.kept hg) (hrO.kept hg) rfl rfl f1 f2 (by omega) (fun w' hg' => h1 _ _ hg' rfl (lt_bool rfl) (Fresh.bool rfl))⟩
        · cases (show some _ = some o from ho)
          have hc := hitem 7 (by decide) ⟨hpre 7 rfl, hout _ (by decide)⟩
          have hx := hitem 10 (by decide) ⟨hpre 10 rfl, hout _ (by decide)⟩
          exact ⟨rfl, wp_pick rfl hc (h1 _ _ (grown_refl _ none) hx (lt_bool hx) (Fresh.bool hx))⟩
        · cases (show some _ = some o from ho)
          have hx := hitem 11 (by decide) ⟨hpre 11 rfl, hout _ (by decide)⟩
          exact ⟨rfl, wp_move rfl (h1 _ _ (grown_refl _ none) hx (lt_bool hx) (Fresh.bool hx))⟩
        · cases (show some _ = some o from ho)
          refine ⟨wanted_of (j := 12) rfl rfl (hitem 12 (by decide) ⟨hpre 12 rfl, hout _ (by decide)⟩), wp_move rfl (h1 _ _ (grown_refl _ none) (houter _ rfl) ?_ ?_)⟩
          · rw [houter _ rfl]; exact fun g e => Nat.lt_of_lt_of_le (hltT g e) hg.size
          · rw [houter _ rfl]; exact Fresh.old rfl hltT
        · cases (show some _ = some o from ho)
          exact ⟨wanted_of (j := 12) rfl rfl (hitem 12 (by decide) ⟨hpre 12 rfl, hout _ (by decide)⟩), wp_texts rfl (hitem 13 (by decide) ⟨hpre 13 rfl, hout _ (by decide)⟩) (hrT.kept hg) rfl (by omega) (fun s hs => by have := HT5R.out s hs; omega) (fun v w' hv hw => h1 v w' hw.nil (rd_of_own HS.out hv) (fun g e => hv.lt _ e) (Fresh.ofNil hw))⟩
        · cases (show some _ = some o from ho)
          refine ⟨wanted_of (j := 12) rfl rfl (hitem 12 (by decide) ⟨hpre 12 rfl, hout _ (by decide)⟩), wp_move rfl (h1 _ _ (grown_refl _ none) (houter _ rfl) ?_ ?_)⟩
          · rw [houter _ rfl]; exact fun g e => Nat.lt_of_lt_of_le (hltS g e) hg.size
          · rw [houter _ rfl]; exact Fresh.old rfl hltS
        · cases (show some _ = some o from ho)
          obtain ⟨A, c, hx, hr⟩ := hitem 14 (by decide) ⟨hpre 14 rfl, hout _ (by decide)⟩
          exact ⟨wanted_of (j := 12) rfl rfl (hitem 12 (by decide) ⟨hpre 12 rfl, hout _ (by decide)⟩), wp_sameB rfl hx (hitem 15 (by decide) ⟨hpre 15 rfl, hout _ (by decide)⟩) hr (hrS.kept hg) rfl rfl (by unfold maxLen; omega) (fun w' hg' => h1 _ _ hg' rfl (lt_bool rfl) (Fresh.bool rfl))⟩
        · cases (show some _ = some o from ho)
          have hc := hitem 12 (by decide) ⟨hpre 12 rfl, hout _ (by decide)⟩
          have hx := hitem 16 (by decide) ⟨hpre 16 rfl, hout _ (by decide)⟩
          exact ⟨rfl, wp_pick rfl hc (h1 _ _ (grown_refl _ none) hx (lt_bool hx) (Fresh.bool hx))⟩
        · cases (show some _ = some o from ho)
          have hx := hitem 17 (by decide) ⟨hpre 17 rfl, hout _ (by decide)⟩
          exact ⟨rfl, wp_move rfl (h1 _ _ (grown_refl _ none) hx (lt_bool hx) (Fresh.bool hx))⟩
        · cases (show some _ = some o from ho)
          exact ⟨wanted_of (j := 18) rfl rfl (hitem 18 (by decide) ⟨hpre 18 rfl, hout _ (by decide)⟩), wp_loadH rfl (houter _ rfl) HH.out (hheap hg) (h1 _ _ (grown_refl _ none) rfl (fun g e => by cases e) (.inl rfl))⟩
        · cases (show some _ = some o from ho)
          exact ⟨wanted_of (j := 18) rfl rfl (hitem 18 (by decide) ⟨hpre 18 rfl, hout _ (by decide)⟩), wp_loadH rfl (houter _ rfl) HH.out (hheap hg) (h1 _ _ (grown_refl _ none) rfl (fun g e => by cases e) (.inl rfl))⟩
        · cases (show some _ = some o from ho)
          exact ⟨wanted_of (j := 18) rfl rfl (hitem 18 (by decide) ⟨hpre 18 rfl, hout _ (by decide)⟩), wp_lit2 rfl (hitem 19 (by decide) ⟨hpre 19 rfl, hout _ (by decide)⟩) (hitem 20 (by decide) ⟨hpre 20 rfl, hout _ (by decide)⟩) (lit_two h HH.out _) (h1 _ _ (grown_alloc (grown_refl _ _) _) ⟨_, _, rfl, rdH_two _ _ HH.out _⟩ (lt_new _ _) Fresh.lit)⟩
        · cases (show some _ = some o from ho)
          obtain ⟨A, c, hx, hr⟩ := hitem 21 (by decide) ⟨hpre 21 rfl, hout _ (by decide)⟩
          exact ⟨wanted_of (j := 18) rfl rfl (hitem 18 (by decide) ⟨hpre 18 rfl, hout _ (by decide)⟩), wp_hash2 rfl hx hr HH.out (fun v w' hv hw => h1 v w' hw.nil (rd_of_own rfl hv) (fun g e => hv.lt _ e) (Fresh.ofNil hw))⟩
        · cases (show some _ = some o from ho)
          exact ⟨wanted_of (j := 18) rfl rfl (hitem 18 (by decide) ⟨hpre 18 rfl, hout _ (by decide)⟩), wp_lit0 rfl (lit_none _) (h1 _ _ (grown_alloc (grown_refl _ _) _) (ownB_new _ #[] [] 0 rfl rfl (Nat.zero_le _)) (lt_new _ _) Fresh.lit)⟩
        · cases (show some _ = some o from ho)
          exact ⟨wanted_of (j := 18) rfl rfl (hitem 18 (by decide) ⟨hpre 18 rfl, hout _ (by decide)⟩), wp_slice_all rfl (houter _ rfl) (sl_hash _ _) (h1 _ _ (grown_refl _ none) rfl (fun g e => Nat.lt_of_lt_of_le (hltH g e) hg.size) (Fresh.old rfl hltH))⟩
        · cases (show some _ = some o from ho)
          exact ⟨wanted_of (j := 18) rfl rfl (hitem 18 (by decide) ⟨hpre 18 rfl, hout _ (by decide)⟩), wp_appB rfl rfl (hitem 23 (by decide) ⟨hpre 23 rfl, hLi⟩) (hitem 24 (by decide) ⟨hpre 24 rfl, hout _ (by decide)⟩) HH.out.symm (rd_row (hheap hg)) (by rw [HH.out]; decide) fun v w' hv hw => h2 23 v w' (by decide) ⟨hpre 23 rfl, hLi⟩ rfl rfl hw.1 hv (fun g e => hv.lt _ e) (Fresh.ofGrew hw)⟩
        · cases (show some _ = some o from ho)
          exact ⟨wanted_of (j := 18) rfl rfl (hitem 18 (by decide) ⟨hpre 18 rfl, hout _ (by decide)⟩), wp_slice_all rfl (houter _ rfl) (sl_hash _ _) (h1 _ _ (grown_refl _ none) rfl (fun g e => Nat.lt_of_lt_of_le (hltH g e) hg.size) (Fresh.old rfl hltH))⟩
        · cases (show some _ = some o from ho)
          exact ⟨wanted_of (j := 18) rfl rfl (hitem 18 (by decide) ⟨hpre 18 rfl, hout _ (by decide)⟩), wp_appB rfl rfl (hitem 25 (by decide) ⟨hpre 25 rfl, hLi⟩) (hitem 26 (by decide) ⟨hpre 26 rfl, hout _ (by decide)⟩) HH.out.symm (rd_row (hheap hg)) (by rw [HH.out]; decide) fun v w' hv hw => h2 25 v w' (by decide) ⟨hpre 25 rfl, hLi⟩ rfl rfl hw.1 hv (fun g e => hv.lt _ e) (Fresh.ofGrew hw)⟩
        · cases (show some _ = some o from ho)
          obtain ⟨A, c, hx, hr⟩ := hitem 22 (by decide) ⟨hpre 22 rfl, hout _ (by decide)⟩
          obtain ⟨A', c', hx', _, _, hr'⟩ := OwnB.slice (hitem 27 (by decide) ⟨hpre 27 rfl, hout _ (by decide)⟩)
          exact ⟨wanted_of (j := 18) rfl rfl (hitem 18 (by decide) ⟨hpre 18 rfl, hout _ (by decide)⟩), wp_sameB rfl hx hx' hr hr' rfl rfl (by rw [List.length_append, HH.out]; decide) (fun w' hg' => h1 _ _ hg' rfl (lt_bool rfl) (Fresh.bool rfl))⟩
        · cases (show some _ = some o from ho)
          have hc := hitem 18 (by decide) ⟨hpre 18 rfl, hout _ (by decide)⟩
          have hx := hitem 28 (by decide) ⟨hpre 28 rfl, hout _ (by decide)⟩
          exact ⟨rfl, wp_pick rfl hc (h1 _ _ (grown_refl _ none) hx (lt_bool hx) (Fresh.bool hx))⟩
        · cases (show some _ = some o from ho)
          have hx := hitem 29 (by decide) ⟨hpre 29 rfl, hout _ (by decide)⟩
          exact ⟨rfl, wp_move rfl (h1 _ _ (grown_refl _ none) hx (lt_bool hx) (Fresh.bool hx))⟩
        · cases (show some _ = some o from ho)
          exact ⟨wanted_of (j := 30) rfl rfl (hitem 30 (by decide) ⟨hpre 30 rfl, hout _ (by decide)⟩), wp_runs rfl (fun w' hg' => h1 _ _ hg' rfl (lt_bool rfl) (Fresh.bool rfl))⟩
        · cases (show some _ = some o from ho)
          have hc := hitem 30 (by decide) ⟨hpre 30 rfl, hout _ (by decide)⟩
          have hx := hitem 31 (by decide) ⟨hpre 31 rfl, hout _ (by decide)⟩
          exact ⟨rfl, wp_pick rfl hc (h1 _ _ (grown_refl _ none) hx (lt_bool hx) (Fresh.bool hx))⟩
        · cases (show some _ = some o from ho)
          have hx := hitem 32 (by decide) ⟨hpre 32 rfl, hout _ (by decide)⟩
          exact ⟨rfl, wp_assign rfl (h1 _ _ (grown_refl _ none) hx (lt_bool hx) (Fresh.bool hx))⟩
      · intro a w hg hend ha
        obtain ⟨hv, -⟩ := hend 33 (by decide) (by decide)
        obtain ⟨f, hf⟩ : ∃ f : Nat → Value, f = fun t => a.tmps.getD t undef := ⟨_, rfl⟩
        have h6 : f 6 = .bool true := by rw [hf]; exact hv
        rw [← hf] at ha
        clear hv hend
        clear hf
        subst ha
        simp only [fill, tS, Nat.reduceAdd, Nat.reduceBEq, Nat.reduceLeDiff, decide_false, decide_true, Bool.or_false, Bool.or_true, cond_true, cond_false, h6]
        go_wp2_with fail
        go_ret
        exact ⟨rfl, grown_none (grown_alloc (grown_refl _ _) _) (grown_none (grown_none hBw hg2.nil) hg)⟩
-- THE ROW
set_option maxRecDepth 100000 in
theorem VintTells_lifted (os : Os) (started : os.Started) (H : Type) (enc : TypeId × Value → H) :
    ReturnsInHanded {} Try.checked os 4 .any (Rows.vintTellsSpec.pre6 enc Try.prog Try.f4 Rows.vintTellsRow.domain false) (Rows.vintTellsSpec.post enc Try.prog Try.f4 false true false false) := by
  refine returnsInHanded_of_change (C := Try.checked) Try.own started (by kernel_rfl) Try.func4
    (ChangeSpec.witness6 (enc := enc) (C := Try.checked) false ⟨#[], #[.slice none 0 0, .slice none 0 0, .agg ((List.replicate 32 (.int .u8 0)).toArray)], []⟩ 40 (by kernel_rfl) (by kernel_rfl) (by kernel_rfl) (by kernel_rfl)) ?_
  intro W base args ds gs before hval0 hW hcnd _
  have hW0 := hW
  have hval : ∀ (j : Nat) t v, Try.f4.params[j]? = some t → args[j]? = some v → Value.okWide Try.prog W .any base t v := hval0
  obtain ⟨p, q, hA0, hV, rfl, hfz, hnd⟩ := hW
  have hA : DataW.TrodAll enc Try.prog W 0 (fun _ => true) true Try.f4.params.toList args.toList ds p := hA0
  rw [Try.params4] at hA hval
  obtain ⟨v0, vs0, d0, ds0, p0, q0, hargs, rfl, rfl, h0, r0⟩ := trodAll_cons hA
  obtain ⟨v1, vs1, d1, ds1, p1, q1, rfl, rfl, rfl, h1, r1⟩ := trodAll_cons r0
  obtain ⟨v2, vs2, d2, ds2, p2, q2, rfl, rfl, rfl, h2, r2⟩ := trodAll_cons r1
  obtain ⟨rfl, rfl, rfl⟩ := trodAll_nil r2
  obtain ⟨xs⟩ := args
  simp only at hargs
  subst hargs
  obtain ⟨rfl, rfl⟩ := trodVars_none hV
  obtain ⟨A0, l0, c0, rfl, hc0, hm0, hr0, hb0⟩ := arg_ints Try.underlying30 Try.underlying3 (by kernel_rfl) (hval 0 _ _ rfl rfl) h0
  obtain ⟨A1, l1, c1, rfl, hc1, hm1, hr1, hb1⟩ := arg_texts Try.underlying31 Try.underlying9 (by kernel_rfl) (hval 1 _ _ rfl rfl) h1
  obtain ⟨x2, rfl, hx2⟩ := arg_hash Try.underlying33 Try.underlying5 (by kernel_rfl) (by kernel_rfl) (hval 2 _ _ rfl rfl) h2
  refine (VintTells_any A0 l0 c0 A1 l1 c1 x2 W hr0 hc0 hm0 hr1 hc1 hm1 hb1 hx2).mono fun e W' ⟨he, hg⟩ => ?_
  subst he
  exact ⟨_, rfl, law_post Try.laidOut (by kernel_rfl) rfl Try.underlying4 rfl rfl hW0 hg⟩

theorem VintTells_holds : Rows.VintTellsSaid :=
  OpenClaim.holds_of_wide 4 Try.f4 rfl rfl rfl rfl rfl rfl rfl ⟨rfl, rfl, rfl, rfl, rfl⟩ rfl rfl rfl rfl rfl (by kernel_rfl) Try.func4 (by kernel_rfl)
    (of_decide_eq_true (by kernel_rfl)) (by unfold Func.isWrapper; first | (rw [if_pos (by decide +kernel)]; kernel_rfl) | (rw [if_neg (by decide +kernel)]; exact ⟨rfl, rfl⟩))
    (fun os started H enc _ => VintTells_lifted os started H enc)
end Go.Proofs.Ythccbbdabfpjcaa
