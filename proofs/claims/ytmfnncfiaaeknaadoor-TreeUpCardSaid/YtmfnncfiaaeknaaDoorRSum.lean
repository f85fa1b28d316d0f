/- The document's own SHA-256: the contract of affiantref1.Sum. -/
import Derived.Test.YtmfnncfiaaeknaaDoorBlock
import Derived.Test.YtmfnncfiaaeknaaDoorSum
namespace Go.Proofs.YtmfnncfiaaeknaaDoor
open Go.RowKit

set_option maxRecDepth 100000 in
set_option maxHeartbeats 1000000 in
theorem constants_any (w : World) :
    Calls Tryd.prog 45 #[] w fun e w' => e = .returned (.slice (some ⟨w.heap.size, 0, none⟩) 64 64) ∧ RdAt w' (some ⟨w.heap.size, 0, none⟩) (keysL.map wv) ∧ w.grownBy w' none := by
  go_enter Tryd.func45, Tryd.ntmps45
  go_wp2
  go_ret
  exact ⟨rfl, rd_row (cs := keysL.map wv) (heap_alloc_new _ _), grown_alloc (grown_refl _ _) _⟩

theorem len_val8 (n i : Nat) : (8 * (n : Int)) / 2 ^ (8 * i) % 256 = ((UInt8.ofNat (8 * n / 2 ^ (8 * i))).toNat : Int) := by
  rw [Int.mul_comm]; exact len_val n i
theorem out_next (S : St) : ∀ k, k < 8 → (outB S).take (4 * (k + 1)) = (outB S).take (4 * k) ++ bytesW (S.cells.getD k 0)
  | 0, _ => rfl
  | 1, _ => rfl
  | 2, _ => rfl
  | 3, _ => rfl
  | 4, _ => rfl
  | 5, _ => rfl
  | 6, _ => rfl
  | 7, _ => rfl
  | k + 8, h => absurd h (by omega)
theorem byte_at (x : UInt32) : (x.toNat : Int) / 16777216 % 256 = ((UInt8.ofNat (x.toNat / 2 ^ 24)).toNat : Int) ∧ (x.toNat : Int) / 65536 % 256 = ((UInt8.ofNat (x.toNat / 2 ^ 16)).toNat : Int) ∧ (x.toNat : Int) / 256 % 256 = ((UInt8.ofNat (x.toNat / 2 ^ 8)).toNat : Int) ∧ (x.toNat : Int) % 256 = ((UInt8.ofNat (x.toNat / 2 ^ 0)).toNat : Int) := by
  refine ⟨?_, ?_, ?_, ?_⟩ <;> rw [UInt8.toNat_ofNat'] <;> omega

theorem index_st (S : St) : ∀ (k : Nat), k < 8 → ∀ w : World, (Instr.index 67 (.agg (S.cells.map wv).toArray) (.int .i64 (k : Int))).run Tryd.prog w = .ok (.int .u32 ((S.cells.getD k 0).toNat : Int)) w
  | 0, _, w => by kernel_rfl
  | 1, _, w => by kernel_rfl
  | 2, _, w => by kernel_rfl
  | 3, _, w => by kernel_rfl
  | 4, _, w => by kernel_rfl
  | 5, _, w => by kernel_rfl
  | 6, _, w => by kernel_rfl
  | 7, _, w => by kernel_rfl
  | k + 8, h, _ => absurd h (by omega)
theorem ref_grown {w w1 w2 : World} {o o' : Obj} {C : Array Value} (h : (w.alloc o).grownBy w1 none) (hw : Hid ((w1.alloc o').setRow w1.heap.size C = w2)) : Hid (w.grownBy w2 none) := by
  show w.grownBy w2 none
  rw [← hw.out]
  have h1 := grown_same (grown_alloc (grown_refl w none) o) h
  exact grown_setRow (grown_alloc h1 _) (.inr h1.size) _

set_option maxRecDepth 100000 in
set_option maxHeartbeats 4000000 in
theorem RSum_any (A : Option Addr) (l : List UInt8) (c : Nat) (w : World) (hr : RdB w A l) (hb : l.length ≤ 1000000000) :
    Calls Tryd.prog 42 #[.slice A l.length c] w fun e w' => e = .returned (.agg ((sumL l).map bv).toArray) ∧ w.grownBy w' none := by
  go_enter Tryd.func42, Tryd.ntmps42
  go_wp2_with (first
    | (go_at_call 45; refine (constants_any _).mono ?_; rintro e w1 ⟨rfl, hk1, hg1⟩)
    | (refine wpList_store_row rfl 67 _ _ rfl w1.heap.size _ rfl rfl 67 _ (heap_alloc_new _ _) size_8 rfl (wv_all start.cells) ?_; generalize hw2 : World.setRow _ _ _ = w2; have HW2 := Lib.hid hw2; clear hw2; have hg2 := ref_grown hg1 HW2)
    | (at_builtin; refine wpList_appB _ rfl _ _ rfl rfl (ho3.alloc _) (news := [0x80]) rfl rfl (rdB_new _ _ _ _ rfl) (by rw [List.length_append]; simp; omega) ?_; intro v4 w4 ho4 hgr4)
    | (at_builtin; refine wpList_appB _ rfl _ _ rfl rfl (ownB_new w2 #[] [] 0 rfl rfl (Nat.zero_le _)) (news := l) rfl rfl ((hr.kept hg2.out).alloc _) (by simp; omega) ?_; intro v3 w3 ho3 hgr3))
  have hs1 : Hid (w.heap.size + 2 ≤ w1.heap.size) := by
    have h2 := hk1.lt (by simp [keysL]) _ rfl
    show _ ≤ _
    simp at h2
    omega
  have hw12 : w1.grownBy w2 none := by
    rw [← HW2.out]
    exact grown_setRow (grown_alloc (grown_refl w1 none) _) (.inr (Nat.le_refl _)) _
  have hK2 : RdAt w2 (some ⟨w.heap.size + 1, 0, none⟩) (keysL.map wv) := by
    have := hk1.kept hw12
    simpa using this
  have hS2 : Hid (w2.heap[w1.heap.size]? = some (.cells (start.cells.map wv).toArray 67 (0, 0))) := by
    show _ = _
    rw [← HW2.out]
    exact setRow_heap _ _ _ _ _ _ (heap_alloc_new _ _)
  have hR2 : Hid (w2.heap[w.heap.size]? = some (.cells (rowH []) 23 (0, 0))) := by
    show _ = _
    rw [hw12.block _ (by have := hs1.out; omega) (by simp), hg1.block _ (by simp) (by simp)]
    exact heap_alloc_new _ _
  have hgr : Grew w2 w4 (.slice none 0 0) v4 := Grew.trans (Grew.fresh hgr3) (Grew.pre (grown_alloc (grown_refl _ _) _) hgr4)
  have hs2 : Hid (w1.heap.size < w2.heap.size) := (Array.getElem?_eq_some_iff.1 hS2.out).1
  clear hk1 hg1 HW2 hw12 hgr3 hgr4 ho3
  obtain ⟨n, hn⟩ : ∃ n, n = l.length := ⟨_, rfl⟩
  obtain ⟨z, hz⟩ : ∃ z, z = 64 * ((n + 8) / 64 + 1) - 9 - n := ⟨_, rfl⟩
  have HN := Lib.hid hn
  have HZ := Lib.hid hz
  have ho4' : OwnB w4 v4 (l ++ 0x80 :: List.replicate 0 0) := by simpa using ho4
  clear ho4 hn hz
  go_loopw [5] (fun x wr => ∃ j : Nat, j ≤ z ∧ OwnB wr x (l ++ 0x80 :: List.replicate j 0) ∧ Grew w2 wr (.slice none 0 0) x) (fun x _ => n + 1 + z - lenOf x)
  case atStart => exact ⟨0, Nat.zero_le _, ho4', hgr⟩
  case round =>
    clear ho4' hgr
    obtain ⟨j, hj, ho, hgr⟩ := hrel
    have hol := ho
    obtain ⟨A5, c5, rfl, hA5, hA5', hr5⟩ := ho.slice
    have hlen : (l ++ 0x80 :: List.replicate j (0 : UInt8)).length = n + 1 + j := by rw [HN.out]; simp; omega
    obtain ⟨p, hp⟩ : ∃ p, p = n + 1 + j := ⟨_, rfl⟩
    rw [← hp] at hlen
    rw [hlen] at hol hgr hA5 ⊢
    have HP := Lib.hid hp
    have HLn := Lib.hid hlen
    clear hlen hp
    by_cases hlt : j < z
    · have hm : ¬ p % 64 = 56 := by have := HP.out; have := HZ.out; omega
      have hmb : ((p % 64 : Nat) : Int) ≠ 56 := by omega
      go_wp2_with (at_builtin; refine wpList_appB (v := .slice A5 p c5) _ rfl _ _ rfl rfl (hol.alloc _) (news := [0]) rfl rfl (rdB_new _ _ _ _ rfl) (by have := HLn.out; have := HP.out; have := HZ.out; have := HN.out; simp at *; omega) ?_; intro v6 w6 ho6 hgr6)
      have ho6' : OwnB w6 v6 (l ++ 0x80 :: List.replicate (j + 1) 0) := by
        rw [List.replicate_succ']; simpa using ho6
      obtain ⟨A6, c6, rfl, _, _, _⟩ := ho6.slice
      refine ⟨⟨j + 1, by omega, ho6', hgr.trans (Grew.pre (grown_alloc (grown_refl _ _) _) hgr6)⟩, ?_⟩
      have h1 := HLn.out
      have h2 := HN.out
      have h3 := HP.out
      show n + 1 + z - (l ++ 128 :: List.replicate j 0 ++ [0]).length < n + 1 + z - p
      rw [List.length_append, h1, List.length_singleton]
      omega
    · have hjz : j = z := by omega
      subst hjz
      have hm : p % 64 = 56 := by have := HP.out; have := HZ.out; omega
      have hmb : ((p % 64 : Nat) : Int) = 56 := by omega
      have HM := Lib.hid hmb
      have hpb : ((p : Int) % 64 != 56) = false := by rw [bne_eq_false_iff_eq]; omega
      clear hm hmb
      have hpre : OwnB wr (.slice A5 p c5) (l ++ 0x80 :: List.replicate j 0 ++ (lenB n).take 0) := by simpa using hol
      have hpp : Hid (p ≤ 1000000100) := by show _ ≤ _; have := HP.out; have := HZ.out; have := HN.out; omega
      clear ho hol hr5
      go_wp2
      go_loopw [5, 6] (fun x i wz => ∃ k : Nat, k ≤ 8 ∧ i = .int .i64 (7 - (k : Int)) ∧ OwnB wz x (l ++ 0x80 :: List.replicate j 0 ++ (lenB n).take k) ∧ Grew w2 wz (.slice none 0 0) x) (fun _ i _ => (intOf i + 1).toNat)
      case atStart => exact ⟨0, by omega, rfl, hpre, hgr⟩
      case round =>
        clear hpre hgr
        obtain ⟨k, hk8, rfl, ho, hgr⟩ := hrel
        by_cases hlt : k < 8
        · obtain ⟨i, hi⟩ : ∃ i : Nat, i = 7 - k := ⟨_, rfl⟩
          have hik : (7 - (k : Int)) = (i : Int) := by omega
          rw [hik]
          have hv := len_val8 n i
          obtain ⟨y, hy⟩ : ∃ y, y = UInt8.ofNat (8 * n / 2 ^ (8 * i)) := ⟨_, rfl⟩
          rw [← hy] at hv
          have hnext : Hid ((lenB n).take (k + 1) = (lenB n).take k ++ [y]) := by
            show _ = _
            rw [List.take_succ_eq_append_getElem (by rw [lenB_len]; exact hlt), hy]
            congr 2
            simp only [lenB, List.getElem_map, List.getElem_range]
            rw [show 7 - k = i by omega]
          have hi7 : i ≤ 7 := by omega
          have hn9 : Hid (n ≤ 1000000000) := by show _ ≤ _; rw [HN.out]; exact hb
          have hn10 : n ≤ 1000000000 := hn9.out
          have hln := HN.out
          rw [← hln]
          have hkk : Hid (k + i = 7) := by show _ = _; omega
          clear hi hik hy hln
          go_wp2_with (at_builtin; refine wpList_appB (v := u5) _ rfl _ _ rfl rfl (ho.alloc _) (news := [y]) rfl rfl (rdB_new _ _ _ _ rfl) (by have h1 := HLn.out; have h2 := hpp.out; rw [List.length_append, h1, List.length_take, lenB_len, List.length_singleton]; omega) ?_; intro v6 w6 ho6 hgr6)
          refine ⟨⟨k + 1, by omega, by have := hkk.out; simp only [Value.int.injEq, true_and]; omega, ?_, hgr.trans (Grew.pre (grown_alloc (grown_refl _ _) _) hgr6)⟩, by have := hkk.out; simp [intOf]⟩
          rw [hnext.out, ← List.append_assoc]
          exact ho6
        · have hk8' : k = 8 := by omega
          subst hk8'
          obtain ⟨F, hF⟩ : ∃ F, F = l ++ padL n := ⟨_, rfl⟩
          have hFo : OwnB wr u5 F := by
            have e : l ++ 0x80 :: List.replicate j 0 ++ (lenB n).take 8 = F := by
              rw [hF, List.take_of_length_le (by rw [lenB_len]; omega)]
              have e2 : j = 64 * ((n + 8) / 64 + 1) - n - 9 := by have := HZ.out; omega
              rw [e2]; simp [padL]
            rw [← e]; exact ho
          clear ho
          obtain ⟨AF, cF, rfl, hcF, hcF', hrF⟩ := hFo.slice
          obtain ⟨B, hB⟩ : ∃ B, B = blocksN n := ⟨_, rfl⟩
          have hFl : F.length = 64 * B := by
            rw [hF, List.length_append, padL_len, hB, ← HN.out]; unfold blocksN; omega
          have hF0 : F ≠ [] := by
            intro e
            have : F.length = 0 := by rw [e]; rfl
            rw [hFl, hB] at this; unfold blocksN at this; omega
          have hnew := hgr.new
          have hgn := hgr.nil
          have hB9 : B ≤ 100000000 := by rw [hB]; have := HN.out; unfold blocksN; omega
          have hAF : Hid (∀ ad, AF = some ad → ad.block ≠ w1.heap.size) := by
            intro ad e
            subst e
            have := hs2.out
            have h3 := hnew ad.block rfl
            omega
          have hres : Hid (sumL l = outB (stirs start F B)) := by
            show _ = _
            rw [hF, hB, HN.out]; rfl
          have hSt : Hid (wr.heap[w1.heap.size]? = some (.cells ((stirs start F 0).cells.map wv).toArray 67 (0, 0))) := keep_of hS2.out hgn
          have hRt : Hid (wr.heap[w.heap.size]? = some (.cells (rowH []) 23 (0, 0))) := keep_of hR2.out hgn
          have hKt := hK2.kept hgn
          have hgt : w.grownBy wr none := grown_same hg2.out hgn
          have HF := Lib.hid hFl
          rw [hFl] at hFo hcF hnew hgr ⊢
          clear hF hFl hFo hnew hgr hgn hB
          have HAF0 := Lib.hid hF0
          clear hF0
          rw [show (7 - ((8 : Nat) : Int)) = -1 from rfl]
          go_wp2
          go_loopw [7] (fun i wz => ∃ t : Nat, t ≤ B ∧ i = .int .i64 (64 * (t : Int)) ∧ RdB wz AF F ∧ RdAt wz (some ⟨w.heap.size + 1, 0, none⟩) (keysL.map wv) ∧ Hid (wz.heap[w1.heap.size]? = some (.cells ((stirs start F t).cells.map wv).toArray 67 (0, 0))) ∧ Hid (wz.heap[w.heap.size]? = some (.cells (rowH []) 23 (0, 0))) ∧ w.grownBy wz none) (fun i _ => 64 * B - (intOf i).toNat)
          case atStart => exact ⟨0, by omega, rfl, hrF, hKt, hSt, hRt, hgt⟩
          case round =>
            clear hrF hKt hSt hRt hgt
            obtain ⟨t, htB, rfl, hrF, hKt, hSt, hRt, hgt⟩ := hrel
            by_cases hlt : t < B
            · obtain ⟨ad, rfl, hcell⟩ := hrF.get (k := 0) (by rw [HF.out]; omega)
              clear hcell
              obtain ⟨q, hq⟩ : ∃ q, q = 64 * t := ⟨_, rfl⟩
              obtain ⟨q2, hq2⟩ : ∃ q2, q2 = q + 64 := ⟨_, rfl⟩
              have hqi : (64 * (t : Int)) = (q : Int) := by omega
              rw [hqi]
              have hrb : RdB wr (some (ad.add q)) ((F.drop (64 * t)).take 64) := by
                have := rd_takeB (l := F.drop q) (by have h := hrF.drop q; rw [← List.map_drop] at h; exact h) 64
                rw [← hq]; exact this
              have hst := fun w' (h1 : RdB w' (some (ad.add q)) ((F.drop (64 * t)).take 64)) (h2 : RdAt w' (some ⟨w.heap.size + 1, 0, none⟩) (keysL.map wv)) => block_any (stirs start F t) (some (ad.add q)) ((F.drop (64 * t)).take 64) (cF - q) (some ⟨w.heap.size + 1, 0, none⟩) 64 w' h1 (by rw [List.length_take, List.length_drop, HF.out]; omega) h2
              obtain ⟨S, hS⟩ : ∃ S, S = stirs start F t := ⟨_, rfl⟩
              obtain ⟨T, hT⟩ : ∃ T, T = stir S ((F.drop (64 * t)).take 64) := ⟨_, rfl⟩
              rw [← hS, ← hT] at hst
              rw [← hS] at hSt
              have HT : Hid (T = stirs start F (t + 1)) := by show _ = _; rw [hT, hS]; rfl
              have HQ := Lib.hid hq
              have HQ2 := Lib.hid hq2
              have x1 : IntKind.i64.wrap ((q : Int) + 64) = (q2 : Int) := by rw [IntWalk.i64_in _ ⟨by omega, by omega⟩]; omega
              have x2 : (q : Int) ≤ (q2 : Int) := by omega
              have x3 : (q2 : Int) ≤ (cF : Int) := by omega
              have x4 : q2 - q = 64 := by omega
              have x5 : ¬ cF = q := by omega
              have x6 : (q : Int) < 64 * (B : Int) := by omega
              clear hT hS hq hq2 hqi
              go_wp2
              have hrb' : RdB wr.drew (some (ad.add q)) ((F.drop (64 * t)).take 64) := hrb
              have hKt' : RdAt wr.drew (some ⟨w.heap.size + 1, 0, none⟩) (keysL.map wv) := hKt
              have hrF' : RdB wr.drew (some ad) F := hrF
              have hRt' : Hid (wr.drew.heap[w.heap.size]? = some (.cells (rowH []) 23 (0, 0))) := hRt
              have hSt' : Hid (wr.drew.heap[w1.heap.size]? = some (.cells (S.cells.map wv).toArray 67 (0, 0))) := hSt
              have hg' : w.grownBy wr.drew none := grown_drew hgt
              have hd := load_8 wr.drew w1.heap.size S _ _ hSt
              refine wp_region_still_tail 7 (by kernel_rfl) (by kernel_rfl) ?_
              change wpStill _ _ wr.drew (fun a' => wpList _ _ _ _ a' wr.drew) _ _
              generalize wr.drew = w4 at hrb' hKt' hrF' hRt' hSt' hg' hd ⊢
              simp only [List.take_succ_cons, List.take_zero, List.drop_succ_cons, List.drop_zero]
              refine wpStill_load rfl _ _ rfl rfl hd ?_
              repeat still_step
              try refine wpStill_nil ?_
              clear x1 x4 x5
              go_wp2_with (first
                | (go_at_call 46; refine (hst _ hrb' hKt').mono ?_; rintro e w5 ⟨rfl, hg5⟩)
                | (refine wpList_store_row rfl 67 _ _ rfl w1.heap.size (T.cells.map wv).toArray rfl rfl 67 (S.cells.map wv).toArray (keep_of hSt'.out hg5) size_8 rfl (wv_all _) ?_; generalize hw6 : World.setRow _ _ _ = w6; have HW6 := Lib.hid hw6; clear hw6))
              have hw56 : w5.grownBy w6 (some w1.heap.size) := by
                rw [← HW6.out]
                exact grown_setRow (grown_refl _ _) (.inl rfl) _
              refine ⟨⟨t + 1, by omega, by have := HQ.out; simp only [Value.int.injEq, true_and]; omega, ?_, ?_, ?_, ?_, ?_⟩, by have := HQ.out; simp [intOf]; omega⟩
              · exact (hrF'.kept hg5).keep hw56 fun ad' e e2 => by injection e2 with e2; exact hAF.out ad' e e2
              · exact (hKt'.kept hg5).keep hw56 fun ad' e e2 => by injection e with e; subst e; injection e2 with e2; have := hs1.out; simp only at e2; omega
              · show _ = _
                rw [← HW6.out, ← HT.out]
                exact setRow_heap _ _ _ _ _ _ (keep_of hSt'.out hg5)
              · show _ = _
                rw [← HW6.out, setRow_other _ _ _ _ (by have := hs1.out; omega)]
                exact keep_of hRt'.out hg5
              · exact grown_trans (grown_same hg' hg5) hw56 (.inr fun g e => by injection e with e; have := hs1.out; omega)
            · have htB' : t = B := by omega
              subst htB'
              obtain ⟨S, hS⟩ : ∃ S, S = stirs start F t := ⟨_, rfl⟩
              rw [← hS] at hSt
              have hres' : Hid (sumL l = outB S) := by show _ = _; rw [hres.out, hS]
              clear hS hrF hKt
              go_wp2_with (first
                | (refine wpList_load_row rfl 67 _ rfl w1.heap.size rfl 67 (S.cells.map wv).toArray (0, 0) _ ((Below.heap_alloc wr _ _ (Array.getElem?_eq_some_iff.1 hSt.out).1).trans hSt.out) Tryd.underlying67 rfl size_8 ?_))
              have hR5 : Hid ((wr.alloc (.cells (rowH []) 23)).heap[w.heap.size]? = some (.cells (rowH []) 23 (0, 0))) := (Below.heap_alloc wr _ _ (Array.getElem?_eq_some_iff.1 hRt.out).1).trans hRt.out
              have hO5 : Hid ((wr.alloc (.cells (rowH []) 23)).heap[wr.heap.size]? = some (.cells (rowH ((outB S).take (4 * 0))) 23 (0, 0))) := heap_alloc_new _ _
              have hg5 : w.grownBy (wr.alloc (.cells (rowH []) 23)) none := grown_alloc hgt _
              have hgh : Hid (w.heap.size < wr.heap.size) := (Array.getElem?_eq_some_iff.1 hRt.out).1
              change Code.wp _ _ _ _ (wr.alloc (.cells (rowH []) 23))
              generalize wr.alloc (.cells (rowH []) 23) = w7 at hR5 hO5 hg5 ⊢
              generalize wr.heap.size = gh at hO5 hgh ⊢
              go_loopw [56] (fun i wz => ∃ k : Nat, k ≤ 8 ∧ i = .int .i64 k ∧ Hid (wz.heap[w.heap.size]? = some (.cells (rowH []) 23 (0, 0))) ∧ Hid (wz.heap[gh]? = some (.cells (rowH ((outB S).take (4 * k))) 23 (0, 0))) ∧ w.grownBy wz none) (fun i _ => 8 - (intOf i).toNat)
              case atStart => exact ⟨0, by omega, rfl, hR5, hO5, hg5⟩
              case round =>
                clear hR5 hO5 hg5
                obtain ⟨k, hk8, rfl, hR, hO, hg⟩ := hrel
                by_cases hlt : k < 8
                · have hol : ((outB S).take (4 * k)).length = 4 * k := by rw [List.length_take, outB_len]; omega
                  obtain ⟨P, hP⟩ : ∃ P, P = (outB S).take (4 * k) := ⟨_, rfl⟩
                  rw [← hP] at hO hol
                  have hnext := out_next S k hlt
                  rw [← hP] at hnext
                  have HNx := Lib.hid hnext
                  have hx0 := index_st S k hlt
                  obtain ⟨x, hx⟩ : ∃ x, x = S.cells.getD k 0 := ⟨_, rfl⟩
                  rw [← hx] at hx0
                  have HXX := Lib.hid hx
                  have HOL := Lib.hid hol
                  clear hx hnext hP hol
                  have hz : ∀ j, 4 * k ≤ j → j < 32 → wr.cell? ⟨gh, j, none⟩ = some (.int .u8 0) ∧ wr.frozen? ⟨gh, j, none⟩ = false := fun j h1 h2 => by
                    refine ⟨?_, frozen_of_row wr _ _ _ _ hO.out⟩
                    rw [cell_of_row wr _ _ _ _ _ hO.out]; exact rowH_zero _ _ (by rw [HOL.out]; exact h1) h2
                  obtain ⟨z0, f0⟩ := hz (4 * k) (by omega) (by omega)
                  obtain ⟨z1, f1⟩ := hz (4 * k + 1) (by omega) (by omega)
                  obtain ⟨z2, f2⟩ := hz (4 * k + 2) (by omega) (by omega)
                  obtain ⟨z3, f3⟩ := hz (4 * k + 3) (by omega) (by omega)
                  obtain ⟨r1, r2, r3, r4⟩ := byte_at x
                  obtain ⟨y0, hy0⟩ : ∃ y, y = UInt8.ofNat (x.toNat / 2 ^ 24) := ⟨_, rfl⟩
                  obtain ⟨y1, hy1⟩ : ∃ y, y = UInt8.ofNat (x.toNat / 2 ^ 16) := ⟨_, rfl⟩
                  obtain ⟨y2, hy2⟩ : ∃ y, y = UInt8.ofNat (x.toNat / 2 ^ 8) := ⟨_, rfl⟩
                  obtain ⟨y3, hy3⟩ : ∃ y, y = UInt8.ofNat (x.toNat / 2 ^ 0) := ⟨_, rfl⟩
                  rw [← hy0] at r1
                  rw [← hy1] at r2
                  rw [← hy2] at r3
                  rw [← hy3] at r4
                  have HY : Hid ((outB S).take (4 * (k + 1)) = P ++ [y0] ++ [y1] ++ [y2] ++ [y3]) := by
                    show _ = _
                    rw [HNx.out, ← HXX.out, hy0, hy1, hy2, hy3]
                    simp [bytesW]
                  clear hz hy0 hy1 hy2 hy3
                  go_wp2
                  have e1 := rowH_store (x := y0) hO.out HOL.out (by omega)
                  have e2 := rowH_store (x := y1) e1 (show _ = 4 * k + 1 by rw [List.length_append, HOL.out]; rfl) (by omega)
                  have e3 := rowH_store (x := y2) e2 (show _ = 4 * k + 2 by rw [List.length_append, List.length_append, HOL.out]; rfl) (by omega)
                  have e4 := rowH_store (x := y3) e3 (show _ = 4 * k + 3 by rw [List.length_append, List.length_append, List.length_append, HOL.out]; rfl) (by omega)
                  have hne : w.heap.size ≠ gh := by have := hgh.out; omega
                  refine ⟨⟨k + 1, by omega, by go_num, ?_, ?_, ?_⟩, by simp [intOf]; omega⟩
                  · show _ = _
                    rw [Below.heap_setCell _ _ _ _ hne, Below.heap_setCell _ _ _ _ hne, Below.heap_setCell _ _ _ _ hne, Below.heap_setCell _ _ _ _ hne]
                    exact hR.out
                  · show _ = _
                    rw [HY.out]
                    exact e4
                  · have hle : w.heap.size ≤ gh := by have := hgh.out; omega
                    exact grown_set (grown_set (grown_set (grown_set hg (.inr hle) _) (.inr hle) _) (.inr hle) _) (.inr hle) _
                · have hk8' : k = 8 := by omega
                  subst hk8'
                  obtain ⟨X, hX⟩ : ∃ X, X = outB S := ⟨_, rfl⟩
                  have hXl : Hid (X.length = 32) := by rw [hX]; exact outB_len S
                  have hO' := hO.out
                  rw [← hX, List.take_of_length_le (by rw [hXl.out]; omega), rowH_full hXl.out] at hO'
                  have HO := Lib.hid hO'
                  have HX := Lib.hid hX
                  have HS : Hid ((Tryd.prog.info? 23).map (·.size) = some (X.map bv).toArray.size) := by rw [List.size_toArray, List.length_map, hXl.out]; exact size_hash
                  clear hX hO'
                  go_wp2_with (first
                    | (refine wpList_load_row rfl 23 _ rfl gh rfl 23 (X.map bv).toArray (0, 0) _ HO.out Tryd.underlying23 rfl HS.out ?_)
                    | (refine wpList_store_row rfl 23 _ _ rfl w.heap.size (X.map bv).toArray rfl rfl 23 (rowH []) hR.out HS.out (by rw [rowH_size _ (by simp), List.size_toArray, List.length_map, hXl.out]) (bv_all' _) ?_))
                  refine bodyPost_ret (results_cell_row rfl _ _ w.heap.size 23 (X.map bv).toArray (0, 0) _ rfl (setRow_heap _ _ _ _ _ _ hR.out) Tryd.underlying23 rfl HS.out) rfl ?_
                  exact ⟨by rw [hres'.out, HX.out], grown_setRow hg (.inr (Nat.le_refl _)) _⟩
end Go.Proofs.YtmfnncfiaaeknaaDoor
