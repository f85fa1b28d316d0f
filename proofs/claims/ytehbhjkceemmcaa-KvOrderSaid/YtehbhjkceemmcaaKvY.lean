/- KvOrder. -/
import Derived.Test.YtehbhjkceemmcaaKvU
import Derived.Test.YtehbhjkceemmcaaKvM
import Derived.Test.YtehbhjkceemmcaaKvS
import Derived.Test.YtehbhjkceemmcaaKvR
import Derived.Test.YtehbhjkceemmcaaKvV
import Derived.Deep.DeepCutAuto
namespace Go.Proofs.Ytehbhjkceemmcaa
open Go.RowKit

/-! ## The full row -/
def keyF (i : Nat) : List UInt8 := [107, UInt8.ofNat (97 + i / 26), UInt8.ofNat (97 + i % 26)]
def fullL (j : Nat) : List Kv := (List.range j).map fun i => (keyF i, [])
theorem full_step : ∀ i : Fin 30, okL (fullL i.val) (keyF i.val, []) = true ∧ setL (fullL i.val) (keyF i.val, []) = fullL (i.val + 1) := by decide +kernel
theorem full_no : ∀ i : Fin 32, 30 ≤ i.val → okL (fullL 30) (keyF i.val, []) = false := by decide +kernel
theorem full_rises : ∀ j : Fin 31, rightL (fullL j.val) = true := by decide +kernel
theorem full_new : ∀ i : Fin 30, okL (fullL 30) (keyF i.val, [110, 101, 119]) = true ∧ (setL (fullL 30) (keyF i.val, [110, 101, 119])).length = 30 := by decide +kernel
theorem fullL_len (j : Nat) : (fullL j).length = j := by simp [fullL]
theorem okL_of {ps : List Kv} {p : Kv} (h1 : 1 ≤ p.1.length) (h2 : p.1.length ≤ 16) (h3 : p.2.length ≤ 24) (h4 : (setL ps p).length ≤ 30) : okL ps p = true := by
  unfold okL mayQ
  simp [h1, h2, h3, h4]
theorem SameQ_m (A1 A2 : Option Addr) (l1 l2 : List Kv) (n1 n2 c1 c2 : Nat) (w : World) (h1 : RdQ w A1 l1) (h2 : RdQ w A2 l2) (hm1 : l1.length ≤ 1000) (hm2 : l2.length ≤ 1000) (e1 : n1 = l1.length) (e2 : n2 = l2.length) (he : l1 = l2) :
    Calls Try.prog 19 #[.slice A1 n1 c1, .slice A2 n2 c2] w fun e w' => e = .returned (.bool true) ∧ w.grownBy w' none := by
  subst e1 e2 he
  refine (SameQ_any A1 A2 l1 l1 c1 c2 w h1 h2 (by omega) (by omega)).mono ?_
  rintro e w' ⟨rfl, hg⟩
  exact ⟨by simp, hg⟩
theorem RightQ_m (A : Option Addr) (c n : Nat) (ps : List Kv) (w : World) (hr : RdQ w A ps) (hm : ps.length ≤ 1000) (hn : n = ps.length) :
    Calls Try.prog 11 #[.slice A n c] w fun e w' => e = .returned (.bool (rightL ps)) ∧ w.grownBy w' none := by
  subst hn; exact Right_any A c ps w hr (by omega)
def keyT (i : Nat) : List UInt8 := [UInt8.ofNat (97 + i / 26), UInt8.ofNat (97 + i % 26)]
theorem keyT_bv {i : Nat} (h : i < 32) : (#[Value.int .u8 (97 + (i : Int) / 26), Value.int .u8 (97 + (i : Int) % 26)] : Array Value).toList = (keyT i).map bv := by
  have h1 : (97 + (i : Int) / 26) = ((UInt8.ofNat (97 + i / 26)).toNat : Int) := by rw [UInt8.toNat_ofNat']; omega
  have h2 : (97 + (i : Int) % 26) = ((UInt8.ofNat (97 + i % 26)).toNat : Int) := by rw [UInt8.toNat_ofNat']; omega
  show [Value.int .u8 (97 + (i : Int) / 26), Value.int .u8 (97 + (i : Int) % 26)] = [bv _, bv _]
  unfold bv
  rw [← h1, ← h2]
theorem key_conv {i : Nat} (h : i < 32) (w : World) : (convert 42 9 (.slice (some ⟨w.heap.size, 0, none⟩) 2 2)).run Try.prog (w.alloc (.cells #[.int .u8 (97 + (i : Int) / 26), .int .u8 (97 + (i : Int) % 26)] 5)) = .ok (.string ⟨(keyT i).toArray⟩) (w.alloc (.cells #[.int .u8 (97 + (i : Int) / 26), .int .u8 (97 + (i : Int) % 26)] 5)) :=
  run_text (l := keyT i) _ 42 9 5 2 Try.underlying42 Try.underlying5 Try.underlying9 (rdB_new w _ _ _ (keyT_bv h))
theorem key_cat (i : Nat) : (⟨#[107]⟩ : ByteArray) ++ ⟨(keyT i).toArray⟩ = ⟨(keyF i).toArray⟩ := by
  apply ByteArray.ext
  simp [keyT, keyF]
def kvtS (t : Nat) : Bool := t == 46 || t == 47 || t == 48 || t == 49 || t == 50 || t == 51 || t == 52 || t == 53 || t == 54 || t == 55 || t == 56 || t == 57 || t == 58 || t == 59 || t == 60 || t == 61
def kvtDie (k : Nat) : Nat := if k = 0 then 6 else if k = 6 then 10 else if k = 10 then 15 else 99
def kvtOwn (k : Nat) : Bool := k == 0 || k == 5 || k == 6 || k == 10 || k == 15
def kvtAl (k : Nat) : Bool := k == 1 || k == 7 || k == 9 || k == 11 || k == 14
def kvtF (A B : Option Addr) (ad : Addr) (n c q n2 c2 : Nat) (tk dr : List Kv) (p : Kv) : Nat → Value → World → Prop
  | 0 => fun v w => OwnQ w v []
  | 1 => fun v _ => v = .slice A n c
  | 2 => fun v _ => v = .int .i64 (q : Nat)
  | 3 => fun v _ => v = .pointer (some (ad.add (q * 2)))
  | 4 => fun v _ => v = (.agg #[.string ⟨(p).1.toArray⟩, .string ⟨(p).2.toArray⟩])
  | 5 => QOne p
  | 6 => fun v w => OwnQ w v (([]) ++ ([p]))
  | 7 => fun v _ => v = .slice A n c
  | 8 => fun v _ => v = .int .i64 (q : Nat)
  | 9 => fun v _ => v = .slice A q c
  | 10 => fun v w => OwnQ w v ((([]) ++ ([p])) ++ (tk))
  | 11 => fun v _ => v = .slice A n c
  | 12 => fun v _ => v = .int .i64 (q : Nat)
  | 13 => fun v _ => v = .int .i64 ((q : Int) + 1)
  | 14 => fun v _ => v = .slice B n2 c2
  | 15 => fun v w => OwnQ w v (((([]) ++ ([p])) ++ (tk)) ++ (dr))
  | _ => fun _ _ => True
theorem kvtF_lasts (A B : Option Addr) (ad : Addr) (n c q n2 c2 : Nat) (tk dr : List Kv) (p : Kv) : ∀ kq, LastsB kvtAl kq (kvtF A B ad n c q n2 c2 tk dr p kq)
  | 0 => LastsB.ownQ rfl _
  | 1 => LastsB.val _
  | 2 => LastsB.val _
  | 3 => LastsB.val _
  | 4 => LastsB.val _
  | 5 => LastsB.qone rfl _
  | 6 => LastsB.ownQ rfl _
  | 7 => LastsB.val _
  | 8 => LastsB.val _
  | 9 => LastsB.val _
  | 10 => LastsB.ownQ rfl _
  | 11 => LastsB.val _
  | 12 => LastsB.val _
  | 13 => LastsB.val _
  | 14 => LastsB.val _
  | 15 => LastsB.ownQ rfl _
  | _ + 16 => fun _ _ _ _ _ _ _ => trivial

set_option maxRecDepth 100000 in
set_option maxHeartbeats 2000000 in
theorem KvOrder_any (A1 A2 : Option Addr) (c1 c2 : Nat) (ns order : List Int) (n : Int) (w : World) (hr1 : RdI w A1 ns) (hr2 : RdI w A2 order) (hm2 : order.length ≤ maxLen) :
    Calls Try.prog 6 #[.slice A1 ns.length c1, .slice A2 order.length c2, .int .i64 n] w fun e w' => e = .returned (.bool true) ∧ w.grownBy w' none := by
  have hPs := Pairs_any A1 c1 ns w hr1
  unfold maxLen at hm2
  go_enter Try.func6, Try.ntmps6
  go_upto_region 2 with (go_at_call 20; refine hPs.mono ?_; rintro e w1 ⟨vl, ps, rfl, hK, hpl, hg1⟩)
  obtain ⟨Al, cl, rfl, hcl, hrl, -⟩ := hpl.form
  have hlen := hK.len
  have hE := emptyQ w1
  have hrlE := RdAt.alloc hrl (.cells #[] 26)
  go_upto_block 0 with (at_builtin; refine wpList_appQ rfl _ _ rfl rfl hE rfl rfl hrlE (by simp; omega) ?_; intro vt w2 hot hgt)
  have hg2 : w1.grownBy w2 none := (Grew.fresh hgt).nil
  have hgw2 := grown_none hg1 hg2
  rw [List.nil_append] at hot
  have hot2 := hot.toPB
  go_cut [8, 9] (fun t _ wx => ∃ tl : List Kv, PB wx t tl ∧ tl.Perm ps ∧ w2.grownBy wx none)
  case first =>
    go_wp2
    go_loopw [8, 9] (fun t i wr => ∃ (j : Nat) (tl : List Kv), j ≤ order.length ∧ i = .int .i64 j ∧ PB wr t tl ∧ tl.Perm ps ∧ w2.grownBy wr none) (fun _ i _ => order.length - (intOf i).toNat)
    case atStart => exact ⟨0, ps, Nat.zero_le _, rfl, hot2, List.Perm.refl _, grown_refl _ _⟩
    case round =>
      obtain ⟨j, tl, hj, rfl, hpt, hperm, hgj⟩ := hrel
      obtain ⟨A, c, rfl, hc, hrt0, hA⟩ := hpt.form
      have htl : tl.length ≤ 12 := by rw [hperm.length_eq]; exact hlen
      by_cases hcond : j < order.length ∧ 1 < tl.length
      · obtain ⟨hlt, hlt1⟩ := hcond
        obtain ⟨ado, rfl, hcx⟩ := RdI.get (RdAt.kept hr2 (grown_none hgw2 hgj)) hlt
        generalize order[j] = x at hcx
        obtain ⟨q, hq, hW⟩ := Within_nat x (tl.length - 1) (by omega)
        have hsub : ((tl.length - 1 : Nat) : Int) = (tl.length : Int) - 1 := by omega
        rw [hsub] at hW
        go_upto_region 7 with (go_at_call 24; refine (hW _).mono ?_; rintro e w3 ⟨rfl, rfl⟩)
        obtain ⟨adt, rfl, hat0⟩ := RdQ.at hrt0 (k := q) (by omega)
        have hperm2 : Hid ((((([] : List Kv) ++ [tl[q]]) ++ tl.take q) ++ tl.drop (q + 1)).Perm tl) := move_perm (by omega)
        have htk : (tl.take q).length = q := by rw [List.length_take]; omega
        have hdr : (tl.drop (q + 1)).length = tl.length - (q + 1) := List.length_drop
        have hrt := RdQ.take hrt0 q
        have hrd := RdQ.cut hrt0 (k := q + 1) hc
        have hidx := fun w => idx_Q adt tl.length c q (by omega) w
        have s1 := sl_hiQ (some adt) tl.length c q (by omega)
        have s2 : ∀ w : World, (Instr.sliceAt 22 (.slice (some adt) tl.length c) (some (.int .i64 ((q : Int) + 1))) none none).run Try.prog w = .ok (.slice (if c = q + 1 then some adt else (some adt).map (·.add ((q + 1) * 2))) (tl.length - (q + 1)) (c - (q + 1))) w := fun w => sl_loQ (some adt) tl.length c (q + 1) (by omega) w
        have hA0 := blk_lt (n := tl.length) (c := c) hA
        have hA1 := blk_lt (n := q) (c := c) hA
        have hB0 := blk_lt (n := tl.length - (q + 1)) (c := c - (q + 1)) (cut_lt (c := c) (T := q + 1) hA)
        have hat := Lib.hid hat0
        have hn21 : tl.length - (q + 1) ≤ 12 := by omega
        have hq12 : q ≤ 12 := by omega
        clear hat0
        generalize (if c = q + 1 then some adt else (some adt).map (·.add ((q + 1) * 2))) = B at *
        generalize tl.length - (q + 1) = n2 at *
        generalize c - (q + 1) = c2 at *
        generalize tl.take q = tk at *
        generalize tl.drop (q + 1) = dr at *
        generalize tl[q] = p at *
        refine wp_region_gb (al := kvtAl) 16 (N := 159) (S := kvtS) (die := kvtDie) (own := kvtOwn) (F := kvtF (some adt) B adt tl.length c q n2 c2 tk dr p) (by kernel_rfl) (Nat.le_of_ble_eq_true (by kernel_rfl)) (fun _ => by kernel_rfl) (fun _ => by kernel_rfl) (by kernel_rfl) (by kernel_rfl) (Nat.le_of_ble_eq_true (by kernel_rfl)) (kvtF_lasts (some adt) B adt tl.length c q n2 c2 tk dr p) ?_ ?_
        · intro i o L' a w K hi ho hg hLi hout hpre houter hitem h1 h2 h3
          have hcases : i = 0 ∨ i = 1 ∨ i = 2 ∨ i = 3 ∨ i = 4 ∨ i = 5 ∨ i = 6 ∨ i = 7 ∨ i = 8 ∨ i = 9 ∨ i = 10 ∨ i = 11 ∨ i = 12 ∨ i = 13 ∨ i = 14 ∨ i = 15 := by omega
          rcases hcases with rfl | rfl | rfl | rfl | rfl | rfl | rfl | rfl | rfl | rfl | rfl | rfl | rfl | rfl | rfl | rfl
          · cases (show some _ = some o from ho)
            exact ⟨rfl, wp_lit0 rfl (lit_0q _) (h1 ⟨_, rfl⟩ _ _ (grown_alloc (grown_refl _ _) _) (emptyQ _) (new_lt _ _) (FreshB.new (new_ge _)))⟩
          · cases (show some _ = some o from ho)
            exact ⟨rfl, wp_move rfl (h1 ⟨_, rfl⟩ _ _ (grown_refl _ none) (houter _ rfl) (by rw [houter _ rfl]; exact nobl rfl) (by rw [houter _ rfl]; exact FreshB.none rfl))⟩
          · cases (show some _ = some o from ho)
            exact ⟨rfl, wp_move rfl (h1 ⟨_, rfl⟩ _ _ (grown_refl _ none) (houter _ rfl) (by rw [houter _ rfl]; exact nobl rfl) (by rw [houter _ rfl]; exact FreshB.none rfl))⟩
          · cases (show some _ = some o from ho)
            exact ⟨rfl, wp_index rfl (hitem 1 (by decide) ⟨hpre 1 rfl, hout _ (by decide)⟩) (hitem 2 (by decide) ⟨hpre 2 rfl, hout _ (by decide)⟩) (hidx _) (h1 ⟨_, rfl⟩ _ _ (grown_refl _ none) rfl (nobl rfl) (FreshB.none rfl))⟩
          · cases (show some _ = some o from ho)
            exact ⟨rfl, wp_load_kv rfl (hitem 3 (by decide) ⟨hpre 3 rfl, hout _ (by decide)⟩) (hat.out.kept hg) (h1 ⟨_, rfl⟩ _ _ (grown_refl _ none) rfl (nobl rfl) (FreshB.none rfl))⟩
          · cases (show some _ = some o from ho)
            exact ⟨rfl, wp_lit1 rfl (hitem 4 (by decide) ⟨hpre 4 rfl, hout _ (by decide)⟩) (lit_1q _ _ _) (h1 ⟨_, rfl⟩ _ _ (grown_alloc (grown_refl _ _) _) (qone_new _ p) (new_lt _ _) (FreshB.new (new_ge _)))⟩
          · cases (show some _ = some o from ho)
            have hu := hitem 0 (by decide) ⟨hpre 0 rfl, hLi⟩
            obtain ⟨b5, e5, q5⟩ := hitem 5 (by decide) ⟨hpre 5 rfl, hout _ (by decide)⟩
            exact ⟨rfl, wp_appQ rfl rfl hu (e5) (rfl) (q5) (by simp) fun v w' hv hw => h2 ⟨_, rfl⟩ 0 v w' _ (by decide) ⟨hpre 0 rfl, hLi⟩ rfl rfl hw.1 (ownQ_mem hu) hv (ownQ_lt hv) (grewQ_blocks hu hv hw)⟩
          · cases (show some _ = some o from ho)
            exact ⟨rfl, wp_move rfl (h1 ⟨_, rfl⟩ _ _ (grown_refl _ none) (houter _ rfl) (by rw [houter _ rfl]; exact nobl rfl) (by rw [houter _ rfl]; exact FreshB.none rfl))⟩
          · cases (show some _ = some o from ho)
            exact ⟨rfl, wp_move rfl (h1 ⟨_, rfl⟩ _ _ (grown_refl _ none) (houter _ rfl) (by rw [houter _ rfl]; exact nobl rfl) (by rw [houter _ rfl]; exact FreshB.none rfl))⟩
          · cases (show some _ = some o from ho)
            exact ⟨rfl, wp_slice_hi rfl (hitem 7 (by decide) ⟨hpre 7 rfl, hout _ (by decide)⟩) (hitem 8 (by decide) ⟨hpre 8 rfl, hout _ (by decide)⟩) (s1 _) (h1 ⟨_, rfl⟩ _ _ (grown_refl _ none) rfl (nobl rfl) (FreshB.none rfl))⟩
          · cases (show some _ = some o from ho)
            have hu := hitem 6 (by decide) ⟨hpre 6 rfl, hLi⟩
            exact ⟨rfl, wp_appQ rfl rfl hu (hitem 9 (by decide) ⟨hpre 9 rfl, hout _ (by decide)⟩) (htk.symm) (RdAt.kept hrt hg) (by simp; omega) fun v w' hv hw => h2 ⟨_, rfl⟩ 6 v w' _ (by decide) ⟨hpre 6 rfl, hLi⟩ rfl rfl hw.1 (ownQ_mem hu) hv (ownQ_lt hv) (grewQ_blocks hu hv hw)⟩
          · cases (show some _ = some o from ho)
            exact ⟨rfl, wp_move rfl (h1 ⟨_, rfl⟩ _ _ (grown_refl _ none) (houter _ rfl) (by rw [houter _ rfl]; exact nobl rfl) (by rw [houter _ rfl]; exact FreshB.none rfl))⟩
          · cases (show some _ = some o from ho)
            exact ⟨rfl, wp_move rfl (h1 ⟨_, rfl⟩ _ _ (grown_refl _ none) (houter _ rfl) (by rw [houter _ rfl]; exact nobl rfl) (by rw [houter _ rfl]; exact FreshB.none rfl))⟩
          · cases (show some _ = some o from ho)
            exact ⟨rfl, wp_bin rfl (hitem 12 (by decide) ⟨hpre 12 rfl, hout _ (by decide)⟩) rfl (guard_add _ _ _ _ _) (add_i64 _ _ _ (by omega)) (h1 ⟨_, rfl⟩ _ _ (grown_refl _ none) rfl (nobl rfl) (FreshB.none rfl))⟩
          · cases (show some _ = some o from ho)
            exact ⟨rfl, wp_slice_lo rfl (hitem 11 (by decide) ⟨hpre 11 rfl, hout _ (by decide)⟩) (hitem 13 (by decide) ⟨hpre 13 rfl, hout _ (by decide)⟩) (s2 _) (h1 ⟨_, rfl⟩ _ _ (grown_refl _ none) rfl (nobl rfl) (FreshB.none rfl))⟩
          · cases (show some _ = some o from ho)
            have hu := hitem 10 (by decide) ⟨hpre 10 rfl, hLi⟩
            exact ⟨rfl, wp_appQ rfl rfl hu (hitem 14 (by decide) ⟨hpre 14 rfl, hout _ (by decide)⟩) (hdr.symm) (RdAt.kept hrd hg) (by simp; omega) fun v w' hv hw => h2 ⟨_, rfl⟩ 10 v w' _ (by decide) ⟨hpre 10 rfl, hLi⟩ rfl rfl hw.1 (ownQ_mem hu) hv (ownQ_lt hv) (grewQ_blocks hu hv hw)⟩
        · intro a wT hgT hend hap ha
          obtain ⟨f, hf⟩ : ∃ f : Nat → Value, f = fun t => a.tmps.getD t undef := ⟨_, rfl⟩
          have o61 := (hend 15 (by decide) (by decide)).1
          obtain ⟨A61, c61, q61, -⟩ := OwnQ.form o61
          replace o61 := q61 ▸ o61
          have s61 := (congrFun hf 61).trans q61
          rw [← hf] at ha
          clear hend hap
          clear hf
          clear q61
          subst ha
          simp only [fill, kvtS, Nat.reduceAdd, Nat.reduceBEq, Bool.or_false, Bool.or_true, cond_true, cond_false, List.drop_succ_cons, List.drop_zero, s61]
          have o9 := o61
          go_wp2_with fail
          go_roundw
          case rel => exact ⟨j + 1, _, by omega, by go_num, o9.toPB, hperm2.out.trans hperm, grown_none hgj hgT⟩
          case measure => simp [intOf]; omega
      · go_wp2
        all_goals
          go_meet
          exact ⟨tl, hpt, hperm, hgj⟩
  case rest =>
    obtain ⟨tl, hpt, hperm, hgj⟩ := hcut
    obtain ⟨A, c, e1, hc, hrt0, -⟩ := hpt.form
    subst e1
    have hgr := grown_none hgw2 hgj
    have htl : tl.length ≤ 12 := by rw [hperm.length_eq]; exact hlen
    have hap : Hid (Apart tl) := Apart.perm hperm hK.rises.apart
    have hmem : Hid (∀ q, q ∈ tl ↔ q ∈ ps) := fun q => hperm.mem_iff
    have hmayT : Hid (∀ q ∈ tl, 1 ≤ q.1.length ∧ q.1.length ≤ 16 ∧ q.2.length ≤ 24) := fun q hq => by
      have h1 := hK.may q ((hmem.out q).1 hq)
      unfold mayQ at h1
      simpa using h1
    clear hE hrlE
    go_wp2
    go_loopw [11, 64] (fun x i wr => ∃ (j : Nat) (xs : List Kv), j ≤ tl.length ∧ i = .int .i64 j ∧ PB wr x xs ∧ Hid (Rises xs ∧ (∀ q, q ∈ xs ↔ q ∈ tl.take j) ∧ xs.length ≤ 2 * j) ∧ wc.grownBy wr none) (fun _ i _ => tl.length - (intOf i).toNat)
    case atStart => exact ⟨0, [], Nat.zero_le _, rfl, PB.nil _, ⟨List.Pairwise.nil, by simp, by simp⟩, grown_refl _ _⟩
    case round =>
      obtain ⟨j, xs, hj, rfl, hpx, hX, hgx⟩ := hrel
      obtain ⟨hx1, hx2, hx3⟩ := hX.out
      by_cases hlt : j < tl.length
      · obtain ⟨ad, rfl, hc1⟩ := RdQ.at (RdAt.kept hrt0 hgx) hlt
        obtain ⟨Ax, cx, rfl, hcx, hrx, -⟩ := hpx.form
        have hm1 := hmayT.out _ (List.getElem_mem hlt)
        have htw : Hid (∀ t q, q ∈ setL (setL xs (tl[j].1, t)) tl[j] ↔ q ∈ tl.take (j + 1)) := fun t => set_twice hlt hap.out hx2 t
        generalize tl[j] = p at *
        have HC := Lib.hid hc1
        clear hc1
        have ok1 : okL xs (p.1, [110, 111]) = true := okL_of hm1.1 hm1.2.1 (by simp) (by have := set_le xs (p.1, [110, 111]); omega)
        have hr1' := rise_set hx1 (p.1, [110, 111])
        have hl1' := set_le xs (p.1, [110, 111])
        have S1 := fun (W : World) (hg : wr.grownBy W none) => Set_any Ax cx xs (p.1, [110, 111]) W (RdAt.kept hrx hg) hcx (by omega) hx1
        simp only [ok1, if_true] at S1
        have htw2 := Lib.hid (htw.out [110, 111])
        clear htw
        generalize setL xs (p.1, [110, 111]) = xs1 at *
        have ok2 : okL xs1 p = true := okL_of hm1.1 hm1.2.1 hm1.2.2 (by have := set_le xs1 p; omega)
        have hr2' := rise_set hr1' p
        have hl2' := set_le xs1 p
        have S2 := fun (W : World) (A : Option Addr) (c : Nat) (hr : RdQ W A xs1) (hc : xs1.length ≤ c) => Set_any A c xs1 p W hr hc (by omega) hr1'
        simp only [ok2, if_true] at S2
        have hHeap : ∀ (W : World), (wr.alloc (Obj.cells #[Value.string ⟨p.1.toArray⟩, Value.string ⟨p.2.toArray⟩] 26)).grownBy W none → AtQ W ⟨wr.heap.size, 0, none⟩ p := fun W hg => box_at hg
        clear ok1 ok2
        go_wp2_with (first
          | (refine wpList_load_kv (by rfl) _ rfl (ad.add (j * 2)) rfl p HC.out ?_)
          | (go_at_call 7; refine (S1 _ (grown_alloc (grown_refl _ _) _)).mono ?_; clear S1; rintro e wa ⟨va, rfl, hpa, hga⟩; have hba := hHeap _ hga; obtain ⟨Aa, ca, rfl, hca, hra, -⟩ := hpa.form)
          | (refine wpList_load_kv (by rfl) _ rfl ⟨wr.heap.size, 0, none⟩ rfl p hba ?_)
          | (go_at_call 7; refine (S2 _ Aa ca hra hca).mono ?_; rintro e wb ⟨vb, rfl, hpb, hgb⟩))
        go_roundw
        case rel => exact ⟨j + 1, _, by omega, by go_num, hpb, ⟨hr2', htw2.out, by omega⟩, grown_none hgx (grown_none (grown_none (grown_alloc (grown_refl _ _) _) hga) hgb)⟩
        case measure => simp [intOf]; omega
      · obtain rfl : j = tl.length := by omega
        have hxs : xs = ps := rises_ext hx1 hK.rises fun q => by rw [hx2, List.take_length]; exact hmem.out q
        subst hxs
        obtain ⟨Ax, cx, rfl, hcx, hrx, -⟩ := hpx.form
        have hgxr := grown_none hgr hgx
        have hnom : ∀ q ∈ xs, q.1 ≠ [109] := fun q hq e => by
          have h1 := hK.1.subset (List.mem_map_of_mem hq)
          rw [e] at h1
          exact absurd h1 (by decide)
        have ok1 : okL xs ([109], []) = true := okL_of (by simp) (by simp) (by simp) (by have := set_le xs ([109], []); omega)
        have S1 := Set_any Ax cx xs ([109], []) wr hrx hcx (by omega) hx1
        simp only [ok1, if_true] at S1
        have hdel : Hid (delL (setL xs ([109], [])) [109] = xs) := del_set hx1 hnom
        have hyr := rise_set hx1 ([109], [])
        have hyl := set_le xs ([109], [])
        generalize setL xs ([109], []) = ys at *
        clear ok1 hX hx2 hx3 hmayT hmem hap
        go_upto_region 18 with (first
          | (go_at_call 7; refine S1.mono ?_; rintro e wy ⟨vy, rfl, hpy, hgy⟩; obtain ⟨Ay, cy, rfl, hcy, hry, -⟩ := hpy.form))
        go_loopw [16, 89] (fun f i wr2 => ∃ i0 : Nat, i0 ≤ 32 ∧ i = .int .i64 i0 ∧ PB wr2 f (fullL (min i0 30)) ∧ wy.grownBy wr2 none) (fun _ i _ => 32 - (intOf i).toNat)
        case atStart => exact ⟨0, Nat.zero_le _, rfl, PB.nil _, grown_refl _ _⟩
        case round =>
          obtain ⟨i0, hi0, rfl, hpf, hgf⟩ := hrel
          obtain ⟨Af, cf, rfl, hcf, hrf, -⟩ := hpf.form
          by_cases hlt : i0 < 32
          · have hcv := key_conv hlt wr
            have hct := key_cat i0
            by_cases h30 : i0 < 30
            · have hmin : min i0 30 = i0 := by omega
              have hmin2 : min (i0 + 1) 30 = i0 + 1 := by omega
              rw [hmin] at hrf hcf hpf
              have hfs := full_step ⟨i0, h30⟩
              have hfr := (right_iff _).1 (full_rises ⟨i0, by omega⟩)
              have S2 := fun (W : World) (hg : wr.grownBy W none) => Set_any Af cf (fullL i0) (keyF i0, []) W (RdAt.kept hrf hg) hcf (by rw [fullL_len]; omega) hfr.2.2
              simp only [hfs.1, hfs.2, if_true, fullL_len] at S2
              have hl0 := fullL_len i0
              have h30i : (i0 : Int) < 30 := by omega
              clear hfs hfr
              go_wp2_with (first
                | (go_at_call 7; refine (S2 _ (grown_alloc (grown_refl _ _) _)).mono ?_; rintro e wq ⟨vq, rfl, hpq, hgq⟩))
              go_roundw
              case rel => exact ⟨i0 + 1, by omega, by go_num, by rw [hmin2]; exact hpq, grown_none hgf (grown_none (grown_alloc (grown_refl _ _) _) hgq)⟩
              case measure => simp [intOf]; omega
            · have hmin : min i0 30 = 30 := by omega
              have hmin2 : min (i0 + 1) 30 = 30 := by omega
              rw [hmin] at hrf hcf hpf
              have hfs := full_no ⟨i0, hlt⟩ (show 30 ≤ i0 by omega)
              have hfr := (right_iff _).1 (full_rises ⟨30, by omega⟩)
              have S2 := fun (W : World) (hg : wr.grownBy W none) => Set_any Af cf (fullL 30) (keyF i0, []) W (RdAt.kept hrf hg) hcf (by rw [fullL_len]; omega) hfr.2.2
              simp only [hfs, Bool.false_eq_true, if_false, fullL_len] at S2
              have hl0 := fullL_len 30
              have h30i : ¬ (i0 : Int) < 30 := by omega
              clear hfs hfr
              go_wp2_with (first
                | (go_at_call 7; refine (S2 _ (grown_alloc (grown_refl _ _) _)).mono ?_; rintro e wq ⟨vq, rfl, hpq, hgq⟩))
              go_roundw
              case rel => exact ⟨i0 + 1, by omega, by go_num, by rw [hmin2]; exact hpq, grown_none hgf (grown_none (grown_alloc (grown_refl _ _) _) hgq)⟩
              case measure => simp [intOf]; omega
          · obtain rfl : i0 = 32 := by omega
            have hmin : min 32 30 = 30 := rfl
            rw [hmin] at hrf hcf hpf
            have hgR := grown_none (grown_none hgxr hgy) hgf
            obtain ⟨x0, hx0, hW⟩ := Within_nat n 29 (by omega)
            have hl0 := fullL_len 30
            have hfr := (right_iff _).1 (full_rises ⟨30, by omega⟩)
            have hfri := full_rises ⟨30, by omega⟩
            have hfn := full_new ⟨x0, by omega⟩
            obtain ⟨adf, rfl, hkc, -⟩ := RdQ.get hrf (k := x0) (by rw [fullL_len]; omega)
            have hk0 : ((fullL 30)[x0]'(by rw [fullL_len]; omega)).1 = keyF x0 := by simp [fullL]
            rw [hk0] at hkc
            have hkc2 : wr.cell? (adf.add (x0 * 2)) = some (.string ⟨(keyF x0).toArray⟩) := hkc
            have S3 := Set_any (some adf) cf (fullL 30) (keyF x0, [110, 101, 119]) wr hrf hcf (by rw [fullL_len]; omega) hfr.2.2
            simp only [hfn.1, if_true, fullL_len] at S3
            have hzl := hfn.2
            generalize setL (fullL 30) (keyF x0, [110, 101, 119]) = zs at *
            clear hfn hkc hk0
            have hl0i : ((30 : Nat) : Int) = 30 := rfl
            have hyd := fun (W : World) (hg : wy.grownBy W none) => Del_any Ay cy ys [109] W (RdAt.kept hry hg) hcy (by omega) hyr
            simp only [hdel.out] at hyd
            have mk1 : True := trivial
            have mk2 : True := trivial
            go_wp2_with (first
              | (go_at_call 24; refine (hW _).mono ?_; rintro e wv ⟨rfl, rfl⟩)
              | (go_at_call 7; refine S3.mono ?_; rintro e wz ⟨vz, rfl, hpz, hgz⟩; obtain ⟨Az, cz, rfl, hcz, hrz, -⟩ := hpz.form; have hrxZ := RdAt.kept (RdAt.kept (RdAt.kept hrx hgy) hgf) hgz; have hrlZ := RdAt.kept (RdAt.kept (RdAt.kept (RdAt.kept (RdAt.kept (RdAt.kept (RdAt.kept hrl hg2) hgj) hgx) hgy) hgf) hgz) (grown_refl _ _))
              | (go_at_call 19; clear mk1; refine (SameQ_m Ax Al xs xs _ _ cx cl wz hrxZ hrlZ ?k1 ?k2 rfl rfl rfl).mono ?_; (case k1 => omega); (case k2 => omega); rintro e wa ⟨rfl, hga⟩)
              | (go_at_call 9; refine (hyd _ (grown_none (grown_none hgf hgz) hga)).mono ?_; rintro e wb ⟨vb, rfl, hpb, hgb⟩; obtain ⟨Ab, cb, rfl, hcb, hrb, -⟩ := hpb.form; have hrlB := RdAt.kept (RdAt.kept hrlZ hga) hgb)
              | (go_at_call 19; clear mk2; refine (SameQ_m Ab Al xs xs _ _ cb cl wb hrb hrlB ?k3 ?k4 rfl rfl rfl).mono ?_; (case k3 => omega); (case k4 => omega); rintro e wc2 ⟨rfl, hgc⟩; have hgZ := grown_none (grown_none (grown_none hgz hga) hgb) hgc)
              | (go_at_call 11; refine (RightQ_m (some adf) cf 30 (fullL 30) wc2 (RdAt.kept hrf hgZ) ?k5 ?k6).mono ?_; (case k5 => rw [hl0]; omega); (case k6 => exact hl0.symm); rw [hfri]; rintro e wd ⟨rfl, hgd⟩)
              | (go_at_call 3; refine (KvRuns_any wd).mono ?_; rintro e we ⟨rfl, hge⟩))
            go_ret
            exact ⟨rfl, grown_none (grown_none (grown_none hgR hgZ) hgd) hge⟩
end Go.Proofs.Ytehbhjkceemmcaa
