/- The document's own Set. -/
import Derived.Test.YtehbhjkceemmcaaKvL
import Derived.Test.YtehbhjkceemmcaaKC
namespace Go.Proofs.Ytehbhjkceemmcaa
open Go.RowKit

theorem lit_0q (w : World) : (Instr.buildSlice 22 0 #[]).run Try.prog w = .ok (.slice (some ⟨w.heap.size, 0, none⟩) 0 0) (w.alloc (.cells #[] 26)) := by kernel_rfl
theorem lasts_ownQ (l : List Kv) : Lasts fun v w => OwnQ w v l := fun _ _ _ _ h hg hne => h.keep hg hne
theorem rd_litQ (w : World) (p : Kv) : ∃ A c, (Value.slice (some ⟨w.heap.size, 0, none⟩) 1 1) = .slice A 1 c ∧ RdAt (w.alloc (.cells #[.string ⟨p.1.toArray⟩, .string ⟨p.2.toArray⟩] 26)) A (qcs [p]) :=
  ⟨_, _, rfl, rd_row (alloc_atQ rfl)⟩
theorem blk_lt {A : Option Addr} {n c k : Nat} (h : ∀ ad, A = some ad → ad.block < k) : ∀ g, (Value.slice A n c).ownBlock = some g → g < k := by
  intro g e
  cases A with
  | none => cases e
  | some ad => simp only [Value.ownBlock, Option.some.injEq] at e; subst e; exact h _ rfl
theorem cut_lt {A : Option Addr} {c T k : Nat} (h : ∀ ad, A = some ad → ad.block < k) : ∀ ad, (if c = T then A else A.map (·.add (T * 2))) = some ad → ad.block < k := by
  intro ad e
  split at e
  · exact h ad e
  · cases A with
    | none => cases e
    | some a => simp only [Option.map_some, Option.some.injEq] at e; subst e; rw [add_block]; exact h a rfl
def kvsS (t : Nat) : Bool := (decide (32 ≤ t) && decide (t ≤ 41)) || t == 4
def kvsDie (k : Nat) : Nat := if k = 0 then 4 else if k = 4 then 7 else if k = 7 then 9 else if k = 9 then 10 else 99
def kvsOwn (k : Nat) : Bool := k == 0 || k == 4 || k == 6 || k == 7 || k == 9 || k == 10
def kvsF (A B : Option Addr) (n c N n2 c2 : Nat) (lo hi : List Kv) (p : Kv) : Nat → Value → World → Prop
  | 0 => fun v w => OwnQ w v ([])
  | 1 => fun v _ => v = .slice A n c
  | 2 => fun v _ => v = .int .i64 (N : Nat)
  | 3 => fun v _ => v = .slice A N c
  | 4 => fun v w => OwnQ w v (([]) ++ (lo))
  | 5 => fun v _ => v = (.agg #[.string ⟨(p).1.toArray⟩, .string ⟨(p).2.toArray⟩])
  | 6 => fun v w => ∃ A' c', v = .slice A' 1 c' ∧ RdAt w A' (qcs [p])
  | 7 => fun v w => OwnQ w v ((([]) ++ (lo)) ++ ([p]))
  | 8 => fun v _ => v = .slice B n2 c2
  | 9 => fun v w => OwnQ w v (((([]) ++ (lo)) ++ ([p])) ++ (hi))
  | 10 => fun v w => OwnQ w v (((([]) ++ (lo)) ++ ([p])) ++ (hi))
  | _ => fun _ _ => True
theorem kvsF_lasts (A B : Option Addr) (n c N n2 c2 : Nat) (lo hi : List Kv) (p : Kv) : ∀ k, Lasts (kvsF A B n c N n2 c2 lo hi p k)
  | 0 => lasts_ownQ _
  | 1 => lasts_val _
  | 2 => lasts_val _
  | 3 => lasts_val _
  | 4 => lasts_ownQ _
  | 5 => lasts_val _
  | 6 => lasts_rd _ _
  | 7 => lasts_ownQ _
  | 8 => lasts_val _
  | 9 => lasts_ownQ _
  | 10 => lasts_ownQ _
  | _ + 11 => fun _ _ _ _ _ _ _ => trivial

set_option maxRecDepth 100000 in
set_option maxHeartbeats 2000000 in
theorem RSet_any (A : Option Addr) (c : Nat) (ps : List Kv) (p : Kv) (w : World) (hr : RdQ w A ps) (hA : ∀ ad, A = some ad → ad.block < w.heap.size) (hc : ps.length ≤ c) (hn : ps.length ≤ 1000) (hs : Rises ps) :
    Calls Try.prog 16 #[.slice A ps.length c, .agg #[.string ⟨p.1.toArray⟩, .string ⟨p.2.toArray⟩]] w fun e w' => ∃ v', e = .returned v' ∧ PB w' v' (setL ps p) ∧ w.grownBy w' none := by
  have gs := eql_str
  have ts : ∀ l : List UInt8, (ByteArray.mk l.toArray).toList = l := fun l => Lib.toList_data _
  have hS := fun (W : World) (hg : w.grownBy W none) => RFirst_any A c ps p.1 W (hr.kept hg) (by omega) hs
  have hl := len_parts hs p.1
  have hNn := lowN_le ps p.1
  have hlo := hr.take (lowN ps p.1)
  rw [take_low hs] at hlo
  have hNl : (loL ps p.1).length = lowN ps p.1 := rfl
  have hcat2 : ((([]) ++ (loL ps p.1)) ++ ([p])) ++ (hiL ps p.1) = setL ps p := by unfold setL; simp
  have hhi := RdQ.cut hr (k := lowN ps p.1 + (atL ps p.1).length) hc
  rw [drop_past hs] at hhi
  have s1 := sl_hiQ A ps.length c (lowN ps p.1) (by omega)
  have s2 := sl_loQ A ps.length c (lowN ps p.1) (by omega)
  have s3 := lit_1q
  obtain ⟨w0, hw0⟩ : ∃ w0, w.alloc (.cells #[.string ⟨p.1.toArray⟩, .string ⟨p.2.toArray⟩] 26) = w0 := ⟨_, rfl⟩
  have hg0 : w.grownBy w0 none := by rw [← hw0]; exact grown_alloc (grown_refl _ _) _
  have hbx0 : AtQ w0 ⟨w.heap.size, 0, none⟩ p := box_at (by rw [hw0]; exact grown_refl _ _)
  have hb1 : w0.cell? ⟨w.heap.size, 0, none⟩ = some (.string ⟨p.1.toArray⟩) := hbx0.1
  have HW := Lib.hid hw0
  clear hw0
  by_cases hlt : lowN ps p.1 < ps.length
  · have hcut := has_at hs p.1 hlt
    have hB := cut_lt (c := c) (T := lowN ps p.1 + (atL ps p.1).length) hA
    obtain ⟨ad, rfl, hz, -⟩ := RdQ.get hr hlt
    have hz1 : w0.cell? (ad.add (lowN ps p.1 * 2)) = some (.string ⟨(ps[lowN ps p.1]).1.toArray⟩) := hg0.cell hz (by simp)
    clear hz
    generalize (ps[lowN ps p.1]).1 = zk at *
    unfold hasK at hcut
    rcases atL_one hs p.1 with h0 | ⟨v0, h0⟩
    · rw [h0] at hcut hl hhi hB
      have hne : (zk == p.1) = false := by
        cases hq : zk == p.1
        · rfl
        · rw [beq_iff_eq.1 hq] at hcut; simp at hcut
      simp only [List.length_nil, Nat.add_zero, Nat.zero_add] at hl hhi hB
      clear hs h0 hcut
      generalize lowN ps p.1 = N at *
      generalize loL ps p.1 = lo at *
      generalize hiL ps p.1 = hi at *
      have hn2 : hi.length = ps.length - N := by omega
      have hN1 : N ≤ 1000 := by omega
      have hn21 : ps.length - N ≤ 1000 := by omega
      clear hl
      generalize (if c = N then some ad else (some ad).map (·.add (N * 2))) = B at *
      generalize ps.length - N = n2 at *
      generalize c - N = c2 at *
      have hrh0 := hhi
      go_enter Try.func16, Try.ntmps16
      go_wp2_with (first | (go_at_call 18; rw [HW.out]; refine (hS _ hg0).mono ?_; rintro e w1 ⟨rfl, rfl⟩))
      go_quiet (fail)
      go_wp2
      generalize hwq : w0.drewN nq = wq
      have hgq : w.grownBy wq none := by rw [← hwq]; exact grown_drewN hg0 _
      have hrl := hlo.kept hgq
      have hrh := RdAt.kept hrh0 hgq
      have hbx : AtQ wq ⟨w.heap.size, 0, none⟩ p := hbx0.kept (by rw [← hwq]; exact grown_drewN (grown_refl _ _) _)
      have hA0 := blk_lt (n := ps.length) (c := c) fun ad e => Nat.lt_of_lt_of_le (hA ad e) hgq.size
      have hA1 := blk_lt (n := N) (c := c) fun ad e => Nat.lt_of_lt_of_le (hA ad e) hgq.size
      have hB0 := blk_lt (n := n2) (c := c2) fun ad e => Nat.lt_of_lt_of_le (hB ad e) hgq.size
      refine wp_region_go2 (N := 42) (S := kvsS) (die := kvsDie) (own := kvsOwn) (F := kvsF (some ad) B ps.length c N n2 c2 lo hi p) (by kernel_rfl) (by kernel_rfl) (Nat.le_of_ble_eq_true (by kernel_rfl)) (kvsF_lasts (some ad) B ps.length c N n2 c2 lo hi p) ?_ ?_
      · intro i o L' a w K hi ho hg hLi hout hpre houter hitem h1 h2
        have hcases : i = 0 ∨ i = 1 ∨ i = 2 ∨ i = 3 ∨ i = 4 ∨ i = 5 ∨ i = 6 ∨ i = 7 ∨ i = 8 ∨ i = 9 ∨ i = 10 := by
          have : i < 11 := hi
          omega
        rcases hcases with rfl | rfl | rfl | rfl | rfl | rfl | rfl | rfl | rfl | rfl | rfl
        · cases (show some _ = some o from ho)
          exact ⟨rfl, wp_lit0 rfl (lit_0q _) (h1 _ _ (grown_alloc (grown_refl _ _) _) (emptyQ _) (lt_new _ _) Fresh.lit)⟩
        · cases (show some _ = some o from ho)
          refine ⟨rfl, wp_move rfl (h1 _ _ (grown_refl _ none) (houter _ rfl) ?_ ?_)⟩
          · rw [houter _ rfl]; exact fun g e => Nat.lt_of_lt_of_le (hA0 g e) hg.size
          · rw [houter _ rfl]; exact Fresh.old rfl hA0
        · cases (show some _ = some o from ho)
          exact ⟨rfl, wp_move rfl (h1 _ _ (grown_refl _ none) (houter _ rfl) (lt_val (houter _ rfl) rfl) (Fresh.val (houter _ rfl) rfl))⟩
        · cases (show some _ = some o from ho)
          exact ⟨rfl, wp_slice_hi rfl (hitem 1 (by decide) ⟨hpre 1 rfl, hout _ (by decide)⟩) (hitem 2 (by decide) ⟨hpre 2 rfl, hout _ (by decide)⟩) (s1 _) (h1 _ _ (grown_refl _ none) rfl (fun g e => Nat.lt_of_lt_of_le (hA1 g e) hg.size) (Fresh.old rfl hA1))⟩
        · cases (show some _ = some o from ho)
          have hx3 := hitem 3 (by decide) ⟨hpre 3 rfl, hout _ (by decide)⟩
          exact ⟨rfl, wp_appQ rfl rfl (hitem 0 (by decide) ⟨hpre 0 rfl, hLi⟩) (hx3) hNl.symm (hrl.kept hg) (by simp; omega) fun v w' hv hw => h2 0 v w' (by decide) ⟨hpre 0 rfl, hLi⟩ rfl rfl hw.1 hv (fun g e => hv.lt _ e) (Fresh.ofGrew hw)⟩
        · cases (show some _ = some o from ho)
          exact ⟨rfl, wp_load_kv rfl (houter _ rfl) (hbx.kept hg) (h1 _ _ (grown_refl _ none) rfl (fun g e => by cases e) (.inl rfl))⟩
        · cases (show some _ = some o from ho)
          exact ⟨rfl, wp_lit1 rfl (hitem 5 (by decide) ⟨hpre 5 rfl, hout _ (by decide)⟩) (lit_1q _ _ _) (h1 _ _ (grown_alloc (grown_refl _ _) _) (rd_litQ _ p) (lt_new _ _) Fresh.lit)⟩
        · cases (show some _ = some o from ho)
          obtain ⟨A6, c6, hx6, hr6⟩ := hitem 6 (by decide) ⟨hpre 6 rfl, hout _ (by decide)⟩
          exact ⟨rfl, wp_appQ rfl rfl (hitem 4 (by decide) ⟨hpre 4 rfl, hLi⟩) hx6 rfl hr6 (by simp; omega) fun v w' hv hw => h2 4 v w' (by decide) ⟨hpre 4 rfl, hLi⟩ rfl rfl hw.1 hv (fun g e => hv.lt _ e) (Fresh.ofGrew hw)⟩
        · cases (show some _ = some o from ho)
          refine ⟨rfl, wp_move rfl (h1 _ _ (grown_refl _ none) (houter _ rfl) ?_ ?_)⟩
          · rw [houter _ rfl]; exact fun g e => Nat.lt_of_lt_of_le (hB0 g e) hg.size
          · rw [houter _ rfl]; exact Fresh.old rfl hB0
        · cases (show some _ = some o from ho)
          have hx8 := hitem 8 (by decide) ⟨hpre 8 rfl, hout _ (by decide)⟩
          exact ⟨rfl, wp_appQ rfl rfl (hitem 7 (by decide) ⟨hpre 7 rfl, hLi⟩) hx8 hn2.symm (hrh.kept hg) (by simp; omega) fun v w' hv hw => h2 7 v w' (by decide) ⟨hpre 7 rfl, hLi⟩ rfl rfl hw.1 hv (fun g e => hv.lt _ e) (Fresh.ofGrew hw)⟩
        · cases (show some _ = some o from ho)
          have hx := hitem 9 (by decide) ⟨hpre 9 rfl, hLi⟩
          exact ⟨rfl, wp_assign rfl (h2 9 _ _ (by decide) ⟨hpre 9 rfl, hLi⟩ rfl rfl (grown_refl _ _) hx (fun g e => OwnQ.lt hx _ e) (Fresh.ofGrew (Grew.refl _ _)))⟩
      · intro a w hg hend ha
        obtain ⟨hv, -⟩ := hend 10 (by decide) (by decide)
        obtain ⟨f, hf⟩ : ∃ f : Nat → Value, f = fun t => a.tmps.getD t undef := ⟨_, rfl⟩
        have hv' : OwnQ w (f 4) (((([]) ++ (lo)) ++ ([p])) ++ (hi)) := by rw [hf]; exact hv
        rw [← hf] at ha
        generalize hR : f 4 = rv at hv'
        clear hv hend
        clear hf
        subst ha
        simp only [fill, kvsS, Nat.reduceAdd, Nat.reduceBEq, Nat.reduceLeDiff, decide_false, decide_true, Bool.or_false, Bool.or_true, Bool.and_true, cond_true, cond_false, hR]
        clear hR
        go_wp2_with fail
        go_ret
        refine ⟨_, rfl, ?_, grown_none hgq hg⟩
        have h9 := hv'.toPB
        rwa [hcat2] at h9
    · rw [h0] at hcut hl hhi hB
      have hne : (zk == p.1) = true := by simpa using hcut
      simp only [List.length_cons, List.length_nil, Nat.zero_add] at hl hhi hB
      have s2b : ∀ w : World, (Instr.sliceAt 22 (.slice (some ad) ps.length c) (some (.int .i64 ((lowN ps p.1 : Int) + 1))) none none).run Try.prog w = .ok (.slice (if c = lowN ps p.1 + 1 then some ad else (some ad).map (·.add ((lowN ps p.1 + 1) * 2))) (ps.length - (lowN ps p.1 + 1)) (c - (lowN ps p.1 + 1))) w := fun w => sl_loQ (some ad) ps.length c (lowN ps p.1 + 1) (by omega) w
      clear hs h0 hcut
      generalize (if c = lowN ps p.1 then some ad else (some ad).map (·.add (lowN ps p.1 * 2))) = B1 at s2
      generalize lowN ps p.1 = N at *
      generalize loL ps p.1 = lo at *
      generalize hiL ps p.1 = hi at *
      have hn2 : hi.length = ps.length - (N + 1) := by omega
      have hN1 : N ≤ 1000 := by omega
      have hn21 : ps.length - (N + 1) ≤ 1000 := by omega
      clear hl
      generalize (if c = N + 1 then some ad else (some ad).map (·.add ((N + 1) * 2))) = B at *
      generalize ps.length - (N + 1) = n2 at *
      generalize c - (N + 1) = c2 at *
      have hrh0 := hhi
      go_enter Try.func16, Try.ntmps16
      go_wp2_with (first | (go_at_call 18; rw [HW.out]; refine (hS _ hg0).mono ?_; rintro e w1 ⟨rfl, rfl⟩))
      go_quiet (fail)
      go_wp2
      generalize hwq : w0.drewN nq = wq
      have hgq : w.grownBy wq none := by rw [← hwq]; exact grown_drewN hg0 _
      have hrl := hlo.kept hgq
      have hrh := RdAt.kept hrh0 hgq
      have hbx : AtQ wq ⟨w.heap.size, 0, none⟩ p := hbx0.kept (by rw [← hwq]; exact grown_drewN (grown_refl _ _) _)
      have hA0 := blk_lt (n := ps.length) (c := c) fun ad e => Nat.lt_of_lt_of_le (hA ad e) hgq.size
      have hA1 := blk_lt (n := N) (c := c) fun ad e => Nat.lt_of_lt_of_le (hA ad e) hgq.size
      have hB0 := blk_lt (n := n2) (c := c2) fun ad e => Nat.lt_of_lt_of_le (hB ad e) hgq.size
      refine wp_region_go2 (N := 42) (S := kvsS) (die := kvsDie) (own := kvsOwn) (F := kvsF (some ad) B ps.length c N n2 c2 lo hi p) (by kernel_rfl) (by kernel_rfl) (Nat.le_of_ble_eq_true (by kernel_rfl)) (kvsF_lasts (some ad) B ps.length c N n2 c2 lo hi p) ?_ ?_
      · intro i o L' a w K hi ho hg hLi hout hpre houter hitem h1 h2
        have hcases : i = 0 ∨ i = 1 ∨ i = 2 ∨ i = 3 ∨ i = 4 ∨ i = 5 ∨ i = 6 ∨ i = 7 ∨ i = 8 ∨ i = 9 ∨ i = 10 := by
          have : i < 11 := hi
          omega
        rcases hcases with rfl | rfl | rfl | rfl | rfl | rfl | rfl | rfl | rfl | rfl | rfl
        · cases (show some _ = some o from ho)
          exact ⟨rfl, wp_lit0 rfl (lit_0q _) (h1 _ _ (grown_alloc (grown_refl _ _) _) (emptyQ _) (lt_new _ _) Fresh.lit)⟩
        · cases (show some _ = some o from ho)
          refine ⟨rfl, wp_move rfl (h1 _ _ (grown_refl _ none) (houter _ rfl) ?_ ?_)⟩
          · rw [houter _ rfl]; exact fun g e => Nat.lt_of_lt_of_le (hA0 g e) hg.size
          · rw [houter _ rfl]; exact Fresh.old rfl hA0
        · cases (show some _ = some o from ho)
          exact ⟨rfl, wp_move rfl (h1 _ _ (grown_refl _ none) (houter _ rfl) (lt_val (houter _ rfl) rfl) (Fresh.val (houter _ rfl) rfl))⟩
        · cases (show some _ = some o from ho)
          exact ⟨rfl, wp_slice_hi rfl (hitem 1 (by decide) ⟨hpre 1 rfl, hout _ (by decide)⟩) (hitem 2 (by decide) ⟨hpre 2 rfl, hout _ (by decide)⟩) (s1 _) (h1 _ _ (grown_refl _ none) rfl (fun g e => Nat.lt_of_lt_of_le (hA1 g e) hg.size) (Fresh.old rfl hA1))⟩
        · cases (show some _ = some o from ho)
          have hx3 := hitem 3 (by decide) ⟨hpre 3 rfl, hout _ (by decide)⟩
          exact ⟨rfl, wp_appQ rfl rfl (hitem 0 (by decide) ⟨hpre 0 rfl, hLi⟩) (hx3) hNl.symm (hrl.kept hg) (by simp; omega) fun v w' hv hw => h2 0 v w' (by decide) ⟨hpre 0 rfl, hLi⟩ rfl rfl hw.1 hv (fun g e => hv.lt _ e) (Fresh.ofGrew hw)⟩
        · cases (show some _ = some o from ho)
          exact ⟨rfl, wp_load_kv rfl (houter _ rfl) (hbx.kept hg) (h1 _ _ (grown_refl _ none) rfl (fun g e => by cases e) (.inl rfl))⟩
        · cases (show some _ = some o from ho)
          exact ⟨rfl, wp_lit1 rfl (hitem 5 (by decide) ⟨hpre 5 rfl, hout _ (by decide)⟩) (lit_1q _ _ _) (h1 _ _ (grown_alloc (grown_refl _ _) _) (rd_litQ _ p) (lt_new _ _) Fresh.lit)⟩
        · cases (show some _ = some o from ho)
          obtain ⟨A6, c6, hx6, hr6⟩ := hitem 6 (by decide) ⟨hpre 6 rfl, hout _ (by decide)⟩
          exact ⟨rfl, wp_appQ rfl rfl (hitem 4 (by decide) ⟨hpre 4 rfl, hLi⟩) hx6 rfl hr6 (by simp; omega) fun v w' hv hw => h2 4 v w' (by decide) ⟨hpre 4 rfl, hLi⟩ rfl rfl hw.1 hv (fun g e => hv.lt _ e) (Fresh.ofGrew hw)⟩
        · cases (show some _ = some o from ho)
          refine ⟨rfl, wp_move rfl (h1 _ _ (grown_refl _ none) (houter _ rfl) ?_ ?_)⟩
          · rw [houter _ rfl]; exact fun g e => Nat.lt_of_lt_of_le (hB0 g e) hg.size
          · rw [houter _ rfl]; exact Fresh.old rfl hB0
        · cases (show some _ = some o from ho)
          have hx8 := hitem 8 (by decide) ⟨hpre 8 rfl, hout _ (by decide)⟩
          exact ⟨rfl, wp_appQ rfl rfl (hitem 7 (by decide) ⟨hpre 7 rfl, hLi⟩) hx8 hn2.symm (hrh.kept hg) (by simp; omega) fun v w' hv hw => h2 7 v w' (by decide) ⟨hpre 7 rfl, hLi⟩ rfl rfl hw.1 hv (fun g e => hv.lt _ e) (Fresh.ofGrew hw)⟩
        · cases (show some _ = some o from ho)
          have hx := hitem 9 (by decide) ⟨hpre 9 rfl, hLi⟩
          exact ⟨rfl, wp_assign rfl (h2 9 _ _ (by decide) ⟨hpre 9 rfl, hLi⟩ rfl rfl (grown_refl _ _) hx (fun g e => OwnQ.lt hx _ e) (Fresh.ofGrew (Grew.refl _ _)))⟩
      · intro a w hg hend ha
        obtain ⟨hv, -⟩ := hend 10 (by decide) (by decide)
        obtain ⟨f, hf⟩ : ∃ f : Nat → Value, f = fun t => a.tmps.getD t undef := ⟨_, rfl⟩
        have hv' : OwnQ w (f 4) (((([]) ++ (lo)) ++ ([p])) ++ (hi)) := by rw [hf]; exact hv
        rw [← hf] at ha
        generalize hR : f 4 = rv at hv'
        clear hv hend
        clear hf
        subst ha
        simp only [fill, kvsS, Nat.reduceAdd, Nat.reduceBEq, Nat.reduceLeDiff, decide_false, decide_true, Bool.or_false, Bool.or_true, Bool.and_true, cond_true, cond_false, hR]
        clear hR
        go_wp2_with fail
        go_ret
        refine ⟨_, rfl, ?_, grown_none hgq hg⟩
        have h9 := hv'.toPB
        rwa [hcat2] at h9
  · have hB := cut_lt (c := c) (T := lowN ps p.1 + (atL ps p.1).length) hA
    have h0 : atL ps p.1 = [] := List.eq_nil_of_length_eq_zero (by omega)
    rw [h0] at hl hhi hB
    simp only [List.length_nil, Nat.add_zero, Nat.zero_add] at hl hhi hB
    have hNe : lowN ps p.1 = ps.length := by omega
    have hlt2 : ¬ (lowN ps p.1 : Int) < (ps.length : Int) := by omega
    clear hs h0
    generalize lowN ps p.1 = N at *
    generalize loL ps p.1 = lo at *
    generalize hiL ps p.1 = hi at *
    have hn2 : hi.length = ps.length - N := by omega
    have hN1 : N ≤ 1000 := by omega
    have hn21 : ps.length - N ≤ 1000 := by omega
    clear hl hNe
    generalize (if c = N then A else A.map (·.add (N * 2))) = B at *
    generalize ps.length - N = n2 at *
    generalize c - N = c2 at *
    have hrh0 := hhi
    go_enter Try.func16, Try.ntmps16
    go_wp2_with (first | (go_at_call 18; rw [HW.out]; refine (hS _ hg0).mono ?_; rintro e w1 ⟨rfl, rfl⟩))
    go_quiet (fail)
    go_wp2
    generalize hwq : w0.drewN nq = wq
    have hgq : w.grownBy wq none := by rw [← hwq]; exact grown_drewN hg0 _
    have hrl := hlo.kept hgq
    have hrh := RdAt.kept hrh0 hgq
    have hbx : AtQ wq ⟨w.heap.size, 0, none⟩ p := hbx0.kept (by rw [← hwq]; exact grown_drewN (grown_refl _ _) _)
    have hA0 := blk_lt (n := ps.length) (c := c) fun ad e => Nat.lt_of_lt_of_le (hA ad e) hgq.size
    have hA1 := blk_lt (n := N) (c := c) fun ad e => Nat.lt_of_lt_of_le (hA ad e) hgq.size
    have hB0 := blk_lt (n := n2) (c := c2) fun ad e => Nat.lt_of_lt_of_le (hB ad e) hgq.size
    refine wp_region_go2 (N := 42) (S := kvsS) (die := kvsDie) (own := kvsOwn) (F := kvsF A B ps.length c N n2 c2 lo hi p) (by kernel_rfl) (by kernel_rfl) (Nat.le_of_ble_eq_true (by kernel_rfl)) (kvsF_lasts A B ps.length c N n2 c2 lo hi p) ?_ ?_
    · intro i o L' a w K hi ho hg hLi hout hpre houter hitem h1 h2
      have hcases : i = 0 ∨ i = 1 ∨ i = 2 ∨ i = 3 ∨ i = 4 ∨ i = 5 ∨ i = 6 ∨ i = 7 ∨ i = 8 ∨ i = 9 ∨ i = 10 := by
        have : i < 11 := hi
        omega
      rcases hcases with rfl | rfl | rfl | rfl | rfl | rfl | rfl | rfl | rfl | rfl | rfl
      · cases (show some _ = some o from ho)
        exact ⟨rfl, wp_lit0 rfl (lit_0q _) (h1 _ _ (grown_alloc (grown_refl _ _) _) (emptyQ _) (lt_new _ _) Fresh.lit)⟩
      · cases (show some _ = some o from ho)
        refine ⟨rfl, wp_move rfl (h1 _ _ (grown_refl _ none) (houter _ rfl) ?_ ?_)⟩
        · rw [houter _ rfl]; exact fun g e => Nat.lt_of_lt_of_le (hA0 g e) hg.size
        · rw [houter _ rfl]; exact Fresh.old rfl hA0
      · cases (show some _ = some o from ho)
        exact ⟨rfl, wp_move rfl (h1 _ _ (grown_refl _ none) (houter _ rfl) (lt_val (houter _ rfl) rfl) (Fresh.val (houter _ rfl) rfl))⟩
      · cases (show some _ = some o from ho)
        exact ⟨rfl, wp_slice_hi rfl (hitem 1 (by decide) ⟨hpre 1 rfl, hout _ (by decide)⟩) (hitem 2 (by decide) ⟨hpre 2 rfl, hout _ (by decide)⟩) (s1 _) (h1 _ _ (grown_refl _ none) rfl (fun g e => Nat.lt_of_lt_of_le (hA1 g e) hg.size) (Fresh.old rfl hA1))⟩
      · cases (show some _ = some o from ho)
        have hx3 := hitem 3 (by decide) ⟨hpre 3 rfl, hout _ (by decide)⟩
        exact ⟨rfl, wp_appQ rfl rfl (hitem 0 (by decide) ⟨hpre 0 rfl, hLi⟩) (hx3) hNl.symm (hrl.kept hg) (by simp; omega) fun v w' hv hw => h2 0 v w' (by decide) ⟨hpre 0 rfl, hLi⟩ rfl rfl hw.1 hv (fun g e => hv.lt _ e) (Fresh.ofGrew hw)⟩
      · cases (show some _ = some o from ho)
        exact ⟨rfl, wp_load_kv rfl (houter _ rfl) (hbx.kept hg) (h1 _ _ (grown_refl _ none) rfl (fun g e => by cases e) (.inl rfl))⟩
      · cases (show some _ = some o from ho)
        exact ⟨rfl, wp_lit1 rfl (hitem 5 (by decide) ⟨hpre 5 rfl, hout _ (by decide)⟩) (lit_1q _ _ _) (h1 _ _ (grown_alloc (grown_refl _ _) _) (rd_litQ _ p) (lt_new _ _) Fresh.lit)⟩
      · cases (show some _ = some o from ho)
        obtain ⟨A6, c6, hx6, hr6⟩ := hitem 6 (by decide) ⟨hpre 6 rfl, hout _ (by decide)⟩
        exact ⟨rfl, wp_appQ rfl rfl (hitem 4 (by decide) ⟨hpre 4 rfl, hLi⟩) hx6 rfl hr6 (by simp; omega) fun v w' hv hw => h2 4 v w' (by decide) ⟨hpre 4 rfl, hLi⟩ rfl rfl hw.1 hv (fun g e => hv.lt _ e) (Fresh.ofGrew hw)⟩
      · cases (show some _ = some o from ho)
        refine ⟨rfl, wp_move rfl (h1 _ _ (grown_refl _ none) (houter _ rfl) ?_ ?_)⟩
        · rw [houter _ rfl]; exact fun g e => Nat.lt_of_lt_of_le (hB0 g e) hg.size
        · rw [houter _ rfl]; exact Fresh.old rfl hB0
      · cases (show some _ = some o from ho)
        have hx8 := hitem 8 (by decide) ⟨hpre 8 rfl, hout _ (by decide)⟩
        exact ⟨rfl, wp_appQ rfl rfl (hitem 7 (by decide) ⟨hpre 7 rfl, hLi⟩) hx8 hn2.symm (hrh.kept hg) (by simp; omega) fun v w' hv hw => h2 7 v w' (by decide) ⟨hpre 7 rfl, hLi⟩ rfl rfl hw.1 hv (fun g e => hv.lt _ e) (Fresh.ofGrew hw)⟩
      · cases (show some _ = some o from ho)
        have hx := hitem 9 (by decide) ⟨hpre 9 rfl, hLi⟩
        exact ⟨rfl, wp_assign rfl (h2 9 _ _ (by decide) ⟨hpre 9 rfl, hLi⟩ rfl rfl (grown_refl _ _) hx (fun g e => OwnQ.lt hx _ e) (Fresh.ofGrew (Grew.refl _ _)))⟩
    · intro a w hg hend ha
      obtain ⟨hv, -⟩ := hend 10 (by decide) (by decide)
      obtain ⟨f, hf⟩ : ∃ f : Nat → Value, f = fun t => a.tmps.getD t undef := ⟨_, rfl⟩
      have hv' : OwnQ w (f 4) (((([]) ++ (lo)) ++ ([p])) ++ (hi)) := by rw [hf]; exact hv
      rw [← hf] at ha
      generalize hR : f 4 = rv at hv'
      clear hv hend
      clear hf
      subst ha
      simp only [fill, kvsS, Nat.reduceAdd, Nat.reduceBEq, Nat.reduceLeDiff, decide_false, decide_true, Bool.or_false, Bool.or_true, Bool.and_true, cond_true, cond_false, hR]
      clear hR
      go_wp2_with fail
      go_ret
      refine ⟨_, rfl, ?_, grown_none hgq hg⟩
      have h9 := hv'.toPB
      rwa [hcat2] at h9
end Go.Proofs.Ytehbhjkceemmcaa
