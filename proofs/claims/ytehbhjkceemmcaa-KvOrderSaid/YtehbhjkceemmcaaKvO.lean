/- The statements' rows of pairs: made by a map. -/
import Derived.Test.YtehbhjkceemmcaaKvN
import Derived.Test.YtehbhjkceemmcaaKF
import Derived.Maps.OwnSet
namespace Go.Proofs.Ytehbhjkceemmcaa
open Go.RowKit
open Go.Maps (Keyed string_keyed)

/-- A row of pairs as the statements make it: some of their keys, in order, with short texts. -/
def Kept (ps : List Kv) : Prop := (ps.map (·.1)).Sublist keysK ∧ ∀ p ∈ ps, p.2.length ≤ 8
theorem Kept.len {ps : List Kv} (h : Kept ps) : ps.length ≤ 12 := by
  have := h.1.length_le
  rwa [List.length_map] at this
theorem Kept.rises {ps : List Kv} (h : Kept ps) : Rises ps := by
  have := List.Pairwise.sublist h.1 keysK_rise
  rw [List.pairwise_map] at this
  exact this
theorem Kept.may {ps : List Kv} (h : Kept ps) : ∀ p ∈ ps, mayQ p = true := by
  intro p hp
  have h1 := keysK_may p.1 (h.1.subset (List.mem_map_of_mem hp))
  have h2 := h.2 p hp
  unfold mayQ
  rw [decide_eq_true_iff]
  omega
theorem Kept.right {ps : List Kv} (h : Kept ps) : rightL ps = true := (right_iff ps).2 ⟨by have := h.len; omega, h.may, h.rises⟩

theorem law_str : Keyed Try.prog 9 := string_keyed Try.underlying9
theorem zero_str (w : World) : (zeroValue 9).run Try.prog w = .ok (.string ⟨#[]⟩) w := by kernel_rfl
/-- How a short text reads. -/
def Rk : Value → Option (DataW Unit × List MemPlace)
  | .string s => if s.data.toList.length ≤ 8 then some (.lit (.string s.data.toList), []) else none
  | _ => none
theorem Rk_mk {t : List UInt8} (h : t.length ≤ 8) : Rk (.string ⟨t.toArray⟩) = some (.lit (.string t), []) := by simp [Rk, h]
theorem Rk_inv {v : Value} {z : DataW Unit × List MemPlace} (h : Rk v = some z) : ∃ s : List UInt8, v = .string ⟨s.toArray⟩ ∧ s.length ≤ 8 := by
  unfold Rk at h
  split at h
  · rename_i s
    split at h
    · rename_i hs
      exact ⟨s.data.toList, by simp, hs⟩
    · cases h
  · cases h
theorem wpList_lookK {ops : Array Oper} {rest : List Oper} {o : Oper} {a : Act} {w : World} {Q : Exit → Act → World → Prop} (hgd : o.guard = none) (m x : Operand) (hop : o.op = Op.lookup 53 m x true)
    (b n : Nat) (D : DataW Unit) (hm : a.eval m = .map (some b)) (hown : w.ownsMap Try.prog 9 Rk b n D) (k : List UInt8) (hx : a.eval x = .string ⟨k.toArray⟩) (hk : k.length ≤ 16)
    (hK : ∀ (s : List UInt8) (ok : Bool), s.length ≤ 8 → wpList Try.prog ops Q rest (a.put o.dst (.tuple #[.string ⟨s.toArray⟩, .bool ok])) w) : wpList Try.prog ops Q (o :: rest) a w :=
  wpList_lookup_own_ok w hgd m x 53 hop 9 9 law_str Try.underlying53 Rk (zero_str w) (.lit (.string [])) [] (by simp [Rk]) b n D hm hown _ _ hx
    (Go.WideMaps.keyOf_string_mk Try.underlying9 (by simp [ByteArray.size, maxLen]; omega)) fun v ps hv => by
    obtain ⟨s, rfl, hs⟩ := Rk_inv hv
    exact hK s _ hs
theorem idx_I (ad : Addr) (n c k : Nat) (hk : k < n) (w : World) : (Instr.indexAt 32 (.slice (some ad) n c) (.int .i64 (k : Int))).run Try.prog w = .ok (.pointer (some (ad.add k))) w := by
  rw [run_indexAt_slice (P := Try.prog) (h := by kernel_rfl), if_pos ⟨by omega, by omega⟩]
  rw [show (sizeOf (Try.prog.elem 32)).run Try.prog w = .ok 1 w from by kernel_rfl, Result.andThen_ok]
  simp
theorem quo12 (n : Int) : ∃ m : Int, ∀ w : World, (binOp .quo 3 (.int .i64 n) (.int .i64 12)).run Try.prog w = .ok (.int .i64 m) w :=
  ⟨IntKind.i64.wrap (n.tdiv 12), fun w => by kernel_rfl⟩
def kpS (t : Nat) : Bool := t == 21 || t == 22 || t == 23 || t == 24 || t == 25 || t == 26 || t == 27 || t == 28 || t == 29 || t == 30 || t == 31 || t == 32
def kpDie (_ : Nat) : Nat := 99
def kpOwn (_ : Nat) : Bool := false
def kpAl (k : Nat) : Bool := k == 1 || k == 6
def kpF (ad : Addr) (n c k B : Nat) (x m : Int) (kt tt : List UInt8) : Nat → Value → World → Prop
  | 0 => fun v _ => v = .map (some B)
  | 1 => fun v _ => v = .slice (some ad) n c
  | 2 => fun v _ => v = .int .i64 (k : Nat)
  | 3 => fun v _ => v = .pointer (some (ad.add k))
  | 4 => fun v _ => v = .int .i64 x
  | 5 => fun v _ => v = (.string ⟨kt.toArray⟩)
  | 6 => fun v _ => v = .slice (some ad) n c
  | 7 => fun v _ => v = .int .i64 (k : Nat)
  | 8 => fun v _ => v = .pointer (some (ad.add k))
  | 9 => fun v _ => v = .int .i64 x
  | 10 => fun v _ => v = .int .i64 m
  | 11 => fun v _ => v = (.string ⟨tt.toArray⟩)
  | _ => fun _ _ => True
theorem kpF_lasts (ad : Addr) (n c k B : Nat) (x m : Int) (kt tt : List UInt8) : ∀ kq, LastsB kpAl kq (kpF ad n c k B x m kt tt kq)
  | 0 => LastsB.val _
  | 1 => LastsB.val _
  | 2 => LastsB.val _
  | 3 => LastsB.val _
  | 4 => LastsB.val _
  | 5 => LastsB.val _
  | 6 => LastsB.val _
  | 7 => LastsB.val _
  | 8 => LastsB.val _
  | 9 => LastsB.val _
  | 10 => LastsB.val _
  | 11 => LastsB.val _
  | _ + 12 => fun _ _ _ _ _ _ _ => trivial

set_option maxRecDepth 100000 in
set_option maxHeartbeats 2000000 in
theorem Pairs_any (A : Option Addr) (c : Nat) (ns : List Int) (w : World) (hr : RdI w A ns) :
    Calls Try.prog 20 #[.slice A ns.length c] w fun e w' => ∃ v' ps, e = .returned v' ∧ Kept ps ∧ PB w' v' ps ∧ w.grownBy w' none := by
  have hmm := @run_makeMap Try.prog
  go_enter Try.func20, Try.ntmps20
  go_wp2
  go_loopw [4] (fun i wr => ∃ (k : Nat) (D : DataW Unit), k ≤ 12 ∧ k ≤ ns.length ∧ i = .int .i64 k ∧ wr.ownsMap Try.prog 9 Rk w.heap.size k D ∧ w.grownBy wr none) (fun i _ => 12 - (intOf i).toNat)
  case atStart => exact ⟨0, _, by omega, Nat.zero_le _, rfl, World.ownsMap_made _ _ _ _, grown_alloc (grown_refl _ _) _⟩
  case round =>
    obtain ⟨k, D, hk, hkn, rfl, hmap, hg0⟩ := hrel
    by_cases hcond : k < ns.length ∧ k < 12
    · obtain ⟨hlt, hk12⟩ := hcond
      obtain ⟨ad, rfl, hcx⟩ := RdI.get (RdAt.kept hr hg0) hlt
      generalize ns[k] = x at hcx
      obtain ⟨kt, hkt, hKk⟩ := KKey_any x
      obtain ⟨m, hm⟩ := quo12 x
      obtain ⟨tt, htt, hTt⟩ := KText_any m
      have hkl := keysK_may kt hkt
      have htl := textsK_may tt htt
      go_wp2
      refine wp_region_gb (al := kpAl) 12 (N := 54) (S := kpS) (die := kpDie) (own := kpOwn) (F := kpF ad ns.length c k w.heap.size x m kt tt) (by kernel_rfl) (Nat.le_of_ble_eq_true (by kernel_rfl)) (fun _ => by kernel_rfl) (fun _ => by kernel_rfl) (by kernel_rfl) (by kernel_rfl) (Nat.le_of_ble_eq_true (by kernel_rfl)) (kpF_lasts ad ns.length c k w.heap.size x m kt tt) ?_ ?_
      · intro i o L' a w K hi ho hg hLi hout hpre houter hitem h1 h2 h3
        have hcases : i = 0 ∨ i = 1 ∨ i = 2 ∨ i = 3 ∨ i = 4 ∨ i = 5 ∨ i = 6 ∨ i = 7 ∨ i = 8 ∨ i = 9 ∨ i = 10 ∨ i = 11 := by omega
        rcases hcases with rfl | rfl | rfl | rfl | rfl | rfl | rfl | rfl | rfl | rfl | rfl | rfl
        · cases (show some _ = some o from ho)
          exact ⟨rfl, wp_move rfl (h1 ⟨_, rfl⟩ _ _ (grown_refl _ none) (houter _ rfl) (by rw [houter _ rfl]; exact nobl rfl) (by rw [houter _ rfl]; exact FreshB.none rfl))⟩
        · cases (show some _ = some o from ho)
          exact ⟨rfl, wp_move rfl (h1 ⟨_, rfl⟩ _ _ (grown_refl _ none) (houter _ rfl) (by rw [houter _ rfl]; exact nobl rfl) (by rw [houter _ rfl]; exact FreshB.none rfl))⟩
        · cases (show some _ = some o from ho)
          exact ⟨rfl, wp_move rfl (h1 ⟨_, rfl⟩ _ _ (grown_refl _ none) (houter _ rfl) (by rw [houter _ rfl]; exact nobl rfl) (by rw [houter _ rfl]; exact FreshB.none rfl))⟩
        · cases (show some _ = some o from ho)
          exact ⟨rfl, wp_index rfl (hitem 1 (by decide) ⟨hpre 1 rfl, hout _ (by decide)⟩) (hitem 2 (by decide) ⟨hpre 2 rfl, hout _ (by decide)⟩) (idx_I ad ns.length c k hlt _) (h1 ⟨_, rfl⟩ _ _ (grown_refl _ none) rfl (nobl rfl) (FreshB.none rfl))⟩
        · cases (show some _ = some o from ho)
          exact ⟨rfl, wp_loadC rfl (hitem 3 (by decide) ⟨hpre 3 rfl, hout _ (by decide)⟩) (load_cell (hg.cell hcx (by simp)) Try.underlying3 rfl) (h1 ⟨_, rfl⟩ _ _ (grown_refl _ none) rfl (nobl rfl) (FreshB.none rfl))⟩
        · cases (show some _ = some o from ho)
          have x25 : a.eval (.tmp 25) = .int .i64 x := hitem 4 (by decide) ⟨hpre 4 rfl, hout _ (by decide)⟩
          refine ⟨rfl, wp_call rfl Try.func12 (by kernel_rfl) (by kernel_rfl) (args := #[.int .i64 x]) (by simp [x25]) ((hKk w).mono ?_)⟩
          rintro e w' ⟨rfl, hg'⟩
          exact ⟨_, rfl, h1 ⟨_, rfl⟩ _ _ hg' rfl (nobl rfl) (FreshB.none rfl)⟩
        · cases (show some _ = some o from ho)
          exact ⟨rfl, wp_move rfl (h1 ⟨_, rfl⟩ _ _ (grown_refl _ none) (houter _ rfl) (by rw [houter _ rfl]; exact nobl rfl) (by rw [houter _ rfl]; exact FreshB.none rfl))⟩
        · cases (show some _ = some o from ho)
          exact ⟨rfl, wp_move rfl (h1 ⟨_, rfl⟩ _ _ (grown_refl _ none) (houter _ rfl) (by rw [houter _ rfl]; exact nobl rfl) (by rw [houter _ rfl]; exact FreshB.none rfl))⟩
        · cases (show some _ = some o from ho)
          exact ⟨rfl, wp_index rfl (hitem 6 (by decide) ⟨hpre 6 rfl, hout _ (by decide)⟩) (hitem 7 (by decide) ⟨hpre 7 rfl, hout _ (by decide)⟩) (idx_I ad ns.length c k hlt _) (h1 ⟨_, rfl⟩ _ _ (grown_refl _ none) rfl (nobl rfl) (FreshB.none rfl))⟩
        · cases (show some _ = some o from ho)
          exact ⟨rfl, wp_loadC rfl (hitem 8 (by decide) ⟨hpre 8 rfl, hout _ (by decide)⟩) (load_cell (hg.cell hcx (by simp)) Try.underlying3 rfl) (h1 ⟨_, rfl⟩ _ _ (grown_refl _ none) rfl (nobl rfl) (FreshB.none rfl))⟩
        · cases (show some _ = some o from ho)
          exact ⟨rfl, wp_bin rfl (hitem 9 (by decide) ⟨hpre 9 rfl, hout _ (by decide)⟩) rfl (guard_quo _ _ _ _ _) (hm _) (h1 ⟨_, rfl⟩ _ _ (grown_refl _ none) rfl (nobl rfl) (FreshB.none rfl))⟩
        · cases (show some _ = some o from ho)
          have x31 : a.eval (.tmp 31) = .int .i64 m := hitem 10 (by decide) ⟨hpre 10 rfl, hout _ (by decide)⟩
          refine ⟨rfl, wp_call rfl Try.func13 (by kernel_rfl) (by kernel_rfl) (args := #[.int .i64 m]) (by simp [x31]) ((hTt w).mono ?_)⟩
          rintro e w' ⟨rfl, hg'⟩
          exact ⟨_, rfl, h1 ⟨_, rfl⟩ _ _ hg' rfl (nobl rfl) (FreshB.none rfl)⟩
      · intro a wT hgT hend hap ha
        obtain ⟨f, hf⟩ : ∃ f : Nat → Value, f = fun t => a.tmps.getD t undef := ⟨_, rfl⟩
        have s21 : f 21 = .map (some w.heap.size) := by rw [hf]; exact (hend 0 (by decide) (by decide)).1
        have s26 : f 26 = (.string ⟨kt.toArray⟩) := by rw [hf]; exact (hend 5 (by decide) (by decide)).1
        have s32 : f 32 = (.string ⟨tt.toArray⟩) := by rw [hf]; exact (hend 11 (by decide) (by decide)).1
        rw [← hf] at ha
        clear hend hap
        clear hf
        subst ha
        simp only [fill, kpS, Nat.reduceAdd, Nat.reduceBEq, Bool.or_false, Bool.or_true, cond_true, cond_false, List.drop_succ_cons, List.drop_zero, s21, s26, s32]
        refine wpList_mapUpdate_own _ rfl _ _ _ 53 rfl 9 9 law_str Try.underlying53 Rk w.heap.size k D rfl (hmap.kept hgT (by simp)) (by unfold maxLen; omega) _ _ (.string kt) rfl rfl (Go.WideMaps.keyOf_string_mk Try.underlying9 (by simp [ByteArray.size, maxLen]; omega)) (.lit (.string tt)) [] (Rk_mk htl) ?_
        intro w2 hmap2 hg2
        go_wp2
        go_roundw
        case rel => exact ⟨k + 1, _, by omega, by omega, by go_num, hmap2, grown_trans (grown_none hg0 hgT) hg2 (.inr fun g e => by cases e; exact Nat.le_refl _)⟩
        case measure => simp [intOf]; omega

    · go_wp2_with (first | (go_at_call 29; refine (keys_any _).mono ?_; rintro e w1 ⟨g1, rfl, hr1, hg1⟩))
      all_goals
        go_loopw [5, 35] (fun x i wr => ∃ (j : Nat) (ps : List Kv), j ≤ 12 ∧ i = .int .i64 j ∧ Hid ((ps.map (·.1)).Sublist (keysK.take j) ∧ ∀ p ∈ ps, p.2.length ≤ 8) ∧ OwnQ wr x ps ∧ Grew w1 wr (.slice none 0 0) x) (fun _ i _ => 12 - (intOf i).toNat)
        case atStart => exact ⟨0, [], Nat.zero_le _, rfl, ⟨by simp, by simp⟩, OwnQ.nil _, Grew.refl _ _⟩
        case round =>
          obtain ⟨j, ps, hj, rfl, HP, ho, hgq⟩ := hrel
          have hw1 : w.grownBy w1 none := grown_none hg0 hg1
          by_cases hlt : j < 12
          · obtain ⟨ad, e, hcx⟩ := RdS.get (RdAt.kept hr1 hgq.nil) (k := j) hlt
            cases e
            rw [at_plain] at hcx
            have hkin : Hid (keysK[j] ∈ keysK ∧ keysK.take (j + 1) = keysK.take j ++ [keysK[j]]) := ⟨List.getElem_mem _, List.take_succ_eq_append_getElem hlt⟩
            have hk16 := (keysK_may _ hkin.out.1).2
            generalize keysK[j] = kt at *
            have hle : ps.length ≤ 12 := by
              have := HP.out.1.length_le
              rw [List.length_map, List.length_take] at this
              omega
            have hmapj := (hmap.kept hg1 (by simp)).kept hgq.nil (by simp)
            have s1 := lit_1q
            have hj2 : (j : Int) < 12 := by omega
            go_wp2_with (first | (at_lookup; refine wpList_lookK rfl _ _ rfl w.heap.size k D rfl hmapj kt rfl hk16 ?_; intro sv0 ok hsv) | (at_builtin; refine wpList_appQ rfl _ _ rfl rfl (ho.kept (grown_alloc (grown_refl _ _) _)) (qs := [(kt, sv0)]) rfl rfl (rd_row (alloc_atQ rfl)) (by simp; omega) ?_))
            · intro v' w' ho' hg'
              go_wp2
              go_roundw
              case rel =>
                refine ⟨j + 1, ps ++ [(kt, sv0)], by omega, by go_num, ⟨?_, ?_⟩, ho', hgq.trans (Grew.pre (grown_alloc (grown_refl _ _) _) hg')⟩
                · rw [hkin.out.2, List.map_append]
                  exact HP.out.1.append (List.Sublist.refl _)
                · intro p hp
                  rcases List.mem_append.1 hp with hp | hp
                  · exact HP.out.2 p hp
                  · rw [List.mem_singleton.1 hp]; exact hsv
              case measure => simp [intOf]; omega
            · exact ⟨⟨j + 1, ps, by omega, by go_num, ⟨HP.out.1.trans (List.take_sublist_take_left (by omega)), HP.out.2⟩, ho, hgq⟩, by simp [intOf]; omega⟩
          · obtain rfl : j = 12 := by omega
            go_wp2
            go_ret
            exact ⟨_, ps, rfl, ⟨HP.out.1.trans (List.take_sublist _ _), HP.out.2⟩, ho.toPB, grown_none hw1 hgq.nil⟩
end Go.Proofs.Ytehbhjkceemmcaa
