/- The statements' rows of pairs: made by a map. Rows of pairs of the call's own as values of a region that draws its order. Leaves of pairs; ranges that meet; rows told by what is in them. Chapter 6's runs. A row of pairs that came in. -/
import Derived.Test.YtpeepiboocdnaaaDoorKN
import Derived.Test.YtpeepiboocdnaaaDoorKF
import Derived.Maps.OwnSet
import Derived.Test.YtpeepiboocdnaaaDoorKL
import Derived.Test.YtpeepiboocdnaaaDoorKC
namespace Go.Proofs.YtpeepiboocdnaaaDoor
open Go.RowKit
open Go.Maps (Keyed string_keyed)

/-- A row of pairs as the statements make it: some of their keys, in order, with short texts. -/
def Kept (ps : List Kv) : Prop := (ps.map (·.1)).Sublist keysK ∧ ∀ p ∈ ps, p.2.length ≤ 8
theorem Kept.len {ps : List Kv} (h : Kept ps) : ps.length ≤ 12 := by
  have := h.1.length_le
  rwa [List.length_map] at this
theorem Kept.rises {ps : List Kv} (h : Kept ps) : Rises ps := by
  have := List.Pairwise.sublist h.1 keysK_rise
  rw [List.pairwise_map] at this
  exact this
theorem Kept.may {ps : List Kv} (h : Kept ps) : ∀ p ∈ ps, mayQ p = true := by
  intro p hp
  have h1 := keysK_may p.1 (h.1.subset (List.mem_map_of_mem hp))
  have h2 := h.2 p hp
  unfold mayQ
  rw [decide_eq_true_iff]
  omega
theorem Kept.right {ps : List Kv} (h : Kept ps) : rightL ps = true := (right_iff ps).2 ⟨by have := h.len; omega, h.may, h.rises⟩

theorem law_str : Keyed Tryd.prog 9 := string_keyed Tryd.underlying9
theorem zero_str (w : World) : (zeroValue 9).run Tryd.prog w = .ok (.string ⟨#[]⟩) w := by kernel_rfl
/-- How a short text reads. -/
def Rk : Value → Option (DataW Unit × List MemPlace)
  | .string s => if s.data.toList.length ≤ 8 then some (.lit (.string s.data.toList), []) else none
  | _ => none
theorem Rk_mk {t : List UInt8} (h : t.length ≤ 8) : Rk (.string ⟨t.toArray⟩) = some (.lit (.string t), []) := by simp [Rk, h]
theorem Rk_inv {v : Value} {z : DataW Unit × List MemPlace} (h : Rk v = some z) : ∃ s : List UInt8, v = .string ⟨s.toArray⟩ ∧ s.length ≤ 8 := by
  unfold Rk at h
  split at h
  · rename_i s
    split at h
    · rename_i hs
      exact ⟨s.data.toList, by simp, hs⟩
    · cases h
  · cases h
theorem wpList_lookK {ops : Array Oper} {rest : List Oper} {o : Oper} {a : Act} {w : World} {Q : Exit → Act → World → Prop} (hgd : o.guard = none) (m x : Operand) (hop : o.op = Op.lookup 51 m x true)
    (b n : Nat) (D : DataW Unit) (hm : a.eval m = .map (some b)) (hown : w.ownsMap Tryd.prog 9 Rk b n D) (k : List UInt8) (hx : a.eval x = .string ⟨k.toArray⟩) (hk : k.length ≤ 16)
    (hK : ∀ (s : List UInt8) (ok : Bool), s.length ≤ 8 → wpList Tryd.prog ops Q rest (a.put o.dst (.tuple #[.string ⟨s.toArray⟩, .bool ok])) w) : wpList Tryd.prog ops Q (o :: rest) a w :=
  wpList_lookup_own_ok w hgd m x 51 hop 9 9 law_str Tryd.underlying51 Rk (zero_str w) (.lit (.string [])) [] (by simp [Rk]) b n D hm hown _ _ hx
    (Go.WideMaps.keyOf_string_mk Tryd.underlying9 (by simp [ByteArray.size, maxLen]; omega)) fun v ps hv => by
    obtain ⟨s, rfl, hs⟩ := Rk_inv hv
    exact hK s _ hs
theorem idx_I (ad : Addr) (n c k : Nat) (hk : k < n) (w : World) : (Instr.indexAt 33 (.slice (some ad) n c) (.int .i64 (k : Int))).run Tryd.prog w = .ok (.pointer (some (ad.add k))) w := by
  rw [run_indexAt_slice (P := Tryd.prog) (h := by kernel_rfl), if_pos ⟨by omega, by omega⟩]
  rw [show (sizeOf (Tryd.prog.elem 33)).run Tryd.prog w = .ok 1 w from by kernel_rfl, Result.andThen_ok]
  simp
theorem quo12 (n : Int) : ∃ m : Int, ∀ w : World, (binOp .quo 3 (.int .i64 n) (.int .i64 12)).run Tryd.prog w = .ok (.int .i64 m) w :=
  ⟨IntKind.i64.wrap (n.tdiv 12), fun w => by kernel_rfl⟩
def kpS (t : Nat) : Bool := t == 21 || t == 22 || t == 23 || t == 24 || t == 25 || t == 26 || t == 27 || t == 28 || t == 29 || t == 30 || t == 31 || t == 32
def kpDie (_ : Nat) : Nat := 99
def kpOwn (_ : Nat) : Bool := false
def kpAl (k : Nat) : Bool := k == 1 || k == 6
def kpF (ad : Addr) (n c k B : Nat) (x m : Int) (kt tt : List UInt8) : Nat → Value → World → Prop
  | 0 => fun v _ => v = .map (some B)
  | 1 => fun v _ => v = .slice (some ad) n c
  | 2 => fun v _ => v = .int .i64 (k : Nat)
  | 3 => fun v _ => v = .pointer (some (ad.add k))
  | 4 => fun v _ => v = .int .i64 x
  | 5 => fun v _ => v = (.string ⟨kt.toArray⟩)
  | 6 => fun v _ => v = .slice (some ad) n c
  | 7 => fun v _ => v = .int .i64 (k : Nat)
  | 8 => fun v _ => v = .pointer (some (ad.add k))
  | 9 => fun v _ => v = .int .i64 x
  | 10 => fun v _ => v = .int .i64 m
  | 11 => fun v _ => v = (.string ⟨tt.toArray⟩)
  | _ => fun _ _ => True
theorem kpF_lasts (ad : Addr) (n c k B : Nat) (x m : Int) (kt tt : List UInt8) : ∀ kq, LastsB kpAl kq (kpF ad n c k B x m kt tt kq)
  | 0 => LastsB.val _
  | 1 => LastsB.val _
  | 2 => LastsB.val _
  | 3 => LastsB.val _
  | 4 => LastsB.val _
  | 5 => LastsB.val _
  | 6 => LastsB.val _
  | 7 => LastsB.val _
  | 8 => LastsB.val _
  | 9 => LastsB.val _
  | 10 => LastsB.val _
  | 11 => LastsB.val _
  | _ + 12 => fun _ _ _ _ _ _ _ => trivial

set_option maxRecDepth 100000 in
set_option maxHeartbeats 2000000 in
set_option maxRecDepth 100000 in
theorem Pairs_any (A : Option Addr) (c : Nat) (ns : List Int) (w : World) (hr : RdI w A ns) :
    Calls Tryd.prog 11 #[.slice A ns.length c] w fun e w' => ∃ v' ps, e = .returned v' ∧ Kept ps ∧ PB w' v' ps ∧ w.grownBy w' none := by
  have hmm := @run_makeMap Tryd.prog
  go_enter Tryd.func11, Tryd.ntmps11
  go_wp2
  go_loopw [4] (fun i wr => ∃ (k : Nat) (D : DataW Unit), k ≤ 12 ∧ k ≤ ns.length ∧ i = .int .i64 k ∧ wr.ownsMap Tryd.prog 9 Rk w.heap.size k D ∧ w.grownBy wr none) (fun i _ => 12 - (intOf i).toNat)
  case atStart => exact ⟨0, _, by omega, Nat.zero_le _, rfl, World.ownsMap_made _ _ _ _, grown_alloc (grown_refl _ _) _⟩
  case round =>
    obtain ⟨k, D, hk, hkn, rfl, hmap, hg0⟩ := hrel
    by_cases hcond : k < ns.length ∧ k < 12
    · obtain ⟨hlt, hk12⟩ := hcond
      obtain ⟨ad, rfl, hcx⟩ := RdI.get (RdAt.kept hr hg0) hlt
      generalize ns[k] = x at hcx
      obtain ⟨kt, hkt, hKk⟩ := KKey_any x
      obtain ⟨m, hm⟩ := quo12 x
      obtain ⟨tt, htt, hTt⟩ := KText_any m
      have hkl := keysK_may kt hkt
      have htl := textsK_may tt htt
      go_wp2
      refine wp_region_gb (al := kpAl) 12 (N := 54) (S := kpS) (die := kpDie) (own := kpOwn) (F := kpF ad ns.length c k w.heap.size x m kt tt) (by kernel_rfl) (Nat.le_of_ble_eq_true (by kernel_rfl)) (fun _ => by kernel_rfl) (fun _ => by kernel_rfl) (by kernel_rfl) (by kernel_rfl) (Nat.le_of_ble_eq_true (by kernel_rfl)) (kpF_lasts ad ns.length c k w.heap.size x m kt tt) ?_ ?_
      · intro i o L' a w K hi ho hg hLi hout hpre houter hitem h1 h2 h3
        have hcases : i = 0 ∨ i = 1 ∨ i = 2 ∨ i = 3 ∨ i = 4 ∨ i = 5 ∨ i = 6 ∨ i = 7 ∨ i = 8 ∨ i = 9 ∨ i = 10 ∨ i = 11 := by omega
        rcases hcases with rfl | rfl | rfl | rfl | rfl | rfl | rfl | rfl | rfl | rfl | rfl | rfl
        · cases (show some _ = some o from ho)
          exact ⟨rfl, wp_move rfl (h1 ⟨_, rfl⟩ _ _ (grown_refl _ none) (houter _ rfl) (by rw [houter _ rfl]; exact nobl rfl) (by rw [houter _ rfl]; exact FreshB.none rfl))⟩
        · cases (show some _ = some o from ho)
          exact ⟨rfl, wp_move rfl (h1 ⟨_, rfl⟩ _ _ (grown_refl _ none) (houter _ rfl) (by rw [houter _ rfl]; exact nobl rfl) (by rw [houter _ rfl]; exact FreshB.none rfl))⟩
        · cases (show some _ = some o from ho)
          exact ⟨rfl, wp_move rfl (h1 ⟨_, rfl⟩ _ _ (grown_refl _ none) (houter _ rfl) (by rw [houter _ rfl]; exact nobl rfl) (by rw [houter _ rfl]; exact FreshB.none rfl))⟩
        · cases (show some _ = some o from ho)
          exact ⟨rfl, wp_index rfl (hitem 1 (by decide) ⟨hpre 1 rfl, hout _ (by decide)⟩) (hitem 2 (by decide) ⟨hpre 2 rfl, hout _ (by decide)⟩) (idx_I ad ns.length c k hlt _) (h1 ⟨_, rfl⟩ _ _ (grown_refl _ none) rfl (nobl rfl) (FreshB.none rfl))⟩
        · cases (show some _ = some o from ho)
          exact ⟨rfl, wp_loadC rfl (hitem 3 (by decide) ⟨hpre 3 rfl, hout _ (by decide)⟩) (load_cell (hg.cell hcx (by simp)) Tryd.underlying3 rfl) (h1 ⟨_, rfl⟩ _ _ (grown_refl _ none) rfl (nobl rfl) (FreshB.none rfl))⟩
        · cases (show some _ = some o from ho)
          have x25 : a.eval (.tmp 25) = .int .i64 x := hitem 4 (by decide) ⟨hpre 4 rfl, hout _ (by decide)⟩
          refine ⟨rfl, wp_call rfl Tryd.func12 (by kernel_rfl) (by kernel_rfl) (args := #[.int .i64 x]) (by simp [x25]) ((hKk w).mono ?_)⟩
          rintro e w' ⟨rfl, hg'⟩
          exact ⟨_, rfl, h1 ⟨_, rfl⟩ _ _ hg' rfl (nobl rfl) (FreshB.none rfl)⟩
        · cases (show some _ = some o from ho)
          exact ⟨rfl, wp_move rfl (h1 ⟨_, rfl⟩ _ _ (grown_refl _ none) (houter _ rfl) (by rw [houter _ rfl]; exact nobl rfl) (by rw [houter _ rfl]; exact FreshB.none rfl))⟩
        · cases (show some _ = some o from ho)
          exact ⟨rfl, wp_move rfl (h1 ⟨_, rfl⟩ _ _ (grown_refl _ none) (houter _ rfl) (by rw [houter _ rfl]; exact nobl rfl) (by rw [houter _ rfl]; exact FreshB.none rfl))⟩
        · cases (show some _ = some o from ho)
          exact ⟨rfl, wp_index rfl (hitem 6 (by decide) ⟨hpre 6 rfl, hout _ (by decide)⟩) (hitem 7 (by decide) ⟨hpre 7 rfl, hout _ (by decide)⟩) (idx_I ad ns.length c k hlt _) (h1 ⟨_, rfl⟩ _ _ (grown_refl _ none) rfl (nobl rfl) (FreshB.none rfl))⟩
        · cases (show some _ = some o from ho)
          exact ⟨rfl, wp_loadC rfl (hitem 8 (by decide) ⟨hpre 8 rfl, hout _ (by decide)⟩) (load_cell (hg.cell hcx (by simp)) Tryd.underlying3 rfl) (h1 ⟨_, rfl⟩ _ _ (grown_refl _ none) rfl (nobl rfl) (FreshB.none rfl))⟩
        · cases (show some _ = some o from ho)
          exact ⟨rfl, wp_bin rfl (hitem 9 (by decide) ⟨hpre 9 rfl, hout _ (by decide)⟩) rfl (guard_quo _ _ _ _ _) (hm _) (h1 ⟨_, rfl⟩ _ _ (grown_refl _ none) rfl (nobl rfl) (FreshB.none rfl))⟩
        · cases (show some _ = some o from ho)
          have x31 : a.eval (.tmp 31) = .int .i64 m := hitem 10 (by decide) ⟨hpre 10 rfl, hout _ (by decide)⟩
          refine ⟨rfl, wp_call rfl Tryd.func25 (by kernel_rfl) (by kernel_rfl) (args := #[.int .i64 m]) (by simp [x31]) ((hTt w).mono ?_)⟩
          rintro e w' ⟨rfl, hg'⟩
          exact ⟨_, rfl, h1 ⟨_, rfl⟩ _ _ hg' rfl (nobl rfl) (FreshB.none rfl)⟩
      · intro a wT hgT hend hap ha
        obtain ⟨f, hf⟩ : ∃ f : Nat → Value, f = fun t => a.tmps.getD t undef := ⟨_, rfl⟩
        have s21 : f 21 = .map (some w.heap.size) := by rw [hf]; exact (hend 0 (by decide) (by decide)).1
        have s26 : f 26 = (.string ⟨kt.toArray⟩) := by rw [hf]; exact (hend 5 (by decide) (by decide)).1
        have s32 : f 32 = (.string ⟨tt.toArray⟩) := by rw [hf]; exact (hend 11 (by decide) (by decide)).1
        rw [← hf] at ha
        clear hend hap
        clear hf
        subst ha
        simp only [fill, kpS, Nat.reduceAdd, Nat.reduceBEq, Bool.or_false, Bool.or_true, cond_true, cond_false, List.drop_succ_cons, List.drop_zero, s21, s26, s32]
        refine wpList_mapUpdate_own _ rfl _ _ _ 51 rfl 9 9 law_str Tryd.underlying51 Rk w.heap.size k D rfl (hmap.kept hgT (by simp)) (by unfold maxLen; omega) _ _ (.string kt) rfl rfl (Go.WideMaps.keyOf_string_mk Tryd.underlying9 (by simp [ByteArray.size, maxLen]; omega)) (.lit (.string tt)) [] (Rk_mk htl) ?_
        intro w2 hmap2 hg2
        go_wp2
        go_roundw
        case rel => exact ⟨k + 1, _, by omega, by omega, by go_num, hmap2, grown_trans (grown_none hg0 hgT) hg2 (.inr fun g e => by cases e; exact Nat.le_refl _)⟩
        case measure => simp [intOf]; omega

    · go_wp2_with (first | (go_at_call 26; refine (keys_any _).mono ?_; rintro e w1 ⟨g1, rfl, hr1, hg1⟩))
      all_goals
        go_loopw [5, 35] (fun x i wr => ∃ (j : Nat) (ps : List Kv), j ≤ 12 ∧ i = .int .i64 j ∧ Hid ((ps.map (·.1)).Sublist (keysK.take j) ∧ ∀ p ∈ ps, p.2.length ≤ 8) ∧ OwnQ wr x ps ∧ Grew w1 wr (.slice none 0 0) x) (fun _ i _ => 12 - (intOf i).toNat)
        case atStart => exact ⟨0, [], Nat.zero_le _, rfl, ⟨by simp, by simp⟩, OwnQ.nil _, Grew.refl _ _⟩
        case round =>
          obtain ⟨j, ps, hj, rfl, HP, ho, hgq⟩ := hrel
          have hw1 : w.grownBy w1 none := grown_none hg0 hg1
          by_cases hlt : j < 12
          · obtain ⟨ad, e, hcx⟩ := RdS.get (RdAt.kept hr1 hgq.nil) (k := j) hlt
            cases e
            rw [at_plain] at hcx
            have hkin : Hid (keysK[j] ∈ keysK ∧ keysK.take (j + 1) = keysK.take j ++ [keysK[j]]) := ⟨List.getElem_mem _, List.take_succ_eq_append_getElem hlt⟩
            have hk16 := (keysK_may _ hkin.out.1).2
            generalize keysK[j] = kt at *
            have hle : ps.length ≤ 12 := by
              have := HP.out.1.length_le
              rw [List.length_map, List.length_take] at this
              omega
            have hmapj := (hmap.kept hg1 (by simp)).kept hgq.nil (by simp)
            have s1 := lit_1q
            have hj2 : (j : Int) < 12 := by omega
            go_wp2_with (first | (at_lookup; refine wpList_lookK rfl _ _ rfl w.heap.size k D rfl hmapj kt rfl hk16 ?_; intro sv0 ok hsv) | (at_builtin; refine wpList_appQ rfl _ _ rfl rfl (ho.kept (grown_alloc (grown_refl _ _) _)) (qs := [(kt, sv0)]) rfl rfl (rd_row (alloc_atQ rfl)) (by simp; omega) ?_))
            · intro v' w' ho' hg'
              go_wp2
              go_roundw
              case rel =>
                refine ⟨j + 1, ps ++ [(kt, sv0)], by omega, by go_num, ⟨?_, ?_⟩, ho', hgq.trans (Grew.pre (grown_alloc (grown_refl _ _) _) hg')⟩
                · rw [hkin.out.2, List.map_append]
                  exact HP.out.1.append (List.Sublist.refl _)
                · intro p hp
                  rcases List.mem_append.1 hp with hp | hp
                  · exact HP.out.2 p hp
                  · rw [List.mem_singleton.1 hp]; exact hsv
              case measure => simp [intOf]; omega
            · exact ⟨⟨j + 1, ps, by omega, by go_num, ⟨HP.out.1.trans (List.take_sublist_take_left (by omega)), HP.out.2⟩, ho, hgq⟩, by simp [intOf]; omega⟩
          · obtain rfl : j = 12 := by omega
            go_wp2
            go_ret
            exact ⟨_, ps, rfl, ⟨HP.out.1.trans (List.take_sublist _ _), HP.out.2⟩, ho.toPB, grown_none hw1 hgq.nil⟩
end Go.Proofs.YtpeepiboocdnaaaDoor

namespace Go.Proofs.YtpeepiboocdnaaaDoor
open Go.RowKit

theorem LastsB.ownQ {al : Nat → Bool} {k : Nat} (ha : al k = false) (l : List Kv) : LastsB al k fun v w => OwnQ w v l := LastsB.of ha (lasts_ownQ l)
theorem ownQ_block {w : World} {u : Value} {l : List Kv} (h : OwnQ w u l) : u = .slice none 0 0 ∨ ∃ g n c, u = .slice (some ⟨g, 0, none⟩) n c := by
  obtain ⟨base, hb, _, h⟩ := h
  rcases h with ⟨rfl, _⟩ | ⟨g, cap, cur, rfl, _⟩
  · exact .inl rfl
  · exact .inr ⟨g, _, cap, rfl⟩
theorem ownQ_mem {w : World} {u : Value} {l : List Kv} (h : OwnQ w u l) : ∀ g, u.ownBlock = some g → g ∈ blocksOf u := by
  intro g e
  rcases ownQ_block h with rfl | ⟨g', n, c, rfl⟩
  · cases e
  · have e' : g' = g := by simpa [Value.ownBlock] using e
    rw [← e']; exact List.mem_singleton.2 rfl
theorem memQ_own {w : World} {u : Value} {l : List Kv} (h : OwnQ w u l) : ∀ g ∈ blocksOf u, u.ownBlock = some g := by
  intro g e
  rcases ownQ_block h with rfl | ⟨g', n, c, rfl⟩
  · cases e
  · have e' : g ∈ [g'] := e
    rw [List.mem_singleton] at e'
    rw [e']; rfl
theorem ownQ_lt {w : World} {u : Value} {l : List Kv} (h : OwnQ w u l) : ∀ g ∈ blocksOf u, g < w.heap.size := fun g e => h.lt g (memQ_own h g e)
theorem grewQ_blocks {w w' : World} {u v : Value} {l l' : List Kv} {p : Nat → Prop} (hu : OwnQ w u l) (hv : OwnQ w' v l') (hw : Grew w w' u v) : ∀ g ∈ blocksOf v, w.heap.size ≤ g ∨ g ∈ blocksOf u ∨ p g := by
  intro g e
  have e1 := memQ_own hv g e
  rcases hw.2 with e2 | ⟨g', e2, h⟩
  · exact .inr (.inl (ownQ_mem hu g (by rw [← e2, e1])))
  · rw [e1] at e2; cases e2; exact .inl h
/-- A row of one pair. -/
def QOne (p : Kv) (v : Value) (w : World) : Prop := ∃ b, v = .slice (some ⟨b, 0, none⟩) 1 1 ∧ RdQ w (some ⟨b, 0, none⟩) [p]
theorem LastsB.qone {al : Nat → Bool} {k : Nat} (ha : al k = false) (p : Kv) : LastsB al k (QOne p) := by
  rintro v w w' row ⟨b, rfl, h⟩ hg hne
  exact ⟨b, rfl, RdAt.keep h hg (fun ad e => by cases e; exact hne b (by simp [bl, ha, blocksOf]))⟩
theorem qone_new (w : World) (p : Kv) : QOne p (.slice (some ⟨w.heap.size, 0, none⟩) 1 1) (w.alloc (.cells #[.string ⟨p.1.toArray⟩, .string ⟨p.2.toArray⟩] 23)) := ⟨_, rfl, rd_row (alloc_atQ rfl)⟩
theorem OwnQ.form {w : World} {v : Value} {ps : List Kv} (h : OwnQ w v ps) : ∃ A c, v = .slice A ps.length c ∧ ps.length ≤ c := by
  obtain ⟨A, c, e, hc, -⟩ := h.toPS
  exact ⟨A, c, e, hc⟩
end Go.Proofs.YtpeepiboocdnaaaDoor

namespace Go.Proofs.YtpeepiboocdnaaaDoor
open Go.RowKit

/-- A pair's leaf. -/
def leafL (p : Kv) : List UInt8 := textsL [p.1, p.2]
theorem leafL_len (p : Kv) : (leafL p).length ≤ p.1.length + p.2.length + 12 := by
  have h1 := putL_len p.1.length
  have h2 := putL_len p.2.length
  simp only [leafL, textsL, textL, List.flatMap_cons, List.flatMap_nil, List.append_nil, List.length_append]
  omega
theorem lit_2s (a b : List UInt8) (w : World) : (Instr.buildSlice 52 2 #[(0, .string ⟨a.toArray⟩), (1, .string ⟨b.toArray⟩)]).run Tryd.prog w = .ok (.slice (some ⟨w.heap.size, 0, none⟩) 2 2) (w.alloc (.cells #[.string ⟨a.toArray⟩, .string ⟨b.toArray⟩] 9)) := by kernel_rfl
set_option maxRecDepth 100000 in
theorem Leaf_any (p : Kv) (w : World) (h1 : p.1.length ≤ 100000) (h2 : p.2.length ≤ 100000) : Calls Tryd.prog 35 #[.agg #[.string ⟨p.1.toArray⟩, .string ⟨p.2.toArray⟩]] w fun e w' => ∃ v', e = .returned v' ∧ OwnB w' v' (leafL p) ∧ w.grownBy w' none ∧ (∀ g, v'.ownBlock = some g → w.heap.size ≤ g) := by
  have s1 := lit_2s p.1 p.2
  have hT := fun (W : World) (g : Nat) (hr : RdS W (some ⟨g, 0, none⟩) [p.1, p.2]) => Text_any (some ⟨g, 0, none⟩) 2 [p.1, p.2] W hr (by simp) (by simp [h1, h2])
  go_enter Tryd.func35, Tryd.ntmps35
  go_wp2_with (go_at_call 45; refine (hT _ _ (rd_row (cs := [sv p.1, sv p.2]) (alloc_atQ (by simp)))).mono ?_; rintro e w1 ⟨v1, rfl, ho, hg⟩)
  go_ret
  have h3 := hg.new
  exact ⟨_, rfl, ho, grown_none (grown_alloc (grown_alloc (grown_refl _ _) _) _) hg.nil, fun g e => by have := h3 g e; simp at this; omega⟩
/-- Short pairs' leaves tell them apart. -/
theorem leaf_inj {p q : Kv} (h1 : p.1.length < 128) (h2 : p.2.length < 128) (h3 : q.1.length < 128) (h4 : q.2.length < 128) (h : leafL p = leafL q) : p = q := by
  have hp : ∀ n : Nat, n < 128 → putL (n : Int) = [UInt8.ofNat n] := fun n hn => by rw [putL_some (by omega), putN_small hn]
  have hb : ∀ m n : Nat, m < 128 → n < 128 → UInt8.ofNat m = UInt8.ofNat n → m = n := fun m n hm hn e => by
    have := congrArg UInt8.toNat e
    rw [UInt8.toNat_ofNat', UInt8.toNat_ofNat'] at this
    omega
  simp only [leafL, textsL, textL, List.flatMap_cons, List.flatMap_nil, List.append_nil, hp _ h1, hp _ h2, hp _ h3, hp _ h4, List.cons_append, List.nil_append, List.cons.injEq] at h
  obtain ⟨e1, h⟩ := h
  obtain ⟨e2, h⟩ := List.append_inj h (hb _ _ h1 h3 e1)
  simp only [List.cons.injEq] at h
  exact Prod.ext e2 h.2
theorem leaf_same {ps : List Kv} (hk : Kept ps) {i j : Nat} (hi : i < ps.length) (hj : j < ps.length) : decide (leafL ps[i] = leafL ps[j]) = decide (i = j) := by
  by_cases e : i = j
  · subst e; simp
  · rw [decide_eq_false e, decide_eq_false_iff_not]
    intro h
    have m1 := keysK_may _ (hk.1.subset (List.mem_map_of_mem (List.getElem_mem hi)))
    have m2 := keysK_may _ (hk.1.subset (List.mem_map_of_mem (List.getElem_mem hj)))
    have m3 := hk.2 _ (List.getElem_mem hi)
    have m4 := hk.2 _ (List.getElem_mem hj)
    have e2 := leaf_inj (by omega) (by omega) (by omega) (by omega) h
    rcases Nat.lt_or_gt_of_ne e with h' | h'
    · have := List.pairwise_iff_getElem.1 hk.rises i j hi hj h'
      rw [e2, kl_irr] at this; cases this
    · have := List.pairwise_iff_getElem.1 hk.rises j i hj hi h'
      rw [e2, kl_irr] at this; cases this

/-! ## Ranges -/
theorem lowN_mono {ps : List Kv} {x y : List UInt8} (h : kl y x = false) : lowN ps x ≤ lowN ps y := by
  show (ps.filter _).length ≤ (ps.filter _).length
  rw [← List.countP_eq_length_filter, ← List.countP_eq_length_filter]
  exact List.countP_mono_left fun p _ hp => kl_lt_of hp h
theorem range_meet {ps : List Kv} (hs : Rises ps) {x y z : List UInt8} (h1 : kl y x = false) (h2 : kl z y = false) : rangeL ps x y ++ rangeL ps y z = rangeL ps x z := by
  have m1 := lowN_mono (ps := ps) h1
  have m2 := lowN_mono (ps := ps) h2
  rw [← range_cut hs x y, ← range_cut hs y z, ← range_cut hs x z]
  generalize lowN ps x = a at *
  generalize lowN ps y = b at *
  generalize lowN ps z = c at *
  rw [Nat.max_eq_right m1, Nat.max_eq_right m2, Nat.max_eq_right (Nat.le_trans m1 m2)]
  have e : c - a = (b - a) + (c - b) := by omega
  rw [e, List.take_add, List.drop_drop]
  congr 3
  omega
theorem rangeL_next {ps : List Kv} {k : Nat} (h : k < ps.length) (x y : List UInt8) : rangeL (ps.take (k + 1)) x y = rangeL (ps.take k) x y ++ (if (!kl ps[k].1 x && kl ps[k].1 y) = true then [ps[k]] else []) := by
  rw [List.take_succ_eq_append_getElem h]
  unfold rangeL
  rw [List.filter_append, List.filter_cons]
  cases (!kl ps[k].1 x && kl ps[k].1 y) <;> rfl
theorem rangeL_split (ps : List Kv) (k : Nat) (x y : List UInt8) : rangeL ps x y = rangeL (ps.take k) x y ++ rangeL (ps.drop k) x y := by
  unfold rangeL
  rw [← List.filter_append, List.take_append_drop]
/-- The range's pair at the place of one of the row's. -/
theorem rangeL_at {ps : List Kv} {k : Nat} (h : k < ps.length) {x y : List UInt8} (hin : (!kl ps[k].1 x && kl ps[k].1 y) = true) : ∃ hl : (rangeL (ps.take k) x y).length < (rangeL ps x y).length, (rangeL ps x y)[(rangeL (ps.take k) x y).length] = ps[k] := by
  have e := rangeL_split ps (k + 1) x y
  rw [rangeL_next h, if_pos hin] at e
  refine ⟨by rw [e]; simp, ?_⟩
  have h2 : (rangeL ps x y)[(rangeL (ps.take k) x y).length]? = some ps[k] := by
    rw [e, List.append_assoc, List.getElem?_append_right (Nat.le_refl _)]
    simp
  exact (List.getElem?_eq_some_iff.1 h2).2
theorem leq_str (a b : List UInt8) (t : TypeId) : binOp .leq t (.string ⟨a.toArray⟩) (.string ⟨b.toArray⟩) = pure (.bool (!kl b a)) := by
  rw [binOp_string_leq, Lib.toList_data, Lib.toList_data]
  congr 2
  show (kl a b || a == b) = !kl b a
  cases h : kl a b
  · cases h' : kl b a
    · rw [kl_tri h h']; simp
    · have : (a == b) = false := by rw [beq_eq_false_iff_ne]; rintro rfl; rw [kl_irr] at h'; cases h'
      rw [this]; rfl
  · rw [kl_asymm h]; rfl
end Go.Proofs.YtpeepiboocdnaaaDoor

namespace Go.Proofs.YtpeepiboocdnaaaDoor
open Go.RowKit

def kvR : List Kv := [([97], []), ([98], []), ([99], [])]
theorem kvR_set : setL [([97], []), ([99], [])] ([98], []) = kvR := by decide
theorem kvR_ok : okL [([97], []), ([99], [])] ([98], []) = true := by decide
theorem kvR_rises : Rises kvR := by unfold Rises kvR; decide
theorem kvR_rises0 : Rises [([97], []), ([99], [])] := by unfold Rises; decide
theorem kvR_range : rangeL kvR [97] [99] = [([97], []), ([98], [])] := by decide
theorem kvR_del : delL kvR [97] = [([98], []), ([99], [])] := by decide
theorem kvR_low : lowN kvR [98, 98] = 2 := by decide
theorem kvR_right : rightL kvR = true := by decide

end Go.Proofs.YtpeepiboocdnaaaDoor

namespace Go.Proofs.YtpeepiboocdnaaaDoor
open Go.ChangeShapes Go.WideShapes Go.ChangeAt Go.RowKit
open Go.WideMaps Go.WideElems
open Go.ChangeMaps (open_string)

section
variable {H : Type} {enc : TypeId × Value → H} {P : Program} {W : World} {base : Nat} {v : Value} {d : DataW H} {p : List MemPlace}
theorem arg_pairs {t e : TypeId} {f0 f1 : Field} (ht : P.underlying t = some (.slice e)) (he : P.underlying e = some (.struct #[f0, f1])) (ce : P.cellsOf e = 2) (o0 : f0.offset = 0) (o1 : f1.offset = 1) (c0 : P.cellsOf f0.type = 1) (c1 : P.cellsOf f1.type = 1)
    (s0 : P.underlying f0.type = some .string) (s1 : P.underlying f1.type = some .string)
    (hv : Value.okWide P W .any base t v) (hd : DataW.Trod enc P W 0 (fun _ => true) true t v d p) :
    ∃ (A : Option Addr) (l : List Kv) (c : Nat), v = .slice A l.length c ∧ l.length ≤ c ∧ RdQ W A l := by
  obtain ⟨a0, len, cap, rfl⟩ := okWide_slice ht hv
  obtain ⟨fuel, hf⟩ := hd
  rcases Go.Deep.open_slice_pairs ht he ce o0 o1 c0 c1 hf with ⟨hcs, _⟩ | ⟨a, len', cap', m, n, V0, V1, D0, D1, P0, P1, hcs, _, hl, hm, hmm, _, hel⟩
  · simp [Value.cells] at hcs
    obtain ⟨rfl, rfl, rfl⟩ := hcs
    exact ⟨none, [], 0, rfl, Nat.le_refl _, RdAt.nil⟩
  · simp [Value.cells] at hcs
    obtain ⟨rfl, rfl, rfl⟩ := hcs
    simp only [if_true] at hmm
    have hq : ∀ i, i < len → ∃ q : Kv, W.cell? (a.add (i * 2)) = some (sv q.1) ∧ W.cell? (a.add (i * 2 + 1)) = some (sv q.2) := by
      intro i hi
      obtain ⟨h0, h1, r0, r1⟩ := hel i (by omega)
      obtain ⟨x0, e0, -⟩ := DataW.trod_string s0 r0
      obtain ⟨x1, e1, -⟩ := DataW.trod_string s1 r1
      simp only [List.cons.injEq, and_true] at e0 e1
      exact ⟨(x0.data.toList, x1.data.toList), by rw [h0, e0]; simp [sv], by rw [h1, e1]; simp [sv]⟩
    obtain ⟨ls, hll, hls⟩ := list_of len hq
    refine ⟨some a, ls, cap, by rw [hll], by omega, .inr ⟨a, rfl, fun j u hu => ?_⟩⟩
    have hj : j < ls.length * 2 := by
      have := (List.getElem?_eq_some_iff.1 hu).1
      rwa [qcs_len] at this
    have hi : j / 2 < ls.length := by omega
    obtain ⟨g1, g2⟩ := qcs_get ls (j / 2) hi
    obtain ⟨k1, k2⟩ := hls (j / 2) hi
    rcases Nat.mod_two_eq_zero_or_one j with h2 | h2
    · have e : j = j / 2 * 2 := by omega
      rw [e] at hu ⊢
      rw [g1] at hu
      cases hu
      exact k1
    · have e : j = j / 2 * 2 + 1 := by omega
      rw [e] at hu ⊢
      rw [g2] at hu
      cases hu
      exact k2
end
end Go.Proofs.YtpeepiboocdnaaaDoor
