/- The law on keys, bits and signatures: its contract. -/
import Derived.Test.YtepnhepaihpnoaaDoorLamY
import Derived.Test.YtepnhepaihpnoaaDoorLamH
import Derived.Test.YtepnhepaihpnoaaDoorWithin
import Derived.Deep.RegionHeld3
import Derived.Deep.Cut
namespace Go.Proofs.YtepnhepaihpnoaaDoor
open Go.RowKit

theorem wp_not {P : Program} {o : Oper} {a : Act} {w : World} {K : Act → World → Prop} {Q : Exit → Act → World → Prop} {t : TypeId} {x : Operand} {b : Bool} (ho : o.op = .unOp .not t x) (hx : a.eval x = .bool b) (h : K (a.put o.dst (.bool (!b))) w) : Oper.wp P o a w K Q := by
  unfold Oper.wp execOp
  simp [ho, hx, Op.unary]
  exact h
theorem blocks_two {g h n m c d W : Nat} (h1 : g < W) (h2 : h < W) : ∀ x ∈ blocksOf (.agg #[.slice (some ⟨g, 0, none⟩) n c, .slice (some ⟨h, 0, none⟩) m d]), x < W := by
  intro x e
  have e' : x ∈ [g, h] := e
  simp only [List.mem_cons, List.not_mem_nil, or_false] at e'
  rcases e' with rfl | rfl <;> assumption
theorem blocks_one {g n c W : Nat} (h1 : g < W) : ∀ x ∈ blocksOf (.slice (some ⟨g, 0, none⟩) n c), x < W := by
  intro x e
  have e' : x ∈ [g] := e
  rw [List.mem_singleton] at e'
  subst e'; exact h1
theorem blocks_own {w : World} {A : Option Addr} {n c : Nat} {l : List UInt8} (h : OwnB w (.slice A n c) l) : ∀ x ∈ blocksOf (.slice A n c), x < w.heap.size := by
  intro x e
  cases A with
  | none => cases e
  | some ad =>
    have e' : x ∈ [ad.block] := e
    rw [List.mem_singleton] at e'
    exact h.lt x (by rw [e']; rfl)
def taS (t : Nat) : Bool := t == 8 || t == 9 || t == 26 || t == 27 || t == 28 || t == 29 || t == 30 || t == 31
def taDie (k : Nat) : Nat := if k = 6 then 8 else 99
def taOwn (k : Nat) : Bool := k == 6 || k == 7 || k == 8
def taAl (k : Nat) : Bool := k == 6 || k == 7 || k == 8
def taF (x0 L : List UInt8) (A7 : Option Addr) (c7 : Nat) : Nat → Value → World → Prop
  | 0 => fun v _ => v = (.agg (x0.map bv).toArray)
  | 1 => fun v _ => v = .slice A7 L.length c7
  | 2 => SigAt (openF x0 L) (shutF x0 L)
  | 3 => fun v _ => v = (.agg (x0.map bv).toArray)
  | 4 => fun v _ => v = .slice A7 L.length c7
  | 5 => SigAt (openF x0 L) (shutF x0 L)
  | 6 => Made #[.slice none 0 0, .slice none 0 0] 27
  | 7 => Made #[.slice none 0 0, .slice none 0 0] 27
  | 8 => Stored 27
  | _ => fun _ _ => True
theorem taF_lasts (x0 L : List UInt8) (A7 : Option Addr) (c7 : Nat) : ∀ kq, LastsB taAl kq (taF x0 L A7 c7 kq)
  | 0 => LastsB.val _
  | 1 => LastsB.val _
  | 2 => LastsB.sig rfl _ _
  | 3 => LastsB.val _
  | 4 => LastsB.val _
  | 5 => LastsB.sig rfl _ _
  | 6 => LastsB.made rfl _ _
  | 7 => LastsB.made rfl _ _
  | 8 => LastsB.stored rfl _
  | _ + 9 => fun _ _ _ _ _ _ _ => trivial
def tbS (t : Nat) : Bool := t == 77 || t == 78 || t == 79 || t == 80 || t == 81 || t == 82 || t == 83 || t == 84 || t == 85 || t == 86 || t == 87 || t == 88 || t == 89 || t == 90 || t == 91 || t == 92 || t == 93 || t == 94 || t == 95 || t == 96 || t == 97 || t == 98 || t == 99 || t == 100 || t == 101 || t == 102 || t == 103 || t == 104 || t == 105 || t == 106 || t == 107 || t == 108 || t == 109 || t == 110 || t == 111 || t == 112 || t == 113 || t == 114 || t == 115
def tbDie (_ : Nat) : Nat := 99
def tbOwn (_ : Nat) : Bool := false
def tbAl (_ : Nat) : Bool := false
def tbF (x0 L X : List UInt8) (b8 b9 g1 c1 g2 c2 g3 c3 g4 c4 : Nat) (A7 : Option Addr) (c7 : Nat) : Nat → Value → World → Prop
  | 0 => fun v _ => v = .pointer (some ⟨b8, 0, none⟩)
  | 1 => fun v _ => v = .slice (some ⟨g1, 0, none⟩) 32 c1
  | 2 => fun v _ => v = .pointer (some ⟨b9, 0, none⟩)
  | 3 => fun v _ => v = .slice (some ⟨g3, 0, none⟩) 32 c3
  | 4 => fun v _ => v = .bool true
  | 5 => fun v _ => v = .bool true
  | 6 => fun v _ => v = .pointer (some ⟨b8, 1, none⟩)
  | 7 => fun v _ => v = .slice (some ⟨g2, 0, none⟩) 32 c2
  | 8 => fun v _ => v = .pointer (some ⟨b9, 1, none⟩)
  | 9 => fun v _ => v = .slice (some ⟨g4, 0, none⟩) 32 c4
  | 10 => fun v _ => v = .bool true
  | 11 => fun v _ => v = .bool true
  | 12 => fun v _ => v = .bool true
  | 13 => fun v _ => v = (.agg (X.map bv).toArray)
  | 14 => fun v _ => v = (.agg (x0.map bv).toArray)
  | 15 => fun v _ => v = (.agg (X.map bv).toArray)
  | 16 => fun v _ => v = .bool true
  | 17 => fun v _ => v = .bool true
  | 18 => fun v _ => v = .bool true
  | 19 => fun v _ => v = .bool true
  | 20 => fun v _ => v = .bool true
  | 21 => fun v _ => v = .bool true
  | 22 => fun v _ => v = (.agg (X.map bv).toArray)
  | 23 => fun v _ => v = (.agg (X.map bv).toArray)
  | 24 => fun v _ => v = .bool true
  | 25 => fun v _ => v = .bool true
  | 26 => fun v _ => v = .bool true
  | 27 => fun v _ => v = (.agg (X.map bv).toArray)
  | 28 => fun v _ => v = .slice A7 L.length c7
  | 29 => fun v _ => v = (.agg #[.slice (some ⟨g1, 0, none⟩) 32 c1, .slice (some ⟨g2, 0, none⟩) 32 c2])
  | 30 => fun v _ => v = .bool true
  | 31 => fun v _ => v = .bool true
  | 32 => fun v _ => v = .bool true
  | 33 => fun v _ => v = .bool false
  | 34 => fun v _ => v = .bool true
  | 35 => fun v _ => v = .bool true
  | 36 => fun v _ => v = .bool true
  | 37 => fun v _ => v = .bool true
  | 38 => fun v _ => v = .bool true
  | _ => fun _ _ => True
theorem tbF_lasts (x0 L X : List UInt8) (b8 b9 g1 c1 g2 c2 g3 c3 g4 c4 : Nat) (A7 : Option Addr) (c7 : Nat) : ∀ kq, LastsB tbAl kq (tbF x0 L X b8 b9 g1 c1 g2 c2 g3 c3 g4 c4 A7 c7 kq)
  | 0 => LastsB.val _
  | 1 => LastsB.val _
  | 2 => LastsB.val _
  | 3 => LastsB.val _
  | 4 => LastsB.val _
  | 5 => LastsB.val _
  | 6 => LastsB.val _
  | 7 => LastsB.val _
  | 8 => LastsB.val _
  | 9 => LastsB.val _
  | 10 => LastsB.val _
  | 11 => LastsB.val _
  | 12 => LastsB.val _
  | 13 => LastsB.val _
  | 14 => LastsB.val _
  | 15 => LastsB.val _
  | 16 => LastsB.val _
  | 17 => LastsB.val _
  | 18 => LastsB.val _
  | 19 => LastsB.val _
  | 20 => LastsB.val _
  | 21 => LastsB.val _
  | 22 => LastsB.val _
  | 23 => LastsB.val _
  | 24 => LastsB.val _
  | 25 => LastsB.val _
  | 26 => LastsB.val _
  | 27 => LastsB.val _
  | 28 => LastsB.val _
  | 29 => LastsB.val _
  | 30 => LastsB.val _
  | 31 => LastsB.val _
  | 32 => LastsB.val _
  | 33 => LastsB.val _
  | 34 => LastsB.val _
  | 35 => LastsB.val _
  | 36 => LastsB.val _
  | 37 => LastsB.val _
  | 38 => LastsB.val _
  | _ + 39 => fun _ _ _ _ _ _ _ => trivial

set_option maxRecDepth 100000 in
set_option maxHeartbeats 2000000 in
theorem LamTells_any (x0 : List UInt8) (hx0 : x0.length = 32) (A1 : Option Addr) (l1 : List UInt8) (c1 : Nat) (n2 : Int) (W0 : World) (hk : Laid2 W0) (hr1 : RdB W0 A1 l1) (hc1 : l1.length ≤ c1) (hm1 : c1 ≤ maxLen) :
    Calls Tryd.prog 4 #[.agg (x0.map bv).toArray, .slice A1 l1.length c1, .int .i64 n2] W0 fun e w' => e = .returned (.bool true) ∧ W0.grownBy w' none := by
  have hm1' : c1 ≤ 9223372036854775807 := hm1
  obtain ⟨m, hmin0, hmn, hm60⟩ := min_some l1.length 60
  have hmin : (if (60 : Int) < (l1.length : Int) then (60 : Int) else (l1.length : Int)) = (m : Int) := hmin0
  clear hmin0
  obtain ⟨L, hL⟩ : ∃ L, L = l1.take m := ⟨_, rfl⟩
  have hLl : Hid (L.length = m) := by show _ = _; rw [hL, List.length_take]; omega
  have hrL : RdB W0 A1 L := by rw [hL]; exact rd_takeB hr1 m
  have hL60 : L.length ≤ 60 := by rw [hLl.out]; exact hm60
  clear hL
  have hxl := Lib.hid hx0
  clear hx0
  obtain ⟨cut, hcut, hWi⟩ := Within_nat n2 31 (by omega)
  go_enter Tryd.func4, Tryd.ntmps4
  go_upto_region 1 with (fail)
  have hseed1 : (W0.alloc (.cells (x0.map bv).toArray 23)).heap[W0.heap.size]? = some (.cells (x0.map bv).toArray 23 (0, 0)) := alloc_at rfl
  have hg1 : W0.grownBy (W0.alloc (.cells (x0.map bv).toArray 23)) none := grown_alloc (grown_refl _ _) _
  generalize W0.alloc (.cells (x0.map bv).toArray 23) = W1 at hseed1 hg1 ⊢
  replace hrL := hrL.kept hg1
  go_wp2_with (at_builtin; refine wpList_appB _ rfl _ _ rfl rfl (ownB_new W1 #[] [] 0 rfl rfl (Nat.zero_le _)) (news := L) rfl hLl.out.symm (hrL.alloc _) (by simp; omega) ?_; intro v1 W ho1 hgr1; have hL1 : OwnB W v1 L := ho1; have hG1 := Grew.fresh hgr1; obtain ⟨A7, c7, rfl, hc7, hm7, hr7⟩ := hL1.slice; clear ho1 hgr1)
  have hseed : W.heap[W0.heap.size]? = some (.cells (x0.map bv).toArray 23 (0, 0)) := keep_of hseed1 hG1.nil
  have hgW : W0.grownBy W none := grown_same hg1 hG1.nil
  replace hk := hk.kept hgW
  have hlt7 := blocks_own hL1
  have hLb : L.length ≤ 1000 := by omega
  have hsz := lt_of_heap hseed
  clear hL1 hG1 hrL hr1 hmin hseed1 hg1
  refine wp_region_gb (al := taAl) 9 (N := 116) (S := taS) (die := taDie) (own := taOwn) (F := taF x0 L A7 c7) (by kernel_rfl) (Nat.le_of_ble_eq_true (by kernel_rfl)) (fun _ => by kernel_rfl) (fun _ => by kernel_rfl) (by kernel_rfl) (by kernel_rfl) (Nat.le_of_ble_eq_true (by kernel_rfl)) (taF_lasts x0 L A7 c7) ?_ ?_
  · intro i o L' a w K hi ho hg hLi hout hpre houter hitem h1 h2 h3
    have hcases : i = 0 ∨ i = 1 ∨ i = 2 ∨ i = 3 ∨ i = 4 ∨ i = 5 ∨ i = 6 ∨ i = 7 ∨ i = 8 := by omega
    rcases hcases with rfl | rfl | rfl | rfl | rfl | rfl | rfl | rfl | rfl
    · cases (show some _ = some o from ho)
      exact ⟨rfl, wp_load_row 23 _ rfl _ (houter _ rfl) _ (x0.map bv).toArray (0, 0) _ (keep_of hseed hg) Tryd.underlying23 rfl (hashV_size _ (hxl.out)) (h1 ⟨_, rfl⟩ _ _ (grown_refl _ none) rfl (nobl (blocks_bytes _)) (FreshB.none (blocks_bytes _)))⟩
    · cases (show some _ = some o from ho)
      exact ⟨rfl, wp_move rfl (h1 ⟨_, rfl⟩ _ _ (grown_refl _ none) (houter _ rfl) (by rw [houter _ rfl]; exact fun g e => Nat.lt_of_lt_of_le (hlt7 g e) hg.size) (by rw [houter _ rfl]; exact FreshB.old rfl hlt7))⟩
    · cases (show some _ = some o from ho)
      have x26 : a.eval (.tmp 26) = (.agg (x0.map bv).toArray) := hitem 0 (by decide) ⟨hpre 0 rfl, hout _ (by decide)⟩
      have x27 : a.eval (.tmp 27) = .slice A7 L.length c7 := hitem 1 (by decide) ⟨hpre 1 rfl, hout _ (by decide)⟩
      refine ⟨rfl, wp_call rfl Tryd.func9 (by kernel_rfl) (by kernel_rfl) (args := #[(.agg (x0.map bv).toArray), .slice A7 L.length c7]) (by simp [x26, x27]) ((Sign_sig x0 hxl.out A7 L c7 w (hk.kept hg) (hr7.kept hg) hLb).mono ?_)⟩
      rintro e w' ⟨v, rfl, hf', hg', hn', ht'⟩
      exact ⟨_, rfl, h1 ⟨_, rfl⟩ _ _ hg' hf' ht' (FreshB.new hn')⟩
    · cases (show some _ = some o from ho)
      exact ⟨rfl, wp_load_row 23 _ rfl _ (houter _ rfl) _ (x0.map bv).toArray (0, 0) _ (keep_of hseed hg) Tryd.underlying23 rfl (hashV_size _ (hxl.out)) (h1 ⟨_, rfl⟩ _ _ (grown_refl _ none) rfl (nobl (blocks_bytes _)) (FreshB.none (blocks_bytes _)))⟩
    · cases (show some _ = some o from ho)
      exact ⟨rfl, wp_move rfl (h1 ⟨_, rfl⟩ _ _ (grown_refl _ none) (houter _ rfl) (by rw [houter _ rfl]; exact fun g e => Nat.lt_of_lt_of_le (hlt7 g e) hg.size) (by rw [houter _ rfl]; exact FreshB.old rfl hlt7))⟩
    · cases (show some _ = some o from ho)
      have x29 : a.eval (.tmp 29) = (.agg (x0.map bv).toArray) := hitem 3 (by decide) ⟨hpre 3 rfl, hout _ (by decide)⟩
      have x30 : a.eval (.tmp 30) = .slice A7 L.length c7 := hitem 4 (by decide) ⟨hpre 4 rfl, hout _ (by decide)⟩
      refine ⟨rfl, wp_call rfl Tryd.func11 (by kernel_rfl) (by kernel_rfl) (args := #[(.agg (x0.map bv).toArray), .slice A7 L.length c7]) (by simp [x29, x30]) ((RSign_sig x0 hxl.out A7 L c7 w (hr7.kept hg) hLb).mono ?_)⟩
      rintro e w' ⟨v, rfl, hf', hg', hn', ht'⟩
      exact ⟨_, rfl, h1 ⟨_, rfl⟩ _ _ hg' hf' ht' (FreshB.new hn')⟩
    · cases (show some _ = some o from ho)
      exact ⟨rfl, wp_alloc rfl (alloc_O _) (h1 ⟨_, rfl⟩ _ _ (grown_alloc (grown_refl _ _) _) ⟨_, rfl, heap_alloc_new _ _⟩ (new_lt _ _) (FreshB.new (new_ge _)))⟩
    · cases (show some _ = some o from ho)
      exact ⟨rfl, wp_alloc rfl (alloc_O _) (h1 ⟨_, rfl⟩ _ _ (grown_alloc (grown_refl _ _) _) ⟨_, rfl, heap_alloc_new _ _⟩ (new_lt _ _) (FreshB.new (new_ge _)))⟩
    · cases (show some _ = some o from ho)
      obtain ⟨b, e1, hb⟩ := hitem 6 (by decide) ⟨hpre 6 rfl, hLi⟩
      obtain ⟨g1, c1, g2, c2, e2, -⟩ := hitem 2 (by decide) ⟨hpre 2 rfl, hout _ (by decide)⟩
      replace e2 : a.eval (.tmp 28) = _ := e2
      exact ⟨rfl, wp_store_row 27 _ _ rfl b _ e1 e2 27 _ hb size_one rfl (one_two _ _ _ _ _ _) (h3 rfl 6 _ _ (some b) (by decide) ⟨hpre 6 rfl, hLi⟩ rfl rfl (grown_setRow (grown_refl _ _) (.inl rfl) _) (fun g e => by cases e; rw [show valB _ a 6 = _ from e1]; exact List.mem_singleton.2 rfl) ⟨b, _, (by rw [show valB _ a 8 = .tuple #[a.eval (.tmp 8), a.eval (.tmp 28)] from rfl, show a.eval (.tmp 8) = _ from e1, e2]), setRow_heap _ _ _ _ _ _ hb⟩ (fun g h => by rw [show valB _ a 8 = .tuple #[a.eval (.tmp 8), a.eval (.tmp 28)] from rfl, show a.eval (.tmp 8) = _ from e1] at h; rw [show valB _ a 6 = _ from e1]; exact h))⟩
  · intro a wT hgT hend hap ha
    obtain ⟨f, hf⟩ : ∃ f : Nat → Value, f = fun t => a.tmps.getD t undef := ⟨_, rfl⟩
    obtain ⟨g1, c1, g2, c2, q28, hc1, hc2, hc3, hc4, r1, r2⟩ := (hend 2 (by decide) (by decide)).1
    have s28 := (congrFun hf 28).trans q28
    obtain ⟨g3, c3, g4, c4, q31, hc5, hc6, hc7, hc8, r3, r4⟩ := (hend 5 (by decide) (by decide)).1
    have s31 := (congrFun hf 31).trans q31
    obtain ⟨⟨b8, C8, q8, hh8⟩, fr8⟩ := hend 8 (by decide) (by decide)
    have f8 : W.heap.size ≤ b8 := fr8 rfl b8 (by rw [q8]; exact List.mem_singleton.2 rfl)
    have p8 := tuple_two (show Value.tuple #[_, _] = _ from q8)
    have s8 := (congrFun hf 8).trans p8.1
    have v8 : f 28 = .agg C8 := (congrFun hf 28).trans p8.2
    obtain rfl := Value.agg.inj (v8.symm.trans s28)
    clear v8
    obtain ⟨⟨b9, q9, hh9⟩, fr9⟩ := hend 7 (by decide) (by decide)
    have f9 : W.heap.size ≤ b9 := fr9 rfl b9 (by rw [q9]; exact List.mem_singleton.2 rfl)
    have s9 := (congrFun hf 9).trans q9
    have n8_9 : b8 ≠ b9 := fun e => hap 8 7 (by decide) (by decide) (by decide) (by decide) (by decide) rfl b9 (by rw [q9]; exact List.mem_singleton.2 rfl) (by rw [q8, e]; exact List.mem_singleton.2 rfl)
    rw [← hf] at ha
    clear hend hap
    clear hf
    clear q28 q31 q8 p8 fr8 q9 fr9
    subst ha
    simp only [fill, taS, Nat.reduceAdd, Nat.reduceBEq, Bool.or_false, Bool.or_true, cond_true, cond_false, List.drop_succ_cons, List.drop_zero, s28, s31, s8, s9]
    clear s28 s31 s8 s9
    have m1 := part_ne (openF_len x0 L) r1 hh9 (by simp)
    have m2 := part_ne (shutF_len x0 L) r2 hh9 (by simp)
    have m3 := part_ne (openF_len x0 L) r3 hh9 (by simp)
    have m4 := part_ne (shutF_len x0 L) r4 hh9 (by simp)
    have hgs : wT.grownBy (wT.setRow b9 #[.slice (some ⟨g3, 0, none⟩) 32 c3, .slice (some ⟨g4, 0, none⟩) 32 c4]) (some b9) := grown_setRow (grown_refl _ _) (.inl rfl) _
    have h9 : (wT.setRow b9 #[.slice (some ⟨g3, 0, none⟩) 32 c3, .slice (some ⟨g4, 0, none⟩) 32 c4]).heap[b9]? = some (.cells #[.slice (some ⟨g3, 0, none⟩) 32 c3, .slice (some ⟨g4, 0, none⟩) 32 c4] 27 (0, 0)) := setRow_heap _ _ _ _ _ _ hh9
    have h8 : (wT.setRow b9 #[.slice (some ⟨g3, 0, none⟩) 32 c3, .slice (some ⟨g4, 0, none⟩) 32 c4]).heap[b8]? = _ := (setRow_other _ _ _ _ n8_9).trans hh8
    have hgB : W.grownBy (wT.setRow b9 #[.slice (some ⟨g3, 0, none⟩) 32 c3, .slice (some ⟨g4, 0, none⟩) 32 c4]) none := grown_trans hgT hgs (.inr fun g e => by cases e; exact f9)
    replace r1 := r1.keepRow hgs m1
    replace r2 := r2.keepRow hgs m2
    replace r3 := r3.keepRow hgs m3
    replace r4 := r4.keepRow hgs m4
    clear hgs m1 m2 m3 m4
    obtain ⟨X, hX⟩ : ∃ X, X = keyL x0 := ⟨_, rfl⟩
    obtain ⟨D, hD⟩ : ∃ D, D = tagL 109 L := ⟨_, rfl⟩
    have hXl : Hid (X.length = 32) := by rw [hX]; exact tagL_len _ _
    have hDl : Hid (D.length = 32) := by rw [hD]; exact tagL_len _ _
    have hkey := fun w' (h : Laid2 w') => Key_any x0 hxl.out w' h
    have hrkey := fun w' => RKey_any x0 hxl.out w'
    have htag := fun A w' (h3 : RdP w' A [(A7, L, c7)]) => RTagged_any 109 A [(A7, L, c7)] 1 w' h3 (by simp [catP]; omega) (by simp)
    rw [show tagL 109 (catP [(A7, L, c7)]) = D by rw [hD]; simp [catP]] at htag
    change ∀ A w', RdP w' A _ → Calls Tryd.prog 12 #[.int .u8 109, .slice A 1 1] w' _ at htag
    rw [← hX] at hkey hrkey
    have hwho := fun w' (h1 : Laid2 w') (h2 : RdB w' A7 L) h3 h4 => Who_any A7 L c7 g1 c1 g2 c2 _ _ (openF_len x0 L) (shutF_len x0 L) w' h1 h2 hLb h3 h4
    rw [whoF_sign, ← hX] at hwho
    have hver0 := fun w' (h1 : Laid2 w') (h2 : RdB w' A7 L) h3 h4 => Verify_any X hXl.out A7 L c7 g1 c1 g2 c2 _ _ (openF_len x0 L) (shutF_len x0 L) w' h1 h2 hLb h3 h4
    rw [whoF_sign, ← hX, beq_self_eq_true] at hver0
    have hbit0 := fun k (h : k < 256) w' (h1 : Laid2 w') (h2 : RdB w' A7 L) => Bit_any A7 L c7 k w' h1 h2 hLb h
    have hbl : ∀ k, bitL L k = (D.getD (k / 8) 0).toNat / 2 ^ (7 - k % 8) % 2 := fun k => by rw [hD]; rfl
    clear hX hD
    go_wp2_with (first
      | (refine wpList_store_row rfl 27 _ _ rfl b9 _ rfl rfl 27 _ hh9 size_one rfl (one_two _ _ _ _ _ _) ?_; generalize wT.setRow b9 _ = B at h9 h8 hgB r1 r2 r3 r4 ⊢; have hsd := keep_of hseed hgB; have hr7B := hr7.kept hgB; have hkB := hk.kept hgB)
      | (refine wpList_load_row rfl 23 _ rfl W0.heap.size rfl _ (x0.map bv).toArray (0, 0) _ hsd Tryd.underlying23 rfl (hashV_size _ hxl.out) ?_)
      | (go_at_call 8; refine (hkey _ hkB).mono ?_; rintro e w6 ⟨rfl, hg6⟩)
      | (refine wpList_store_row rfl 23 _ _ rfl (w6.heap.size) (X.map bv).toArray rfl rfl 23 _ (alloc_at rfl) (hashV_size X hXl.out) (by rw [show (X.map bv).toArray.size = 32 from by rw [List.size_toArray, List.length_map, hXl.out]]; rfl) (bv_all' _) ?_; generalize hw7 : World.setRow _ _ _ = w7; have HW7 := new_hash hw7; clear hw7)
      | (go_at_call 12; refine (htag _ _ (rdP_kept1 (rd_row (cs := [_]) (alloc_at rfl)) ((hr7B.kept (grown_same hg6 HW7.2)).alloc _))).mono ?_; rintro e w8 ⟨rfl, hg8⟩)
      | (refine wpList_store_row rfl 23 _ _ rfl (w8.heap.size) (D.map bv).toArray rfl rfl 23 _ (alloc_at rfl) (hashV_size D hDl.out) (by rw [show (D.map bv).toArray.size = 32 from by rw [List.size_toArray, List.length_map, hDl.out]]; rfl) (bv_all' _) ?_; generalize hw9 : World.setRow _ _ _ = w9; have HW9 := new_hash hw9; clear hw9))
    have hgV0 : B.grownBy w9 none := grown_same (grown_same hg6 HW7.2) (grown_same (grown_same (grown_alloc (grown_refl _ _) _) hg8) HW9.2)
    have h10 : w9.heap[w6.heap.size]? = some (.cells (X.map bv).toArray 23 (0, 0)) := keep_of HW7.1 (grown_same (grown_same (grown_alloc (grown_refl _ _) _) hg8) HW9.2)
    have h11 := HW9.1
    clear HW7 HW9 hg6 hg8
    generalize w6.heap.size = b10 at h10 ⊢
    generalize w8.heap.size = b11 at h11 ⊢
    go_loopw [37] (fun i wz => ∃ k : Nat, k ≤ 32 ∧ i = .int .i64 k ∧ w9.grownBy wz none) (fun i _ => 32 - (intOf i).toNat)
    case atStart => exact ⟨0, by omega, rfl, grown_refl _ _⟩
    case round =>
      obtain ⟨i, hil, rfl, hgz⟩ := hrel
      by_cases hlt : i < 32
      · have hlt' : (i : Int) < 32 := by omega
        have hbit := hbit0 i (by omega)
        rw [hbl] at hbit
        obtain ⟨q, hq⟩ : ∃ q, q = i / 8 := ⟨_, rfl⟩
        obtain ⟨s, hs⟩ : ∃ s, s = 7 - i % 8 := ⟨_, rfl⟩
        have hq32 : q < 32 := by omega
        have hs8 : s < 8 := by omega
        have hq1 : (q : Int) < 32 := by omega
        have hq0 : (0 : Int) ≤ (q : Int) := by omega
        have e1 : (i : Int).tdiv 8 = (q : Int) := by rw [Int.tdiv_eq_ediv_of_nonneg (by omega)]; omega
        have e2 : (i : Int).tmod 8 = 7 - (s : Int) := by rw [Int.tmod_eq_emod_of_nonneg (by omega)]; omega
        have e3 : IntKind.i64.wrap (q : Int) = (q : Int) := IntWalk.i64_in _ ⟨by omega, by omega⟩
        have e4 : IntKind.i64.wrap (7 - (s : Int)) = 7 - (s : Int) := IntWalk.i64_in _ ⟨by omega, by omega⟩
        have e5 : (7 : Int) - (7 - (s : Int)) = (s : Int) := by omega
        have e6 : IntKind.i64.wrap (s : Int) = (s : Int) := IntWalk.i64_in _ ⟨by omega, by omega⟩
        have e10 : IntKind.u64.wrap (s : Int) = (s : Int) := IntWalk.u64_in _ ⟨by omega, by omega⟩
        rw [← hq, ← hs] at hbit
        obtain ⟨x, hx⟩ : ∃ x, x = D.getD q 0 := ⟨_, rfl⟩
        have hc : ∀ w' : World, w9.grownBy w' none → w'.cell? ⟨b11, q, none⟩ = some (.int .u8 (x.toNat : Int)) := fun w' h => by
          refine cell_bv (keep_of h11 h) ?_
          have := hDl.out
          rw [hx, List.getD_eq_getElem?_getD, List.getElem?_eq_getElem (by omega)]; rfl
        rw [← hx] at hbit
        have e7 : bits BinOp.and IntKind.i64 ((x.toNat : Int) / 2 ^ s) 1 = ((x.toNat / 2 ^ s % 2 : Nat) : Int) := and1_i64 ⟨x.toNat, x.toNat_lt⟩ ⟨s, hs8⟩
        have hy2 : x.toNat / 2 ^ s % 2 < 2 := Nat.mod_lt _ (by omega)
        generalize x.toNat / 2 ^ s % 2 = y at e7 hy2 hbit
        have e8 : IntKind.i64.wrap (y : Int) = (y : Int) := IntWalk.i64_in _ ⟨by omega, by omega⟩
        have e11 : wrap64 ((x.toNat : Int) / 2 ^ s) = (x.toNat : Int) / 2 ^ s := by
          have h1 : (0 : Int) ≤ (x.toNat : Int) / 2 ^ s := Int.ediv_nonneg (by omega) (by exact_mod_cast Nat.zero_le (2 ^ s))
          have h2 : (x.toNat : Int) / 2 ^ s ≤ (x.toNat : Int) := Int.ediv_le_self _ (by omega)
          have h3 := x.toNat_lt
          exact IntWalk.wrap64_in _ ⟨by omega, by omega⟩
        have e12 : IntKind.i64.wrap ((x.toNat : Int) / 2 ^ s) = (x.toNat : Int) / 2 ^ s := by
          have h1 : (0 : Int) ≤ (x.toNat : Int) / 2 ^ s := Int.ediv_nonneg (by omega) (by exact_mod_cast Nat.zero_le (2 ^ s))
          have h2 : (x.toNat : Int) / 2 ^ s ≤ (x.toNat : Int) := Int.ediv_le_self _ (by omega)
          have h3 := x.toNat_lt
          exact IntWalk.i64_in _ ⟨by omega, by omega⟩
        have eyy : ((y : Int) != (y : Int)) = false := by simp
        have hkz := hkB.kept (grown_same hgV0 (grown_drew hgz))
        have hrz := hr7B.kept (grown_same hgV0 (grown_drew hgz))
        clear hx hq hs hbl hbit0 hkey hrkey htag hwho hver0
        go_wp2_with fail
        go_region_held3 (fun w' => w'.cell? ⟨b11, q, none⟩ = some (.int .u8 (x.toNat : Int)))
          (first
            | exact hc _ (grown_drew hgz)
            | exact hc _ hgC)
          ((first
            | (go_simp; go_at_call 13; refine (hbit _ hkz hrz).mono ?_; rintro e wC ⟨rfl, hgc⟩; have hgC : w9.grownBy wC none := grown_same (grown_drew hgz) hgc)))
        go_wp2
        go_roundw
        case rel => exact ⟨i + 1, by omega, by go_num, hgC⟩
        case measure => simp [intOf]; omega
      · have hkk : i = 32 := by omega
        subst hkk
        rw [show ((32 : Nat) : Int) = 32 from rfl]
        have gB : B.grownBy wr none := grown_same hgV0 hgz
        replace h8 := keep_of h8 gB
        replace h9 := keep_of h9 gB
        replace hsd := keep_of hsd gB
        replace h10 := keep_of h10 hgz
        replace r1 := r1.kept gB
        replace r2 := r2.kept gB
        replace r3 := r3.kept gB
        replace r4 := r4.kept gB
        replace hr7B := hr7B.kept gB
        replace hkB := hkB.kept gB
        replace hgB := grown_same hgB gB
        clear h11 hbit0 hbl hkey htag gB hgV0 hgz
        go_upto_region 13 with (first
          | (refine wpList_load_row rfl 27 _ rfl b8 rfl _ #[.slice (some ⟨g1, 0, none⟩) 32 c1, .slice (some ⟨g2, 0, none⟩) 32 c2] (0, 0) _ h8 Tryd.underlying27 rfl size_one ?_)
          | (go_at_call 14; refine (hwho _ hkB hr7B r1 r2).mono ?_; rintro e wD ⟨rfl, hgD⟩)
          | (refine wpList_store_row rfl 23 _ _ rfl (wD.heap.size) (X.map bv).toArray rfl rfl 23 _ (alloc_at rfl) (hashV_size X hXl.out) (by rw [show (X.map bv).toArray.size = 32 from by rw [List.size_toArray, List.length_map, hXl.out]]; rfl) (bv_all' _) ?_; generalize hwE : World.setRow _ _ _ = wE; have HWE := new_hash hwE; clear hwE)
          | (go_at_call 15; refine (hWi _).mono ?_; rintro e w1 ⟨rfl, rfl⟩))
        have h13 := HWE.1
        have gD := grown_same hgD HWE.2
        clear HWE
        generalize wD.heap.size = b13 at h13 ⊢
        have h9E := keep_of h9 gD
        have hcE0 : wE.cell? ⟨b9, 0, none⟩ = some (.slice (some ⟨g3, 0, none⟩) 32 c3) := cell_of_cells h9E rfl
        have hcE1 : wE.cell? ⟨b9, 1, none⟩ = some (.slice (some ⟨g4, 0, none⟩) 32 c4) := cell_of_cells h9E rfl
        have hcu0 : (0 : Int) ≤ (cut : Int) := by omega
        have hcu1 : (cut : Int) ≤ (c3 : Int) := by omega
        have hk3 : ∀ w', wr.grownBy w' none → w'.cell? ⟨b9, 0, none⟩ = some (.slice (some ⟨g3, 0, none⟩) 32 c3) ∧ w'.cell? ⟨b9, 1, none⟩ = some (.slice (some ⟨g4, 0, none⟩) 32 c4) := fun w' h => ⟨cell_of_cells (keep_of h9 h) rfl, cell_of_cells (keep_of h9 h) rfl⟩
        go_region_held3 (fun w' => w'.cell? ⟨b9, 0, none⟩ = some (.slice (some ⟨g3, 0, none⟩) 32 c3) ∧ w'.cell? ⟨b9, 1, none⟩ = some (.slice (some ⟨g4, 0, none⟩) 32 c4))
          (first
            | exact hk3 _ (grown_drew gD)
            | exact hk3 _ (grown_alloc (grown_drew gD) _))
          (fail)
        have h16 : (wE.alloc (.cells #[.slice (some ⟨g3, 0, none⟩) cut c3, .slice (some ⟨g4, 0, none⟩) 32 c4] 27)).drew.heap[wE.heap.size]? = some (.cells #[.slice (some ⟨g3, 0, none⟩) cut c3, .slice (some ⟨g4, 0, none⟩) 32 c4] 27 (0, 0)) := heap_alloc_new wE _
        have gF : wE.grownBy (wE.alloc (.cells #[.slice (some ⟨g3, 0, none⟩) cut c3, .slice (some ⟨g4, 0, none⟩) 32 c4] 27)).drew none := grown_drew (grown_alloc (grown_refl _ _) _)
        generalize (wE.alloc (.cells #[.slice (some ⟨g3, 0, none⟩) cut c3, .slice (some ⟨g4, 0, none⟩) 32 c4] 27)).drew = wF at h16 gF ⊢
        generalize wE.heap.size = b16 at h16 ⊢
        have hwhoS := fun w' => Who_short A7 L.length c7 (some ⟨g3, 0, none⟩) cut c3 (some ⟨g4, 0, none⟩) 32 c4 w' (.inl (by omega))
        have hZl : Hid (zeroH.length = 32) := zeroH_len
        generalize zeroH = Zr at hwhoS hZl
        clear hk3 hcE0 hcE1 hcu0 hcu1
        go_upto_region 15 with (first
          | (refine wpList_load_row rfl 27 _ rfl b16 rfl _ #[.slice (some ⟨g3, 0, none⟩) cut c3, .slice (some ⟨g4, 0, none⟩) 32 c4] (0, 0) _ h16 Tryd.underlying27 rfl size_one ?_)
          | (go_at_call 14; refine (hwhoS _).mono ?_; rintro e wG ⟨rfl, hgG⟩)
          | (refine wpList_store_row rfl 23 _ _ rfl (wG.heap.size) (Zr.map bv).toArray rfl rfl 23 _ (alloc_at rfl) (hashV_size Zr hZl.out) (by rw [show (Zr.map bv).toArray.size = 32 from by rw [List.size_toArray, List.length_map, hZl.out]]; rfl) (bv_all' _) ?_; generalize hwV : World.setRow _ _ _ = V; have HWV := new_hash hwV; clear hwV))
        have gV1 : wE.grownBy V none := grown_same gF (grown_same hgG HWV.2)
        have gV : wr.grownBy V none := grown_same gD gV1
        clear HWV hgG gF h16 h9E
        generalize wG.heap.size = b17
        replace h8 := keep_of h8 gV
        replace h9 := keep_of h9 gV
        replace hsd := keep_of hsd gV
        replace h10 := keep_of h10 gV
        replace h13 := keep_of h13 gV1
        replace r1 := r1.kept gV
        replace r2 := r2.kept gV
        replace r3 := r3.kept gV
        replace r4 := r4.kept gV
        replace hr7B := hr7B.kept gV
        have hgV := grown_same hgB gV
        have hver : ∀ w', V.grownBy w' none → Calls Tryd.prog 10 #[.agg (X.map bv).toArray, .slice A7 L.length c7, .agg #[.slice (some ⟨g1, 0, none⟩) 32 c1, .slice (some ⟨g2, 0, none⟩) 32 c2]] w' fun e w'' => e = .returned (.bool true) ∧ w'.grownBy w'' none :=
          fun w' h => hver0 w' (hk.kept (grown_same hgV h)) (hr7B.kept h) (r1.kept h) (r2.kept h)
        have t1 := lt_of_part (openF_len x0 L) r1
        have t2 := lt_of_part (shutF_len x0 L) r2
        have t3 := lt_of_part (openF_len x0 L) r3
        have t4 := lt_of_part (shutF_len x0 L) r4
        have k1 := blocks_one (n := 32) (c := c1) t1
        have k2 := blocks_one (n := 32) (c := c2) t2
        have k3 := blocks_one (n := 32) (c := c3) t3
        have k4 := blocks_one (n := 32) (c := c4) t4
        have k12 := blocks_two (n := 32) (m := 32) (c := c1) (d := c2) t1 t2
        have k7 : ∀ x ∈ blocksOf (.slice A7 L.length c7), x < V.heap.size := fun x hx => Nat.lt_of_lt_of_le (hlt7 x hx) hgV.size
        clear gV gV1 gD hver0 hwho hwhoS t1 t2 t3 t4 hkB
        refine wp_region_gb (al := tbAl) 39 (N := 116) (S := tbS) (die := tbDie) (own := tbOwn) (F := tbF x0 L X b8 b9 g1 c1 g2 c2 g3 c3 g4 c4 A7 c7) (by kernel_rfl) (Nat.le_of_ble_eq_true (by kernel_rfl)) (fun _ => by kernel_rfl) (fun _ => by kernel_rfl) (by kernel_rfl) (by kernel_rfl) (Nat.le_of_ble_eq_true (by kernel_rfl)) (tbF_lasts x0 L X b8 b9 g1 c1 g2 c2 g3 c3 g4 c4 A7 c7) ?_ ?_
        · intro i o L' a w K hi ho hg hLi hout hpre houter hitem h1 h2 h3
          have hcases : i = 0 ∨ i = 1 ∨ i = 2 ∨ i = 3 ∨ i = 4 ∨ i = 5 ∨ i = 6 ∨ i = 7 ∨ i = 8 ∨ i = 9 ∨ i = 10 ∨ i = 11 ∨ i = 12 ∨ i = 13 ∨ i = 14 ∨ i = 15 ∨ i = 16 ∨ i = 17 ∨ i = 18 ∨ i = 19 ∨ i = 20 ∨ i = 21 ∨ i = 22 ∨ i = 23 ∨ i = 24 ∨ i = 25 ∨ i = 26 ∨ i = 27 ∨ i = 28 ∨ i = 29 ∨ i = 30 ∨ i = 31 ∨ i = 32 ∨ i = 33 ∨ i = 34 ∨ i = 35 ∨ i = 36 ∨ i = 37 ∨ i = 38 := by omega
          rcases hcases with rfl | rfl | rfl | rfl | rfl | rfl | rfl | rfl | rfl | rfl | rfl | rfl | rfl | rfl | rfl | rfl | rfl | rfl | rfl | rfl | rfl | rfl | rfl | rfl | rfl | rfl | rfl | rfl | rfl | rfl | rfl | rfl | rfl | rfl | rfl | rfl | rfl | rfl | rfl
          · cases (show some _ = some o from ho)
            exact ⟨rfl, wp_field rfl (houter _ rfl) (field_O _ 0 (by omega)) (h1 ⟨_, rfl⟩ _ _ (grown_refl _ none) rfl (nobl rfl) (FreshB.none rfl))⟩
          · cases (show some _ = some o from ho)
            exact ⟨rfl, wp_loadC rfl (hitem 0 (by decide) ⟨hpre 0 rfl, hout _ (by decide)⟩) (load_cell (cell_of_cells (keep_of h8 hg) rfl) Tryd.underlying25 rfl) (h1 ⟨_, rfl⟩ _ _ (grown_refl _ none) rfl (fun g e => Nat.lt_of_lt_of_le (k1 g e) hg.size) (FreshB.old rfl k1))⟩
          · cases (show some _ = some o from ho)
            exact ⟨rfl, wp_field rfl (houter _ rfl) (field_O _ 0 (by omega)) (h1 ⟨_, rfl⟩ _ _ (grown_refl _ none) rfl (nobl rfl) (FreshB.none rfl))⟩
          · cases (show some _ = some o from ho)
            exact ⟨rfl, wp_loadC rfl (hitem 2 (by decide) ⟨hpre 2 rfl, hout _ (by decide)⟩) (load_cell (cell_of_cells (keep_of h9 hg) rfl) Tryd.underlying25 rfl) (h1 ⟨_, rfl⟩ _ _ (grown_refl _ none) rfl (fun g e => Nat.lt_of_lt_of_le (k3 g e) hg.size) (FreshB.old rfl k3))⟩
          · cases (show some _ = some o from ho)
            have x78 : a.eval (.tmp 78) = .slice (some ⟨g1, 0, none⟩) 32 c1 := hitem 1 (by decide) ⟨hpre 1 rfl, hout _ (by decide)⟩
            have x80 : a.eval (.tmp 80) = .slice (some ⟨g3, 0, none⟩) 32 c3 := hitem 3 (by decide) ⟨hpre 3 rfl, hout _ (by decide)⟩
            refine ⟨rfl, wp_call rfl Tryd.func16 (by kernel_rfl) (by kernel_rfl) (args := #[.slice (some ⟨g1, 0, none⟩) 32 c1, .slice (some ⟨g3, 0, none⟩) 32 c3]) (by simp [x78, x80]) ((SameH_any g1 c1 g3 c3 _ (openF_len x0 L) w (r1.kept hg) (r3.kept hg)).mono ?_)⟩
            rintro e w' ⟨rfl, hg'⟩
            exact ⟨_, rfl, h1 ⟨_, rfl⟩ _ _ hg' rfl (nobl rfl) (FreshB.none rfl)⟩
          · cases (show some _ = some o from ho)
            have hx := hitem 4 (by decide) ⟨hpre 4 rfl, hout _ (by decide)⟩
            exact ⟨rfl, wp_move rfl (h1 ⟨_, rfl⟩ _ _ (grown_refl _ none) hx (by rw [show a.eval (.tmp 81) = .bool true from hx]; exact nobl rfl) (by rw [show a.eval (.tmp 81) = .bool true from hx]; exact FreshB.none rfl))⟩
          · cases (show some _ = some o from ho)
            exact ⟨wanted_of (j := 5) rfl rfl (hitem 5 (by decide) ⟨hpre 5 rfl, hout _ (by decide)⟩), wp_field rfl (houter _ rfl) (field_O _ 1 (by omega)) (h1 ⟨_, rfl⟩ _ _ (grown_refl _ none) rfl (nobl rfl) (FreshB.none rfl))⟩
          · cases (show some _ = some o from ho)
            exact ⟨wanted_of (j := 5) rfl rfl (hitem 5 (by decide) ⟨hpre 5 rfl, hout _ (by decide)⟩), wp_loadC rfl (hitem 6 (by decide) ⟨hpre 6 rfl, hout _ (by decide)⟩) (load_cell (cell_of_cells (keep_of h8 hg) rfl) Tryd.underlying25 rfl) (h1 ⟨_, rfl⟩ _ _ (grown_refl _ none) rfl (fun g e => Nat.lt_of_lt_of_le (k2 g e) hg.size) (FreshB.old rfl k2))⟩
          · cases (show some _ = some o from ho)
            exact ⟨wanted_of (j := 5) rfl rfl (hitem 5 (by decide) ⟨hpre 5 rfl, hout _ (by decide)⟩), wp_field rfl (houter _ rfl) (field_O _ 1 (by omega)) (h1 ⟨_, rfl⟩ _ _ (grown_refl _ none) rfl (nobl rfl) (FreshB.none rfl))⟩
          · cases (show some _ = some o from ho)
            exact ⟨wanted_of (j := 5) rfl rfl (hitem 5 (by decide) ⟨hpre 5 rfl, hout _ (by decide)⟩), wp_loadC rfl (hitem 8 (by decide) ⟨hpre 8 rfl, hout _ (by decide)⟩) (load_cell (cell_of_cells (keep_of h9 hg) rfl) Tryd.underlying25 rfl) (h1 ⟨_, rfl⟩ _ _ (grown_refl _ none) rfl (fun g e => Nat.lt_of_lt_of_le (k4 g e) hg.size) (FreshB.old rfl k4))⟩
          · cases (show some _ = some o from ho)
            have x84 : a.eval (.tmp 84) = .slice (some ⟨g2, 0, none⟩) 32 c2 := hitem 7 (by decide) ⟨hpre 7 rfl, hout _ (by decide)⟩
            have x86 : a.eval (.tmp 86) = .slice (some ⟨g4, 0, none⟩) 32 c4 := hitem 9 (by decide) ⟨hpre 9 rfl, hout _ (by decide)⟩
            refine ⟨wanted_of (j := 5) rfl rfl (hitem 5 (by decide) ⟨hpre 5 rfl, hout _ (by decide)⟩), wp_call rfl Tryd.func16 (by kernel_rfl) (by kernel_rfl) (args := #[.slice (some ⟨g2, 0, none⟩) 32 c2, .slice (some ⟨g4, 0, none⟩) 32 c4]) (by simp [x84, x86]) ((SameH_any g2 c2 g4 c4 _ (shutF_len x0 L) w (r2.kept hg) (r4.kept hg)).mono ?_)⟩
            rintro e w' ⟨rfl, hg'⟩
            exact ⟨_, rfl, h1 ⟨_, rfl⟩ _ _ hg' rfl (nobl rfl) (FreshB.none rfl)⟩
          · cases (show some _ = some o from ho)
            have hc := hitem 5 (by decide) ⟨hpre 5 rfl, hout _ (by decide)⟩
            have hx := hitem 10 (by decide) ⟨hpre 10 rfl, hout _ (by decide)⟩
            exact ⟨rfl, wp_pick rfl hc (h1 ⟨_, rfl⟩ _ _ (grown_refl _ none) hx (by rw [show a.eval (.tmp 87) = .bool true from hx]; exact nobl rfl) (by rw [show a.eval (.tmp 87) = .bool true from hx]; exact FreshB.none rfl))⟩
          · cases (show some _ = some o from ho)
            have hx := hitem 11 (by decide) ⟨hpre 11 rfl, hout _ (by decide)⟩
            exact ⟨rfl, wp_move rfl (h1 ⟨_, rfl⟩ _ _ (grown_refl _ none) hx (by rw [show a.eval (.tmp 88) = .bool true from hx]; exact nobl rfl) (by rw [show a.eval (.tmp 88) = .bool true from hx]; exact FreshB.none rfl))⟩
          · cases (show some _ = some o from ho)
            exact ⟨wanted_of (j := 12) rfl rfl (hitem 12 (by decide) ⟨hpre 12 rfl, hout _ (by decide)⟩), wp_load_row 23 _ rfl _ (houter _ rfl) _ (X.map bv).toArray (0, 0) _ (keep_of h10 hg) Tryd.underlying23 rfl (hashV_size _ (hXl.out)) (h1 ⟨_, rfl⟩ _ _ (grown_refl _ none) rfl (nobl (blocks_bytes _)) (FreshB.none (blocks_bytes _)))⟩
          · cases (show some _ = some o from ho)
            exact ⟨wanted_of (j := 12) rfl rfl (hitem 12 (by decide) ⟨hpre 12 rfl, hout _ (by decide)⟩), wp_load_row 23 _ rfl _ (houter _ rfl) _ (x0.map bv).toArray (0, 0) _ (keep_of hsd hg) Tryd.underlying23 rfl (hashV_size _ (hxl.out)) (h1 ⟨_, rfl⟩ _ _ (grown_refl _ none) rfl (nobl (blocks_bytes _)) (FreshB.none (blocks_bytes _)))⟩
          · cases (show some _ = some o from ho)
            have x91 : a.eval (.tmp 91) = (.agg (x0.map bv).toArray) := hitem 14 (by decide) ⟨hpre 14 rfl, hout _ (by decide)⟩
            refine ⟨wanted_of (j := 12) rfl rfl (hitem 12 (by decide) ⟨hpre 12 rfl, hout _ (by decide)⟩), wp_call rfl Tryd.func17 (by kernel_rfl) (by kernel_rfl) (args := #[(.agg (x0.map bv).toArray)]) (by simp [x91]) ((hrkey w).mono ?_)⟩
            rintro e w' ⟨rfl, hg'⟩
            exact ⟨_, rfl, h1 ⟨_, rfl⟩ _ _ hg' rfl (nobl (blocks_bytes _)) (FreshB.none (blocks_bytes _))⟩
          · cases (show some _ = some o from ho)
            exact ⟨wanted_of (j := 12) rfl rfl (hitem 12 (by decide) ⟨hpre 12 rfl, hout _ (by decide)⟩), wp_bin rfl (hitem 13 (by decide) ⟨hpre 13 rfl, hout _ (by decide)⟩) (hitem 15 (by decide) ⟨hpre 15 rfl, hout _ (by decide)⟩) (guard_hash _ _ _ _ _) (eqlH_true X hXl.out _) (h1 ⟨_, rfl⟩ _ _ (grown_refl _ none) rfl (nobl rfl) (FreshB.none rfl))⟩
          · cases (show some _ = some o from ho)
            have hc := hitem 12 (by decide) ⟨hpre 12 rfl, hout _ (by decide)⟩
            have hx := hitem 16 (by decide) ⟨hpre 16 rfl, hout _ (by decide)⟩
            exact ⟨rfl, wp_pick rfl hc (h1 ⟨_, rfl⟩ _ _ (grown_refl _ none) hx (by rw [show a.eval (.tmp 93) = .bool true from hx]; exact nobl rfl) (by rw [show a.eval (.tmp 93) = .bool true from hx]; exact FreshB.none rfl))⟩
          · cases (show some _ = some o from ho)
            have hx := hitem 17 (by decide) ⟨hpre 17 rfl, hout _ (by decide)⟩
            exact ⟨rfl, wp_move rfl (h1 ⟨_, rfl⟩ _ _ (grown_refl _ none) hx (by rw [show a.eval (.tmp 94) = .bool true from hx]; exact nobl rfl) (by rw [show a.eval (.tmp 94) = .bool true from hx]; exact FreshB.none rfl))⟩
          · cases (show some _ = some o from ho)
            exact ⟨wanted_of (j := 18) rfl rfl (hitem 18 (by decide) ⟨hpre 18 rfl, hout _ (by decide)⟩), wp_move rfl (h1 ⟨_, rfl⟩ _ _ (grown_refl _ none) (houter _ rfl) (by rw [houter _ rfl]; exact nobl rfl) (by rw [houter _ rfl]; exact FreshB.none rfl))⟩
          · cases (show some _ = some o from ho)
            have hc := hitem 18 (by decide) ⟨hpre 18 rfl, hout _ (by decide)⟩
            have hx := hitem 19 (by decide) ⟨hpre 19 rfl, hout _ (by decide)⟩
            exact ⟨rfl, wp_pick rfl hc (h1 ⟨_, rfl⟩ _ _ (grown_refl _ none) hx (by rw [show a.eval (.tmp 96) = .bool true from hx]; exact nobl rfl) (by rw [show a.eval (.tmp 96) = .bool true from hx]; exact FreshB.none rfl))⟩
          · cases (show some _ = some o from ho)
            have hx := hitem 20 (by decide) ⟨hpre 20 rfl, hout _ (by decide)⟩
            exact ⟨rfl, wp_move rfl (h1 ⟨_, rfl⟩ _ _ (grown_refl _ none) hx (by rw [show a.eval (.tmp 97) = .bool true from hx]; exact nobl rfl) (by rw [show a.eval (.tmp 97) = .bool true from hx]; exact FreshB.none rfl))⟩
          · cases (show some _ = some o from ho)
            exact ⟨wanted_of (j := 21) rfl rfl (hitem 21 (by decide) ⟨hpre 21 rfl, hout _ (by decide)⟩), wp_load_row 23 _ rfl _ (houter _ rfl) _ (X.map bv).toArray (0, 0) _ (keep_of h13 hg) Tryd.underlying23 rfl (hashV_size _ (hXl.out)) (h1 ⟨_, rfl⟩ _ _ (grown_refl _ none) rfl (nobl (blocks_bytes _)) (FreshB.none (blocks_bytes _)))⟩
          · cases (show some _ = some o from ho)
            exact ⟨wanted_of (j := 21) rfl rfl (hitem 21 (by decide) ⟨hpre 21 rfl, hout _ (by decide)⟩), wp_load_row 23 _ rfl _ (houter _ rfl) _ (X.map bv).toArray (0, 0) _ (keep_of h10 hg) Tryd.underlying23 rfl (hashV_size _ (hXl.out)) (h1 ⟨_, rfl⟩ _ _ (grown_refl _ none) rfl (nobl (blocks_bytes _)) (FreshB.none (blocks_bytes _)))⟩
          · cases (show some _ = some o from ho)
            exact ⟨wanted_of (j := 21) rfl rfl (hitem 21 (by decide) ⟨hpre 21 rfl, hout _ (by decide)⟩), wp_bin rfl (hitem 22 (by decide) ⟨hpre 22 rfl, hout _ (by decide)⟩) (hitem 23 (by decide) ⟨hpre 23 rfl, hout _ (by decide)⟩) (guard_hash _ _ _ _ _) (eqlH_true X hXl.out _) (h1 ⟨_, rfl⟩ _ _ (grown_refl _ none) rfl (nobl rfl) (FreshB.none rfl))⟩
          · cases (show some _ = some o from ho)
            have hc := hitem 21 (by decide) ⟨hpre 21 rfl, hout _ (by decide)⟩
            have hx := hitem 24 (by decide) ⟨hpre 24 rfl, hout _ (by decide)⟩
            exact ⟨rfl, wp_pick rfl hc (h1 ⟨_, rfl⟩ _ _ (grown_refl _ none) hx (by rw [show a.eval (.tmp 101) = .bool true from hx]; exact nobl rfl) (by rw [show a.eval (.tmp 101) = .bool true from hx]; exact FreshB.none rfl))⟩
          · cases (show some _ = some o from ho)
            have hx := hitem 25 (by decide) ⟨hpre 25 rfl, hout _ (by decide)⟩
            exact ⟨rfl, wp_move rfl (h1 ⟨_, rfl⟩ _ _ (grown_refl _ none) hx (by rw [show a.eval (.tmp 102) = .bool true from hx]; exact nobl rfl) (by rw [show a.eval (.tmp 102) = .bool true from hx]; exact FreshB.none rfl))⟩
          · cases (show some _ = some o from ho)
            exact ⟨wanted_of (j := 26) rfl rfl (hitem 26 (by decide) ⟨hpre 26 rfl, hout _ (by decide)⟩), wp_load_row 23 _ rfl _ (houter _ rfl) _ (X.map bv).toArray (0, 0) _ (keep_of h10 hg) Tryd.underlying23 rfl (hashV_size _ (hXl.out)) (h1 ⟨_, rfl⟩ _ _ (grown_refl _ none) rfl (nobl (blocks_bytes _)) (FreshB.none (blocks_bytes _)))⟩
          · cases (show some _ = some o from ho)
            exact ⟨wanted_of (j := 26) rfl rfl (hitem 26 (by decide) ⟨hpre 26 rfl, hout _ (by decide)⟩), wp_move rfl (h1 ⟨_, rfl⟩ _ _ (grown_refl _ none) (houter _ rfl) (by rw [houter _ rfl]; exact fun g e => Nat.lt_of_lt_of_le (k7 g e) hg.size) (by rw [houter _ rfl]; exact FreshB.old rfl k7))⟩
          · cases (show some _ = some o from ho)
            exact ⟨wanted_of (j := 26) rfl rfl (hitem 26 (by decide) ⟨hpre 26 rfl, hout _ (by decide)⟩), wp_load_row 27 _ rfl _ (houter _ rfl) _ #[.slice (some ⟨g1, 0, none⟩) 32 c1, .slice (some ⟨g2, 0, none⟩) 32 c2] (0, 0) _ (keep_of h8 hg) Tryd.underlying27 rfl (size_one) (h1 ⟨_, rfl⟩ _ _ (grown_refl _ none) rfl (fun g e => Nat.lt_of_lt_of_le (k12 g e) hg.size) (FreshB.old rfl k12))⟩
          · cases (show some _ = some o from ho)
            have x104 : a.eval (.tmp 104) = (.agg (X.map bv).toArray) := hitem 27 (by decide) ⟨hpre 27 rfl, hout _ (by decide)⟩
            have x105 : a.eval (.tmp 105) = .slice A7 L.length c7 := hitem 28 (by decide) ⟨hpre 28 rfl, hout _ (by decide)⟩
            have x106 : a.eval (.tmp 106) = (.agg #[.slice (some ⟨g1, 0, none⟩) 32 c1, .slice (some ⟨g2, 0, none⟩) 32 c2]) := hitem 29 (by decide) ⟨hpre 29 rfl, hout _ (by decide)⟩
            refine ⟨wanted_of (j := 26) rfl rfl (hitem 26 (by decide) ⟨hpre 26 rfl, hout _ (by decide)⟩), wp_call rfl Tryd.func10 (by kernel_rfl) (by kernel_rfl) (args := #[(.agg (X.map bv).toArray), .slice A7 L.length c7, (.agg #[.slice (some ⟨g1, 0, none⟩) 32 c1, .slice (some ⟨g2, 0, none⟩) 32 c2])]) (by simp [x104, x105, x106]) ((hver w hg).mono ?_)⟩
            rintro e w' ⟨rfl, hg'⟩
            exact ⟨_, rfl, h1 ⟨_, rfl⟩ _ _ hg' rfl (nobl rfl) (FreshB.none rfl)⟩
          · cases (show some _ = some o from ho)
            have hc := hitem 26 (by decide) ⟨hpre 26 rfl, hout _ (by decide)⟩
            have hx := hitem 30 (by decide) ⟨hpre 30 rfl, hout _ (by decide)⟩
            exact ⟨rfl, wp_pick rfl hc (h1 ⟨_, rfl⟩ _ _ (grown_refl _ none) hx (by rw [show a.eval (.tmp 107) = .bool true from hx]; exact nobl rfl) (by rw [show a.eval (.tmp 107) = .bool true from hx]; exact FreshB.none rfl))⟩
          · cases (show some _ = some o from ho)
            have hx := hitem 31 (by decide) ⟨hpre 31 rfl, hout _ (by decide)⟩
            exact ⟨rfl, wp_move rfl (h1 ⟨_, rfl⟩ _ _ (grown_refl _ none) hx (by rw [show a.eval (.tmp 108) = .bool true from hx]; exact nobl rfl) (by rw [show a.eval (.tmp 108) = .bool true from hx]; exact FreshB.none rfl))⟩
          · cases (show some _ = some o from ho)
            exact ⟨wanted_of (j := 32) rfl rfl (hitem 32 (by decide) ⟨hpre 32 rfl, hout _ (by decide)⟩), wp_move rfl (h1 ⟨_, rfl⟩ _ _ (grown_refl _ none) (houter _ rfl) (by rw [houter _ rfl]; exact nobl rfl) (by rw [houter _ rfl]; exact FreshB.none rfl))⟩
          · cases (show some _ = some o from ho)
            exact ⟨wanted_of (j := 32) rfl rfl (hitem 32 (by decide) ⟨hpre 32 rfl, hout _ (by decide)⟩), wp_not rfl (hitem 33 (by decide) ⟨hpre 33 rfl, hout _ (by decide)⟩) (h1 ⟨_, rfl⟩ _ _ (grown_refl _ none) rfl (nobl rfl) (FreshB.none rfl))⟩
          · cases (show some _ = some o from ho)
            have hc := hitem 32 (by decide) ⟨hpre 32 rfl, hout _ (by decide)⟩
            have hx := hitem 34 (by decide) ⟨hpre 34 rfl, hout _ (by decide)⟩
            exact ⟨rfl, wp_pick rfl hc (h1 ⟨_, rfl⟩ _ _ (grown_refl _ none) hx (by rw [show a.eval (.tmp 111) = .bool true from hx]; exact nobl rfl) (by rw [show a.eval (.tmp 111) = .bool true from hx]; exact FreshB.none rfl))⟩
          · cases (show some _ = some o from ho)
            have hx := hitem 35 (by decide) ⟨hpre 35 rfl, hout _ (by decide)⟩
            exact ⟨rfl, wp_move rfl (h1 ⟨_, rfl⟩ _ _ (grown_refl _ none) hx (by rw [show a.eval (.tmp 112) = .bool true from hx]; exact nobl rfl) (by rw [show a.eval (.tmp 112) = .bool true from hx]; exact FreshB.none rfl))⟩
          · cases (show some _ = some o from ho)
            refine ⟨wanted_of (j := 36) rfl rfl (hitem 36 (by decide) ⟨hpre 36 rfl, hout _ (by decide)⟩), wp_call rfl Tryd.func3 (by kernel_rfl) (by kernel_rfl) (args := #[]) (by simp) ((LamRuns_any w (hk.kept (grown_same hgV hg))).mono ?_)⟩
            rintro e w' ⟨rfl, hg'⟩
            exact ⟨_, rfl, h1 ⟨_, rfl⟩ _ _ hg' rfl (nobl rfl) (FreshB.none rfl)⟩
          · cases (show some _ = some o from ho)
            have hc := hitem 36 (by decide) ⟨hpre 36 rfl, hout _ (by decide)⟩
            have hx := hitem 37 (by decide) ⟨hpre 37 rfl, hout _ (by decide)⟩
            exact ⟨rfl, wp_pick rfl hc (h1 ⟨_, rfl⟩ _ _ (grown_refl _ none) hx (by rw [show a.eval (.tmp 114) = .bool true from hx]; exact nobl rfl) (by rw [show a.eval (.tmp 114) = .bool true from hx]; exact FreshB.none rfl))⟩
        · intro a wT hgT hend hap ha
          obtain ⟨f, hf⟩ : ∃ f : Nat → Value, f = fun t => a.tmps.getD t undef := ⟨_, rfl⟩
          have s115 : f 115 = .bool true := by rw [hf]; exact (hend 38 (by decide) (by decide)).1
          rw [← hf] at ha
          clear hend hap
          clear hf
          subst ha
          simp only [fill, tbS, Nat.reduceAdd, Nat.reduceBEq, Bool.or_false, Bool.or_true, cond_true, cond_false, List.drop_succ_cons, List.drop_zero, s115]
          clear s115
          go_wp2_with fail
          go_ret
          exact ⟨rfl, grown_same hgW (grown_same hgV hgT)⟩
end Go.Proofs.YtepnhepaihpnoaaDoor
