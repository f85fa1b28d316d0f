/- The law on any seed, height and message: its contract. -/
import Derived.Test.YtohdifimfhdhoaaDoorRingH
namespace Go.Proofs.YtohdifimfhdhoaaDoor
open Go.RowKit

theorem field_S1 (g : Nat) (w : World) : (Instr.fieldAt 28 (.pointer (some ⟨g, 0, none⟩)) 1).run Tryd.prog w = .ok (.pointer (some ⟨g, 1, none⟩)) w := by kernel_rfl
theorem field_P0 (g : Nat) (w : World) : (Instr.fieldAt 26 (.pointer (some ⟨g, 1, none⟩)) 0).run Tryd.prog w = .ok (.pointer (some ⟨g, 1, none⟩)) w := by kernel_rfl
theorem field_P1 (g : Nat) (w : World) : (Instr.fieldAt 26 (.pointer (some ⟨g, 1, none⟩)) 1).run Tryd.prog w = .ok (.pointer (some ⟨g, 2, none⟩)) w := by kernel_rfl
theorem conv16 (i : Nat) (h : i < 16) (w : World) : (convert 3 5 (.int .i64 ((i : Int) + 1))).run Tryd.prog w = .ok (.int .u8 ((UInt8.ofNat (i + 1)).toNat : Int)) w :=
  match i, h with
  | 0, _ => by kernel_rfl
  | 1, _ => by kernel_rfl
  | 2, _ => by kernel_rfl
  | 3, _ => by kernel_rfl
  | 4, _ => by kernel_rfl
  | 5, _ => by kernel_rfl
  | 6, _ => by kernel_rfl
  | 7, _ => by kernel_rfl
  | 8, _ => by kernel_rfl
  | 9, _ => by kernel_rfl
  | 10, _ => by kernel_rfl
  | 11, _ => by kernel_rfl
  | 12, _ => by kernel_rfl
  | 13, _ => by kernel_rfl
  | 14, _ => by kernel_rfl
  | 15, _ => by kernel_rfl
  | _ + 16, h => absurd h (by omega)
theorem rdP_two {w : World} {A : Option Addr} {p q : Part} (h : RdAt w A [pv p, pv q]) (h1 : RdB w p.1 p.2.1) (h2 : RdB w q.1 q.2.1) : RdP w A [p, q] := ⟨h, fun r hr => by
  simp only [List.mem_cons, List.not_mem_nil, or_false] at hr
  rcases hr with rfl | rfl <;> assumption⟩
theorem eql_i (x y : Int) (w : World) : (binOp .eql 3 (.int .i64 x) (.int .i64 y)).run Tryd.prog w = .ok (.bool (decide (x = y))) w := by
  have e : (binOp .eql 3 (.int .i64 x) (.int .i64 y)).run Tryd.prog w = .ok (.bool (x == y)) w := by kernel_rfl
  rw [e]
  congr 2

def teaS (t : Nat) : Bool := t == 11 || t == 12 || t == 24 || t == 25 || t == 26 || t == 27 || t == 28 || t == 29 || t == 30 || t == 31
def teaDie (k : Nat) : Nat := if k = 8 then 10 else if k = 9 then 11 else 99
def teaOwn (k : Nat) : Bool := k == 8 || k == 9 || k == 10 || k == 11
def teaAl (k : Nat) : Bool := k == 2 || k == 6 || k == 8 || k == 9 || k == 10 || k == 11
def teaF (i n0 N7 c7 : Nat) (x0 L : List UInt8) (A7 : Option Addr) : Nat → Value → World → Prop
  | 0 => fun v _ => v = (.agg (x0.map bv).toArray)
  | 1 => fun v _ => v = .int .i64 ((i : Int) + 1)
  | 2 => fun v _ => v = .slice A7 N7 c7
  | 3 => fun v w => SigV w n0 x0 L i v
  | 4 => fun v _ => v = (.agg (x0.map bv).toArray)
  | 5 => fun v _ => v = .int .i64 ((i : Int) + 1)
  | 6 => fun v _ => v = .slice A7 N7 c7
  | 7 => fun v w => SigV w n0 x0 L i v
  | 8 => Made #[.int .i64 0, .slice none 0 0, .slice none 0 0, .slice none 0 0] 28
  | 9 => Made #[.int .i64 0, .slice none 0 0, .slice none 0 0, .slice none 0 0] 28
  | 10 => Stored 28
  | 11 => Stored 28
  | _ => fun _ _ => True
theorem teaF_lasts (i n0 N7 c7 : Nat) (x0 L : List UInt8) (A7 : Option Addr) : ∀ kq, LastsB teaAl kq (teaF i n0 N7 c7 x0 L A7 kq)
  | 0 => LastsB.val _
  | 1 => LastsB.val _
  | 2 => LastsB.val _
  | 3 => LastsB.sigV rfl _ _ _ _
  | 4 => LastsB.val _
  | 5 => LastsB.val _
  | 6 => LastsB.val _
  | 7 => LastsB.sigV rfl _ _ _ _
  | 8 => LastsB.made rfl _ _
  | 9 => LastsB.made rfl _ _
  | 10 => LastsB.stored rfl _
  | 11 => LastsB.stored rfl _
  | _ + 12 => fun _ _ _ _ _ _ _ => trivial
def tebS (t : Nat) : Bool := t == 36 || t == 37 || t == 38 || t == 39 || t == 40 || t == 41 || t == 42 || t == 43 || t == 44 || t == 45 || t == 46 || t == 47 || t == 48 || t == 49 || t == 50 || t == 51 || t == 52 || t == 53 || t == 54 || t == 55 || t == 56 || t == 57 || t == 58 || t == 59 || t == 60 || t == 61 || t == 62 || t == 63 || t == 64 || t == 65 || t == 66 || t == 67 || t == 68 || t == 69 || t == 70 || t == 71 || t == 72 || t == 73 || t == 74 || t == 75 || t == 76 || t == 77 || t == 78 || t == 79 || t == 80 || t == 81 || t == 82 || t == 83 || t == 84 || t == 85 || t == 86 || t == 87 || t == 88 || t == 89 || t == 90 || t == 91 || t == 92 || t == 93 || t == 94 || t == 95 || t == 96 || t == 97
def tebDie (_ : Nat) : Nat := 99
def tebOwn (_ : Nat) : Bool := false
def tebAl (k : Nat) : Bool := k == 8 || k == 11 || k == 17 || k == 20 || k == 25 || k == 27 || k == 39 || k == 51 || k == 54 || k == 55
def tebF (i N7 c7 b11 b12 g0 g1a c1a g2a c2a g3a c3a g1b c1b g2b c2b g3b c3b : Nat) (x : Int) (vb : Bool) (x0 I Y : List UInt8) (A7 : Option Addr) : Nat → Value → World → Prop
  | 0 => fun v _ => v = .pointer (some ⟨b11, 0, none⟩)
  | 1 => fun v _ => v = .int .i64 ((i : Int) + 1)
  | 2 => fun v _ => v = .pointer (some ⟨b12, 0, none⟩)
  | 3 => fun v _ => v = .int .i64 ((i : Int) + 1)
  | 4 => fun v _ => v = .bool true
  | 5 => fun v _ => v = .bool true
  | 6 => fun v _ => v = .pointer (some ⟨b11, 1, none⟩)
  | 7 => fun v _ => v = .pointer (some ⟨b11, 1, none⟩)
  | 8 => fun v _ => v = .slice (some ⟨g1a, 0, none⟩) 32 c1a
  | 9 => fun v _ => v = .pointer (some ⟨b12, 1, none⟩)
  | 10 => fun v _ => v = .pointer (some ⟨b12, 1, none⟩)
  | 11 => fun v _ => v = .slice (some ⟨g1b, 0, none⟩) 32 c1b
  | 12 => fun v _ => v = .bool true
  | 13 => fun v _ => v = .bool true
  | 14 => fun v _ => v = .bool true
  | 15 => fun v _ => v = .pointer (some ⟨b11, 1, none⟩)
  | 16 => fun v _ => v = .pointer (some ⟨b11, 2, none⟩)
  | 17 => fun v _ => v = .slice (some ⟨g2a, 0, none⟩) 32 c2a
  | 18 => fun v _ => v = .pointer (some ⟨b12, 1, none⟩)
  | 19 => fun v _ => v = .pointer (some ⟨b12, 2, none⟩)
  | 20 => fun v _ => v = .slice (some ⟨g2b, 0, none⟩) 32 c2b
  | 21 => fun v _ => v = .bool true
  | 22 => fun v _ => v = .bool true
  | 23 => fun v _ => v = .bool true
  | 24 => fun v _ => v = .pointer (some ⟨b11, 3, none⟩)
  | 25 => fun v _ => v = .slice (some ⟨g3a, 0, none⟩) 4 c3a
  | 26 => fun v _ => v = .pointer (some ⟨b12, 3, none⟩)
  | 27 => fun v _ => v = .slice (some ⟨g3b, 0, none⟩) 4 c3b
  | 28 => fun v _ => v = .bool true
  | 29 => fun v _ => v = .bool true
  | 30 => fun v _ => v = .bool true
  | 31 => fun v _ => v = (.agg (I.map bv).toArray)
  | 32 => fun v _ => v = (.agg (x0.map bv).toArray)
  | 33 => fun v _ => v = (.agg (I.map bv).toArray)
  | 34 => fun v _ => v = .bool true
  | 35 => fun v _ => v = .bool true
  | 36 => fun v _ => v = .bool true
  | 37 => fun v _ => v = (.agg (I.map bv).toArray)
  | 38 => fun v _ => v = .int .i64 x
  | 39 => fun v _ => v = .slice A7 N7 c7
  | 40 => fun v _ => v = (.agg #[.int .i64 ((i : Int) + 1), .slice (some ⟨g1a, 0, none⟩) 32 c1a, .slice (some ⟨g2a, 0, none⟩) 32 c2a, .slice (some ⟨g3a, 0, none⟩) 4 c3a])
  | 41 => fun v _ => v = .bool vb
  | 42 => fun v _ => v = .int .i64 x
  | 43 => fun v _ => v = .int .i64 ((i : Int) + 1)
  | 44 => fun v _ => v = .bool vb
  | 45 => fun v _ => v = .bool true
  | 46 => fun v _ => v = .bool true
  | 47 => fun v _ => v = .bool true
  | 48 => fun v _ => v = (.agg (x0.map bv).toArray)
  | 49 => fun v _ => v = .int .i64 ((i : Int) + 1)
  | 50 => fun v _ => v = (.agg (Y.map bv).toArray)
  | 51 => fun v _ => v = .slice (some ⟨g0, 0, none⟩) 32 32
  | 52 => fun v _ => v = .int .i64 ((i : Int) + 1)
  | 53 => fun v _ => v = .int .u8 ((UInt8.ofNat (i + 1)).toNat : Int)
  | 54 => fun v w => ∃ b : Nat, v = pv (some ⟨b, 0, none⟩, [UInt8.ofNat (i + 1)], 1) ∧ RdB w (some ⟨b, 0, none⟩) [UInt8.ofNat (i + 1)]
  | 55 => fun v w => ∃ b bb : Nat, v = .slice (some ⟨b, 0, none⟩) 2 2 ∧ RdP w (some ⟨b, 0, none⟩) [(some ⟨g0, 0, none⟩, x0, 32), (some ⟨bb, 0, none⟩, [UInt8.ofNat (i + 1)], 1)]
  | 56 => fun v _ => v = (.agg (Y.map bv).toArray)
  | 57 => fun v _ => v = .bool true
  | 58 => fun v _ => v = .bool true
  | 59 => fun v _ => v = .bool true
  | 60 => fun v _ => v = .bool true
  | 61 => fun v _ => v = .bool true
  | _ => fun _ _ => True
theorem tebF_lasts (i N7 c7 b11 b12 g0 g1a c1a g2a c2a g3a c3a g1b c1b g2b c2b g3b c3b : Nat) (x : Int) (vb : Bool) (x0 I Y : List UInt8) (A7 : Option Addr) : ∀ kq, LastsK tebAl true kq (tebF i N7 c7 b11 b12 g0 g1a c1a g2a c2a g3a c3a g1b c1b g2b c2b g3b c3b x vb x0 I Y A7 kq)
  | 0 => LastsK.val _
  | 1 => LastsK.val _
  | 2 => LastsK.val _
  | 3 => LastsK.val _
  | 4 => LastsK.val _
  | 5 => LastsK.val _
  | 6 => LastsK.val _
  | 7 => LastsK.val _
  | 8 => LastsK.val _
  | 9 => LastsK.val _
  | 10 => LastsK.val _
  | 11 => LastsK.val _
  | 12 => LastsK.val _
  | 13 => LastsK.val _
  | 14 => LastsK.val _
  | 15 => LastsK.val _
  | 16 => LastsK.val _
  | 17 => LastsK.val _
  | 18 => LastsK.val _
  | 19 => LastsK.val _
  | 20 => LastsK.val _
  | 21 => LastsK.val _
  | 22 => LastsK.val _
  | 23 => LastsK.val _
  | 24 => LastsK.val _
  | 25 => LastsK.val _
  | 26 => LastsK.val _
  | 27 => LastsK.val _
  | 28 => LastsK.val _
  | 29 => LastsK.val _
  | 30 => LastsK.val _
  | 31 => LastsK.val _
  | 32 => LastsK.val _
  | 33 => LastsK.val _
  | 34 => LastsK.val _
  | 35 => LastsK.val _
  | 36 => LastsK.val _
  | 37 => LastsK.val _
  | 38 => LastsK.val _
  | 39 => LastsK.val _
  | 40 => LastsK.val _
  | 41 => LastsK.val _
  | 42 => LastsK.val _
  | 43 => LastsK.val _
  | 44 => LastsK.val _
  | 45 => LastsK.val _
  | 46 => LastsK.val _
  | 47 => LastsK.val _
  | 48 => LastsK.val _
  | 49 => LastsK.val _
  | 50 => LastsK.val _
  | 51 => LastsK.val _
  | 52 => LastsK.val _
  | 53 => LastsK.val _
  | 54 => LastsK.calm fun _ _ _ ⟨b, h1, h2⟩ hg => ⟨b, h1, h2.kept hg⟩
  | 55 => LastsK.calm fun _ _ _ ⟨b, bb, h1, h2⟩ hg => ⟨b, bb, h1, h2.kept hg⟩
  | 56 => LastsK.val _
  | 57 => LastsK.val _
  | 58 => LastsK.val _
  | 59 => LastsK.val _
  | 60 => LastsK.val _
  | 61 => LastsK.val _
  | _ + 62 => fun _ _ _ _ _ _ _ _ => trivial

set_option maxRecDepth 100000 in
set_option maxHeartbeats 2000000 in
theorem RingTells_any (x0 : List UInt8) (hx0 : x0.length = 32) (n1 : Int) (A1 : Option Addr) (l1 : List UInt8) (c1 : Nat) (n3 : Int) (W0 : World) (hk : Laid2 W0) (hr1 : RdB W0 A1 l1) (hc1 : l1.length ≤ c1) (hm1 : c1 ≤ maxLen) :
    Calls Tryd.prog 4 #[.agg (x0.map bv).toArray, .int .i64 n1, .slice A1 l1.length c1, .int .i64 n3] W0 fun e w' => e = .returned (.bool true) ∧ W0.grownBy w' none := by
  have hm1' : c1 ≤ 9223372036854775807 := hm1
  obtain ⟨mm, hmin0, hmn, hm60⟩ := min_some l1.length 40
  have hmin : (if (40 : Int) < (l1.length : Int) then (40 : Int) else (l1.length : Int)) = (mm : Int) := hmin0
  clear hmin0
  obtain ⟨L, hL⟩ : ∃ L, L = l1.take mm := ⟨_, rfl⟩
  have hLl : Hid (L.length = mm) := by show _ = _; rw [hL, List.length_take]; omega
  have hrL : RdB W0 A1 L := by rw [hL]; exact rd_takeB hr1 mm
  have hLb : L.length ≤ 1000 := by rw [hLl.out]; omega
  clear hL
  have hS := Lib.hid hx0
  clear hx0
  obtain ⟨i, hi, hWi⟩ : ∃ i : Nat, i < 16 ∧ ∀ w, Calls Tryd.prog 11 #[.int .i64 n1, .int .i64 1, .int .i64 16] w fun e w' => e = .returned (.int .i64 ((i : Int) + 1)) ∧ w = w' := by
    have hb := within_le (n := n1) (lo := 1) (hi := 16) (by omega)
    refine ⟨(within n1 1 16 - 1).toNat, by omega, fun w => ?_⟩
    rw [show ((within n1 1 16 - 1).toNat : Int) + 1 = within n1 1 16 by omega]
    exact Within_any n1 1 16 w (by omega) (by omega) (by omega)
  obtain ⟨x, hx1, hx2, hWx⟩ := Within_m1 n3 18 (by omega) (by omega)
  go_enter Tryd.func4, Tryd.ntmps4
  go_upto_region 1 with (fail)
  have hseed1 : (W0.alloc (.cells (x0.map bv).toArray 23)).heap[W0.heap.size]? = some (.cells (x0.map bv).toArray 23 (0, 0)) := alloc_at rfl
  have hg1 : W0.grownBy (W0.alloc (.cells (x0.map bv).toArray 23)) none := grown_alloc (grown_refl _ _) _
  generalize W0.alloc (.cells (x0.map bv).toArray 23) = W1 at hseed1 hg1 ⊢
  replace hrL := hrL.kept hg1
  have hk1 := hk.kept hg1
  have hid := fun w' (h : Laid2 w') => Ident_any x0 hS.out w' h
  have hrid := fun w' => RIdent_any x0 hS.out w'
  obtain ⟨I, hI⟩ : ∃ I, I = identR x0 := ⟨_, rfl⟩
  have hIl : Hid (I.length = 32) := by rw [hI]; exact identR_len x0
  rw [← hI] at hid hrid
  replace hI := Lib.hid hI
  go_upto_region 3 with (first
    | (go_at_call 11; refine (hWi _).mono ?_; clear hWi; rintro e w5 ⟨rfl, h5w⟩; obtain rfl : W1 = w5 := h5w)
    | (at_builtin; refine wpList_appB _ rfl _ _ rfl rfl (ownB_new W1 #[] [] 0 rfl rfl (Nat.zero_le _)) (news := L) rfl hLl.out.symm (hrL.alloc _) (by simp; omega) ?_; intro v1 W2 ho1 hgr1; have hL1 : OwnB W2 v1 L := ho1; have hG1 := Grew.fresh hgr1; obtain ⟨A7, c7, rfl, hc7, hm7, hr7⟩ := hL1.slice; clear ho1 hgr1; have hsd := keep_of hseed1 hG1.nil))
  have hgW : W0.grownBy W2 none := grown_same hg1 hG1.nil
  have hb := hsd
  replace hk := hk.kept hgW
  have hsg1 := fun w' (h : W2.grownBy w' none) => Sign_to x0 hS.out i hi A7 L c7 w' (hk.kept h) (hr7.kept h) hLb
  have hsg2 := fun w' (h : W2.grownBy w' none) => RSealed_to x0 hS.out i hi A7 L c7 w' (hr7.kept h) hLb
  clear hsd hG1 hL1 hrL hr1 hmin hseed1
  generalize hWW : W2 = W at *
  clear hWW
  generalize hN7 : L.length = N7 at hsg1 hsg2 ⊢
  replace hN7 := Lib.hid hN7
  refine wp_region_gb (al := teaAl) 12 (N := 98) (S := teaS) (die := teaDie) (own := teaOwn) (F := teaF i W.heap.size N7 c7 x0 L A7) (by kernel_rfl) (Nat.le_of_ble_eq_true (by kernel_rfl)) (fun h => absurd (show 12 < 12 from h) (Nat.lt_irrefl _)) (fun h => absurd (show 12 < 12 from h) (Nat.lt_irrefl _)) (by kernel_rfl) (by kernel_rfl) (Nat.le_of_ble_eq_true (by kernel_rfl)) (teaF_lasts i W.heap.size N7 c7 x0 L A7) ?_ ?_
  · intro i o L' a w K hi ho hg hLi hout hpre houter hitem h1 h2 h3
    have hcases : i = 0 ∨ i = 1 ∨ i = 2 ∨ i = 3 ∨ i = 4 ∨ i = 5 ∨ i = 6 ∨ i = 7 ∨ i = 8 ∨ i = 9 ∨ i = 10 ∨ i = 11 := by omega
    rcases hcases with rfl | rfl | rfl | rfl | rfl | rfl | rfl | rfl | rfl | rfl | rfl | rfl
    · cases (show some _ = some o from ho)
      exact ⟨rfl, wp_load_row 23 _ rfl _ (houter _ rfl) _ (x0.map bv).toArray (0, 0) _ (keep_of hb hg) Tryd.underlying23 rfl (hashV_size _ (hS.out)) (h1 ⟨_, rfl⟩ _ _ (grown_refl _ none) rfl (nobl (blocks_bytes _)) (FreshB.none (blocks_bytes _)))⟩
    · cases (show some _ = some o from ho)
      exact ⟨rfl, wp_move rfl (h1 ⟨_, rfl⟩ _ _ (grown_refl _ none) (houter _ rfl) (by rw [houter _ rfl]; exact nobl rfl) (by rw [houter _ rfl]; exact FreshB.none rfl))⟩
    · cases (show some _ = some o from ho)
      exact ⟨rfl, wp_move rfl (h1 ⟨_, rfl⟩ _ _ (grown_refl _ none) (houter _ rfl) (by rw [houter _ rfl]; exact nobl rfl) (by rw [houter _ rfl]; exact FreshB.none rfl))⟩
    · cases (show some _ = some o from ho)
      have x24 : a.eval (.tmp 24) = (.agg (x0.map bv).toArray) := hitem 0 (by decide) ⟨hpre 0 rfl, hout _ (by decide)⟩
      have x25 : a.eval (.tmp 25) = .int .i64 ((i : Int) + 1) := hitem 1 (by decide) ⟨hpre 1 rfl, hout _ (by decide)⟩
      have x26 : a.eval (.tmp 26) = .slice A7 N7 c7 := hitem 2 (by decide) ⟨hpre 2 rfl, hout _ (by decide)⟩
      refine ⟨rfl, wp_call rfl Tryd.func8 (by kernel_rfl) (by kernel_rfl) (args := #[(.agg (x0.map bv).toArray), .int .i64 ((i : Int) + 1), .slice A7 N7 c7]) (by simp [x24, x25, x26]) ((hsg1 w hg).mono ?_)⟩
      rintro e w' ⟨v, rfl, hf', hg', hn', ht'⟩
      exact ⟨_, rfl, h1 ⟨_, rfl⟩ _ _ hg' (hf'.from hg.size) ht' (FreshB.new hn')⟩
    · cases (show some _ = some o from ho)
      exact ⟨rfl, wp_load_row 23 _ rfl _ (houter _ rfl) _ (x0.map bv).toArray (0, 0) _ (keep_of hb hg) Tryd.underlying23 rfl (hashV_size _ (hS.out)) (h1 ⟨_, rfl⟩ _ _ (grown_refl _ none) rfl (nobl (blocks_bytes _)) (FreshB.none (blocks_bytes _)))⟩
    · cases (show some _ = some o from ho)
      exact ⟨rfl, wp_move rfl (h1 ⟨_, rfl⟩ _ _ (grown_refl _ none) (houter _ rfl) (by rw [houter _ rfl]; exact nobl rfl) (by rw [houter _ rfl]; exact FreshB.none rfl))⟩
    · cases (show some _ = some o from ho)
      exact ⟨rfl, wp_move rfl (h1 ⟨_, rfl⟩ _ _ (grown_refl _ none) (houter _ rfl) (by rw [houter _ rfl]; exact nobl rfl) (by rw [houter _ rfl]; exact FreshB.none rfl))⟩
    · cases (show some _ = some o from ho)
      have x28 : a.eval (.tmp 28) = (.agg (x0.map bv).toArray) := hitem 4 (by decide) ⟨hpre 4 rfl, hout _ (by decide)⟩
      have x29 : a.eval (.tmp 29) = .int .i64 ((i : Int) + 1) := hitem 5 (by decide) ⟨hpre 5 rfl, hout _ (by decide)⟩
      have x30 : a.eval (.tmp 30) = .slice A7 N7 c7 := hitem 6 (by decide) ⟨hpre 6 rfl, hout _ (by decide)⟩
      refine ⟨rfl, wp_call rfl Tryd.func12 (by kernel_rfl) (by kernel_rfl) (args := #[(.agg (x0.map bv).toArray), .int .i64 ((i : Int) + 1), .slice A7 N7 c7]) (by simp [x28, x29, x30]) ((hsg2 w hg).mono ?_)⟩
      rintro e w' ⟨v, rfl, hf', hg', hn', ht'⟩
      exact ⟨_, rfl, h1 ⟨_, rfl⟩ _ _ hg' (hf'.from hg.size) ht' (FreshB.new hn')⟩
    · cases (show some _ = some o from ho)
      exact ⟨rfl, wp_alloc rfl (alloc_S _) (h1 ⟨_, rfl⟩ _ _ (grown_alloc (grown_refl _ _) _) ⟨_, rfl, heap_alloc_new _ _⟩ (new_lt _ _) (FreshB.new (new_ge _)))⟩
    · cases (show some _ = some o from ho)
      exact ⟨rfl, wp_alloc rfl (alloc_S _) (h1 ⟨_, rfl⟩ _ _ (grown_alloc (grown_refl _ _) _) ⟨_, rfl, heap_alloc_new _ _⟩ (new_lt _ _) (FreshB.new (new_ge _)))⟩
    · cases (show some _ = some o from ho)
      obtain ⟨b, e1, hb⟩ := hitem 8 (by decide) ⟨hpre 8 rfl, hLi⟩
      obtain ⟨C, e2, hc4, hcA⟩ := SigV.cells (hitem 3 (by decide) ⟨hpre 3 rfl, hout _ (by decide)⟩)
      replace e2 : a.eval (.tmp 27) = _ := e2
      exact ⟨rfl, wp_store_row 28 _ _ rfl b _ e1 e2 28 _ hb (by rw [hc4]; exact size_sig) (by rw [hc4]; rfl) hcA (h3 rfl 8 _ _ (some b) (by decide) ⟨hpre 8 rfl, hLi⟩ rfl rfl (grown_setRow (grown_refl _ _) (.inl rfl) _) (fun g e => by cases e; rw [show valB _ a 8 = _ from e1]; exact List.mem_singleton.2 rfl) ⟨b, _, (by rw [show valB _ a 10 = .tuple #[a.eval (.tmp 11), a.eval (.tmp 27)] from rfl, show a.eval (.tmp 11) = _ from e1, e2]), setRow_heap _ _ _ _ _ _ hb⟩ (fun g h => by rw [show valB _ a 10 = .tuple #[a.eval (.tmp 11), a.eval (.tmp 27)] from rfl, show a.eval (.tmp 11) = _ from e1] at h; rw [show valB _ a 8 = _ from e1]; exact h))⟩
    · cases (show some _ = some o from ho)
      obtain ⟨b, e1, hb⟩ := hitem 9 (by decide) ⟨hpre 9 rfl, hLi⟩
      obtain ⟨C, e2, hc4, hcA⟩ := SigV.cells (hitem 7 (by decide) ⟨hpre 7 rfl, hout _ (by decide)⟩)
      replace e2 : a.eval (.tmp 31) = _ := e2
      exact ⟨rfl, wp_store_row 28 _ _ rfl b _ e1 e2 28 _ hb (by rw [hc4]; exact size_sig) (by rw [hc4]; rfl) hcA (h3 rfl 9 _ _ (some b) (by decide) ⟨hpre 9 rfl, hLi⟩ rfl rfl (grown_setRow (grown_refl _ _) (.inl rfl) _) (fun g e => by cases e; rw [show valB _ a 9 = _ from e1]; exact List.mem_singleton.2 rfl) ⟨b, _, (by rw [show valB _ a 11 = .tuple #[a.eval (.tmp 12), a.eval (.tmp 31)] from rfl, show a.eval (.tmp 12) = _ from e1, e2]), setRow_heap _ _ _ _ _ _ hb⟩ (fun g h => by rw [show valB _ a 11 = .tuple #[a.eval (.tmp 12), a.eval (.tmp 31)] from rfl, show a.eval (.tmp 12) = _ from e1] at h; rw [show valB _ a 9 = _ from e1]; exact h))⟩
  · intro a wT hgT hend hap ha
    obtain ⟨f, hf⟩ : ∃ f : Nat → Value, f = fun t => a.tmps.getD t undef := ⟨_, rfl⟩
    obtain ⟨g1a, c1a, g2a, c2a, g3a, c3a, q27, sa⟩ := (hend 3 (by decide) (by decide)).1
    have s27 := (congrFun hf 27).trans q27
    obtain ⟨g1b, c1b, g2b, c2b, g3b, c3b, q31, sb⟩ := (hend 7 (by decide) (by decide)).1
    have s31 := (congrFun hf 31).trans q31
    obtain ⟨⟨b11, C11, q11, hh11⟩, fr11⟩ := hend 10 (by decide) (by decide)
    have f11 : W.heap.size ≤ b11 := fr11 rfl b11 (by rw [q11]; exact List.mem_singleton.2 rfl)
    have p11 := tuple_two (show Value.tuple #[_, _] = _ from q11)
    have s11 := (congrFun hf 11).trans p11.1
    have v11 : f 27 = .agg C11 := (congrFun hf 27).trans p11.2
    obtain rfl := Value.agg.inj (v11.symm.trans s27)
    clear v11
    obtain ⟨⟨b12, C12, q12, hh12⟩, fr12⟩ := hend 11 (by decide) (by decide)
    have f12 : W.heap.size ≤ b12 := fr12 rfl b12 (by rw [q12]; exact List.mem_singleton.2 rfl)
    have p12 := tuple_two (show Value.tuple #[_, _] = _ from q12)
    have s12 := (congrFun hf 12).trans p12.1
    have v12 : f 31 = .agg C12 := (congrFun hf 31).trans p12.2
    obtain rfl := Value.agg.inj (v12.symm.trans s31)
    clear v12
    have n11_12 : b11 ≠ b12 := fun e => hap 10 11 (by decide) (by decide) (by decide) (by decide) (by decide) rfl b12 (by rw [q12]; exact List.mem_singleton.2 rfl) (by rw [q11, e]; exact List.mem_singleton.2 rfl)
    rw [← hf] at ha
    clear hend hap
    clear hf
    clear q27 q31 q11 p11 fr11 q12 p12 fr12
    subst ha
    simp only [fill, teaS, Nat.reduceAdd, Nat.reduceBEq, Bool.or_false, Bool.or_true, cond_true, cond_false, List.drop_succ_cons, List.drop_zero, s27, s31, s11, s12]
    clear s27 s31 s11 s12
    have hgT0 : W0.grownBy wT none := grown_same hgW hgT
    have hbT := keep_of hb hgT
    replace hk := hk.kept hgT
    have hrT := hr7.kept hgT
    clear hgT hb hr7 hsg1 hsg2
    go_upto_region 6 with (first
        | (refine wpList_load_row rfl 23 _ rfl (W0.heap.size) rfl _ (x0.map bv).toArray (0, 0) _ (hbT) Tryd.underlying23 rfl (hashV_size _ hS.out) ?_)
        | (go_at_call 9; refine (hid _ hk).mono ?_; clear hid; rintro e w6 ⟨rfl, hg6⟩)
        | (refine wpList_store_row rfl 23 _ _ rfl (w6.heap.size) (I.map bv).toArray rfl rfl 23 _ (alloc_at rfl) (hashV_size _ hIl.out) (by rw [show (I.map bv).toArray.size = 32 from by rw [List.size_toArray, List.length_map, hIl.out]]; rfl) (bv_all' _) ?_; generalize hW7 : World.setRow _ _ _ = W7; have HW7 := new_hash hW7; clear hW7)
        | (go_at_call 11; refine (hWx _).mono ?_; clear hWx; rintro e w5 ⟨rfl, h5w⟩; obtain rfl : W7 = w5 := h5w))
    have gT7 : wT.grownBy W7 none := grown_same hg6 HW7.2
    have hI7 := HW7.1
    have hb7 := keep_of hbT gT7
    have hA7 := keep_of hh11 gT7
    have hB7 := keep_of hh12 gT7
    have hg7 := grown_same hgT0 gT7
    replace hk := hk.kept gT7
    replace hrT := hrT.kept gT7
    obtain ⟨-, -, -, -, a5, -, r1, r2, r3, -⟩ := sa
    obtain ⟨-, -, -, -, b5, -, s1, s2, s3, -⟩ := sb
    replace r1 := r1.kept gT7
    replace r2 := r2.kept gT7
    replace r3 := r3.kept gT7
    replace s1 := s1.kept gT7
    replace s2 := s2.kept gT7
    replace s3 := s3.kept gT7
    have hs1 := fun w' (h : W7.grownBy w' none) => SameH_any g1a c1a g1b c1b _ (openF_len (seedR x0 (i + 1)) L) w' (r1.kept h) (s1.kept h)
    have hs2 := fun w' (h : W7.grownBy w' none) => SameH_any g2a c2a g2b c2b _ (shutF_len (seedR x0 (i + 1)) L) w' (r2.kept h) (s2.kept h)
    have hs3 := fun w' (h : W7.grownBy w' none) => SameP_any (some ⟨g3a, 0, none⟩) (some ⟨g3b, 0, none⟩) 4 c3a c3b (pathR x0 i) (by omega) (pathR_len x0 i hi) w' (r3.kept h) (s3.kept h) (fun _ => ⟨_, rfl⟩) (fun _ => ⟨_, rfl⟩)
    have hok : verR I L (openF (seedR x0 (i + 1)) L) (shutF (seedR x0 (i + 1)) L) i (pathR x0 i) 4 = true := by
      rw [verR, whoF_sign, up_ident x0 i hi, hI.out]; simp
    obtain ⟨vb, hv⟩ : ∃ v, v = decide (x = (i : Int) + 1) := ⟨_, rfl⟩
    have hvX : ∀ w', W7.grownBy w' none → Calls Tryd.prog 10 #[.agg (I.map bv).toArray, .int .i64 x, .slice A7 N7 c7, .agg #[.int .i64 ((i : Int) + 1), .slice (some ⟨g1a, 0, none⟩) 32 c1a, .slice (some ⟨g2a, 0, none⟩) 32 c2a, .slice (some ⟨g3a, 0, none⟩) 4 c3a]] w' fun e w'' => e = .returned (.bool vb) ∧ w'.grownBy w'' none := fun w' hg => by
      by_cases hxi : x = (i : Int) + 1
      · have h := Verify_in I hIl.out i hi A7 L c7 g1a c1a g2a c2a _ _ (openF_len (seedR x0 (i + 1)) L) (shutF_len (seedR x0 (i + 1)) L) g3a 0 4 c3a (pathR x0 i) (pathR_len x0 i hi) a5 (fun _ => rfl) w' (hk.kept hg) (hrT.kept hg) hLb (r1.kept hg) (r2.kept hg) (r3.kept hg)
        rw [hok, hN7.out, show ((i + 1 : Nat) : Int) = (i : Int) + 1 by omega, ← hxi] at h
        rw [hv, decide_eq_true hxi, ← hxi]
        exact h
      · have h := Verify_no I x ((i : Int) + 1) (.inr (.inr fun e => hxi e.symm)) A7 N7 c7 (.slice (some ⟨g1a, 0, none⟩) 32 c1a) (.slice (some ⟨g2a, 0, none⟩) 32 c2a) (.slice (some ⟨g3a, 0, none⟩) 4 c3a) w'
        rw [hv, decide_eq_false hxi]
        exact h
    have hxe : ∀ w', (binOp .eql 3 (.int .i64 x) (.int .i64 ((i : Int) + 1))).run Tryd.prog w' = .ok (.bool vb) w' := fun w' => by rw [hv]; exact eql_i _ _ w'
    obtain ⟨Y, hY⟩ : ∃ Y, Y = seedR x0 (i + 1) := ⟨_, rfl⟩
    have hYl : Hid (Y.length = 32) := by rw [hY]; exact seedR_len _ _
    have hYt : Hid (tagL 114 (x0 ++ [UInt8.ofNat (i + 1)]) = Y) := by show _ = _; rw [hY]; rfl
    have hsd : ∀ w', W7.grownBy w' none → Calls Tryd.prog 15 #[.agg (x0.map bv).toArray, .int .i64 ((i : Int) + 1)] w' fun e w'' => e = .returned (.agg (Y.map bv).toArray) ∧ w'.grownBy w'' none := fun w' hg => by
      have h := Seed_any x0 hS.out (i + 1) (by omega) w' (hk.kept hg)
      rw [show ((i + 1 : Nat) : Int) = (i : Int) + 1 by omega, ← hY] at h
      exact h
    have hi16 := hi
    clear hY hv hok HW7 hg6 hbT hh11 hh12 gT7 hgT0 r1 r2 r3 s1 s2 s3 hrT
    generalize w6.heap.size = b13 at hI7 ⊢
    refine wp_region_gt (R := none) (i1 := 999) (q := true) (al := tebAl) 62 (N := 98) (S := tebS) (die := tebDie) (own := tebOwn) (F := tebF i N7 c7 b11 b12 W0.heap.size g1a c1a g2a c2a g3a c3a g1b c1b g2b c2b g3b c3b x vb x0 I Y A7) (by kernel_rfl) (Nat.le_of_ble_eq_true (by kernel_rfl)) (by kernel_rfl) (by kernel_rfl) (by kernel_rfl) (by kernel_rfl) (Nat.le_of_ble_eq_true (by kernel_rfl)) (fun g e => by cases e) (tebF_lasts i N7 c7 b11 b12 W0.heap.size g1a c1a g2a c2a g3a c3a g1b c1b g2b c2b g3b c3b x vb x0 I Y A7) ?_ ?_
    · intro i o L' a w K hi ho hg hgN hLi hout hpre houter hitem h1 h2
      have hcases : i = 0 ∨ i = 1 ∨ i = 2 ∨ i = 3 ∨ i = 4 ∨ i = 5 ∨ i = 6 ∨ i = 7 ∨ i = 8 ∨ i = 9 ∨ i = 10 ∨ i = 11 ∨ i = 12 ∨ i = 13 ∨ i = 14 ∨ i = 15 ∨ i = 16 ∨ i = 17 ∨ i = 18 ∨ i = 19 ∨ i = 20 ∨ i = 21 ∨ i = 22 ∨ i = 23 ∨ i = 24 ∨ i = 25 ∨ i = 26 ∨ i = 27 ∨ i = 28 ∨ i = 29 ∨ i = 30 ∨ i = 31 ∨ i = 32 ∨ i = 33 ∨ i = 34 ∨ i = 35 ∨ i = 36 ∨ i = 37 ∨ i = 38 ∨ i = 39 ∨ i = 40 ∨ i = 41 ∨ i = 42 ∨ i = 43 ∨ i = 44 ∨ i = 45 ∨ i = 46 ∨ i = 47 ∨ i = 48 ∨ i = 49 ∨ i = 50 ∨ i = 51 ∨ i = 52 ∨ i = 53 ∨ i = 54 ∨ i = 55 ∨ i = 56 ∨ i = 57 ∨ i = 58 ∨ i = 59 ∨ i = 60 ∨ i = 61 := by omega
      rcases hcases with rfl | rfl | rfl | rfl | rfl | rfl | rfl | rfl | rfl | rfl | rfl | rfl | rfl | rfl | rfl | rfl | rfl | rfl | rfl | rfl | rfl | rfl | rfl | rfl | rfl | rfl | rfl | rfl | rfl | rfl | rfl | rfl | rfl | rfl | rfl | rfl | rfl | rfl | rfl | rfl | rfl | rfl | rfl | rfl | rfl | rfl | rfl | rfl | rfl | rfl | rfl | rfl | rfl | rfl | rfl | rfl | rfl | rfl | rfl | rfl | rfl | rfl
      · cases (show some _ = some o from ho)
        exact ⟨rfl, wp_field rfl (houter 11 rfl) (field_S0p _) (h1 _ _ (grown_refl _ none) rfl (nob rfl) (.inl rfl))⟩
      · cases (show some _ = some o from ho)
        exact ⟨rfl, wp_loadC rfl (hitem 0 (by decide) ⟨hpre 0 rfl, hout _ (by decide)⟩) (load_cell (cell_at0 (keep_of hA7 hg)) Tryd.underlying3 rfl) (h1 _ _ (grown_refl _ none) rfl (nob rfl) (.inl rfl))⟩
      · cases (show some _ = some o from ho)
        exact ⟨rfl, wp_field rfl (houter 12 rfl) (field_S0p _) (h1 _ _ (grown_refl _ none) rfl (nob rfl) (.inl rfl))⟩
      · cases (show some _ = some o from ho)
        exact ⟨rfl, wp_loadC rfl (hitem 2 (by decide) ⟨hpre 2 rfl, hout _ (by decide)⟩) (load_cell (cell_at0 (keep_of hB7 hg)) Tryd.underlying3 rfl) (h1 _ _ (grown_refl _ none) rfl (nob rfl) (.inl rfl))⟩
      · cases (show some _ = some o from ho)
        exact ⟨rfl, wp_bin rfl (hitem 1 (by decide) ⟨hpre 1 rfl, hout _ (by decide)⟩) (hitem 3 (by decide) ⟨hpre 3 rfl, hout _ (by decide)⟩) (guard_int _ _ _ _ _) (eql_i64 _ _ _ (rfl)) (h1 _ _ (grown_refl _ none) rfl (nob rfl) (.inl rfl))⟩
      · cases (show some _ = some o from ho)
        have hx := hitem 4 (by decide) ⟨hpre 4 rfl, hout _ (by decide)⟩
        exact ⟨rfl, wp_move rfl (h1 _ _ (grown_refl _ none) hx (by rw [show a.eval (.tmp 40) = .bool true from hx]; exact nob rfl) (by rw [show a.eval (.tmp 40) = .bool true from hx]; exact .inl rfl))⟩
      · cases (show some _ = some o from ho)
        exact ⟨wanted_of (j := 5) rfl rfl (hitem 5 (by decide) ⟨hpre 5 rfl, hout _ (by decide)⟩), wp_field rfl (houter 11 rfl) (field_S1 _) (h1 _ _ (grown_refl _ none) rfl (nob rfl) (.inl rfl))⟩
      · cases (show some _ = some o from ho)
        exact ⟨wanted_of (j := 5) rfl rfl (hitem 5 (by decide) ⟨hpre 5 rfl, hout _ (by decide)⟩), wp_field rfl (hitem 6 (by decide) ⟨hpre 6 rfl, hout _ (by decide)⟩) (field_P0 _) (h1 _ _ (grown_refl _ none) rfl (nob rfl) (.inl rfl))⟩
      · cases (show some _ = some o from ho)
        exact ⟨wanted_of (j := 5) rfl rfl (hitem 5 (by decide) ⟨hpre 5 rfl, hout _ (by decide)⟩), wp_loadC rfl (hitem 7 (by decide) ⟨hpre 7 rfl, hout _ (by decide)⟩) (load_cell (cell_at1 (keep_of hA7 hg)) Tryd.underlying24 rfl) (h1 _ _ (grown_refl _ none) rfl (fun g e => by cases (show (none : Option Nat) = some g from e)) (.inl rfl))⟩
      · cases (show some _ = some o from ho)
        exact ⟨wanted_of (j := 5) rfl rfl (hitem 5 (by decide) ⟨hpre 5 rfl, hout _ (by decide)⟩), wp_field rfl (houter 12 rfl) (field_S1 _) (h1 _ _ (grown_refl _ none) rfl (nob rfl) (.inl rfl))⟩
      · cases (show some _ = some o from ho)
        exact ⟨wanted_of (j := 5) rfl rfl (hitem 5 (by decide) ⟨hpre 5 rfl, hout _ (by decide)⟩), wp_field rfl (hitem 9 (by decide) ⟨hpre 9 rfl, hout _ (by decide)⟩) (field_P0 _) (h1 _ _ (grown_refl _ none) rfl (nob rfl) (.inl rfl))⟩
      · cases (show some _ = some o from ho)
        exact ⟨wanted_of (j := 5) rfl rfl (hitem 5 (by decide) ⟨hpre 5 rfl, hout _ (by decide)⟩), wp_loadC rfl (hitem 10 (by decide) ⟨hpre 10 rfl, hout _ (by decide)⟩) (load_cell (cell_at1 (keep_of hB7 hg)) Tryd.underlying24 rfl) (h1 _ _ (grown_refl _ none) rfl (fun g e => by cases (show (none : Option Nat) = some g from e)) (.inl rfl))⟩
      · cases (show some _ = some o from ho)
        have x44 : a.eval (.tmp 44) = .slice (some ⟨g1a, 0, none⟩) 32 c1a := hitem 8 (by decide) ⟨hpre 8 rfl, hout _ (by decide)⟩
        have x47 : a.eval (.tmp 47) = .slice (some ⟨g1b, 0, none⟩) 32 c1b := hitem 11 (by decide) ⟨hpre 11 rfl, hout _ (by decide)⟩
        refine ⟨wanted_of (j := 5) rfl rfl (hitem 5 (by decide) ⟨hpre 5 rfl, hout _ (by decide)⟩), wp_call rfl Tryd.func13 (by kernel_rfl) (by kernel_rfl) (args := #[.slice (some ⟨g1a, 0, none⟩) 32 c1a, .slice (some ⟨g1b, 0, none⟩) 32 c1b]) (by simp [x44, x47]) ((hs1 w hg).mono ?_)⟩
        rintro e w' ⟨rfl, hg'⟩
        exact ⟨_, rfl, h1 _ _ hg' rfl (nob rfl) (.inl rfl)⟩
      · cases (show some _ = some o from ho)
        have hc := hitem 5 (by decide) ⟨hpre 5 rfl, hout _ (by decide)⟩
        have hx := hitem 12 (by decide) ⟨hpre 12 rfl, hout _ (by decide)⟩
        exact ⟨rfl, wp_pick rfl hc (h1 _ _ (grown_refl _ none) hx (by rw [show a.eval (.tmp 48) = .bool true from hx]; exact nob rfl) (by rw [show a.eval (.tmp 48) = .bool true from hx]; exact .inl rfl))⟩
      · cases (show some _ = some o from ho)
        have hx := hitem 13 (by decide) ⟨hpre 13 rfl, hout _ (by decide)⟩
        exact ⟨rfl, wp_move rfl (h1 _ _ (grown_refl _ none) hx (by rw [show a.eval (.tmp 49) = .bool true from hx]; exact nob rfl) (by rw [show a.eval (.tmp 49) = .bool true from hx]; exact .inl rfl))⟩
      · cases (show some _ = some o from ho)
        exact ⟨wanted_of (j := 14) rfl rfl (hitem 14 (by decide) ⟨hpre 14 rfl, hout _ (by decide)⟩), wp_field rfl (houter 11 rfl) (field_S1 _) (h1 _ _ (grown_refl _ none) rfl (nob rfl) (.inl rfl))⟩
      · cases (show some _ = some o from ho)
        exact ⟨wanted_of (j := 14) rfl rfl (hitem 14 (by decide) ⟨hpre 14 rfl, hout _ (by decide)⟩), wp_field rfl (hitem 15 (by decide) ⟨hpre 15 rfl, hout _ (by decide)⟩) (field_P1 _) (h1 _ _ (grown_refl _ none) rfl (nob rfl) (.inl rfl))⟩
      · cases (show some _ = some o from ho)
        exact ⟨wanted_of (j := 14) rfl rfl (hitem 14 (by decide) ⟨hpre 14 rfl, hout _ (by decide)⟩), wp_loadC rfl (hitem 16 (by decide) ⟨hpre 16 rfl, hout _ (by decide)⟩) (load_cell (cell_at2 (keep_of hA7 hg)) Tryd.underlying24 rfl) (h1 _ _ (grown_refl _ none) rfl (fun g e => by cases (show (none : Option Nat) = some g from e)) (.inl rfl))⟩
      · cases (show some _ = some o from ho)
        exact ⟨wanted_of (j := 14) rfl rfl (hitem 14 (by decide) ⟨hpre 14 rfl, hout _ (by decide)⟩), wp_field rfl (houter 12 rfl) (field_S1 _) (h1 _ _ (grown_refl _ none) rfl (nob rfl) (.inl rfl))⟩
      · cases (show some _ = some o from ho)
        exact ⟨wanted_of (j := 14) rfl rfl (hitem 14 (by decide) ⟨hpre 14 rfl, hout _ (by decide)⟩), wp_field rfl (hitem 18 (by decide) ⟨hpre 18 rfl, hout _ (by decide)⟩) (field_P1 _) (h1 _ _ (grown_refl _ none) rfl (nob rfl) (.inl rfl))⟩
      · cases (show some _ = some o from ho)
        exact ⟨wanted_of (j := 14) rfl rfl (hitem 14 (by decide) ⟨hpre 14 rfl, hout _ (by decide)⟩), wp_loadC rfl (hitem 19 (by decide) ⟨hpre 19 rfl, hout _ (by decide)⟩) (load_cell (cell_at2 (keep_of hB7 hg)) Tryd.underlying24 rfl) (h1 _ _ (grown_refl _ none) rfl (fun g e => by cases (show (none : Option Nat) = some g from e)) (.inl rfl))⟩
      · cases (show some _ = some o from ho)
        have x53 : a.eval (.tmp 53) = .slice (some ⟨g2a, 0, none⟩) 32 c2a := hitem 17 (by decide) ⟨hpre 17 rfl, hout _ (by decide)⟩
        have x56 : a.eval (.tmp 56) = .slice (some ⟨g2b, 0, none⟩) 32 c2b := hitem 20 (by decide) ⟨hpre 20 rfl, hout _ (by decide)⟩
        refine ⟨wanted_of (j := 14) rfl rfl (hitem 14 (by decide) ⟨hpre 14 rfl, hout _ (by decide)⟩), wp_call rfl Tryd.func13 (by kernel_rfl) (by kernel_rfl) (args := #[.slice (some ⟨g2a, 0, none⟩) 32 c2a, .slice (some ⟨g2b, 0, none⟩) 32 c2b]) (by simp [x53, x56]) ((hs2 w hg).mono ?_)⟩
        rintro e w' ⟨rfl, hg'⟩
        exact ⟨_, rfl, h1 _ _ hg' rfl (nob rfl) (.inl rfl)⟩
      · cases (show some _ = some o from ho)
        have hc := hitem 14 (by decide) ⟨hpre 14 rfl, hout _ (by decide)⟩
        have hx := hitem 21 (by decide) ⟨hpre 21 rfl, hout _ (by decide)⟩
        exact ⟨rfl, wp_pick rfl hc (h1 _ _ (grown_refl _ none) hx (by rw [show a.eval (.tmp 57) = .bool true from hx]; exact nob rfl) (by rw [show a.eval (.tmp 57) = .bool true from hx]; exact .inl rfl))⟩
      · cases (show some _ = some o from ho)
        have hx := hitem 22 (by decide) ⟨hpre 22 rfl, hout _ (by decide)⟩
        exact ⟨rfl, wp_move rfl (h1 _ _ (grown_refl _ none) hx (by rw [show a.eval (.tmp 58) = .bool true from hx]; exact nob rfl) (by rw [show a.eval (.tmp 58) = .bool true from hx]; exact .inl rfl))⟩
      · cases (show some _ = some o from ho)
        exact ⟨wanted_of (j := 23) rfl rfl (hitem 23 (by decide) ⟨hpre 23 rfl, hout _ (by decide)⟩), wp_field rfl (houter 11 rfl) (field_S2 _) (h1 _ _ (grown_refl _ none) rfl (nob rfl) (.inl rfl))⟩
      · cases (show some _ = some o from ho)
        exact ⟨wanted_of (j := 23) rfl rfl (hitem 23 (by decide) ⟨hpre 23 rfl, hout _ (by decide)⟩), wp_loadC rfl (hitem 24 (by decide) ⟨hpre 24 rfl, hout _ (by decide)⟩) (load_cell (cell_at3 (keep_of hA7 hg)) Tryd.underlying24 rfl) (h1 _ _ (grown_refl _ none) rfl (fun g e => by cases (show (none : Option Nat) = some g from e)) (.inl rfl))⟩
      · cases (show some _ = some o from ho)
        exact ⟨wanted_of (j := 23) rfl rfl (hitem 23 (by decide) ⟨hpre 23 rfl, hout _ (by decide)⟩), wp_field rfl (houter 12 rfl) (field_S2 _) (h1 _ _ (grown_refl _ none) rfl (nob rfl) (.inl rfl))⟩
      · cases (show some _ = some o from ho)
        exact ⟨wanted_of (j := 23) rfl rfl (hitem 23 (by decide) ⟨hpre 23 rfl, hout _ (by decide)⟩), wp_loadC rfl (hitem 26 (by decide) ⟨hpre 26 rfl, hout _ (by decide)⟩) (load_cell (cell_at3 (keep_of hB7 hg)) Tryd.underlying24 rfl) (h1 _ _ (grown_refl _ none) rfl (fun g e => by cases (show (none : Option Nat) = some g from e)) (.inl rfl))⟩
      · cases (show some _ = some o from ho)
        have x61 : a.eval (.tmp 61) = .slice (some ⟨g3a, 0, none⟩) 4 c3a := hitem 25 (by decide) ⟨hpre 25 rfl, hout _ (by decide)⟩
        have x63 : a.eval (.tmp 63) = .slice (some ⟨g3b, 0, none⟩) 4 c3b := hitem 27 (by decide) ⟨hpre 27 rfl, hout _ (by decide)⟩
        refine ⟨wanted_of (j := 23) rfl rfl (hitem 23 (by decide) ⟨hpre 23 rfl, hout _ (by decide)⟩), wp_call rfl Tryd.func13 (by kernel_rfl) (by kernel_rfl) (args := #[.slice (some ⟨g3a, 0, none⟩) 4 c3a, .slice (some ⟨g3b, 0, none⟩) 4 c3b]) (by simp [x61, x63]) ((hs3 w hg).mono ?_)⟩
        rintro e w' ⟨rfl, hg'⟩
        exact ⟨_, rfl, h1 _ _ hg' rfl (nob rfl) (.inl rfl)⟩
      · cases (show some _ = some o from ho)
        have hc := hitem 23 (by decide) ⟨hpre 23 rfl, hout _ (by decide)⟩
        have hx := hitem 28 (by decide) ⟨hpre 28 rfl, hout _ (by decide)⟩
        exact ⟨rfl, wp_pick rfl hc (h1 _ _ (grown_refl _ none) hx (by rw [show a.eval (.tmp 64) = .bool true from hx]; exact nob rfl) (by rw [show a.eval (.tmp 64) = .bool true from hx]; exact .inl rfl))⟩
      · cases (show some _ = some o from ho)
        have hx := hitem 29 (by decide) ⟨hpre 29 rfl, hout _ (by decide)⟩
        exact ⟨rfl, wp_move rfl (h1 _ _ (grown_refl _ none) hx (by rw [show a.eval (.tmp 65) = .bool true from hx]; exact nob rfl) (by rw [show a.eval (.tmp 65) = .bool true from hx]; exact .inl rfl))⟩
      · cases (show some _ = some o from ho)
        exact ⟨wanted_of (j := 30) rfl rfl (hitem 30 (by decide) ⟨hpre 30 rfl, hout _ (by decide)⟩), wp_load_row 23 _ rfl _ (houter _ rfl) _ (I.map bv).toArray (0, 0) _ (keep_of hI7 hg) Tryd.underlying23 rfl (hashV_size _ (hIl.out)) (h1 _ _ (grown_refl _ none) rfl (nob rfl) (.inl rfl))⟩
      · cases (show some _ = some o from ho)
        exact ⟨wanted_of (j := 30) rfl rfl (hitem 30 (by decide) ⟨hpre 30 rfl, hout _ (by decide)⟩), wp_load_row 23 _ rfl _ (houter _ rfl) _ (x0.map bv).toArray (0, 0) _ (keep_of hb7 hg) Tryd.underlying23 rfl (hashV_size _ (hS.out)) (h1 _ _ (grown_refl _ none) rfl (nob rfl) (.inl rfl))⟩
      · cases (show some _ = some o from ho)
        have x68 : a.eval (.tmp 68) = (.agg (x0.map bv).toArray) := hitem 32 (by decide) ⟨hpre 32 rfl, hout _ (by decide)⟩
        refine ⟨wanted_of (j := 30) rfl rfl (hitem 30 (by decide) ⟨hpre 30 rfl, hout _ (by decide)⟩), wp_call rfl Tryd.func14 (by kernel_rfl) (by kernel_rfl) (args := #[(.agg (x0.map bv).toArray)]) (by simp [x68]) ((hrid w).mono ?_)⟩
        rintro e w' ⟨rfl, hg'⟩
        exact ⟨_, rfl, h1 _ _ hg' rfl (nob rfl) (.inl rfl)⟩
      · cases (show some _ = some o from ho)
        exact ⟨wanted_of (j := 30) rfl rfl (hitem 30 (by decide) ⟨hpre 30 rfl, hout _ (by decide)⟩), wp_bin rfl (hitem 31 (by decide) ⟨hpre 31 rfl, hout _ (by decide)⟩) (hitem 33 (by decide) ⟨hpre 33 rfl, hout _ (by decide)⟩) (guard_hash _ _ _ _ _) (eqlH_same I hIl.out _) (h1 _ _ (grown_refl _ none) rfl (nob rfl) (.inl rfl))⟩
      · cases (show some _ = some o from ho)
        have hc := hitem 30 (by decide) ⟨hpre 30 rfl, hout _ (by decide)⟩
        have hx := hitem 34 (by decide) ⟨hpre 34 rfl, hout _ (by decide)⟩
        exact ⟨rfl, wp_pick rfl hc (h1 _ _ (grown_refl _ none) hx (by rw [show a.eval (.tmp 70) = .bool true from hx]; exact nob rfl) (by rw [show a.eval (.tmp 70) = .bool true from hx]; exact .inl rfl))⟩
      · cases (show some _ = some o from ho)
        have hx := hitem 35 (by decide) ⟨hpre 35 rfl, hout _ (by decide)⟩
        exact ⟨rfl, wp_move rfl (h1 _ _ (grown_refl _ none) hx (by rw [show a.eval (.tmp 71) = .bool true from hx]; exact nob rfl) (by rw [show a.eval (.tmp 71) = .bool true from hx]; exact .inl rfl))⟩
      · cases (show some _ = some o from ho)
        exact ⟨wanted_of (j := 36) rfl rfl (hitem 36 (by decide) ⟨hpre 36 rfl, hout _ (by decide)⟩), wp_load_row 23 _ rfl _ (houter _ rfl) _ (I.map bv).toArray (0, 0) _ (keep_of hI7 hg) Tryd.underlying23 rfl (hashV_size _ (hIl.out)) (h1 _ _ (grown_refl _ none) rfl (nob rfl) (.inl rfl))⟩
      · cases (show some _ = some o from ho)
        exact ⟨wanted_of (j := 36) rfl rfl (hitem 36 (by decide) ⟨hpre 36 rfl, hout _ (by decide)⟩), wp_move rfl (h1 _ _ (grown_refl _ none) (houter _ rfl) (by rw [houter _ rfl]; exact nob rfl) (by rw [houter _ rfl]; exact .inl rfl))⟩
      · cases (show some _ = some o from ho)
        exact ⟨wanted_of (j := 36) rfl rfl (hitem 36 (by decide) ⟨hpre 36 rfl, hout _ (by decide)⟩), wp_move rfl (h1 _ _ (grown_refl _ none) (houter _ rfl) (by rw [houter _ rfl]; exact (fun g e => by cases (show (none : Option Nat) = some g from e))) (by rw [houter _ rfl]; exact .inl rfl))⟩
      · cases (show some _ = some o from ho)
        exact ⟨wanted_of (j := 36) rfl rfl (hitem 36 (by decide) ⟨hpre 36 rfl, hout _ (by decide)⟩), wp_load_row 28 _ rfl _ (houter _ rfl) _ #[.int .i64 ((i : Int) + 1), .slice (some ⟨g1a, 0, none⟩) 32 c1a, .slice (some ⟨g2a, 0, none⟩) 32 c2a, .slice (some ⟨g3a, 0, none⟩) 4 c3a] (0, 0) _ (keep_of hA7 hg) Tryd.underlying28 rfl (size_sig) (h1 _ _ (grown_refl _ none) rfl (nob rfl) (.inl rfl))⟩
      · cases (show some _ = some o from ho)
        have x73 : a.eval (.tmp 73) = (.agg (I.map bv).toArray) := hitem 37 (by decide) ⟨hpre 37 rfl, hout _ (by decide)⟩
        have x74 : a.eval (.tmp 74) = .int .i64 x := hitem 38 (by decide) ⟨hpre 38 rfl, hout _ (by decide)⟩
        have x75 : a.eval (.tmp 75) = .slice A7 N7 c7 := hitem 39 (by decide) ⟨hpre 39 rfl, hout _ (by decide)⟩
        have x76 : a.eval (.tmp 76) = (.agg #[.int .i64 ((i : Int) + 1), .slice (some ⟨g1a, 0, none⟩) 32 c1a, .slice (some ⟨g2a, 0, none⟩) 32 c2a, .slice (some ⟨g3a, 0, none⟩) 4 c3a]) := hitem 40 (by decide) ⟨hpre 40 rfl, hout _ (by decide)⟩
        refine ⟨wanted_of (j := 36) rfl rfl (hitem 36 (by decide) ⟨hpre 36 rfl, hout _ (by decide)⟩), wp_call rfl Tryd.func10 (by kernel_rfl) (by kernel_rfl) (args := #[(.agg (I.map bv).toArray), .int .i64 x, .slice A7 N7 c7, .agg #[.int .i64 ((i : Int) + 1), .slice (some ⟨g1a, 0, none⟩) 32 c1a, .slice (some ⟨g2a, 0, none⟩) 32 c2a, .slice (some ⟨g3a, 0, none⟩) 4 c3a]]) (by simp [x73, x74, x75, x76]) ((hvX w hg).mono ?_)⟩
        rintro e w' ⟨rfl, hg'⟩
        exact ⟨_, rfl, h1 _ _ hg' rfl (nob rfl) (.inl rfl)⟩
      · cases (show some _ = some o from ho)
        exact ⟨wanted_of (j := 36) rfl rfl (hitem 36 (by decide) ⟨hpre 36 rfl, hout _ (by decide)⟩), wp_move rfl (h1 _ _ (grown_refl _ none) (houter _ rfl) (by rw [houter _ rfl]; exact nob rfl) (by rw [houter _ rfl]; exact .inl rfl))⟩
      · cases (show some _ = some o from ho)
        exact ⟨wanted_of (j := 36) rfl rfl (hitem 36 (by decide) ⟨hpre 36 rfl, hout _ (by decide)⟩), wp_move rfl (h1 _ _ (grown_refl _ none) (houter _ rfl) (by rw [houter _ rfl]; exact nob rfl) (by rw [houter _ rfl]; exact .inl rfl))⟩
      · cases (show some _ = some o from ho)
        exact ⟨wanted_of (j := 36) rfl rfl (hitem 36 (by decide) ⟨hpre 36 rfl, hout _ (by decide)⟩), wp_bin rfl (hitem 42 (by decide) ⟨hpre 42 rfl, hout _ (by decide)⟩) (hitem 43 (by decide) ⟨hpre 43 rfl, hout _ (by decide)⟩) (guard_int _ _ _ _ _) (hxe _) (h1 _ _ (grown_refl _ none) rfl (nob rfl) (.inl rfl))⟩
      · cases (show some _ = some o from ho)
        exact ⟨wanted_of (j := 36) rfl rfl (hitem 36 (by decide) ⟨hpre 36 rfl, hout _ (by decide)⟩), wp_bin rfl (hitem 41 (by decide) ⟨hpre 41 rfl, hout _ (by decide)⟩) (hitem 44 (by decide) ⟨hpre 44 rfl, hout _ (by decide)⟩) (guard_boolL _ _ _ _ _) (eqB_same _ _) (h1 _ _ (grown_refl _ none) rfl (nob rfl) (.inl rfl))⟩
      · cases (show some _ = some o from ho)
        have hc := hitem 36 (by decide) ⟨hpre 36 rfl, hout _ (by decide)⟩
        have hx := hitem 45 (by decide) ⟨hpre 45 rfl, hout _ (by decide)⟩
        exact ⟨rfl, wp_pick rfl hc (h1 _ _ (grown_refl _ none) hx (by rw [show a.eval (.tmp 81) = .bool true from hx]; exact nob rfl) (by rw [show a.eval (.tmp 81) = .bool true from hx]; exact .inl rfl))⟩
      · cases (show some _ = some o from ho)
        have hx := hitem 46 (by decide) ⟨hpre 46 rfl, hout _ (by decide)⟩
        exact ⟨rfl, wp_move rfl (h1 _ _ (grown_refl _ none) hx (by rw [show a.eval (.tmp 82) = .bool true from hx]; exact nob rfl) (by rw [show a.eval (.tmp 82) = .bool true from hx]; exact .inl rfl))⟩
      · cases (show some _ = some o from ho)
        exact ⟨wanted_of (j := 47) rfl rfl (hitem 47 (by decide) ⟨hpre 47 rfl, hout _ (by decide)⟩), wp_load_row 23 _ rfl _ (houter _ rfl) _ (x0.map bv).toArray (0, 0) _ (keep_of hb7 hg) Tryd.underlying23 rfl (hashV_size _ (hS.out)) (h1 _ _ (grown_refl _ none) rfl (nob rfl) (.inl rfl))⟩
      · cases (show some _ = some o from ho)
        exact ⟨wanted_of (j := 47) rfl rfl (hitem 47 (by decide) ⟨hpre 47 rfl, hout _ (by decide)⟩), wp_move rfl (h1 _ _ (grown_refl _ none) (houter _ rfl) (by rw [houter _ rfl]; exact nob rfl) (by rw [houter _ rfl]; exact .inl rfl))⟩
      · cases (show some _ = some o from ho)
        have x84 : a.eval (.tmp 84) = (.agg (x0.map bv).toArray) := hitem 48 (by decide) ⟨hpre 48 rfl, hout _ (by decide)⟩
        have x85 : a.eval (.tmp 85) = .int .i64 ((i : Int) + 1) := hitem 49 (by decide) ⟨hpre 49 rfl, hout _ (by decide)⟩
        refine ⟨wanted_of (j := 47) rfl rfl (hitem 47 (by decide) ⟨hpre 47 rfl, hout _ (by decide)⟩), wp_call rfl Tryd.func15 (by kernel_rfl) (by kernel_rfl) (args := #[(.agg (x0.map bv).toArray), .int .i64 ((i : Int) + 1)]) (by simp [x84, x85]) ((hsd w hg).mono ?_)⟩
        rintro e w' ⟨rfl, hg'⟩
        exact ⟨_, rfl, h1 _ _ hg' rfl (nob rfl) (.inl rfl)⟩
      · cases (show some _ = some o from ho)
        exact ⟨wanted_of (j := 47) rfl rfl (hitem 47 (by decide) ⟨hpre 47 rfl, hout _ (by decide)⟩), wp_slice_all rfl (houter 4 rfl) (sl_arr _ _ _) (h1 _ _ (grown_refl _ none) rfl (fun g e => by cases (show (none : Option Nat) = some g from e)) (.inl rfl))⟩
      · cases (show some _ = some o from ho)
        exact ⟨wanted_of (j := 47) rfl rfl (hitem 47 (by decide) ⟨hpre 47 rfl, hout _ (by decide)⟩), wp_move rfl (h1 _ _ (grown_refl _ none) (houter _ rfl) (by rw [houter _ rfl]; exact nob rfl) (by rw [houter _ rfl]; exact .inl rfl))⟩
      · cases (show some _ = some o from ho)
        exact ⟨wanted_of (j := 47) rfl rfl (hitem 47 (by decide) ⟨hpre 47 rfl, hout _ (by decide)⟩), wp_conv rfl (hitem 52 (by decide) ⟨hpre 52 rfl, hout _ (by decide)⟩) (conv16 i hi16 _) (h1 _ _ (grown_refl _ none) rfl (nob rfl) (.inl rfl))⟩
      · cases (show some _ = some o from ho)
        exact ⟨wanted_of (j := 47) rfl rfl (hitem 47 (by decide) ⟨hpre 47 rfl, hout _ (by decide)⟩), wp_lit1 rfl (hitem 53 (by decide) ⟨hpre 53 rfl, hout _ (by decide)⟩) (lit_b1 (UInt8.ofNat (i + 1)) _) (h1 _ _ (grown_alloc (grown_refl _ _) _) ⟨_, rfl, rd_row (cs := ([UInt8.ofNat (i + 1)] : List UInt8).map bv) (heap_alloc_new _ _)⟩ (fun g e => by cases (show (none : Option Nat) = some g from e)) (.inl rfl))⟩
      · cases (show some _ = some o from ho)
        obtain ⟨bb, e90, hbb⟩ := hitem 54 (by decide) ⟨hpre 54 rfl, hout _ (by decide)⟩
        replace e90 : a.eval (.tmp 90) = _ := e90
        exact ⟨wanted_of (j := 47) rfl rfl (hitem 47 (by decide) ⟨hpre 47 rfl, hout _ (by decide)⟩), wp_lit2 rfl ((show a.eval (.tmp 87) = .slice (some ⟨W0.heap.size, 0, none⟩) 32 32 from hitem 51 (by decide) ⟨hpre 51 rfl, hout _ (by decide)⟩).trans (pv_hp hS.out)) e90 (lit_p2 _ _ _) (h1 _ _ (grown_alloc (grown_refl _ _) _) ⟨_, bb, rfl, rdP_two (rd_row (cs := [_, _]) (heap_alloc_new _ _)) ((rd_row (keep_of hb7 hg)).alloc _) (hbb.alloc _)⟩ (fun g e => by cases (show (none : Option Nat) = some g from e)) (.inl rfl))⟩
      · cases (show some _ = some o from ho)
        obtain ⟨b, bb, e91, hp91⟩ := hitem 55 (by decide) ⟨hpre 55 rfl, hout _ (by decide)⟩
        replace e91 : a.eval (.tmp 91) = _ := e91
        exact ⟨wanted_of (j := 47) rfl rfl (hitem 47 (by decide) ⟨hpre 47 rfl, hout _ (by decide)⟩), wp_rtag (t := 114) (l := x0 ++ [UInt8.ofNat (i + 1)]) rfl rfl e91 hp91 rfl (by simp [catP]) (by have := hS.out; simp; omega) (by simp) (fun w' hg' => by rw [hYt.out]; exact h1 _ _ hg' rfl (nob rfl) (.inl rfl))⟩
      · cases (show some _ = some o from ho)
        exact ⟨wanted_of (j := 47) rfl rfl (hitem 47 (by decide) ⟨hpre 47 rfl, hout _ (by decide)⟩), wp_bin rfl (hitem 50 (by decide) ⟨hpre 50 rfl, hout _ (by decide)⟩) (hitem 56 (by decide) ⟨hpre 56 rfl, hout _ (by decide)⟩) (guard_hash _ _ _ _ _) (eqlH_same Y hYl.out _) (h1 _ _ (grown_refl _ none) rfl (nob rfl) (.inl rfl))⟩
      · cases (show some _ = some o from ho)
        have hc := hitem 47 (by decide) ⟨hpre 47 rfl, hout _ (by decide)⟩
        have hx := hitem 57 (by decide) ⟨hpre 57 rfl, hout _ (by decide)⟩
        exact ⟨rfl, wp_pick rfl hc (h1 _ _ (grown_refl _ none) hx (by rw [show a.eval (.tmp 93) = .bool true from hx]; exact nob rfl) (by rw [show a.eval (.tmp 93) = .bool true from hx]; exact .inl rfl))⟩
      · cases (show some _ = some o from ho)
        have hx := hitem 58 (by decide) ⟨hpre 58 rfl, hout _ (by decide)⟩
        exact ⟨rfl, wp_move rfl (h1 _ _ (grown_refl _ none) hx (by rw [show a.eval (.tmp 94) = .bool true from hx]; exact nob rfl) (by rw [show a.eval (.tmp 94) = .bool true from hx]; exact .inl rfl))⟩
      · cases (show some _ = some o from ho)
        refine ⟨wanted_of (j := 59) rfl rfl (hitem 59 (by decide) ⟨hpre 59 rfl, hout _ (by decide)⟩), wp_call rfl Tryd.func3 (by kernel_rfl) (by kernel_rfl) (args := #[]) (by simp []) ((RingRuns_any w (hk.kept hg)).mono ?_)⟩
        rintro e w' ⟨rfl, hg'⟩
        exact ⟨_, rfl, h1 _ _ hg' rfl (nob rfl) (.inl rfl)⟩
      · cases (show some _ = some o from ho)
        have hc := hitem 59 (by decide) ⟨hpre 59 rfl, hout _ (by decide)⟩
        have hx := hitem 60 (by decide) ⟨hpre 60 rfl, hout _ (by decide)⟩
        exact ⟨rfl, wp_pick rfl hc (h1 _ _ (grown_refl _ none) hx (by rw [show a.eval (.tmp 96) = .bool true from hx]; exact nob rfl) (by rw [show a.eval (.tmp 96) = .bool true from hx]; exact .inl rfl))⟩
    · intro a wT hgT hend hap ha
      obtain ⟨f, hf⟩ : ∃ f : Nat → Value, f = fun t => a.tmps.getD t undef := ⟨_, rfl⟩
      have s97 : f 97 = .bool true := by rw [hf]; exact (hend 61 (by decide) (by decide)).1
      rw [← hf] at ha
      clear hend hap
      clear hf
      subst ha
      simp only [fill, tebS, Nat.reduceAdd, Nat.reduceBEq, Bool.or_false, Bool.or_true, cond_true, cond_false, s97]
      clear s97
      change wpList _ _ _ [_] _ _
      go_wp2_with fail
      go_ret
      exact ⟨rfl, grown_same hg7 hgT⟩
end Go.Proofs.YtohdifimfhdhoaaDoor
