/- The law on turned signatures: its contract. -/
import Derived.Test.YtohdifimfhdhoaaDoorRgTurnL
import Derived.Deep.DeepCutAuto
import Derived.Deep.CutBlock
namespace Go.Proofs.YtohdifimfhdhoaaDoor
open Go.RowKit

def tuaS (t : Nat) : Bool := t == 13 || t == 14 || t == 29 || t == 30 || t == 31 || t == 32 || t == 33 || t == 34
def tuaDie (k : Nat) : Nat := if k = 6 then 8 else if k = 7 then 9 else 99
def tuaOwn (k : Nat) : Bool := k == 6 || k == 7 || k == 8 || k == 9
def tuaAl (k : Nat) : Bool := k == 4 || k == 6 || k == 7 || k == 8 || k == 9
def tuaF (i n0 N7 c7 : Nat) (x0 L I : List UInt8) (A7 : Option Addr) : Nat → Value → World → Prop
  | 0 => fun v _ => v = (.agg (x0.map bv).toArray)
  | 1 => fun v _ => v = (.agg (I.map bv).toArray)
  | 2 => fun v _ => v = (.agg (x0.map bv).toArray)
  | 3 => fun v _ => v = .int .i64 ((i : Int) + 1)
  | 4 => fun v _ => v = .slice A7 N7 c7
  | 5 => fun v w => SigV w n0 x0 L i v
  | 6 => Made (rowH []) 23
  | 7 => Made #[.int .i64 0, .slice none 0 0, .slice none 0 0, .slice none 0 0] 28
  | 8 => Stored 23
  | 9 => Stored 28
  | _ => fun _ _ => True
theorem tuaF_lasts (i n0 N7 c7 : Nat) (x0 L I : List UInt8) (A7 : Option Addr) : ∀ kq, LastsB tuaAl kq (tuaF i n0 N7 c7 x0 L I A7 kq)
  | 0 => LastsB.val _
  | 1 => LastsB.val _
  | 2 => LastsB.val _
  | 3 => LastsB.val _
  | 4 => LastsB.val _
  | 5 => LastsB.sigV rfl _ _ _ _
  | 6 => LastsB.made rfl _ _
  | 7 => LastsB.made rfl _ _
  | 8 => LastsB.stored rfl _
  | 9 => LastsB.stored rfl _
  | _ + 10 => fun _ _ _ _ _ _ _ => trivial
def tubS (t : Nat) : Bool := t == 90 || t == 91 || t == 92 || t == 93 || t == 94 || t == 95 || t == 96 || t == 97 || t == 98 || t == 99 || t == 100 || t == 101 || t == 102 || t == 103 || t == 104
def tubDie (_ : Nat) : Nat := 99
def tubOwn (_ : Nat) : Bool := false
def tubAl (k : Nat) : Bool := k == 1
def tubF (b15 at_ by_ g4 c4 : Nat) (z : UInt8) : Nat → Value → World → Prop
  | 0 => fun v _ => v = .pointer (some ⟨b15, 3, none⟩)
  | 1 => fun v _ => v = .slice (some ⟨g4, 0, none⟩) 4 c4
  | 2 => fun v _ => v = (.int .i64 (at_ : Int))
  | 3 => fun v _ => v = (.int .i64 (by_ : Int))
  | 4 => fun v _ => v = .int .i64 ((by_ / 8 : Nat) : Int)
  | 5 => fun v _ => v = .pointer (some ⟨g4, at_ * 32, none⟩)
  | 6 => fun v _ => v = .pointer (some ⟨g4, at_ * 32 + by_ / 8, none⟩)
  | 7 => fun v _ => v = bv z
  | 8 => fun v _ => v = (.int .i64 (by_ : Int))
  | 9 => fun v _ => v = .int .i64 ((by_ % 8 : Nat) : Int)
  | 10 => fun v _ => v = .int .u64 ((by_ % 8 : Nat) : Int)
  | 11 => fun v _ => v = .int .u8 ((2 ^ (by_ % 8) : Nat) : Int)
  | 12 => fun v _ => v = .int .u8 (((z ^^^ UInt8.ofNat (2 ^ (by_ % 8))).toNat : Nat) : Int)
  | 13 => fun v _ => v = .pointer (some ⟨g4, at_ * 32, none⟩)
  | 14 => fun v _ => v = .pointer (some ⟨g4, at_ * 32 + by_ / 8, none⟩)
  | _ => fun _ _ => True
theorem tubF_lasts (b15 at_ by_ g4 c4 : Nat) (z : UInt8) : ∀ kq, LastsB tubAl kq (tubF b15 at_ by_ g4 c4 z kq)
  | 0 => LastsB.val _
  | 1 => LastsB.val _
  | 2 => LastsB.val _
  | 3 => LastsB.val _
  | 4 => LastsB.val _
  | 5 => LastsB.val _
  | 6 => LastsB.val _
  | 7 => LastsB.val _
  | 8 => LastsB.val _
  | 9 => LastsB.val _
  | 10 => LastsB.val _
  | 11 => LastsB.val _
  | 12 => LastsB.val _
  | 13 => LastsB.val _
  | 14 => LastsB.val _
  | _ + 15 => fun _ _ _ _ _ _ _ => trivial
def tucS (t : Nat) : Bool := t == 113 || t == 114 || t == 115 || t == 116 || t == 117 || t == 118 || t == 119 || t == 120 || t == 121 || t == 122 || t == 123 || t == 124 || t == 125 || t == 126 || t == 127 || t == 128
def tucDie (_ : Nat) : Nat := 99
def tucOwn (_ : Nat) : Bool := false
def tucAl (k : Nat) : Bool := k == 2
def tucF (b15 at_ by_ g5 c5 : Nat) (z : UInt8) : Nat → Value → World → Prop
  | 0 => fun v _ => v = .pointer (some ⟨b15, 1, none⟩)
  | 1 => fun v _ => v = .pointer (some ⟨b15, 1, none⟩)
  | 2 => fun v _ => v = .slice (some ⟨g5, 0, none⟩) 32 c5
  | 3 => fun v _ => v = (.int .i64 (at_ : Int))
  | 4 => fun v _ => v = (.int .i64 (by_ : Int))
  | 5 => fun v _ => v = .int .i64 ((by_ / 8 : Nat) : Int)
  | 6 => fun v _ => v = .pointer (some ⟨g5, at_ * 32, none⟩)
  | 7 => fun v _ => v = .pointer (some ⟨g5, at_ * 32 + by_ / 8, none⟩)
  | 8 => fun v _ => v = bv z
  | 9 => fun v _ => v = (.int .i64 (by_ : Int))
  | 10 => fun v _ => v = .int .i64 ((by_ % 8 : Nat) : Int)
  | 11 => fun v _ => v = .int .u64 ((by_ % 8 : Nat) : Int)
  | 12 => fun v _ => v = .int .u8 ((2 ^ (by_ % 8) : Nat) : Int)
  | 13 => fun v _ => v = .int .u8 (((z ^^^ UInt8.ofNat (2 ^ (by_ % 8))).toNat : Nat) : Int)
  | 14 => fun v _ => v = .pointer (some ⟨g5, at_ * 32, none⟩)
  | 15 => fun v _ => v = .pointer (some ⟨g5, at_ * 32 + by_ / 8, none⟩)
  | _ => fun _ _ => True
theorem tucF_lasts (b15 at_ by_ g5 c5 : Nat) (z : UInt8) : ∀ kq, LastsB tucAl kq (tucF b15 at_ by_ g5 c5 z kq)
  | 0 => LastsB.val _
  | 1 => LastsB.val _
  | 2 => LastsB.val _
  | 3 => LastsB.val _
  | 4 => LastsB.val _
  | 5 => LastsB.val _
  | 6 => LastsB.val _
  | 7 => LastsB.val _
  | 8 => LastsB.val _
  | 9 => LastsB.val _
  | 10 => LastsB.val _
  | 11 => LastsB.val _
  | 12 => LastsB.val _
  | 13 => LastsB.val _
  | 14 => LastsB.val _
  | 15 => LastsB.val _
  | _ + 16 => fun _ _ _ _ _ _ _ => trivial
def tudS (t : Nat) : Bool := t == 10 || t == 135 || t == 136 || t == 137 || t == 138 || t == 139 || t == 140 || t == 141 || t == 142 || t == 143 || t == 144 || t == 145 || t == 146 || t == 147 || t == 148 || t == 149 || t == 150 || t == 151 || t == 152 || t == 153 || t == 154 || t == 155 || t == 156 || t == 157 || t == 158 || t == 159 || t == 160 || t == 161 || t == 162
def tudDie (_ : Nat) : Nat := 99
def tudOwn (_ : Nat) : Bool := false
def tudAl (k : Nat) : Bool := k == 2 || k == 3 || k == 7 || k == 8
def tudF (N7 c7 b15 : Nat) (J : Int) (vb : Bool) (s1 s2 s3 : Value) (I : List UInt8) (A7 : Option Addr) : Nat → Value → World → Prop
  | 0 => fun v _ => v = (.agg (I.map bv).toArray)
  | 1 => fun v _ => v = .int .i64 J
  | 2 => fun v _ => v = .slice A7 N7 c7
  | 3 => fun v _ => v = (.agg #[.int .i64 J, s1, s2, s3])
  | 4 => fun v _ => v = .bool vb
  | 5 => fun v _ => v = (.agg (I.map bv).toArray)
  | 6 => fun v _ => v = .int .i64 J
  | 7 => fun v _ => v = .slice A7 N7 c7
  | 8 => fun v _ => v = (.agg #[.int .i64 J, s1, s2, s3])
  | 9 => fun v _ => v = .bool vb
  | 10 => fun v _ => v = .bool true
  | 11 => fun v _ => v = .bool true
  | 12 => fun v _ => v = .pointer (some ⟨b15, 0, none⟩)
  | 13 => fun v _ => v = .int .i64 J
  | 14 => fun v _ => v = .int .i64 J
  | 15 => fun v _ => v = .bool true
  | 16 => fun v _ => v = .bool true
  | 17 => fun v _ => v = undef
  | 18 => fun v _ => v = undef
  | 19 => fun v _ => v = undef
  | 20 => fun v _ => v = undef
  | 21 => fun v _ => v = undef
  | 22 => fun v _ => v = undef
  | 23 => fun v _ => v = .bool true
  | 24 => fun v _ => v = .bool true
  | 25 => fun v _ => v = .bool true
  | 26 => fun v _ => v = .bool true
  | 27 => fun v _ => v = .bool true
  | 28 => fun v _ => v = .bool true
  | _ => fun _ _ => True
theorem tudF_lasts (N7 c7 b15 : Nat) (J : Int) (vb : Bool) (s1 s2 s3 : Value) (I : List UInt8) (A7 : Option Addr) : ∀ kq, LastsB tudAl kq (tudF N7 c7 b15 J vb s1 s2 s3 I A7 kq)
  | 0 => LastsB.val _
  | 1 => LastsB.val _
  | 2 => LastsB.val _
  | 3 => LastsB.val _
  | 4 => LastsB.val _
  | 5 => LastsB.val _
  | 6 => LastsB.val _
  | 7 => LastsB.val _
  | 8 => LastsB.val _
  | 9 => LastsB.val _
  | 10 => LastsB.val _
  | 11 => LastsB.val _
  | 12 => LastsB.val _
  | 13 => LastsB.val _
  | 14 => LastsB.val _
  | 15 => LastsB.val _
  | 16 => LastsB.val _
  | 17 => LastsB.val _
  | 18 => LastsB.val _
  | 19 => LastsB.val _
  | 20 => LastsB.val _
  | 21 => LastsB.val _
  | 22 => LastsB.val _
  | 23 => LastsB.val _
  | 24 => LastsB.val _
  | 25 => LastsB.val _
  | 26 => LastsB.val _
  | 27 => LastsB.val _
  | 28 => LastsB.val _
  | _ + 29 => fun _ _ _ _ _ _ _ => trivial
def tueS (t : Nat) : Bool := t == 10 || t == 135 || t == 136 || t == 137 || t == 138 || t == 139 || t == 140 || t == 141 || t == 142 || t == 143 || t == 144 || t == 145 || t == 146 || t == 147 || t == 148 || t == 149 || t == 150 || t == 151 || t == 152 || t == 153 || t == 154 || t == 155 || t == 156 || t == 157 || t == 158 || t == 159 || t == 160 || t == 161 || t == 162
def tueDie (_ : Nat) : Nat := 99
def tueOwn (_ : Nat) : Bool := false
def tueAl (k : Nat) : Bool := k == 2 || k == 3 || k == 7 || k == 8 || k == 19 || k == 20
def tueF (N7 c7 b15 : Nat) (H J : Int)  (s1 s2 s3 : Value) (I : List UInt8) (A7 : Option Addr) : Nat → Value → World → Prop
  | 0 => fun v _ => v = (.agg (I.map bv).toArray)
  | 1 => fun v _ => v = .int .i64 J
  | 2 => fun v _ => v = .slice A7 N7 c7
  | 3 => fun v _ => v = (.agg #[.int .i64 H, s1, s2, s3])
  | 4 => fun v _ => v = .bool false
  | 5 => fun v _ => v = (.agg (I.map bv).toArray)
  | 6 => fun v _ => v = .int .i64 J
  | 7 => fun v _ => v = .slice A7 N7 c7
  | 8 => fun v _ => v = (.agg #[.int .i64 H, s1, s2, s3])
  | 9 => fun v _ => v = .bool false
  | 10 => fun v _ => v = .bool true
  | 11 => fun v _ => v = .bool true
  | 12 => fun v _ => v = .pointer (some ⟨b15, 0, none⟩)
  | 13 => fun v _ => v = .int .i64 H
  | 14 => fun v _ => v = .int .i64 J
  | 15 => fun v _ => v = .bool false
  | 16 => fun v _ => v = .bool false
  | 17 => fun v _ => v = (.agg (I.map bv).toArray)
  | 18 => fun v _ => v = .int .i64 J
  | 19 => fun v _ => v = .slice A7 N7 c7
  | 20 => fun v _ => v = (.agg #[.int .i64 H, s1, s2, s3])
  | 21 => fun v _ => v = .bool false
  | 22 => fun v _ => v = .bool true
  | 23 => fun v _ => v = .bool true
  | 24 => fun v _ => v = .bool true
  | 25 => fun v _ => v = .bool true
  | 26 => fun v _ => v = .bool true
  | 27 => fun v _ => v = .bool true
  | 28 => fun v _ => v = .bool true
  | _ => fun _ _ => True
theorem tueF_lasts (N7 c7 b15 : Nat) (H J : Int)  (s1 s2 s3 : Value) (I : List UInt8) (A7 : Option Addr) : ∀ kq, LastsB tueAl kq (tueF N7 c7 b15 H J s1 s2 s3 I A7 kq)
  | 0 => LastsB.val _
  | 1 => LastsB.val _
  | 2 => LastsB.val _
  | 3 => LastsB.val _
  | 4 => LastsB.val _
  | 5 => LastsB.val _
  | 6 => LastsB.val _
  | 7 => LastsB.val _
  | 8 => LastsB.val _
  | 9 => LastsB.val _
  | 10 => LastsB.val _
  | 11 => LastsB.val _
  | 12 => LastsB.val _
  | 13 => LastsB.val _
  | 14 => LastsB.val _
  | 15 => LastsB.val _
  | 16 => LastsB.val _
  | 17 => LastsB.val _
  | 18 => LastsB.val _
  | 19 => LastsB.val _
  | 20 => LastsB.val _
  | 21 => LastsB.val _
  | 22 => LastsB.val _
  | 23 => LastsB.val _
  | 24 => LastsB.val _
  | 25 => LastsB.val _
  | 26 => LastsB.val _
  | 27 => LastsB.val _
  | 28 => LastsB.val _
  | _ + 29 => fun _ _ _ _ _ _ _ => trivial

set_option maxRecDepth 100000 in
set_option maxHeartbeats 4000000 in
theorem RingTurned_any (x0 : List UInt8) (hx0 : x0.length = 32) (n1 n2 n3 : Int) (A1 : Option Addr) (l1 : List UInt8) (c1 : Nat) (W0 : World) (hk : Laid2 W0) (hr1 : RdB W0 A1 l1) (hc1 : l1.length ≤ c1) (hm1 : c1 ≤ maxLen) :
    Calls Tryd.prog 5 #[.agg (x0.map bv).toArray, .int .i64 n1, .int .i64 n2, .int .i64 n3, .slice A1 l1.length c1] W0 fun e w' => e = .returned (.bool true) ∧ W0.grownBy w' none := by
  have hm1' : c1 ≤ 9223372036854775807 := hm1
  obtain ⟨mm, hmin0, hmn, hm60⟩ := min_some l1.length 30
  have hmin : (if (30 : Int) < (l1.length : Int) then (30 : Int) else (l1.length : Int)) = (mm : Int) := hmin0
  clear hmin0
  obtain ⟨L, hL⟩ : ∃ L, L = l1.take mm := ⟨_, rfl⟩
  have hLl : Hid (L.length = mm) := by show _ = _; rw [hL, List.length_take]; omega
  have hrL : RdB W0 A1 L := by rw [hL]; exact rd_takeB hr1 mm
  have hLb : L.length ≤ 1000 := by rw [hLl.out]; omega
  clear hL
  have hS := Lib.hid hx0
  clear hx0
  obtain ⟨i, hi, hWi⟩ : ∃ i : Nat, i < 16 ∧ ∀ w, Calls Tryd.prog 11 #[.int .i64 n1, .int .i64 1, .int .i64 16] w fun e w' => e = .returned (.int .i64 ((i : Int) + 1)) ∧ w = w' := by
    have hb := within_le (n := n1) (lo := 1) (hi := 16) (by omega)
    refine ⟨(within n1 1 16 - 1).toNat, by omega, fun w => ?_⟩
    rw [show ((within n1 1 16 - 1).toNat : Int) + 1 = within n1 1 16 by omega]
    exact Within_any n1 1 16 w (by omega) (by omega) (by omega)
  obtain ⟨by_, hby, hWby⟩ := Within_nat n3 255 (by omega)
  obtain ⟨wt, hwt, hWwt⟩ := Within_nat n2 4 (by omega)
  obtain ⟨wi, hwi⟩ : ∃ wi : Int, wi = (wt : Int) := ⟨_, rfl⟩
  rw [← hwi] at hWwt
  have hwi0 : 0 ≤ wi ∧ wi ≤ 4 := by omega
  clear hwi hwt
  go_enter Tryd.func5, Tryd.ntmps5
  go_upto_region 1 with (fail)
  have hseed1 : (W0.alloc (.cells (x0.map bv).toArray 23)).heap[W0.heap.size]? = some (.cells (x0.map bv).toArray 23 (0, 0)) := alloc_at rfl
  have hg1 : W0.grownBy (W0.alloc (.cells (x0.map bv).toArray 23)) none := grown_alloc (grown_refl _ _) _
  generalize W0.alloc (.cells (x0.map bv).toArray 23) = W1 at hseed1 hg1 ⊢
  replace hrL := hrL.kept hg1
  have hk1 := hk.kept hg1
  have hid := fun w' (h : Laid2 w') => Ident_any x0 hS.out w' h
  obtain ⟨I, hI⟩ : ∃ I, I = identR x0 := ⟨_, rfl⟩
  have hIl : Hid (I.length = 32) := by rw [hI]; exact identR_len x0
  rw [← hI] at hid
  replace hI := Lib.hid hI
  go_upto_region 3 with (first
    | (go_at_call_of 11 (Value.int .i64 n1); refine (hWi _).mono ?_; clear hWi; rintro e w5 ⟨rfl, h5w⟩; obtain rfl : W1 = w5 := h5w)
    | (at_builtin; refine wpList_appB _ rfl _ _ rfl rfl (ownB_new W1 #[] [] 0 rfl rfl (Nat.zero_le _)) (news := L) rfl hLl.out.symm (hrL.alloc _) (by simp; omega) ?_; intro v1 W2 ho1 hgr1; have hL1 : OwnB W2 v1 L := ho1; have hG1 := Grew.fresh hgr1; obtain ⟨A7, c7, rfl, hc7, hm7, hr7⟩ := hL1.slice; clear ho1 hgr1; have hsd := keep_of hseed1 hG1.nil))
  have hgW : W0.grownBy W2 none := grown_same hg1 hG1.nil
  have hb := hsd
  replace hk := hk.kept hgW
  have hsg1 := fun w' (h : W2.grownBy w' none) => Sign_to x0 hS.out i hi A7 L c7 w' (hk.kept h) (hr7.kept h) hLb
  clear hsd hG1 hL1 hrL hr1 hmin hseed1 hk1
  generalize hWW : W2 = W at *
  clear hWW
  generalize hN7 : L.length = N7 at hsg1 ⊢
  replace hN7 := Lib.hid hN7
  refine wp_region_gb (al := tuaAl) 10 (N := 163) (S := tuaS) (die := tuaDie) (own := tuaOwn) (F := tuaF i W.heap.size N7 c7 x0 L I A7) (by kernel_rfl) (Nat.le_of_ble_eq_true (by kernel_rfl)) (fun h => absurd (show 10 < 10 from h) (Nat.lt_irrefl _)) (fun h => absurd (show 10 < 10 from h) (Nat.lt_irrefl _)) (by kernel_rfl) (by kernel_rfl) (Nat.le_of_ble_eq_true (by kernel_rfl)) (tuaF_lasts i W.heap.size N7 c7 x0 L I A7) ?_ ?_
  · intro i o L' a w K hi ho hg hLi hout hpre houter hitem h1 h2 h3
    have hcases : i = 0 ∨ i = 1 ∨ i = 2 ∨ i = 3 ∨ i = 4 ∨ i = 5 ∨ i = 6 ∨ i = 7 ∨ i = 8 ∨ i = 9 := by omega
    rcases hcases with rfl | rfl | rfl | rfl | rfl | rfl | rfl | rfl | rfl | rfl
    · cases (show some _ = some o from ho)
      exact ⟨rfl, wp_load_row 23 _ rfl _ (houter _ rfl) _ (x0.map bv).toArray (0, 0) _ (keep_of hb hg) Tryd.underlying23 rfl (hashV_size _ (hS.out)) (h1 ⟨_, rfl⟩ _ _ (grown_refl _ none) rfl (nobl (blocks_bytes _)) (FreshB.none (blocks_bytes _)))⟩
    · cases (show some _ = some o from ho)
      have x29 : a.eval (.tmp 29) = (.agg (x0.map bv).toArray) := hitem 0 (by decide) ⟨hpre 0 rfl, hout _ (by decide)⟩
      refine ⟨rfl, wp_call rfl Tryd.func9 (by kernel_rfl) (by kernel_rfl) (args := #[(.agg (x0.map bv).toArray)]) (by simp [x29]) ((hid w (hk.kept hg)).mono ?_)⟩
      rintro e w' ⟨rfl, hg'⟩
      exact ⟨_, rfl, h1 ⟨_, rfl⟩ _ _ hg' rfl (nobl (blocks_bytes _)) (FreshB.none (blocks_bytes _))⟩
    · cases (show some _ = some o from ho)
      exact ⟨rfl, wp_load_row 23 _ rfl _ (houter _ rfl) _ (x0.map bv).toArray (0, 0) _ (keep_of hb hg) Tryd.underlying23 rfl (hashV_size _ (hS.out)) (h1 ⟨_, rfl⟩ _ _ (grown_refl _ none) rfl (nobl (blocks_bytes _)) (FreshB.none (blocks_bytes _)))⟩
    · cases (show some _ = some o from ho)
      exact ⟨rfl, wp_move rfl (h1 ⟨_, rfl⟩ _ _ (grown_refl _ none) (houter _ rfl) (by rw [houter _ rfl]; exact nobl rfl) (by rw [houter _ rfl]; exact FreshB.none rfl))⟩
    · cases (show some _ = some o from ho)
      exact ⟨rfl, wp_move rfl (h1 ⟨_, rfl⟩ _ _ (grown_refl _ none) (houter _ rfl) (by rw [houter _ rfl]; exact nobl rfl) (by rw [houter _ rfl]; exact FreshB.none rfl))⟩
    · cases (show some _ = some o from ho)
      have x31 : a.eval (.tmp 31) = (.agg (x0.map bv).toArray) := hitem 2 (by decide) ⟨hpre 2 rfl, hout _ (by decide)⟩
      have x32 : a.eval (.tmp 32) = .int .i64 ((i : Int) + 1) := hitem 3 (by decide) ⟨hpre 3 rfl, hout _ (by decide)⟩
      have x33 : a.eval (.tmp 33) = .slice A7 N7 c7 := hitem 4 (by decide) ⟨hpre 4 rfl, hout _ (by decide)⟩
      refine ⟨rfl, wp_call rfl Tryd.func8 (by kernel_rfl) (by kernel_rfl) (args := #[(.agg (x0.map bv).toArray), .int .i64 ((i : Int) + 1), .slice A7 N7 c7]) (by simp [x31, x32, x33]) ((hsg1 w hg).mono ?_)⟩
      rintro e w' ⟨v, rfl, hf', hg', hn', ht'⟩
      exact ⟨_, rfl, h1 ⟨_, rfl⟩ _ _ hg' (hf'.from hg.size) ht' (FreshB.new hn')⟩
    · cases (show some _ = some o from ho)
      exact ⟨rfl, wp_alloc rfl (alloc_H _) (h1 ⟨_, rfl⟩ _ _ (grown_alloc (grown_refl _ _) _) ⟨_, rfl, heap_alloc_new _ _⟩ (new_lt _ _) (FreshB.new (new_ge _)))⟩
    · cases (show some _ = some o from ho)
      exact ⟨rfl, wp_alloc rfl (alloc_S _) (h1 ⟨_, rfl⟩ _ _ (grown_alloc (grown_refl _ _) _) ⟨_, rfl, heap_alloc_new _ _⟩ (new_lt _ _) (FreshB.new (new_ge _)))⟩
    · cases (show some _ = some o from ho)
      obtain ⟨b, e1, hb⟩ := hitem 6 (by decide) ⟨hpre 6 rfl, hLi⟩
      have x2 : a.eval (.tmp 30) = .agg (I.map bv).toArray := hitem 1 (by decide) ⟨hpre 1 rfl, hout _ (by decide)⟩
      exact ⟨rfl, wp_store_row 23 _ _ rfl b (I.map bv).toArray e1 x2 23 _ hb (hashV_size _ hIl.out) (by rw [rowH_size _ (by simp), List.size_toArray, List.length_map, hIl.out]) (bv_all' _) (h3 rfl 6 _ _ (some b) (by decide) ⟨hpre 6 rfl, hLi⟩ rfl rfl (grown_setRow (grown_refl _ _) (.inl rfl) _) (fun g e => by cases e; rw [show valB _ a 6 = _ from e1]; exact List.mem_singleton.2 rfl) ⟨b, _, (by rw [show valB _ a 8 = .tuple #[a.eval (.tmp 13), a.eval (.tmp 30)] from rfl, show a.eval (.tmp 13) = _ from e1, x2]), setRow_heap _ _ _ _ _ _ hb⟩ (fun g h => by rw [show valB _ a 8 = .tuple #[a.eval (.tmp 13), a.eval (.tmp 30)] from rfl, show a.eval (.tmp 13) = _ from e1] at h; rw [show valB _ a 6 = _ from e1]; exact h))⟩
    · cases (show some _ = some o from ho)
      obtain ⟨b, e1, hb⟩ := hitem 7 (by decide) ⟨hpre 7 rfl, hLi⟩
      obtain ⟨C, e2, hc4, hcA⟩ := SigV.cells (hitem 5 (by decide) ⟨hpre 5 rfl, hout _ (by decide)⟩)
      replace e2 : a.eval (.tmp 34) = _ := e2
      exact ⟨rfl, wp_store_row 28 _ _ rfl b _ e1 e2 28 _ hb (by rw [hc4]; exact size_sig) (by rw [hc4]; rfl) hcA (h3 rfl 7 _ _ (some b) (by decide) ⟨hpre 7 rfl, hLi⟩ rfl rfl (grown_setRow (grown_refl _ _) (.inl rfl) _) (fun g e => by cases e; rw [show valB _ a 7 = _ from e1]; exact List.mem_singleton.2 rfl) ⟨b, _, (by rw [show valB _ a 9 = .tuple #[a.eval (.tmp 14), a.eval (.tmp 34)] from rfl, show a.eval (.tmp 14) = _ from e1, e2]), setRow_heap _ _ _ _ _ _ hb⟩ (fun g h => by rw [show valB _ a 9 = .tuple #[a.eval (.tmp 14), a.eval (.tmp 34)] from rfl, show a.eval (.tmp 14) = _ from e1] at h; rw [show valB _ a 7 = _ from e1]; exact h))⟩
  · intro a wT hgT hend hap ha
    obtain ⟨f, hf⟩ : ∃ f : Nat → Value, f = fun t => a.tmps.getD t undef := ⟨_, rfl⟩
    have s30 : f 30 = (.agg (I.map bv).toArray) := by rw [hf]; exact (hend 1 (by decide) (by decide)).1
    obtain ⟨g1, c1, g2, c2, g3, c3, q34, sa⟩ := (hend 5 (by decide) (by decide)).1
    have s34 := (congrFun hf 34).trans q34
    obtain ⟨⟨b13, C13, q13, hh13⟩, fr13⟩ := hend 8 (by decide) (by decide)
    have f13 : W.heap.size ≤ b13 := fr13 rfl b13 (by rw [q13]; exact List.mem_singleton.2 rfl)
    have p13 := tuple_two (show Value.tuple #[_, _] = _ from q13)
    have s13 := (congrFun hf 13).trans p13.1
    have v13 : f 30 = .agg C13 := (congrFun hf 30).trans p13.2
    obtain rfl := Value.agg.inj (v13.symm.trans s30)
    clear v13
    obtain ⟨⟨b14, C14, q14, hh14⟩, fr14⟩ := hend 9 (by decide) (by decide)
    have f14 : W.heap.size ≤ b14 := fr14 rfl b14 (by rw [q14]; exact List.mem_singleton.2 rfl)
    have p14 := tuple_two (show Value.tuple #[_, _] = _ from q14)
    have s14 := (congrFun hf 14).trans p14.1
    have v14 : f 34 = .agg C14 := (congrFun hf 34).trans p14.2
    obtain rfl := Value.agg.inj (v14.symm.trans s34)
    clear v14
    have n13_14 : b13 ≠ b14 := fun e => hap 8 9 (by decide) (by decide) (by decide) (by decide) (by decide) rfl b14 (by rw [q14]; exact List.mem_singleton.2 rfl) (by rw [q13, e]; exact List.mem_singleton.2 rfl)
    rw [← hf] at ha
    clear hend hap
    clear hf
    clear q34 q13 p13 fr13 q14 p14 fr14
    subst ha
    simp only [fill, tuaS, Nat.reduceAdd, Nat.reduceBEq, Bool.or_false, Bool.or_true, cond_true, cond_false, List.drop_succ_cons, List.drop_zero, s30, s34, s13, s14]
    clear s30 s34 s13 s14
    have hgT0 : W0.grownBy wT none := grown_same hgW hgT
    replace hk := hk.kept hgT
    have hrT := hr7.kept hgT
    obtain ⟨-, -, -, -, a5, -, r1, r2, r3, -⟩ := sa
    have hok : verR I L (openF (seedR x0 (i + 1)) L) (shutF (seedR x0 (i + 1)) L) i (pathR x0 i) 4 = true := by
      rw [verR, whoF_sign, up_ident x0 i hi, hI.out]; simp
    have hver := Verify_in I hIl.out i hi A7 L c7 g1 c1 g2 c2 _ _ (openF_len (seedR x0 (i + 1)) L) (shutF_len (seedR x0 (i + 1)) L) g3 0 4 c3 (pathR x0 i) (pathR_len x0 i hi) a5 (fun _ => rfl) wT hk hrT hLb r1 r2 r3
    rw [hok, hN7.out, show ((i + 1 : Nat) : Int) = (i : Int) + 1 by omega] at hver
    obtain ⟨PL, hPL⟩ : ∃ P, P = pathR x0 i := ⟨_, rfl⟩
    obtain ⟨OL, eOL⟩ : ∃ P, P = partsF (openF (seedR x0 (i + 1)) L) 32 := ⟨_, rfl⟩
    have hPl : Hid (PL.length = 4 * 32) := by rw [hPL]; exact pathR_len x0 i hi
    have hOl : Hid (OL.length = 32 * 32) := by show _ = _; rw [eOL]; exact partsF_len _ (openF_len _ L) 32
    rw [← hPL] at r3
    rw [← eOL] at r1
    replace eOL := Lib.hid eOL
    clear hgT hb hr7 hsg1 hok hPL hI hid hgW a5
    have h14w : wT.heap[b14]? = some (.cells #[.int .i64 ((i : Int) + 1), .slice (some ⟨g1, 0, none⟩) 32 c1, .slice (some ⟨g2, 0, none⟩) 32 c2, .slice (some ⟨g3, 0, none⟩) 4 c3] 28 (0, 0)) := hh14
    clear hh14
    go_upto_region 7 with (first
        | (refine wpList_load_row rfl 23 _ rfl (b13) rfl _ (I.map bv).toArray (0, 0) _ (hh13) Tryd.underlying23 rfl (hashV_size _ hIl.out) ?_)
        | (refine wpList_load_row rfl 28 _ rfl b14 rfl _ #[.int .i64 ((i : Int) + 1), .slice (some ⟨g1, 0, none⟩) 32 c1, .slice (some ⟨g2, 0, none⟩) 32 c2, .slice (some ⟨g3, 0, none⟩) 4 c3] (0, 0) _ h14w Tryd.underlying28 rfl size_sig ?_)
        | (go_at_call 10; refine hver.mono ?_; clear hver; rintro e wB ⟨rfl, hgB⟩; have k3 := cell_at3 (keep_of h14w hgB); have k1 := cell_at1 (keep_of h14w hgB))
        | (refine wpList_load_row rfl 28 _ rfl b14 rfl _ #[.int .i64 ((i : Int) + 1), .slice (some ⟨g1, 0, none⟩) 32 c1, .slice (some ⟨g2, 0, none⟩) 32 c2, .slice (some ⟨g3, 0, none⟩) 4 c3] (0, 0) _ (keep_of h14w hgB) Tryd.underlying28 rfl size_sig ?_)
        | (refine wpList_store_row rfl 28 _ _ rfl (wB.heap.size) #[.int .i64 ((i : Int) + 1), .slice (some ⟨g1, 0, none⟩) 32 c1, .slice (some ⟨g2, 0, none⟩) 32 c2, .slice (some ⟨g3, 0, none⟩) 4 c3] rfl rfl 28 _ (alloc_at rfl) size_sig rfl (sig_all _ _ _ _ rfl rfl rfl rfl) ?_; generalize hV : World.setRow _ _ _ = V; have HV := new_hash hV; clear hV))
    have hI7 := keep_of hh13 hgB
    have h14 := keep_of h14w hgB
    have h15V := HV.1
    have hg0 := grown_same hgT0 hgB
    replace r1 := r1.kept hgB
    replace r2 := r2.kept hgB
    replace r3 := r3.kept hgB
    replace hk := hk.kept hgB
    replace hrT := hrT.kept hgB
    have hgBV := HV.2
    clear HV hgB hh13 h14w hgT0
    have k3 : (V.alloc (.cells #[] 23)).cell? ⟨b14, 3, none⟩ = _ := cell_at3 (alloc_old (keep_of h14 hgBV))
    simp only [Act.put]
    go_upto_region 8 with (first
        | (at_builtin; refine wpList_appHr rfl _ _ rfl rfl (ownH_new _) rfl ((r3.kept hgBV).alloc _) hPl.out (by omega) ?_; intro v7 w7 ho7 hgr7; rw [List.nil_append, Nat.zero_add] at ho7; obtain ⟨g4, c4, rfl, hc4, -, -⟩ := ho7.slice (by omega); have hg7 := (Grew.fresh hgr7).nil; have hnew7 := (Grew.fresh hgr7).new g4 rfl; clear hgr7; have h157 := keep_of h15V hg7; have j3 := cell_at3 h157; have fz := frozen_of_row w7 wB.heap.size 3 _ _ h157))
    obtain ⟨cu4, hu4, hz4, hM4, hs4, ht4⟩ := OwnHs.row ho7
    have nb4 : g4 ≠ wB.heap.size := ne_block hu4 h157 (by decide)
    have h15X := heap_setCell_to (v := .slice (some ⟨g4, 0, none⟩) 4 c4) h157 (set_at3 _ _ _ _ _)
    have hu4X := (Below.heap_setCell w7 ⟨wB.heap.size, 3, none⟩ (.slice (some ⟨g4, 0, none⟩) 4 c4) g4 nb4).trans hu4
    have hgX : wB.grownBy (w7.setCell ⟨wB.heap.size, 3, none⟩ (.slice (some ⟨g4, 0, none⟩) 4 c4)) none := grown_set (grown_same hgBV hg7) (.inr (Nat.le_refl _)) _
    have fr4 : wB.heap.size ≤ g4 := Nat.le_trans hgBV.size hnew7
    generalize w7.setCell ⟨wB.heap.size, 3, none⟩ (.slice (some ⟨g4, 0, none⟩) 4 c4) = X at h15X hu4X hgX ⊢
    clear k3 j3 fz hnew7 h157 hu4 ho7 hg7 hgBV h15V r3
    have k1 : (X.alloc (.cells #[] 23)).cell? ⟨b14, 1, none⟩ = _ := cell_at1 (alloc_old (keep_of h14 hgX))
    go_upto_region 9 with (first
        | (at_builtin; refine wpList_appHr rfl _ _ rfl rfl (ownH_new _) rfl ((r1.kept hgX).alloc _) hOl.out (by omega) ?_; intro v8 w8 ho8 hgr8; rw [List.nil_append, Nat.zero_add] at ho8; obtain ⟨g5, c5, rfl, hc5, -, -⟩ := ho8.slice (by omega); have hg8 := (Grew.fresh hgr8).nil; have hnew8 := (Grew.fresh hgr8).new g5 rfl; clear hgr8; have h158 := keep_of h15X hg8; have j1 := cell_at1 h158; have fz := frozen_of_row w8 wB.heap.size 1 _ _ h158))
    obtain ⟨cu5, hu5, hz5, hM5, hs5, ht5⟩ := OwnHs.row ho8
    have nb5 : g5 ≠ wB.heap.size := ne_block hu5 h158 (by decide)
    have n45 : g4 ≠ g5 := by have := (Array.getElem?_eq_some_iff.1 hu4X).1; omega
    have h15D := heap_setCell_to (v := .slice (some ⟨g5, 0, none⟩) 32 c5) h158 (set_at1 _ _ _ _ _)
    have hu5D := (Below.heap_setCell w8 ⟨wB.heap.size, 1, none⟩ (.slice (some ⟨g5, 0, none⟩) 32 c5) g5 nb5).trans hu5
    have hu4D := (Below.heap_setCell w8 ⟨wB.heap.size, 1, none⟩ (.slice (some ⟨g5, 0, none⟩) 32 c5) g4 nb4).trans (keep_of hu4X hg8)
    have hgD : wB.grownBy (w8.setCell ⟨wB.heap.size, 1, none⟩ (.slice (some ⟨g5, 0, none⟩) 32 c5)) none := grown_set (grown_same hgX hg8) (.inr (Nat.le_refl _)) _
    have fr5 : wB.heap.size ≤ g5 := Nat.le_trans hgX.size hnew8
    generalize w8.setCell ⟨wB.heap.size, 1, none⟩ (.slice (some ⟨g5, 0, none⟩) 32 c5) = D at h15D hu4D hu5D hgD ⊢
    clear k1 j1 fz hnew8 h158 hu5 ho8 hg8 hgX h15X hu4X h14 r1
    have h15 := h15D
    have hu4 := hu4D
    have hu5 := hu5D
    clear h15D hu4D hu5D
    go_upto_block 0 with (first
        | (go_at_call_of 11 (Value.int .i64 n3); refine (hWby _).mono ?_; clear hWby; rintro e w1 ⟨rfl, hw1⟩; obtain rfl : D = w1 := hw1)
        | (go_at_call_of 11 (Value.int .i64 n2); refine (hWwt _).mono ?_; clear hWwt; rintro e w1 ⟨rfl, hw1⟩; obtain rfl : D = w1 := hw1))
    go_cut [17] (fun j wx => TurnR wB wx wB.heap.size I (.slice A7 N7 c7) j)
    case first =>
      have hk0 := cell_at0 h15
      have hf0 := frozen_of_row D wB.heap.size 0 _ _ h15
      have hk3 := cell_at3 h15
      have hf3 := frozen_of_row D wB.heap.size 3 _ _ h15
      obtain ⟨h', hh'⟩ : ∃ h' : Nat, h' = (i + 1) % 16 := ⟨_, rfl⟩
      have hm := fun w => rem16 i hi w
      rw [← hh'] at hm
      have hh16 : h' < 16 := by omega
      have hhne : ¬ (h' : Int) + 1 = (i : Int) + 1 := by omega
      have hwr : IntKind.i64.wrap ((h' : Int) + 1) = (h' : Int) + 1 := IntWalk.i64_in _ ⟨by omega, by omega⟩
      rcases (show wi = 0 ∨ wi = 1 ∨ wi = 2 ∨ wi = 3 ∨ wi = 4 by omega) with rfl | rfl | rfl | rfl | rfl
      · go_wp2_with fail
        go_meet
        rw [show ((i : Int) + 1) % 16 + 1 = (h' : Int) + 1 by omega]
        have hE := heap_setCell_to (v := .int .i64 ((h' : Int) + 1)) h15 (set_at0 _ _ _ _ _)
        have hgE : wB.grownBy (D.setCell ⟨wB.heap.size, 0, none⟩ (.int .i64 ((h' : Int) + 1))) none := grown_set hgD (.inr (Nat.le_refl _)) _
        have r4 := rd_of_row ((Below.heap_setCell D ⟨wB.heap.size, 0, none⟩ (.int .i64 ((h' : Int) + 1)) g4 nb4).trans hu4) hz4 hM4 hs4 ht4 hPl.out
        have r5 := rd_of_row ((Below.heap_setCell D ⟨wB.heap.size, 0, none⟩ (.int .i64 ((h' : Int) + 1)) g5 nb5).trans hu5) hz5 hM5 hs5 ht5 hOl.out
        rw [eOL.out] at r5
        exact turn_no hgE hN7.out (hrT.kept hgE) hLb hhne (openF_len (seedR x0 (i + 1)) L) (shutF_len (seedR x0 (i + 1)) L) r5 (r2.kept hgE) hE
      · clear hhne hh16 hh'
        obtain ⟨at_, hat_⟩ : ∃ a, a = by_ % 4 := ⟨_, rfl⟩
        have hat : at_ < 4 := by omega
        obtain ⟨z, hz⟩ := cell_of_take (o := at_ * 32 + by_ / 8) ht4 hPl.out (by omega)
        have k3 := cell_at3 h15
        have k1 := cell_at1 h15
        go_wp2_with fail
        rw [show (by_ : Int) % 4 = (at_ : Int) by omega]
        clear hat_ k3 k1
        refine wp_region_gb (al := tubAl) 15 (N := 163) (S := tubS) (die := tubDie) (own := tubOwn) (F := tubF wB.heap.size at_ by_ g4 c4 z) (by kernel_rfl) (Nat.le_of_ble_eq_true (by kernel_rfl)) (fun _ => by kernel_rfl) (fun _ => by kernel_rfl) (by kernel_rfl) (by kernel_rfl) (Nat.le_of_ble_eq_true (by kernel_rfl)) (tubF_lasts wB.heap.size at_ by_ g4 c4 z) ?_ ?_
        · intro i o L' a w K hi ho hg hLi hout hpre houter hitem h1 h2 h3
          have hcases : i = 0 ∨ i = 1 ∨ i = 2 ∨ i = 3 ∨ i = 4 ∨ i = 5 ∨ i = 6 ∨ i = 7 ∨ i = 8 ∨ i = 9 ∨ i = 10 ∨ i = 11 ∨ i = 12 ∨ i = 13 ∨ i = 14 := by omega
          rcases hcases with rfl | rfl | rfl | rfl | rfl | rfl | rfl | rfl | rfl | rfl | rfl | rfl | rfl | rfl | rfl
          · cases (show some _ = some o from ho)
            exact ⟨rfl, wp_field rfl (houter 15 rfl) (field_S2 _) (h1 ⟨_, rfl⟩ _ _ (grown_refl _ none) rfl (nobl rfl) (FreshB.none rfl))⟩
          · cases (show some _ = some o from ho)
            exact ⟨rfl, wp_loadC rfl (hitem 0 (by decide) ⟨hpre 0 rfl, hout _ (by decide)⟩) (load_cell (cell_at3 (keep_of h15 hg)) Tryd.underlying24 rfl) (h1 ⟨_, rfl⟩ _ _ (grown_refl _ none) rfl (nobl rfl) (FreshB.none rfl))⟩
          · cases (show some _ = some o from ho)
            exact ⟨rfl, wp_move rfl (h1 ⟨_, rfl⟩ _ _ (grown_refl _ none) (houter _ rfl) (by rw [houter _ rfl]; exact nobl rfl) (by rw [houter _ rfl]; exact FreshB.none rfl))⟩
          · cases (show some _ = some o from ho)
            exact ⟨rfl, wp_move rfl (h1 ⟨_, rfl⟩ _ _ (grown_refl _ none) (houter _ rfl) (by rw [houter _ rfl]; exact nobl rfl) (by rw [houter _ rfl]; exact FreshB.none rfl))⟩
          · cases (show some _ = some o from ho)
            exact ⟨rfl, wp_bin rfl (hitem 3 (by decide) ⟨hpre 3 rfl, hout _ (by decide)⟩) rfl (by kernel_rfl) (quo8 _ hby _) (h1 ⟨_, rfl⟩ _ _ (grown_refl _ none) rfl (nobl rfl) (FreshB.none rfl))⟩
          · cases (show some _ = some o from ho)
            exact ⟨rfl, wp_index rfl (hitem 1 (by decide) ⟨hpre 1 rfl, hout _ (by decide)⟩) (hitem 2 (by decide) ⟨hpre 2 rfl, hout _ (by decide)⟩) (index_hs _ _ _ _ hat _) (h1 ⟨_, rfl⟩ _ _ (grown_refl _ none) rfl (nobl rfl) (FreshB.none rfl))⟩
          · cases (show some _ = some o from ho)
            exact ⟨rfl, wp_index rfl (hitem 5 (by decide) ⟨hpre 5 rfl, hout _ (by decide)⟩) (hitem 4 (by decide) ⟨hpre 4 rfl, hout _ (by decide)⟩) (idx8 _ _ _ (by omega) _) (h1 ⟨_, rfl⟩ _ _ (grown_refl _ none) rfl (nobl rfl) (FreshB.none rfl))⟩
          · cases (show some _ = some o from ho)
            exact ⟨rfl, wp_loadC rfl (hitem 6 (by decide) ⟨hpre 6 rfl, hout _ (by decide)⟩) (load_cell (cell_of_cells (keep_of hu4 hg) hz) Tryd.underlying5 rfl) (h1 ⟨_, rfl⟩ _ _ (grown_refl _ none) rfl (nobl rfl) (FreshB.none rfl))⟩
          · cases (show some _ = some o from ho)
            exact ⟨rfl, wp_move rfl (h1 ⟨_, rfl⟩ _ _ (grown_refl _ none) (houter _ rfl) (by rw [houter _ rfl]; exact nobl rfl) (by rw [houter _ rfl]; exact FreshB.none rfl))⟩
          · cases (show some _ = some o from ho)
            exact ⟨rfl, wp_bin rfl (hitem 8 (by decide) ⟨hpre 8 rfl, hout _ (by decide)⟩) rfl (by kernel_rfl) (rem8 _ _) (h1 ⟨_, rfl⟩ _ _ (grown_refl _ none) rfl (nobl rfl) (FreshB.none rfl))⟩
          · cases (show some _ = some o from ho)
            exact ⟨rfl, wp_conv rfl (hitem 9 (by decide) ⟨hpre 9 rfl, hout _ (by decide)⟩) (conv8 _ (Nat.mod_lt _ (by decide)) _) (h1 ⟨_, rfl⟩ _ _ (grown_refl _ none) rfl (nobl rfl) (FreshB.none rfl))⟩
          · cases (show some _ = some o from ho)
            exact ⟨rfl, wp_bin rfl rfl (hitem 10 (by decide) ⟨hpre 10 rfl, hout _ (by decide)⟩) (by kernel_rfl) (shl8 _ (Nat.mod_lt _ (by decide)) _) (h1 ⟨_, rfl⟩ _ _ (grown_refl _ none) rfl (nobl rfl) (FreshB.none rfl))⟩
          · cases (show some _ = some o from ho)
            exact ⟨rfl, wp_bin rfl (hitem 7 (by decide) ⟨hpre 7 rfl, hout _ (by decide)⟩) (hitem 11 (by decide) ⟨hpre 11 rfl, hout _ (by decide)⟩) (by kernel_rfl) (xor8 _ _ _) (h1 ⟨_, rfl⟩ _ _ (grown_refl _ none) rfl (nobl rfl) (FreshB.none rfl))⟩
          · cases (show some _ = some o from ho)
            exact ⟨rfl, wp_index rfl (hitem 1 (by decide) ⟨hpre 1 rfl, hout _ (by decide)⟩) (hitem 2 (by decide) ⟨hpre 2 rfl, hout _ (by decide)⟩) (index_hs _ _ _ _ hat _) (h1 ⟨_, rfl⟩ _ _ (grown_refl _ none) rfl (nobl rfl) (FreshB.none rfl))⟩
          · cases (show some _ = some o from ho)
            exact ⟨rfl, wp_index rfl (hitem 13 (by decide) ⟨hpre 13 rfl, hout _ (by decide)⟩) (hitem 4 (by decide) ⟨hpre 4 rfl, hout _ (by decide)⟩) (idx8 _ _ _ (by omega) _) (h1 ⟨_, rfl⟩ _ _ (grown_refl _ none) rfl (nobl rfl) (FreshB.none rfl))⟩
        · intro a wT hgT hend hap ha
          obtain ⟨f, hf⟩ : ∃ f : Nat → Value, f = fun t => a.tmps.getD t undef := ⟨_, rfl⟩
          have s102 : f 102 = .int .u8 (((z ^^^ UInt8.ofNat (2 ^ (by_ % 8))).toNat : Nat) : Int) := by rw [hf]; exact (hend 12 (by decide) (by decide)).1
          have s104 : f 104 = .pointer (some ⟨g4, at_ * 32 + by_ / 8, none⟩) := by rw [hf]; exact (hend 14 (by decide) (by decide)).1
          rw [← hf] at ha
          clear hend hap
          clear hf
          subst ha
          simp only [fill, tubS, Nat.reduceAdd, Nat.reduceBEq, Bool.or_false, Bool.or_true, cond_true, cond_false, List.drop_succ_cons, List.drop_zero, s102, s104]
          clear s102 s104
          have hcz : wT.cell? ⟨g4, at_ * 32 + by_ / 8, none⟩ = some (.int .u8 (z.toNat : Int)) := cell_of_cells (keep_of hu4 hgT) hz
          have hfz : wT.frozen? ⟨g4, at_ * 32 + by_ / 8, none⟩ = false := frozen_of_row wT _ _ _ _ (keep_of hu4 hgT)
          generalize z ^^^ UInt8.ofNat (2 ^ (by_ % 8)) = z'
          go_wp2_with fail
          go_meet
          have hwN : (wT.setCell ⟨g4, at_ * 32 + by_ / 8, none⟩ (.int .u8 (z'.toNat : Int))).heap[g4]? = some (.cells (cu4.setIfInBounds (at_ * 32 + by_ / 8) (bv z')) 23 (0, 0)) := heap_setCell_to (keep_of hu4 hgT) rfl
          have hwO : (wT.setCell ⟨g4, at_ * 32 + by_ / 8, none⟩ (.int .u8 (z'.toNat : Int))).heap[g5]? = some (.cells cu5 23 (0, 0)) := (Below.heap_setCell _ _ _ _ (Ne.symm n45)).trans (keep_of hu5 hgT)
          have hwS : (wT.setCell ⟨g4, at_ * 32 + by_ / 8, none⟩ (.int .u8 (z'.toNat : Int))).heap[wB.heap.size]? = some (.cells #[.int .i64 ((i : Int) + 1), .slice (some ⟨g5, 0, none⟩) 32 c5, .slice (some ⟨g2, 0, none⟩) 32 c2, .slice (some ⟨g4, 0, none⟩) 4 c4] 28 (0, 0)) := (Below.heap_setCell _ _ _ _ (Ne.symm nb4)).trans (keep_of h15 hgT)
          have hgE : wB.grownBy (wT.setCell ⟨g4, at_ * 32 + by_ / 8, none⟩ (.int .u8 (z'.toNat : Int))) none := grown_set (grown_same hgD hgT) (.inr fr4) _

          have r4 := rd_of_row hwN hz4 hM4 (by rw [Array.size_setIfInBounds]; exact hs4) (set_take ht4 _ z') (by rw [List.length_set]; exact hPl.out)
          have r5 := rd_of_row hwO hz5 hM5 hs5 ht5 hOl.out
          rw [eOL.out] at r5
          exact turn_in hIl.out (hk.kept hgE) hgE hN7.out (hrT.kept hgE) hLb hi (openF_len (seedR x0 (i + 1)) L) (shutF_len (seedR x0 (i + 1)) L) (by omega) (by rw [List.length_set]; exact hPl.out) hz4 (fun _ => rfl) r5 (r2.kept hgE) r4 hwS
      · clear hhne hh16 hh'
        obtain ⟨at_, hat_⟩ : ∃ a, a = by_ % 32 := ⟨_, rfl⟩
        have hat : at_ < 32 := by omega
        obtain ⟨z, hz⟩ := cell_of_take (o := at_ * 32 + by_ / 8) ht5 hOl.out (by omega)
        have k3 := cell_at3 h15
        have k1 := cell_at1 h15
        go_wp2_with fail
        rw [show (by_ : Int) % 32 = (at_ : Int) by omega]
        clear hat_ k3 k1
        refine wp_region_gb (al := tucAl) 16 (N := 163) (S := tucS) (die := tucDie) (own := tucOwn) (F := tucF wB.heap.size at_ by_ g5 c5 z) (by kernel_rfl) (Nat.le_of_ble_eq_true (by kernel_rfl)) (fun _ => by kernel_rfl) (fun _ => by kernel_rfl) (by kernel_rfl) (by kernel_rfl) (Nat.le_of_ble_eq_true (by kernel_rfl)) (tucF_lasts wB.heap.size at_ by_ g5 c5 z) ?_ ?_
        · intro i o L' a w K hi ho hg hLi hout hpre houter hitem h1 h2 h3
          have hcases : i = 0 ∨ i = 1 ∨ i = 2 ∨ i = 3 ∨ i = 4 ∨ i = 5 ∨ i = 6 ∨ i = 7 ∨ i = 8 ∨ i = 9 ∨ i = 10 ∨ i = 11 ∨ i = 12 ∨ i = 13 ∨ i = 14 ∨ i = 15 := by omega
          rcases hcases with rfl | rfl | rfl | rfl | rfl | rfl | rfl | rfl | rfl | rfl | rfl | rfl | rfl | rfl | rfl | rfl
          · cases (show some _ = some o from ho)
            exact ⟨rfl, wp_field rfl (houter 15 rfl) (field_S1 _) (h1 ⟨_, rfl⟩ _ _ (grown_refl _ none) rfl (nobl rfl) (FreshB.none rfl))⟩
          · cases (show some _ = some o from ho)
            exact ⟨rfl, wp_field rfl (hitem 0 (by decide) ⟨hpre 0 rfl, hout _ (by decide)⟩) (field_P0 _) (h1 ⟨_, rfl⟩ _ _ (grown_refl _ none) rfl (nobl rfl) (FreshB.none rfl))⟩
          · cases (show some _ = some o from ho)
            exact ⟨rfl, wp_loadC rfl (hitem 1 (by decide) ⟨hpre 1 rfl, hout _ (by decide)⟩) (load_cell (cell_at1 (keep_of h15 hg)) Tryd.underlying24 rfl) (h1 ⟨_, rfl⟩ _ _ (grown_refl _ none) rfl (nobl rfl) (FreshB.none rfl))⟩
          · cases (show some _ = some o from ho)
            exact ⟨rfl, wp_move rfl (h1 ⟨_, rfl⟩ _ _ (grown_refl _ none) (houter _ rfl) (by rw [houter _ rfl]; exact nobl rfl) (by rw [houter _ rfl]; exact FreshB.none rfl))⟩
          · cases (show some _ = some o from ho)
            exact ⟨rfl, wp_move rfl (h1 ⟨_, rfl⟩ _ _ (grown_refl _ none) (houter _ rfl) (by rw [houter _ rfl]; exact nobl rfl) (by rw [houter _ rfl]; exact FreshB.none rfl))⟩
          · cases (show some _ = some o from ho)
            exact ⟨rfl, wp_bin rfl (hitem 4 (by decide) ⟨hpre 4 rfl, hout _ (by decide)⟩) rfl (by kernel_rfl) (quo8 _ hby _) (h1 ⟨_, rfl⟩ _ _ (grown_refl _ none) rfl (nobl rfl) (FreshB.none rfl))⟩
          · cases (show some _ = some o from ho)
            exact ⟨rfl, wp_index rfl (hitem 2 (by decide) ⟨hpre 2 rfl, hout _ (by decide)⟩) (hitem 3 (by decide) ⟨hpre 3 rfl, hout _ (by decide)⟩) (index_hs _ _ _ _ hat _) (h1 ⟨_, rfl⟩ _ _ (grown_refl _ none) rfl (nobl rfl) (FreshB.none rfl))⟩
          · cases (show some _ = some o from ho)
            exact ⟨rfl, wp_index rfl (hitem 6 (by decide) ⟨hpre 6 rfl, hout _ (by decide)⟩) (hitem 5 (by decide) ⟨hpre 5 rfl, hout _ (by decide)⟩) (idx8 _ _ _ (by omega) _) (h1 ⟨_, rfl⟩ _ _ (grown_refl _ none) rfl (nobl rfl) (FreshB.none rfl))⟩
          · cases (show some _ = some o from ho)
            exact ⟨rfl, wp_loadC rfl (hitem 7 (by decide) ⟨hpre 7 rfl, hout _ (by decide)⟩) (load_cell (cell_of_cells (keep_of hu5 hg) hz) Tryd.underlying5 rfl) (h1 ⟨_, rfl⟩ _ _ (grown_refl _ none) rfl (nobl rfl) (FreshB.none rfl))⟩
          · cases (show some _ = some o from ho)
            exact ⟨rfl, wp_move rfl (h1 ⟨_, rfl⟩ _ _ (grown_refl _ none) (houter _ rfl) (by rw [houter _ rfl]; exact nobl rfl) (by rw [houter _ rfl]; exact FreshB.none rfl))⟩
          · cases (show some _ = some o from ho)
            exact ⟨rfl, wp_bin rfl (hitem 9 (by decide) ⟨hpre 9 rfl, hout _ (by decide)⟩) rfl (by kernel_rfl) (rem8 _ _) (h1 ⟨_, rfl⟩ _ _ (grown_refl _ none) rfl (nobl rfl) (FreshB.none rfl))⟩
          · cases (show some _ = some o from ho)
            exact ⟨rfl, wp_conv rfl (hitem 10 (by decide) ⟨hpre 10 rfl, hout _ (by decide)⟩) (conv8 _ (Nat.mod_lt _ (by decide)) _) (h1 ⟨_, rfl⟩ _ _ (grown_refl _ none) rfl (nobl rfl) (FreshB.none rfl))⟩
          · cases (show some _ = some o from ho)
            exact ⟨rfl, wp_bin rfl rfl (hitem 11 (by decide) ⟨hpre 11 rfl, hout _ (by decide)⟩) (by kernel_rfl) (shl8 _ (Nat.mod_lt _ (by decide)) _) (h1 ⟨_, rfl⟩ _ _ (grown_refl _ none) rfl (nobl rfl) (FreshB.none rfl))⟩
          · cases (show some _ = some o from ho)
            exact ⟨rfl, wp_bin rfl (hitem 8 (by decide) ⟨hpre 8 rfl, hout _ (by decide)⟩) (hitem 12 (by decide) ⟨hpre 12 rfl, hout _ (by decide)⟩) (by kernel_rfl) (xor8 _ _ _) (h1 ⟨_, rfl⟩ _ _ (grown_refl _ none) rfl (nobl rfl) (FreshB.none rfl))⟩
          · cases (show some _ = some o from ho)
            exact ⟨rfl, wp_index rfl (hitem 2 (by decide) ⟨hpre 2 rfl, hout _ (by decide)⟩) (hitem 3 (by decide) ⟨hpre 3 rfl, hout _ (by decide)⟩) (index_hs _ _ _ _ hat _) (h1 ⟨_, rfl⟩ _ _ (grown_refl _ none) rfl (nobl rfl) (FreshB.none rfl))⟩
          · cases (show some _ = some o from ho)
            exact ⟨rfl, wp_index rfl (hitem 14 (by decide) ⟨hpre 14 rfl, hout _ (by decide)⟩) (hitem 5 (by decide) ⟨hpre 5 rfl, hout _ (by decide)⟩) (idx8 _ _ _ (by omega) _) (h1 ⟨_, rfl⟩ _ _ (grown_refl _ none) rfl (nobl rfl) (FreshB.none rfl))⟩
        · intro a wT hgT hend hap ha
          obtain ⟨f, hf⟩ : ∃ f : Nat → Value, f = fun t => a.tmps.getD t undef := ⟨_, rfl⟩
          have s126 : f 126 = .int .u8 (((z ^^^ UInt8.ofNat (2 ^ (by_ % 8))).toNat : Nat) : Int) := by rw [hf]; exact (hend 13 (by decide) (by decide)).1
          have s128 : f 128 = .pointer (some ⟨g5, at_ * 32 + by_ / 8, none⟩) := by rw [hf]; exact (hend 15 (by decide) (by decide)).1
          rw [← hf] at ha
          clear hend hap
          clear hf
          subst ha
          simp only [fill, tucS, Nat.reduceAdd, Nat.reduceBEq, Bool.or_false, Bool.or_true, cond_true, cond_false, List.drop_succ_cons, List.drop_zero, s126, s128]
          clear s126 s128
          have hcz : wT.cell? ⟨g5, at_ * 32 + by_ / 8, none⟩ = some (.int .u8 (z.toNat : Int)) := cell_of_cells (keep_of hu5 hgT) hz
          have hfz : wT.frozen? ⟨g5, at_ * 32 + by_ / 8, none⟩ = false := frozen_of_row wT _ _ _ _ (keep_of hu5 hgT)
          generalize z ^^^ UInt8.ofNat (2 ^ (by_ % 8)) = z'
          go_wp2_with fail
          go_meet
          have hwN : (wT.setCell ⟨g5, at_ * 32 + by_ / 8, none⟩ (.int .u8 (z'.toNat : Int))).heap[g5]? = some (.cells (cu5.setIfInBounds (at_ * 32 + by_ / 8) (bv z')) 23 (0, 0)) := heap_setCell_to (keep_of hu5 hgT) rfl
          have hwO : (wT.setCell ⟨g5, at_ * 32 + by_ / 8, none⟩ (.int .u8 (z'.toNat : Int))).heap[g4]? = some (.cells cu4 23 (0, 0)) := (Below.heap_setCell _ _ _ _ n45).trans (keep_of hu4 hgT)
          have hwS : (wT.setCell ⟨g5, at_ * 32 + by_ / 8, none⟩ (.int .u8 (z'.toNat : Int))).heap[wB.heap.size]? = some (.cells #[.int .i64 ((i : Int) + 1), .slice (some ⟨g5, 0, none⟩) 32 c5, .slice (some ⟨g2, 0, none⟩) 32 c2, .slice (some ⟨g4, 0, none⟩) 4 c4] 28 (0, 0)) := (Below.heap_setCell _ _ _ _ (Ne.symm nb5)).trans (keep_of h15 hgT)
          have hgE : wB.grownBy (wT.setCell ⟨g5, at_ * 32 + by_ / 8, none⟩ (.int .u8 (z'.toNat : Int))) none := grown_set (grown_same hgD hgT) (.inr fr5) _

          have r5 := rd_of_row hwN hz5 hM5 (by rw [Array.size_setIfInBounds]; exact hs5) (set_take ht5 _ z') (by rw [List.length_set]; exact hOl.out)
          have r4 := rd_of_row hwO hz4 hM4 hs4 ht4 hPl.out
          obtain ⟨f5, hf5, e5⟩ := parts_of _ (show (OL.set (at_ * 32 + by_ / 8) z').length = 32 * 32 by rw [List.length_set]; exact hOl.out)
          rw [e5] at r5
          exact turn_in hIl.out (hk.kept hgE) hgE hN7.out (hrT.kept hgE) hLb hi hf5 (shutF_len (seedR x0 (i + 1)) L) (by omega) hPl.out hz4 (fun _ => rfl) r5 (r2.kept hgE) r4 hwS
      · go_wp2_with fail
        go_meet
        have hE := heap_setCell_to (v := .slice (some ⟨g4, 32, none⟩) 3 (c4 - 1)) h15 (set_at3 _ _ _ _ _)
        have hgE : wB.grownBy (D.setCell ⟨wB.heap.size, 3, none⟩ (.slice (some ⟨g4, 32, none⟩) 3 (c4 - 1))) none := grown_set hgD (.inr (Nat.le_refl _)) _
        have r4 := rd_of_row ((Below.heap_setCell D ⟨wB.heap.size, 3, none⟩ (.slice (some ⟨g4, 32, none⟩) 3 (c4 - 1)) g4 nb4).trans hu4) hz4 hM4 hs4 ht4 hPl.out
        have r5 := rd_of_row ((Below.heap_setCell D ⟨wB.heap.size, 3, none⟩ (.slice (some ⟨g4, 32, none⟩) 3 (c4 - 1)) g5 nb5).trans hu5) hz5 hM5 hs5 ht5 hOl.out
        rw [eOL.out] at r5
        have r4' := RdAt.drop r4 32
        rw [← List.map_drop] at r4'
        exact turn_in hIl.out (hk.kept hgE) hgE hN7.out (hrT.kept hgE) hLb hi (openF_len (seedR x0 (i + 1)) L) (shutF_len (seedR x0 (i + 1)) L) (by omega) (by rw [List.length_drop, hPl.out]) (by omega) (fun h => absurd h (by decide)) r5 (r2.kept hgE) r4' hE
      · go_wp2_with fail
        go_meet
        rw [show ((i : Int) + 1) % 16 + 1 = (h' : Int) + 1 by omega]
        have hE := heap_setCell_to (v := .int .i64 ((h' : Int) + 1)) h15 (set_at0 _ _ _ _ _)
        have hgE : wB.grownBy (D.setCell ⟨wB.heap.size, 0, none⟩ (.int .i64 ((h' : Int) + 1))) none := grown_set hgD (.inr (Nat.le_refl _)) _
        have r4 := rd_of_row ((Below.heap_setCell D ⟨wB.heap.size, 0, none⟩ (.int .i64 ((h' : Int) + 1)) g4 nb4).trans hu4) hz4 hM4 hs4 ht4 hPl.out
        have r5 := rd_of_row ((Below.heap_setCell D ⟨wB.heap.size, 0, none⟩ (.int .i64 ((h' : Int) + 1)) g5 nb5).trans hu5) hz5 hM5 hs5 ht5 hOl.out
        rw [eOL.out] at r5
        exact turn_in hIl.out (hk.kept hgE) hgE hN7.out (hrT.kept hgE) hLb hh16 (openF_len (seedR x0 (i + 1)) L) (shutF_len (seedR x0 (i + 1)) L) (by omega) hPl.out hz4 (fun _ => rfl) r5 (r2.kept hgE) r4 hE
    case rest =>
      obtain ⟨H, J, vb, s1, s2, s3, rfl, h15', hHJ, hVw, hva, hvr⟩ := hcut
      have h15 := h15'
      clear h15' hu4 hu5 hrT r2
      replace hI7 := keep_of hI7 hVw
      replace hk := hk.kept hVw
      have hgc := grown_same hg0 hVw
      go_wp2_with fail
      by_cases hne : H = J
      · obtain rfl : J = H := hne.symm
        refine wp_region_gc (al := tudAl) 29 (N := 163) (S := tudS) (die := tudDie) (own := tudOwn) (F := tudF N7 c7 wB.heap.size J vb s1 s2 s3 I A7) (by kernel_rfl) (Nat.le_of_ble_eq_true (by kernel_rfl)) (fun h => absurd (show 29 < 29 from h) (Nat.lt_irrefl _)) (fun h => absurd (show 29 < 29 from h) (Nat.lt_irrefl _)) (by kernel_rfl) (by kernel_rfl) (Nat.le_of_ble_eq_true (by kernel_rfl)) (tudF_lasts N7 c7 wB.heap.size J vb s1 s2 s3 I A7) ?_ ?_
        · intro i o L' a w K hi ho hg hLi hout hpre houter hitem hap' h1 h2 h3 h4
          have hcases : i = 0 ∨ i = 1 ∨ i = 2 ∨ i = 3 ∨ i = 4 ∨ i = 5 ∨ i = 6 ∨ i = 7 ∨ i = 8 ∨ i = 9 ∨ i = 10 ∨ i = 11 ∨ i = 12 ∨ i = 13 ∨ i = 14 ∨ i = 15 ∨ i = 16 ∨ i = 17 ∨ i = 18 ∨ i = 19 ∨ i = 20 ∨ i = 21 ∨ i = 22 ∨ i = 23 ∨ i = 24 ∨ i = 25 ∨ i = 26 ∨ i = 27 ∨ i = 28 := by omega
          rcases hcases with rfl | rfl | rfl | rfl | rfl | rfl | rfl | rfl | rfl | rfl | rfl | rfl | rfl | rfl | rfl | rfl | rfl | rfl | rfl | rfl | rfl | rfl | rfl | rfl | rfl | rfl | rfl | rfl | rfl
          · cases (show some _ = some o from ho)
            refine .inl ?_
            exact ⟨rfl, wp_load_row 23 _ rfl _ (houter _ rfl) _ (I.map bv).toArray (0, 0) _ (keep_of hI7 hg) Tryd.underlying23 rfl (hashV_size _ (hIl.out)) (h1 ⟨_, rfl⟩ _ _ (grown_refl _ none) rfl (nobl (blocks_bytes _)) (FreshB.none (blocks_bytes _)))⟩
          · cases (show some _ = some o from ho)
            refine .inl ?_
            exact ⟨rfl, wp_move rfl (h1 ⟨_, rfl⟩ _ _ (grown_refl _ none) (houter _ rfl) (by rw [houter _ rfl]; exact nobl rfl) (by rw [houter _ rfl]; exact FreshB.none rfl))⟩
          · cases (show some _ = some o from ho)
            refine .inl ?_
            exact ⟨rfl, wp_move rfl (h1 ⟨_, rfl⟩ _ _ (grown_refl _ none) (houter _ rfl) (by rw [houter _ rfl]; exact nobl rfl) (by rw [houter _ rfl]; exact FreshB.none rfl))⟩
          · cases (show some _ = some o from ho)
            refine .inl ?_
            exact ⟨rfl, wp_load_row 28 _ rfl _ (houter _ rfl) _ #[.int .i64 J, s1, s2, s3] (0, 0) _ (keep_of h15 hg) Tryd.underlying28 rfl (size_sig) (h1 ⟨_, rfl⟩ _ _ (grown_refl _ none) rfl (nobl rfl) (FreshB.none rfl))⟩
          · cases (show some _ = some o from ho)
            refine .inl ?_
            have x135 : a.eval (.tmp 135) = (.agg (I.map bv).toArray) := hitem 0 (by decide) ⟨hpre 0 rfl, hout _ (by decide)⟩
            have x136 : a.eval (.tmp 136) = .int .i64 J := hitem 1 (by decide) ⟨hpre 1 rfl, hout _ (by decide)⟩
            have x137 : a.eval (.tmp 137) = .slice A7 N7 c7 := hitem 2 (by decide) ⟨hpre 2 rfl, hout _ (by decide)⟩
            have x138 : a.eval (.tmp 138) = (.agg #[.int .i64 J, s1, s2, s3]) := hitem 3 (by decide) ⟨hpre 3 rfl, hout _ (by decide)⟩
            refine ⟨rfl, wp_call rfl Tryd.func10 (by kernel_rfl) (by kernel_rfl) (args := #[(.agg (I.map bv).toArray), .int .i64 J, .slice A7 N7 c7, .agg #[.int .i64 J, s1, s2, s3]]) (by simp [x135, x136, x137, x138]) ((hva w hg).mono ?_)⟩
            rintro e w' ⟨rfl, hg'⟩
            exact ⟨_, rfl, h1 ⟨_, rfl⟩ _ _ hg' rfl (nobl rfl) (FreshB.none rfl)⟩
          · cases (show some _ = some o from ho)
            refine .inl ?_
            exact ⟨rfl, wp_load_row 23 _ rfl _ (houter _ rfl) _ (I.map bv).toArray (0, 0) _ (keep_of hI7 hg) Tryd.underlying23 rfl (hashV_size _ (hIl.out)) (h1 ⟨_, rfl⟩ _ _ (grown_refl _ none) rfl (nobl (blocks_bytes _)) (FreshB.none (blocks_bytes _)))⟩
          · cases (show some _ = some o from ho)
            refine .inl ?_
            exact ⟨rfl, wp_move rfl (h1 ⟨_, rfl⟩ _ _ (grown_refl _ none) (houter _ rfl) (by rw [houter _ rfl]; exact nobl rfl) (by rw [houter _ rfl]; exact FreshB.none rfl))⟩
          · cases (show some _ = some o from ho)
            refine .inl ?_
            exact ⟨rfl, wp_move rfl (h1 ⟨_, rfl⟩ _ _ (grown_refl _ none) (houter _ rfl) (by rw [houter _ rfl]; exact nobl rfl) (by rw [houter _ rfl]; exact FreshB.none rfl))⟩
          · cases (show some _ = some o from ho)
            refine .inl ?_
            exact ⟨rfl, wp_load_row 28 _ rfl _ (houter _ rfl) _ #[.int .i64 J, s1, s2, s3] (0, 0) _ (keep_of h15 hg) Tryd.underlying28 rfl (size_sig) (h1 ⟨_, rfl⟩ _ _ (grown_refl _ none) rfl (nobl rfl) (FreshB.none rfl))⟩
          · cases (show some _ = some o from ho)
            refine .inl ?_
            have x140 : a.eval (.tmp 140) = (.agg (I.map bv).toArray) := hitem 5 (by decide) ⟨hpre 5 rfl, hout _ (by decide)⟩
            have x141 : a.eval (.tmp 141) = .int .i64 J := hitem 6 (by decide) ⟨hpre 6 rfl, hout _ (by decide)⟩
            have x142 : a.eval (.tmp 142) = .slice A7 N7 c7 := hitem 7 (by decide) ⟨hpre 7 rfl, hout _ (by decide)⟩
            have x143 : a.eval (.tmp 143) = (.agg #[.int .i64 J, s1, s2, s3]) := hitem 8 (by decide) ⟨hpre 8 rfl, hout _ (by decide)⟩
            refine ⟨rfl, wp_call rfl Tryd.func17 (by kernel_rfl) (by kernel_rfl) (args := #[(.agg (I.map bv).toArray), .int .i64 J, .slice A7 N7 c7, .agg #[.int .i64 J, s1, s2, s3]]) (by simp [x140, x141, x142, x143]) ((hvr w hg).mono ?_)⟩
            rintro e w' ⟨rfl, hg'⟩
            exact ⟨_, rfl, h1 ⟨_, rfl⟩ _ _ hg' rfl (nobl rfl) (FreshB.none rfl)⟩
          · cases (show some _ = some o from ho)
            refine .inl ?_
            exact ⟨rfl, wp_bin rfl (hitem 4 (by decide) ⟨hpre 4 rfl, hout _ (by decide)⟩) (hitem 9 (by decide) ⟨hpre 9 rfl, hout _ (by decide)⟩) (guard_boolL _ _ _ _ _) (eqB_same _ _) (h1 ⟨_, rfl⟩ _ _ (grown_refl _ none) rfl (nobl rfl) (FreshB.none rfl))⟩
          · cases (show some _ = some o from ho)
            refine .inl ?_
            have hx := hitem 10 (by decide) ⟨hpre 10 rfl, hout _ (by decide)⟩
            exact ⟨rfl, wp_move rfl (h1 ⟨_, rfl⟩ _ _ (grown_refl _ none) hx (by rw [show a.eval (.tmp 145) = .bool true from hx]; exact nobl rfl) (by rw [show a.eval (.tmp 145) = .bool true from hx]; exact FreshB.none rfl))⟩
          · cases (show some _ = some o from ho)
            refine .inl ?_
            exact ⟨wanted_of (j := 11) rfl rfl (hitem 11 (by decide) ⟨hpre 11 rfl, hout _ (by decide)⟩), wp_field rfl (houter 15 rfl) (field_S0p _) (h1 ⟨_, rfl⟩ _ _ (grown_refl _ none) rfl (nobl rfl) (FreshB.none rfl))⟩
          · cases (show some _ = some o from ho)
            refine .inl ?_
            exact ⟨wanted_of (j := 11) rfl rfl (hitem 11 (by decide) ⟨hpre 11 rfl, hout _ (by decide)⟩), wp_loadC rfl (hitem 12 (by decide) ⟨hpre 12 rfl, hout _ (by decide)⟩) (load_cell (cell_at0 (keep_of h15 hg)) Tryd.underlying3 rfl) (h1 ⟨_, rfl⟩ _ _ (grown_refl _ none) rfl (nobl rfl) (FreshB.none rfl))⟩
          · cases (show some _ = some o from ho)
            refine .inl ?_
            exact ⟨wanted_of (j := 11) rfl rfl (hitem 11 (by decide) ⟨hpre 11 rfl, hout _ (by decide)⟩), wp_move rfl (h1 ⟨_, rfl⟩ _ _ (grown_refl _ none) (houter _ rfl) (by rw [houter _ rfl]; exact nobl rfl) (by rw [houter _ rfl]; exact FreshB.none rfl))⟩
          · cases (show some _ = some o from ho)
            refine .inl ?_
            exact ⟨wanted_of (j := 11) rfl rfl (hitem 11 (by decide) ⟨hpre 11 rfl, hout _ (by decide)⟩), wp_bin rfl (hitem 13 (by decide) ⟨hpre 13 rfl, hout _ (by decide)⟩) (hitem 14 (by decide) ⟨hpre 14 rfl, hout _ (by decide)⟩) (guard_int _ _ _ _ _) (eql_i64 _ _ _ (rfl)) (h1 ⟨_, rfl⟩ _ _ (grown_refl _ none) rfl (nobl rfl) (FreshB.none rfl))⟩
          · cases (show some _ = some o from ho)
            refine .inl ?_
            have hx := hitem 15 (by decide) ⟨hpre 15 rfl, hout _ (by decide)⟩
            exact ⟨wanted_of (j := 11) rfl rfl (hitem 11 (by decide) ⟨hpre 11 rfl, hout _ (by decide)⟩), wp_move rfl (h1 ⟨_, rfl⟩ _ _ (grown_refl _ none) hx (by rw [show a.eval (.tmp 150) = .bool true from hx]; exact nobl rfl) (by rw [show a.eval (.tmp 150) = .bool true from hx]; exact FreshB.none rfl))⟩
          · cases (show some _ = some o from ho)
            exact .inr ⟨unwanted_false (j := 16) rfl rfl (hitem 16 (by decide) ⟨hpre 16 rfl, hout _ (by decide)⟩), h1 ⟨_, rfl⟩ _ _ (grown_refl _ none) rfl (nobl rfl) (FreshB.none rfl)⟩
          · cases (show some _ = some o from ho)
            exact .inr ⟨unwanted_false (j := 16) rfl rfl (hitem 16 (by decide) ⟨hpre 16 rfl, hout _ (by decide)⟩), h1 ⟨_, rfl⟩ _ _ (grown_refl _ none) rfl (nobl rfl) (FreshB.none rfl)⟩
          · cases (show some _ = some o from ho)
            exact .inr ⟨unwanted_false (j := 16) rfl rfl (hitem 16 (by decide) ⟨hpre 16 rfl, hout _ (by decide)⟩), h1 ⟨_, rfl⟩ _ _ (grown_refl _ none) rfl (nobl rfl) (FreshB.none rfl)⟩
          · cases (show some _ = some o from ho)
            exact .inr ⟨unwanted_false (j := 16) rfl rfl (hitem 16 (by decide) ⟨hpre 16 rfl, hout _ (by decide)⟩), h1 ⟨_, rfl⟩ _ _ (grown_refl _ none) rfl (nobl rfl) (FreshB.none rfl)⟩
          · cases (show some _ = some o from ho)
            exact .inr ⟨unwanted_false (j := 16) rfl rfl (hitem 16 (by decide) ⟨hpre 16 rfl, hout _ (by decide)⟩), h1 ⟨_, rfl⟩ _ _ (grown_refl _ none) rfl (nobl rfl) (FreshB.none rfl)⟩
          · cases (show some _ = some o from ho)
            exact .inr ⟨unwanted_false (j := 16) rfl rfl (hitem 16 (by decide) ⟨hpre 16 rfl, hout _ (by decide)⟩), h1 ⟨_, rfl⟩ _ _ (grown_refl _ none) rfl (nobl rfl) (FreshB.none rfl)⟩
          · cases (show some _ = some o from ho)
            refine .inl ?_
            have hc := hitem 16 (by decide) ⟨hpre 16 rfl, hout _ (by decide)⟩
            exact ⟨wanted_of (j := 11) rfl rfl (hitem 11 (by decide) ⟨hpre 11 rfl, hout _ (by decide)⟩), wp_pick rfl hc (h1 ⟨_, rfl⟩ _ _ (grown_refl _ none) rfl (nobl rfl) (FreshB.none rfl))⟩
          · cases (show some _ = some o from ho)
            refine .inl ?_
            have hc := hitem 11 (by decide) ⟨hpre 11 rfl, hout _ (by decide)⟩
            have hx := hitem 23 (by decide) ⟨hpre 23 rfl, hout _ (by decide)⟩
            exact ⟨rfl, wp_pick rfl hc (h1 ⟨_, rfl⟩ _ _ (grown_refl _ none) hx (by rw [show a.eval (.tmp 158) = .bool true from hx]; exact nobl rfl) (by rw [show a.eval (.tmp 158) = .bool true from hx]; exact FreshB.none rfl))⟩
          · cases (show some _ = some o from ho)
            refine .inl ?_
            have hx := hitem 24 (by decide) ⟨hpre 24 rfl, hout _ (by decide)⟩
            exact ⟨rfl, wp_move rfl (h1 ⟨_, rfl⟩ _ _ (grown_refl _ none) hx (by rw [show a.eval (.tmp 159) = .bool true from hx]; exact nobl rfl) (by rw [show a.eval (.tmp 159) = .bool true from hx]; exact FreshB.none rfl))⟩
          · cases (show some _ = some o from ho)
            refine .inl ?_
            refine ⟨wanted_of (j := 25) rfl rfl (hitem 25 (by decide) ⟨hpre 25 rfl, hout _ (by decide)⟩), wp_call rfl Tryd.func3 (by kernel_rfl) (by kernel_rfl) (args := #[]) (by simp) ((RingRuns_any w (hk.kept hg)).mono ?_)⟩
            rintro e w' ⟨rfl, hg'⟩
            exact ⟨_, rfl, h1 ⟨_, rfl⟩ _ _ hg' rfl (nobl rfl) (FreshB.none rfl)⟩
          · cases (show some _ = some o from ho)
            refine .inl ?_
            have hc := hitem 25 (by decide) ⟨hpre 25 rfl, hout _ (by decide)⟩
            have hx := hitem 26 (by decide) ⟨hpre 26 rfl, hout _ (by decide)⟩
            exact ⟨rfl, wp_pick rfl hc (h1 ⟨_, rfl⟩ _ _ (grown_refl _ none) hx (by rw [show a.eval (.tmp 161) = .bool true from hx]; exact nobl rfl) (by rw [show a.eval (.tmp 161) = .bool true from hx]; exact FreshB.none rfl))⟩
          · cases (show some _ = some o from ho)
            refine .inl ?_
            have hx := hitem 27 (by decide) ⟨hpre 27 rfl, hout _ (by decide)⟩
            exact ⟨rfl, wp_assign rfl (h1 ⟨_, rfl⟩ _ _ (grown_refl _ none) hx (by rw [show a.eval (.tmp 162) = .bool true from hx]; exact nobl rfl) (by rw [show a.eval (.tmp 162) = .bool true from hx]; exact FreshB.none rfl))⟩
        · intro a wT hgT hend hap ha
          obtain ⟨f, hf⟩ : ∃ f : Nat → Value, f = fun t => a.tmps.getD t undef := ⟨_, rfl⟩
          have s10 : f 10 = .bool true := by rw [hf]; exact (hend 28 (by decide) (by decide)).1
          rw [← hf] at ha
          clear hend hap
          clear hf
          subst ha
          simp only [fill, tudS, Nat.reduceAdd, Nat.reduceBEq, Bool.or_false, Bool.or_true, cond_true, cond_false, List.drop_succ_cons, List.drop_zero, s10]
          clear s10
          go_wp2_with fail
          go_ret
          exact ⟨rfl, grown_same hgc hgT⟩
      · obtain rfl := hHJ.resolve_left hne
        refine wp_region_gc (al := tueAl) 29 (N := 163) (S := tueS) (die := tueDie) (own := tueOwn) (F := tueF N7 c7 wB.heap.size H J s1 s2 s3 I A7) (by kernel_rfl) (Nat.le_of_ble_eq_true (by kernel_rfl)) (fun h => absurd (show 29 < 29 from h) (Nat.lt_irrefl _)) (fun h => absurd (show 29 < 29 from h) (Nat.lt_irrefl _)) (by kernel_rfl) (by kernel_rfl) (Nat.le_of_ble_eq_true (by kernel_rfl)) (tueF_lasts N7 c7 wB.heap.size H J s1 s2 s3 I A7) ?_ ?_
        · intro i o L' a w K hi ho hg hLi hout hpre houter hitem hap' h1 h2 h3 h4
          have hcases : i = 0 ∨ i = 1 ∨ i = 2 ∨ i = 3 ∨ i = 4 ∨ i = 5 ∨ i = 6 ∨ i = 7 ∨ i = 8 ∨ i = 9 ∨ i = 10 ∨ i = 11 ∨ i = 12 ∨ i = 13 ∨ i = 14 ∨ i = 15 ∨ i = 16 ∨ i = 17 ∨ i = 18 ∨ i = 19 ∨ i = 20 ∨ i = 21 ∨ i = 22 ∨ i = 23 ∨ i = 24 ∨ i = 25 ∨ i = 26 ∨ i = 27 ∨ i = 28 := by omega
          rcases hcases with rfl | rfl | rfl | rfl | rfl | rfl | rfl | rfl | rfl | rfl | rfl | rfl | rfl | rfl | rfl | rfl | rfl | rfl | rfl | rfl | rfl | rfl | rfl | rfl | rfl | rfl | rfl | rfl | rfl
          · cases (show some _ = some o from ho)
            refine .inl ?_
            exact ⟨rfl, wp_load_row 23 _ rfl _ (houter _ rfl) _ (I.map bv).toArray (0, 0) _ (keep_of hI7 hg) Tryd.underlying23 rfl (hashV_size _ (hIl.out)) (h1 ⟨_, rfl⟩ _ _ (grown_refl _ none) rfl (nobl (blocks_bytes _)) (FreshB.none (blocks_bytes _)))⟩
          · cases (show some _ = some o from ho)
            refine .inl ?_
            exact ⟨rfl, wp_move rfl (h1 ⟨_, rfl⟩ _ _ (grown_refl _ none) (houter _ rfl) (by rw [houter _ rfl]; exact nobl rfl) (by rw [houter _ rfl]; exact FreshB.none rfl))⟩
          · cases (show some _ = some o from ho)
            refine .inl ?_
            exact ⟨rfl, wp_move rfl (h1 ⟨_, rfl⟩ _ _ (grown_refl _ none) (houter _ rfl) (by rw [houter _ rfl]; exact nobl rfl) (by rw [houter _ rfl]; exact FreshB.none rfl))⟩
          · cases (show some _ = some o from ho)
            refine .inl ?_
            exact ⟨rfl, wp_load_row 28 _ rfl _ (houter _ rfl) _ #[.int .i64 H, s1, s2, s3] (0, 0) _ (keep_of h15 hg) Tryd.underlying28 rfl (size_sig) (h1 ⟨_, rfl⟩ _ _ (grown_refl _ none) rfl (nobl rfl) (FreshB.none rfl))⟩
          · cases (show some _ = some o from ho)
            refine .inl ?_
            have x135 : a.eval (.tmp 135) = (.agg (I.map bv).toArray) := hitem 0 (by decide) ⟨hpre 0 rfl, hout _ (by decide)⟩
            have x136 : a.eval (.tmp 136) = .int .i64 J := hitem 1 (by decide) ⟨hpre 1 rfl, hout _ (by decide)⟩
            have x137 : a.eval (.tmp 137) = .slice A7 N7 c7 := hitem 2 (by decide) ⟨hpre 2 rfl, hout _ (by decide)⟩
            have x138 : a.eval (.tmp 138) = (.agg #[.int .i64 H, s1, s2, s3]) := hitem 3 (by decide) ⟨hpre 3 rfl, hout _ (by decide)⟩
            refine ⟨rfl, wp_call rfl Tryd.func10 (by kernel_rfl) (by kernel_rfl) (args := #[(.agg (I.map bv).toArray), .int .i64 J, .slice A7 N7 c7, .agg #[.int .i64 H, s1, s2, s3]]) (by simp [x135, x136, x137, x138]) ((hva w hg).mono ?_)⟩
            rintro e w' ⟨rfl, hg'⟩
            exact ⟨_, rfl, h1 ⟨_, rfl⟩ _ _ hg' rfl (nobl rfl) (FreshB.none rfl)⟩
          · cases (show some _ = some o from ho)
            refine .inl ?_
            exact ⟨rfl, wp_load_row 23 _ rfl _ (houter _ rfl) _ (I.map bv).toArray (0, 0) _ (keep_of hI7 hg) Tryd.underlying23 rfl (hashV_size _ (hIl.out)) (h1 ⟨_, rfl⟩ _ _ (grown_refl _ none) rfl (nobl (blocks_bytes _)) (FreshB.none (blocks_bytes _)))⟩
          · cases (show some _ = some o from ho)
            refine .inl ?_
            exact ⟨rfl, wp_move rfl (h1 ⟨_, rfl⟩ _ _ (grown_refl _ none) (houter _ rfl) (by rw [houter _ rfl]; exact nobl rfl) (by rw [houter _ rfl]; exact FreshB.none rfl))⟩
          · cases (show some _ = some o from ho)
            refine .inl ?_
            exact ⟨rfl, wp_move rfl (h1 ⟨_, rfl⟩ _ _ (grown_refl _ none) (houter _ rfl) (by rw [houter _ rfl]; exact nobl rfl) (by rw [houter _ rfl]; exact FreshB.none rfl))⟩
          · cases (show some _ = some o from ho)
            refine .inl ?_
            exact ⟨rfl, wp_load_row 28 _ rfl _ (houter _ rfl) _ #[.int .i64 H, s1, s2, s3] (0, 0) _ (keep_of h15 hg) Tryd.underlying28 rfl (size_sig) (h1 ⟨_, rfl⟩ _ _ (grown_refl _ none) rfl (nobl rfl) (FreshB.none rfl))⟩
          · cases (show some _ = some o from ho)
            refine .inl ?_
            have x140 : a.eval (.tmp 140) = (.agg (I.map bv).toArray) := hitem 5 (by decide) ⟨hpre 5 rfl, hout _ (by decide)⟩
            have x141 : a.eval (.tmp 141) = .int .i64 J := hitem 6 (by decide) ⟨hpre 6 rfl, hout _ (by decide)⟩
            have x142 : a.eval (.tmp 142) = .slice A7 N7 c7 := hitem 7 (by decide) ⟨hpre 7 rfl, hout _ (by decide)⟩
            have x143 : a.eval (.tmp 143) = (.agg #[.int .i64 H, s1, s2, s3]) := hitem 8 (by decide) ⟨hpre 8 rfl, hout _ (by decide)⟩
            refine ⟨rfl, wp_call rfl Tryd.func17 (by kernel_rfl) (by kernel_rfl) (args := #[(.agg (I.map bv).toArray), .int .i64 J, .slice A7 N7 c7, .agg #[.int .i64 H, s1, s2, s3]]) (by simp [x140, x141, x142, x143]) ((hvr w hg).mono ?_)⟩
            rintro e w' ⟨rfl, hg'⟩
            exact ⟨_, rfl, h1 ⟨_, rfl⟩ _ _ hg' rfl (nobl rfl) (FreshB.none rfl)⟩
          · cases (show some _ = some o from ho)
            refine .inl ?_
            exact ⟨rfl, wp_bin rfl (hitem 4 (by decide) ⟨hpre 4 rfl, hout _ (by decide)⟩) (hitem 9 (by decide) ⟨hpre 9 rfl, hout _ (by decide)⟩) (guard_boolL _ _ _ _ _) (eqB_same _ _) (h1 ⟨_, rfl⟩ _ _ (grown_refl _ none) rfl (nobl rfl) (FreshB.none rfl))⟩
          · cases (show some _ = some o from ho)
            refine .inl ?_
            have hx := hitem 10 (by decide) ⟨hpre 10 rfl, hout _ (by decide)⟩
            exact ⟨rfl, wp_move rfl (h1 ⟨_, rfl⟩ _ _ (grown_refl _ none) hx (by rw [show a.eval (.tmp 145) = .bool true from hx]; exact nobl rfl) (by rw [show a.eval (.tmp 145) = .bool true from hx]; exact FreshB.none rfl))⟩
          · cases (show some _ = some o from ho)
            refine .inl ?_
            exact ⟨wanted_of (j := 11) rfl rfl (hitem 11 (by decide) ⟨hpre 11 rfl, hout _ (by decide)⟩), wp_field rfl (houter 15 rfl) (field_S0p _) (h1 ⟨_, rfl⟩ _ _ (grown_refl _ none) rfl (nobl rfl) (FreshB.none rfl))⟩
          · cases (show some _ = some o from ho)
            refine .inl ?_
            exact ⟨wanted_of (j := 11) rfl rfl (hitem 11 (by decide) ⟨hpre 11 rfl, hout _ (by decide)⟩), wp_loadC rfl (hitem 12 (by decide) ⟨hpre 12 rfl, hout _ (by decide)⟩) (load_cell (cell_at0 (keep_of h15 hg)) Tryd.underlying3 rfl) (h1 ⟨_, rfl⟩ _ _ (grown_refl _ none) rfl (nobl rfl) (FreshB.none rfl))⟩
          · cases (show some _ = some o from ho)
            refine .inl ?_
            exact ⟨wanted_of (j := 11) rfl rfl (hitem 11 (by decide) ⟨hpre 11 rfl, hout _ (by decide)⟩), wp_move rfl (h1 ⟨_, rfl⟩ _ _ (grown_refl _ none) (houter _ rfl) (by rw [houter _ rfl]; exact nobl rfl) (by rw [houter _ rfl]; exact FreshB.none rfl))⟩
          · cases (show some _ = some o from ho)
            refine .inl ?_
            exact ⟨wanted_of (j := 11) rfl rfl (hitem 11 (by decide) ⟨hpre 11 rfl, hout _ (by decide)⟩), wp_bin rfl (hitem 13 (by decide) ⟨hpre 13 rfl, hout _ (by decide)⟩) (hitem 14 (by decide) ⟨hpre 14 rfl, hout _ (by decide)⟩) (guard_int _ _ _ _ _) (eql_no _ _ _ hne) (h1 ⟨_, rfl⟩ _ _ (grown_refl _ none) rfl (nobl rfl) (FreshB.none rfl))⟩
          · cases (show some _ = some o from ho)
            refine .inl ?_
            have hx := hitem 15 (by decide) ⟨hpre 15 rfl, hout _ (by decide)⟩
            exact ⟨wanted_of (j := 11) rfl rfl (hitem 11 (by decide) ⟨hpre 11 rfl, hout _ (by decide)⟩), wp_move rfl (h1 ⟨_, rfl⟩ _ _ (grown_refl _ none) hx (by rw [show a.eval (.tmp 150) = .bool false from hx]; exact nobl rfl) (by rw [show a.eval (.tmp 150) = .bool false from hx]; exact FreshB.none rfl))⟩
          · cases (show some _ = some o from ho)
            refine .inl ?_
            exact ⟨wanted_not (j := 16) rfl rfl (hitem 16 (by decide) ⟨hpre 16 rfl, hout _ (by decide)⟩), wp_load_row 23 _ rfl _ (houter _ rfl) _ (I.map bv).toArray (0, 0) _ (keep_of hI7 hg) Tryd.underlying23 rfl (hashV_size _ (hIl.out)) (h1 ⟨_, rfl⟩ _ _ (grown_refl _ none) rfl (nobl (blocks_bytes _)) (FreshB.none (blocks_bytes _)))⟩
          · cases (show some _ = some o from ho)
            refine .inl ?_
            exact ⟨wanted_not (j := 16) rfl rfl (hitem 16 (by decide) ⟨hpre 16 rfl, hout _ (by decide)⟩), wp_move rfl (h1 ⟨_, rfl⟩ _ _ (grown_refl _ none) (houter _ rfl) (by rw [houter _ rfl]; exact nobl rfl) (by rw [houter _ rfl]; exact FreshB.none rfl))⟩
          · cases (show some _ = some o from ho)
            refine .inl ?_
            exact ⟨wanted_not (j := 16) rfl rfl (hitem 16 (by decide) ⟨hpre 16 rfl, hout _ (by decide)⟩), wp_move rfl (h1 ⟨_, rfl⟩ _ _ (grown_refl _ none) (houter _ rfl) (by rw [houter _ rfl]; exact nobl rfl) (by rw [houter _ rfl]; exact FreshB.none rfl))⟩
          · cases (show some _ = some o from ho)
            refine .inl ?_
            exact ⟨wanted_not (j := 16) rfl rfl (hitem 16 (by decide) ⟨hpre 16 rfl, hout _ (by decide)⟩), wp_load_row 28 _ rfl _ (houter _ rfl) _ #[.int .i64 H, s1, s2, s3] (0, 0) _ (keep_of h15 hg) Tryd.underlying28 rfl (size_sig) (h1 ⟨_, rfl⟩ _ _ (grown_refl _ none) rfl (nobl rfl) (FreshB.none rfl))⟩
          · cases (show some _ = some o from ho)
            refine .inl ?_
            have x152 : a.eval (.tmp 152) = (.agg (I.map bv).toArray) := hitem 17 (by decide) ⟨hpre 17 rfl, hout _ (by decide)⟩
            have x153 : a.eval (.tmp 153) = .int .i64 J := hitem 18 (by decide) ⟨hpre 18 rfl, hout _ (by decide)⟩
            have x154 : a.eval (.tmp 154) = .slice A7 N7 c7 := hitem 19 (by decide) ⟨hpre 19 rfl, hout _ (by decide)⟩
            have x155 : a.eval (.tmp 155) = (.agg #[.int .i64 H, s1, s2, s3]) := hitem 20 (by decide) ⟨hpre 20 rfl, hout _ (by decide)⟩
            refine ⟨wanted_not (j := 16) rfl rfl (hitem 16 (by decide) ⟨hpre 16 rfl, hout _ (by decide)⟩), wp_call rfl Tryd.func10 (by kernel_rfl) (by kernel_rfl) (args := #[(.agg (I.map bv).toArray), .int .i64 J, .slice A7 N7 c7, .agg #[.int .i64 H, s1, s2, s3]]) (by simp [x152, x153, x154, x155]) ((hva w hg).mono ?_)⟩
            rintro e w' ⟨rfl, hg'⟩
            exact ⟨_, rfl, h1 ⟨_, rfl⟩ _ _ hg' rfl (nobl rfl) (FreshB.none rfl)⟩
          · cases (show some _ = some o from ho)
            refine .inl ?_
            exact ⟨wanted_not (j := 16) rfl rfl (hitem 16 (by decide) ⟨hpre 16 rfl, hout _ (by decide)⟩), wp_not rfl (hitem 21 (by decide) ⟨hpre 21 rfl, hout _ (by decide)⟩) (h1 ⟨_, rfl⟩ _ _ (grown_refl _ none) rfl (nobl rfl) (FreshB.none rfl))⟩
          · cases (show some _ = some o from ho)
            refine .inl ?_
            have hc := hitem 16 (by decide) ⟨hpre 16 rfl, hout _ (by decide)⟩
            have hx := hitem 22 (by decide) ⟨hpre 22 rfl, hout _ (by decide)⟩
            exact ⟨wanted_of (j := 11) rfl rfl (hitem 11 (by decide) ⟨hpre 11 rfl, hout _ (by decide)⟩), wp_pick_no rfl hc (h1 ⟨_, rfl⟩ _ _ (grown_refl _ none) hx (by rw [show a.eval (.tmp 157) = .bool true from hx]; exact nobl rfl) (by rw [show a.eval (.tmp 157) = .bool true from hx]; exact FreshB.none rfl))⟩
          · cases (show some _ = some o from ho)
            refine .inl ?_
            have hc := hitem 11 (by decide) ⟨hpre 11 rfl, hout _ (by decide)⟩
            have hx := hitem 23 (by decide) ⟨hpre 23 rfl, hout _ (by decide)⟩
            exact ⟨rfl, wp_pick rfl hc (h1 ⟨_, rfl⟩ _ _ (grown_refl _ none) hx (by rw [show a.eval (.tmp 158) = .bool true from hx]; exact nobl rfl) (by rw [show a.eval (.tmp 158) = .bool true from hx]; exact FreshB.none rfl))⟩
          · cases (show some _ = some o from ho)
            refine .inl ?_
            have hx := hitem 24 (by decide) ⟨hpre 24 rfl, hout _ (by decide)⟩
            exact ⟨rfl, wp_move rfl (h1 ⟨_, rfl⟩ _ _ (grown_refl _ none) hx (by rw [show a.eval (.tmp 159) = .bool true from hx]; exact nobl rfl) (by rw [show a.eval (.tmp 159) = .bool true from hx]; exact FreshB.none rfl))⟩
          · cases (show some _ = some o from ho)
            refine .inl ?_
            refine ⟨wanted_of (j := 25) rfl rfl (hitem 25 (by decide) ⟨hpre 25 rfl, hout _ (by decide)⟩), wp_call rfl Tryd.func3 (by kernel_rfl) (by kernel_rfl) (args := #[]) (by simp) ((RingRuns_any w (hk.kept hg)).mono ?_)⟩
            rintro e w' ⟨rfl, hg'⟩
            exact ⟨_, rfl, h1 ⟨_, rfl⟩ _ _ hg' rfl (nobl rfl) (FreshB.none rfl)⟩
          · cases (show some _ = some o from ho)
            refine .inl ?_
            have hc := hitem 25 (by decide) ⟨hpre 25 rfl, hout _ (by decide)⟩
            have hx := hitem 26 (by decide) ⟨hpre 26 rfl, hout _ (by decide)⟩
            exact ⟨rfl, wp_pick rfl hc (h1 ⟨_, rfl⟩ _ _ (grown_refl _ none) hx (by rw [show a.eval (.tmp 161) = .bool true from hx]; exact nobl rfl) (by rw [show a.eval (.tmp 161) = .bool true from hx]; exact FreshB.none rfl))⟩
          · cases (show some _ = some o from ho)
            refine .inl ?_
            have hx := hitem 27 (by decide) ⟨hpre 27 rfl, hout _ (by decide)⟩
            exact ⟨rfl, wp_assign rfl (h1 ⟨_, rfl⟩ _ _ (grown_refl _ none) hx (by rw [show a.eval (.tmp 162) = .bool true from hx]; exact nobl rfl) (by rw [show a.eval (.tmp 162) = .bool true from hx]; exact FreshB.none rfl))⟩
        · intro a wT hgT hend hap ha
          obtain ⟨f, hf⟩ : ∃ f : Nat → Value, f = fun t => a.tmps.getD t undef := ⟨_, rfl⟩
          have s10 : f 10 = .bool true := by rw [hf]; exact (hend 28 (by decide) (by decide)).1
          rw [← hf] at ha
          clear hend hap
          clear hf
          subst ha
          simp only [fill, tueS, Nat.reduceAdd, Nat.reduceBEq, Bool.or_false, Bool.or_true, cond_true, cond_false, List.drop_succ_cons, List.drop_zero, s10]
          clear s10
          go_wp2_with fail
          go_ret
          exact ⟨rfl, grown_same hgc hgT⟩
end Go.Proofs.YtohdifimfhdhoaaDoor
