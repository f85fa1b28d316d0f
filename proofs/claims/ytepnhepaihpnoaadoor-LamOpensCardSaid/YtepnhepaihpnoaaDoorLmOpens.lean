/- The law on what signatures open: its contract. -/
import Derived.Test.YtepnhepaihpnoaaDoorLamZ
namespace Go.Proofs.YtepnhepaihpnoaaDoor
open Go.RowKit

theorem pubL_tag (s : List UInt8) (i v : Nat) : pubL s i v = tagL 112 (secretL s i v) := by unfold pubL publicL; exact Eq.refl _
theorem blocks_off {g o n c W : Nat} (h1 : g < W) : ∀ x ∈ blocksOf (.slice (some ⟨g, o, none⟩) n c), x < W := by
  intro x e
  have e' : x ∈ [g] := e
  rw [List.mem_singleton] at e'
  subst e'; exact h1
theorem guard_hneq (x y : Operand) (cs ds : Array Value) (w : World) : (eqGuard .neq 23 x y (.agg cs) (.agg ds)).run Tryd.prog w = .ok () w := by kernel_rfl
theorem neqH_false (x : List UInt8) (hx : x.length = 32) (w : World) : (binOp .neq 23 (.agg (x.map bv).toArray) (.agg (x.map bv).toArray)).run Tryd.prog w = .ok (.bool false) w := by
  rw [neq_hash x x hx hx w, beq_self_eq_true]; rfl
def oaS (t : Nat) : Bool := t == 7 || t == 15 || t == 16 || t == 17 || t == 18 || t == 19 || t == 20 || t == 21 || t == 22 || t == 23 || t == 24 || t == 25 || t == 26 || t == 27 || t == 28
def oaDie (k : Nat) : Nat := if k = 0 then 6 else if k = 6 then 14 else if k = 7 then 13 else 99
def oaOwn (k : Nat) : Bool := k == 0 || k == 6 || k == 7 || k == 13 || k == 14
def oaAl (k : Nat) : Bool := k == 1 || k == 2 || k == 5 || k == 8 || k == 9 || k == 12
def oaF (A1 A2 : Option Addr) (n1 n2 ca1 ca2 q1 q2 : Nat) (L1 L2 : List UInt8) : Nat → Value → World → Prop
  | 0 => fun v w => OwnB w v []
  | 1 => fun v _ => v = .slice A1 n1 ca1
  | 2 => fun v _ => v = .slice A1 n1 ca1
  | 3 => fun v _ => v = .int .i64 ((n1 : Nat) : Int)
  | 4 => fun v _ => v = .int .i64 ((q1 : Nat) : Int)
  | 5 => fun v _ => v = .slice A1 q1 ca1
  | 6 => fun v w => OwnB w v (L1)
  | 7 => fun v w => OwnB w v []
  | 8 => fun v _ => v = .slice A2 n2 ca2
  | 9 => fun v _ => v = .slice A2 n2 ca2
  | 10 => fun v _ => v = .int .i64 ((n2 : Nat) : Int)
  | 11 => fun v _ => v = .int .i64 ((q2 : Nat) : Int)
  | 12 => fun v _ => v = .slice A2 q2 ca2
  | 13 => fun v w => OwnB w v (L2)
  | 14 => fun v w => OwnB w v (L1)
  | _ => fun _ _ => True
theorem oaF_lasts (A1 A2 : Option Addr) (n1 n2 ca1 ca2 q1 q2 : Nat) (L1 L2 : List UInt8) : ∀ kq, LastsB oaAl kq (oaF A1 A2 n1 n2 ca1 ca2 q1 q2 L1 L2 kq)
  | 0 => LastsB.ownB rfl _
  | 1 => LastsB.val _
  | 2 => LastsB.val _
  | 3 => LastsB.val _
  | 4 => LastsB.val _
  | 5 => LastsB.val _
  | 6 => LastsB.ownB rfl _
  | 7 => LastsB.ownB rfl _
  | 8 => LastsB.val _
  | 9 => LastsB.val _
  | 10 => LastsB.val _
  | 11 => LastsB.val _
  | 12 => LastsB.val _
  | 13 => LastsB.ownB rfl _
  | 14 => LastsB.ownB rfl _
  | _ + 15 => fun _ _ _ _ _ _ _ => trivial
def obS (t : Nat) : Bool := t == 9 || t == 10 || t == 29 || t == 30 || t == 31 || t == 32 || t == 33 || t == 34
def obDie (k : Nat) : Nat := if k = 6 then 8 else 99
def obOwn (k : Nat) : Bool := k == 6 || k == 7 || k == 8
def obAl (k : Nat) : Bool := k == 6 || k == 7 || k == 8
def obF (x0 L1 L2 : List UInt8) (A7 A8 : Option Addr) (c7 c8 : Nat) : Nat → Value → World → Prop
  | 0 => fun v _ => v = (.agg (x0.map bv).toArray)
  | 1 => fun v _ => v = .slice A7 L1.length c7
  | 2 => SigAt (openF x0 L1) (shutF x0 L1)
  | 3 => fun v _ => v = (.agg (x0.map bv).toArray)
  | 4 => fun v _ => v = .slice A8 L2.length c8
  | 5 => SigAt (openF x0 L2) (shutF x0 L2)
  | 6 => Made #[.slice none 0 0, .slice none 0 0] 27
  | 7 => Made #[.slice none 0 0, .slice none 0 0] 27
  | 8 => Stored 27
  | _ => fun _ _ => True
theorem obF_lasts (x0 L1 L2 : List UInt8) (A7 A8 : Option Addr) (c7 c8 : Nat) : ∀ kq, LastsB obAl kq (obF x0 L1 L2 A7 A8 c7 c8 kq)
  | 0 => LastsB.val _
  | 1 => LastsB.val _
  | 2 => LastsB.sig rfl _ _
  | 3 => LastsB.val _
  | 4 => LastsB.val _
  | 5 => LastsB.sig rfl _ _
  | 6 => LastsB.made rfl _ _
  | 7 => LastsB.made rfl _ _
  | 8 => LastsB.stored rfl _
  | _ + 9 => fun _ _ _ _ _ _ _ => trivial
def ocS (t : Nat) : Bool := t == 12 || t == 13 || t == 60 || t == 61 || t == 62 || t == 63 || t == 64 || t == 65 || t == 66 || t == 67 || t == 68 || t == 69 || t == 70 || t == 71 || t == 72 || t == 73
def ocDie (k : Nat) : Nat := if k = 14 then 16 else 99
def ocOwn (k : Nat) : Bool := k == 14 || k == 15 || k == 16
def ocAl (k : Nat) : Bool := k == 14 || k == 15 || k == 16
def ocF (k b9 b10 g1 c1 g3 c3 : Nat) (T1 T3 : List UInt8) (P1 P3 : Part) : Nat → Value → World → Prop
  | 0 => fun v _ => v = .pointer (some ⟨b9, 0, none⟩)
  | 1 => fun v _ => v = .slice (some ⟨g1, 0, none⟩) 32 c1
  | 2 => fun v _ => v = (.int .i64 (k : Int))
  | 3 => fun v _ => v = .pointer (some ⟨g1, k * 32, none⟩)
  | 4 => fun v _ => v = .slice (some ⟨g1, k * 32, none⟩) 32 32
  | 5 => Part1 P1
  | 6 => fun v _ => v = (.agg (T1.map bv).toArray)
  | 7 => fun v _ => v = .pointer (some ⟨b10, 0, none⟩)
  | 8 => fun v _ => v = .slice (some ⟨g3, 0, none⟩) 32 c3
  | 9 => fun v _ => v = (.int .i64 (k : Int))
  | 10 => fun v _ => v = .pointer (some ⟨g3, k * 32, none⟩)
  | 11 => fun v _ => v = .slice (some ⟨g3, k * 32, none⟩) 32 32
  | 12 => Part1 P3
  | 13 => fun v _ => v = (.agg (T3.map bv).toArray)
  | 14 => Made (rowH []) 23
  | 15 => Made (rowH []) 23
  | 16 => Stored 23
  | _ => fun _ _ => True
theorem ocF_lasts (k b9 b10 g1 c1 g3 c3 : Nat) (T1 T3 : List UInt8) (P1 P3 : Part) : ∀ kq, LastsB ocAl kq (ocF k b9 b10 g1 c1 g3 c3 T1 T3 P1 P3 kq)
  | 0 => LastsB.val _
  | 1 => LastsB.val _
  | 2 => LastsB.val _
  | 3 => LastsB.val _
  | 4 => LastsB.val _
  | 5 => LastsB.part1 rfl _
  | 6 => LastsB.val _
  | 7 => LastsB.val _
  | 8 => LastsB.val _
  | 9 => LastsB.val _
  | 10 => LastsB.val _
  | 11 => LastsB.val _
  | 12 => LastsB.part1 rfl _
  | 13 => LastsB.val _
  | 14 => LastsB.made rfl _ _
  | 15 => LastsB.made rfl _ _
  | 16 => LastsB.stored rfl _
  | _ + 17 => fun _ _ _ _ _ _ _ => trivial
def odS (t : Nat) : Bool := t == 81 || t == 82 || t == 83 || t == 84 || t == 85 || t == 86 || t == 87 || t == 88 || t == 89 || t == 90 || t == 91 || t == 92 || t == 93 || t == 94 || t == 95 || t == 96 || t == 97 || t == 98 || t == 99 || t == 100 || t == 101 || t == 102 || t == 103
def odDie (_ : Nat) : Nat := 99
def odOwn (_ : Nat) : Bool := false
def odAl (_ : Nat) : Bool := false
def odF (k b9 b10 g1 c1 g2 c2 g3 c3 g4 c4 : Nat) (F G : List UInt8) : Nat → Value → World → Prop
  | 0 => fun v _ => v = .pointer (some ⟨b9, 0, none⟩)
  | 1 => fun v _ => v = .slice (some ⟨g1, 0, none⟩) 32 c1
  | 2 => fun v _ => v = (.int .i64 (k : Int))
  | 3 => fun v _ => v = .pointer (some ⟨g1, k * 32, none⟩)
  | 4 => fun v _ => v = (.agg (F.map bv).toArray)
  | 5 => fun v _ => v = .pointer (some ⟨b10, 0, none⟩)
  | 6 => fun v _ => v = .slice (some ⟨g3, 0, none⟩) 32 c3
  | 7 => fun v _ => v = (.int .i64 (k : Int))
  | 8 => fun v _ => v = .pointer (some ⟨g3, k * 32, none⟩)
  | 9 => fun v _ => v = (.agg (F.map bv).toArray)
  | 10 => fun v _ => v = .bool false
  | 11 => fun v _ => v = .bool false
  | 12 => fun v _ => v = .pointer (some ⟨b9, 1, none⟩)
  | 13 => fun v _ => v = .slice (some ⟨g2, 0, none⟩) 32 c2
  | 14 => fun v _ => v = (.int .i64 (k : Int))
  | 15 => fun v _ => v = .pointer (some ⟨g2, k * 32, none⟩)
  | 16 => fun v _ => v = (.agg (G.map bv).toArray)
  | 17 => fun v _ => v = .pointer (some ⟨b10, 1, none⟩)
  | 18 => fun v _ => v = .slice (some ⟨g4, 0, none⟩) 32 c4
  | 19 => fun v _ => v = (.int .i64 (k : Int))
  | 20 => fun v _ => v = .pointer (some ⟨g4, k * 32, none⟩)
  | 21 => fun v _ => v = (.agg (G.map bv).toArray)
  | 22 => fun v _ => v = .bool false
  | _ => fun _ _ => True
theorem odF_lasts (k b9 b10 g1 c1 g2 c2 g3 c3 g4 c4 : Nat) (F G : List UInt8) : ∀ kq, LastsB odAl kq (odF k b9 b10 g1 c1 g2 c2 g3 c3 g4 c4 F G kq)
  | 0 => LastsB.val _
  | 1 => LastsB.val _
  | 2 => LastsB.val _
  | 3 => LastsB.val _
  | 4 => LastsB.val _
  | 5 => LastsB.val _
  | 6 => LastsB.val _
  | 7 => LastsB.val _
  | 8 => LastsB.val _
  | 9 => LastsB.val _
  | 10 => LastsB.val _
  | 11 => LastsB.val _
  | 12 => LastsB.val _
  | 13 => LastsB.val _
  | 14 => LastsB.val _
  | 15 => LastsB.val _
  | 16 => LastsB.val _
  | 17 => LastsB.val _
  | 18 => LastsB.val _
  | 19 => LastsB.val _
  | 20 => LastsB.val _
  | 21 => LastsB.val _
  | 22 => LastsB.val _
  | _ + 23 => fun _ _ _ _ _ _ _ => trivial
def oeS (t : Nat) : Bool := t == 105 || t == 106 || t == 107 || t == 108 || t == 109 || t == 110 || t == 111 || t == 112 || t == 113 || t == 114 || t == 115 || t == 116 || t == 117 || t == 118 || t == 119
def oeDie (_ : Nat) : Nat := 99
def oeOwn (_ : Nat) : Bool := false
def oeAl (_ : Nat) : Bool := false
def oeF (k b9 b10 g2 c2 g4 c4 : Nat) (F G : List UInt8) : Nat → Value → World → Prop
  | 0 => fun v _ => v = .pointer (some ⟨b9, 1, none⟩)
  | 1 => fun v _ => v = .slice (some ⟨g2, 0, none⟩) 32 c2
  | 2 => fun v _ => v = (.int .i64 (k : Int))
  | 3 => fun v _ => v = .pointer (some ⟨g2, k * 32, none⟩)
  | 4 => fun v _ => v = (.agg (F.map bv).toArray)
  | 5 => fun v _ => v = (.agg (F.map bv).toArray)
  | 6 => fun v _ => v = .bool false
  | 7 => fun v _ => v = .bool false
  | 8 => fun v _ => v = .pointer (some ⟨b10, 1, none⟩)
  | 9 => fun v _ => v = .slice (some ⟨g4, 0, none⟩) 32 c4
  | 10 => fun v _ => v = (.int .i64 (k : Int))
  | 11 => fun v _ => v = .pointer (some ⟨g4, k * 32, none⟩)
  | 12 => fun v _ => v = (.agg (G.map bv).toArray)
  | 13 => fun v _ => v = (.agg (G.map bv).toArray)
  | 14 => fun v _ => v = .bool false
  | _ => fun _ _ => True
theorem oeF_lasts (k b9 b10 g2 c2 g4 c4 : Nat) (F G : List UInt8) : ∀ kq, LastsB oeAl kq (oeF k b9 b10 g2 c2 g4 c4 F G kq)
  | 0 => LastsB.val _
  | 1 => LastsB.val _
  | 2 => LastsB.val _
  | 3 => LastsB.val _
  | 4 => LastsB.val _
  | 5 => LastsB.val _
  | 6 => LastsB.val _
  | 7 => LastsB.val _
  | 8 => LastsB.val _
  | 9 => LastsB.val _
  | 10 => LastsB.val _
  | 11 => LastsB.val _
  | 12 => LastsB.val _
  | 13 => LastsB.val _
  | 14 => LastsB.val _
  | _ + 15 => fun _ _ _ _ _ _ _ => trivial
def ogS (t : Nat) : Bool := t == 124 || t == 125 || t == 126 || t == 127 || t == 128 || t == 129 || t == 130 || t == 131 || t == 132 || t == 133 || t == 134 || t == 135 || t == 136 || t == 137 || t == 138 || t == 139 || t == 140 || t == 141 || t == 142 || t == 143 || t == 144
def ogDie (k : Nat) : Nat := if k = 12 then 14 else 99
def ogOwn (k : Nat) : Bool := k == 12 || k == 14
def ogAl (_ : Nat) : Bool := false
def ogF (L1 L2 X : List UInt8) (g1 c1 g2 c2 g3 c3 g4 c4 : Nat) (A7 A8 : Option Addr) (c7 c8 : Nat) : Nat → Value → World → Prop
  | 0 => fun v _ => v = (.agg (X.map bv).toArray)
  | 1 => fun v _ => v = .slice A7 L1.length c7
  | 2 => fun v _ => v = (.agg #[.slice (some ⟨g1, 0, none⟩) 32 c1, .slice (some ⟨g2, 0, none⟩) 32 c2])
  | 3 => fun v _ => v = .bool true
  | 4 => fun v _ => v = .bool true
  | 5 => fun v _ => v = (.agg (X.map bv).toArray)
  | 6 => fun v _ => v = .slice A8 L2.length c8
  | 7 => fun v _ => v = (.agg #[.slice (some ⟨g3, 0, none⟩) 32 c3, .slice (some ⟨g4, 0, none⟩) 32 c4])
  | 8 => fun v _ => v = .bool true
  | 9 => fun v _ => v = .bool true
  | 10 => fun v _ => v = .bool true
  | 11 => fun v _ => v = (.agg (X.map bv).toArray)
  | 12 => fun v w => OwnB w v []
  | 13 => fun v _ => v = .slice A7 L1.length c7
  | 14 => fun v w => OwnB w v (L1)
  | 15 => fun v _ => v = (.agg #[.slice (some ⟨g1, 0, none⟩) 32 c1, .slice (some ⟨g2, 0, none⟩) 32 c2])
  | 16 => fun v _ => v = .bool true
  | 17 => fun v _ => v = .bool true
  | 18 => fun v _ => v = .bool true
  | 19 => fun v _ => v = .bool true
  | 20 => fun v _ => v = .bool true
  | _ => fun _ _ => True
theorem ogF_lasts (L1 L2 X : List UInt8) (g1 c1 g2 c2 g3 c3 g4 c4 : Nat) (A7 A8 : Option Addr) (c7 c8 : Nat) : ∀ kq, LastsB ogAl kq (ogF L1 L2 X g1 c1 g2 c2 g3 c3 g4 c4 A7 A8 c7 c8 kq)
  | 0 => LastsB.val _
  | 1 => LastsB.val _
  | 2 => LastsB.val _
  | 3 => LastsB.val _
  | 4 => LastsB.val _
  | 5 => LastsB.val _
  | 6 => LastsB.val _
  | 7 => LastsB.val _
  | 8 => LastsB.val _
  | 9 => LastsB.val _
  | 10 => LastsB.val _
  | 11 => LastsB.val _
  | 12 => LastsB.ownB rfl _
  | 13 => LastsB.val _
  | 14 => LastsB.ownB rfl _
  | 15 => LastsB.val _
  | 16 => LastsB.val _
  | 17 => LastsB.val _
  | 18 => LastsB.val _
  | 19 => LastsB.val _
  | 20 => LastsB.val _
  | _ + 21 => fun _ _ _ _ _ _ _ => trivial

set_option maxRecDepth 100000 in
set_option maxHeartbeats 2000000 in
theorem LamOpens_any (x0 : List UInt8) (hx0 : x0.length = 32) (A1 : Option Addr) (l1 : List UInt8) (ca1 : Nat) (A2 : Option Addr) (l2 : List UInt8) (ca2 : Nat) (W0 : World) (hk : Laid2 W0) (hr1 : RdB W0 A1 l1) (hc1 : l1.length ≤ ca1) (hr2 : RdB W0 A2 l2) (hc2 : l2.length ≤ ca2) :
    Calls Tryd.prog 6 #[.agg (x0.map bv).toArray, .slice A1 l1.length ca1, .slice A2 l2.length ca2] W0 fun e w' => e = .returned (.bool true) ∧ W0.grownBy w' none := by
  obtain ⟨q1, hminA1, hq1n, hq1k⟩ := min_some l1.length 30
  obtain ⟨q2, hminA2, hq2n, hq2k⟩ := min_some l2.length 30
  obtain ⟨L1, hL1⟩ : ∃ L, L = l1.take q1 := ⟨_, rfl⟩
  obtain ⟨L2, hL2⟩ : ∃ L, L = l2.take q2 := ⟨_, rfl⟩
  have hlA1 : Hid (L1.length = q1) := by show _ = _; rw [hL1, List.length_take]; omega
  have hlA2 : Hid (L2.length = q2) := by show _ = _; rw [hL2, List.length_take]; omega
  have hrA1 : RdB W0 A1 L1 := by rw [hL1]; exact rd_takeB hr1 q1
  have hrA2 : RdB W0 A2 L2 := by rw [hL2]; exact rd_takeB hr2 q2
  clear hL1 hL2 hr1 hr2
  have hxl := Lib.hid hx0
  clear hx0
  have hqA1 : q1 ≤ ca1 := by omega
  have hqA2 : q2 ≤ ca2 := by omega
  have hl30 : Hid (L1.length ≤ 30 ∧ L2.length ≤ 30) := by show _ ∧ _; rw [hlA1.out, hlA2.out]; exact ⟨hq1k, hq2k⟩
  generalize hn1 : l1.length = n1 at *
  generalize hn2 : l2.length = n2 at *
  clear hn1 hn2
  go_enter Tryd.func6, Tryd.ntmps6
  go_upto_region 1 with (fail)
  have hseed1 : (W0.alloc (.cells (x0.map bv).toArray 23)).heap[W0.heap.size]? = some (.cells (x0.map bv).toArray 23 (0, 0)) := alloc_at rfl
  have hg1 : W0.grownBy (W0.alloc (.cells (x0.map bv).toArray 23)) none := grown_alloc (grown_refl _ _) _
  generalize W0.alloc (.cells (x0.map bv).toArray 23) = W1 at hseed1 hg1 ⊢
  replace hrA1 := hrA1.kept hg1
  replace hrA2 := hrA2.kept hg1
  refine wp_region_gb (al := oaAl) 15 (N := 145) (S := oaS) (die := oaDie) (own := oaOwn) (F := oaF A1 A2 n1 n2 ca1 ca2 q1 q2 L1 L2) (by kernel_rfl) (Nat.le_of_ble_eq_true (by kernel_rfl)) (by kernel_rfl) (by kernel_rfl) (by kernel_rfl) (by kernel_rfl) (Nat.le_of_ble_eq_true (by kernel_rfl)) (oaF_lasts A1 A2 n1 n2 ca1 ca2 q1 q2 L1 L2) ?_ ?_
  · intro i o L' a w K hi ho hg hLi hout hpre houter hitem h1 h2 h3
    have hcases : i = 0 ∨ i = 1 ∨ i = 2 ∨ i = 3 ∨ i = 4 ∨ i = 5 ∨ i = 6 ∨ i = 7 ∨ i = 8 ∨ i = 9 ∨ i = 10 ∨ i = 11 ∨ i = 12 ∨ i = 13 ∨ i = 14 := by omega
    rcases hcases with rfl | rfl | rfl | rfl | rfl | rfl | rfl | rfl | rfl | rfl | rfl | rfl | rfl | rfl | rfl
    · cases (show some _ = some o from ho)
      exact ⟨rfl, wp_lit0 rfl (lit_none _) (h1 ⟨_, rfl⟩ _ _ (grown_alloc (grown_refl _ _) _) (ownB_new _ #[] [] 0 rfl rfl (Nat.zero_le _)) (new_lt _ _) (FreshB.new (new_ge _)))⟩
    · cases (show some _ = some o from ho)
      exact ⟨rfl, wp_move rfl (h1 ⟨_, rfl⟩ _ _ (grown_refl _ none) (houter _ rfl) (by rw [houter _ rfl]; exact nobl rfl) (by rw [houter _ rfl]; exact FreshB.none rfl))⟩
    · cases (show some _ = some o from ho)
      exact ⟨rfl, wp_move rfl (h1 ⟨_, rfl⟩ _ _ (grown_refl _ none) (houter _ rfl) (by rw [houter _ rfl]; exact nobl rfl) (by rw [houter _ rfl]; exact FreshB.none rfl))⟩
    · cases (show some _ = some o from ho)
      exact ⟨rfl, wp_len rfl (by kernel_rfl) (hitem 2 (by decide) ⟨hpre 2 rfl, hout _ (by decide)⟩) (h1 ⟨_, rfl⟩ _ _ (grown_refl _ none) rfl (nobl rfl) (FreshB.none rfl))⟩
    · cases (show some _ = some o from ho)
      exact ⟨rfl, wp_min rfl (hitem 3 (by decide) ⟨hpre 3 rfl, hout _ (by decide)⟩) rfl (hminA1) (h1 ⟨_, rfl⟩ _ _ (grown_refl _ none) rfl (nobl rfl) (FreshB.none rfl))⟩
    · cases (show some _ = some o from ho)
      exact ⟨rfl, wp_slice_hi rfl (hitem 1 (by decide) ⟨hpre 1 rfl, hout _ (by decide)⟩) (hitem 4 (by decide) ⟨hpre 4 rfl, hout _ (by decide)⟩) (sl_hiB A1 n1 ca1 q1 hqA1 _) (h1 ⟨_, rfl⟩ _ _ (grown_refl _ none) rfl (nobl rfl) (FreshB.none rfl))⟩
    · cases (show some _ = some o from ho)
      have hu := hitem 0 (by decide) ⟨hpre 0 rfl, hLi⟩
      exact ⟨rfl, wp_appB rfl rfl hu (hitem 5 (by decide) ⟨hpre 5 rfl, hout _ (by decide)⟩) (hlA1.out.symm) (hrA1.kept hg) (by have := hl30.out; simp; omega) fun v w' hv hw => h2 ⟨_, rfl⟩ 0 v w' _ (by decide) ⟨hpre 0 rfl, hLi⟩ rfl rfl hw.1 (own_mem hu) hv (own_lt hv) (grew_blocks hu hv hw)⟩
    · cases (show some _ = some o from ho)
      exact ⟨rfl, wp_lit0 rfl (lit_none _) (h1 ⟨_, rfl⟩ _ _ (grown_alloc (grown_refl _ _) _) (ownB_new _ #[] [] 0 rfl rfl (Nat.zero_le _)) (new_lt _ _) (FreshB.new (new_ge _)))⟩
    · cases (show some _ = some o from ho)
      exact ⟨rfl, wp_move rfl (h1 ⟨_, rfl⟩ _ _ (grown_refl _ none) (houter _ rfl) (by rw [houter _ rfl]; exact nobl rfl) (by rw [houter _ rfl]; exact FreshB.none rfl))⟩
    · cases (show some _ = some o from ho)
      exact ⟨rfl, wp_move rfl (h1 ⟨_, rfl⟩ _ _ (grown_refl _ none) (houter _ rfl) (by rw [houter _ rfl]; exact nobl rfl) (by rw [houter _ rfl]; exact FreshB.none rfl))⟩
    · cases (show some _ = some o from ho)
      exact ⟨rfl, wp_len rfl (by kernel_rfl) (hitem 9 (by decide) ⟨hpre 9 rfl, hout _ (by decide)⟩) (h1 ⟨_, rfl⟩ _ _ (grown_refl _ none) rfl (nobl rfl) (FreshB.none rfl))⟩
    · cases (show some _ = some o from ho)
      exact ⟨rfl, wp_min rfl (hitem 10 (by decide) ⟨hpre 10 rfl, hout _ (by decide)⟩) rfl (hminA2) (h1 ⟨_, rfl⟩ _ _ (grown_refl _ none) rfl (nobl rfl) (FreshB.none rfl))⟩
    · cases (show some _ = some o from ho)
      exact ⟨rfl, wp_slice_hi rfl (hitem 8 (by decide) ⟨hpre 8 rfl, hout _ (by decide)⟩) (hitem 11 (by decide) ⟨hpre 11 rfl, hout _ (by decide)⟩) (sl_hiB A2 n2 ca2 q2 hqA2 _) (h1 ⟨_, rfl⟩ _ _ (grown_refl _ none) rfl (nobl rfl) (FreshB.none rfl))⟩
    · cases (show some _ = some o from ho)
      have hu := hitem 7 (by decide) ⟨hpre 7 rfl, hLi⟩
      exact ⟨rfl, wp_appB rfl rfl hu (hitem 12 (by decide) ⟨hpre 12 rfl, hout _ (by decide)⟩) (hlA2.out.symm) (hrA2.kept hg) (by have := hl30.out; simp; omega) fun v w' hv hw => h2 ⟨_, rfl⟩ 7 v w' _ (by decide) ⟨hpre 7 rfl, hLi⟩ rfl rfl hw.1 (own_mem hu) hv (own_lt hv) (grew_blocks hu hv hw)⟩
    · cases (show some _ = some o from ho)
      have hu := hitem 6 (by decide) ⟨hpre 6 rfl, hLi⟩
      exact ⟨rfl, wp_assign rfl (h2 ⟨_, rfl⟩ 6 _ _ none (by decide) ⟨hpre 6 rfl, hLi⟩ rfl rfl (grown_refl _ none) (fun g e => by cases e) hu (own_lt hu) (fun g e => .inr (.inl e)))⟩
  · intro a W hgT hend hap ha
    obtain ⟨f, hf⟩ : ∃ f : Nat → Value, f = fun t => a.tmps.getD t undef := ⟨_, rfl⟩
    have o7 := (hend 14 (by decide) (by decide)).1
    obtain ⟨A7, c7, q7, hc7, hm7, hr7⟩ := OwnB.slice o7
    replace o7 := q7 ▸ o7
    have s7 := (congrFun hf 7).trans q7
    have o28 := (hend 13 (by decide) (by decide)).1
    obtain ⟨A8, c8, q28, hc8, hm8, hr8⟩ := OwnB.slice o28
    replace o28 := q28 ▸ o28
    have s28 := (congrFun hf 28).trans q28
    rw [← hf] at ha
    clear hend hap
    clear hf
    clear q7 q28
    subst ha
    simp only [fill, oaS, Nat.reduceAdd, Nat.reduceBEq, Bool.or_false, Bool.or_true, cond_true, cond_false, List.drop_succ_cons, List.drop_zero, s7, s28]
    replace o7 : OwnB W (.slice A7 L1.length c7) L1 := o7
    replace o28 : OwnB W (.slice A8 L2.length c8) L2 := o28
    clear s7 s28
    have hlt7 := blocks_own o7
    have hlt8 := blocks_own o28
    have hseed := keep_of hseed1 hgT
    have hgW : W0.grownBy W none := grown_same hg1 hgT
    replace hk := hk.kept hgW
    have hLb1 : L1.length ≤ 1000 := by have := hl30.out; omega
    have hLb2 : L2.length ≤ 1000 := by have := hl30.out; omega
    have hsz := lt_of_heap hseed
    clear o7 o28 hgT hseed1 hg1 hrA1 hrA2 hminA1 hminA2 hlA1 hlA2 hqA1 hqA2 hq1n hq1k hq2n hq2k
    go_wp2_with fail
    refine wp_region_gb (al := obAl) 9 (N := 145) (S := obS) (die := obDie) (own := obOwn) (F := obF x0 L1 L2 A7 A8 c7 c8) (by kernel_rfl) (Nat.le_of_ble_eq_true (by kernel_rfl)) (by kernel_rfl) (by kernel_rfl) (by kernel_rfl) (by kernel_rfl) (Nat.le_of_ble_eq_true (by kernel_rfl)) (obF_lasts x0 L1 L2 A7 A8 c7 c8) ?_ ?_
    · intro i o L' a w K hi ho hg hLi hout hpre houter hitem h1 h2 h3
      have hcases : i = 0 ∨ i = 1 ∨ i = 2 ∨ i = 3 ∨ i = 4 ∨ i = 5 ∨ i = 6 ∨ i = 7 ∨ i = 8 := by omega
      rcases hcases with rfl | rfl | rfl | rfl | rfl | rfl | rfl | rfl | rfl
      · cases (show some _ = some o from ho)
        exact ⟨rfl, wp_load_row 23 _ rfl _ (houter _ rfl) _ (x0.map bv).toArray (0, 0) _ (keep_of hseed hg) Tryd.underlying23 rfl (hashV_size _ (hxl.out)) (h1 ⟨_, rfl⟩ _ _ (grown_refl _ none) rfl (nobl (blocks_bytes _)) (FreshB.none (blocks_bytes _)))⟩
      · cases (show some _ = some o from ho)
        exact ⟨rfl, wp_move rfl (h1 ⟨_, rfl⟩ _ _ (grown_refl _ none) (houter _ rfl) (by rw [houter _ rfl]; exact fun g e => Nat.lt_of_lt_of_le (hlt7 g e) hg.size) (by rw [houter _ rfl]; exact FreshB.old rfl hlt7))⟩
      · cases (show some _ = some o from ho)
        have x29 : a.eval (.tmp 29) = (.agg (x0.map bv).toArray) := hitem 0 (by decide) ⟨hpre 0 rfl, hout _ (by decide)⟩
        have x30 : a.eval (.tmp 30) = .slice A7 L1.length c7 := hitem 1 (by decide) ⟨hpre 1 rfl, hout _ (by decide)⟩
        refine ⟨rfl, wp_call rfl Tryd.func9 (by kernel_rfl) (by kernel_rfl) (args := #[(.agg (x0.map bv).toArray), .slice A7 L1.length c7]) (by simp [x29, x30]) ((Sign_sig x0 hxl.out A7 L1 c7 w (hk.kept hg) (hr7.kept hg) hLb1).mono ?_)⟩
        rintro e w' ⟨v, rfl, hf', hg', hn', ht'⟩
        exact ⟨_, rfl, h1 ⟨_, rfl⟩ _ _ hg' hf' ht' (FreshB.new hn')⟩
      · cases (show some _ = some o from ho)
        exact ⟨rfl, wp_load_row 23 _ rfl _ (houter _ rfl) _ (x0.map bv).toArray (0, 0) _ (keep_of hseed hg) Tryd.underlying23 rfl (hashV_size _ (hxl.out)) (h1 ⟨_, rfl⟩ _ _ (grown_refl _ none) rfl (nobl (blocks_bytes _)) (FreshB.none (blocks_bytes _)))⟩
      · cases (show some _ = some o from ho)
        exact ⟨rfl, wp_move rfl (h1 ⟨_, rfl⟩ _ _ (grown_refl _ none) (houter _ rfl) (by rw [houter _ rfl]; exact fun g e => Nat.lt_of_lt_of_le (hlt8 g e) hg.size) (by rw [houter _ rfl]; exact FreshB.old rfl hlt8))⟩
      · cases (show some _ = some o from ho)
        have x32 : a.eval (.tmp 32) = (.agg (x0.map bv).toArray) := hitem 3 (by decide) ⟨hpre 3 rfl, hout _ (by decide)⟩
        have x33 : a.eval (.tmp 33) = .slice A8 L2.length c8 := hitem 4 (by decide) ⟨hpre 4 rfl, hout _ (by decide)⟩
        refine ⟨rfl, wp_call rfl Tryd.func9 (by kernel_rfl) (by kernel_rfl) (args := #[(.agg (x0.map bv).toArray), .slice A8 L2.length c8]) (by simp [x32, x33]) ((Sign_sig x0 hxl.out A8 L2 c8 w (hk.kept hg) (hr8.kept hg) hLb2).mono ?_)⟩
        rintro e w' ⟨v, rfl, hf', hg', hn', ht'⟩
        exact ⟨_, rfl, h1 ⟨_, rfl⟩ _ _ hg' hf' ht' (FreshB.new hn')⟩
      · cases (show some _ = some o from ho)
        exact ⟨rfl, wp_alloc rfl (alloc_O _) (h1 ⟨_, rfl⟩ _ _ (grown_alloc (grown_refl _ _) _) ⟨_, rfl, heap_alloc_new _ _⟩ (new_lt _ _) (FreshB.new (new_ge _)))⟩
      · cases (show some _ = some o from ho)
        exact ⟨rfl, wp_alloc rfl (alloc_O _) (h1 ⟨_, rfl⟩ _ _ (grown_alloc (grown_refl _ _) _) ⟨_, rfl, heap_alloc_new _ _⟩ (new_lt _ _) (FreshB.new (new_ge _)))⟩
      · cases (show some _ = some o from ho)
        obtain ⟨b, e1, hb⟩ := hitem 6 (by decide) ⟨hpre 6 rfl, hLi⟩
        obtain ⟨g1, c1, g2, c2, e2, -⟩ := hitem 2 (by decide) ⟨hpre 2 rfl, hout _ (by decide)⟩
        replace e2 : a.eval (.tmp 31) = _ := e2
        exact ⟨rfl, wp_store_row 27 _ _ rfl b _ e1 e2 27 _ hb size_one rfl (one_two _ _ _ _ _ _) (h3 rfl 6 _ _ (some b) (by decide) ⟨hpre 6 rfl, hLi⟩ rfl rfl (grown_setRow (grown_refl _ _) (.inl rfl) _) (fun g e => by cases e; rw [show valB _ a 6 = _ from e1]; exact List.mem_singleton.2 rfl) ⟨b, _, (by rw [show valB _ a 8 = .tuple #[a.eval (.tmp 9), a.eval (.tmp 31)] from rfl, show a.eval (.tmp 9) = _ from e1, e2]), setRow_heap _ _ _ _ _ _ hb⟩ (fun g h => by rw [show valB _ a 8 = .tuple #[a.eval (.tmp 9), a.eval (.tmp 31)] from rfl, show a.eval (.tmp 9) = _ from e1] at h; rw [show valB _ a 6 = _ from e1]; exact h))⟩
    · intro a wT hgT hend hap ha
      obtain ⟨f, hf⟩ : ∃ f : Nat → Value, f = fun t => a.tmps.getD t undef := ⟨_, rfl⟩
      obtain ⟨g1, c1, g2, c2, q31, hc1, hc2, hc3, hc4, r1, r2⟩ := (hend 2 (by decide) (by decide)).1
      have s31 := (congrFun hf 31).trans q31
      obtain ⟨g3, c3, g4, c4, q34, hc5, hc6, hc7, hc8, r3, r4⟩ := (hend 5 (by decide) (by decide)).1
      have s34 := (congrFun hf 34).trans q34
      obtain ⟨⟨b9, C9, q9, hh9⟩, fr9⟩ := hend 8 (by decide) (by decide)
      have f9 : W.heap.size ≤ b9 := fr9 rfl b9 (by rw [q9]; exact List.mem_singleton.2 rfl)
      have p9 := tuple_two (show Value.tuple #[_, _] = _ from q9)
      have s9 := (congrFun hf 9).trans p9.1
      have v9 : f 31 = .agg C9 := (congrFun hf 31).trans p9.2
      obtain rfl := Value.agg.inj (v9.symm.trans s31)
      clear v9
      obtain ⟨⟨b10, q10, hh10⟩, fr10⟩ := hend 7 (by decide) (by decide)
      have f10 : W.heap.size ≤ b10 := fr10 rfl b10 (by rw [q10]; exact List.mem_singleton.2 rfl)
      have s10 := (congrFun hf 10).trans q10
      have n9_10 : b9 ≠ b10 := fun e => hap 8 7 (by decide) (by decide) (by decide) (by decide) (by decide) rfl b10 (by rw [q10]; exact List.mem_singleton.2 rfl) (by rw [q9, e]; exact List.mem_singleton.2 rfl)
      rw [← hf] at ha
      clear hend hap
      clear hf
      clear q31 q34 q9 p9 fr9 q10 fr10
      subst ha
      simp only [fill, obS, Nat.reduceAdd, Nat.reduceBEq, Bool.or_false, Bool.or_true, cond_true, cond_false, List.drop_succ_cons, List.drop_zero, s31, s34, s9, s10]
      clear s31 s34 s9 s10
      have m1 := part_ne (openF_len x0 L1) r1 hh10 (by simp)
      have m2 := part_ne (shutF_len x0 L1) r2 hh10 (by simp)
      have m3 := part_ne (openF_len x0 L2) r3 hh10 (by simp)
      have m4 := part_ne (shutF_len x0 L2) r4 hh10 (by simp)
      have hgs : wT.grownBy (wT.setRow b10 #[.slice (some ⟨g3, 0, none⟩) 32 c3, .slice (some ⟨g4, 0, none⟩) 32 c4]) (some b10) := grown_setRow (grown_refl _ _) (.inl rfl) _
      have h10 : (wT.setRow b10 #[.slice (some ⟨g3, 0, none⟩) 32 c3, .slice (some ⟨g4, 0, none⟩) 32 c4]).heap[b10]? = some (.cells #[.slice (some ⟨g3, 0, none⟩) 32 c3, .slice (some ⟨g4, 0, none⟩) 32 c4] 27 (0, 0)) := setRow_heap _ _ _ _ _ _ hh10
      have h9 : (wT.setRow b10 #[.slice (some ⟨g3, 0, none⟩) 32 c3, .slice (some ⟨g4, 0, none⟩) 32 c4]).heap[b9]? = some (.cells #[.slice (some ⟨g1, 0, none⟩) 32 c1, .slice (some ⟨g2, 0, none⟩) 32 c2] 27 (0, 0)) := (setRow_other _ _ _ _ n9_10).trans hh9
      have hgB : W.grownBy (wT.setRow b10 #[.slice (some ⟨g3, 0, none⟩) 32 c3, .slice (some ⟨g4, 0, none⟩) 32 c4]) none := grown_trans hgT hgs (.inr fun g e => by cases e; exact f10)
      replace r1 := r1.keepRow hgs m1
      replace r2 := r2.keepRow hgs m2
      replace r3 := r3.keepRow hgs m3
      replace r4 := r4.keepRow hgs m4
      clear hgs m1 m2 m3 m4
      obtain ⟨X, hX⟩ : ∃ X, X = keyL x0 := ⟨_, rfl⟩
      have hXl : Hid (X.length = 32) := by rw [hX]; exact tagL_len _ _
      have hkey := fun w' (h : Laid2 w') => Key_any x0 hxl.out w' h
      rw [← hX] at hkey
      have hver1a := fun w' A c (h1 : Laid2 w') (h2 : RdB w' A L1) h3 h4 => Verify_any X hXl.out A L1 c g1 c1 g2 c2 _ _ (openF_len x0 L1) (shutF_len x0 L1) w' h1 h2 hLb1 h3 h4
      rw [whoF_sign, ← hX, beq_self_eq_true] at hver1a
      have hver2a := fun w' A c (h1 : Laid2 w') (h2 : RdB w' A L2) h3 h4 => Verify_any X hXl.out A L2 c g3 c3 g4 c4 _ _ (openF_len x0 L2) (shutF_len x0 L2) w' h1 h2 hLb2 h3 h4
      rw [whoF_sign, ← hX, beq_self_eq_true] at hver2a
      have hbit1 := fun k (h : k < 256) w' (h1 : Laid2 w') (h2 : RdB w' A7 L1) => Bit_any A7 L1 c7 k w' h1 h2 hLb1 h
      have hbit2 := fun k (h : k < 256) w' (h1 : Laid2 w') (h2 : RdB w' A8 L2) => Bit_any A8 L2 c8 k w' h1 h2 hLb2 h
      clear hX
      go_upto_region 5 with (refine wpList_store_row rfl 27 _ _ rfl b10 _ rfl rfl 27 _ hh10 size_one rfl (one_two _ _ _ _ _ _) ?_; generalize wT.setRow b10 _ = B at h9 h10 hgB r1 r2 r3 r4 ⊢; have hsd := keep_of hseed hgB; have hr7B := hr7.kept hgB; have hr8B := hr8.kept hgB; have hkB := hk.kept hgB; have hc90 : B.cell? ⟨b9, 0, none⟩ = some (.slice (some ⟨g1, 0, none⟩) 32 c1) := cell_of_cells h9 rfl; have hc91 : B.cell? ⟨b9, 1, none⟩ = some (.slice (some ⟨g2, 0, none⟩) 32 c2) := cell_of_cells h9 rfl; have hc100 : B.cell? ⟨b10, 0, none⟩ = some (.slice (some ⟨g3, 0, none⟩) 32 c3) := cell_of_cells h10 rfl; have hc101 : B.cell? ⟨b10, 1, none⟩ = some (.slice (some ⟨g4, 0, none⟩) 32 c4) := cell_of_cells h10 rfl)
      clear hc90 hc91 hc100 hc101
      go_wp2_with fail
      go_loopw [57] (fun i wz => ∃ k : Nat, k ≤ 32 ∧ i = .int .i64 k ∧ B.grownBy wz none) (fun i _ => 32 - (intOf i).toNat)
      case atStart => exact ⟨0, by omega, rfl, grown_refl _ _⟩
      case round =>
        obtain ⟨k, hkl, rfl, hgz⟩ := hrel
        replace h9 := keep_of h9 hgz
        replace h10 := keep_of h10 hgz
        replace r1 := r1.kept hgz
        replace r2 := r2.kept hgz
        replace r3 := r3.kept hgz
        replace r4 := r4.kept hgz
        have t1 := lt_of_part (openF_len x0 L1) r1
        have t2 := lt_of_part (shutF_len x0 L1) r2
        have t3 := lt_of_part (openF_len x0 L2) r3
        have t4 := lt_of_part (shutF_len x0 L2) r4
        by_cases hlt : k < 32
        · have hlt' : (k : Int) < 32 := by omega
          have hbk1 := hbit1 k (by omega)
          have hbk2 := hbit2 k (by omega)
          have hF1 := fun w' (h : wr.grownBy w' none) => range_part (openF_len x0 L1) (r1.kept h) hlt
          have hG2 := fun w' (h : wr.grownBy w' none) => range_part (shutF_len x0 L1) (r2.kept h) hlt
          have hF3 := fun w' (h : wr.grownBy w' none) => range_part (openF_len x0 L2) (r3.kept h) hlt
          have hG4 := fun w' (h : wr.grownBy w' none) => range_part (shutF_len x0 L2) (r4.kept h) hlt
          have hcase : (bitL L1 k = bitL L2 k ∧ openF x0 L1 k = openF x0 L2 k ∧ shutF x0 L1 k = shutF x0 L2 k) ∨ (bitL L1 k ≠ bitL L2 k ∧ shutF x0 L1 k = tagL 112 (openF x0 L2 k) ∧ shutF x0 L2 k = tagL 112 (openF x0 L1 k)) := by
            by_cases e : bitL L1 k = bitL L2 k
            · exact .inl ⟨e, by unfold openF; rw [e], by unfold shutF; rw [e]⟩
            · refine .inr ⟨e, ?_, ?_⟩
              · have : 1 - bitL L1 k = bitL L2 k := by rcases bitL_lt L1 k with h1 | h1 <;> rcases bitL_lt L2 k with h2 | h2 <;> omega
                unfold shutF openF; rw [this, pubL_tag]
              · have : 1 - bitL L2 k = bitL L1 k := by rcases bitL_lt L1 k with h1 | h1 <;> rcases bitL_lt L2 k with h2 | h2 <;> omega
                unfold shutF openF; rw [this, pubL_tag]
          have l1 := openF_len x0 L1 k
          have l2 := shutF_len x0 L1 k
          have l3 := openF_len x0 L2 k
          have l4 := shutF_len x0 L2 k
          generalize openF x0 L1 k = F1 at hF1 hcase l1
          generalize shutF x0 L1 k = G1 at hG2 hcase l2
          generalize openF x0 L2 k = F3 at hF3 hcase l3
          generalize shutF x0 L2 k = G3 at hG4 hcase l4
          obtain ⟨T1, hT1'⟩ : ∃ T, T = tagL 112 F1 := ⟨_, rfl⟩
          obtain ⟨T3, hT3'⟩ : ∃ T, T = tagL 112 F3 := ⟨_, rfl⟩
          have hT1 := hT1'.symm
          have hT3 := hT3'.symm
          have hT1l : Hid (T1.length = 32) := by rw [hT1']; exact tagL_len _ _
          have hT3l : Hid (T3.length = 32) := by rw [hT3']; exact tagL_len _ _
          rw [hT1, hT3] at hcase
          clear hT1' hT3'
          generalize bitL L1 k = y1 at hbk1 hcase
          generalize bitL L2 k = y2 at hbk2 hcase
          obtain ⟨P1, eP1⟩ : ∃ P : Part, P = (some ⟨g1, k * 32, none⟩, F1, 32) := ⟨_, rfl⟩
          obtain ⟨P3, eP3⟩ : ∃ P : Part, P = (some ⟨g3, k * 32, none⟩, F3, 32) := ⟨_, rfl⟩
          have hP1 : Value.slice (some ⟨g1, k * 32, none⟩) 32 32 = pv P1 := by rw [eP1]; unfold pv; rw [l1]
          have hP3 : Value.slice (some ⟨g3, k * 32, none⟩) 32 32 = pv P3 := by rw [eP3]; unfold pv; rw [l3]
          have hP1r : ∀ w', wr.grownBy w' none → RdB w' P1.1 P1.2.1 := fun w' h => by rw [eP1]; exact rd_range (hF1 w' h)
          have hP3r : ∀ w', wr.grownBy w' none → RdB w' P3.1 P3.2.1 := fun w' h => by rw [eP3]; exact rd_range (hF3 w' h)
          have hP1c : catP [P1] = F1 := by rw [eP1]; simp [catP]
          have hP3c : catP [P3] = F3 := by rw [eP3]; simp [catP]
          have hF1b : F1.length ≤ 100000000 := by omega
          have hF3b : F3.length ≤ 100000000 := by omega
          have k1 := blocks_off (o := 0) (n := 32) (c := c1) t1
          have k3 := blocks_off (o := 0) (n := 32) (c := c3) t3
          have k1a := blocks_off (o := k * 32) (n := 32) (c := 32) t1
          have k3a := blocks_off (o := k * 32) (n := 32) (c := 32) t3
          have hl1 := Lib.hid l1
          have hl2 := Lib.hid l2
          have hl3 := Lib.hid l3
          have hl4 := Lib.hid l4
          have hkz := hkB.kept hgz
          clear eP1 eP3 l1 l2 l3 l4 hver1a hver2a hkey hbit1 hbit2
          have HT1 := Lib.hid hT1
          have HT3 := Lib.hid hT3
          have HP1 := Lib.hid hP1
          have HP3 := Lib.hid hP3
          have HP1c := Lib.hid hP1c
          have HP3c := Lib.hid hP3c
          clear hT1 hT3 hP1 hP3 hP1c hP3c
          go_wp2_with fail
          refine wp_region_gb (al := ocAl) 17 (N := 145) (S := ocS) (die := ocDie) (own := ocOwn) (F := ocF k b9 b10 g1 c1 g3 c3 T1 T3 P1 P3) (by kernel_rfl) (Nat.le_of_ble_eq_true (by kernel_rfl)) (by kernel_rfl) (by kernel_rfl) (by kernel_rfl) (by kernel_rfl) (Nat.le_of_ble_eq_true (by kernel_rfl)) (ocF_lasts k b9 b10 g1 c1 g3 c3 T1 T3 P1 P3) ?_ ?_
          · intro i o L' a w K hi ho hg hLi hout hpre houter hitem h1 h2 h3
            have hcases : i = 0 ∨ i = 1 ∨ i = 2 ∨ i = 3 ∨ i = 4 ∨ i = 5 ∨ i = 6 ∨ i = 7 ∨ i = 8 ∨ i = 9 ∨ i = 10 ∨ i = 11 ∨ i = 12 ∨ i = 13 ∨ i = 14 ∨ i = 15 ∨ i = 16 := by omega
            rcases hcases with rfl | rfl | rfl | rfl | rfl | rfl | rfl | rfl | rfl | rfl | rfl | rfl | rfl | rfl | rfl | rfl | rfl
            · cases (show some _ = some o from ho)
              exact ⟨rfl, wp_field rfl (houter _ rfl) (field_O _ 0 (by omega)) (h1 ⟨_, rfl⟩ _ _ (grown_refl _ none) rfl (nobl rfl) (FreshB.none rfl))⟩
            · cases (show some _ = some o from ho)
              exact ⟨rfl, wp_loadC rfl (hitem 0 (by decide) ⟨hpre 0 rfl, hout _ (by decide)⟩) (load_cell (cell_of_cells (keep_of h9 hg) rfl) Tryd.underlying25 rfl) (h1 ⟨_, rfl⟩ _ _ (grown_refl _ none) rfl (fun g e => Nat.lt_of_lt_of_le (k1 g e) hg.size) (FreshB.old rfl k1))⟩
            · cases (show some _ = some o from ho)
              exact ⟨rfl, wp_move rfl (h1 ⟨_, rfl⟩ _ _ (grown_refl _ none) (houter _ rfl) (by rw [houter _ rfl]; exact nobl rfl) (by rw [houter _ rfl]; exact FreshB.none rfl))⟩
            · cases (show some _ = some o from ho)
              exact ⟨rfl, wp_index rfl (hitem 1 (by decide) ⟨hpre 1 rfl, hout _ (by decide)⟩) (hitem 2 (by decide) ⟨hpre 2 rfl, hout _ (by decide)⟩) (index_hs _ _ _ _ hlt _) (h1 ⟨_, rfl⟩ _ _ (grown_refl _ none) rfl (nobl rfl) (FreshB.none rfl))⟩
            · cases (show some _ = some o from ho)
              exact ⟨rfl, wp_slice_all rfl (hitem 3 (by decide) ⟨hpre 3 rfl, hout _ (by decide)⟩) (sl_arr _ _ _) (h1 ⟨_, rfl⟩ _ _ (grown_refl _ none) rfl (fun g e => Nat.lt_of_lt_of_le (k1a g e) hg.size) (FreshB.old rfl k1a))⟩
            · cases (show some _ = some o from ho)
              exact ⟨rfl, wp_lit1 rfl ((show a.eval (.tmp 64) = .slice (some ⟨g1, k * 32, none⟩) 32 32 from hitem 4 (by decide) ⟨hpre 4 rfl, hout _ (by decide)⟩).trans (HP1.out)) (lit_p1 P1 _) (h1 ⟨_, rfl⟩ _ _ (grown_alloc (grown_refl _ _) _) ⟨_, rfl, rd_row (heap_alloc_new _ _)⟩ (new_lt _ _) (FreshB.new (new_ge _)))⟩
            · cases (show some _ = some o from ho)
              obtain ⟨b, e1, h4⟩ := hitem 5 (by decide) ⟨hpre 5 rfl, hout _ (by decide)⟩
              exact ⟨rfl, wp_rtag (t := 112) (ps := [P1]) (l := F1) rfl rfl e1 (rdP_kept1 h4 (hP1r _ hg)) rfl (HP1c.out) (hF1b) (by simp) (fun w' hg' => by rw [HT1.out]; exact h1 ⟨_, rfl⟩ _ _ hg' rfl (nobl (blocks_bytes _)) (FreshB.none (blocks_bytes _)))⟩
            · cases (show some _ = some o from ho)
              exact ⟨rfl, wp_field rfl (houter _ rfl) (field_O _ 0 (by omega)) (h1 ⟨_, rfl⟩ _ _ (grown_refl _ none) rfl (nobl rfl) (FreshB.none rfl))⟩
            · cases (show some _ = some o from ho)
              exact ⟨rfl, wp_loadC rfl (hitem 7 (by decide) ⟨hpre 7 rfl, hout _ (by decide)⟩) (load_cell (cell_of_cells (keep_of h10 hg) rfl) Tryd.underlying25 rfl) (h1 ⟨_, rfl⟩ _ _ (grown_refl _ none) rfl (fun g e => Nat.lt_of_lt_of_le (k3 g e) hg.size) (FreshB.old rfl k3))⟩
            · cases (show some _ = some o from ho)
              exact ⟨rfl, wp_move rfl (h1 ⟨_, rfl⟩ _ _ (grown_refl _ none) (houter _ rfl) (by rw [houter _ rfl]; exact nobl rfl) (by rw [houter _ rfl]; exact FreshB.none rfl))⟩
            · cases (show some _ = some o from ho)
              exact ⟨rfl, wp_index rfl (hitem 8 (by decide) ⟨hpre 8 rfl, hout _ (by decide)⟩) (hitem 9 (by decide) ⟨hpre 9 rfl, hout _ (by decide)⟩) (index_hs _ _ _ _ hlt _) (h1 ⟨_, rfl⟩ _ _ (grown_refl _ none) rfl (nobl rfl) (FreshB.none rfl))⟩
            · cases (show some _ = some o from ho)
              exact ⟨rfl, wp_slice_all rfl (hitem 10 (by decide) ⟨hpre 10 rfl, hout _ (by decide)⟩) (sl_arr _ _ _) (h1 ⟨_, rfl⟩ _ _ (grown_refl _ none) rfl (fun g e => Nat.lt_of_lt_of_le (k3a g e) hg.size) (FreshB.old rfl k3a))⟩
            · cases (show some _ = some o from ho)
              exact ⟨rfl, wp_lit1 rfl ((show a.eval (.tmp 71) = .slice (some ⟨g3, k * 32, none⟩) 32 32 from hitem 11 (by decide) ⟨hpre 11 rfl, hout _ (by decide)⟩).trans (HP3.out)) (lit_p1 P3 _) (h1 ⟨_, rfl⟩ _ _ (grown_alloc (grown_refl _ _) _) ⟨_, rfl, rd_row (heap_alloc_new _ _)⟩ (new_lt _ _) (FreshB.new (new_ge _)))⟩
            · cases (show some _ = some o from ho)
              obtain ⟨b, e1, h4⟩ := hitem 12 (by decide) ⟨hpre 12 rfl, hout _ (by decide)⟩
              exact ⟨rfl, wp_rtag (t := 112) (ps := [P3]) (l := F3) rfl rfl e1 (rdP_kept1 h4 (hP3r _ hg)) rfl (HP3c.out) (hF3b) (by simp) (fun w' hg' => by rw [HT3.out]; exact h1 ⟨_, rfl⟩ _ _ hg' rfl (nobl (blocks_bytes _)) (FreshB.none (blocks_bytes _)))⟩
            · cases (show some _ = some o from ho)
              exact ⟨rfl, wp_alloc rfl (alloc_H _) (h1 ⟨_, rfl⟩ _ _ (grown_alloc (grown_refl _ _) _) ⟨_, rfl, heap_alloc_new _ _⟩ (new_lt _ _) (FreshB.new (new_ge _)))⟩
            · cases (show some _ = some o from ho)
              exact ⟨rfl, wp_alloc rfl (alloc_H _) (h1 ⟨_, rfl⟩ _ _ (grown_alloc (grown_refl _ _) _) ⟨_, rfl, heap_alloc_new _ _⟩ (new_lt _ _) (FreshB.new (new_ge _)))⟩
            · cases (show some _ = some o from ho)
              obtain ⟨b, e1, hb⟩ := hitem 14 (by decide) ⟨hpre 14 rfl, hLi⟩
              have x2 : a.eval (.tmp 66) = .agg (T1.map bv).toArray := hitem 6 (by decide) ⟨hpre 6 rfl, hout _ (by decide)⟩
              exact ⟨rfl, wp_store_row 23 _ _ rfl b (T1.map bv).toArray e1 x2 23 _ hb (hashV_size _ hT1l.out) (by rw [rowH_size _ (by simp), List.size_toArray, List.length_map, hT1l.out]) (bv_all' _) (h3 rfl 14 _ _ (some b) (by decide) ⟨hpre 14 rfl, hLi⟩ rfl rfl (grown_setRow (grown_refl _ _) (.inl rfl) _) (fun g e => by cases e; rw [show valB _ a 14 = _ from e1]; exact List.mem_singleton.2 rfl) ⟨b, _, (by rw [show valB _ a 16 = .tuple #[a.eval (.tmp 12), a.eval (.tmp 66)] from rfl, show a.eval (.tmp 12) = _ from e1, x2]), setRow_heap _ _ _ _ _ _ hb⟩ (fun g h => by rw [show valB _ a 16 = .tuple #[a.eval (.tmp 12), a.eval (.tmp 66)] from rfl, show a.eval (.tmp 12) = _ from e1] at h; rw [show valB _ a 14 = _ from e1]; exact h))⟩
          · intro a wT hgT hend hap ha
            obtain ⟨f, hf⟩ : ∃ f : Nat → Value, f = fun t => a.tmps.getD t undef := ⟨_, rfl⟩
            have s66 : f 66 = (.agg (T1.map bv).toArray) := by rw [hf]; exact (hend 6 (by decide) (by decide)).1
            have s73 : f 73 = (.agg (T3.map bv).toArray) := by rw [hf]; exact (hend 13 (by decide) (by decide)).1
            obtain ⟨⟨b12, C12, q12, hh12⟩, fr12⟩ := hend 16 (by decide) (by decide)
            have f12 : wr.heap.size ≤ b12 := fr12 rfl b12 (by rw [q12]; exact List.mem_singleton.2 rfl)
            have p12 := tuple_two (show Value.tuple #[_, _] = _ from q12)
            have s12 := (congrFun hf 12).trans p12.1
            have v12 : f 66 = .agg C12 := (congrFun hf 66).trans p12.2
            obtain rfl := Value.agg.inj (v12.symm.trans s66)
            clear v12
            obtain ⟨⟨b13, q13, hh13⟩, fr13⟩ := hend 15 (by decide) (by decide)
            have f13 : wr.heap.size ≤ b13 := fr13 rfl b13 (by rw [q13]; exact List.mem_singleton.2 rfl)
            have s13 := (congrFun hf 13).trans q13
            have n12_13 : b12 ≠ b13 := fun e => hap 16 15 (by decide) (by decide) (by decide) (by decide) (by decide) rfl b13 (by rw [q13]; exact List.mem_singleton.2 rfl) (by rw [q12, e]; exact List.mem_singleton.2 rfl)
            rw [← hf] at ha
            clear hend hap
            clear hf
            clear q12 p12 fr12 q13 fr13
            subst ha
            simp only [fill, ocS, Nat.reduceAdd, Nat.reduceBEq, Bool.or_false, Bool.or_true, cond_true, cond_false, List.drop_succ_cons, List.drop_zero, s66, s73, s12, s13]
            clear s66 s73 s12 s13
            have hgs : wT.grownBy (wT.setRow b13 (T3.map bv).toArray) (some b13) := grown_setRow (grown_refl _ _) (.inl rfl) _
            have h13 : (wT.setRow b13 (T3.map bv).toArray).heap[b13]? = some (.cells (T3.map bv).toArray 23 (0, 0)) := setRow_heap _ _ _ _ _ _ hh13
            have h12 : (wT.setRow b13 (T3.map bv).toArray).heap[b12]? = some (.cells (T1.map bv).toArray 23 (0, 0)) := (setRow_other _ _ _ _ n12_13).trans hh12
            have gE : wr.grownBy (wT.setRow b13 (T3.map bv).toArray) none := grown_trans hgT hgs (.inr fun g e => by cases e; exact f13)
            have hsz13 : (rowH []).size = (T3.map bv).toArray.size := by rw [rowH_size _ (by simp), List.size_toArray, List.length_map, hT3l.out]
            clear hgs k1 k3 k1a k3a HP1 HP3 HP1c HP3c hP1r hP3r hF1b hF3b
            rcases hcase with ⟨hby, hFF, hGG⟩ | ⟨hby, hS1, hS2⟩
            · subst hby hFF hGG
              go_upto_region 10 with (first
                | (refine wpList_store_row rfl 23 _ _ rfl b13 (T3.map bv).toArray rfl rfl 23 _ hh13 (hashV_size T3 hT3l.out) hsz13 (bv_all' _) ?_; generalize wT.setRow b13 _ = wE at h12 h13 gE ⊢)
                | (go_at_call_of 13 (Value.slice A7 L1.length c7); refine (hbk1 _ (hkz.kept gE) (hr7B.kept (grown_same hgz gE))).mono ?_; rintro e wG ⟨rfl, hgG⟩)
                | (go_at_call_of 13 (Value.slice A8 L2.length c8); refine (hbk2 _ (hkz.kept (grown_same gE hgG)) (hr8B.kept (grown_same hgz (grown_same gE hgG)))).mono ?_; rintro e wF ⟨rfl, hgF⟩))
              have gF : wr.grownBy wF none := grown_same gE (grown_same hgG hgF)
              have gEF : wE.grownBy wF none := grown_same hgG hgF
              replace h9 := keep_of h9 gF
              replace h10 := keep_of h10 gF
              have h12F := keep_of h12 gEF
              have h13F := keep_of h13 gEF
              replace hF1 := fun w' (h : wF.grownBy w' none) => hF1 w' (grown_same gF h)
              replace hF3 := fun w' (h : wF.grownBy w' none) => hF3 w' (grown_same gF h)
              have hF2 := fun w' (h : wF.grownBy w' none) => hG2 w' (grown_same gF h)
              replace hG2 := fun w' (h : wF.grownBy w' none) => hG2 w' (grown_same gF h)
              replace hG4 := fun w' (h : wF.grownBy w' none) => hG4 w' (grown_same gF h)
              have k1 := blocks_off (o := 0) (n := 32) (c := c1) (Nat.lt_of_lt_of_le t1 gF.size)
              have k2 := blocks_off (o := 0) (n := 32) (c := c2) (Nat.lt_of_lt_of_le t2 gF.size)
              have k3 := blocks_off (o := 0) (n := 32) (c := c3) (Nat.lt_of_lt_of_le t3 gF.size)
              have k4 := blocks_off (o := 0) (n := 32) (c := c4) (Nat.lt_of_lt_of_le t4 gF.size)
              have hgzF := grown_same hgz gF
              generalize F1 = F at *
              generalize G1 = G at *
              have hFl := hl1
              have hGl := hl2
              refine wp_region_gb (al := odAl) 23 (N := 145) (S := odS) (die := odDie) (own := odOwn) (F := odF k b9 b10 g1 c1 g2 c2 g3 c3 g4 c4 F G) (by kernel_rfl) (Nat.le_of_ble_eq_true (by kernel_rfl)) (by kernel_rfl) (by kernel_rfl) (by kernel_rfl) (by kernel_rfl) (Nat.le_of_ble_eq_true (by kernel_rfl)) (odF_lasts k b9 b10 g1 c1 g2 c2 g3 c3 g4 c4 F G) ?_ ?_
              · intro i o L' a w K hi ho hg hLi hout hpre houter hitem h1 h2 h3
                have hcases : i = 0 ∨ i = 1 ∨ i = 2 ∨ i = 3 ∨ i = 4 ∨ i = 5 ∨ i = 6 ∨ i = 7 ∨ i = 8 ∨ i = 9 ∨ i = 10 ∨ i = 11 ∨ i = 12 ∨ i = 13 ∨ i = 14 ∨ i = 15 ∨ i = 16 ∨ i = 17 ∨ i = 18 ∨ i = 19 ∨ i = 20 ∨ i = 21 ∨ i = 22 := by omega
                rcases hcases with rfl | rfl | rfl | rfl | rfl | rfl | rfl | rfl | rfl | rfl | rfl | rfl | rfl | rfl | rfl | rfl | rfl | rfl | rfl | rfl | rfl | rfl | rfl
                · cases (show some _ = some o from ho)
                  exact ⟨rfl, wp_field rfl (houter _ rfl) (field_O _ 0 (by omega)) (h1 ⟨_, rfl⟩ _ _ (grown_refl _ none) rfl (nobl rfl) (FreshB.none rfl))⟩
                · cases (show some _ = some o from ho)
                  exact ⟨rfl, wp_loadC rfl (hitem 0 (by decide) ⟨hpre 0 rfl, hout _ (by decide)⟩) (load_cell (cell_of_cells (keep_of h9 hg) rfl) Tryd.underlying25 rfl) (h1 ⟨_, rfl⟩ _ _ (grown_refl _ none) rfl (fun g e => Nat.lt_of_lt_of_le (k1 g e) hg.size) (FreshB.old rfl k1))⟩
                · cases (show some _ = some o from ho)
                  exact ⟨rfl, wp_move rfl (h1 ⟨_, rfl⟩ _ _ (grown_refl _ none) (houter _ rfl) (by rw [houter _ rfl]; exact nobl rfl) (by rw [houter _ rfl]; exact FreshB.none rfl))⟩
                · cases (show some _ = some o from ho)
                  exact ⟨rfl, wp_index rfl (hitem 1 (by decide) ⟨hpre 1 rfl, hout _ (by decide)⟩) (hitem 2 (by decide) ⟨hpre 2 rfl, hout _ (by decide)⟩) (index_hs _ _ _ _ hlt _) (h1 ⟨_, rfl⟩ _ _ (grown_refl _ none) rfl (nobl rfl) (FreshB.none rfl))⟩
                · cases (show some _ = some o from ho)
                  exact ⟨rfl, wp_load_mid 23 _ rfl g1 (k * 32) (hitem 3 (by decide) ⟨hpre 3 rfl, hout _ (by decide)⟩) (F.map bv) _ (hF1 _ hg) Tryd.underlying23 rfl (info_hash _ hFl.out) (h1 ⟨_, rfl⟩ _ _ (grown_refl _ none) rfl (nobl (blocks_bytes _)) (FreshB.none (blocks_bytes _)))⟩
                · cases (show some _ = some o from ho)
                  exact ⟨rfl, wp_field rfl (houter _ rfl) (field_O _ 0 (by omega)) (h1 ⟨_, rfl⟩ _ _ (grown_refl _ none) rfl (nobl rfl) (FreshB.none rfl))⟩
                · cases (show some _ = some o from ho)
                  exact ⟨rfl, wp_loadC rfl (hitem 5 (by decide) ⟨hpre 5 rfl, hout _ (by decide)⟩) (load_cell (cell_of_cells (keep_of h10 hg) rfl) Tryd.underlying25 rfl) (h1 ⟨_, rfl⟩ _ _ (grown_refl _ none) rfl (fun g e => Nat.lt_of_lt_of_le (k3 g e) hg.size) (FreshB.old rfl k3))⟩
                · cases (show some _ = some o from ho)
                  exact ⟨rfl, wp_move rfl (h1 ⟨_, rfl⟩ _ _ (grown_refl _ none) (houter _ rfl) (by rw [houter _ rfl]; exact nobl rfl) (by rw [houter _ rfl]; exact FreshB.none rfl))⟩
                · cases (show some _ = some o from ho)
                  exact ⟨rfl, wp_index rfl (hitem 6 (by decide) ⟨hpre 6 rfl, hout _ (by decide)⟩) (hitem 7 (by decide) ⟨hpre 7 rfl, hout _ (by decide)⟩) (index_hs _ _ _ _ hlt _) (h1 ⟨_, rfl⟩ _ _ (grown_refl _ none) rfl (nobl rfl) (FreshB.none rfl))⟩
                · cases (show some _ = some o from ho)
                  exact ⟨rfl, wp_load_mid 23 _ rfl g3 (k * 32) (hitem 8 (by decide) ⟨hpre 8 rfl, hout _ (by decide)⟩) (F.map bv) _ (hF3 _ hg) Tryd.underlying23 rfl (info_hash _ hFl.out) (h1 ⟨_, rfl⟩ _ _ (grown_refl _ none) rfl (nobl (blocks_bytes _)) (FreshB.none (blocks_bytes _)))⟩
                · cases (show some _ = some o from ho)
                  exact ⟨rfl, wp_bin rfl (hitem 4 (by decide) ⟨hpre 4 rfl, hout _ (by decide)⟩) (hitem 9 (by decide) ⟨hpre 9 rfl, hout _ (by decide)⟩) (guard_hneq _ _ _ _ _) (neqH_false F hFl.out _) (h1 ⟨_, rfl⟩ _ _ (grown_refl _ none) rfl (nobl rfl) (FreshB.none rfl))⟩
                · cases (show some _ = some o from ho)
                  have hx := hitem 10 (by decide) ⟨hpre 10 rfl, hout _ (by decide)⟩
                  exact ⟨rfl, wp_move rfl (h1 ⟨_, rfl⟩ _ _ (grown_refl _ none) hx (by rw [show a.eval (.tmp 91) = .bool false from hx]; exact nobl rfl) (by rw [show a.eval (.tmp 91) = .bool false from hx]; exact FreshB.none rfl))⟩
                · cases (show some _ = some o from ho)
                  exact ⟨wanted_not (j := 11) rfl rfl (hitem 11 (by decide) ⟨hpre 11 rfl, hout _ (by decide)⟩), wp_field rfl (houter _ rfl) (field_O _ 1 (by omega)) (h1 ⟨_, rfl⟩ _ _ (grown_refl _ none) rfl (nobl rfl) (FreshB.none rfl))⟩
                · cases (show some _ = some o from ho)
                  exact ⟨wanted_not (j := 11) rfl rfl (hitem 11 (by decide) ⟨hpre 11 rfl, hout _ (by decide)⟩), wp_loadC rfl (hitem 12 (by decide) ⟨hpre 12 rfl, hout _ (by decide)⟩) (load_cell (cell_of_cells (keep_of h9 hg) rfl) Tryd.underlying25 rfl) (h1 ⟨_, rfl⟩ _ _ (grown_refl _ none) rfl (fun g e => Nat.lt_of_lt_of_le (k2 g e) hg.size) (FreshB.old rfl k2))⟩
                · cases (show some _ = some o from ho)
                  exact ⟨wanted_not (j := 11) rfl rfl (hitem 11 (by decide) ⟨hpre 11 rfl, hout _ (by decide)⟩), wp_move rfl (h1 ⟨_, rfl⟩ _ _ (grown_refl _ none) (houter _ rfl) (by rw [houter _ rfl]; exact nobl rfl) (by rw [houter _ rfl]; exact FreshB.none rfl))⟩
                · cases (show some _ = some o from ho)
                  exact ⟨wanted_not (j := 11) rfl rfl (hitem 11 (by decide) ⟨hpre 11 rfl, hout _ (by decide)⟩), wp_index rfl (hitem 13 (by decide) ⟨hpre 13 rfl, hout _ (by decide)⟩) (hitem 14 (by decide) ⟨hpre 14 rfl, hout _ (by decide)⟩) (index_hs _ _ _ _ hlt _) (h1 ⟨_, rfl⟩ _ _ (grown_refl _ none) rfl (nobl rfl) (FreshB.none rfl))⟩
                · cases (show some _ = some o from ho)
                  exact ⟨wanted_not (j := 11) rfl rfl (hitem 11 (by decide) ⟨hpre 11 rfl, hout _ (by decide)⟩), wp_load_mid 23 _ rfl g2 (k * 32) (hitem 15 (by decide) ⟨hpre 15 rfl, hout _ (by decide)⟩) (G.map bv) _ (hG2 _ hg) Tryd.underlying23 rfl (info_hash _ hGl.out) (h1 ⟨_, rfl⟩ _ _ (grown_refl _ none) rfl (nobl (blocks_bytes _)) (FreshB.none (blocks_bytes _)))⟩
                · cases (show some _ = some o from ho)
                  exact ⟨wanted_not (j := 11) rfl rfl (hitem 11 (by decide) ⟨hpre 11 rfl, hout _ (by decide)⟩), wp_field rfl (houter _ rfl) (field_O _ 1 (by omega)) (h1 ⟨_, rfl⟩ _ _ (grown_refl _ none) rfl (nobl rfl) (FreshB.none rfl))⟩
                · cases (show some _ = some o from ho)
                  exact ⟨wanted_not (j := 11) rfl rfl (hitem 11 (by decide) ⟨hpre 11 rfl, hout _ (by decide)⟩), wp_loadC rfl (hitem 17 (by decide) ⟨hpre 17 rfl, hout _ (by decide)⟩) (load_cell (cell_of_cells (keep_of h10 hg) rfl) Tryd.underlying25 rfl) (h1 ⟨_, rfl⟩ _ _ (grown_refl _ none) rfl (fun g e => Nat.lt_of_lt_of_le (k4 g e) hg.size) (FreshB.old rfl k4))⟩
                · cases (show some _ = some o from ho)
                  exact ⟨wanted_not (j := 11) rfl rfl (hitem 11 (by decide) ⟨hpre 11 rfl, hout _ (by decide)⟩), wp_move rfl (h1 ⟨_, rfl⟩ _ _ (grown_refl _ none) (houter _ rfl) (by rw [houter _ rfl]; exact nobl rfl) (by rw [houter _ rfl]; exact FreshB.none rfl))⟩
                · cases (show some _ = some o from ho)
                  exact ⟨wanted_not (j := 11) rfl rfl (hitem 11 (by decide) ⟨hpre 11 rfl, hout _ (by decide)⟩), wp_index rfl (hitem 18 (by decide) ⟨hpre 18 rfl, hout _ (by decide)⟩) (hitem 19 (by decide) ⟨hpre 19 rfl, hout _ (by decide)⟩) (index_hs _ _ _ _ hlt _) (h1 ⟨_, rfl⟩ _ _ (grown_refl _ none) rfl (nobl rfl) (FreshB.none rfl))⟩
                · cases (show some _ = some o from ho)
                  exact ⟨wanted_not (j := 11) rfl rfl (hitem 11 (by decide) ⟨hpre 11 rfl, hout _ (by decide)⟩), wp_load_mid 23 _ rfl g4 (k * 32) (hitem 20 (by decide) ⟨hpre 20 rfl, hout _ (by decide)⟩) (G.map bv) _ (hG4 _ hg) Tryd.underlying23 rfl (info_hash _ hGl.out) (h1 ⟨_, rfl⟩ _ _ (grown_refl _ none) rfl (nobl (blocks_bytes _)) (FreshB.none (blocks_bytes _)))⟩
                · cases (show some _ = some o from ho)
                  exact ⟨wanted_not (j := 11) rfl rfl (hitem 11 (by decide) ⟨hpre 11 rfl, hout _ (by decide)⟩), wp_bin rfl (hitem 16 (by decide) ⟨hpre 16 rfl, hout _ (by decide)⟩) (hitem 21 (by decide) ⟨hpre 21 rfl, hout _ (by decide)⟩) (guard_hneq _ _ _ _ _) (neqH_false G hGl.out _) (h1 ⟨_, rfl⟩ _ _ (grown_refl _ none) rfl (nobl rfl) (FreshB.none rfl))⟩
              · intro a wT hgT hend hap ha
                obtain ⟨f, hf⟩ : ∃ f : Nat → Value, f = fun t => a.tmps.getD t undef := ⟨_, rfl⟩
                have s92 : f 92 = .bool false := by rw [hf]; exact (hend 11 (by decide) (by decide)).1
                have s103 : f 103 = .bool false := by rw [hf]; exact (hend 22 (by decide) (by decide)).1
                rw [← hf] at ha
                clear hend hap
                clear hf
                subst ha
                simp only [fill, odS, Nat.reduceAdd, Nat.reduceBEq, Bool.or_false, Bool.or_true, cond_true, cond_false, List.drop_succ_cons, List.drop_zero, s92, s103]
                clear s92 s103
                go_wp2
                go_roundw
                case rel => exact ⟨k + 1, by omega, by go_num, grown_same hgzF hgT⟩
                case measure => simp [intOf]; omega
            · have hby' : ¬ (y1 : Int) = (y2 : Int) := by omega
              go_upto_region 12 with (first
                | (refine wpList_store_row rfl 23 _ _ rfl b13 (T3.map bv).toArray rfl rfl 23 _ hh13 (hashV_size T3 hT3l.out) hsz13 (bv_all' _) ?_; generalize wT.setRow b13 _ = wE at h12 h13 gE ⊢)
                | (go_at_call_of 13 (Value.slice A7 L1.length c7); refine (hbk1 _ (hkz.kept gE) (hr7B.kept (grown_same hgz gE))).mono ?_; rintro e wG ⟨rfl, hgG⟩)
                | (go_at_call_of 13 (Value.slice A8 L2.length c8); refine (hbk2 _ (hkz.kept (grown_same gE hgG)) (hr8B.kept (grown_same hgz (grown_same gE hgG)))).mono ?_; rintro e wF ⟨rfl, hgF⟩))
              have gF : wr.grownBy wF none := grown_same gE (grown_same hgG hgF)
              have gEF : wE.grownBy wF none := grown_same hgG hgF
              replace h9 := keep_of h9 gF
              replace h10 := keep_of h10 gF
              have h12F := keep_of h12 gEF
              have h13F := keep_of h13 gEF
              replace hF1 := fun w' (h : wF.grownBy w' none) => hF1 w' (grown_same gF h)
              replace hF3 := fun w' (h : wF.grownBy w' none) => hF3 w' (grown_same gF h)
              have hF2 := fun w' (h : wF.grownBy w' none) => hG2 w' (grown_same gF h)
              replace hG2 := fun w' (h : wF.grownBy w' none) => hG2 w' (grown_same gF h)
              replace hG4 := fun w' (h : wF.grownBy w' none) => hG4 w' (grown_same gF h)
              have k1 := blocks_off (o := 0) (n := 32) (c := c1) (Nat.lt_of_lt_of_le t1 gF.size)
              have k2 := blocks_off (o := 0) (n := 32) (c := c2) (Nat.lt_of_lt_of_le t2 gF.size)
              have k3 := blocks_off (o := 0) (n := 32) (c := c3) (Nat.lt_of_lt_of_le t3 gF.size)
              have k4 := blocks_off (o := 0) (n := 32) (c := c4) (Nat.lt_of_lt_of_le t4 gF.size)
              have hgzF := grown_same hgz gF
              subst hS1 hS2
              generalize G1 = F at *
              generalize G3 = G at *
              have hFl := hl2
              have hGl := hl4
              refine wp_region_gb (al := oeAl) 15 (N := 145) (S := oeS) (die := oeDie) (own := oeOwn) (F := oeF k b9 b10 g2 c2 g4 c4 F G) (by kernel_rfl) (Nat.le_of_ble_eq_true (by kernel_rfl)) (by kernel_rfl) (by kernel_rfl) (by kernel_rfl) (by kernel_rfl) (Nat.le_of_ble_eq_true (by kernel_rfl)) (oeF_lasts k b9 b10 g2 c2 g4 c4 F G) ?_ ?_
              · intro i o L' a w K hi ho hg hLi hout hpre houter hitem h1 h2 h3
                have hcases : i = 0 ∨ i = 1 ∨ i = 2 ∨ i = 3 ∨ i = 4 ∨ i = 5 ∨ i = 6 ∨ i = 7 ∨ i = 8 ∨ i = 9 ∨ i = 10 ∨ i = 11 ∨ i = 12 ∨ i = 13 ∨ i = 14 := by omega
                rcases hcases with rfl | rfl | rfl | rfl | rfl | rfl | rfl | rfl | rfl | rfl | rfl | rfl | rfl | rfl | rfl
                · cases (show some _ = some o from ho)
                  exact ⟨rfl, wp_field rfl (houter _ rfl) (field_O _ 1 (by omega)) (h1 ⟨_, rfl⟩ _ _ (grown_refl _ none) rfl (nobl rfl) (FreshB.none rfl))⟩
                · cases (show some _ = some o from ho)
                  exact ⟨rfl, wp_loadC rfl (hitem 0 (by decide) ⟨hpre 0 rfl, hout _ (by decide)⟩) (load_cell (cell_of_cells (keep_of h9 hg) rfl) Tryd.underlying25 rfl) (h1 ⟨_, rfl⟩ _ _ (grown_refl _ none) rfl (fun g e => Nat.lt_of_lt_of_le (k2 g e) hg.size) (FreshB.old rfl k2))⟩
                · cases (show some _ = some o from ho)
                  exact ⟨rfl, wp_move rfl (h1 ⟨_, rfl⟩ _ _ (grown_refl _ none) (houter _ rfl) (by rw [houter _ rfl]; exact nobl rfl) (by rw [houter _ rfl]; exact FreshB.none rfl))⟩
                · cases (show some _ = some o from ho)
                  exact ⟨rfl, wp_index rfl (hitem 1 (by decide) ⟨hpre 1 rfl, hout _ (by decide)⟩) (hitem 2 (by decide) ⟨hpre 2 rfl, hout _ (by decide)⟩) (index_hs _ _ _ _ hlt _) (h1 ⟨_, rfl⟩ _ _ (grown_refl _ none) rfl (nobl rfl) (FreshB.none rfl))⟩
                · cases (show some _ = some o from ho)
                  exact ⟨rfl, wp_load_mid 23 _ rfl g2 (k * 32) (hitem 3 (by decide) ⟨hpre 3 rfl, hout _ (by decide)⟩) (F.map bv) _ (hF2 _ hg) Tryd.underlying23 rfl (info_hash _ hFl.out) (h1 ⟨_, rfl⟩ _ _ (grown_refl _ none) rfl (nobl (blocks_bytes _)) (FreshB.none (blocks_bytes _)))⟩
                · cases (show some _ = some o from ho)
                  exact ⟨rfl, wp_load_row 23 _ rfl _ (houter _ rfl) _ (F.map bv).toArray (0, 0) _ (keep_of h13F hg) Tryd.underlying23 rfl (hashV_size _ (hFl.out)) (h1 ⟨_, rfl⟩ _ _ (grown_refl _ none) rfl (nobl (blocks_bytes _)) (FreshB.none (blocks_bytes _)))⟩
                · cases (show some _ = some o from ho)
                  exact ⟨rfl, wp_bin rfl (hitem 4 (by decide) ⟨hpre 4 rfl, hout _ (by decide)⟩) (hitem 5 (by decide) ⟨hpre 5 rfl, hout _ (by decide)⟩) (guard_hneq _ _ _ _ _) (neqH_false F hFl.out _) (h1 ⟨_, rfl⟩ _ _ (grown_refl _ none) rfl (nobl rfl) (FreshB.none rfl))⟩
                · cases (show some _ = some o from ho)
                  have hx := hitem 6 (by decide) ⟨hpre 6 rfl, hout _ (by decide)⟩
                  exact ⟨rfl, wp_move rfl (h1 ⟨_, rfl⟩ _ _ (grown_refl _ none) hx (by rw [show a.eval (.tmp 111) = .bool false from hx]; exact nobl rfl) (by rw [show a.eval (.tmp 111) = .bool false from hx]; exact FreshB.none rfl))⟩
                · cases (show some _ = some o from ho)
                  exact ⟨wanted_not (j := 7) rfl rfl (hitem 7 (by decide) ⟨hpre 7 rfl, hout _ (by decide)⟩), wp_field rfl (houter _ rfl) (field_O _ 1 (by omega)) (h1 ⟨_, rfl⟩ _ _ (grown_refl _ none) rfl (nobl rfl) (FreshB.none rfl))⟩
                · cases (show some _ = some o from ho)
                  exact ⟨wanted_not (j := 7) rfl rfl (hitem 7 (by decide) ⟨hpre 7 rfl, hout _ (by decide)⟩), wp_loadC rfl (hitem 8 (by decide) ⟨hpre 8 rfl, hout _ (by decide)⟩) (load_cell (cell_of_cells (keep_of h10 hg) rfl) Tryd.underlying25 rfl) (h1 ⟨_, rfl⟩ _ _ (grown_refl _ none) rfl (fun g e => Nat.lt_of_lt_of_le (k4 g e) hg.size) (FreshB.old rfl k4))⟩
                · cases (show some _ = some o from ho)
                  exact ⟨wanted_not (j := 7) rfl rfl (hitem 7 (by decide) ⟨hpre 7 rfl, hout _ (by decide)⟩), wp_move rfl (h1 ⟨_, rfl⟩ _ _ (grown_refl _ none) (houter _ rfl) (by rw [houter _ rfl]; exact nobl rfl) (by rw [houter _ rfl]; exact FreshB.none rfl))⟩
                · cases (show some _ = some o from ho)
                  exact ⟨wanted_not (j := 7) rfl rfl (hitem 7 (by decide) ⟨hpre 7 rfl, hout _ (by decide)⟩), wp_index rfl (hitem 9 (by decide) ⟨hpre 9 rfl, hout _ (by decide)⟩) (hitem 10 (by decide) ⟨hpre 10 rfl, hout _ (by decide)⟩) (index_hs _ _ _ _ hlt _) (h1 ⟨_, rfl⟩ _ _ (grown_refl _ none) rfl (nobl rfl) (FreshB.none rfl))⟩
                · cases (show some _ = some o from ho)
                  exact ⟨wanted_not (j := 7) rfl rfl (hitem 7 (by decide) ⟨hpre 7 rfl, hout _ (by decide)⟩), wp_load_mid 23 _ rfl g4 (k * 32) (hitem 11 (by decide) ⟨hpre 11 rfl, hout _ (by decide)⟩) (G.map bv) _ (hG4 _ hg) Tryd.underlying23 rfl (info_hash _ hGl.out) (h1 ⟨_, rfl⟩ _ _ (grown_refl _ none) rfl (nobl (blocks_bytes _)) (FreshB.none (blocks_bytes _)))⟩
                · cases (show some _ = some o from ho)
                  exact ⟨wanted_not (j := 7) rfl rfl (hitem 7 (by decide) ⟨hpre 7 rfl, hout _ (by decide)⟩), wp_load_row 23 _ rfl _ (houter _ rfl) _ (G.map bv).toArray (0, 0) _ (keep_of h12F hg) Tryd.underlying23 rfl (hashV_size _ (hGl.out)) (h1 ⟨_, rfl⟩ _ _ (grown_refl _ none) rfl (nobl (blocks_bytes _)) (FreshB.none (blocks_bytes _)))⟩
                · cases (show some _ = some o from ho)
                  exact ⟨wanted_not (j := 7) rfl rfl (hitem 7 (by decide) ⟨hpre 7 rfl, hout _ (by decide)⟩), wp_bin rfl (hitem 12 (by decide) ⟨hpre 12 rfl, hout _ (by decide)⟩) (hitem 13 (by decide) ⟨hpre 13 rfl, hout _ (by decide)⟩) (guard_hneq _ _ _ _ _) (neqH_false G hGl.out _) (h1 ⟨_, rfl⟩ _ _ (grown_refl _ none) rfl (nobl rfl) (FreshB.none rfl))⟩
              · intro a wT hgT hend hap ha
                obtain ⟨f, hf⟩ : ∃ f : Nat → Value, f = fun t => a.tmps.getD t undef := ⟨_, rfl⟩
                have s112 : f 112 = .bool false := by rw [hf]; exact (hend 7 (by decide) (by decide)).1
                have s119 : f 119 = .bool false := by rw [hf]; exact (hend 14 (by decide) (by decide)).1
                rw [← hf] at ha
                clear hend hap
                clear hf
                subst ha
                simp only [fill, oeS, Nat.reduceAdd, Nat.reduceBEq, Bool.or_false, Bool.or_true, cond_true, cond_false, List.drop_succ_cons, List.drop_zero, s112, s119]
                clear s112 s119
                go_wp2
                go_roundw
                case rel => exact ⟨k + 1, by omega, by go_num, grown_same hgzF hgT⟩
                case measure => simp [intOf]; omega
        · have hkk : k = 32 := by omega
          subst hkk
          rw [show ((32 : Nat) : Int) = 32 from rfl]
          replace hsd := keep_of hsd hgz
          replace hr7B := hr7B.kept hgz
          replace hr8B := hr8B.kept hgz
          replace hkB := hkB.kept hgz
          replace hgB := grown_same hgB hgz
          clear hbit1 hbit2 hgz t1 t2 t3 t4
          go_upto_region 16 with (first
            | (refine wpList_load_row rfl 23 _ rfl W0.heap.size rfl _ (x0.map bv).toArray (0, 0) _ hsd Tryd.underlying23 rfl (hashV_size _ hxl.out) ?_)
            | (go_at_call 8; refine (hkey _ hkB).mono ?_; rintro e wK ⟨rfl, hgK⟩)
            | (refine wpList_store_row rfl 23 _ _ rfl (wK.heap.size) (X.map bv).toArray rfl rfl 23 _ (alloc_at rfl) (hashV_size X hXl.out) (by rw [show (X.map bv).toArray.size = 32 from by rw [List.size_toArray, List.length_map, hXl.out]]; rfl) (bv_all' _) ?_; generalize hwV : World.setRow _ _ _ = V; have HWV := new_hash hwV; clear hwV))
          have h14 := HWV.1
          have gV := grown_same hgK HWV.2
          clear HWV hgK
          generalize wK.heap.size = b14 at h14 ⊢
          replace h9 := keep_of h9 gV
          replace h10 := keep_of h10 gV
          replace r1 := r1.kept gV
          replace r2 := r2.kept gV
          replace r3 := r3.kept gV
          replace r4 := r4.kept gV
          have hr7V := hr7B.kept gV
          have hr8V := hr8B.kept gV
          have hgV := grown_same hgB gV
          have hver1 : ∀ w' A c, V.grownBy w' none → RdB w' A L1 → Calls Tryd.prog 10 #[.agg (X.map bv).toArray, .slice A L1.length c, .agg #[.slice (some ⟨g1, 0, none⟩) 32 c1, .slice (some ⟨g2, 0, none⟩) 32 c2]] w' fun e w'' => e = .returned (.bool true) ∧ w'.grownBy w'' none :=
            fun w' A c h h2 => hver1a w' A c (hk.kept (grown_same hgV h)) h2 (r1.kept h) (r2.kept h)
          have hver2 : ∀ w' A c, V.grownBy w' none → RdB w' A L2 → Calls Tryd.prog 10 #[.agg (X.map bv).toArray, .slice A L2.length c, .agg #[.slice (some ⟨g3, 0, none⟩) 32 c3, .slice (some ⟨g4, 0, none⟩) 32 c4]] w' fun e w'' => e = .returned (.bool true) ∧ w'.grownBy w'' none :=
            fun w' A c h h2 => hver2a w' A c (hk.kept (grown_same hgV h)) h2 (r3.kept h) (r4.kept h)
          have k12 := blocks_two (n := 32) (m := 32) (c := c1) (d := c2) (lt_of_part (openF_len x0 L1) r1) (lt_of_part (shutF_len x0 L1) r2)
          have k34 := blocks_two (n := 32) (m := 32) (c := c3) (d := c4) (lt_of_part (openF_len x0 L2) r3) (lt_of_part (shutF_len x0 L2) r4)
          have k7 : ∀ x ∈ blocksOf (.slice A7 L1.length c7), x < V.heap.size := fun x hx => Nat.lt_of_lt_of_le (hlt7 x hx) hgV.size
          have k8 : ∀ x ∈ blocksOf (.slice A8 L2.length c8), x < V.heap.size := fun x hx => Nat.lt_of_lt_of_le (hlt8 x hx) hgV.size
          clear gV hver1a hver2a hkB hr7B hr8B hkey
          refine wp_region_gb (al := ogAl) 21 (N := 145) (S := ogS) (die := ogDie) (own := ogOwn) (F := ogF L1 L2 X g1 c1 g2 c2 g3 c3 g4 c4 A7 A8 c7 c8) (by kernel_rfl) (Nat.le_of_ble_eq_true (by kernel_rfl)) (by kernel_rfl) (by kernel_rfl) (by kernel_rfl) (by kernel_rfl) (Nat.le_of_ble_eq_true (by kernel_rfl)) (ogF_lasts L1 L2 X g1 c1 g2 c2 g3 c3 g4 c4 A7 A8 c7 c8) ?_ ?_
          · intro i o L' a w K hi ho hg hLi hout hpre houter hitem h1 h2 h3
            have hcases : i = 0 ∨ i = 1 ∨ i = 2 ∨ i = 3 ∨ i = 4 ∨ i = 5 ∨ i = 6 ∨ i = 7 ∨ i = 8 ∨ i = 9 ∨ i = 10 ∨ i = 11 ∨ i = 12 ∨ i = 13 ∨ i = 14 ∨ i = 15 ∨ i = 16 ∨ i = 17 ∨ i = 18 ∨ i = 19 ∨ i = 20 := by omega
            rcases hcases with rfl | rfl | rfl | rfl | rfl | rfl | rfl | rfl | rfl | rfl | rfl | rfl | rfl | rfl | rfl | rfl | rfl | rfl | rfl | rfl | rfl
            · cases (show some _ = some o from ho)
              exact ⟨rfl, wp_load_row 23 _ rfl _ (houter _ rfl) _ (X.map bv).toArray (0, 0) _ (keep_of h14 hg) Tryd.underlying23 rfl (hashV_size _ (hXl.out)) (h1 ⟨_, rfl⟩ _ _ (grown_refl _ none) rfl (nobl (blocks_bytes _)) (FreshB.none (blocks_bytes _)))⟩
            · cases (show some _ = some o from ho)
              exact ⟨rfl, wp_move rfl (h1 ⟨_, rfl⟩ _ _ (grown_refl _ none) (houter _ rfl) (by rw [houter _ rfl]; exact fun g e => Nat.lt_of_lt_of_le (k7 g e) hg.size) (by rw [houter _ rfl]; exact FreshB.old rfl k7))⟩
            · cases (show some _ = some o from ho)
              exact ⟨rfl, wp_load_row 27 _ rfl _ (houter _ rfl) _ #[.slice (some ⟨g1, 0, none⟩) 32 c1, .slice (some ⟨g2, 0, none⟩) 32 c2] (0, 0) _ (keep_of h9 hg) Tryd.underlying27 rfl (size_one) (h1 ⟨_, rfl⟩ _ _ (grown_refl _ none) rfl (fun g e => Nat.lt_of_lt_of_le (k12 g e) hg.size) (FreshB.old rfl k12))⟩
            · cases (show some _ = some o from ho)
              have x124 : a.eval (.tmp 124) = (.agg (X.map bv).toArray) := hitem 0 (by decide) ⟨hpre 0 rfl, hout _ (by decide)⟩
              have x125 : a.eval (.tmp 125) = .slice A7 L1.length c7 := hitem 1 (by decide) ⟨hpre 1 rfl, hout _ (by decide)⟩
              have x126 : a.eval (.tmp 126) = (.agg #[.slice (some ⟨g1, 0, none⟩) 32 c1, .slice (some ⟨g2, 0, none⟩) 32 c2]) := hitem 2 (by decide) ⟨hpre 2 rfl, hout _ (by decide)⟩
              refine ⟨rfl, wp_call rfl Tryd.func10 (by kernel_rfl) (by kernel_rfl) (args := #[(.agg (X.map bv).toArray), .slice A7 L1.length c7, (.agg #[.slice (some ⟨g1, 0, none⟩) 32 c1, .slice (some ⟨g2, 0, none⟩) 32 c2])]) (by simp [x124, x125, x126]) ((hver1 w A7 c7 hg (hr7V.kept hg)).mono ?_)⟩
              rintro e w' ⟨rfl, hg'⟩
              exact ⟨_, rfl, h1 ⟨_, rfl⟩ _ _ hg' rfl (nobl rfl) (FreshB.none rfl)⟩
            · cases (show some _ = some o from ho)
              have hx := hitem 3 (by decide) ⟨hpre 3 rfl, hout _ (by decide)⟩
              exact ⟨rfl, wp_move rfl (h1 ⟨_, rfl⟩ _ _ (grown_refl _ none) hx (by rw [show a.eval (.tmp 127) = .bool true from hx]; exact nobl rfl) (by rw [show a.eval (.tmp 127) = .bool true from hx]; exact FreshB.none rfl))⟩
            · cases (show some _ = some o from ho)
              exact ⟨wanted_of (j := 4) rfl rfl (hitem 4 (by decide) ⟨hpre 4 rfl, hout _ (by decide)⟩), wp_load_row 23 _ rfl _ (houter _ rfl) _ (X.map bv).toArray (0, 0) _ (keep_of h14 hg) Tryd.underlying23 rfl (hashV_size _ (hXl.out)) (h1 ⟨_, rfl⟩ _ _ (grown_refl _ none) rfl (nobl (blocks_bytes _)) (FreshB.none (blocks_bytes _)))⟩
            · cases (show some _ = some o from ho)
              exact ⟨wanted_of (j := 4) rfl rfl (hitem 4 (by decide) ⟨hpre 4 rfl, hout _ (by decide)⟩), wp_move rfl (h1 ⟨_, rfl⟩ _ _ (grown_refl _ none) (houter _ rfl) (by rw [houter _ rfl]; exact fun g e => Nat.lt_of_lt_of_le (k8 g e) hg.size) (by rw [houter _ rfl]; exact FreshB.old rfl k8))⟩
            · cases (show some _ = some o from ho)
              exact ⟨wanted_of (j := 4) rfl rfl (hitem 4 (by decide) ⟨hpre 4 rfl, hout _ (by decide)⟩), wp_load_row 27 _ rfl _ (houter _ rfl) _ #[.slice (some ⟨g3, 0, none⟩) 32 c3, .slice (some ⟨g4, 0, none⟩) 32 c4] (0, 0) _ (keep_of h10 hg) Tryd.underlying27 rfl (size_one) (h1 ⟨_, rfl⟩ _ _ (grown_refl _ none) rfl (fun g e => Nat.lt_of_lt_of_le (k34 g e) hg.size) (FreshB.old rfl k34))⟩
            · cases (show some _ = some o from ho)
              have x129 : a.eval (.tmp 129) = (.agg (X.map bv).toArray) := hitem 5 (by decide) ⟨hpre 5 rfl, hout _ (by decide)⟩
              have x130 : a.eval (.tmp 130) = .slice A8 L2.length c8 := hitem 6 (by decide) ⟨hpre 6 rfl, hout _ (by decide)⟩
              have x131 : a.eval (.tmp 131) = (.agg #[.slice (some ⟨g3, 0, none⟩) 32 c3, .slice (some ⟨g4, 0, none⟩) 32 c4]) := hitem 7 (by decide) ⟨hpre 7 rfl, hout _ (by decide)⟩
              refine ⟨wanted_of (j := 4) rfl rfl (hitem 4 (by decide) ⟨hpre 4 rfl, hout _ (by decide)⟩), wp_call rfl Tryd.func10 (by kernel_rfl) (by kernel_rfl) (args := #[(.agg (X.map bv).toArray), .slice A8 L2.length c8, (.agg #[.slice (some ⟨g3, 0, none⟩) 32 c3, .slice (some ⟨g4, 0, none⟩) 32 c4])]) (by simp [x129, x130, x131]) ((hver2 w A8 c8 hg (hr8V.kept hg)).mono ?_)⟩
              rintro e w' ⟨rfl, hg'⟩
              exact ⟨_, rfl, h1 ⟨_, rfl⟩ _ _ hg' rfl (nobl rfl) (FreshB.none rfl)⟩
            · cases (show some _ = some o from ho)
              have hc := hitem 4 (by decide) ⟨hpre 4 rfl, hout _ (by decide)⟩
              have hx := hitem 8 (by decide) ⟨hpre 8 rfl, hout _ (by decide)⟩
              exact ⟨rfl, wp_pick rfl hc (h1 ⟨_, rfl⟩ _ _ (grown_refl _ none) hx (by rw [show a.eval (.tmp 132) = .bool true from hx]; exact nobl rfl) (by rw [show a.eval (.tmp 132) = .bool true from hx]; exact FreshB.none rfl))⟩
            · cases (show some _ = some o from ho)
              have hx := hitem 9 (by decide) ⟨hpre 9 rfl, hout _ (by decide)⟩
              exact ⟨rfl, wp_move rfl (h1 ⟨_, rfl⟩ _ _ (grown_refl _ none) hx (by rw [show a.eval (.tmp 133) = .bool true from hx]; exact nobl rfl) (by rw [show a.eval (.tmp 133) = .bool true from hx]; exact FreshB.none rfl))⟩
            · cases (show some _ = some o from ho)
              exact ⟨wanted_of (j := 10) rfl rfl (hitem 10 (by decide) ⟨hpre 10 rfl, hout _ (by decide)⟩), wp_load_row 23 _ rfl _ (houter _ rfl) _ (X.map bv).toArray (0, 0) _ (keep_of h14 hg) Tryd.underlying23 rfl (hashV_size _ (hXl.out)) (h1 ⟨_, rfl⟩ _ _ (grown_refl _ none) rfl (nobl (blocks_bytes _)) (FreshB.none (blocks_bytes _)))⟩
            · cases (show some _ = some o from ho)
              exact ⟨wanted_of (j := 10) rfl rfl (hitem 10 (by decide) ⟨hpre 10 rfl, hout _ (by decide)⟩), wp_lit0 rfl (lit_none _) (h1 ⟨_, rfl⟩ _ _ (grown_alloc (grown_refl _ _) _) (ownB_new _ #[] [] 0 rfl rfl (Nat.zero_le _)) (new_lt _ _) (FreshB.new (new_ge _)))⟩
            · cases (show some _ = some o from ho)
              exact ⟨wanted_of (j := 10) rfl rfl (hitem 10 (by decide) ⟨hpre 10 rfl, hout _ (by decide)⟩), wp_move rfl (h1 ⟨_, rfl⟩ _ _ (grown_refl _ none) (houter _ rfl) (by rw [houter _ rfl]; exact fun g e => Nat.lt_of_lt_of_le (k7 g e) hg.size) (by rw [houter _ rfl]; exact FreshB.old rfl k7))⟩
            · cases (show some _ = some o from ho)
              have hu := hitem 12 (by decide) ⟨hpre 12 rfl, hLi⟩
              exact ⟨wanted_of (j := 10) rfl rfl (hitem 10 (by decide) ⟨hpre 10 rfl, hout _ (by decide)⟩), wp_appB rfl rfl hu (hitem 13 (by decide) ⟨hpre 13 rfl, hout _ (by decide)⟩) (rfl) (hr7V.kept hg) (by simp; omega) fun v w' hv hw => h2 ⟨_, rfl⟩ 12 v w' _ (by decide) ⟨hpre 12 rfl, hLi⟩ rfl rfl hw.1 (own_mem hu) hv (own_lt hv) (grew_blocks hu hv hw)⟩
            · cases (show some _ = some o from ho)
              exact ⟨wanted_of (j := 10) rfl rfl (hitem 10 (by decide) ⟨hpre 10 rfl, hout _ (by decide)⟩), wp_load_row 27 _ rfl _ (houter _ rfl) _ #[.slice (some ⟨g1, 0, none⟩) 32 c1, .slice (some ⟨g2, 0, none⟩) 32 c2] (0, 0) _ (keep_of h9 hg) Tryd.underlying27 rfl (size_one) (h1 ⟨_, rfl⟩ _ _ (grown_refl _ none) rfl (fun g e => Nat.lt_of_lt_of_le (k12 g e) hg.size) (FreshB.old rfl k12))⟩
            · cases (show some _ = some o from ho)
              obtain ⟨A, c, hx, hc, hm, hr⟩ := OwnB.slice (hitem 14 (by decide) ⟨hpre 14 rfl, hout _ (by decide)⟩)
              have x135 : a.eval (.tmp 135) = (.agg (X.map bv).toArray) := hitem 11 (by decide) ⟨hpre 11 rfl, hout _ (by decide)⟩
              have x139 : a.eval (.tmp 139) = (.agg #[.slice (some ⟨g1, 0, none⟩) 32 c1, .slice (some ⟨g2, 0, none⟩) 32 c2]) := hitem 15 (by decide) ⟨hpre 15 rfl, hout _ (by decide)⟩
              refine ⟨wanted_of (j := 10) rfl rfl (hitem 10 (by decide) ⟨hpre 10 rfl, hout _ (by decide)⟩), wp_call rfl Tryd.func10 (by kernel_rfl) (by kernel_rfl) (args := #[(.agg (X.map bv).toArray), .slice A L1.length c, (.agg #[.slice (some ⟨g1, 0, none⟩) 32 c1, .slice (some ⟨g2, 0, none⟩) 32 c2])]) (by simp [x135, x139, show a.eval (.tmp 138) = .slice A L1.length c from hx]) ((hver1 w A c hg hr).mono ?_)⟩
              rintro e w' ⟨rfl, hg'⟩
              exact ⟨_, rfl, h1 ⟨_, rfl⟩ _ _ hg' rfl (nobl rfl) (FreshB.none rfl)⟩
            · cases (show some _ = some o from ho)
              have hc := hitem 10 (by decide) ⟨hpre 10 rfl, hout _ (by decide)⟩
              have hx := hitem 16 (by decide) ⟨hpre 16 rfl, hout _ (by decide)⟩
              exact ⟨rfl, wp_pick rfl hc (h1 ⟨_, rfl⟩ _ _ (grown_refl _ none) hx (by rw [show a.eval (.tmp 140) = .bool true from hx]; exact nobl rfl) (by rw [show a.eval (.tmp 140) = .bool true from hx]; exact FreshB.none rfl))⟩
            · cases (show some _ = some o from ho)
              have hx := hitem 17 (by decide) ⟨hpre 17 rfl, hout _ (by decide)⟩
              exact ⟨rfl, wp_move rfl (h1 ⟨_, rfl⟩ _ _ (grown_refl _ none) hx (by rw [show a.eval (.tmp 141) = .bool true from hx]; exact nobl rfl) (by rw [show a.eval (.tmp 141) = .bool true from hx]; exact FreshB.none rfl))⟩
            · cases (show some _ = some o from ho)
              refine ⟨wanted_of (j := 18) rfl rfl (hitem 18 (by decide) ⟨hpre 18 rfl, hout _ (by decide)⟩), wp_call rfl Tryd.func3 (by kernel_rfl) (by kernel_rfl) (args := #[]) (by simp) ((LamRuns_any w (hk.kept (grown_same hgV hg))).mono ?_)⟩
              rintro e w' ⟨rfl, hg'⟩
              exact ⟨_, rfl, h1 ⟨_, rfl⟩ _ _ hg' rfl (nobl rfl) (FreshB.none rfl)⟩
            · cases (show some _ = some o from ho)
              have hc := hitem 18 (by decide) ⟨hpre 18 rfl, hout _ (by decide)⟩
              have hx := hitem 19 (by decide) ⟨hpre 19 rfl, hout _ (by decide)⟩
              exact ⟨rfl, wp_pick rfl hc (h1 ⟨_, rfl⟩ _ _ (grown_refl _ none) hx (by rw [show a.eval (.tmp 143) = .bool true from hx]; exact nobl rfl) (by rw [show a.eval (.tmp 143) = .bool true from hx]; exact FreshB.none rfl))⟩
          · intro a wT hgT hend hap ha
            obtain ⟨f, hf⟩ : ∃ f : Nat → Value, f = fun t => a.tmps.getD t undef := ⟨_, rfl⟩
            have s144 : f 144 = .bool true := by rw [hf]; exact (hend 20 (by decide) (by decide)).1
            rw [← hf] at ha
            clear hend hap
            clear hf
            subst ha
            simp only [Act.put, fill, ogS, Nat.reduceAdd, Nat.reduceBEq, Bool.or_false, Bool.or_true, cond_true, cond_false, List.drop_succ_cons, List.drop_zero, s144]
            clear s144
            go_wp2_with fail
            go_ret
            exact ⟨rfl, grown_same hgW (grown_same hgV hgT)⟩
end Go.Proofs.YtepnhepaihpnoaaDoor
