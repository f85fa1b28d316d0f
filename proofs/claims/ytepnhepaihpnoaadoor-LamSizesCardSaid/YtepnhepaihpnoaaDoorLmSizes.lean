/- The law on signatures of other sizes: its contract. -/
import Derived.Test.YtepnhepaihpnoaaDoorLamZ
namespace Go.Proofs.YtepnhepaihpnoaaDoor
open Go.RowKit

theorem LastsB.ownH {al : Nat → Bool} {k : Nat} (ha : al k = false) (l : List UInt8) (n : Nat) : LastsB al k fun v w => OwnHs w v l n := LastsB.of ha fun _ _ _ _ h hg hne => h.keep hg hne
theorem ownH_block {w : World} {u : Value} {l : List UInt8} {n : Nat} (h : OwnHs w u l n) : u = .slice none 0 0 ∨ ∃ g c, u = .slice (some ⟨g, 0, none⟩) n c := by
  obtain ⟨base, hb, _, h⟩ := h
  rcases h with ⟨rfl, _⟩ | ⟨g, cap, cur, rfl, _⟩
  · exact .inl rfl
  · exact .inr ⟨g, cap, rfl⟩
theorem ownH_mem {w : World} {u : Value} {l : List UInt8} {n : Nat} (h : OwnHs w u l n) : ∀ g, u.ownBlock = some g → g ∈ blocksOf u := by
  intro g e
  rcases ownH_block h with rfl | ⟨g', c, rfl⟩
  · cases e
  · have e' : g' = g := by simpa [Value.ownBlock] using e
    rw [← e']; exact List.mem_singleton.2 rfl
theorem memH_own {w : World} {u : Value} {l : List UInt8} {n : Nat} (h : OwnHs w u l n) : ∀ g ∈ blocksOf u, u.ownBlock = some g := by
  intro g e
  rcases ownH_block h with rfl | ⟨g', c, rfl⟩
  · cases e
  · have e' : g ∈ [g'] := e
    rw [List.mem_singleton] at e'
    rw [e']; rfl
theorem ownH_lt {w : World} {u : Value} {l : List UInt8} {n : Nat} (h : OwnHs w u l n) : ∀ g ∈ blocksOf u, g < w.heap.size := fun g e => h.lt g (memH_own h g e)
theorem grewH_blocks {w w' : World} {u v : Value} {l l' : List UInt8} {n n' : Nat} {p : Nat → Prop} (hu : OwnHs w u l n) (hv : OwnHs w' v l' n') (hw : Grew w w' u v) : ∀ g ∈ blocksOf v, w.heap.size ≤ g ∨ g ∈ blocksOf u ∨ p g := by
  intro g e
  have e1 := memH_own hv g e
  rcases hw.2 with e2 | ⟨g', e2, h⟩
  · exact .inr (.inl (ownH_mem hu g (by rw [← e2, e1])))
  · rw [e1] at e2; cases e2; exact .inl h
theorem lit_noneH (w : World) : (Instr.buildSlice 25 0 #[]).run Tryd.prog w = .ok (.slice (some ⟨w.heap.size, 0, none⟩) 0 0) (w.alloc (.cells #[] 23)) := by kernel_rfl
theorem ownH_new (w : World) : OwnHs (w.alloc (.cells #[] 23)) (.slice (some ⟨w.heap.size, 0, none⟩) 0 0) [] 0 :=
  ⟨0, Nat.zero_le _, by simp, .inr ⟨w.heap.size, 0, #[], rfl, Nat.zero_le _, heap_alloc_new _ _, Nat.le_refl _, Nat.zero_le _, rfl, rfl⟩⟩
theorem sl_hiH (A : Option Addr) (n c k : Nat) (hk : k ≤ c) (w : World) : (Instr.sliceAt 25 (.slice A n c) none (some (.int .i64 (k : Int))) none).run Tryd.prog w = .ok (.slice A k c) w := by
  rw [run_sliceAt_slice (P := Tryd.prog) (w := w) (t := 25) (h := by kernel_rfl), run_slice_h (P := Tryd.prog) (w := w) (ht := by kernel_rfl) (h0 := by omega) (h2 := by omega)]
  rw [show (sizeOf (Tryd.prog.elem 25)).run Tryd.prog w = .ok 32 w from by kernel_rfl, Result.andThen_ok]
  cases A with
  | none => simp [sliced]
  | some ad =>
    have e : ad.add 0 = ad := by unfold Addr.add; split <;> simp_all
    simp [sliced, e]
/-- A signature of the wrong size. -/
def Bad (v : Value) (_ : World) : Prop := ∃ A n c B m d, v = .agg #[.slice A n c, .slice B m d] ∧ (n ≠ 32 ∨ m ≠ 32)
theorem LastsB.bad {al : Nat → Bool} (k : Nat) : LastsB al k Bad := fun _ _ _ _ h _ _ => h
def Five (v : Value) (w : World) : Prop := ∃ b, v = .slice (some ⟨b, 0, none⟩) 5 5 ∧ ∀ k, k < 5 → ∃ A n c B m d, (n ≠ 32 ∨ m ≠ 32) ∧ w.cell? ⟨b, k * 2, none⟩ = some (.slice A n c) ∧ w.cell? ⟨b, k * 2 + 1, none⟩ = some (.slice B m d)
theorem Five.kept {v : Value} {w w' : World} (h : Five v w) {row : Option Nat} (hg : w.grownBy w' row) (hne : v.ownBlock ≠ row) : Five v w' := by
  obtain ⟨b, rfl, h⟩ := h
  refine ⟨b, rfl, fun k hk => ?_⟩
  obtain ⟨A, n, c, B, m, d, h1, h2, h3⟩ := h k hk
  exact ⟨A, n, c, B, m, d, h1, hg.cell h2 hne, hg.cell h3 hne⟩
theorem LastsB.five {al : Nat → Bool} {k : Nat} (ha : al k = false) : LastsB al k Five := by
  intro v w w' row h hg hne
  refine h.kept hg ?_
  obtain ⟨b, rfl, _⟩ := h
  exact hne b (by simp [bl, ha, blocksOf])
theorem lit_five (A0 : Option Addr) (n0 c0 : Nat) (B0 : Option Addr) (m0 d0 : Nat) (A1 : Option Addr) (n1 c1 : Nat) (B1 : Option Addr) (m1 d1 : Nat) (A2 : Option Addr) (n2 c2 : Nat) (B2 : Option Addr) (m2 d2 : Nat) (A3 : Option Addr) (n3 c3 : Nat) (B3 : Option Addr) (m3 d3 : Nat) (A4 : Option Addr) (n4 c4 : Nat) (B4 : Option Addr) (m4 d4 : Nat) (w : World) : (Instr.buildSlice 42 5 #[(0, .agg #[.slice A0 n0 c0, .slice B0 m0 d0]), (1, .agg #[.slice A1 n1 c1, .slice B1 m1 d1]), (2, .agg #[.slice A2 n2 c2, .slice B2 m2 d2]), (3, .agg #[.slice A3 n3 c3, .slice B3 m3 d3]), (4, .agg #[.slice A4 n4 c4, .slice B4 m4 d4])]).run Tryd.prog w = .ok (.slice (some ⟨w.heap.size, 0, none⟩) 5 5) (w.alloc (.cells #[.slice A0 n0 c0, .slice B0 m0 d0, .slice A1 n1 c1, .slice B1 m1 d1, .slice A2 n2 c2, .slice B2 m2 d2, .slice A3 n3 c3, .slice B3 m3 d3, .slice A4 n4 c4, .slice B4 m4 d4] 27)) := by kernel_rfl
theorem five_of {A0 : Option Addr} {n0 c0 : Nat} {B0 : Option Addr} {m0 d0 : Nat} {A1 : Option Addr} {n1 c1 : Nat} {B1 : Option Addr} {m1 d1 : Nat} {A2 : Option Addr} {n2 c2 : Nat} {B2 : Option Addr} {m2 d2 : Nat} {A3 : Option Addr} {n3 c3 : Nat} {B3 : Option Addr} {m3 d3 : Nat} {A4 : Option Addr} {n4 c4 : Nat} {B4 : Option Addr} {m4 d4 : Nat} (w : World) (f0 : n0 ≠ 32 ∨ m0 ≠ 32) (f1 : n1 ≠ 32 ∨ m1 ≠ 32) (f2 : n2 ≠ 32 ∨ m2 ≠ 32) (f3 : n3 ≠ 32 ∨ m3 ≠ 32) (f4 : n4 ≠ 32 ∨ m4 ≠ 32) : Five (.slice (some ⟨w.heap.size, 0, none⟩) 5 5) (w.alloc (.cells #[.slice A0 n0 c0, .slice B0 m0 d0, .slice A1 n1 c1, .slice B1 m1 d1, .slice A2 n2 c2, .slice B2 m2 d2, .slice A3 n3 c3, .slice B3 m3 d3, .slice A4 n4 c4, .slice B4 m4 d4] 27)) := by
  refine ⟨_, rfl, fun k hk => ?_⟩
  have hc : ∀ (i : Nat) (v : Value), (#[Value.slice A0 n0 c0, .slice B0 m0 d0, Value.slice A1 n1 c1, .slice B1 m1 d1, Value.slice A2 n2 c2, .slice B2 m2 d2, Value.slice A3 n3 c3, .slice B3 m3 d3, Value.slice A4 n4 c4, .slice B4 m4 d4] : Array Value)[i]? = some v → (w.alloc (.cells #[.slice A0 n0 c0, .slice B0 m0 d0, .slice A1 n1 c1, .slice B1 m1 d1, .slice A2 n2 c2, .slice B2 m2 d2, .slice A3 n3 c3, .slice B3 m3 d3, .slice A4 n4 c4, .slice B4 m4 d4] 27)).cell? ⟨w.heap.size, i, none⟩ = some v := fun i v h => cell_of_cells (heap_alloc_new _ _) h
  rcases (show k = 0 ∨ k = 1 ∨ k = 2 ∨ k = 3 ∨ k = 4 by omega) with rfl | rfl | rfl | rfl | rfl
  · exact ⟨_, _, _, _, _, _, f0, hc 0 _ rfl, hc 1 _ rfl⟩
  · exact ⟨_, _, _, _, _, _, f1, hc 2 _ rfl, hc 3 _ rfl⟩
  · exact ⟨_, _, _, _, _, _, f2, hc 4 _ rfl, hc 5 _ rfl⟩
  · exact ⟨_, _, _, _, _, _, f3, hc 6 _ rfl, hc 7 _ rfl⟩
  · exact ⟨_, _, _, _, _, _, f4, hc 8 _ rfl, hc 9 _ rfl⟩
theorem wp_build2 {P : Program} {o : Oper} {a : Act} {w : World} {K : Act → World → Prop} {Q : Exit → Act → World → Prop} {t : TypeId} {x y : Operand} {u1 u2 v : Value} (ho : o.op = .build t #[(0, x), (1, y)]) (hx : a.eval x = u1) (hy : a.eval y = u2)
    (hrun : (Instr.build t #[(0, u1), (1, u2)]).run P w = .ok v w) (h : K (a.put o.dst v) w) : Oper.wp P o a w K Q := by
  unfold Oper.wp execOp
  simp only [ho, List.map_toArray, List.map_cons, List.map_nil, hx, hy, Sem.run_bind, hrun, Result.andThen_ok, Sem.run_pure]
  exact h
theorem wp_build0 {P : Program} {o : Oper} {a : Act} {w : World} {K : Act → World → Prop} {Q : Exit → Act → World → Prop} {t : TypeId} {v : Value} (ho : o.op = .build t #[])
    (hrun : (Instr.build t #[]).run P w = .ok v w) (h : K (a.put o.dst v) w) : Oper.wp P o a w K Q := by
  unfold Oper.wp execOp
  simp only [ho, List.map_toArray, List.map_nil, Sem.run_bind, hrun, Result.andThen_ok, Sem.run_pure]
  exact h
theorem build_two (A : Option Addr) (n c : Nat) (B : Option Addr) (m d : Nat) (w : World) : (Instr.build 27 #[(0, .slice A n c), (1, .slice B m d)]).run Tryd.prog w = .ok (.agg #[.slice A n c, .slice B m d]) w := by kernel_rfl
theorem build_zero (w : World) : (Instr.build 27 #[]).run Tryd.prog w = .ok (.agg #[.slice none 0 0, .slice none 0 0]) w := by kernel_rfl
def zaS (t : Nat) : Bool := t == 49 || t == 50 || t == 51 || t == 52 || t == 53 || t == 54 || t == 55 || t == 56 || t == 57 || t == 58 || t == 59 || t == 60 || t == 61 || t == 62 || t == 63 || t == 64 || t == 65 || t == 66 || t == 67 || t == 68 || t == 69 || t == 70 || t == 71 || t == 72 || t == 73 || t == 74 || t == 75 || t == 76 || t == 77 || t == 78 || t == 79 || t == 80 || t == 81 || t == 82 || t == 83 || t == 84
def zaDie (k : Nat) : Nat := if k = 14 then 17 else if k = 17 then 19 else if k = 25 then 28 else if k = 28 then 30 else 99
def zaOwn (k : Nat) : Bool := k == 14 || k == 17 || k == 19 || k == 25 || k == 28 || k == 30 || k == 33
def zaAl (k : Nat) : Bool := k == 1 || k == 3 || k == 5 || k == 6 || k == 8 || k == 10 || k == 12 || k == 13 || k == 16 || k == 18 || k == 21 || k == 22 || k == 24 || k == 27 || k == 29 || k == 31 || k == 32
def zaF (g1 c1 g2 c2 cut mo : Nat) (b10 gx cx : Nat) (OL HL EL : List UInt8) : Nat → Value → World → Prop
  | 0 => fun v _ => v = .pointer (some ⟨b10, 0, none⟩)
  | 1 => fun v _ => v = .slice (some ⟨g1, 0, none⟩) 32 c1
  | 2 => fun v _ => v = .int .i64 ((cut : Nat) : Int)
  | 3 => fun v _ => v = .slice (some ⟨g1, 0, none⟩) cut c1
  | 4 => fun v _ => v = .pointer (some ⟨b10, 1, none⟩)
  | 5 => fun v _ => v = .slice (some ⟨g2, 0, none⟩) 32 c2
  | 6 => Bad
  | 7 => fun v _ => v = .pointer (some ⟨b10, 0, none⟩)
  | 8 => fun v _ => v = .slice (some ⟨g1, 0, none⟩) 32 c1
  | 9 => fun v _ => v = .pointer (some ⟨b10, 1, none⟩)
  | 10 => fun v _ => v = .slice (some ⟨g2, 0, none⟩) 32 c2
  | 11 => fun v _ => v = .int .i64 ((cut : Nat) : Int)
  | 12 => fun v _ => v = .slice (some ⟨g2, 0, none⟩) cut c2
  | 13 => Bad
  | 14 => fun v w => OwnHs w v [] 0
  | 15 => fun v _ => v = .pointer (some ⟨b10, 0, none⟩)
  | 16 => fun v _ => v = .slice (some ⟨g1, 0, none⟩) 32 c1
  | 17 => fun v w => OwnHs w v ([] ++ OL) (0 + 32)
  | 18 => fun v _ => v = .slice (some ⟨gx, 0, none⟩) mo cx
  | 19 => fun v w => OwnHs w v ([] ++ OL ++ EL) (0 + 32 + mo)
  | 20 => fun v _ => v = .pointer (some ⟨b10, 1, none⟩)
  | 21 => fun v _ => v = .slice (some ⟨g2, 0, none⟩) 32 c2
  | 22 => Bad
  | 23 => fun v _ => v = .pointer (some ⟨b10, 0, none⟩)
  | 24 => fun v _ => v = .slice (some ⟨g1, 0, none⟩) 32 c1
  | 25 => fun v w => OwnHs w v [] 0
  | 26 => fun v _ => v = .pointer (some ⟨b10, 1, none⟩)
  | 27 => fun v _ => v = .slice (some ⟨g2, 0, none⟩) 32 c2
  | 28 => fun v w => OwnHs w v ([] ++ HL) (0 + 32)
  | 29 => fun v _ => v = .slice (some ⟨gx, 0, none⟩) mo cx
  | 30 => fun v w => OwnHs w v ([] ++ HL ++ EL) (0 + 32 + mo)
  | 31 => Bad
  | 32 => Bad
  | 33 => Five
  | 34 => fun v _ => v = .int .i64 5
  | 35 => fun v _ => v = .int .i64 0
  | _ => fun _ _ => True
theorem zaF_lasts (g1 c1 g2 c2 cut mo : Nat) (b10 gx cx : Nat) (OL HL EL : List UInt8) : ∀ kq, LastsB zaAl kq (zaF g1 c1 g2 c2 cut mo b10 gx cx OL HL EL kq)
  | 0 => LastsB.val _
  | 1 => LastsB.val _
  | 2 => LastsB.val _
  | 3 => LastsB.val _
  | 4 => LastsB.val _
  | 5 => LastsB.val _
  | 6 => LastsB.bad _
  | 7 => LastsB.val _
  | 8 => LastsB.val _
  | 9 => LastsB.val _
  | 10 => LastsB.val _
  | 11 => LastsB.val _
  | 12 => LastsB.val _
  | 13 => LastsB.bad _
  | 14 => LastsB.ownH rfl _ _
  | 15 => LastsB.val _
  | 16 => LastsB.val _
  | 17 => LastsB.ownH rfl _ _
  | 18 => LastsB.val _
  | 19 => LastsB.ownH rfl _ _
  | 20 => LastsB.val _
  | 21 => LastsB.val _
  | 22 => LastsB.bad _
  | 23 => LastsB.val _
  | 24 => LastsB.val _
  | 25 => LastsB.ownH rfl _ _
  | 26 => LastsB.val _
  | 27 => LastsB.val _
  | 28 => LastsB.ownH rfl _ _
  | 29 => LastsB.val _
  | 30 => LastsB.ownH rfl _ _
  | 31 => LastsB.bad _
  | 32 => LastsB.bad _
  | 33 => LastsB.five rfl
  | 34 => LastsB.val _
  | 35 => LastsB.val _
  | _ + 36 => fun _ _ _ _ _ _ _ => trivial

theorem neqZ (w : World) : (binOp .neq 23 (.agg (zeroH.map bv).toArray) (.agg #[.int .u8 0, .int .u8 0, .int .u8 0, .int .u8 0, .int .u8 0, .int .u8 0, .int .u8 0, .int .u8 0, .int .u8 0, .int .u8 0, .int .u8 0, .int .u8 0, .int .u8 0, .int .u8 0, .int .u8 0, .int .u8 0, .int .u8 0, .int .u8 0, .int .u8 0, .int .u8 0, .int .u8 0, .int .u8 0, .int .u8 0, .int .u8 0, .int .u8 0, .int .u8 0, .int .u8 0, .int .u8 0, .int .u8 0, .int .u8 0, .int .u8 0, .int .u8 0])).run Tryd.prog w = .ok (.bool false) w := by
  have h := neq_hash zeroH zeroH rfl rfl w
  rw [beq_self_eq_true] at h
  exact h
theorem one_new (w : World) (C : Array Value) (S : Array Value) (w' : World) (h : (w.alloc (.cells C 27)).setRow w.heap.size S = w') : w'.heap[w.heap.size]? = some (.cells S 27 (0, 0)) ∧ w.grownBy w' none := by
  subst h
  exact ⟨setRow_heap _ _ _ _ _ _ (alloc_at rfl), grown_setRow (grown_alloc (grown_refl _ _) _) (.inr (Nat.le_refl _)) _⟩
set_option maxRecDepth 100000 in
set_option maxHeartbeats 2000000 in
theorem LamSizes_any (x0 : List UInt8) (hx0 : x0.length = 32) (A1 : Option Addr) (l1 : List UInt8) (ca : Nat) (n2 n3 : Int) (W0 : World) (hk : Laid2 W0) (hr1 : RdB W0 A1 l1) (hc1 : l1.length ≤ ca) (hm1 : ca ≤ maxLen) :
    Calls Tryd.prog 7 #[.agg (x0.map bv).toArray, .slice A1 l1.length ca, .int .i64 n2, .int .i64 n3] W0 fun e w' => e = .returned (.bool true) ∧ W0.grownBy w' none := by
  have hm1' : ca ≤ 9223372036854775807 := hm1
  obtain ⟨m, hmin0, hmn, hm30⟩ := min_some l1.length 30
  have hmin : (if (30 : Int) < (l1.length : Int) then (30 : Int) else (l1.length : Int)) = (m : Int) := hmin0
  clear hmin0
  obtain ⟨L, hL⟩ : ∃ L, L = l1.take m := ⟨_, rfl⟩
  have hLl : Hid (L.length = m) := by show _ = _; rw [hL, List.length_take]; omega
  have hrL : RdB W0 A1 L := by rw [hL]; exact rd_takeB hr1 m
  have hL30 : L.length ≤ 30 := by rw [hLl.out]; exact hm30
  clear hL
  have hxl := Lib.hid hx0
  clear hx0
  obtain ⟨cut, hcut, hWi⟩ := Within_nat n2 31 (by omega)
  obtain ⟨mo, hmo, hmo1, hmo3⟩ : ∃ mo : Nat, within n3 1 3 = (mo : Int) ∧ 1 ≤ mo ∧ mo ≤ 3 := by
    have := within_le (n := n3) (lo := 1) (hi := 3) (by omega)
    exact ⟨(within n3 1 3).toNat, by omega, by omega, by omega⟩
  have hWj := fun w' => Within_any n3 1 3 w' (by omega) (by omega) (by omega)
  rw [hmo] at hWj
  clear hmo
  go_enter Tryd.func7, Tryd.ntmps7
  go_upto_region 1 with (fail)
  have hseed1 : (W0.alloc (.cells (x0.map bv).toArray 23)).heap[W0.heap.size]? = some (.cells (x0.map bv).toArray 23 (0, 0)) := alloc_at rfl
  have hg1 : W0.grownBy (W0.alloc (.cells (x0.map bv).toArray 23)) none := grown_alloc (grown_refl _ _) _
  generalize W0.alloc (.cells (x0.map bv).toArray 23) = W1 at hseed1 hg1 ⊢
  replace hrL := hrL.kept hg1
  have hLb : L.length ≤ 1000 := by omega
  have hsign := fun w' A c (h1 : Laid2 w') (h2 : RdB w' A L) => Sign_sig x0 hxl.out A L c w' h1 h2 hLb
  have hk1 := hk.kept hg1
  go_upto_region 3 with (first
    | (at_builtin; refine wpList_appB _ rfl _ _ rfl rfl (ownB_new W1 #[] [] 0 rfl rfl (Nat.zero_le _)) (news := L) rfl hLl.out.symm (hrL.alloc _) (by simp; omega) ?_; intro v1 W2 ho1 hgr1; have hL1 : OwnB W2 v1 L := ho1; have hG1 := Grew.fresh hgr1; obtain ⟨A7, c7, rfl, hc7, hm7, hr7⟩ := hL1.slice; clear ho1 hgr1; have hsd := keep_of hseed1 hG1.nil)
    | (refine wpList_load_row rfl 23 _ rfl W0.heap.size rfl _ (x0.map bv).toArray (0, 0) _ hsd Tryd.underlying23 rfl (hashV_size _ hxl.out) ?_)
    | (go_at_call 9; refine (hsign _ A7 c7 (hk1.kept hG1.nil) hr7).mono ?_; rintro e wS ⟨vS, rfl, hSig, hgS, -, -⟩; obtain ⟨g1, c1, g2, c2, rfl, hc1', hc2', hc3', hc4', r1, r2⟩ := hSig)
    | (refine wpList_store_row rfl 27 _ _ rfl (wS.heap.size) #[.slice (some ⟨g1, 0, none⟩) 32 c1, .slice (some ⟨g2, 0, none⟩) 32 c2] rfl rfl 27 _ (alloc_at rfl) size_one rfl (one_two _ _ _ _ _ _) ?_; generalize hw7 : World.setRow _ _ _ = W; have HW := one_new _ _ _ _ hw7; clear hw7))
  have h10 := HW.1
  have gW : W1.grownBy W none := grown_same hG1.nil (grown_same hgS HW.2)
  have gS := HW.2
  replace r1 := r1.kept gS
  replace r2 := r2.kept gS
  replace hr7 := hr7.kept (grown_same hgS gS)
  replace hsd := keep_of hsd (grown_same hgS gS)
  clear HW gS hgS hL1 hG1 hrL hr1 hmin hseed1
  generalize wS.heap.size = b10 at h10 ⊢
  have hgW : W0.grownBy W none := grown_same hg1 gW
  have hcc0 : W.cell? ⟨b10, 0, none⟩ = some (.slice (some ⟨g1, 0, none⟩) 32 c1) := cell_of_cells h10 rfl
  have hcc1 : W.cell? ⟨b10, 1, none⟩ = some (.slice (some ⟨g2, 0, none⟩) 32 c2) := cell_of_cells h10 rfl
  have hlz : ∀ w, (Instr.buildSlice 25 1 #[(0, .agg #[.int .u8 0, .int .u8 0, .int .u8 0, .int .u8 0, .int .u8 0, .int .u8 0, .int .u8 0, .int .u8 0, .int .u8 0, .int .u8 0, .int .u8 0, .int .u8 0, .int .u8 0, .int .u8 0, .int .u8 0, .int .u8 0, .int .u8 0, .int .u8 0, .int .u8 0, .int .u8 0, .int .u8 0, .int .u8 0, .int .u8 0, .int .u8 0, .int .u8 0, .int .u8 0, .int .u8 0, .int .u8 0, .int .u8 0, .int .u8 0, .int .u8 0, .int .u8 0])]).run Tryd.prog w = .ok (.slice (some ⟨w.heap.size, 0, none⟩) 1 1) (w.alloc (.cells (zeroH.map bv).toArray 23)) := fun w => lit_1h zeroH rfl w
  have hZl : Hid (zeroH.length = 1 * 32) := zeroH_len
  have hcutI : ((cut : Nat) : Int) ≤ 31 := by omega
  go_wp2_with (first
    | (go_at_call_of 15 (Value.int .i64 n2); refine (hWi _).mono ?_; rintro e w1 ⟨rfl, rfl⟩)
    | (go_at_call_of 15 (Value.int .i64 n3); refine (hWj _).mono ?_; rintro e w1 ⟨rfl, rfl⟩))
  go_loopw [12, 42] (fun x i wz => ∃ k : Nat, k ≤ mo ∧ i = .int .i64 k ∧ OwnHs wz x (partsF (fun _ => zeroH) k) k ∧ Grew W wz (.slice none 0 0) x) (fun _ i _ => mo - (intOf i).toNat)
  case atStart => exact ⟨0, by omega, rfl, OwnHs.nil _, Grew.refl _ _⟩
  case round =>
    obtain ⟨k, hkl, rfl, ho, hgr⟩ := hrel
    by_cases hlt : k < mo
    · have hlt' : (k : Int) < (mo : Int) := by omega
      have hnext := partsF_next (fun _ => zeroH) k
      have HN := Lib.hid hnext
      clear hnext
      go_wp2_with (at_builtin; refine wpList_appH rfl _ _ rfl rfl (ho.kept (grown_alloc (grown_refl _ _) (.cells (zeroH.map bv).toArray 23))) rfl (rd_row (heap_alloc_new _ _)) hZl.out (by omega) (by omega) ?_; intro v9 w9 ho9 hgr9)
      go_roundw
      case rel => exact ⟨k + 1, by omega, by go_num, by rw [HN.out]; exact ho9, hgr.trans (Grew.pre (grown_alloc (grown_refl _ _) _) hgr9)⟩
      case measure => simp [intOf]; omega
    · have hkk : mo = k := by omega
      subst hkk
      have hlE := ho.len
      obtain ⟨gx, cx, rfl, -, -, rE⟩ := ho.slice (by omega)
      have gr := hgr.nil
      generalize partsF (fun _ => zeroH) mo = EL at rE hlE
      have hEL := Lib.hid hlE
      have hOL := Lib.hid (partsF_len (openF x0 L) (openF_len x0 L) 32)
      have hHL := Lib.hid (partsF_len (shutF x0 L) (shutF_len x0 L) 32)
      have rO := r1.kept gr
      have rH := r2.kept gr
      generalize partsF (openF x0 L) 32 = OL at rO hOL
      generalize partsF (shutF x0 L) 32 = HL at rH hHL
      replace h10 := keep_of h10 gr
      have hq1 : cut ≤ c1 := by omega
      have hq2 : cut ≤ c2 := by omega
      have hcut32 : cut ≠ 32 := by omega
      clear ho hgr hlE hcc0 hcc1 hWi hWj
      go_wp2_with fail
      refine wp_region_gb (al := zaAl) 36 (N := 125) (S := zaS) (die := zaDie) (own := zaOwn) (F := zaF g1 c1 g2 c2 cut mo b10 gx cx OL HL EL) (by kernel_rfl) (Nat.le_of_ble_eq_true (by kernel_rfl)) (fun h => absurd (show 36 < 36 from h) (Nat.lt_irrefl _)) (fun h => absurd (show 36 < 36 from h) (Nat.lt_irrefl _)) (by kernel_rfl) (by kernel_rfl) (Nat.le_of_ble_eq_true (by kernel_rfl)) (zaF_lasts g1 c1 g2 c2 cut mo b10 gx cx OL HL EL) ?_ ?_
      · intro i o L' a w K hi ho hg hLi hout hpre houter hitem h1 h2 h3
        have hcases : i = 0 ∨ i = 1 ∨ i = 2 ∨ i = 3 ∨ i = 4 ∨ i = 5 ∨ i = 6 ∨ i = 7 ∨ i = 8 ∨ i = 9 ∨ i = 10 ∨ i = 11 ∨ i = 12 ∨ i = 13 ∨ i = 14 ∨ i = 15 ∨ i = 16 ∨ i = 17 ∨ i = 18 ∨ i = 19 ∨ i = 20 ∨ i = 21 ∨ i = 22 ∨ i = 23 ∨ i = 24 ∨ i = 25 ∨ i = 26 ∨ i = 27 ∨ i = 28 ∨ i = 29 ∨ i = 30 ∨ i = 31 ∨ i = 32 ∨ i = 33 ∨ i = 34 ∨ i = 35 := by omega
        rcases hcases with rfl | rfl | rfl | rfl | rfl | rfl | rfl | rfl | rfl | rfl | rfl | rfl | rfl | rfl | rfl | rfl | rfl | rfl | rfl | rfl | rfl | rfl | rfl | rfl | rfl | rfl | rfl | rfl | rfl | rfl | rfl | rfl | rfl | rfl | rfl | rfl
        · cases (show some _ = some o from ho)
          exact ⟨rfl, wp_field rfl (houter _ rfl) (field_O _ 0 (by omega)) (h1 ⟨_, rfl⟩ _ _ (grown_refl _ none) rfl (nobl rfl) (FreshB.none rfl))⟩
        · cases (show some _ = some o from ho)
          exact ⟨rfl, wp_loadC rfl (hitem 0 (by decide) ⟨hpre 0 rfl, hout _ (by decide)⟩) (load_cell (cell_of_cells (keep_of h10 hg) rfl) Tryd.underlying25 rfl) (h1 ⟨_, rfl⟩ _ _ (grown_refl _ none) rfl (nobl rfl) (FreshB.none rfl))⟩
        · cases (show some _ = some o from ho)
          exact ⟨rfl, wp_move rfl (h1 ⟨_, rfl⟩ _ _ (grown_refl _ none) (houter _ rfl) (by rw [houter _ rfl]; exact nobl rfl) (by rw [houter _ rfl]; exact FreshB.none rfl))⟩
        · cases (show some _ = some o from ho)
          exact ⟨rfl, wp_slice_hi rfl (hitem 1 (by decide) ⟨hpre 1 rfl, hout _ (by decide)⟩) (hitem 2 (by decide) ⟨hpre 2 rfl, hout _ (by decide)⟩) (sl_hiH (some ⟨g1, 0, none⟩) 32 c1 cut hq1 _) (h1 ⟨_, rfl⟩ _ _ (grown_refl _ none) rfl (nobl rfl) (FreshB.none rfl))⟩
        · cases (show some _ = some o from ho)
          exact ⟨rfl, wp_field rfl (houter _ rfl) (field_O _ 1 (by omega)) (h1 ⟨_, rfl⟩ _ _ (grown_refl _ none) rfl (nobl rfl) (FreshB.none rfl))⟩
        · cases (show some _ = some o from ho)
          exact ⟨rfl, wp_loadC rfl (hitem 4 (by decide) ⟨hpre 4 rfl, hout _ (by decide)⟩) (load_cell (cell_of_cells (keep_of h10 hg) rfl) Tryd.underlying25 rfl) (h1 ⟨_, rfl⟩ _ _ (grown_refl _ none) rfl (nobl rfl) (FreshB.none rfl))⟩
        · cases (show some _ = some o from ho)
          have e1 : a.eval (.tmp 52) = .slice (some ⟨g1, 0, none⟩) cut c1 := hitem 3 (by decide) ⟨hpre 3 rfl, hout _ (by decide)⟩
          have e2 : a.eval (.tmp 54) = .slice (some ⟨g2, 0, none⟩) 32 c2 := hitem 5 (by decide) ⟨hpre 5 rfl, hout _ (by decide)⟩
          exact ⟨rfl, wp_build2 rfl e1 e2 (build_two _ _ _ _ _ _ _) (h1 ⟨_, rfl⟩ _ _ (grown_refl _ none) ⟨_, _, _, _, _, _, rfl, .inl hcut32⟩ (nobl rfl) (FreshB.none rfl))⟩
        · cases (show some _ = some o from ho)
          exact ⟨rfl, wp_field rfl (houter _ rfl) (field_O _ 0 (by omega)) (h1 ⟨_, rfl⟩ _ _ (grown_refl _ none) rfl (nobl rfl) (FreshB.none rfl))⟩
        · cases (show some _ = some o from ho)
          exact ⟨rfl, wp_loadC rfl (hitem 7 (by decide) ⟨hpre 7 rfl, hout _ (by decide)⟩) (load_cell (cell_of_cells (keep_of h10 hg) rfl) Tryd.underlying25 rfl) (h1 ⟨_, rfl⟩ _ _ (grown_refl _ none) rfl (nobl rfl) (FreshB.none rfl))⟩
        · cases (show some _ = some o from ho)
          exact ⟨rfl, wp_field rfl (houter _ rfl) (field_O _ 1 (by omega)) (h1 ⟨_, rfl⟩ _ _ (grown_refl _ none) rfl (nobl rfl) (FreshB.none rfl))⟩
        · cases (show some _ = some o from ho)
          exact ⟨rfl, wp_loadC rfl (hitem 9 (by decide) ⟨hpre 9 rfl, hout _ (by decide)⟩) (load_cell (cell_of_cells (keep_of h10 hg) rfl) Tryd.underlying25 rfl) (h1 ⟨_, rfl⟩ _ _ (grown_refl _ none) rfl (nobl rfl) (FreshB.none rfl))⟩
        · cases (show some _ = some o from ho)
          exact ⟨rfl, wp_move rfl (h1 ⟨_, rfl⟩ _ _ (grown_refl _ none) (houter _ rfl) (by rw [houter _ rfl]; exact nobl rfl) (by rw [houter _ rfl]; exact FreshB.none rfl))⟩
        · cases (show some _ = some o from ho)
          exact ⟨rfl, wp_slice_hi rfl (hitem 10 (by decide) ⟨hpre 10 rfl, hout _ (by decide)⟩) (hitem 11 (by decide) ⟨hpre 11 rfl, hout _ (by decide)⟩) (sl_hiH (some ⟨g2, 0, none⟩) 32 c2 cut hq2 _) (h1 ⟨_, rfl⟩ _ _ (grown_refl _ none) rfl (nobl rfl) (FreshB.none rfl))⟩
        · cases (show some _ = some o from ho)
          have e1 : a.eval (.tmp 57) = .slice (some ⟨g1, 0, none⟩) 32 c1 := hitem 8 (by decide) ⟨hpre 8 rfl, hout _ (by decide)⟩
          have e2 : a.eval (.tmp 61) = .slice (some ⟨g2, 0, none⟩) cut c2 := hitem 12 (by decide) ⟨hpre 12 rfl, hout _ (by decide)⟩
          exact ⟨rfl, wp_build2 rfl e1 e2 (build_two _ _ _ _ _ _ _) (h1 ⟨_, rfl⟩ _ _ (grown_refl _ none) ⟨_, _, _, _, _, _, rfl, .inr hcut32⟩ (nobl rfl) (FreshB.none rfl))⟩
        · cases (show some _ = some o from ho)
          exact ⟨rfl, wp_lit0 rfl (lit_noneH _) (h1 ⟨_, rfl⟩ _ _ (grown_alloc (grown_refl _ _) _) (ownH_new _) (new_lt _ _) (FreshB.new (new_ge _)))⟩
        · cases (show some _ = some o from ho)
          exact ⟨rfl, wp_field rfl (houter _ rfl) (field_O _ 0 (by omega)) (h1 ⟨_, rfl⟩ _ _ (grown_refl _ none) rfl (nobl rfl) (FreshB.none rfl))⟩
        · cases (show some _ = some o from ho)
          exact ⟨rfl, wp_loadC rfl (hitem 15 (by decide) ⟨hpre 15 rfl, hout _ (by decide)⟩) (load_cell (cell_of_cells (keep_of h10 hg) rfl) Tryd.underlying25 rfl) (h1 ⟨_, rfl⟩ _ _ (grown_refl _ none) rfl (nobl rfl) (FreshB.none rfl))⟩
        · cases (show some _ = some o from ho)
          have hu := hitem 14 (by decide) ⟨hpre 14 rfl, hLi⟩
          exact ⟨rfl, wp_appH rfl rfl hu (hitem 16 (by decide) ⟨hpre 16 rfl, hout _ (by decide)⟩) (rO.kept hg) (hOL.out) (by omega) (by omega) fun v w' hv hw => h2 ⟨_, rfl⟩ 14 v w' _ (by decide) ⟨hpre 14 rfl, hLi⟩ rfl rfl hw.1 (ownH_mem hu) hv (ownH_lt hv) (grewH_blocks hu hv hw)⟩
        · cases (show some _ = some o from ho)
          exact ⟨rfl, wp_move rfl (h1 ⟨_, rfl⟩ _ _ (grown_refl _ none) (houter _ rfl) (by rw [houter _ rfl]; exact nobl rfl) (by rw [houter _ rfl]; exact FreshB.none rfl))⟩
        · cases (show some _ = some o from ho)
          have hu := hitem 17 (by decide) ⟨hpre 17 rfl, hLi⟩
          exact ⟨rfl, wp_appH rfl rfl hu (hitem 18 (by decide) ⟨hpre 18 rfl, hout _ (by decide)⟩) (rE.kept hg) (hEL.out) (by omega) (by omega) fun v w' hv hw => h2 ⟨_, rfl⟩ 17 v w' _ (by decide) ⟨hpre 17 rfl, hLi⟩ rfl rfl hw.1 (ownH_mem hu) hv (ownH_lt hv) (grewH_blocks hu hv hw)⟩
        · cases (show some _ = some o from ho)
          exact ⟨rfl, wp_field rfl (houter _ rfl) (field_O _ 1 (by omega)) (h1 ⟨_, rfl⟩ _ _ (grown_refl _ none) rfl (nobl rfl) (FreshB.none rfl))⟩
        · cases (show some _ = some o from ho)
          exact ⟨rfl, wp_loadC rfl (hitem 20 (by decide) ⟨hpre 20 rfl, hout _ (by decide)⟩) (load_cell (cell_of_cells (keep_of h10 hg) rfl) Tryd.underlying25 rfl) (h1 ⟨_, rfl⟩ _ _ (grown_refl _ none) rfl (nobl rfl) (FreshB.none rfl))⟩
        · cases (show some _ = some o from ho)
          obtain ⟨gy, cy, e1, -⟩ := OwnHs.slice (hitem 19 (by decide) ⟨hpre 19 rfl, hout _ (by decide)⟩) (by omega)
          replace e1 : a.eval (.tmp 68) = .slice (some ⟨gy, 0, none⟩) (0 + 32 + mo) cy := e1
          have e2 : a.eval (.tmp 70) = .slice (some ⟨g2, 0, none⟩) 32 c2 := hitem 21 (by decide) ⟨hpre 21 rfl, hout _ (by decide)⟩
          exact ⟨rfl, wp_build2 rfl e1 e2 (build_two _ _ _ _ _ _ _) (h1 ⟨_, rfl⟩ _ _ (grown_refl _ none) ⟨_, _, _, _, _, _, rfl, .inl (by omega)⟩ (nobl rfl) (FreshB.none rfl))⟩
        · cases (show some _ = some o from ho)
          exact ⟨rfl, wp_field rfl (houter _ rfl) (field_O _ 0 (by omega)) (h1 ⟨_, rfl⟩ _ _ (grown_refl _ none) rfl (nobl rfl) (FreshB.none rfl))⟩
        · cases (show some _ = some o from ho)
          exact ⟨rfl, wp_loadC rfl (hitem 23 (by decide) ⟨hpre 23 rfl, hout _ (by decide)⟩) (load_cell (cell_of_cells (keep_of h10 hg) rfl) Tryd.underlying25 rfl) (h1 ⟨_, rfl⟩ _ _ (grown_refl _ none) rfl (nobl rfl) (FreshB.none rfl))⟩
        · cases (show some _ = some o from ho)
          exact ⟨rfl, wp_lit0 rfl (lit_noneH _) (h1 ⟨_, rfl⟩ _ _ (grown_alloc (grown_refl _ _) _) (ownH_new _) (new_lt _ _) (FreshB.new (new_ge _)))⟩
        · cases (show some _ = some o from ho)
          exact ⟨rfl, wp_field rfl (houter _ rfl) (field_O _ 1 (by omega)) (h1 ⟨_, rfl⟩ _ _ (grown_refl _ none) rfl (nobl rfl) (FreshB.none rfl))⟩
        · cases (show some _ = some o from ho)
          exact ⟨rfl, wp_loadC rfl (hitem 26 (by decide) ⟨hpre 26 rfl, hout _ (by decide)⟩) (load_cell (cell_of_cells (keep_of h10 hg) rfl) Tryd.underlying25 rfl) (h1 ⟨_, rfl⟩ _ _ (grown_refl _ none) rfl (nobl rfl) (FreshB.none rfl))⟩
        · cases (show some _ = some o from ho)
          have hu := hitem 25 (by decide) ⟨hpre 25 rfl, hLi⟩
          exact ⟨rfl, wp_appH rfl rfl hu (hitem 27 (by decide) ⟨hpre 27 rfl, hout _ (by decide)⟩) (rH.kept hg) (hHL.out) (by omega) (by omega) fun v w' hv hw => h2 ⟨_, rfl⟩ 25 v w' _ (by decide) ⟨hpre 25 rfl, hLi⟩ rfl rfl hw.1 (ownH_mem hu) hv (ownH_lt hv) (grewH_blocks hu hv hw)⟩
        · cases (show some _ = some o from ho)
          exact ⟨rfl, wp_move rfl (h1 ⟨_, rfl⟩ _ _ (grown_refl _ none) (houter _ rfl) (by rw [houter _ rfl]; exact nobl rfl) (by rw [houter _ rfl]; exact FreshB.none rfl))⟩
        · cases (show some _ = some o from ho)
          have hu := hitem 28 (by decide) ⟨hpre 28 rfl, hLi⟩
          exact ⟨rfl, wp_appH rfl rfl hu (hitem 29 (by decide) ⟨hpre 29 rfl, hout _ (by decide)⟩) (rE.kept hg) (hEL.out) (by omega) (by omega) fun v w' hv hw => h2 ⟨_, rfl⟩ 28 v w' _ (by decide) ⟨hpre 28 rfl, hLi⟩ rfl rfl hw.1 (ownH_mem hu) hv (ownH_lt hv) (grewH_blocks hu hv hw)⟩
        · cases (show some _ = some o from ho)
          obtain ⟨gy, cy, e1, -⟩ := OwnHs.slice (hitem 30 (by decide) ⟨hpre 30 rfl, hout _ (by decide)⟩) (by omega)
          replace e1 : a.eval (.tmp 79) = .slice (some ⟨gy, 0, none⟩) (0 + 32 + mo) cy := e1
          have e2 : a.eval (.tmp 73) = .slice (some ⟨g1, 0, none⟩) 32 c1 := hitem 24 (by decide) ⟨hpre 24 rfl, hout _ (by decide)⟩
          exact ⟨rfl, wp_build2 rfl e2 e1 (build_two _ _ _ _ _ _ _) (h1 ⟨_, rfl⟩ _ _ (grown_refl _ none) ⟨_, _, _, _, _, _, rfl, .inr (by omega)⟩ (nobl rfl) (FreshB.none rfl))⟩
        · cases (show some _ = some o from ho)
          exact ⟨rfl, wp_build0 rfl (build_zero _) (h1 ⟨_, rfl⟩ _ _ (grown_refl _ none) ⟨_, _, _, _, _, _, rfl, .inl (by omega)⟩ (nobl rfl) (FreshB.none rfl))⟩
        · cases (show some _ = some o from ho)
          obtain ⟨A0, n0, c0, B0, m0, d0, e0, f0⟩ := hitem 6 (by decide) ⟨hpre 6 rfl, hout _ (by decide)⟩
          replace e0 : a.eval (.tmp 55) = _ := e0
          obtain ⟨A1, n1, c1, B1, m1, d1, e1, f1⟩ := hitem 13 (by decide) ⟨hpre 13 rfl, hout _ (by decide)⟩
          replace e1 : a.eval (.tmp 62) = _ := e1
          obtain ⟨A2, n2, c2, B2, m2, d2, e2, f2⟩ := hitem 22 (by decide) ⟨hpre 22 rfl, hout _ (by decide)⟩
          replace e2 : a.eval (.tmp 71) = _ := e2
          obtain ⟨A3, n3, c3, B3, m3, d3, e3, f3⟩ := hitem 31 (by decide) ⟨hpre 31 rfl, hout _ (by decide)⟩
          replace e3 : a.eval (.tmp 80) = _ := e3
          obtain ⟨A4, n4, c4, B4, m4, d4, e4, f4⟩ := hitem 32 (by decide) ⟨hpre 32 rfl, hout _ (by decide)⟩
          replace e4 : a.eval (.tmp 81) = _ := e4
          exact ⟨rfl, wp_lit rfl (by simp only [List.map_toArray, List.map_cons, List.map_nil, e0, e1, e2, e3, e4]; exact lit_five _ _ _ _ _ _ _ _ _ _ _ _ _ _ _ _ _ _ _ _ _ _ _ _ _ _ _ _ _ _ _) (h1 ⟨_, rfl⟩ _ _ (grown_alloc (grown_refl _ _) _) (five_of _ f0 f1 f2 f3 f4) (new_lt _ _) (FreshB.new (new_ge _)))⟩
        · cases (show some _ = some o from ho)
          obtain ⟨b, e1, -⟩ := hitem 33 (by decide) ⟨hpre 33 rfl, hout _ (by decide)⟩
          exact ⟨rfl, wp_len rfl (by kernel_rfl) e1 (h1 ⟨_, rfl⟩ _ _ (grown_refl _ none) rfl (nobl rfl) (FreshB.none rfl))⟩
        · cases (show some _ = some o from ho)
          exact ⟨rfl, wp_move rfl (h1 ⟨_, rfl⟩ _ _ (grown_refl _ none) rfl (nobl rfl) (FreshB.none rfl))⟩

      · intro a wT hgT hend hap ha
        obtain ⟨f, hf⟩ : ∃ f : Nat → Value, f = fun t => a.tmps.getD t undef := ⟨_, rfl⟩
        obtain ⟨b82, q82, h5⟩ := (hend 33 (by decide) (by decide)).1
        have s82 := (congrFun hf 82).trans q82
        have s83 : f 83 = .int .i64 5 := by rw [hf]; exact (hend 34 (by decide) (by decide)).1
        have s84 : f 84 = .int .i64 0 := by rw [hf]; exact (hend 35 (by decide) (by decide)).1
        rw [← hf] at ha
        clear hend hap
        clear hf
        clear q82
        subst ha
        simp only [fill, zaS, Nat.reduceAdd, Nat.reduceBEq, Bool.or_false, Bool.or_true, cond_true, cond_false, List.drop_succ_cons, List.drop_zero, s82, s83, s84]
        clear s82 s83 s84
        replace r1 := r1.kept (grown_same gr hgT)
        replace r2 := r2.kept (grown_same gr hgT)
        replace h10 := keep_of h10 hgT
        replace hsd := keep_of hsd (grown_same gr hgT)
        replace hr7 := hr7.kept (grown_same gr hgT)
        have hgV : W0.grownBy wT none := grown_same hgW (grown_same gr hgT)
        clear rE rO rH hEL hOL hHL hq1 hq2 hcut32 hlz gr hgT
        have hwhoS := fun w' A n c B m d h => Who_short A7 L.length c7 A n c B m d w' h
        have hverS := fun w' A n c B m d h => Verify_short zeroH zeroH_len A7 L.length c7 A n c B m d w' h
        have hzl : Hid (zeroH.length = 32) := zeroH_len
        have hne : ∀ w, (binOp .neq 23 (.agg (zeroH.map bv).toArray) (.agg #[.int .u8 0, .int .u8 0, .int .u8 0, .int .u8 0, .int .u8 0, .int .u8 0, .int .u8 0, .int .u8 0, .int .u8 0, .int .u8 0, .int .u8 0, .int .u8 0, .int .u8 0, .int .u8 0, .int .u8 0, .int .u8 0, .int .u8 0, .int .u8 0, .int .u8 0, .int .u8 0, .int .u8 0, .int .u8 0, .int .u8 0, .int .u8 0, .int .u8 0, .int .u8 0, .int .u8 0, .int .u8 0, .int .u8 0, .int .u8 0, .int .u8 0, .int .u8 0])).run Tryd.prog w = .ok (.bool false) w := fun w => neqZ w
        have hverZ : ∀ w' A n c B m d, n ≠ 32 ∨ m ≠ 32 → Calls Tryd.prog 10 #[.agg #[.int .u8 0, .int .u8 0, .int .u8 0, .int .u8 0, .int .u8 0, .int .u8 0, .int .u8 0, .int .u8 0, .int .u8 0, .int .u8 0, .int .u8 0, .int .u8 0, .int .u8 0, .int .u8 0, .int .u8 0, .int .u8 0, .int .u8 0, .int .u8 0, .int .u8 0, .int .u8 0, .int .u8 0, .int .u8 0, .int .u8 0, .int .u8 0, .int .u8 0, .int .u8 0, .int .u8 0, .int .u8 0, .int .u8 0, .int .u8 0, .int .u8 0, .int .u8 0], .slice A7 L.length c7, .agg #[.slice A n c, .slice B m d]] w' fun e w'' => e = .returned (.bool false) ∧ w'.grownBy w'' none := fun w' A n c B m d h => hverS w' A n c B m d h
        clear hverS
        generalize zeroH = Zr at hwhoS hne hzl
        clear hZl
        go_wp2_with fail
        go_loopw [84] (fun i wz => ∃ k : Nat, k ≤ 5 ∧ i = .int .i64 k ∧ wT.grownBy wz none) (fun i _ => 5 - (intOf i).toNat)
        case atStart => exact ⟨0, by omega, rfl, grown_refl _ _⟩
        case round =>
          obtain ⟨k, hkl5, rfl, hgz⟩ := hrel
          by_cases hlt5 : k < 5
          · have hlt5' : (k : Int) < 5 := by omega
            obtain ⟨A, n, c, B, m', d, hbad, hca, hcb⟩ := h5 k hlt5
            replace hca := hgz.cell hca (by simp)
            replace hcb := hgz.cell hcb (by simp)
            go_wp2_with (first
              | (refine wpList_store_row rfl 27 _ _ rfl (wr.heap.size) #[.slice A n c, .slice B m' d] rfl rfl 27 _ (alloc_at rfl) size_one rfl (one_two _ _ _ _ _ _) ?_; generalize hw7 : World.setRow _ _ _ = wX; have HX := one_new _ _ _ _ hw7; clear hw7)
              | (refine wpList_load_row rfl 27 _ rfl wr.heap.size rfl _ #[.slice A n c, .slice B m' d] (0, 0) _ HX.1 Tryd.underlying27 rfl size_one ?_)
              | (go_at_call 14; refine (hwhoS _ A n c B m' d hbad).mono ?_; rintro e wG ⟨rfl, hgG⟩)
              | (refine wpList_store_row rfl 23 _ _ rfl (wG.heap.size) (Zr.map bv).toArray rfl rfl 23 _ (alloc_at rfl) (hashV_size Zr hzl.out) (by rw [show (Zr.map bv).toArray.size = 32 from by rw [List.size_toArray, List.length_map, hzl.out]]; rfl) (bv_all' _) ?_; generalize hw7 : World.setRow _ _ _ = wH; have HH := new_hash hw7; clear hw7; have hX2 := keep_of HX.1 (grown_same hgG HH.2))
              | (refine wpList_load_row_g (by rfl) 23 _ rfl wG.heap.size rfl _ (Zr.map bv).toArray (0, 0) _ HH.1 Tryd.underlying23 rfl (hashV_size _ hzl.out) ?_)
              | (refine wpList_load_row_g (by rfl) 27 _ rfl wr.heap.size rfl _ #[.slice A n c, .slice B m' d] (0, 0) _ hX2 Tryd.underlying27 rfl size_one ?_)
              | (go_at_call 10; refine (hverZ _ A n c B m' d hbad).mono ?_; rintro e wI ⟨rfl, hgI⟩))
            refine ⟨⟨k + 1, by omega, by go_num, grown_same hgz (grown_same HX.2 (grown_same hgG (grown_same HH.2 hgI)))⟩, by simp [intOf]; omega⟩
          · have hk5 : k = 5 := by omega
            subst hk5
            rw [show ((5 : Nat) : Int) = 5 from rfl]
            replace r1 := r1.kept hgz
            replace r2 := r2.kept hgz
            replace h10 := keep_of h10 hgz
            replace hsd := keep_of hsd hgz
            replace hr7 := hr7.kept hgz
            have hgV2 := grown_same hgV hgz
            have hkV := hk.kept hgV2
            clear h5 hne hverZ hwhoS hgz
            go_wp2_with (first
              | (refine wpList_load_row rfl 23 _ rfl W0.heap.size rfl _ (x0.map bv).toArray (0, 0) _ hsd Tryd.underlying23 rfl (hashV_size _ hxl.out) ?_)
              | (go_at_call 9; refine (hsign _ A7 c7 hkV hr7).mono ?_; rintro e wS ⟨vS, rfl, hSig, hgS, -, -⟩; obtain ⟨g3, c3, g4, c4, rfl, -, -, -, -, r3, r4⟩ := hSig)
              | (refine wpList_store_row rfl 27 _ _ rfl (wS.heap.size) #[.slice (some ⟨g3, 0, none⟩) 32 c3, .slice (some ⟨g4, 0, none⟩) 32 c4] rfl rfl 27 _ (alloc_at rfl) size_one rfl (one_two _ _ _ _ _ _) ?_; generalize hw7 : World.setRow _ _ _ = wX; have HX := one_new _ _ _ _ hw7; clear hw7; have gX := grown_same hgS HX.2; have q0 : wX.cell? ⟨b10, 0, none⟩ = some (.slice (some ⟨g1, 0, none⟩) 32 c1) := cell_of_cells (keep_of h10 gX) rfl; have q1 : wX.cell? ⟨wS.heap.size, 0, none⟩ = some (.slice (some ⟨g3, 0, none⟩) 32 c3) := cell_of_cells HX.1 rfl)
              | (go_at_call_of 16 (Value.slice (some ⟨g1, 0, none⟩) 32 c1); refine (SameH_any g1 c1 g3 c3 _ (openF_len x0 L) _ (r1.kept gX) (r3.kept HX.2)).mono ?_; rintro e wY ⟨rfl, hgY⟩; have q2 : wY.cell? ⟨b10, 1, none⟩ = some (.slice (some ⟨g2, 0, none⟩) 32 c2) := cell_of_cells (keep_of h10 (grown_same gX hgY)) rfl; have q3 : wY.cell? ⟨wS.heap.size, 1, none⟩ = some (.slice (some ⟨g4, 0, none⟩) 32 c4) := cell_of_cells (keep_of HX.1 hgY) rfl)
              | (go_at_call_of 16 (Value.slice (some ⟨g2, 0, none⟩) 32 c2); refine (SameH_any g2 c2 g4 c4 _ (shutF_len x0 L) _ (r2.kept (grown_same gX hgY)) (r4.kept (grown_same HX.2 hgY))).mono ?_; rintro e wU ⟨rfl, hgU⟩)
              | (go_at_call 3; refine (LamRuns_any _ (hkV.kept (grown_same gX (grown_same hgY hgU)))).mono ?_; rintro e wQ ⟨rfl, hgQ⟩))
            go_ret
            exact ⟨rfl, grown_same hgV2 (grown_same gX (grown_same hgY (grown_same hgU hgQ)))⟩
end Go.Proofs.YtepnhepaihpnoaaDoor
