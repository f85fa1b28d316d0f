/- The law on trees of two parts: its contract. -/
import Derived.Test.YtmfnncfiaaeknaaDoorTreeG
namespace Go.Proofs.YtmfnncfiaaeknaaDoor
open Go.RowKit

/-- 'append(v, x...)', both rows of hashes of the call's own. -/
theorem wp_appHH {o : Oper} {a : Act} {w : World} {K : Act → World → Prop} {Q : Exit → Act → World → Prop} {s x : Operand}
    (ho : o.op = .call { callee := .builtin .append, args := #[s, x], argTypes := #[26, 26] })
    {v : Value} {l : List UInt8} {n : Nat} (hv : a.eval s = v) (hown : OwnHs w v l n) {xv : Value} {P : List UInt8} {d : Nat} (hx : a.eval x = xv) (hP : OwnHs w xv P d) (hb : n + d ≤ 1000000)
    (h : ∀ v' w', OwnHs w' v' (l ++ P) (n + d) → Grew w w' v v' → K (a.put o.dst v') w') : Oper.wp Tryd.prog o a w K Q := by
  rcases Nat.eq_zero_or_pos d with rfl | hd
  · obtain ⟨base, hb2, hown2⟩ := hP
    obtain ⟨A, c, rfl, _, _⟩ := own_slice hown2
    have hP0 : P = [] := List.eq_nil_of_length_eq_zero (by have := (show OwnHs w _ P 0 from ⟨base, hb2, hown2⟩).len; omega)
    subst hP0
    obtain ⟨i, hi, -, -, -⟩ := info_parts info_hashrow
    obtain ⟨base1, hb1, hown1⟩ := hown
    have hrun := run_append_empty (P := Tryd.prog) w (ty := o.type) Tryd.underlying26 hi hown1 A c
    unfold Oper.wp execOp
    simp only [ho, resolve, invoke, builtin, Sem.run_bind, Sem.run_pure, Result.andThen_ok, List.map_toArray, List.map_cons, List.map_nil, hv, hx, hrun]
    exact h v w (by rw [List.append_nil]; exact ⟨base1, hb1, hown1⟩) (Grew.refl w v)
  · obtain ⟨g, c, rfl, _, _, hr⟩ := hP.slice hd
    exact wp_appH ho hv hown hx hr hP.len hd hb h
theorem wrap_pow2 {q Q : Nat} (h : q ≤ 8) (hQ : Q = 2 ^ q) : wrap64 ((2 : Int) ^ q) = (Q : Int) := by
  have e : ((2 : Int) ^ q) = ((2 ^ q : Nat) : Int) := by simp
  have : 2 ^ q ≤ 2 ^ 8 := Nat.pow_le_pow_right (by decide) h
  rw [e, ← hQ]
  rw [← hQ] at this
  exact IntWalk.wrap64_in _ ⟨by omega, by omega⟩
theorem idx_list (ad : Addr) (n c k : Nat) (hk : k < n) (w : World) : (Instr.indexAt 38 (.slice (some ad) n c) (.int .i64 (k : Int))).run Tryd.prog w = .ok (.pointer (some (ad.add k))) w := by
  rw [run_indexAt_slice (P := Tryd.prog) (h := by kernel_rfl), if_pos ⟨by omega, by omega⟩]
  rw [show (sizeOf (Tryd.prog.elem 38)).run Tryd.prog w = .ok 1 w from by kernel_rfl, Result.andThen_ok]
  simp
def paS (t : Nat) : Bool := t == 9 || t == 10 || t == 32 || t == 33 || t == 34 || t == 35 || t == 36 || t == 37 || t == 38 || t == 39
def paDie (k : Nat) : Nat := if k = 8 then 10 else 99
def paOwn (k : Nat) : Bool := k == 8 || k == 9 || k == 10
def paAl (k : Nat) : Bool := k == 0 || k == 2 || k == 4 || k == 6 || k == 8 || k == 9 || k == 10
def paF (A A2 : Option Addr) (n k m c c2 : Nat) (X Y : List UInt8) : Nat → Value → World → Prop
  | 0 => fun v _ => v = .slice A n c
  | 1 => fun v _ => v = .int .i64 (k : Int)
  | 2 => fun v _ => v = .slice A k c
  | 3 => fun v _ => v = (.agg (X.map bv).toArray)
  | 4 => fun v _ => v = .slice A n c
  | 5 => fun v _ => v = .int .i64 (k : Int)
  | 6 => fun v _ => v = .slice A2 m c2
  | 7 => fun v _ => v = (.agg (Y.map bv).toArray)
  | 8 => Made (rowH []) 23
  | 9 => Made (rowH []) 23
  | 10 => Stored 23
  | _ => fun _ _ => True
theorem paF_lasts (A A2 : Option Addr) (n k m c c2 : Nat) (X Y : List UInt8) : ∀ kq, LastsB paAl kq (paF A A2 n k m c c2 X Y kq)
  | 0 => LastsB.val _
  | 1 => LastsB.val _
  | 2 => LastsB.val _
  | 3 => LastsB.val _
  | 4 => LastsB.val _
  | 5 => LastsB.val _
  | 6 => LastsB.val _
  | 7 => LastsB.val _
  | 8 => LastsB.made rfl _ _
  | 9 => LastsB.made rfl _ _
  | 10 => LastsB.stored rfl _
  | _ + 11 => fun _ _ _ _ _ _ _ => trivial
def pbS (t : Nat) : Bool := t == 13 || t == 48 || t == 49 || t == 50 || t == 51 || t == 52 || t == 53 || t == 54 || t == 55 || t == 56 || t == 57
def pbDie (k : Nat) : Nat := if k = 0 then 6 else if k = 6 then 9 else if k = 9 then 10 else 99
def pbOwn (k : Nat) : Bool := k == 0 || k == 5 || k == 6 || k == 9 || k == 10
def pbAl (k : Nat) : Bool := k == 1 || k == 3
def pbF (A : Option Addr) (N n c i d : Nat) (P Z : List UInt8) : Nat → Value → World → Prop
  | 0 => fun v w => OwnHs w v [] 0
  | 1 => fun v _ => v = .slice A N c
  | 2 => fun v _ => v = .int .i64 (n : Int)
  | 3 => fun v _ => v = .slice A n c
  | 4 => fun v _ => v = .int .i64 (i : Int)
  | 5 => fun v w => OwnHs w v P d
  | 6 => fun v w => OwnHs w v ([] ++ P) (0 + d)
  | 7 => fun v _ => v = (.agg (Z.map bv).toArray)
  | 8 => Hash1 Z
  | 9 => fun v w => OwnHs w v ([] ++ P ++ Z) (0 + d + 1)
  | 10 => fun v w => OwnHs w v ([] ++ P ++ Z) (0 + d + 1)
  | _ => fun _ _ => True
theorem pbF_lasts (A : Option Addr) (N n c i d : Nat) (P Z : List UInt8) : ∀ kq, LastsB pbAl kq (pbF A N n c i d P Z kq)
  | 0 => LastsB.ownH rfl _ _
  | 1 => LastsB.val _
  | 2 => LastsB.val _
  | 3 => LastsB.val _
  | 4 => LastsB.val _
  | 5 => LastsB.ownH rfl _ _
  | 6 => LastsB.ownH rfl _ _
  | 7 => LastsB.val _
  | 8 => LastsB.hash1 rfl _
  | 9 => LastsB.ownH rfl _ _
  | 10 => LastsB.ownH rfl _ _
  | _ + 11 => fun _ _ _ _ _ _ _ => trivial
def pcS (t : Nat) : Bool := t == 13 || t == 61 || t == 62 || t == 63 || t == 64 || t == 65 || t == 66 || t == 67 || t == 68 || t == 69 || t == 70 || t == 71 || t == 72
def pcDie (k : Nat) : Nat := if k = 0 then 8 else if k = 8 then 11 else if k = 11 then 12 else 99
def pcOwn (k : Nat) : Bool := k == 0 || k == 7 || k == 8 || k == 11 || k == 12
def pcAl (k : Nat) : Bool := k == 1 || k == 3
def pcF (A A2 : Option Addr) (N n m c c2 i i2 d : Nat) (P Z : List UInt8) : Nat → Value → World → Prop
  | 0 => fun v w => OwnHs w v [] 0
  | 1 => fun v _ => v = .slice A N c
  | 2 => fun v _ => v = .int .i64 (n : Int)
  | 3 => fun v _ => v = .slice A2 m c2
  | 4 => fun v _ => v = .int .i64 (i : Int)
  | 5 => fun v _ => v = .int .i64 (n : Int)
  | 6 => fun v _ => v = .int .i64 (i2 : Int)
  | 7 => fun v w => OwnHs w v P d
  | 8 => fun v w => OwnHs w v ([] ++ P) (0 + d)
  | 9 => fun v _ => v = (.agg (Z.map bv).toArray)
  | 10 => Hash1 Z
  | 11 => fun v w => OwnHs w v ([] ++ P ++ Z) (0 + d + 1)
  | 12 => fun v w => OwnHs w v ([] ++ P ++ Z) (0 + d + 1)
  | _ => fun _ _ => True
theorem pcF_lasts (A A2 : Option Addr) (N n m c c2 i i2 d : Nat) (P Z : List UInt8) : ∀ kq, LastsB pcAl kq (pcF A A2 N n m c c2 i i2 d P Z kq)
  | 0 => LastsB.ownH rfl _ _
  | 1 => LastsB.val _
  | 2 => LastsB.val _
  | 3 => LastsB.val _
  | 4 => LastsB.val _
  | 5 => LastsB.val _
  | 6 => LastsB.val _
  | 7 => LastsB.ownH rfl _ _
  | 8 => LastsB.ownH rfl _ _
  | 9 => LastsB.val _
  | 10 => LastsB.hash1 rfl _
  | 11 => LastsB.ownH rfl _ _
  | 12 => LastsB.ownH rfl _ _
  | _ + 13 => fun _ _ _ _ _ _ _ => trivial
def pdS (t : Nat) : Bool := t == 6 || t == 73 || t == 74 || t == 75 || t == 76 || t == 77 || t == 78 || t == 79 || t == 80 || t == 81 || t == 82 || t == 83 || t == 84 || t == 85 || t == 86 || t == 87 || t == 88 || t == 89 || t == 90 || t == 91 || t == 92 || t == 93 || t == 94 || t == 95 || t == 96 || t == 97 || t == 98 || t == 99 || t == 100 || t == 101 || t == 102 || t == 103 || t == 104 || t == 105
def pdDie (_ : Nat) : Nat := 99
def pdOwn (_ : Nat) : Bool := false
def pdAl (k : Nat) : Bool := k == 0 || k == 2 || k == 3 || k == 8 || k == 9 || k == 13 || k == 15 || k == 18 || k == 20
def pdF (A : Option Addr) (N c b9 b10 gp cp gw cw d pc : Nat) (pA : Option Addr) (pl : List UInt8) (ad : Addr) (X Y R E F0 : List UInt8) : Nat → Value → World → Prop
  | 0 => fun v _ => v = .slice A N c
  | 1 => fun v _ => v = (.agg (R.map bv).toArray)
  | 2 => fun v _ => v = .slice (some ⟨b9, 0, none⟩) 32 32
  | 3 => fun v _ => v = .slice (some ⟨b10, 0, none⟩) 32 32
  | 4 => Part2 (hp b9 X) (hp b10 Y)
  | 5 => fun v _ => v = (.agg (R.map bv).toArray)
  | 6 => fun v _ => v = .bool true
  | 7 => fun v _ => v = .bool true
  | 8 => fun v _ => v = .slice (some ⟨gp, 0, none⟩) (d + 1) cp
  | 9 => fun v _ => v = .slice (some ⟨gw, 0, none⟩) (d + 1) cw
  | 10 => fun v _ => v = .bool true
  | 11 => fun v _ => v = .bool true
  | 12 => fun v _ => v = .bool true
  | 13 => fun v _ => v = .slice A N c
  | 14 => fun v _ => v = .pointer (some (ad.add 0))
  | 15 => fun v _ => v = pv (pA, pl, pc)
  | 16 => Part1 (pA, pl, pc)
  | 17 => fun v _ => v = (.agg (E.map bv).toArray)
  | 18 => fun v _ => v = .slice A N c
  | 19 => fun v _ => v = .pointer (some (ad.add 0))
  | 20 => fun v _ => v = pv (pA, pl, pc)
  | 21 => Part1 (pA, pl, pc)
  | 22 => fun v _ => v = (.agg (E.map bv).toArray)
  | 23 => fun v _ => v = .bool true
  | 24 => fun v _ => v = .bool true
  | 25 => fun v _ => v = .bool true
  | 26 => fun v _ => v = (.agg (F0.map bv).toArray)
  | 27 => fun v _ => v = (.agg (F0.map bv).toArray)
  | 28 => fun v _ => v = .bool true
  | 29 => fun v _ => v = .bool true
  | 30 => fun v _ => v = .bool true
  | 31 => fun v _ => v = .bool true
  | 32 => fun v _ => v = .bool true
  | 33 => fun v _ => v = .bool true
  | _ => fun _ _ => True
theorem pdF_lasts (A : Option Addr) (N c b9 b10 gp cp gw cw d pc : Nat) (pA : Option Addr) (pl : List UInt8) (ad : Addr) (X Y R E F0 : List UInt8) : ∀ kq, LastsB pdAl kq (pdF A N c b9 b10 gp cp gw cw d pc pA pl ad X Y R E F0 kq)
  | 0 => LastsB.val _
  | 1 => LastsB.val _
  | 2 => LastsB.val _
  | 3 => LastsB.val _
  | 4 => LastsB.part2 rfl _ _
  | 5 => LastsB.val _
  | 6 => LastsB.val _
  | 7 => LastsB.val _
  | 8 => LastsB.val _
  | 9 => LastsB.val _
  | 10 => LastsB.val _
  | 11 => LastsB.val _
  | 12 => LastsB.val _
  | 13 => LastsB.val _
  | 14 => LastsB.val _
  | 15 => LastsB.val _
  | 16 => LastsB.part1 rfl _
  | 17 => LastsB.val _
  | 18 => LastsB.val _
  | 19 => LastsB.val _
  | 20 => LastsB.val _
  | 21 => LastsB.part1 rfl _
  | 22 => LastsB.val _
  | 23 => LastsB.val _
  | 24 => LastsB.val _
  | 25 => LastsB.val _
  | 26 => LastsB.val _
  | 27 => LastsB.val _
  | 28 => LastsB.val _
  | 29 => LastsB.val _
  | 30 => LastsB.val _
  | 31 => LastsB.val _
  | 32 => LastsB.val _
  | 33 => LastsB.val _
  | _ + 34 => fun _ _ _ _ _ _ _ => trivial

set_option maxRecDepth 100000 in
set_option maxHeartbeats 4000000 in
theorem TreeParts_any (A0 : Option Addr) (L0 : List (List UInt8)) (c0 : Nat) (n1 n2 : Int) (W0 : World) (hk : Laid2 W0) (hr : RdS W0 A0 L0) :
    Calls Tryd.prog 7 #[.slice A0 L0.length c0, .int .i64 n1, .int .i64 n2] W0 fun e w' => e = .returned (.bool true) ∧ W0.grownBy w' none := by
  obtain ⟨q, hq, hWq⟩ := Within_nat n1 3 (by omega)
  obtain ⟨n, hn⟩ : ∃ n : Nat, n = 2 ^ q := ⟨_, rfl⟩
  have hwq := wrap_pow2 (q := q) (by omega) hn
  have hn1 : 1 ≤ n := by rw [hn]; exact Nat.one_le_two_pow
  have hn8 : n ≤ 8 := by rw [hn]; exact Nat.pow_le_pow_right (by decide) (show q ≤ 3 from hq)
  have HN := Lib.hid hn
  clear hn
  have hrow : ∀ w', RdS w' A0 L0 → Calls Tryd.prog 21 #[.slice A0 L0.length c0, .int .i64 16] w' _ := fun w' h => rows_any A0 L0 c0 16 (by decide) w' h
  replace hWq : ∀ w', Calls Tryd.prog 12 #[.int .i64 n1, .int .i64 0, .int .i64 3] w' fun e w'' => e = .returned (.int .i64 (q : Int)) ∧ w' = w'' := hWq
  go_enter Tryd.func7, Tryd.ntmps7
  go_upto_region 3 with (first
    | (go_at_call 12; refine (hWq _).mono ?_; rintro e w1 ⟨rfl, rfl⟩)
    | (go_at_call 21; refine (hrow _ hr).mono ?_; rintro e W ⟨A, ps, c, rfl, hc, hrP, hL, hgW⟩))
  have hps := congrArg List.length hL
  rw [leavesOf_len, List.length_map, List.length_take] at hps
  have hN16 : ps.length ≤ 16 := by omega
  have hpl : ∀ p ∈ ps, p.2.1.length ≤ 20 := by
    intro p hp
    have h2 : p.2.1 ∈ leavesOf ps := List.mem_map.2 ⟨p, hp, rfl⟩
    rw [hL] at h2
    obtain ⟨s, _, e⟩ := List.mem_map.1 h2
    rw [← e, List.length_take]; omega
  replace hk := hk.kept hgW
  obtain ⟨N, hNN⟩ : ∃ N, N = ps.length := ⟨_, rfl⟩
  rw [← hNN] at hc hN16 ⊢
  clear hps hL hrow hWq hr hwq
  have HNN0 := Lib.hid hNN
  clear hNN
  by_cases hlo : N ≤ n
  · have hlo' : (N : Int) ≤ (n : Int) := by omega
    have htr := TreeRuns_any _ hk
    go_wp2_with (go_at_call 4; refine htr.mono ?_; rintro e w2 ⟨rfl, hg2⟩)
    go_ret
    exact ⟨rfl, grown_same hgW hg2⟩
  have hlo' : ¬ (N : Int) ≤ (n : Int) := by omega
  by_cases hhi : 2 * n < N
  · have hhi' : 2 * (n : Int) < (N : Int) := by omega
    have htr := TreeRuns_any _ hk
    go_wp2_with (go_at_call 4; refine htr.mono ?_; rintro e w2 ⟨rfl, hg2⟩)
    go_ret
    exact ⟨rfl, grown_same hgW hg2⟩
  have hhi' : ¬ 2 * (n : Int) < (N : Int) := by omega
  have hNN := HNN0.out
  clear HNN0
  have hhf : Hid (halfN N = n) := by
    show _ = _
    rw [HN.out]
    exact halfN_eq (by rw [← HN.out]; omega) (by rw [← HN.out]; omega)
  have hN2 : 2 ≤ N := by omega
  have hpl' : ∀ p ∈ ps, p.2.1.length ≤ 1000 := fun p hp => by have := hpl p hp; omega
  -- the roots
  have hro1 := fun w' (hg : W.grownBy w' none) => Root_any n A (ps.take n) c w' (by rw [List.length_take]; omega) (by omega) (by omega) (fun p hp => hpl' p (List.mem_of_mem_take hp)) (hk.kept hg) ((hrP.take _).kept hg)
  have hro2 := fun w' (hg : W.grownBy w' none) => Root_any (N - n) (if c = n then A else A.map (·.add n)) (ps.drop n) (c - n) w' (by rw [List.length_drop]; omega) (by omega) (by omega) (fun p hp => hpl' p (List.mem_of_mem_drop hp)) (hk.kept hg) ((hrP.cut (by omega)).kept hg)
  have hroL := fun w' (hg : W.grownBy w' none) => Root_any N A ps c w' hNN.symm hc (by omega) hpl' (hk.kept hg) (hrP.kept hg)
  have hlo := fun w' => sl_loP A N c n (by omega) w'
  obtain ⟨i, hi, hWi⟩ := Within_nat n2 (N - 1) (by omega)
  rw [show ((N - 1 : Nat) : Int) = (N : Int) - 1 by omega] at hWi
  have hpaL := fun w' (hg : W.grownBy w' none) => Path_any N A ps c i w' hNN.symm hc (by omega) (by omega) hpl' (hk.kept hg) (hrP.kept hg)
  have hpa1 := fun w' (hg : W.grownBy w' none) => Path_any n A (ps.take n) c i w' (by rw [List.length_take]; omega) (by omega) (by omega) (by omega) (fun p hp => hpl' p (List.mem_of_mem_take hp)) (hk.kept hg) ((hrP.take _).kept hg)
  have hpa2 := fun w' (hg : W.grownBy w' none) => Path_any (N - n) (if c = n then A else A.map (·.add n)) (ps.drop n) (c - n) (i - n) w' (by rw [List.length_drop]; omega) (by omega) (by omega) (by omega) (fun p hp => hpl' p (List.mem_of_mem_drop hp)) (hk.kept hg) ((hrP.cut (by omega)).kept hg)
  have hd1 := pathL_le (leavesOf (ps.take n)) i
  have hd2 := pathL_le (leavesOf (ps.drop n)) (i - n)
  rw [leavesOf_len, List.length_take] at hd1
  rw [leavesOf_len, List.length_drop] at hd2
  have hD1 : Hid ((pathL (leavesOf (ps.take n)) i).length ≤ 500) := by show _ ≤ _; omega
  have hD2 : Hid ((pathL (leavesOf (ps.drop n)) (i - n)).length ≤ 500) := by show _ ≤ _; omega
  obtain ⟨X, hX⟩ : ∃ X, X = rootL (leavesOf (ps.take n)) := ⟨_, rfl⟩
  obtain ⟨Y, hY⟩ : ∃ Y, Y = rootL (leavesOf (ps.drop n)) := ⟨_, rfl⟩
  obtain ⟨R, hR0⟩ : ∃ R, R = rootL (leavesOf ps) := ⟨_, rfl⟩
  have hXl : Hid (X.length = 32) := by rw [hX]; exact rootL_len _
  have hYl : Hid (Y.length = 32) := by rw [hY]; exact rootL_len _
  have hRl : Hid (R.length = 32) := by rw [hR0]; exact rootL_len _
  have hR : Hid (R = tagL 1 (X ++ Y)) := by
    show _ = _
    rw [hR0, rootL_2 (by rw [leavesOf_len]; omega), leavesOf_len, ← hNN, hhf.out, hX, hY, leavesOf_take, leavesOf_drop]
  have hPl : Hid (i < n → (pathL (leavesOf ps) i).flatten = [] ++ (pathL (leavesOf (ps.take n)) i).flatten ++ Y ∧ (pathL (leavesOf ps) i).length = 0 + (pathL (leavesOf (ps.take n)) i).length + 1) := by
    intro hin
    rw [pathL_l (by rw [leavesOf_len]; omega) (by rw [leavesOf_len, ← hNN, hhf.out]; exact hin), leavesOf_len, ← hNN, hhf.out, ← leavesOf_take, ← leavesOf_drop, ← hY]
    exact ⟨by simp, by simp⟩
  have hPr : Hid (¬ i < n → (pathL (leavesOf ps) i).flatten = [] ++ (pathL (leavesOf (ps.drop n)) (i - n)).flatten ++ X ∧ (pathL (leavesOf ps) i).length = 0 + (pathL (leavesOf (ps.drop n)) (i - n)).length + 1) := by
    intro hin
    rw [pathL_r (by rw [leavesOf_len]; omega) (by rw [leavesOf_len]; omega) (by rw [leavesOf_len, ← hNN, hhf.out]; exact hin), leavesOf_len, ← hNN, hhf.out, ← leavesOf_take, ← leavesOf_drop, ← hX]
    exact ⟨by simp, by simp⟩
  rw [← hX] at hro1
  rw [← hY] at hro2
  rw [← hR0] at hroL
  -- the first leaf
  obtain ⟨ad, hAd, hcz0, hrz0⟩ := hrP.get (k := 0) (by omega)
  have hidx : ∀ w', (Instr.indexAt 38 (.slice A N c) (.int .i64 0)).run Tryd.prog w' = .ok (.pointer (some (ad.add 0))) w' := fun w' => by rw [hAd]; exact idx_list ad N c 0 (by omega) w'
  have hl0 := hpl ps[0] (List.getElem_mem _)
  obtain ⟨p0, hp0⟩ : ∃ p, p = ps[0]'(by omega) := ⟨_, rfl⟩
  rw [← hp0] at hcz0 hrz0 hl0
  obtain ⟨pA, pl, pc⟩ := p0
  have hcz := fun w' (h : W.grownBy w' none) => (h.cell hcz0 (by simp) : w'.cell? (ad.add 0) = some (pv (pA, pl, pc)))
  have hrpl := fun w' (h : W.grownBy w' none) => hrz0.kept h
  obtain ⟨E, hE0⟩ : ∃ E, E = tagL 0 pl := ⟨_, rfl⟩
  have hE := Lib.hid hE0
  have hEl : Hid (E.length = 32) := by rw [hE0]; exact tagL_len _ _
  have hro3 := fun b w' (h : W.grownBy w' none) (h4 : RdAt w' (some ⟨b, 0, none⟩) [pv (pA, pl, pc)]) => Root_any 1 (some ⟨b, 0, none⟩) [(pA, pl, pc)] 1 w' rfl (by omega) (by omega) (by intro p hp; rw [List.mem_singleton] at hp; subst hp; simp only at hl0 ⊢; omega) (hk.kept h) (rdP_kept1 h4 (hrpl w' h))
  have hEq : rootL (leavesOf [(pA, pl, pc)]) = E := by rw [show leavesOf [(pA, pl, pc)] = [pl] from rfl, rootL_1, hE0]
  rw [hEq] at hro3
  obtain ⟨F0, hF0⟩ : ∃ F0, F0 = tagL 2 (catP []) := ⟨_, rfl⟩
  have hFl : Hid (F0.length = 32) := by rw [hF0]; exact tagL_len _ _
  have hrt0 : ∀ w', Calls Tryd.prog 26 #[.int .u8 2, .slice none 0 0] w' fun e w'' => e = .returned (.agg (F0.map bv).toArray) ∧ w'.grownBy w'' none := fun w' => by
    have := RTagged_any 2 none [] 0 w' ⟨RdAt.nil, by simp⟩ (by simp [catP]) (by simp)
    rw [← hF0] at this
    exact this
  have hro0 : ∀ w', W.grownBy w' none → Calls Tryd.prog 19 #[.slice none 0 0] w' fun e w'' => e = .returned (.agg (F0.map bv).toArray) ∧ w'.grownBy w'' none := fun w' h => by
    have := Root_any 0 none [] 0 w' rfl (by omega) (by omega) (by simp) (hk.kept h) ⟨RdAt.nil, by simp⟩
    rw [show rootL (leavesOf []) = F0 from by rw [hF0]; exact rootL_0] at this
    exact this
  have hN0 : 0 < N := by omega
  have hl1 : pl.length ≤ 20 := hl0
  have HNN := Lib.hid hNN
  clear hNN hAd hX hY hR0 hF0 hEq hE0 hp0 hcz0 hrz0 hpl hpl' hl0 hhf HN hd1 hd2 hrP
  obtain ⟨A2, hA2⟩ : ∃ A2, A2 = (if c = n then A else A.map (·.add n)) := ⟨_, rfl⟩
  obtain ⟨m, hm⟩ : ∃ m, m = N - n := ⟨_, rfl⟩
  obtain ⟨c2, hc2⟩ : ∃ c2, c2 = c - n := ⟨_, rfl⟩
  obtain ⟨i2, hi2⟩ : ∃ i2, i2 = i - n := ⟨_, rfl⟩
  rw [← hA2, ← hm, ← hc2] at hro2 hlo
  rw [← hA2, ← hm, ← hc2, ← hi2] at hpa2
  rw [← hi2] at hD2 hPr
  have hi2' := Lib.hid hi2
  clear hA2 hm hc2 hi2
  have hkc : n ≤ c := by omega
  obtain ⟨W1, hW1⟩ : ∃ W1, W1 = W := ⟨_, rfl⟩
  go_upto_region 5 with fail
  clear hW1
  refine wp_region_gb (al := paAl) 11 (N := 106) (S := paS) (die := paDie) (own := paOwn) (F := paF A A2 N n m c c2 X Y) (by kernel_rfl) (Nat.le_of_ble_eq_true (by kernel_rfl)) (fun _ => by kernel_rfl) (fun _ => by kernel_rfl) (by kernel_rfl) (by kernel_rfl) (Nat.le_of_ble_eq_true (by kernel_rfl)) (paF_lasts A A2 N n m c c2 X Y) ?_ ?_
  · intro i o L' a w K hi ho hg hLi hout hpre houter hitem h1 h2 h3
    have hcases : i = 0 ∨ i = 1 ∨ i = 2 ∨ i = 3 ∨ i = 4 ∨ i = 5 ∨ i = 6 ∨ i = 7 ∨ i = 8 ∨ i = 9 ∨ i = 10 := by omega
    rcases hcases with rfl | rfl | rfl | rfl | rfl | rfl | rfl | rfl | rfl | rfl | rfl
    · cases (show some _ = some o from ho)
      exact ⟨rfl, wp_move rfl (h1 ⟨_, rfl⟩ _ _ (grown_refl _ none) (houter _ rfl) (by rw [houter _ rfl]; exact nobl rfl) (by rw [houter _ rfl]; exact FreshB.none rfl))⟩
    · cases (show some _ = some o from ho)
      exact ⟨rfl, wp_move rfl (h1 ⟨_, rfl⟩ _ _ (grown_refl _ none) (houter _ rfl) (by rw [houter _ rfl]; exact nobl rfl) (by rw [houter _ rfl]; exact FreshB.none rfl))⟩
    · cases (show some _ = some o from ho)
      exact ⟨rfl, wp_slice_hi rfl (hitem 0 (by decide) ⟨hpre 0 rfl, hout _ (by decide)⟩) (hitem 1 (by decide) ⟨hpre 1 rfl, hout _ (by decide)⟩) (sl_hiP _ _ _ _ hkc _) (h1 ⟨_, rfl⟩ _ _ (grown_refl _ none) rfl (nobl rfl) (FreshB.none rfl))⟩
    · cases (show some _ = some o from ho)
      have x34 : a.eval (.tmp 34) = .slice A n c := hitem 2 (by decide) ⟨hpre 2 rfl, hout _ (by decide)⟩
      refine ⟨rfl, wp_call rfl Tryd.func19 (by kernel_rfl) (by kernel_rfl) (args := #[.slice A n c]) (by simp [x34]) ((hro1 w hg).mono ?_)⟩
      rintro e w' ⟨rfl, hg'⟩
      exact ⟨_, rfl, h1 ⟨_, rfl⟩ _ _ hg' rfl (nobl (blocks_bytes _)) (FreshB.none (blocks_bytes _))⟩
    · cases (show some _ = some o from ho)
      exact ⟨rfl, wp_move rfl (h1 ⟨_, rfl⟩ _ _ (grown_refl _ none) (houter _ rfl) (by rw [houter _ rfl]; exact nobl rfl) (by rw [houter _ rfl]; exact FreshB.none rfl))⟩
    · cases (show some _ = some o from ho)
      exact ⟨rfl, wp_move rfl (h1 ⟨_, rfl⟩ _ _ (grown_refl _ none) (houter _ rfl) (by rw [houter _ rfl]; exact nobl rfl) (by rw [houter _ rfl]; exact FreshB.none rfl))⟩
    · cases (show some _ = some o from ho)
      exact ⟨rfl, wp_slice_lo rfl (hitem 4 (by decide) ⟨hpre 4 rfl, hout _ (by decide)⟩) (hitem 5 (by decide) ⟨hpre 5 rfl, hout _ (by decide)⟩) (hlo _) (h1 ⟨_, rfl⟩ _ _ (grown_refl _ none) rfl (nobl rfl) (FreshB.none rfl))⟩
    · cases (show some _ = some o from ho)
      have x38 : a.eval (.tmp 38) = .slice A2 m c2 := hitem 6 (by decide) ⟨hpre 6 rfl, hout _ (by decide)⟩
      refine ⟨rfl, wp_call rfl Tryd.func19 (by kernel_rfl) (by kernel_rfl) (args := #[.slice A2 m c2]) (by simp [x38]) ((hro2 w hg).mono ?_)⟩
      rintro e w' ⟨rfl, hg'⟩
      exact ⟨_, rfl, h1 ⟨_, rfl⟩ _ _ hg' rfl (nobl (blocks_bytes _)) (FreshB.none (blocks_bytes _))⟩
    · cases (show some _ = some o from ho)
      exact ⟨rfl, wp_alloc rfl (alloc_H _) (h1 ⟨_, rfl⟩ _ _ (grown_alloc (grown_refl _ _) _) ⟨_, rfl, heap_alloc_new _ _⟩ (new_lt _ _) (FreshB.new (new_ge _)))⟩
    · cases (show some _ = some o from ho)
      exact ⟨rfl, wp_alloc rfl (alloc_H _) (h1 ⟨_, rfl⟩ _ _ (grown_alloc (grown_refl _ _) _) ⟨_, rfl, heap_alloc_new _ _⟩ (new_lt _ _) (FreshB.new (new_ge _)))⟩
    · cases (show some _ = some o from ho)
      obtain ⟨b, e1, hb⟩ := hitem 8 (by decide) ⟨hpre 8 rfl, hLi⟩
      have x2 : a.eval (.tmp 35) = .agg (X.map bv).toArray := hitem 3 (by decide) ⟨hpre 3 rfl, hout _ (by decide)⟩
      exact ⟨rfl, wp_store_row 23 _ _ rfl b (X.map bv).toArray e1 x2 23 _ hb (hashV_size _ hXl.out) (by rw [rowH_size _ (by simp), List.size_toArray, List.length_map, hXl.out]) (bv_all' _) (h3 rfl 8 _ _ (some b) (by decide) ⟨hpre 8 rfl, hLi⟩ rfl rfl (grown_setRow (grown_refl _ _) (.inl rfl) _) (fun g e => by cases e; rw [show valB _ a 8 = _ from e1]; exact List.mem_singleton.2 rfl) ⟨b, _, (by rw [show valB _ a 10 = .tuple #[a.eval (.tmp 9), a.eval (.tmp 35)] from rfl, show a.eval (.tmp 9) = _ from e1, x2]), setRow_heap _ _ _ _ _ _ hb⟩ (fun g h => by rw [show valB _ a 10 = .tuple #[a.eval (.tmp 9), a.eval (.tmp 35)] from rfl, show a.eval (.tmp 9) = _ from e1] at h; rw [show valB _ a 8 = _ from e1]; exact h))⟩
  · intro a wT hgT hend hap ha
    obtain ⟨f, hf⟩ : ∃ f : Nat → Value, f = fun t => a.tmps.getD t undef := ⟨_, rfl⟩
    have s35 : f 35 = (.agg (X.map bv).toArray) := by rw [hf]; exact (hend 3 (by decide) (by decide)).1
    have s39 : f 39 = (.agg (Y.map bv).toArray) := by rw [hf]; exact (hend 7 (by decide) (by decide)).1
    obtain ⟨⟨b9, C9, q9, hh9⟩, fr9⟩ := hend 10 (by decide) (by decide)
    have f9 : W.heap.size ≤ b9 := fr9 rfl b9 (by rw [q9]; exact List.mem_singleton.2 rfl)
    have p9 := tuple_two (show Value.tuple #[_, _] = _ from q9)
    have s9 := (congrFun hf 9).trans p9.1
    have v9 : f 35 = .agg C9 := (congrFun hf 35).trans p9.2
    obtain rfl := Value.agg.inj (v9.symm.trans s35)
    clear v9
    obtain ⟨⟨b10, q10, hh10⟩, fr10⟩ := hend 9 (by decide) (by decide)
    have f10 : W.heap.size ≤ b10 := fr10 rfl b10 (by rw [q10]; exact List.mem_singleton.2 rfl)
    have s10 := (congrFun hf 10).trans q10
    have n9_10 : b9 ≠ b10 := fun e => hap 10 9 (by decide) (by decide) (by decide) (by decide) (by decide) rfl b10 (by rw [q10]; exact List.mem_singleton.2 rfl) (by rw [q9, e]; exact List.mem_singleton.2 rfl)
    rw [← hf] at ha
    clear hend hap
    clear hf
    clear q9 p9 fr9 q10 fr10
    subst ha
    simp only [fill, paS, Nat.reduceAdd, Nat.reduceBEq, Bool.or_false, Bool.or_true, cond_true, cond_false, List.drop_succ_cons, List.drop_zero, s35, s39, s9, s10]
    clear s35 s39 s9 s10
    have hgs : wT.grownBy (wT.setRow b10 (Y.map bv).toArray) (some b10) := grown_setRow (grown_refl _ _) (.inl rfl) _
    have hb10 : (wT.setRow b10 (Y.map bv).toArray).heap[b10]? = some (.cells (Y.map bv).toArray 23 (0, 0)) := setRow_heap _ _ _ _ _ _ hh10
    have hb9 : (wT.setRow b10 (Y.map bv).toArray).heap[b9]? = some (.cells (X.map bv).toArray 23 (0, 0)) := (setRow_other _ _ _ _ n9_10).trans hh9
    have hgB : W.grownBy (wT.setRow b10 (Y.map bv).toArray) none := grown_trans hgT hgs (.inr fun g e => by cases e; exact f10)
    clear hgs hro1 hro2
    go_upto_region 8 with (first
      | (refine wpList_store_row rfl 23 _ _ rfl b10 (Y.map bv).toArray rfl rfl 23 _ hh10 (hashV_size Y hYl.out) (by rw [rowH_size _ (by simp), List.size_toArray, List.length_map, hYl.out]) (bv_all' _) ?_; generalize wT.setRow b10 _ = V at hb9 hb10 hgB ⊢)
      | (go_at_call 12; refine (hWi _).mono ?_; rintro e w1 ⟨rfl, rfl⟩)
      | (go_at_call 16; refine (hpaL _ hgB).mono ?_; rintro e V2 ⟨v, rfl, ho2, hg2, hn2, hl2⟩))
    obtain ⟨P, hP⟩ : ∃ P, P = (pathL (leavesOf (ps.take n)) i).flatten := ⟨_, rfl⟩
    obtain ⟨d, hdd⟩ : ∃ d, d = (pathL (leavesOf (ps.take n)) i).length := ⟨_, rfl⟩
    rw [← hP, ← hdd] at hpa1 hPl
    rw [← hdd] at hD1
    clear hP hdd
    replace hb9 := keep_of hb9 hg2
    replace hb10 := keep_of hb10 hg2
    replace hgB := grown_same hgB hg2
    have hpw := fun w' (h : V2.grownBy w' none) => hpa1 w' (grown_same hgB h)
    clear hg2 hn2 hl2 hpa1 hpaL hWi
    have hd := hD1
    refine wp_region_gb (al := pbAl) 11 (N := 106) (S := pbS) (die := pbDie) (own := pbOwn) (F := pbF A N n c i d P Y) (by kernel_rfl) (Nat.le_of_ble_eq_true (by kernel_rfl)) (fun h => absurd (show 11 < 11 from h) (Nat.lt_irrefl _)) (fun h => absurd (show 11 < 11 from h) (Nat.lt_irrefl _)) (by kernel_rfl) (by kernel_rfl) (Nat.le_of_ble_eq_true (by kernel_rfl)) (pbF_lasts A N n c i d P Y) ?_ ?_
    · intro i o L' a w K hi ho hg hLi hout hpre houter hitem h1 h2 h3
      have hcases : i = 0 ∨ i = 1 ∨ i = 2 ∨ i = 3 ∨ i = 4 ∨ i = 5 ∨ i = 6 ∨ i = 7 ∨ i = 8 ∨ i = 9 ∨ i = 10 := by omega
      rcases hcases with rfl | rfl | rfl | rfl | rfl | rfl | rfl | rfl | rfl | rfl | rfl
      · cases (show some _ = some o from ho)
        exact ⟨rfl, wp_lit0 rfl (lit_noneH _) (h1 ⟨_, rfl⟩ _ _ (grown_alloc (grown_refl _ _) _) (ownH_new _) (new_lt _ _) (FreshB.new (new_ge _)))⟩
      · cases (show some _ = some o from ho)
        exact ⟨rfl, wp_move rfl (h1 ⟨_, rfl⟩ _ _ (grown_refl _ none) (houter _ rfl) (by rw [houter _ rfl]; exact nobl rfl) (by rw [houter _ rfl]; exact FreshB.none rfl))⟩
      · cases (show some _ = some o from ho)
        exact ⟨rfl, wp_move rfl (h1 ⟨_, rfl⟩ _ _ (grown_refl _ none) (houter _ rfl) (by rw [houter _ rfl]; exact nobl rfl) (by rw [houter _ rfl]; exact FreshB.none rfl))⟩
      · cases (show some _ = some o from ho)
        exact ⟨rfl, wp_slice_hi rfl (hitem 1 (by decide) ⟨hpre 1 rfl, hout _ (by decide)⟩) (hitem 2 (by decide) ⟨hpre 2 rfl, hout _ (by decide)⟩) (sl_hiP A N c n hkc _) (h1 ⟨_, rfl⟩ _ _ (grown_refl _ none) rfl (nobl rfl) (FreshB.none rfl))⟩
      · cases (show some _ = some o from ho)
        exact ⟨rfl, wp_move rfl (h1 ⟨_, rfl⟩ _ _ (grown_refl _ none) (houter _ rfl) (by rw [houter _ rfl]; exact nobl rfl) (by rw [houter _ rfl]; exact FreshB.none rfl))⟩
      · cases (show some _ = some o from ho)
        have x51 : a.eval (.tmp 51) = .slice A n c := hitem 3 (by decide) ⟨hpre 3 rfl, hout _ (by decide)⟩
        have x52 : a.eval (.tmp 52) = .int .i64 (i : Int) := hitem 4 (by decide) ⟨hpre 4 rfl, hout _ (by decide)⟩
        refine ⟨rfl, wp_call rfl Tryd.func16 (by kernel_rfl) (by kernel_rfl) (args := #[.slice A n c, .int .i64 (i : Int)]) (by simp [x51, x52]) ((hpw w hg).mono ?_)⟩
        rintro e w' ⟨v, rfl, hf', hg', hn', ht'⟩
        exact ⟨_, rfl, h1 ⟨_, rfl⟩ _ _ hg' hf' ht' (FreshB.new hn')⟩
      · cases (show some _ = some o from ho)
        have hu := hitem 0 (by decide) ⟨hpre 0 rfl, hLi⟩
        exact ⟨rfl, wp_appHH rfl rfl hu rfl (hitem 5 (by decide) ⟨hpre 5 rfl, hout _ (by decide)⟩) (by have := hd.out; omega) fun v w' hv hw => h2 ⟨_, rfl⟩ 0 v w' _ (by decide) ⟨hpre 0 rfl, hLi⟩ rfl rfl hw.1 (ownH_mem hu) hv (ownH_lt hv) (grewH_blocks hu hv hw)⟩
      · cases (show some _ = some o from ho)
        exact ⟨rfl, wp_load_row 23 _ rfl _ (houter _ rfl) _ (Y.map bv).toArray (0, 0) _ (keep_of hb10 hg) Tryd.underlying23 rfl (hashV_size _ hYl.out) (h1 ⟨_, rfl⟩ _ _ (grown_refl _ none) rfl (nobl (blocks_bytes _)) (FreshB.none (blocks_bytes _)))⟩
      · cases (show some _ = some o from ho)
        exact ⟨rfl, wp_lit1 rfl (hitem 7 (by decide) ⟨hpre 7 rfl, hout _ (by decide)⟩) (lit_1h Y hYl.out _) (h1 ⟨_, rfl⟩ _ _ (grown_alloc (grown_refl _ _) _) ⟨_, rfl, rd_row (heap_alloc_new _ _)⟩ (new_lt _ _) (FreshB.new (new_ge _)))⟩
      · cases (show some _ = some o from ho)
        have hu := hitem 6 (by decide) ⟨hpre 6 rfl, hLi⟩
        obtain ⟨b, e1, hb⟩ := hitem 8 (by decide) ⟨hpre 8 rfl, hout _ (by decide)⟩
        exact ⟨rfl, wp_appH rfl rfl hu e1 hb (by rw [hYl.out]) (by omega) (by have := hd.out; omega) fun v w' hv hw => h2 ⟨_, rfl⟩ 6 v w' _ (by decide) ⟨hpre 6 rfl, hLi⟩ rfl rfl hw.1 (ownH_mem hu) hv (ownH_lt hv) (grewH_blocks hu hv hw)⟩
      · cases (show some _ = some o from ho)
        have hu := hitem 9 (by decide) ⟨hpre 9 rfl, hLi⟩
        exact ⟨rfl, wp_assign rfl (h2 ⟨_, rfl⟩ 9 _ _ none (by decide) ⟨hpre 9 rfl, hLi⟩ rfl rfl (grown_refl _ none) (fun g e => by cases e) hu (ownH_lt hu) (fun g e => .inr (.inl e)))⟩
    · intro a wT hgT hend hap ha
      obtain ⟨f, hf⟩ : ∃ f : Nat → Value, f = fun t => a.tmps.getD t undef := ⟨_, rfl⟩
      obtain ⟨v13, s13, ho13⟩ : ∃ v, f 13 = v ∧ OwnHs wT v ([] ++ P ++ Y) (0 + d + 1) := ⟨_, congrFun hf 13, (hend 10 (by decide) (by decide)).1⟩
      rw [← hf] at ha
      clear hend hap
      clear hf
      subst ha
      simp only [fill, pbS, Nat.reduceAdd, Nat.reduceBEq, Bool.or_false, Bool.or_true, cond_true, cond_false, List.drop_succ_cons, List.drop_zero, s13]
      clear s13
      replace ho2 := ho2.kept hgT
      replace hgB := grown_same hgB hgT
      replace hb9 := keep_of hb9 hgT
      replace hb10 := keep_of hb10 hgT
      by_cases hin : i < n
      · have hin' : (i : Int) < (n : Int) := by omega
        obtain ⟨eP, eD⟩ := hPl.out hin
        rw [eP, eD] at ho2
        clear hPl hPr hpa2 eP eD hpw
        go_upto_region 11 with fail
        obtain ⟨gp, cp, rfl, -, -, hrp⟩ := ho2.slice (by omega)
        obtain ⟨gw, cw, rfl, -, -, hrw⟩ := ho13.slice (by omega)
        rw [show 0 + d + 1 = d + 1 by omega]
        have hlen := ho13.len
        have hsame := fun w' (h : wT.grownBy w' none) => SameP_any (some ⟨gp, 0, none⟩) (some ⟨gw, 0, none⟩) (d + 1) cp cw ([] ++ P ++ Y) (by have := hd.out; omega) (by rw [hlen]; omega) w' (hrp.kept h) (hrw.kept h) (fun _ => ⟨_, rfl⟩) (fun _ => ⟨_, rfl⟩)
        clear ho2 ho13 hrp hrw hlen
        replace hroL := fun w' (h : wT.grownBy w' none) => hroL w' (grown_same hgB h)
        replace hcz := fun w' (h : wT.grownBy w' none) => hcz w' (grown_same hgB h)
        replace hrpl := fun w' (h : wT.grownBy w' none) => hrpl w' (grown_same hgB h)
        replace hro3 := fun b w' (h : wT.grownBy w' none) => hro3 b w' (grown_same hgB h)
        replace hro0 := fun w' (h : wT.grownBy w' none) => hro0 w' (grown_same hgB h)
        have hk := hk.kept hgB
        have hgW := grown_same hgW hgB
        have hro1 := hro3
        clear hro3
        refine wp_region_gc (al := pdAl) 34 (N := 106) (S := pdS) (die := pdDie) (own := pdOwn) (F := pdF A N c b9 b10 gp cp gw cw d pc pA pl ad X Y R E F0) (by kernel_rfl) (Nat.le_of_ble_eq_true (by kernel_rfl)) (fun h => absurd (show 34 < 34 from h) (Nat.lt_irrefl _)) (fun h => absurd (show 34 < 34 from h) (Nat.lt_irrefl _)) (by kernel_rfl) (by kernel_rfl) (Nat.le_of_ble_eq_true (by kernel_rfl)) (pdF_lasts A N c b9 b10 gp cp gw cw d pc pA pl ad X Y R E F0) ?_ ?_
        · intro i o L' a w K hi ho hg hLi hout hpre houter hitem hap' h1 h2 h3 h4
          have hcases : i = 0 ∨ i = 1 ∨ i = 2 ∨ i = 3 ∨ i = 4 ∨ i = 5 ∨ i = 6 ∨ i = 7 ∨ i = 8 ∨ i = 9 ∨ i = 10 ∨ i = 11 ∨ i = 12 ∨ i = 13 ∨ i = 14 ∨ i = 15 ∨ i = 16 ∨ i = 17 ∨ i = 18 ∨ i = 19 ∨ i = 20 ∨ i = 21 ∨ i = 22 ∨ i = 23 ∨ i = 24 ∨ i = 25 ∨ i = 26 ∨ i = 27 ∨ i = 28 ∨ i = 29 ∨ i = 30 ∨ i = 31 ∨ i = 32 ∨ i = 33 := by omega
          rcases hcases with rfl | rfl | rfl | rfl | rfl | rfl | rfl | rfl | rfl | rfl | rfl | rfl | rfl | rfl | rfl | rfl | rfl | rfl | rfl | rfl | rfl | rfl | rfl | rfl | rfl | rfl | rfl | rfl | rfl | rfl | rfl | rfl | rfl | rfl
          · cases (show some _ = some o from ho)
            refine .inl ?_
            exact ⟨rfl, wp_move rfl (h1 ⟨_, rfl⟩ _ _ (grown_refl _ none) (houter _ rfl) (by rw [houter _ rfl]; exact nobl rfl) (by rw [houter _ rfl]; exact FreshB.none rfl))⟩
          · cases (show some _ = some o from ho)
            refine .inl ?_
            have x73 : a.eval (.tmp 73) = .slice A N c := hitem 0 (by decide) ⟨hpre 0 rfl, hout _ (by decide)⟩
            refine ⟨rfl, wp_call rfl Tryd.func19 (by kernel_rfl) (by kernel_rfl) (args := #[.slice A N c]) (by simp [x73]) ((hroL w hg).mono ?_)⟩
            rintro e w' ⟨rfl, hg'⟩
            exact ⟨_, rfl, h1 ⟨_, rfl⟩ _ _ hg' rfl (nobl (blocks_bytes _)) (FreshB.none (blocks_bytes _))⟩
          · cases (show some _ = some o from ho)
            refine .inl ?_
            exact ⟨rfl, wp_slice_all rfl (houter 9 rfl) (sl_arr _ _ _) (h1 ⟨_, rfl⟩ _ _ (grown_refl _ none) rfl (nobl rfl) (FreshB.none rfl))⟩
          · cases (show some _ = some o from ho)
            refine .inl ?_
            exact ⟨rfl, wp_slice_all rfl (houter 10 rfl) (sl_arr _ _ _) (h1 ⟨_, rfl⟩ _ _ (grown_refl _ none) rfl (nobl rfl) (FreshB.none rfl))⟩
          · cases (show some _ = some o from ho)
            refine .inl ?_
            exact ⟨rfl, wp_lit2 rfl ((show a.eval (.tmp 75) = .slice (some ⟨b9, 0, none⟩) 32 32 from hitem 2 (by decide) ⟨hpre 2 rfl, hout _ (by decide)⟩).trans (pv_hp hXl.out)) ((show a.eval (.tmp 76) = .slice (some ⟨b10, 0, none⟩) 32 32 from hitem 3 (by decide) ⟨hpre 3 rfl, hout _ (by decide)⟩).trans (pv_hp hYl.out)) (lit_p2 _ _ _) (h1 ⟨_, rfl⟩ _ _ (grown_alloc (grown_refl _ _) _) ⟨_, rfl, rd_row (cs := [_, _]) (heap_alloc_new _ _)⟩ (new_lt _ _) (FreshB.new (new_ge _)))⟩
          · cases (show some _ = some o from ho)
            refine .inl ?_
            obtain ⟨b, e1, h4'⟩ := hitem 4 (by decide) ⟨hpre 4 rfl, hout _ (by decide)⟩
            exact ⟨rfl, wp_rtag (t := 1) (ps := [hp b9 X, hp b10 Y]) (l := X ++ Y) rfl rfl e1 (rd_hp2 h4' (keep_of hb9 hg) (keep_of hb10 hg)) rfl (cat_hp2 _ _ _ _) (by rw [List.length_append, hXl.out, hYl.out]; omega) (by simp) (fun w' hg' => by rw [← hR.out]; exact h1 ⟨_, rfl⟩ _ _ hg' rfl (nobl (blocks_bytes _)) (FreshB.none (blocks_bytes _)))⟩
          · cases (show some _ = some o from ho)
            refine .inl ?_
            exact ⟨rfl, wp_bin rfl (hitem 1 (by decide) ⟨hpre 1 rfl, hout _ (by decide)⟩) (hitem 5 (by decide) ⟨hpre 5 rfl, hout _ (by decide)⟩) (guard_hash _ _ _ _ _) (eqlH_same R hRl.out _) (h1 ⟨_, rfl⟩ _ _ (grown_refl _ none) rfl (nobl rfl) (FreshB.none rfl))⟩
          · cases (show some _ = some o from ho)
            refine .inl ?_
            have hx := hitem 6 (by decide) ⟨hpre 6 rfl, hout _ (by decide)⟩
            exact ⟨rfl, wp_move rfl (h1 ⟨_, rfl⟩ _ _ (grown_refl _ none) hx (by rw [show a.eval (.tmp 79) = .bool true from hx]; exact nobl rfl) (by rw [show a.eval (.tmp 79) = .bool true from hx]; exact FreshB.none rfl))⟩
          · cases (show some _ = some o from ho)
            refine .inl ?_
            exact ⟨wanted_of (j := 7) rfl rfl (hitem 7 (by decide) ⟨hpre 7 rfl, hout _ (by decide)⟩), wp_move rfl (h1 ⟨_, rfl⟩ _ _ (grown_refl _ none) (houter _ rfl) (by rw [houter _ rfl]; exact nobl rfl) (by rw [houter _ rfl]; exact FreshB.none rfl))⟩
          · cases (show some _ = some o from ho)
            refine .inl ?_
            exact ⟨wanted_of (j := 7) rfl rfl (hitem 7 (by decide) ⟨hpre 7 rfl, hout _ (by decide)⟩), wp_move rfl (h1 ⟨_, rfl⟩ _ _ (grown_refl _ none) (houter _ rfl) (by rw [houter _ rfl]; exact nobl rfl) (by rw [houter _ rfl]; exact FreshB.none rfl))⟩
          · cases (show some _ = some o from ho)
            refine .inl ?_
            have x81 : a.eval (.tmp 81) = .slice (some ⟨gp, 0, none⟩) (d + 1) cp := hitem 8 (by decide) ⟨hpre 8 rfl, hout _ (by decide)⟩
            have x82 : a.eval (.tmp 82) = .slice (some ⟨gw, 0, none⟩) (d + 1) cw := hitem 9 (by decide) ⟨hpre 9 rfl, hout _ (by decide)⟩
            refine ⟨wanted_of (j := 7) rfl rfl (hitem 7 (by decide) ⟨hpre 7 rfl, hout _ (by decide)⟩), wp_call rfl Tryd.func25 (by kernel_rfl) (by kernel_rfl) (args := #[.slice (some ⟨gp, 0, none⟩) (d + 1) cp, .slice (some ⟨gw, 0, none⟩) (d + 1) cw]) (by simp [x81, x82]) ((hsame w hg).mono ?_)⟩
            rintro e w' ⟨rfl, hg'⟩
            exact ⟨_, rfl, h1 ⟨_, rfl⟩ _ _ hg' rfl (nobl rfl) (FreshB.none rfl)⟩
          · cases (show some _ = some o from ho)
            refine .inl ?_
            have hc := hitem 7 (by decide) ⟨hpre 7 rfl, hout _ (by decide)⟩
            have hx := hitem 10 (by decide) ⟨hpre 10 rfl, hout _ (by decide)⟩
            exact ⟨rfl, wp_pick rfl hc (h1 ⟨_, rfl⟩ _ _ (grown_refl _ none) hx (by rw [show a.eval (.tmp 83) = .bool true from hx]; exact nobl rfl) (by rw [show a.eval (.tmp 83) = .bool true from hx]; exact FreshB.none rfl))⟩
          · cases (show some _ = some o from ho)
            refine .inl ?_
            have hx := hitem 11 (by decide) ⟨hpre 11 rfl, hout _ (by decide)⟩
            exact ⟨rfl, wp_move rfl (h1 ⟨_, rfl⟩ _ _ (grown_refl _ none) hx (by rw [show a.eval (.tmp 84) = .bool true from hx]; exact nobl rfl) (by rw [show a.eval (.tmp 84) = .bool true from hx]; exact FreshB.none rfl))⟩
          · cases (show some _ = some o from ho)
            refine .inl ?_
            exact ⟨wanted_of (j := 12) rfl rfl (hitem 12 (by decide) ⟨hpre 12 rfl, hout _ (by decide)⟩), wp_move rfl (h1 ⟨_, rfl⟩ _ _ (grown_refl _ none) (houter _ rfl) (by rw [houter _ rfl]; exact nobl rfl) (by rw [houter _ rfl]; exact FreshB.none rfl))⟩
          · cases (show some _ = some o from ho)
            refine .inl ?_
            exact ⟨wanted_of (j := 12) rfl rfl (hitem 12 (by decide) ⟨hpre 12 rfl, hout _ (by decide)⟩), wp_index rfl (hitem 13 (by decide) ⟨hpre 13 rfl, hout _ (by decide)⟩) rfl (hidx _) (h1 ⟨_, rfl⟩ _ _ (grown_refl _ none) rfl (nobl rfl) (FreshB.none rfl))⟩
          · cases (show some _ = some o from ho)
            refine .inl ?_
            exact ⟨wanted_of (j := 12) rfl rfl (hitem 12 (by decide) ⟨hpre 12 rfl, hout _ (by decide)⟩), wp_loadC rfl (hitem 14 (by decide) ⟨hpre 14 rfl, hout _ (by decide)⟩) (load_cell (hcz w hg) Tryd.underlying24 rfl) (h1 ⟨_, rfl⟩ _ _ (grown_refl _ none) rfl (nobl rfl) (FreshB.none rfl))⟩
          · cases (show some _ = some o from ho)
            refine .inl ?_
            exact ⟨wanted_of (j := 12) rfl rfl (hitem 12 (by decide) ⟨hpre 12 rfl, hout _ (by decide)⟩), wp_lit1 rfl (hitem 15 (by decide) ⟨hpre 15 rfl, hout _ (by decide)⟩) (lit_p1 _ _) (h1 ⟨_, rfl⟩ _ _ (grown_alloc (grown_refl _ _) _) ⟨_, rfl, rd_row (cs := [_]) (heap_alloc_new _ _)⟩ (new_lt _ _) (FreshB.new (new_ge _)))⟩
          · cases (show some _ = some o from ho)
            refine .inl ?_
            obtain ⟨b, e1, h4'⟩ := hitem 16 (by decide) ⟨hpre 16 rfl, hout _ (by decide)⟩
            replace e1 : a.eval (.tmp 89) = _ := e1
            refine ⟨wanted_of (j := 12) rfl rfl (hitem 12 (by decide) ⟨hpre 12 rfl, hout _ (by decide)⟩), wp_call rfl Tryd.func19 (by kernel_rfl) (by kernel_rfl) (args := #[.slice (some ⟨b, 0, none⟩) 1 1]) (by simp [e1]) ((hro1 b w hg h4').mono ?_)⟩
            rintro e w' ⟨rfl, hg'⟩
            exact ⟨_, rfl, h1 ⟨_, rfl⟩ _ _ hg' rfl (nobl (blocks_bytes _)) (FreshB.none (blocks_bytes _))⟩
          · cases (show some _ = some o from ho)
            refine .inl ?_
            exact ⟨wanted_of (j := 12) rfl rfl (hitem 12 (by decide) ⟨hpre 12 rfl, hout _ (by decide)⟩), wp_move rfl (h1 ⟨_, rfl⟩ _ _ (grown_refl _ none) (houter _ rfl) (by rw [houter _ rfl]; exact nobl rfl) (by rw [houter _ rfl]; exact FreshB.none rfl))⟩
          · cases (show some _ = some o from ho)
            refine .inl ?_
            exact ⟨wanted_of (j := 12) rfl rfl (hitem 12 (by decide) ⟨hpre 12 rfl, hout _ (by decide)⟩), wp_index rfl (hitem 18 (by decide) ⟨hpre 18 rfl, hout _ (by decide)⟩) rfl (hidx _) (h1 ⟨_, rfl⟩ _ _ (grown_refl _ none) rfl (nobl rfl) (FreshB.none rfl))⟩
          · cases (show some _ = some o from ho)
            refine .inl ?_
            exact ⟨wanted_of (j := 12) rfl rfl (hitem 12 (by decide) ⟨hpre 12 rfl, hout _ (by decide)⟩), wp_loadC rfl (hitem 19 (by decide) ⟨hpre 19 rfl, hout _ (by decide)⟩) (load_cell (hcz w hg) Tryd.underlying24 rfl) (h1 ⟨_, rfl⟩ _ _ (grown_refl _ none) rfl (nobl rfl) (FreshB.none rfl))⟩
          · cases (show some _ = some o from ho)
            refine .inl ?_
            exact ⟨wanted_of (j := 12) rfl rfl (hitem 12 (by decide) ⟨hpre 12 rfl, hout _ (by decide)⟩), wp_lit1 rfl (hitem 20 (by decide) ⟨hpre 20 rfl, hout _ (by decide)⟩) (lit_p1 _ _) (h1 ⟨_, rfl⟩ _ _ (grown_alloc (grown_refl _ _) _) ⟨_, rfl, rd_row (cs := [_]) (heap_alloc_new _ _)⟩ (new_lt _ _) (FreshB.new (new_ge _)))⟩
          · cases (show some _ = some o from ho)
            refine .inl ?_
            obtain ⟨b, e1, h4'⟩ := hitem 21 (by decide) ⟨hpre 21 rfl, hout _ (by decide)⟩
            exact ⟨wanted_of (j := 12) rfl rfl (hitem 12 (by decide) ⟨hpre 12 rfl, hout _ (by decide)⟩), wp_rtag (t := 0) (ps := [(pA, pl, pc)]) (l := pl) rfl rfl e1 (rdP_kept1 h4' (hrpl w hg)) rfl (by simp [catP]) (by omega) (by simp) (fun w' hg' => by rw [← hE.out]; exact h1 ⟨_, rfl⟩ _ _ hg' rfl (nobl (blocks_bytes _)) (FreshB.none (blocks_bytes _)))⟩
          · cases (show some _ = some o from ho)
            refine .inl ?_
            exact ⟨wanted_of (j := 12) rfl rfl (hitem 12 (by decide) ⟨hpre 12 rfl, hout _ (by decide)⟩), wp_bin rfl (hitem 17 (by decide) ⟨hpre 17 rfl, hout _ (by decide)⟩) (hitem 22 (by decide) ⟨hpre 22 rfl, hout _ (by decide)⟩) (guard_hash _ _ _ _ _) (eqlH_same E hEl.out _) (h1 ⟨_, rfl⟩ _ _ (grown_refl _ none) rfl (nobl rfl) (FreshB.none rfl))⟩
          · cases (show some _ = some o from ho)
            refine .inl ?_
            have hc := hitem 12 (by decide) ⟨hpre 12 rfl, hout _ (by decide)⟩
            have hx := hitem 23 (by decide) ⟨hpre 23 rfl, hout _ (by decide)⟩
            exact ⟨rfl, wp_pick rfl hc (h1 ⟨_, rfl⟩ _ _ (grown_refl _ none) hx (by rw [show a.eval (.tmp 96) = .bool true from hx]; exact nobl rfl) (by rw [show a.eval (.tmp 96) = .bool true from hx]; exact FreshB.none rfl))⟩
          · cases (show some _ = some o from ho)
            refine .inl ?_
            have hx := hitem 24 (by decide) ⟨hpre 24 rfl, hout _ (by decide)⟩
            exact ⟨rfl, wp_move rfl (h1 ⟨_, rfl⟩ _ _ (grown_refl _ none) hx (by rw [show a.eval (.tmp 97) = .bool true from hx]; exact nobl rfl) (by rw [show a.eval (.tmp 97) = .bool true from hx]; exact FreshB.none rfl))⟩
          · cases (show some _ = some o from ho)
            refine .inl ?_
            refine ⟨wanted_of (j := 25) rfl rfl (hitem 25 (by decide) ⟨hpre 25 rfl, hout _ (by decide)⟩), wp_call rfl Tryd.func19 (by kernel_rfl) (by kernel_rfl) (args := #[.slice none 0 0]) (by simp [eval_const]) ((hro0 w hg).mono ?_)⟩
            rintro e w' ⟨rfl, hg'⟩
            exact ⟨_, rfl, h1 ⟨_, rfl⟩ _ _ hg' rfl (nobl (blocks_bytes _)) (FreshB.none (blocks_bytes _))⟩
          · cases (show some _ = some o from ho)
            refine .inl ?_
            refine ⟨wanted_of (j := 25) rfl rfl (hitem 25 (by decide) ⟨hpre 25 rfl, hout _ (by decide)⟩), wp_call rfl Tryd.func26 (by kernel_rfl) (by kernel_rfl) (args := #[.int .u8 2, .slice none 0 0]) (by simp [eval_const]) ((hrt0 w).mono ?_)⟩
            rintro e w' ⟨rfl, hg'⟩
            exact ⟨_, rfl, h1 ⟨_, rfl⟩ _ _ hg' rfl (nobl (blocks_bytes _)) (FreshB.none (blocks_bytes _))⟩
          · cases (show some _ = some o from ho)
            refine .inl ?_
            exact ⟨wanted_of (j := 25) rfl rfl (hitem 25 (by decide) ⟨hpre 25 rfl, hout _ (by decide)⟩), wp_bin rfl (hitem 26 (by decide) ⟨hpre 26 rfl, hout _ (by decide)⟩) (hitem 27 (by decide) ⟨hpre 27 rfl, hout _ (by decide)⟩) (guard_hash _ _ _ _ _) (eqlH_same F0 hFl.out _) (h1 ⟨_, rfl⟩ _ _ (grown_refl _ none) rfl (nobl rfl) (FreshB.none rfl))⟩
          · cases (show some _ = some o from ho)
            refine .inl ?_
            have hc := hitem 25 (by decide) ⟨hpre 25 rfl, hout _ (by decide)⟩
            have hx := hitem 28 (by decide) ⟨hpre 28 rfl, hout _ (by decide)⟩
            exact ⟨rfl, wp_pick rfl hc (h1 ⟨_, rfl⟩ _ _ (grown_refl _ none) hx (by rw [show a.eval (.tmp 101) = .bool true from hx]; exact nobl rfl) (by rw [show a.eval (.tmp 101) = .bool true from hx]; exact FreshB.none rfl))⟩
          · cases (show some _ = some o from ho)
            refine .inl ?_
            have hx := hitem 29 (by decide) ⟨hpre 29 rfl, hout _ (by decide)⟩
            exact ⟨rfl, wp_move rfl (h1 ⟨_, rfl⟩ _ _ (grown_refl _ none) hx (by rw [show a.eval (.tmp 102) = .bool true from hx]; exact nobl rfl) (by rw [show a.eval (.tmp 102) = .bool true from hx]; exact FreshB.none rfl))⟩
          · cases (show some _ = some o from ho)
            refine .inl ?_
            refine ⟨wanted_of (j := 30) rfl rfl (hitem 30 (by decide) ⟨hpre 30 rfl, hout _ (by decide)⟩), wp_call rfl Tryd.func4 (by kernel_rfl) (by kernel_rfl) (args := #[]) (by simp) ((TreeRuns_any w (hk.kept hg)).mono ?_)⟩
            rintro e w' ⟨rfl, hg'⟩
            exact ⟨_, rfl, h1 ⟨_, rfl⟩ _ _ hg' rfl (nobl rfl) (FreshB.none rfl)⟩
          · cases (show some _ = some o from ho)
            refine .inl ?_
            have hc := hitem 30 (by decide) ⟨hpre 30 rfl, hout _ (by decide)⟩
            have hx := hitem 31 (by decide) ⟨hpre 31 rfl, hout _ (by decide)⟩
            exact ⟨rfl, wp_pick rfl hc (h1 ⟨_, rfl⟩ _ _ (grown_refl _ none) hx (by rw [show a.eval (.tmp 104) = .bool true from hx]; exact nobl rfl) (by rw [show a.eval (.tmp 104) = .bool true from hx]; exact FreshB.none rfl))⟩
          · cases (show some _ = some o from ho)
            refine .inl ?_
            have hx := hitem 32 (by decide) ⟨hpre 32 rfl, hout _ (by decide)⟩
            exact ⟨rfl, wp_assign rfl (h1 ⟨_, rfl⟩ _ _ (grown_refl _ none) hx (by rw [show a.eval (.tmp 105) = .bool true from hx]; exact nobl rfl) (by rw [show a.eval (.tmp 105) = .bool true from hx]; exact FreshB.none rfl))⟩
        · intro a wT hgT hend hap ha
          obtain ⟨f, hf⟩ : ∃ f : Nat → Value, f = fun t => a.tmps.getD t undef := ⟨_, rfl⟩
          have s6 : f 6 = .bool true := by rw [hf]; exact (hend 33 (by decide) (by decide)).1
          rw [← hf] at ha
          clear hend hap
          clear hf
          subst ha
          simp only [fill, pdS, Nat.reduceAdd, Nat.reduceBEq, Bool.or_false, Bool.or_true, cond_true, cond_false, List.drop_succ_cons, List.drop_zero, s6]
          clear s6
          go_wp2_with fail
          go_ret
          exact ⟨rfl, grown_same hgW hgT⟩
      · have hin' : ¬ (i : Int) < (n : Int) := by omega
        obtain ⟨eP, eD⟩ := hPr.out hin
        rw [eP, eD] at ho2
        clear hPl hPr ho13 eP eD hpw hd hD1
        obtain ⟨P, hP⟩ : ∃ P, P = (pathL (leavesOf (ps.drop n)) i2).flatten := ⟨_, rfl⟩
        obtain ⟨d, hdd⟩ : ∃ d, d = (pathL (leavesOf (ps.drop n)) i2).length := ⟨_, rfl⟩
        rw [← hP, ← hdd] at hpa2 ho2
        rw [← hdd] at hD2
        clear hP hdd
        have hd := hD2
        have hsub := fun w' => sub_nat i n (by omega) (by omega) w'
        rw [← hi2'.out] at hsub
        have hpw := fun w' (h : wT.grownBy w' none) => hpa2 w' (grown_same hgB h)
        clear hpa2
        go_upto_region 10 with fail
        refine wp_region_gb (al := pcAl) 13 (N := 106) (S := pcS) (die := pcDie) (own := pcOwn) (F := pcF A A2 N n m c c2 i i2 d P X) (by kernel_rfl) (Nat.le_of_ble_eq_true (by kernel_rfl)) (fun h => absurd (show 13 < 13 from h) (Nat.lt_irrefl _)) (fun h => absurd (show 13 < 13 from h) (Nat.lt_irrefl _)) (by kernel_rfl) (by kernel_rfl) (Nat.le_of_ble_eq_true (by kernel_rfl)) (pcF_lasts A A2 N n m c c2 i i2 d P X) ?_ ?_
        · intro i o L' a w K hi ho hg hLi hout hpre houter hitem h1 h2 h3
          have hcases : i = 0 ∨ i = 1 ∨ i = 2 ∨ i = 3 ∨ i = 4 ∨ i = 5 ∨ i = 6 ∨ i = 7 ∨ i = 8 ∨ i = 9 ∨ i = 10 ∨ i = 11 ∨ i = 12 := by omega
          rcases hcases with rfl | rfl | rfl | rfl | rfl | rfl | rfl | rfl | rfl | rfl | rfl | rfl | rfl
          · cases (show some _ = some o from ho)
            exact ⟨rfl, wp_lit0 rfl (lit_noneH _) (h1 ⟨_, rfl⟩ _ _ (grown_alloc (grown_refl _ _) _) (ownH_new _) (new_lt _ _) (FreshB.new (new_ge _)))⟩
          · cases (show some _ = some o from ho)
            exact ⟨rfl, wp_move rfl (h1 ⟨_, rfl⟩ _ _ (grown_refl _ none) (houter _ rfl) (by rw [houter _ rfl]; exact nobl rfl) (by rw [houter _ rfl]; exact FreshB.none rfl))⟩
          · cases (show some _ = some o from ho)
            exact ⟨rfl, wp_move rfl (h1 ⟨_, rfl⟩ _ _ (grown_refl _ none) (houter _ rfl) (by rw [houter _ rfl]; exact nobl rfl) (by rw [houter _ rfl]; exact FreshB.none rfl))⟩
          · cases (show some _ = some o from ho)
            exact ⟨rfl, wp_slice_lo rfl (hitem 1 (by decide) ⟨hpre 1 rfl, hout _ (by decide)⟩) (hitem 2 (by decide) ⟨hpre 2 rfl, hout _ (by decide)⟩) (hlo _) (h1 ⟨_, rfl⟩ _ _ (grown_refl _ none) rfl (nobl rfl) (FreshB.none rfl))⟩
          · cases (show some _ = some o from ho)
            exact ⟨rfl, wp_move rfl (h1 ⟨_, rfl⟩ _ _ (grown_refl _ none) (houter _ rfl) (by rw [houter _ rfl]; exact nobl rfl) (by rw [houter _ rfl]; exact FreshB.none rfl))⟩
          · cases (show some _ = some o from ho)
            exact ⟨rfl, wp_move rfl (h1 ⟨_, rfl⟩ _ _ (grown_refl _ none) (houter _ rfl) (by rw [houter _ rfl]; exact nobl rfl) (by rw [houter _ rfl]; exact FreshB.none rfl))⟩
          · cases (show some _ = some o from ho)
            exact ⟨rfl, wp_bin rfl (hitem 4 (by decide) ⟨hpre 4 rfl, hout _ (by decide)⟩) (hitem 5 (by decide) ⟨hpre 5 rfl, hout _ (by decide)⟩) (guard_subI _ _ _ _ _) (hsub _) (h1 ⟨_, rfl⟩ _ _ (grown_refl _ none) rfl (nobl rfl) (FreshB.none rfl))⟩
          · cases (show some _ = some o from ho)
            have x64 : a.eval (.tmp 64) = .slice A2 m c2 := hitem 3 (by decide) ⟨hpre 3 rfl, hout _ (by decide)⟩
            have x67 : a.eval (.tmp 67) = .int .i64 (i2 : Int) := hitem 6 (by decide) ⟨hpre 6 rfl, hout _ (by decide)⟩
            refine ⟨rfl, wp_call rfl Tryd.func16 (by kernel_rfl) (by kernel_rfl) (args := #[.slice A2 m c2, .int .i64 (i2 : Int)]) (by simp [x64, x67]) ((hpw w hg).mono ?_)⟩
            rintro e w' ⟨v, rfl, hf', hg', hn', ht'⟩
            exact ⟨_, rfl, h1 ⟨_, rfl⟩ _ _ hg' hf' ht' (FreshB.new hn')⟩
          · cases (show some _ = some o from ho)
            have hu := hitem 0 (by decide) ⟨hpre 0 rfl, hLi⟩
            exact ⟨rfl, wp_appHH rfl rfl hu rfl (hitem 7 (by decide) ⟨hpre 7 rfl, hout _ (by decide)⟩) (by have := hd.out; omega) fun v w' hv hw => h2 ⟨_, rfl⟩ 0 v w' _ (by decide) ⟨hpre 0 rfl, hLi⟩ rfl rfl hw.1 (ownH_mem hu) hv (ownH_lt hv) (grewH_blocks hu hv hw)⟩
          · cases (show some _ = some o from ho)
            exact ⟨rfl, wp_load_row 23 _ rfl _ (houter _ rfl) _ (X.map bv).toArray (0, 0) _ (keep_of hb9 hg) Tryd.underlying23 rfl (hashV_size _ hXl.out) (h1 ⟨_, rfl⟩ _ _ (grown_refl _ none) rfl (nobl (blocks_bytes _)) (FreshB.none (blocks_bytes _)))⟩
          · cases (show some _ = some o from ho)
            exact ⟨rfl, wp_lit1 rfl (hitem 9 (by decide) ⟨hpre 9 rfl, hout _ (by decide)⟩) (lit_1h X hXl.out _) (h1 ⟨_, rfl⟩ _ _ (grown_alloc (grown_refl _ _) _) ⟨_, rfl, rd_row (heap_alloc_new _ _)⟩ (new_lt _ _) (FreshB.new (new_ge _)))⟩
          · cases (show some _ = some o from ho)
            have hu := hitem 8 (by decide) ⟨hpre 8 rfl, hLi⟩
            obtain ⟨b, e1, hb⟩ := hitem 10 (by decide) ⟨hpre 10 rfl, hout _ (by decide)⟩
            exact ⟨rfl, wp_appH rfl rfl hu e1 hb (by rw [hXl.out]) (by omega) (by have := hd.out; omega) fun v w' hv hw => h2 ⟨_, rfl⟩ 8 v w' _ (by decide) ⟨hpre 8 rfl, hLi⟩ rfl rfl hw.1 (ownH_mem hu) hv (ownH_lt hv) (grewH_blocks hu hv hw)⟩
          · cases (show some _ = some o from ho)
            have hu := hitem 11 (by decide) ⟨hpre 11 rfl, hLi⟩
            exact ⟨rfl, wp_assign rfl (h2 ⟨_, rfl⟩ 11 _ _ none (by decide) ⟨hpre 11 rfl, hLi⟩ rfl rfl (grown_refl _ none) (fun g e => by cases e) hu (ownH_lt hu) (fun g e => .inr (.inl e)))⟩
        · intro a wT hgT hend hap ha
          obtain ⟨f, hf⟩ : ∃ f : Nat → Value, f = fun t => a.tmps.getD t undef := ⟨_, rfl⟩
          obtain ⟨v13, s13, ho13⟩ : ∃ v, f 13 = v ∧ OwnHs wT v ([] ++ P ++ X) (0 + d + 1) := ⟨_, congrFun hf 13, (hend 12 (by decide) (by decide)).1⟩
          rw [← hf] at ha
          clear hend hap
          clear hf
          subst ha
          simp only [fill, pcS, Nat.reduceAdd, Nat.reduceBEq, Bool.or_false, Bool.or_true, cond_true, cond_false, List.drop_succ_cons, List.drop_zero, s13]
          clear s13
          replace ho2 := ho2.kept hgT
          replace hb9 := keep_of hb9 hgT
          replace hb10 := keep_of hb10 hgT
          replace hgB := grown_same hgB hgT
          clear hpw
          go_upto_region 11 with fail
          obtain ⟨gp, cp, rfl, -, -, hrp⟩ := ho2.slice (by omega)
          obtain ⟨gw, cw, rfl, -, -, hrw⟩ := ho13.slice (by omega)
          rw [show 0 + d + 1 = d + 1 by omega]
          have hlen := ho13.len
          have hsame := fun w' (h : wT.grownBy w' none) => SameP_any (some ⟨gp, 0, none⟩) (some ⟨gw, 0, none⟩) (d + 1) cp cw ([] ++ P ++ X) (by have := hd.out; omega) (by rw [hlen]; omega) w' (hrp.kept h) (hrw.kept h) (fun _ => ⟨_, rfl⟩) (fun _ => ⟨_, rfl⟩)
          clear ho2 ho13 hrp hrw hlen
          replace hroL := fun w' (h : wT.grownBy w' none) => hroL w' (grown_same hgB h)
          replace hcz := fun w' (h : wT.grownBy w' none) => hcz w' (grown_same hgB h)
          replace hrpl := fun w' (h : wT.grownBy w' none) => hrpl w' (grown_same hgB h)
          replace hro3 := fun b w' (h : wT.grownBy w' none) => hro3 b w' (grown_same hgB h)
          replace hro0 := fun w' (h : wT.grownBy w' none) => hro0 w' (grown_same hgB h)
          have hk := hk.kept hgB
          have hgW := grown_same hgW hgB
          have hro1 := hro3
          clear hro3
          refine wp_region_gc (al := pdAl) 34 (N := 106) (S := pdS) (die := pdDie) (own := pdOwn) (F := pdF A N c b9 b10 gp cp gw cw d pc pA pl ad X Y R E F0) (by kernel_rfl) (Nat.le_of_ble_eq_true (by kernel_rfl)) (fun h => absurd (show 34 < 34 from h) (Nat.lt_irrefl _)) (fun h => absurd (show 34 < 34 from h) (Nat.lt_irrefl _)) (by kernel_rfl) (by kernel_rfl) (Nat.le_of_ble_eq_true (by kernel_rfl)) (pdF_lasts A N c b9 b10 gp cp gw cw d pc pA pl ad X Y R E F0) ?_ ?_
          · intro i o L' a w K hi ho hg hLi hout hpre houter hitem hap' h1 h2 h3 h4
            have hcases : i = 0 ∨ i = 1 ∨ i = 2 ∨ i = 3 ∨ i = 4 ∨ i = 5 ∨ i = 6 ∨ i = 7 ∨ i = 8 ∨ i = 9 ∨ i = 10 ∨ i = 11 ∨ i = 12 ∨ i = 13 ∨ i = 14 ∨ i = 15 ∨ i = 16 ∨ i = 17 ∨ i = 18 ∨ i = 19 ∨ i = 20 ∨ i = 21 ∨ i = 22 ∨ i = 23 ∨ i = 24 ∨ i = 25 ∨ i = 26 ∨ i = 27 ∨ i = 28 ∨ i = 29 ∨ i = 30 ∨ i = 31 ∨ i = 32 ∨ i = 33 := by omega
            rcases hcases with rfl | rfl | rfl | rfl | rfl | rfl | rfl | rfl | rfl | rfl | rfl | rfl | rfl | rfl | rfl | rfl | rfl | rfl | rfl | rfl | rfl | rfl | rfl | rfl | rfl | rfl | rfl | rfl | rfl | rfl | rfl | rfl | rfl | rfl
            · cases (show some _ = some o from ho)
              refine .inl ?_
              exact ⟨rfl, wp_move rfl (h1 ⟨_, rfl⟩ _ _ (grown_refl _ none) (houter _ rfl) (by rw [houter _ rfl]; exact nobl rfl) (by rw [houter _ rfl]; exact FreshB.none rfl))⟩
            · cases (show some _ = some o from ho)
              refine .inl ?_
              have x73 : a.eval (.tmp 73) = .slice A N c := hitem 0 (by decide) ⟨hpre 0 rfl, hout _ (by decide)⟩
              refine ⟨rfl, wp_call rfl Tryd.func19 (by kernel_rfl) (by kernel_rfl) (args := #[.slice A N c]) (by simp [x73]) ((hroL w hg).mono ?_)⟩
              rintro e w' ⟨rfl, hg'⟩
              exact ⟨_, rfl, h1 ⟨_, rfl⟩ _ _ hg' rfl (nobl (blocks_bytes _)) (FreshB.none (blocks_bytes _))⟩
            · cases (show some _ = some o from ho)
              refine .inl ?_
              exact ⟨rfl, wp_slice_all rfl (houter 9 rfl) (sl_arr _ _ _) (h1 ⟨_, rfl⟩ _ _ (grown_refl _ none) rfl (nobl rfl) (FreshB.none rfl))⟩
            · cases (show some _ = some o from ho)
              refine .inl ?_
              exact ⟨rfl, wp_slice_all rfl (houter 10 rfl) (sl_arr _ _ _) (h1 ⟨_, rfl⟩ _ _ (grown_refl _ none) rfl (nobl rfl) (FreshB.none rfl))⟩
            · cases (show some _ = some o from ho)
              refine .inl ?_
              exact ⟨rfl, wp_lit2 rfl ((show a.eval (.tmp 75) = .slice (some ⟨b9, 0, none⟩) 32 32 from hitem 2 (by decide) ⟨hpre 2 rfl, hout _ (by decide)⟩).trans (pv_hp hXl.out)) ((show a.eval (.tmp 76) = .slice (some ⟨b10, 0, none⟩) 32 32 from hitem 3 (by decide) ⟨hpre 3 rfl, hout _ (by decide)⟩).trans (pv_hp hYl.out)) (lit_p2 _ _ _) (h1 ⟨_, rfl⟩ _ _ (grown_alloc (grown_refl _ _) _) ⟨_, rfl, rd_row (cs := [_, _]) (heap_alloc_new _ _)⟩ (new_lt _ _) (FreshB.new (new_ge _)))⟩
            · cases (show some _ = some o from ho)
              refine .inl ?_
              obtain ⟨b, e1, h4'⟩ := hitem 4 (by decide) ⟨hpre 4 rfl, hout _ (by decide)⟩
              exact ⟨rfl, wp_rtag (t := 1) (ps := [hp b9 X, hp b10 Y]) (l := X ++ Y) rfl rfl e1 (rd_hp2 h4' (keep_of hb9 hg) (keep_of hb10 hg)) rfl (cat_hp2 _ _ _ _) (by rw [List.length_append, hXl.out, hYl.out]; omega) (by simp) (fun w' hg' => by rw [← hR.out]; exact h1 ⟨_, rfl⟩ _ _ hg' rfl (nobl (blocks_bytes _)) (FreshB.none (blocks_bytes _)))⟩
            · cases (show some _ = some o from ho)
              refine .inl ?_
              exact ⟨rfl, wp_bin rfl (hitem 1 (by decide) ⟨hpre 1 rfl, hout _ (by decide)⟩) (hitem 5 (by decide) ⟨hpre 5 rfl, hout _ (by decide)⟩) (guard_hash _ _ _ _ _) (eqlH_same R hRl.out _) (h1 ⟨_, rfl⟩ _ _ (grown_refl _ none) rfl (nobl rfl) (FreshB.none rfl))⟩
            · cases (show some _ = some o from ho)
              refine .inl ?_
              have hx := hitem 6 (by decide) ⟨hpre 6 rfl, hout _ (by decide)⟩
              exact ⟨rfl, wp_move rfl (h1 ⟨_, rfl⟩ _ _ (grown_refl _ none) hx (by rw [show a.eval (.tmp 79) = .bool true from hx]; exact nobl rfl) (by rw [show a.eval (.tmp 79) = .bool true from hx]; exact FreshB.none rfl))⟩
            · cases (show some _ = some o from ho)
              refine .inl ?_
              exact ⟨wanted_of (j := 7) rfl rfl (hitem 7 (by decide) ⟨hpre 7 rfl, hout _ (by decide)⟩), wp_move rfl (h1 ⟨_, rfl⟩ _ _ (grown_refl _ none) (houter _ rfl) (by rw [houter _ rfl]; exact nobl rfl) (by rw [houter _ rfl]; exact FreshB.none rfl))⟩
            · cases (show some _ = some o from ho)
              refine .inl ?_
              exact ⟨wanted_of (j := 7) rfl rfl (hitem 7 (by decide) ⟨hpre 7 rfl, hout _ (by decide)⟩), wp_move rfl (h1 ⟨_, rfl⟩ _ _ (grown_refl _ none) (houter _ rfl) (by rw [houter _ rfl]; exact nobl rfl) (by rw [houter _ rfl]; exact FreshB.none rfl))⟩
            · cases (show some _ = some o from ho)
              refine .inl ?_
              have x81 : a.eval (.tmp 81) = .slice (some ⟨gp, 0, none⟩) (d + 1) cp := hitem 8 (by decide) ⟨hpre 8 rfl, hout _ (by decide)⟩
              have x82 : a.eval (.tmp 82) = .slice (some ⟨gw, 0, none⟩) (d + 1) cw := hitem 9 (by decide) ⟨hpre 9 rfl, hout _ (by decide)⟩
              refine ⟨wanted_of (j := 7) rfl rfl (hitem 7 (by decide) ⟨hpre 7 rfl, hout _ (by decide)⟩), wp_call rfl Tryd.func25 (by kernel_rfl) (by kernel_rfl) (args := #[.slice (some ⟨gp, 0, none⟩) (d + 1) cp, .slice (some ⟨gw, 0, none⟩) (d + 1) cw]) (by simp [x81, x82]) ((hsame w hg).mono ?_)⟩
              rintro e w' ⟨rfl, hg'⟩
              exact ⟨_, rfl, h1 ⟨_, rfl⟩ _ _ hg' rfl (nobl rfl) (FreshB.none rfl)⟩
            · cases (show some _ = some o from ho)
              refine .inl ?_
              have hc := hitem 7 (by decide) ⟨hpre 7 rfl, hout _ (by decide)⟩
              have hx := hitem 10 (by decide) ⟨hpre 10 rfl, hout _ (by decide)⟩
              exact ⟨rfl, wp_pick rfl hc (h1 ⟨_, rfl⟩ _ _ (grown_refl _ none) hx (by rw [show a.eval (.tmp 83) = .bool true from hx]; exact nobl rfl) (by rw [show a.eval (.tmp 83) = .bool true from hx]; exact FreshB.none rfl))⟩
            · cases (show some _ = some o from ho)
              refine .inl ?_
              have hx := hitem 11 (by decide) ⟨hpre 11 rfl, hout _ (by decide)⟩
              exact ⟨rfl, wp_move rfl (h1 ⟨_, rfl⟩ _ _ (grown_refl _ none) hx (by rw [show a.eval (.tmp 84) = .bool true from hx]; exact nobl rfl) (by rw [show a.eval (.tmp 84) = .bool true from hx]; exact FreshB.none rfl))⟩
            · cases (show some _ = some o from ho)
              refine .inl ?_
              exact ⟨wanted_of (j := 12) rfl rfl (hitem 12 (by decide) ⟨hpre 12 rfl, hout _ (by decide)⟩), wp_move rfl (h1 ⟨_, rfl⟩ _ _ (grown_refl _ none) (houter _ rfl) (by rw [houter _ rfl]; exact nobl rfl) (by rw [houter _ rfl]; exact FreshB.none rfl))⟩
            · cases (show some _ = some o from ho)
              refine .inl ?_
              exact ⟨wanted_of (j := 12) rfl rfl (hitem 12 (by decide) ⟨hpre 12 rfl, hout _ (by decide)⟩), wp_index rfl (hitem 13 (by decide) ⟨hpre 13 rfl, hout _ (by decide)⟩) rfl (hidx _) (h1 ⟨_, rfl⟩ _ _ (grown_refl _ none) rfl (nobl rfl) (FreshB.none rfl))⟩
            · cases (show some _ = some o from ho)
              refine .inl ?_
              exact ⟨wanted_of (j := 12) rfl rfl (hitem 12 (by decide) ⟨hpre 12 rfl, hout _ (by decide)⟩), wp_loadC rfl (hitem 14 (by decide) ⟨hpre 14 rfl, hout _ (by decide)⟩) (load_cell (hcz w hg) Tryd.underlying24 rfl) (h1 ⟨_, rfl⟩ _ _ (grown_refl _ none) rfl (nobl rfl) (FreshB.none rfl))⟩
            · cases (show some _ = some o from ho)
              refine .inl ?_
              exact ⟨wanted_of (j := 12) rfl rfl (hitem 12 (by decide) ⟨hpre 12 rfl, hout _ (by decide)⟩), wp_lit1 rfl (hitem 15 (by decide) ⟨hpre 15 rfl, hout _ (by decide)⟩) (lit_p1 _ _) (h1 ⟨_, rfl⟩ _ _ (grown_alloc (grown_refl _ _) _) ⟨_, rfl, rd_row (cs := [_]) (heap_alloc_new _ _)⟩ (new_lt _ _) (FreshB.new (new_ge _)))⟩
            · cases (show some _ = some o from ho)
              refine .inl ?_
              obtain ⟨b, e1, h4'⟩ := hitem 16 (by decide) ⟨hpre 16 rfl, hout _ (by decide)⟩
              replace e1 : a.eval (.tmp 89) = _ := e1
              refine ⟨wanted_of (j := 12) rfl rfl (hitem 12 (by decide) ⟨hpre 12 rfl, hout _ (by decide)⟩), wp_call rfl Tryd.func19 (by kernel_rfl) (by kernel_rfl) (args := #[.slice (some ⟨b, 0, none⟩) 1 1]) (by simp [e1]) ((hro1 b w hg h4').mono ?_)⟩
              rintro e w' ⟨rfl, hg'⟩
              exact ⟨_, rfl, h1 ⟨_, rfl⟩ _ _ hg' rfl (nobl (blocks_bytes _)) (FreshB.none (blocks_bytes _))⟩
            · cases (show some _ = some o from ho)
              refine .inl ?_
              exact ⟨wanted_of (j := 12) rfl rfl (hitem 12 (by decide) ⟨hpre 12 rfl, hout _ (by decide)⟩), wp_move rfl (h1 ⟨_, rfl⟩ _ _ (grown_refl _ none) (houter _ rfl) (by rw [houter _ rfl]; exact nobl rfl) (by rw [houter _ rfl]; exact FreshB.none rfl))⟩
            · cases (show some _ = some o from ho)
              refine .inl ?_
              exact ⟨wanted_of (j := 12) rfl rfl (hitem 12 (by decide) ⟨hpre 12 rfl, hout _ (by decide)⟩), wp_index rfl (hitem 18 (by decide) ⟨hpre 18 rfl, hout _ (by decide)⟩) rfl (hidx _) (h1 ⟨_, rfl⟩ _ _ (grown_refl _ none) rfl (nobl rfl) (FreshB.none rfl))⟩
            · cases (show some _ = some o from ho)
              refine .inl ?_
              exact ⟨wanted_of (j := 12) rfl rfl (hitem 12 (by decide) ⟨hpre 12 rfl, hout _ (by decide)⟩), wp_loadC rfl (hitem 19 (by decide) ⟨hpre 19 rfl, hout _ (by decide)⟩) (load_cell (hcz w hg) Tryd.underlying24 rfl) (h1 ⟨_, rfl⟩ _ _ (grown_refl _ none) rfl (nobl rfl) (FreshB.none rfl))⟩
            · cases (show some _ = some o from ho)
              refine .inl ?_
              exact ⟨wanted_of (j := 12) rfl rfl (hitem 12 (by decide) ⟨hpre 12 rfl, hout _ (by decide)⟩), wp_lit1 rfl (hitem 20 (by decide) ⟨hpre 20 rfl, hout _ (by decide)⟩) (lit_p1 _ _) (h1 ⟨_, rfl⟩ _ _ (grown_alloc (grown_refl _ _) _) ⟨_, rfl, rd_row (cs := [_]) (heap_alloc_new _ _)⟩ (new_lt _ _) (FreshB.new (new_ge _)))⟩
            · cases (show some _ = some o from ho)
              refine .inl ?_
              obtain ⟨b, e1, h4'⟩ := hitem 21 (by decide) ⟨hpre 21 rfl, hout _ (by decide)⟩
              exact ⟨wanted_of (j := 12) rfl rfl (hitem 12 (by decide) ⟨hpre 12 rfl, hout _ (by decide)⟩), wp_rtag (t := 0) (ps := [(pA, pl, pc)]) (l := pl) rfl rfl e1 (rdP_kept1 h4' (hrpl w hg)) rfl (by simp [catP]) (by omega) (by simp) (fun w' hg' => by rw [← hE.out]; exact h1 ⟨_, rfl⟩ _ _ hg' rfl (nobl (blocks_bytes _)) (FreshB.none (blocks_bytes _)))⟩
            · cases (show some _ = some o from ho)
              refine .inl ?_
              exact ⟨wanted_of (j := 12) rfl rfl (hitem 12 (by decide) ⟨hpre 12 rfl, hout _ (by decide)⟩), wp_bin rfl (hitem 17 (by decide) ⟨hpre 17 rfl, hout _ (by decide)⟩) (hitem 22 (by decide) ⟨hpre 22 rfl, hout _ (by decide)⟩) (guard_hash _ _ _ _ _) (eqlH_same E hEl.out _) (h1 ⟨_, rfl⟩ _ _ (grown_refl _ none) rfl (nobl rfl) (FreshB.none rfl))⟩
            · cases (show some _ = some o from ho)
              refine .inl ?_
              have hc := hitem 12 (by decide) ⟨hpre 12 rfl, hout _ (by decide)⟩
              have hx := hitem 23 (by decide) ⟨hpre 23 rfl, hout _ (by decide)⟩
              exact ⟨rfl, wp_pick rfl hc (h1 ⟨_, rfl⟩ _ _ (grown_refl _ none) hx (by rw [show a.eval (.tmp 96) = .bool true from hx]; exact nobl rfl) (by rw [show a.eval (.tmp 96) = .bool true from hx]; exact FreshB.none rfl))⟩
            · cases (show some _ = some o from ho)
              refine .inl ?_
              have hx := hitem 24 (by decide) ⟨hpre 24 rfl, hout _ (by decide)⟩
              exact ⟨rfl, wp_move rfl (h1 ⟨_, rfl⟩ _ _ (grown_refl _ none) hx (by rw [show a.eval (.tmp 97) = .bool true from hx]; exact nobl rfl) (by rw [show a.eval (.tmp 97) = .bool true from hx]; exact FreshB.none rfl))⟩
            · cases (show some _ = some o from ho)
              refine .inl ?_
              refine ⟨wanted_of (j := 25) rfl rfl (hitem 25 (by decide) ⟨hpre 25 rfl, hout _ (by decide)⟩), wp_call rfl Tryd.func19 (by kernel_rfl) (by kernel_rfl) (args := #[.slice none 0 0]) (by simp [eval_const]) ((hro0 w hg).mono ?_)⟩
              rintro e w' ⟨rfl, hg'⟩
              exact ⟨_, rfl, h1 ⟨_, rfl⟩ _ _ hg' rfl (nobl (blocks_bytes _)) (FreshB.none (blocks_bytes _))⟩
            · cases (show some _ = some o from ho)
              refine .inl ?_
              refine ⟨wanted_of (j := 25) rfl rfl (hitem 25 (by decide) ⟨hpre 25 rfl, hout _ (by decide)⟩), wp_call rfl Tryd.func26 (by kernel_rfl) (by kernel_rfl) (args := #[.int .u8 2, .slice none 0 0]) (by simp [eval_const]) ((hrt0 w).mono ?_)⟩
              rintro e w' ⟨rfl, hg'⟩
              exact ⟨_, rfl, h1 ⟨_, rfl⟩ _ _ hg' rfl (nobl (blocks_bytes _)) (FreshB.none (blocks_bytes _))⟩
            · cases (show some _ = some o from ho)
              refine .inl ?_
              exact ⟨wanted_of (j := 25) rfl rfl (hitem 25 (by decide) ⟨hpre 25 rfl, hout _ (by decide)⟩), wp_bin rfl (hitem 26 (by decide) ⟨hpre 26 rfl, hout _ (by decide)⟩) (hitem 27 (by decide) ⟨hpre 27 rfl, hout _ (by decide)⟩) (guard_hash _ _ _ _ _) (eqlH_same F0 hFl.out _) (h1 ⟨_, rfl⟩ _ _ (grown_refl _ none) rfl (nobl rfl) (FreshB.none rfl))⟩
            · cases (show some _ = some o from ho)
              refine .inl ?_
              have hc := hitem 25 (by decide) ⟨hpre 25 rfl, hout _ (by decide)⟩
              have hx := hitem 28 (by decide) ⟨hpre 28 rfl, hout _ (by decide)⟩
              exact ⟨rfl, wp_pick rfl hc (h1 ⟨_, rfl⟩ _ _ (grown_refl _ none) hx (by rw [show a.eval (.tmp 101) = .bool true from hx]; exact nobl rfl) (by rw [show a.eval (.tmp 101) = .bool true from hx]; exact FreshB.none rfl))⟩
            · cases (show some _ = some o from ho)
              refine .inl ?_
              have hx := hitem 29 (by decide) ⟨hpre 29 rfl, hout _ (by decide)⟩
              exact ⟨rfl, wp_move rfl (h1 ⟨_, rfl⟩ _ _ (grown_refl _ none) hx (by rw [show a.eval (.tmp 102) = .bool true from hx]; exact nobl rfl) (by rw [show a.eval (.tmp 102) = .bool true from hx]; exact FreshB.none rfl))⟩
            · cases (show some _ = some o from ho)
              refine .inl ?_
              refine ⟨wanted_of (j := 30) rfl rfl (hitem 30 (by decide) ⟨hpre 30 rfl, hout _ (by decide)⟩), wp_call rfl Tryd.func4 (by kernel_rfl) (by kernel_rfl) (args := #[]) (by simp) ((TreeRuns_any w (hk.kept hg)).mono ?_)⟩
              rintro e w' ⟨rfl, hg'⟩
              exact ⟨_, rfl, h1 ⟨_, rfl⟩ _ _ hg' rfl (nobl rfl) (FreshB.none rfl)⟩
            · cases (show some _ = some o from ho)
              refine .inl ?_
              have hc := hitem 30 (by decide) ⟨hpre 30 rfl, hout _ (by decide)⟩
              have hx := hitem 31 (by decide) ⟨hpre 31 rfl, hout _ (by decide)⟩
              exact ⟨rfl, wp_pick rfl hc (h1 ⟨_, rfl⟩ _ _ (grown_refl _ none) hx (by rw [show a.eval (.tmp 104) = .bool true from hx]; exact nobl rfl) (by rw [show a.eval (.tmp 104) = .bool true from hx]; exact FreshB.none rfl))⟩
            · cases (show some _ = some o from ho)
              refine .inl ?_
              have hx := hitem 32 (by decide) ⟨hpre 32 rfl, hout _ (by decide)⟩
              exact ⟨rfl, wp_assign rfl (h1 ⟨_, rfl⟩ _ _ (grown_refl _ none) hx (by rw [show a.eval (.tmp 105) = .bool true from hx]; exact nobl rfl) (by rw [show a.eval (.tmp 105) = .bool true from hx]; exact FreshB.none rfl))⟩
          · intro a wT hgT hend hap ha
            obtain ⟨f, hf⟩ : ∃ f : Nat → Value, f = fun t => a.tmps.getD t undef := ⟨_, rfl⟩
            have s6 : f 6 = .bool true := by rw [hf]; exact (hend 33 (by decide) (by decide)).1
            rw [← hf] at ha
            clear hend hap
            clear hf
            subst ha
            simp only [fill, pdS, Nat.reduceAdd, Nat.reduceBEq, Bool.or_false, Bool.or_true, cond_true, cond_false, List.drop_succ_cons, List.drop_zero, s6]
            clear s6
            go_wp2_with fail
            go_ret
            exact ⟨rfl, grown_same hgW hgT⟩
end Go.Proofs.YtmfnncfiaaeknaaDoor
