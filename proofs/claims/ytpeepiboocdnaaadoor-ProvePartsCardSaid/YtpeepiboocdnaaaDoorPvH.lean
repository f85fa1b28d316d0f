/- ProveTells. -/
import Derived.Test.YtpeepiboocdnaaaDoorPvC
import Derived.Test.YtpeepiboocdnaaaDoorPvF
import Derived.Test.YtpeepiboocdnaaaDoorPvG
import Derived.Test.YtpeepiboocdnaaaDoorKO
import Derived.Test.YtpeepiboocdnaaaDoorKF
import Derived.Test.YtpeepiboocdnaaaDoorKJ
import Derived.Deep.DeepCutAuto
namespace Go.Proofs.YtpeepiboocdnaaaDoor
open Go.RowKit

set_option maxRecDepth 100000 in
theorem Within_m2 (n hi : Int) (h1 : -2 ≤ hi) (h2 : hi ≤ 1000000) : ∃ x : Int, -2 ≤ x ∧ x ≤ hi ∧ ∀ w, Calls Tryd.prog 13 #[.int .i64 n, .int .i64 (-2), .int .i64 hi] w fun e w' => e = .returned (.int .i64 x) ∧ w = w' := by
  have hb := within_le (n := n) (lo := -2) (hi := hi) h1
  refine ⟨within n (-2) hi, hb.1, hb.2, fun w => ?_⟩
  obtain ⟨e1, e2, e3, e4⟩ := tmod_emod n (hi - (-2) + 1) (by omega)
  rw [show hi - (-2) + 1 = hi + 3 by omega] at e1 e2 e3 e4
  have hw : within n (-2) hi = -2 + n % (hi + 3) := by unfold within; rw [show hi - (-2) + 1 = hi + 3 by omega]
  have HW := Lib.hid hw
  clear hb hw
  by_cases hneg : n.tmod (hi + 3) < 0
  · have hE := Lib.hid (e2 hneg)
    clear e1 e2
    have e5 : hi - -2 + 1 = hi + 3 := by omega
    have e6 : hi - -2 = hi + 2 := by omega
    have e7 : hi + 2 + 1 = hi + 3 := by omega
    go_enter Tryd.func13, Tryd.ntmps13
    go_wp2
    go_ret
    exact ⟨ret_int (by rw [HW.out, hE.out]; omega), rfl⟩
  · have hE := Lib.hid (e1 (by omega))
    clear e1 e2
    have e5 : hi - -2 + 1 = hi + 3 := by omega
    have e6 : hi - -2 = hi + 2 := by omega
    have e7 : hi + 2 + 1 = hi + 3 := by omega
    go_enter Tryd.func13, Tryd.ntmps13
    go_wp2
    go_ret
    exact ⟨ret_int (by rw [HW.out, hE.out]), rfl⟩
def cntP (rs : List Ph) : Nat := (rs.map fun r => r.2.2.1).sum
theorem cntP_size {w : World} {P : Pf} {A B : Option Addr} {c d : Nat} {rs : List Ph} (h : IsPf w P A c B d rs) : sizeL P = P.pairs.length + cntP rs := by
  unfold sizeL cntP
  rw [← h.ps, List.map_map]
  congr 2
  refine List.map_congr_left fun r hr => ?_
  show r.2.1.length / 32 = _
  rw [(h.rp.2 r hr).len, Nat.mul_div_cancel _ (by decide)]
theorem cntP_take (rs : List Ph) (k : Nat) (hk : k < rs.length) : cntP (rs.take (k + 1)) = cntP (rs.take k) + rs[k].2.2.1 := by
  unfold cntP
  rw [List.take_succ_eq_append_getElem hk, List.map_append, List.sum_append]
  simp
theorem cntP_le (rs : List Ph) (h : ∀ r ∈ rs, r.2.2.1 ≤ 1000) : cntP rs ≤ 1000 * rs.length := by
  induction rs with
  | nil => simp [cntP]
  | cons r rs ih =>
    have h1 := h r (List.mem_cons_self ..)
    have h2 := ih fun r hr => h r (List.mem_cons_of_mem _ hr)
    have e : cntP (r :: rs) = r.2.2.1 + cntP rs := by simp [cntP]
    rw [e, List.length_cons]; omega
theorem zeroP_is (w : World) : IsPf w zeroP none 0 none 0 [] := ⟨Nat.le_refl _, RdAt.nil, Nat.le_refl _, ⟨RdAt.nil, fun r hr => by cases hr⟩, rfl⟩
theorem someL_may (ps : List Kv) (i j : Nat) (hj : j ≤ ps.length) (hn : ps.length ≤ 100) : (someL ps i j).pairs.length ≤ 1000 ∧ (someL ps i j).paths.length ≤ 1000 ∧ ∀ x ∈ (someL ps i j).paths, x.length ≤ 32000 := by
  unfold someL
  split
  · refine ⟨?_, ?_, pathsB_le ps i (j - i) (by omega) (by omega)⟩
    · show ((ps.drop i).take (j - i)).length ≤ 1000
      rw [List.length_take, List.length_drop]; omega
    · show (pathsB ps i (j - i)).length ≤ 1000
      rw [pathsB_len]; omega
  · exact ⟨by simp, by simp, by simp⟩
def May (P : Pf) : Prop := P.pairs.length ≤ 1000 ∧ P.paths.length ≤ 1000 ∧ ∀ x ∈ P.paths, x.length ≤ 32000
theorem coverL_may (ps : List Kv) (x y : List UInt8) (hn : ps.length ≤ 100) : May (coverL ps x y) := someL_may _ _ _ (by omega) hn
theorem zeroP_may : May zeroP := ⟨by simp [zeroP], by simp [zeroP], by simp [zeroP]⟩
theorem existL_may (ps : List Kv) (x : List UInt8) (hn : ps.length ≤ 100) (hup : Rises ps) : May (existL ps x) := by
  unfold existL
  split
  · rename_i h
    refine someL_may _ _ _ ?_ hn
    have := lowN_le ps x
    by_cases hl : lowN ps x < ps.length
    · omega
    · exfalso
      rw [has_end hup x hl] at h; cases h
  · exact zeroP_may
theorem absentL_may (ps : List Kv) (x : List UInt8) (hn : ps.length ≤ 100) : May (absentL ps x) := by
  unfold absentL
  split
  · exact zeroP_may
  · exact coverL_may _ _ _ hn

theorem wp_max {P : Program} {o : Oper} {a : Act} {w : World} {K : Act → World → Prop} {Q : Exit → Act → World → Prop} {x y : Operand} {ts : Array TypeId} {p q m : Int} (ho : o.op = .call { callee := .builtin .max, args := #[x, y], argTypes := ts }) (hx : a.eval x = .int .i64 p) (hy : a.eval y = .int .i64 q)
    (hm : (if q > p then q else p) = m) (h : K (a.put o.dst (.int .i64 m)) w) : Oper.wp P o a w K Q := by
  unfold Oper.wp execOp
  simp [ho, resolve, invoke, builtin, hx, hy, run_max_int2, hm]
  exact h
def ptaS (t : Nat) : Bool := t == 103 || t == 104 || t == 105 || t == 106 || t == 107 || t == 108 || t == 109 || t == 110 || t == 111 || t == 112 || t == 113 || t == 114 || t == 115 || t == 116 || t == 117 || t == 118 || t == 119 || t == 120 || t == 121 || t == 122 || t == 123 || t == 124 || t == 125 || t == 126 || t == 127 || t == 128 || t == 129 || t == 130 || t == 131 || t == 132 || t == 133 || t == 134 || t == 135 || t == 136 || t == 137 || t == 138 || t == 139 || t == 140 || t == 141 || t == 142 || t == 143 || t == 144 || t == 145 || t == 146 || t == 147 || t == 148 || t == 149 || t == 150 || t == 151 || t == 152 || t == 153
def ptaDie (_ : Nat) : Nat := 99
def ptaOwn (_ : Nat) : Bool := false
def ptaAl (k : Nat) : Bool := k == 20 || k == 24 || k == 32 || k == 36
def ptaF (hb : Bool) (ps : List Kv) (Al A1 B1 A2 B2 Ae Be Ad Bd A5 B5 : Option Addr) (cl c1 d1 c2 d2 ce de cd dd c5 d5 i0 np S5 : Nat) (x y : List UInt8) (PE PD PS PR : Pf) (i j jz : Int) : Nat → Value → World → Prop
  | 0 => fun v _ => v = .bool hb
  | 1 => fun v _ => v = .bool hb
  | 2 => fun v _ => v = .bool true
  | 3 => fun v _ => v = .bool true
  | 4 => fun v _ => v = .bool (!hb)
  | 5 => fun v _ => v = .bool hb
  | 6 => fun v _ => v = .bool (!hb)
  | 7 => fun v _ => v = .bool true
  | 8 => fun v _ => v = .bool true
  | 9 => fun v _ => v = .bool true
  | 10 => fun v _ => v = (.agg #[.int .i64 PE.count, .int .i64 PE.first, .slice A1 PE.pairs.length c1, .slice B1 PE.paths.length d1])
  | 11 => fun v _ => v = (.agg #[.int .i64 PE.count, .int .i64 PE.first, .slice Ae PE.pairs.length ce, .slice Be PE.paths.length de])
  | 12 => fun v _ => v = .bool true
  | 13 => fun v _ => v = .bool true
  | 14 => fun v _ => v = .bool true
  | 15 => fun v _ => v = (.agg #[.int .i64 PD.count, .int .i64 PD.first, .slice A2 PD.pairs.length c2, .slice B2 PD.paths.length d2])
  | 16 => fun v _ => v = (.agg #[.int .i64 PD.count, .int .i64 PD.first, .slice Ad PD.pairs.length cd, .slice Bd PD.paths.length dd])
  | 17 => fun v _ => v = .bool true
  | 18 => fun v _ => v = .bool true
  | 19 => fun v _ => v = .bool true
  | 20 => fun v _ => v = .slice Al ps.length cl
  | 21 => fun v _ => v = .string ⟨x.toArray⟩
  | 22 => fun v _ => v = .string ⟨y.toArray⟩
  | 23 => fun v w => ∃ A c B d rs, v = pfv PR A c B d ∧ IsPf w PR A c B d rs
  | 24 => fun v _ => v = .slice Al ps.length cl
  | 25 => fun v _ => v = .string ⟨x.toArray⟩
  | 26 => fun v _ => v = .string ⟨y.toArray⟩
  | 27 => fun v w => ∃ A c B d rs, v = pfv PR A c B d ∧ IsPf w PR A c B d rs
  | 28 => fun v _ => v = .bool true
  | 29 => fun v _ => v = .bool true
  | 30 => fun v _ => v = .bool true
  | 31 => fun v _ => v = (.agg #[.int .i64 PS.count, .int .i64 PS.first, .slice A5 PS.pairs.length c5, .slice B5 PS.paths.length d5])
  | 32 => fun v _ => v = .slice Al ps.length cl
  | 33 => fun v _ => v = .int .i64 i
  | 34 => fun v _ => v = .int .i64 (i0 : Int)
  | 35 => fun v _ => v = .int .i64 j
  | 36 => fun v _ => v = .slice Al ps.length cl
  | 37 => fun v _ => v = .int .i64 (ps.length : Int)
  | 38 => fun v _ => v = .int .i64 jz
  | 39 => fun v w => ∃ A c B d rs, v = pfv PS A c B d ∧ IsPf w PS A c B d rs
  | 40 => fun v _ => v = .bool true
  | 41 => fun v _ => v = .bool true
  | 42 => fun v _ => v = .bool true
  | 43 => fun v _ => v = (.agg #[.int .i64 PS.count, .int .i64 PS.first, .slice A5 PS.pairs.length c5, .slice B5 PS.paths.length d5])
  | 44 => fun v _ => v = .int .i64 ((np : Int) + (S5 : Int))
  | 45 => fun v _ => v = .int .i64 ((np : Int) + (S5 : Int))
  | 46 => fun v _ => v = .bool true
  | 47 => fun v _ => v = .bool true
  | 48 => fun v _ => v = .bool true
  | 49 => fun v _ => v = .bool true
  | 50 => fun v _ => v = .bool true
  | _ => fun _ _ => True
theorem ptaF_lasts (hb : Bool) (ps : List Kv) (Al A1 B1 A2 B2 Ae Be Ad Bd A5 B5 : Option Addr) (cl c1 d1 c2 d2 ce de cd dd c5 d5 i0 np S5 : Nat) (x y : List UInt8) (PE PD PS PR : Pf) (i j jz : Int) : ∀ kq, LastsK ptaAl true kq (ptaF hb ps Al A1 B1 A2 B2 Ae Be Ad Bd A5 B5 cl c1 d1 c2 d2 ce de cd dd c5 d5 i0 np S5 x y PE PD PS PR i j jz kq)
  | 0 => LastsK.val _
  | 1 => LastsK.val _
  | 2 => LastsK.val _
  | 3 => LastsK.val _
  | 4 => LastsK.val _
  | 5 => LastsK.val _
  | 6 => LastsK.val _
  | 7 => LastsK.val _
  | 8 => LastsK.val _
  | 9 => LastsK.val _
  | 10 => LastsK.val _
  | 11 => LastsK.val _
  | 12 => LastsK.val _
  | 13 => LastsK.val _
  | 14 => LastsK.val _
  | 15 => LastsK.val _
  | 16 => LastsK.val _
  | 17 => LastsK.val _
  | 18 => LastsK.val _
  | 19 => LastsK.val _
  | 20 => LastsK.val _
  | 21 => LastsK.val _
  | 22 => LastsK.val _
  | 23 => LastsK.calm fun _ _ _ ⟨A, c, B, d, rs, h1, h2⟩ hg => ⟨A, c, B, d, rs, h1, h2.kept hg⟩
  | 24 => LastsK.val _
  | 25 => LastsK.val _
  | 26 => LastsK.val _
  | 27 => LastsK.calm fun _ _ _ ⟨A, c, B, d, rs, h1, h2⟩ hg => ⟨A, c, B, d, rs, h1, h2.kept hg⟩
  | 28 => LastsK.val _
  | 29 => LastsK.val _
  | 30 => LastsK.val _
  | 31 => LastsK.val _
  | 32 => LastsK.val _
  | 33 => LastsK.val _
  | 34 => LastsK.val _
  | 35 => LastsK.val _
  | 36 => LastsK.val _
  | 37 => LastsK.val _
  | 38 => LastsK.val _
  | 39 => LastsK.calm fun _ _ _ ⟨A, c, B, d, rs, h1, h2⟩ hg => ⟨A, c, B, d, rs, h1, h2.kept hg⟩
  | 40 => LastsK.val _
  | 41 => LastsK.val _
  | 42 => LastsK.val _
  | 43 => LastsK.val _
  | 44 => LastsK.val _
  | 45 => LastsK.val _
  | 46 => LastsK.val _
  | 47 => LastsK.val _
  | 48 => LastsK.val _
  | 49 => LastsK.val _
  | 50 => LastsK.val _
  | _ + 51 => fun _ _ _ _ _ _ _ _ => trivial

set_option maxRecDepth 100000 in
set_option maxHeartbeats 2000000 in
theorem ProveTells_any (K : ProveK) (A0 : Option Addr) (c0 : Nat) (ns : List Int) (n1 n2 n3 n4 : Int) (w : World) (hk : Laid2 w) (hr : RdI w A0 ns) :
    Calls Tryd.prog 4 #[.slice A0 ns.length c0, .int .i64 n1, .int .i64 n2, .int .i64 n3, .int .i64 n4] w fun e w' => e = .returned (.bool true) ∧ w.grownBy w' none := by
  have kp := Pairs_any A0 c0 ns w hr
  obtain ⟨x, hx, kx⟩ := KKey_any n1
  obtain ⟨y, hy, ky⟩ := KKey_any n2
  have hxm := keysK_may x hx
  have hym := keysK_may y hy
  generalize ns.length = N0 at *
  go_enter Tryd.func4, Tryd.ntmps4
  go_upto_region 3 with (first
    | (go_at_call 11; refine kp.mono ?_; clear kp; rintro e w1 ⟨v1, ps, rfl, hkept, hpb, hg1⟩; obtain ⟨Al, cl, rfl, hcl, hrl, hbl⟩ := hpb.form)
    | (go_at_call 12; refine (kx _).mono ?_; clear kx; rintro e w2 ⟨rfl, hg2⟩)
    | (go_at_call 12; refine (ky _).mono ?_; clear ky; rintro e w3 ⟨rfl, hg3⟩))
  have hlen := hkept.len
  obtain ⟨i, hi1, hi2, ki⟩ := Within_m2 n3 ((ps.length : Int) + 2) (by omega) (by omega)
  obtain ⟨j, hj1, hj2, kj⟩ := Within_m2 n4 ((ps.length : Int) + 2) (by omega) (by omega)
  have hgw3 : w.grownBy w3 none := grown_none hg1 (grown_none hg2 hg3)
  have hrow : RowQ w3 Al cl ps := ⟨hrl.kept (grown_none hg2 hg3), hcl, hkept.rises, by omega, fun p hp => by have := hkept.may p hp; unfold mayQ at this; rw [decide_eq_true_iff] at this; omega⟩
  have hf := fun W (hg : w3.grownBy W none) => RFirst_any Al cl ps x W (hrow.rd.kept hg) (by omega) hrow.up
  have hlo := lowN_le ps x
  replace hk := hk.kept hgw3
  clear hr hpb hrl hbl hcl
  go_upto_region 5 with (first
    | (go_at_call 13; refine (ki _).mono ?_; clear ki; rintro e w4 ⟨rfl, h4⟩; obtain rfl : w3 = w4 := h4)
    | (go_at_call 13; refine (kj _).mono ?_; clear kj; rintro e w4 ⟨rfl, h4⟩; obtain rfl : w3 = w4 := h4)
    | (go_at_call 14; refine (hf _ (grown_refl _ _)).mono ?_; clear hf; rintro e w4 ⟨rfl, h4⟩; obtain rfl : w3 = w4 := h4))
  go_cut [17] (fun t wx => t = .bool (hasK ps x) ∧ w3 = wx)
  case first =>
    by_cases hl : lowN ps x < ps.length
    · obtain ⟨ad, rfl, hat⟩ := RdQ.at hrow.rd hl
      have hq := has_at hrow.up x hl
      have hq0 := hat.1
      unfold sv at hq0
      have hs := eql_str ps[lowN ps x].1 x
      clear hat
      generalize ps[lowN ps x] = q at *
      have hbq : (q.1 == x) = hasK ps x := by rw [hq]; by_cases e : q.1 = x <;> simp [e]
      rw [hbq] at hs
      clear hq hbq
      go_wp2
      go_meet
      exact ⟨rfl, rfl⟩
    · have hq := has_end hrow.up x hl
      go_wp2
      go_meet
      exact ⟨by rw [hq], rfl⟩
  case rest =>
    obtain ⟨rfl, rfl⟩ := hcut
    have hup := hrow.up
    have hn := hrow.hn
    have ke := fun W (hg : w3.grownBy W none) => K.exist x (hrow.kept hg) (hk.kept hg)
    have kd := fun W (hg : w3.grownBy W none) => K.absent x (hrow.kept hg) (hk.kept hg)
    have mE := existL_may ps x hn hup
    have mD := absentL_may ps x hn
    have H1 : Hid (hasK ps x = true → existL ps x = someL ps (lowN ps x) (lowN ps x + 1) ∧ absentL ps x = zeroP) := fun h => by unfold existL absentL; rw [if_pos h, if_pos h]; exact ⟨rfl, rfl⟩
    have H0 : Hid (hasK ps x = false → existL ps x = zeroP ∧ absentL ps x = coverL ps x x) := fun h => by unfold existL absentL; rw [if_neg (by rw [h]; decide), if_neg (by rw [h]; decide)]; exact ⟨rfl, rfl⟩
    have hlx : Hid (hasK ps x = true → lowN ps x < ps.length) := fun h => by
      by_cases hl : lowN ps x < ps.length
      · exact hl
      · rw [has_end hup x hl] at h; cases h
    generalize existL ps x = PE at *
    generalize absentL ps x = PD at *
    generalize hasK ps x = hb at *
    generalize lowN ps x = n at *
    go_upto_region 7 with (go_at_call 15; refine (ke _ (grown_refl _ _)).mono ?_; clear ke; rintro e w4 ⟨A1, c1, B1, d1, rs1, rfl, hp1, -, hg4⟩; unfold pfv; have hst4 := store_pf PE.count PE.first A1 B1 PE.pairs.length PE.paths.length c1 d1 w4)
    clear hst4
    have hb18 : (w4.alloc (.cells #[.int .i64 PE.count, .int .i64 PE.first, .slice A1 PE.pairs.length c1, .slice B1 PE.paths.length d1] 27)).heap[w4.heap.size]? = some (.cells #[.int .i64 PE.count, .int .i64 PE.first, .slice A1 PE.pairs.length c1, .slice B1 PE.paths.length d1] 27 (0, 0)) := alloc_at rfl
    have hg5 := grown_alloc hg4 (.cells #[.int .i64 PE.count, .int .i64 PE.first, .slice A1 PE.pairs.length c1, .slice B1 PE.paths.length d1] 27)
    have hp18 := hp1.kept (grown_alloc (grown_refl w4 none) (.cells #[.int .i64 PE.count, .int .i64 PE.first, .slice A1 PE.pairs.length c1, .slice B1 PE.paths.length d1] 27))
    generalize w4.alloc (.cells #[.int .i64 PE.count, .int .i64 PE.first, .slice A1 PE.pairs.length c1, .slice B1 PE.paths.length d1] 27) = w5 at *
    generalize w4.heap.size = g18 at *
    clear hp1 hg4
    go_upto_region 8 with (go_at_call 8; refine (kd _ hg5).mono ?_; clear kd; rintro e w6 ⟨A2, c2, B2, d2, rs2, rfl, hp2, -, hg6⟩; unfold pfv; have hst6 := store_pf PD.count PD.first A2 B2 PD.pairs.length PD.paths.length c2 d2 w6)
    clear hst6
    have hb20 : (w6.alloc (.cells #[.int .i64 PD.count, .int .i64 PD.first, .slice A2 PD.pairs.length c2, .slice B2 PD.paths.length d2] 27)).heap[w6.heap.size]? = some (.cells #[.int .i64 PD.count, .int .i64 PD.first, .slice A2 PD.pairs.length c2, .slice B2 PD.paths.length d2] 27 (0, 0)) := alloc_at rfl
    have hg7' := grown_alloc hg6 (.cells #[.int .i64 PD.count, .int .i64 PD.first, .slice A2 PD.pairs.length c2, .slice B2 PD.paths.length d2] 27)
    have hp20 := hp2.kept (grown_alloc (grown_refl w6 none) (.cells #[.int .i64 PD.count, .int .i64 PD.first, .slice A2 PD.pairs.length c2, .slice B2 PD.paths.length d2] 27))
    generalize w6.alloc (.cells #[.int .i64 PD.count, .int .i64 PD.first, .slice A2 PD.pairs.length c2, .slice B2 PD.paths.length d2] 27) = w7 at *
    generalize w6.heap.size = g20 at *
    replace hb18 := keep_of hb18 hg7'
    replace hp18 := hp18.kept hg7'
    have hg7 := grown_none hg5 hg7'
    clear hp2 hg6 hg7' hg5
    have z1 : ((w7.alloc (.cells #[.int .i64 0, .int .i64 0, .slice none 0 0, .slice none 0 0] 27)).alloc (.cells #[.int .i64 0, .int .i64 0, .slice none 0 0, .slice none 0 0] 27)).heap[w7.heap.size]? = some (.cells #[.int .i64 0, .int .i64 0, .slice none 0 0, .slice none 0 0] 27 (0, 0)) := keep_of (alloc_at rfl) (grown_alloc (grown_refl _ _) _)
    have z2 : (((w7.alloc (.cells #[.int .i64 0, .int .i64 0, .slice none 0 0, .slice none 0 0] 27)).alloc (.cells #[.int .i64 0, .int .i64 0, .slice none 0 0, .slice none 0 0] 27)).setRow w7.heap.size #[.int .i64 0, .int .i64 0, .slice none 0 0, .slice none 0 0]).heap[w7.heap.size + 1]? = some (.cells #[.int .i64 0, .int .i64 0, .slice none 0 0, .slice none 0 0] 27 (0, 0)) := other_block (alloc_at (by simp)) (grown_setRow (grown_refl _ (some w7.heap.size)) (.inl rfl) _) (by simp)
    go_upto_region 9 with (first
      | (refine wpList_store_row rfl 27 _ _ rfl w7.heap.size #[.int .i64 0, .int .i64 0, .slice none 0 0, .slice none 0 0] rfl rfl 27 _ z1 size_pf rfl (by simp [Value.oneCell']) ?_)
      | (refine wpList_store_row rfl 27 _ _ rfl (w7.heap.size + 1) #[.int .i64 0, .int .i64 0, .slice none 0 0, .slice none 0 0] rfl rfl 27 _ z2 size_pf rfl (by simp [Value.oneCell']) ?_))
    have q1 : (((w7.alloc (.cells #[.int .i64 0, .int .i64 0, .slice none 0 0, .slice none 0 0] 27)).alloc (.cells #[.int .i64 0, .int .i64 0, .slice none 0 0, .slice none 0 0] 27)).setRow w7.heap.size #[.int .i64 0, .int .i64 0, .slice none 0 0, .slice none 0 0]).heap[w7.heap.size]? = some (.cells #[.int .i64 0, .int .i64 0, .slice none 0 0, .slice none 0 0] 27 (0, 0)) := setRow_heap _ _ _ _ _ _ z1
    have q2 : ((((w7.alloc (.cells #[.int .i64 0, .int .i64 0, .slice none 0 0, .slice none 0 0] 27)).alloc (.cells #[.int .i64 0, .int .i64 0, .slice none 0 0, .slice none 0 0] 27)).setRow w7.heap.size #[.int .i64 0, .int .i64 0, .slice none 0 0, .slice none 0 0]).setRow (w7.heap.size + 1) #[.int .i64 0, .int .i64 0, .slice none 0 0, .slice none 0 0]).heap[w7.heap.size + 1]? = some (.cells #[.int .i64 0, .int .i64 0, .slice none 0 0, .slice none 0 0] 27 (0, 0)) := setRow_heap _ _ _ _ _ _ z2
    have q3 : ((((w7.alloc (.cells #[.int .i64 0, .int .i64 0, .slice none 0 0, .slice none 0 0] 27)).alloc (.cells #[.int .i64 0, .int .i64 0, .slice none 0 0, .slice none 0 0] 27)).setRow w7.heap.size #[.int .i64 0, .int .i64 0, .slice none 0 0, .slice none 0 0]).setRow (w7.heap.size + 1) #[.int .i64 0, .int .i64 0, .slice none 0 0, .slice none 0 0]).heap[w7.heap.size]? = some (.cells #[.int .i64 0, .int .i64 0, .slice none 0 0, .slice none 0 0] 27 (0, 0)) := other_block q1 (grown_setRow (grown_refl _ (some (w7.heap.size + 1))) (.inl rfl) _) (by simp)
    have hg9 : w7.grownBy ((((w7.alloc (.cells #[.int .i64 0, .int .i64 0, .slice none 0 0, .slice none 0 0] 27)).alloc (.cells #[.int .i64 0, .int .i64 0, .slice none 0 0, .slice none 0 0] 27)).setRow w7.heap.size #[.int .i64 0, .int .i64 0, .slice none 0 0, .slice none 0 0]).setRow (w7.heap.size + 1) #[.int .i64 0, .int .i64 0, .slice none 0 0, .slice none 0 0]) none := grown_setRow (grown_setRow (grown_alloc (grown_alloc (grown_refl _ _) _) _) (.inr (Nat.le_refl _)) _) (.inr (by omega)) _
    have hl9 : w7.heap.size + 1 < ((((w7.alloc (.cells #[.int .i64 0, .int .i64 0, .slice none 0 0, .slice none 0 0] 27)).alloc (.cells #[.int .i64 0, .int .i64 0, .slice none 0 0, .slice none 0 0] 27)).setRow w7.heap.size #[.int .i64 0, .int .i64 0, .slice none 0 0, .slice none 0 0]).setRow (w7.heap.size + 1) #[.int .i64 0, .int .i64 0, .slice none 0 0, .slice none 0 0]).heap.size := by simp
    generalize ((((w7.alloc (.cells #[.int .i64 0, .int .i64 0, .slice none 0 0, .slice none 0 0] 27)).alloc (.cells #[.int .i64 0, .int .i64 0, .slice none 0 0, .slice none 0 0] 27)).setRow w7.heap.size #[.int .i64 0, .int .i64 0, .slice none 0 0, .slice none 0 0]).setRow (w7.heap.size + 1) #[.int .i64 0, .int .i64 0, .slice none 0 0, .slice none 0 0]) = w9 at *
    clear z1 z2 q1
    have hgc9 := grown_none hg7 hg9
    obtain ⟨g22, hg22⟩ : ∃ g, g = w7.heap.size := ⟨_, rfl⟩
    rw [← hg22] at q2 q3 hl9 ⊢
    replace hg22 := Lib.hid hg22
    go_upto_if 74 with fail
    go_cut [] (fun wx => ∃ Ae ce Be de rse Ad cd Bd dd rsd, wx.heap[g22]? = some (.cells #[.int .i64 PE.count, .int .i64 PE.first, .slice Ae PE.pairs.length ce, .slice Be PE.paths.length de] 27 (0, 0)) ∧ wx.heap[g22 + 1]? = some (.cells #[.int .i64 PD.count, .int .i64 PD.first, .slice Ad PD.pairs.length cd, .slice Bd PD.paths.length dd] 27 (0, 0)) ∧ IsPf wx PE Ae ce Be de rse ∧ IsPf wx PD Ad cd Bd dd rsd ∧ wx.heap[g18]? = some (.cells #[.int .i64 PE.count, .int .i64 PE.first, .slice A1 PE.pairs.length c1, .slice B1 PE.paths.length d1] 27 (0, 0)) ∧ wx.heap[g20]? = some (.cells #[.int .i64 PD.count, .int .i64 PD.first, .slice A2 PD.pairs.length c2, .slice B2 PD.paths.length d2] 27 (0, 0)) ∧ IsPf wx PE A1 c1 B1 d1 rs1 ∧ IsPf wx PD A2 c2 B2 d2 rs2 ∧ w3.grownBy wx none)
    case first =>
      cases hb
      · obtain ⟨e1, e2⟩ := H0.out rfl
        have kc := RCover_any Al cl ps x x w9 (hrow.rd.kept hgc9) (by omega) hrow.hs hup
        rw [← e2] at kc
        have mz : PE.count = 0 ∧ PE.first = 0 ∧ PE.pairs.length = 0 ∧ PE.paths.length = 0 := by rw [e1]; exact ⟨rfl, rfl, rfl, rfl⟩
        have hze : ∀ w, IsPf w PE none 0 none 0 [] := fun w => by rw [e1]; exact zeroP_is w
        clear e1 e2 H0 H1
        go_wp2_with (first
          | (go_at_call 17; refine kc.mono ?_; clear kc; rintro e w10 ⟨A3, c3, B3, d3, rs3, rfl, hp3, hn3, hg10⟩; unfold pfv; have hq := keep_of q2 hg10)
          | (refine wpList_store_row rfl 27 _ _ rfl (g22 + 1) #[.int .i64 PD.count, .int .i64 PD.first, .slice A3 PD.pairs.length c3, .slice B3 PD.paths.length d3] rfl rfl 27 _ hq size_pf rfl (by simp [Value.oneCell']) ?_))
        go_meet
        have hs : w10.grownBy (w10.setRow (g22 + 1) #[.int .i64 PD.count, .int .i64 PD.first, .slice A3 PD.pairs.length c3, .slice B3 PD.paths.length d3]) (some (g22 + 1)) := grown_setRow (grown_refl _ _) (.inl rfl) _
        have G : w7.grownBy (w10.setRow (g22 + 1) #[.int .i64 PD.count, .int .i64 PD.first, .slice A3 PD.pairs.length c3, .slice B3 PD.paths.length d3]) none := grown_setRow (grown_none hg9 hg10) (.inr (by rw [← hg22.out]; omega)) _
        have hz : (w10.setRow (g22 + 1) #[.int .i64 PD.count, .int .i64 PD.first, .slice A3 PD.pairs.length c3, .slice B3 PD.paths.length d3]).heap[g22]? = some (.cells #[.int .i64 PE.count, .int .i64 PE.first, .slice none PE.pairs.length 0, .slice none PE.paths.length 0] 27 (0, 0)) := by
          rw [mz.1, mz.2.1, mz.2.2.1, mz.2.2.2]
          exact other_block (keep_of q3 hg10) hs (by simp)
        exact ⟨none, 0, none, 0, [], A3, c3, B3, d3, rs3, hz, setRow_heap _ _ _ _ _ _ hq, hze _, hp3.over hn3 hl9 _, keep_of hb18 G, keep_of hb20 G, hp18.kept G, hp20.kept G, grown_none hg7 G⟩
      · obtain ⟨e1, e2⟩ := H1.out rfl
        have kc := RProve_any Al cl ps n ((n : Int) + 1) w9 (hrow.rd.kept hgc9) (by omega) hrow.hs (by omega) (by have := hlx.out rfl; omega)
        rw [show ((n : Int) + 1).toNat = n + 1 by omega, ← e1] at kc
        have mz : PD.count = 0 ∧ PD.first = 0 ∧ PD.pairs.length = 0 ∧ PD.paths.length = 0 := by rw [e2]; exact ⟨rfl, rfl, rfl, rfl⟩
        have hze : ∀ w, IsPf w PD none 0 none 0 [] := fun w => by rw [e2]; exact zeroP_is w
        clear e1 e2 H0 H1
        go_wp2_with (first
          | (go_at_call 16; refine kc.mono ?_; clear kc; rintro e w10 ⟨A3, c3, B3, d3, rs3, rfl, hp3, hn3, hg10⟩; unfold pfv; have hq := keep_of q3 hg10)
          | (refine wpList_store_row rfl 27 _ _ rfl (g22) #[.int .i64 PE.count, .int .i64 PE.first, .slice A3 PE.pairs.length c3, .slice B3 PE.paths.length d3] rfl rfl 27 _ hq size_pf rfl (by simp [Value.oneCell']) ?_))
        go_meet
        have hs : w10.grownBy (w10.setRow (g22) #[.int .i64 PE.count, .int .i64 PE.first, .slice A3 PE.pairs.length c3, .slice B3 PE.paths.length d3]) (some (g22)) := grown_setRow (grown_refl _ _) (.inl rfl) _
        have G : w7.grownBy (w10.setRow (g22) #[.int .i64 PE.count, .int .i64 PE.first, .slice A3 PE.pairs.length c3, .slice B3 PE.paths.length d3]) none := grown_setRow (grown_none hg9 hg10) (.inr (by rw [← hg22.out]; omega)) _
        have hz : (w10.setRow (g22) #[.int .i64 PE.count, .int .i64 PE.first, .slice A3 PE.pairs.length c3, .slice B3 PE.paths.length d3]).heap[g22 + 1]? = some (.cells #[.int .i64 PD.count, .int .i64 PD.first, .slice none PD.pairs.length 0, .slice none PD.paths.length 0] 27 (0, 0)) := by
          rw [mz.1, mz.2.1, mz.2.2.1, mz.2.2.2]
          exact other_block (keep_of q2 hg10) hs (by simp)
        exact ⟨A3, c3, B3, d3, rs3, none, 0, none, 0, [], setRow_heap _ _ _ _ _ _ hq, hz, hp3.over hn3 (by omega) _, hze _, keep_of hb18 G, keep_of hb20 G, hp18.kept G, hp20.kept G, grown_none hg7 G⟩
    case rest =>
      obtain ⟨Ae, ce, Be, de, rse, Ad, cd, Bd, dd, rsd, hb22, hb23, hp22, hp23, hb18', hb20', hp18', hp20', hgc⟩ := hcut
      clear hb18 hb20 hp18 hp20 q2 q3 hg9 hg7 hgc9 hl9 H0 H1 hlx
      replace hg22 := trivial
      have kso := K.some_ i j (hrow.kept hgc) (hk.kept hgc) (by omega) (by omega)
      have mS := someL_may ps i.toNat (min j.toNat ps.length) (by omega) hn
      obtain ⟨PS, hPS⟩ : ∃ P, P = someL ps i.toNat (min j.toNat ps.length) := ⟨_, rfl⟩
      rw [← hPS] at kso mS
      replace hPS := Lib.hid hPS
      go_upto_region 13 with (go_at_call 18; refine kso.mono ?_; clear kso; rintro e w11 ⟨A5, c5, B5, d5, rs5, rfl, hp5, -, hg11⟩; unfold pfv; have hst11 := store_pf PS.count PS.first A5 B5 PS.pairs.length PS.paths.length c5 d5 w11)
      clear hst11
      have hb24 : (w11.alloc (.cells #[.int .i64 PS.count, .int .i64 PS.first, .slice A5 PS.pairs.length c5, .slice B5 PS.paths.length d5] 27)).heap[w11.heap.size]? = some (.cells #[.int .i64 PS.count, .int .i64 PS.first, .slice A5 PS.pairs.length c5, .slice B5 PS.paths.length d5] 27 (0, 0)) := alloc_at rfl
      have hg12 := grown_alloc hg11 (.cells #[.int .i64 PS.count, .int .i64 PS.first, .slice A5 PS.pairs.length c5, .slice B5 PS.paths.length d5] 27)
      have hp24 := hp5.kept (grown_alloc (grown_refl w11 none) (.cells #[.int .i64 PS.count, .int .i64 PS.first, .slice A5 PS.pairs.length c5, .slice B5 PS.paths.length d5] 27))
      generalize w11.alloc (.cells #[.int .i64 PS.count, .int .i64 PS.first, .slice A5 PS.pairs.length c5, .slice B5 PS.paths.length d5] 27) = W at *
      generalize w11.heap.size = g24 at *
      clear hp5 hg11
      replace hb22 := keep_of hb22 hg12
      replace hb23 := keep_of hb23 hg12
      replace hb18' := keep_of hb18' hg12
      replace hb20' := keep_of hb20' hg12
      replace hp22 := hp22.kept hg12
      replace hp23 := hp23.kept hg12
      replace hp18' := hp18'.kept hg12
      replace hp20' := hp20'.kept hg12
      replace hgc := grown_none hgc hg12
      replace hk := hk.kept hgc
      replace hrow := hrow.kept hgc
      replace hgw3 := grown_none hgw3 hgc
      clear hg12 hgc
      have c2' : W.cell? ⟨g24, 2, none⟩ = some (.slice A5 PS.pairs.length c5) := by rw [cell_of_row W _ 2 _ _ _ hb24]; rfl
      have c3' : W.cell? ⟨g24, 3, none⟩ = some (.slice B5 PS.paths.length d5) := by rw [cell_of_row W _ 3 _ _ _ hb24]; rfl
      have hl5 := hp24.len
      have hsz := cntP_size hp24
      have hle5 : ∀ r ∈ rs5, r.2.2.1 ≤ 1000 := fun r hr => by
        have h1 := (hp24.rp.2 r hr).len
        have h2 := mS.2.2 r.2.1 (by rw [← hp24.ps]; exact List.mem_map.2 ⟨r, hr, rfl⟩)
        omega
      have hrp := hp24.rp
      have hm1 := mS.1
      have hm2 := mS.2.1
      obtain ⟨np, hnp⟩ : ∃ n, n = PS.pairs.length := ⟨_, rfl⟩
      obtain ⟨nq, hnq⟩ : ∃ n, n = PS.paths.length := ⟨_, rfl⟩
      rw [← hnp] at c2' hm1 hsz
      rw [← hnq] at c3' hm2 hl5
      replace hnp := Lib.hid hnp
      replace hnq := Lib.hid hnq
      go_wp2_with (fail)
      go_loopw [25, 94] (fun s t wr => ∃ k : Nat, k ≤ nq ∧ t = .int .i64 (k : Int) ∧ s = .int .i64 ((np : Int) + (cntP (rs5.take k) : Nat)) ∧ W = wr) (fun _ t _ => nq - (intOf t).toNat)
      case atStart => exact ⟨0, Nat.zero_le _, rfl, by simp [cntP], rfl⟩
      case round =>
        obtain ⟨k, hkn, rfl, rfl, rfl⟩ := hrel
        by_cases hlt : k < nq
        · have q1 : (k : Int) < (nq : Int) := by omega
          obtain ⟨ad1, rfl, hc1, ho1⟩ := RdPs.get hrp (k := k) (by omega)
          have hct := cntP_take rs5 k (by omega)
          have hlek := hle5 rs5[k] (List.getElem_mem _)
          have hcl := cntP_le (rs5.take k) (fun r hr => hle5 r (List.mem_of_mem_take hr))
          rw [List.length_take] at hcl
          generalize rs5[k] = ra at *
          obtain ⟨Aa, Pa, na, ca⟩ := ra
          unfold hv at hc1
          dsimp only at hc1 hct hlek
          have hid1 := fun W => idx_Hs ad1 nq d5 k hlt W
          have HT := Lib.hid hct
          clear hct ho1
          generalize cntP (rs5.take k) = S at *
          go_wp2
          go_roundw
          case rel => exact ⟨k + 1, by omega, by go_num, by rw [HT.out]; congr 1; omega, trivial⟩
          case measure => simp [intOf]; omega
        · have q1 : ¬ (k : Int) < (nq : Int) := by omega
          obtain rfl : k = nq := by omega
          have hfin : cntP (rs5.take k) = cntP rs5 := by rw [List.take_of_length_le (by omega)]
          have ks := fun W' (hg : W.grownBy W' none) => K.size (hp24.kept hg) mS.1 mS.2.1 mS.2.2
          rw [hsz, ← hfin, show (((np + cntP (rs5.take k) : Nat)) : Int) = (np : Int) + (cntP (rs5.take k) : Nat) by omega] at ks
          generalize cntP (rs5.take k) = S5 at *
          clear hfin hsz hle5 hrp hl5 c2' c3'
          go_upto_region 19 with (fail)
          obtain ⟨PR, hPR⟩ : ∃ P, P = coverL ps x y := ⟨_, rfl⟩
          have mR : May PR := by rw [hPR]; exact coverL_may ps x y hn
          have kra := fun W' (hg : W.grownBy W' none) => K.range x y (hrow.kept hg) (hk.kept hg)
          have krb := fun W' (hg : W.grownBy W' none) => RCover_any Al cl ps x y W' (hrow.rd.kept hg) hn hrow.hs hup
          rw [← hPR] at kra krb
          clear hPR
          obtain ⟨jz, hjz⟩ : ∃ jz : Int, (if (ps.length : Int) < j then (ps.length : Int) else j) = jz := ⟨_, rfl⟩
          obtain ⟨i0, hi0⟩ : ∃ i0 : Nat, (if (0 : Int) > i then (0 : Int) else i) = (i0 : Int) := ⟨i.toNat, by split <;> omega⟩
          have hjt : jz.toNat = min j.toNat ps.length ∧ jz ≤ ps.length := by rw [← hjz]; split <;> omega
          have hit : i.toNat = i0 := by split at hi0 <;> omega
          have kpp := fun W' (hg : W.grownBy W' none) => RProve_any Al cl ps i0 jz W' (hrow.rd.kept hg) hn hrow.hs (by omega) hjt.2
          rw [hjt.1, ← hit, ← hPS.out, hit] at kpp
          clear hPS hjt hit
          have KP := K
          refine wp_region_gt (R := none) (i1 := 999) (q := true) (al := ptaAl) 51 (N := 154) (S := ptaS) (die := ptaDie) (own := ptaOwn) (F := ptaF hb ps Al A1 B1 A2 B2 Ae Be Ad Bd A5 B5 cl c1 d1 c2 d2 ce de cd dd c5 d5 i0 np S5 x y PE PD PS PR i j jz) (by kernel_rfl) (Nat.le_of_ble_eq_true (by kernel_rfl)) (by kernel_rfl) (by kernel_rfl) (by kernel_rfl) (by kernel_rfl) (Nat.le_of_ble_eq_true (by kernel_rfl)) (fun g e => by cases e) (ptaF_lasts hb ps Al A1 B1 A2 B2 Ae Be Ad Bd A5 B5 cl c1 d1 c2 d2 ce de cd dd c5 d5 i0 np S5 x y PE PD PS PR i j jz) ?_ ?_
          · intro i o L' a w K hi ho hg hgN hLi hout hpre houter hitem h1 h2
            have hcases : i = 0 ∨ i = 1 ∨ i = 2 ∨ i = 3 ∨ i = 4 ∨ i = 5 ∨ i = 6 ∨ i = 7 ∨ i = 8 ∨ i = 9 ∨ i = 10 ∨ i = 11 ∨ i = 12 ∨ i = 13 ∨ i = 14 ∨ i = 15 ∨ i = 16 ∨ i = 17 ∨ i = 18 ∨ i = 19 ∨ i = 20 ∨ i = 21 ∨ i = 22 ∨ i = 23 ∨ i = 24 ∨ i = 25 ∨ i = 26 ∨ i = 27 ∨ i = 28 ∨ i = 29 ∨ i = 30 ∨ i = 31 ∨ i = 32 ∨ i = 33 ∨ i = 34 ∨ i = 35 ∨ i = 36 ∨ i = 37 ∨ i = 38 ∨ i = 39 ∨ i = 40 ∨ i = 41 ∨ i = 42 ∨ i = 43 ∨ i = 44 ∨ i = 45 ∨ i = 46 ∨ i = 47 ∨ i = 48 ∨ i = 49 ∨ i = 50 := by omega
            rcases hcases with rfl | rfl | rfl | rfl | rfl | rfl | rfl | rfl | rfl | rfl | rfl | rfl | rfl | rfl | rfl | rfl | rfl | rfl | rfl | rfl | rfl | rfl | rfl | rfl | rfl | rfl | rfl | rfl | rfl | rfl | rfl | rfl | rfl | rfl | rfl | rfl | rfl | rfl | rfl | rfl | rfl | rfl | rfl | rfl | rfl | rfl | rfl | rfl | rfl | rfl | rfl
            · cases (show some _ = some o from ho)
              exact ⟨rfl, wp_move rfl (h1 _ _ (grown_refl _ none) (houter _ rfl) (by rw [houter _ rfl]; exact nob rfl) (by rw [houter _ rfl]; exact .inl rfl))⟩
            · cases (show some _ = some o from ho)
              exact ⟨rfl, wp_move rfl (h1 _ _ (grown_refl _ none) (houter _ rfl) (by rw [houter _ rfl]; exact nob rfl) (by rw [houter _ rfl]; exact .inl rfl))⟩
            · cases (show some _ = some o from ho)
              exact ⟨rfl, wp_bin rfl (hitem 0 (by decide) ⟨hpre 0 rfl, hout _ (by decide)⟩) (hitem 1 (by decide) ⟨hpre 1 rfl, hout _ (by decide)⟩) (guard_boolL _ _ _ _ _) (eqB_same _ _) (h1 _ _ (grown_refl _ none) rfl (nob rfl) (.inl rfl))⟩
            · cases (show some _ = some o from ho)
              have hx := hitem 2 (by decide) ⟨hpre 2 rfl, hout _ (by decide)⟩
              exact ⟨rfl, wp_move rfl (h1 _ _ (grown_refl _ none) hx (by rw [show a.eval (.tmp 105) = .bool true from hx]; exact nob rfl) (by rw [show a.eval (.tmp 105) = .bool true from hx]; exact .inl rfl))⟩
            · cases (show some _ = some o from ho)
              exact ⟨wanted_of (j := 3) rfl rfl (hitem 3 (by decide) ⟨hpre 3 rfl, hout _ (by decide)⟩), wp_move rfl (h1 _ _ (grown_refl _ none) (houter _ rfl) (by rw [houter _ rfl]; exact nob rfl) (by rw [houter _ rfl]; exact .inl rfl))⟩
            · cases (show some _ = some o from ho)
              exact ⟨wanted_of (j := 3) rfl rfl (hitem 3 (by decide) ⟨hpre 3 rfl, hout _ (by decide)⟩), wp_move rfl (h1 _ _ (grown_refl _ none) (houter _ rfl) (by rw [houter _ rfl]; exact nob rfl) (by rw [houter _ rfl]; exact .inl rfl))⟩
            · cases (show some _ = some o from ho)
              exact ⟨wanted_of (j := 3) rfl rfl (hitem 3 (by decide) ⟨hpre 3 rfl, hout _ (by decide)⟩), wp_not rfl (hitem 5 (by decide) ⟨hpre 5 rfl, hout _ (by decide)⟩) (h1 _ _ (grown_refl _ none) rfl (nob rfl) (.inl rfl))⟩
            · cases (show some _ = some o from ho)
              exact ⟨wanted_of (j := 3) rfl rfl (hitem 3 (by decide) ⟨hpre 3 rfl, hout _ (by decide)⟩), wp_bin rfl (hitem 4 (by decide) ⟨hpre 4 rfl, hout _ (by decide)⟩) (hitem 6 (by decide) ⟨hpre 6 rfl, hout _ (by decide)⟩) (guard_boolL _ _ _ _ _) (eqB_same _ _) (h1 _ _ (grown_refl _ none) rfl (nob rfl) (.inl rfl))⟩
            · cases (show some _ = some o from ho)
              have hc := hitem 3 (by decide) ⟨hpre 3 rfl, hout _ (by decide)⟩
              have hx := hitem 7 (by decide) ⟨hpre 7 rfl, hout _ (by decide)⟩
              exact ⟨rfl, wp_pick rfl hc (h1 _ _ (grown_refl _ none) hx (by rw [show a.eval (.tmp 110) = .bool true from hx]; exact nob rfl) (by rw [show a.eval (.tmp 110) = .bool true from hx]; exact .inl rfl))⟩
            · cases (show some _ = some o from ho)
              have hx := hitem 8 (by decide) ⟨hpre 8 rfl, hout _ (by decide)⟩
              exact ⟨rfl, wp_move rfl (h1 _ _ (grown_refl _ none) hx (by rw [show a.eval (.tmp 111) = .bool true from hx]; exact nob rfl) (by rw [show a.eval (.tmp 111) = .bool true from hx]; exact .inl rfl))⟩
            · cases (show some _ = some o from ho)
              exact ⟨wanted_of (j := 9) rfl rfl (hitem 9 (by decide) ⟨hpre 9 rfl, hout _ (by decide)⟩), wp_load_row 27 _ rfl _ (houter _ rfl) _ #[.int .i64 PE.count, .int .i64 PE.first, .slice A1 PE.pairs.length c1, .slice B1 PE.paths.length d1] (0, 0) _ (keep_of hb18' hg) Tryd.underlying27 rfl (size_pf) (h1 _ _ (grown_refl _ none) rfl (nob rfl) (.inl rfl))⟩
            · cases (show some _ = some o from ho)
              exact ⟨wanted_of (j := 9) rfl rfl (hitem 9 (by decide) ⟨hpre 9 rfl, hout _ (by decide)⟩), wp_load_row 27 _ rfl _ (houter _ rfl) _ #[.int .i64 PE.count, .int .i64 PE.first, .slice Ae PE.pairs.length ce, .slice Be PE.paths.length de] (0, 0) _ (keep_of hb22 hg) Tryd.underlying27 rfl (size_pf) (h1 _ _ (grown_refl _ none) rfl (nob rfl) (.inl rfl))⟩
            · cases (show some _ = some o from ho)
              have x113 : a.eval (.tmp 113) = (.agg #[.int .i64 PE.count, .int .i64 PE.first, .slice A1 PE.pairs.length c1, .slice B1 PE.paths.length d1]) := hitem 10 (by decide) ⟨hpre 10 rfl, hout _ (by decide)⟩
              have x114 : a.eval (.tmp 114) = (.agg #[.int .i64 PE.count, .int .i64 PE.first, .slice Ae PE.pairs.length ce, .slice Be PE.paths.length de]) := hitem 11 (by decide) ⟨hpre 11 rfl, hout _ (by decide)⟩
              refine ⟨wanted_of (j := 9) rfl rfl (hitem 9 (by decide) ⟨hpre 9 rfl, hout _ (by decide)⟩), wp_call rfl Tryd.func19 (by kernel_rfl) (by kernel_rfl) (args := #[(.agg #[.int .i64 PE.count, .int .i64 PE.first, .slice A1 PE.pairs.length c1, .slice B1 PE.paths.length d1]), (.agg #[.int .i64 PE.count, .int .i64 PE.first, .slice Ae PE.pairs.length ce, .slice Be PE.paths.length de])]) (by simp [x113, x114]) ((Proofs_any PE A1 B1 Ae Be c1 d1 ce de rs1 rse w (hp18'.kept hg) (hp22.kept hg) mE.1 mE.2.1 mE.2.2).mono ?_)⟩
              rintro e w' ⟨rfl, hg'⟩
              exact ⟨_, rfl, h1 _ _ hg' rfl (nob rfl) (.inl rfl)⟩
            · cases (show some _ = some o from ho)
              have hc := hitem 9 (by decide) ⟨hpre 9 rfl, hout _ (by decide)⟩
              have hx := hitem 12 (by decide) ⟨hpre 12 rfl, hout _ (by decide)⟩
              exact ⟨rfl, wp_pick rfl hc (h1 _ _ (grown_refl _ none) hx (by rw [show a.eval (.tmp 115) = .bool true from hx]; exact nob rfl) (by rw [show a.eval (.tmp 115) = .bool true from hx]; exact .inl rfl))⟩
            · cases (show some _ = some o from ho)
              have hx := hitem 13 (by decide) ⟨hpre 13 rfl, hout _ (by decide)⟩
              exact ⟨rfl, wp_move rfl (h1 _ _ (grown_refl _ none) hx (by rw [show a.eval (.tmp 116) = .bool true from hx]; exact nob rfl) (by rw [show a.eval (.tmp 116) = .bool true from hx]; exact .inl rfl))⟩
            · cases (show some _ = some o from ho)
              exact ⟨wanted_of (j := 14) rfl rfl (hitem 14 (by decide) ⟨hpre 14 rfl, hout _ (by decide)⟩), wp_load_row 27 _ rfl _ (houter _ rfl) _ #[.int .i64 PD.count, .int .i64 PD.first, .slice A2 PD.pairs.length c2, .slice B2 PD.paths.length d2] (0, 0) _ (keep_of hb20' hg) Tryd.underlying27 rfl (size_pf) (h1 _ _ (grown_refl _ none) rfl (nob rfl) (.inl rfl))⟩
            · cases (show some _ = some o from ho)
              exact ⟨wanted_of (j := 14) rfl rfl (hitem 14 (by decide) ⟨hpre 14 rfl, hout _ (by decide)⟩), wp_load_row 27 _ rfl _ (houter _ rfl) _ #[.int .i64 PD.count, .int .i64 PD.first, .slice Ad PD.pairs.length cd, .slice Bd PD.paths.length dd] (0, 0) _ (keep_of hb23 hg) Tryd.underlying27 rfl (size_pf) (h1 _ _ (grown_refl _ none) rfl (nob rfl) (.inl rfl))⟩
            · cases (show some _ = some o from ho)
              have x118 : a.eval (.tmp 118) = (.agg #[.int .i64 PD.count, .int .i64 PD.first, .slice A2 PD.pairs.length c2, .slice B2 PD.paths.length d2]) := hitem 15 (by decide) ⟨hpre 15 rfl, hout _ (by decide)⟩
              have x119 : a.eval (.tmp 119) = (.agg #[.int .i64 PD.count, .int .i64 PD.first, .slice Ad PD.pairs.length cd, .slice Bd PD.paths.length dd]) := hitem 16 (by decide) ⟨hpre 16 rfl, hout _ (by decide)⟩
              refine ⟨wanted_of (j := 14) rfl rfl (hitem 14 (by decide) ⟨hpre 14 rfl, hout _ (by decide)⟩), wp_call rfl Tryd.func19 (by kernel_rfl) (by kernel_rfl) (args := #[(.agg #[.int .i64 PD.count, .int .i64 PD.first, .slice A2 PD.pairs.length c2, .slice B2 PD.paths.length d2]), (.agg #[.int .i64 PD.count, .int .i64 PD.first, .slice Ad PD.pairs.length cd, .slice Bd PD.paths.length dd])]) (by simp [x118, x119]) ((Proofs_any PD A2 B2 Ad Bd c2 d2 cd dd rs2 rsd w (hp20'.kept hg) (hp23.kept hg) mD.1 mD.2.1 mD.2.2).mono ?_)⟩
              rintro e w' ⟨rfl, hg'⟩
              exact ⟨_, rfl, h1 _ _ hg' rfl (nob rfl) (.inl rfl)⟩
            · cases (show some _ = some o from ho)
              have hc := hitem 14 (by decide) ⟨hpre 14 rfl, hout _ (by decide)⟩
              have hx := hitem 17 (by decide) ⟨hpre 17 rfl, hout _ (by decide)⟩
              exact ⟨rfl, wp_pick rfl hc (h1 _ _ (grown_refl _ none) hx (by rw [show a.eval (.tmp 120) = .bool true from hx]; exact nob rfl) (by rw [show a.eval (.tmp 120) = .bool true from hx]; exact .inl rfl))⟩
            · cases (show some _ = some o from ho)
              have hx := hitem 18 (by decide) ⟨hpre 18 rfl, hout _ (by decide)⟩
              exact ⟨rfl, wp_move rfl (h1 _ _ (grown_refl _ none) hx (by rw [show a.eval (.tmp 121) = .bool true from hx]; exact nob rfl) (by rw [show a.eval (.tmp 121) = .bool true from hx]; exact .inl rfl))⟩
            · cases (show some _ = some o from ho)
              exact ⟨wanted_of (j := 19) rfl rfl (hitem 19 (by decide) ⟨hpre 19 rfl, hout _ (by decide)⟩), wp_move rfl (h1 _ _ (grown_refl _ none) (houter _ rfl) (by rw [houter _ rfl]; exact (fun g e => by cases (show (none : Option Nat) = some g from e))) (by rw [houter _ rfl]; exact .inl rfl))⟩
            · cases (show some _ = some o from ho)
              exact ⟨wanted_of (j := 19) rfl rfl (hitem 19 (by decide) ⟨hpre 19 rfl, hout _ (by decide)⟩), wp_move rfl (h1 _ _ (grown_refl _ none) (houter _ rfl) (by rw [houter _ rfl]; exact nob rfl) (by rw [houter _ rfl]; exact .inl rfl))⟩
            · cases (show some _ = some o from ho)
              exact ⟨wanted_of (j := 19) rfl rfl (hitem 19 (by decide) ⟨hpre 19 rfl, hout _ (by decide)⟩), wp_move rfl (h1 _ _ (grown_refl _ none) (houter _ rfl) (by rw [houter _ rfl]; exact nob rfl) (by rw [houter _ rfl]; exact .inl rfl))⟩
            · cases (show some _ = some o from ho)
              have x123 : a.eval (.tmp 123) = .slice Al ps.length cl := hitem 20 (by decide) ⟨hpre 20 rfl, hout _ (by decide)⟩
              have x124 : a.eval (.tmp 124) = .string ⟨x.toArray⟩ := hitem 21 (by decide) ⟨hpre 21 rfl, hout _ (by decide)⟩
              have x125 : a.eval (.tmp 125) = .string ⟨y.toArray⟩ := hitem 22 (by decide) ⟨hpre 22 rfl, hout _ (by decide)⟩
              refine ⟨wanted_of (j := 19) rfl rfl (hitem 19 (by decide) ⟨hpre 19 rfl, hout _ (by decide)⟩), wp_call rfl Tryd.func9 (by kernel_rfl) (by kernel_rfl) (args := #[.slice Al ps.length cl, .string ⟨x.toArray⟩, .string ⟨y.toArray⟩]) (by simp [x123, x124, x125]) ((kra w hg).mono ?_)⟩
              rintro e w' ⟨A, c, B, d, rs, rfl, hp, -, hg'⟩
              exact ⟨_, rfl, h1 _ _ hg' (⟨A, c, B, d, rs, rfl, hp⟩) (nob rfl) (.inl rfl)⟩
            · cases (show some _ = some o from ho)
              exact ⟨wanted_of (j := 19) rfl rfl (hitem 19 (by decide) ⟨hpre 19 rfl, hout _ (by decide)⟩), wp_move rfl (h1 _ _ (grown_refl _ none) (houter _ rfl) (by rw [houter _ rfl]; exact (fun g e => by cases (show (none : Option Nat) = some g from e))) (by rw [houter _ rfl]; exact .inl rfl))⟩
            · cases (show some _ = some o from ho)
              exact ⟨wanted_of (j := 19) rfl rfl (hitem 19 (by decide) ⟨hpre 19 rfl, hout _ (by decide)⟩), wp_move rfl (h1 _ _ (grown_refl _ none) (houter _ rfl) (by rw [houter _ rfl]; exact nob rfl) (by rw [houter _ rfl]; exact .inl rfl))⟩
            · cases (show some _ = some o from ho)
              exact ⟨wanted_of (j := 19) rfl rfl (hitem 19 (by decide) ⟨hpre 19 rfl, hout _ (by decide)⟩), wp_move rfl (h1 _ _ (grown_refl _ none) (houter _ rfl) (by rw [houter _ rfl]; exact nob rfl) (by rw [houter _ rfl]; exact .inl rfl))⟩
            · cases (show some _ = some o from ho)
              have x127 : a.eval (.tmp 127) = .slice Al ps.length cl := hitem 24 (by decide) ⟨hpre 24 rfl, hout _ (by decide)⟩
              have x128 : a.eval (.tmp 128) = .string ⟨x.toArray⟩ := hitem 25 (by decide) ⟨hpre 25 rfl, hout _ (by decide)⟩
              have x129 : a.eval (.tmp 129) = .string ⟨y.toArray⟩ := hitem 26 (by decide) ⟨hpre 26 rfl, hout _ (by decide)⟩
              refine ⟨wanted_of (j := 19) rfl rfl (hitem 19 (by decide) ⟨hpre 19 rfl, hout _ (by decide)⟩), wp_call rfl Tryd.func17 (by kernel_rfl) (by kernel_rfl) (args := #[.slice Al ps.length cl, .string ⟨x.toArray⟩, .string ⟨y.toArray⟩]) (by simp [x127, x128, x129]) ((krb w hg).mono ?_)⟩
              rintro e w' ⟨A, c, B, d, rs, rfl, hp, -, hg'⟩
              exact ⟨_, rfl, h1 _ _ hg' (⟨A, c, B, d, rs, rfl, hp⟩) (nob rfl) (.inl rfl)⟩
            · cases (show some _ = some o from ho)
              obtain ⟨Aa, ca, Ba, da, ra, ea, ha⟩ := hitem 23 (by decide) ⟨hpre 23 rfl, hout _ (by decide)⟩
              replace ea : a.eval (.tmp 126) = _ := ea
              obtain ⟨Ab, cb, Bb, db, rb, eb, hb'⟩ := hitem 27 (by decide) ⟨hpre 27 rfl, hout _ (by decide)⟩
              replace eb : a.eval (.tmp 130) = _ := eb
              refine ⟨wanted_of (j := 19) rfl rfl (hitem 19 (by decide) ⟨hpre 19 rfl, hout _ (by decide)⟩), wp_call rfl Tryd.func19 (by kernel_rfl) (by kernel_rfl) (args := #[pfv PR Aa ca Ba da, pfv PR Ab cb Bb db]) (by simp [ea, eb]) ((Proofs_any PR Aa Ba Ab Bb ca da cb db ra rb w ha hb' mR.1 mR.2.1 mR.2.2).mono ?_)⟩
              rintro e w' ⟨rfl, hg'⟩
              exact ⟨_, rfl, h1 _ _ hg' rfl (nob rfl) (.inl rfl)⟩
            · cases (show some _ = some o from ho)
              have hc := hitem 19 (by decide) ⟨hpre 19 rfl, hout _ (by decide)⟩
              have hx := hitem 28 (by decide) ⟨hpre 28 rfl, hout _ (by decide)⟩
              exact ⟨rfl, wp_pick rfl hc (h1 _ _ (grown_refl _ none) hx (by rw [show a.eval (.tmp 131) = .bool true from hx]; exact nob rfl) (by rw [show a.eval (.tmp 131) = .bool true from hx]; exact .inl rfl))⟩
            · cases (show some _ = some o from ho)
              have hx := hitem 29 (by decide) ⟨hpre 29 rfl, hout _ (by decide)⟩
              exact ⟨rfl, wp_move rfl (h1 _ _ (grown_refl _ none) hx (by rw [show a.eval (.tmp 132) = .bool true from hx]; exact nob rfl) (by rw [show a.eval (.tmp 132) = .bool true from hx]; exact .inl rfl))⟩
            · cases (show some _ = some o from ho)
              exact ⟨wanted_of (j := 30) rfl rfl (hitem 30 (by decide) ⟨hpre 30 rfl, hout _ (by decide)⟩), wp_load_row 27 _ rfl _ (houter _ rfl) _ #[.int .i64 PS.count, .int .i64 PS.first, .slice A5 PS.pairs.length c5, .slice B5 PS.paths.length d5] (0, 0) _ (keep_of hb24 hg) Tryd.underlying27 rfl (size_pf) (h1 _ _ (grown_refl _ none) rfl (nob rfl) (.inl rfl))⟩
            · cases (show some _ = some o from ho)
              exact ⟨wanted_of (j := 30) rfl rfl (hitem 30 (by decide) ⟨hpre 30 rfl, hout _ (by decide)⟩), wp_move rfl (h1 _ _ (grown_refl _ none) (houter _ rfl) (by rw [houter _ rfl]; exact (fun g e => by cases (show (none : Option Nat) = some g from e))) (by rw [houter _ rfl]; exact .inl rfl))⟩
            · cases (show some _ = some o from ho)
              exact ⟨wanted_of (j := 30) rfl rfl (hitem 30 (by decide) ⟨hpre 30 rfl, hout _ (by decide)⟩), wp_move rfl (h1 _ _ (grown_refl _ none) (houter _ rfl) (by rw [houter _ rfl]; exact nob rfl) (by rw [houter _ rfl]; exact .inl rfl))⟩
            · cases (show some _ = some o from ho)
              exact ⟨wanted_of (j := 30) rfl rfl (hitem 30 (by decide) ⟨hpre 30 rfl, hout _ (by decide)⟩), wp_max rfl (hitem 33 (by decide) ⟨hpre 33 rfl, hout _ (by decide)⟩) rfl hi0 (h1 _ _ (grown_refl _ none) rfl (nob rfl) (.inl rfl))⟩
            · cases (show some _ = some o from ho)
              exact ⟨wanted_of (j := 30) rfl rfl (hitem 30 (by decide) ⟨hpre 30 rfl, hout _ (by decide)⟩), wp_move rfl (h1 _ _ (grown_refl _ none) (houter _ rfl) (by rw [houter _ rfl]; exact nob rfl) (by rw [houter _ rfl]; exact .inl rfl))⟩
            · cases (show some _ = some o from ho)
              exact ⟨wanted_of (j := 30) rfl rfl (hitem 30 (by decide) ⟨hpre 30 rfl, hout _ (by decide)⟩), wp_move rfl (h1 _ _ (grown_refl _ none) (houter _ rfl) (by rw [houter _ rfl]; exact (fun g e => by cases (show (none : Option Nat) = some g from e))) (by rw [houter _ rfl]; exact .inl rfl))⟩
            · cases (show some _ = some o from ho)
              exact ⟨wanted_of (j := 30) rfl rfl (hitem 30 (by decide) ⟨hpre 30 rfl, hout _ (by decide)⟩), wp_len rfl (by kernel_rfl) (hitem 36 (by decide) ⟨hpre 36 rfl, hout _ (by decide)⟩) (h1 _ _ (grown_refl _ none) rfl (nob rfl) (.inl rfl))⟩
            · cases (show some _ = some o from ho)
              exact ⟨wanted_of (j := 30) rfl rfl (hitem 30 (by decide) ⟨hpre 30 rfl, hout _ (by decide)⟩), wp_min rfl (hitem 35 (by decide) ⟨hpre 35 rfl, hout _ (by decide)⟩) (hitem 37 (by decide) ⟨hpre 37 rfl, hout _ (by decide)⟩) hjz (h1 _ _ (grown_refl _ none) rfl (nob rfl) (.inl rfl))⟩
            · cases (show some _ = some o from ho)
              have x135 : a.eval (.tmp 135) = .slice Al ps.length cl := hitem 32 (by decide) ⟨hpre 32 rfl, hout _ (by decide)⟩
              have x137 : a.eval (.tmp 137) = .int .i64 (i0 : Int) := hitem 34 (by decide) ⟨hpre 34 rfl, hout _ (by decide)⟩
              have x141 : a.eval (.tmp 141) = .int .i64 jz := hitem 38 (by decide) ⟨hpre 38 rfl, hout _ (by decide)⟩
              refine ⟨wanted_of (j := 30) rfl rfl (hitem 30 (by decide) ⟨hpre 30 rfl, hout _ (by decide)⟩), wp_call rfl Tryd.func16 (by kernel_rfl) (by kernel_rfl) (args := #[.slice Al ps.length cl, .int .i64 (i0 : Int), .int .i64 jz]) (by simp [x135, x137, x141]) ((kpp w hg).mono ?_)⟩
              rintro e w' ⟨A, c, B, d, rs, rfl, hp, -, hg'⟩
              exact ⟨_, rfl, h1 _ _ hg' (⟨A, c, B, d, rs, rfl, hp⟩) (nob rfl) (.inl rfl)⟩
            · cases (show some _ = some o from ho)
              have ea : a.eval (.tmp 134) = pfv PS A5 c5 B5 d5 := hitem 31 (by decide) ⟨hpre 31 rfl, hout _ (by decide)⟩
              obtain ⟨Ab, cb, Bb, db, rb, eb, hb'⟩ := hitem 39 (by decide) ⟨hpre 39 rfl, hout _ (by decide)⟩
              replace eb : a.eval (.tmp 142) = _ := eb
              refine ⟨wanted_of (j := 30) rfl rfl (hitem 30 (by decide) ⟨hpre 30 rfl, hout _ (by decide)⟩), wp_call rfl Tryd.func19 (by kernel_rfl) (by kernel_rfl) (args := #[pfv PS A5 c5 B5 d5, pfv PS Ab cb Bb db]) (by simp [ea, eb]) ((Proofs_any PS A5 B5 Ab Bb c5 d5 cb db rs5 rb w (hp24.kept hg) hb' mS.1 mS.2.1 mS.2.2).mono ?_)⟩
              rintro e w' ⟨rfl, hg'⟩
              exact ⟨_, rfl, h1 _ _ hg' rfl (nob rfl) (.inl rfl)⟩
            · cases (show some _ = some o from ho)
              have hc := hitem 30 (by decide) ⟨hpre 30 rfl, hout _ (by decide)⟩
              have hx := hitem 40 (by decide) ⟨hpre 40 rfl, hout _ (by decide)⟩
              exact ⟨rfl, wp_pick rfl hc (h1 _ _ (grown_refl _ none) hx (by rw [show a.eval (.tmp 143) = .bool true from hx]; exact nob rfl) (by rw [show a.eval (.tmp 143) = .bool true from hx]; exact .inl rfl))⟩
            · cases (show some _ = some o from ho)
              have hx := hitem 41 (by decide) ⟨hpre 41 rfl, hout _ (by decide)⟩
              exact ⟨rfl, wp_move rfl (h1 _ _ (grown_refl _ none) hx (by rw [show a.eval (.tmp 144) = .bool true from hx]; exact nob rfl) (by rw [show a.eval (.tmp 144) = .bool true from hx]; exact .inl rfl))⟩
            · cases (show some _ = some o from ho)
              exact ⟨wanted_of (j := 42) rfl rfl (hitem 42 (by decide) ⟨hpre 42 rfl, hout _ (by decide)⟩), wp_load_row 27 _ rfl _ (houter _ rfl) _ #[.int .i64 PS.count, .int .i64 PS.first, .slice A5 PS.pairs.length c5, .slice B5 PS.paths.length d5] (0, 0) _ (keep_of hb24 hg) Tryd.underlying27 rfl (size_pf) (h1 _ _ (grown_refl _ none) rfl (nob rfl) (.inl rfl))⟩
            · cases (show some _ = some o from ho)
              have x146 : a.eval (.tmp 146) = (.agg #[.int .i64 PS.count, .int .i64 PS.first, .slice A5 PS.pairs.length c5, .slice B5 PS.paths.length d5]) := hitem 43 (by decide) ⟨hpre 43 rfl, hout _ (by decide)⟩
              refine ⟨wanted_of (j := 42) rfl rfl (hitem 42 (by decide) ⟨hpre 42 rfl, hout _ (by decide)⟩), wp_call rfl Tryd.func10 (by kernel_rfl) (by kernel_rfl) (args := #[(.agg #[.int .i64 PS.count, .int .i64 PS.first, .slice A5 PS.pairs.length c5, .slice B5 PS.paths.length d5])]) (by simp [x146]) ((ks w hg).mono ?_)⟩
              rintro e w' ⟨rfl, hg'⟩
              exact ⟨_, rfl, h1 _ _ hg' rfl (nob rfl) (.inl rfl)⟩
            · cases (show some _ = some o from ho)
              exact ⟨wanted_of (j := 42) rfl rfl (hitem 42 (by decide) ⟨hpre 42 rfl, hout _ (by decide)⟩), wp_move rfl (h1 _ _ (grown_refl _ none) (houter _ rfl) (by rw [houter _ rfl]; exact nob rfl) (by rw [houter _ rfl]; exact .inl rfl))⟩
            · cases (show some _ = some o from ho)
              exact ⟨wanted_of (j := 42) rfl rfl (hitem 42 (by decide) ⟨hpre 42 rfl, hout _ (by decide)⟩), wp_bin rfl (hitem 44 (by decide) ⟨hpre 44 rfl, hout _ (by decide)⟩) (hitem 45 (by decide) ⟨hpre 45 rfl, hout _ (by decide)⟩) (guard_int _ _ _ _ _) (eql_i64 _ _ _ (rfl)) (h1 _ _ (grown_refl _ none) rfl (nob rfl) (.inl rfl))⟩
            · cases (show some _ = some o from ho)
              have hc := hitem 42 (by decide) ⟨hpre 42 rfl, hout _ (by decide)⟩
              have hx := hitem 46 (by decide) ⟨hpre 46 rfl, hout _ (by decide)⟩
              exact ⟨rfl, wp_pick rfl hc (h1 _ _ (grown_refl _ none) hx (by rw [show a.eval (.tmp 149) = .bool true from hx]; exact nob rfl) (by rw [show a.eval (.tmp 149) = .bool true from hx]; exact .inl rfl))⟩
            · cases (show some _ = some o from ho)
              have hx := hitem 47 (by decide) ⟨hpre 47 rfl, hout _ (by decide)⟩
              exact ⟨rfl, wp_move rfl (h1 _ _ (grown_refl _ none) hx (by rw [show a.eval (.tmp 150) = .bool true from hx]; exact nob rfl) (by rw [show a.eval (.tmp 150) = .bool true from hx]; exact .inl rfl))⟩
            · cases (show some _ = some o from ho)
              refine ⟨wanted_of (j := 48) rfl rfl (hitem 48 (by decide) ⟨hpre 48 rfl, hout _ (by decide)⟩), wp_call rfl Tryd.func3 (by kernel_rfl) (by kernel_rfl) (args := #[]) (by simp []) ((ProveRuns_any KP w (hk.kept hg)).mono ?_)⟩
              rintro e w' ⟨rfl, hg'⟩
              exact ⟨_, rfl, h1 _ _ hg' rfl (nob rfl) (.inl rfl)⟩
            · cases (show some _ = some o from ho)
              have hc := hitem 48 (by decide) ⟨hpre 48 rfl, hout _ (by decide)⟩
              have hx := hitem 49 (by decide) ⟨hpre 49 rfl, hout _ (by decide)⟩
              exact ⟨rfl, wp_pick rfl hc (h1 _ _ (grown_refl _ none) hx (by rw [show a.eval (.tmp 152) = .bool true from hx]; exact nob rfl) (by rw [show a.eval (.tmp 152) = .bool true from hx]; exact .inl rfl))⟩
          · intro a wT hgT hend hap ha
            obtain ⟨f, hf⟩ : ∃ f : Nat → Value, f = fun t => a.tmps.getD t undef := ⟨_, rfl⟩
            have s153 : f 153 = .bool true := by rw [hf]; exact (hend 50 (by decide) (by decide)).1
            rw [← hf] at ha
            clear hend hap
            clear hf
            subst ha
            simp only [fill, ptaS, Nat.reduceAdd, Nat.reduceBEq, Bool.or_false, Bool.or_true, cond_true, cond_false, s153]
            clear s153
            change wpList _ _ _ [_] _ _
            go_wp2_with fail
            go_ret
            exact ⟨rfl, grown_none hgw3 hgT⟩
end Go.Proofs.YtpeepiboocdnaaaDoor
