/- ProveNone. -/
import Derived.Test.YtpeepiboocdnaaaDoorPvG
import Derived.Test.YtpeepiboocdnaaaDoorPvH
import Derived.Test.YtpeepiboocdnaaaDoorKO
import Derived.Test.YtpeepiboocdnaaaDoorKJ
import Derived.Test.YtpeepiboocdnaaaDoorKN
namespace Go.Proofs.YtpeepiboocdnaaaDoor
open Go.RowKit

theorem has_no {ps : List Kv} {k : List UInt8} (h : ∀ p ∈ ps, p.1 ≠ k) : hasK ps k = false := by
  have : atL ps k = [] := List.filter_eq_nil_iff.2 fun q hq e => h q hq (beq_iff_eq.1 e)
  unfold hasK
  rw [this]; rfl
theorem low_none {ps : List Kv} {k : List UInt8} (h : ∀ p ∈ ps, kl p.1 k = false) : lowN ps k = 0 := by
  have : loL ps k = [] := List.filter_eq_nil_iff.2 fun q hq e => by rw [h q hq] at e; cases e
  unfold lowN
  rw [this]; rfl
theorem low_all {ps : List Kv} {k : List UInt8} (h : ∀ p ∈ ps, kl p.1 k = true) : lowN ps k = ps.length := by
  have : loL ps k = ps := List.filter_eq_self.2 fun q hq => h q hq
  unfold lowN
  rw [this]
theorem keys_A : ∀ k ∈ keysK, kl k [65] = false ∧ k ≠ [65] := by decide
theorem keys_Z : ∀ k ∈ keysK, kl k [122, 122, 122] = true ∧ k ≠ [122, 122, 122] := by decide
theorem someL_0 (ps : List Kv) (i : Nat) : someL ps i i = ⟨ps.length, 0, [], []⟩ := by unfold someL; rw [if_neg (by omega)]
theorem someL_1 (ps : List Kv) (i : Nat) (h : i < ps.length) : (someL ps i (i + 1)).pairs = [ps[i]] ∧ (someL ps i (i + 1)).first = i ∧ (someL ps i (i + 1)).count = ps.length := by
  unfold someL
  rw [if_pos (by omega)]
  refine ⟨?_, rfl, rfl⟩
  show (ps.drop i).take (i + 1 - i) = _
  rw [show i + 1 - i = 1 by omega, List.drop_eq_getElem_cons h]; rfl
theorem someL_len (ps : List Kv) (i j : Nat) (h : j ≤ ps.length) : (someL ps i j).pairs.length = j - i := by
  unfold someL
  split
  · show ((ps.drop i).take (j - i)).length = _
    rw [List.length_take, List.length_drop]; omega
  · show 0 = _
    omega
theorem eql_kv (x : Kv) (w : World) : (binOp .eql 23 (.agg #[.string ⟨x.1.toArray⟩, .string ⟨x.2.toArray⟩]) (.agg #[.string ⟨x.1.toArray⟩, .string ⟨x.2.toArray⟩])).run Tryd.prog w = .ok (.bool true) w := by
  have h := neq_kv x x w
  have e : ∀ (u v : Array Value), (binOp .neq 23 (.agg u) (.agg v)).run Tryd.prog w = ((Op.equalIn 10000 23 (.agg u) (.agg v)).run Tryd.prog w).andThen fun b w' => .ok (.bool (!b)) w' := fun u v => by simp only [binOp, Op.equal, Op.maxDepth, Sem.run_bind, Sem.run_pure]
  have e2 : ∀ (u v : Array Value), (binOp .eql 23 (.agg u) (.agg v)).run Tryd.prog w = ((Op.equalIn 10000 23 (.agg u) (.agg v)).run Tryd.prog w).andThen fun b w' => .ok (.bool b) w' := fun u v => by simp only [binOp, Op.equal, Op.maxDepth, Sem.run_bind, Sem.run_pure]
  rw [e] at h
  rw [e2]
  cases hq : (Op.equalIn 10000 23 (.agg #[.string ⟨x.1.toArray⟩, .string ⟨x.2.toArray⟩]) (.agg #[.string ⟨x.1.toArray⟩, .string ⟨x.2.toArray⟩])).run Tryd.prog w with
  | ok b w' =>
    rw [hq] at h
    simp only [Result.andThen_ok, Result.ok.injEq, Value.bool.injEq, beq_self_eq_true, Bool.not_true] at h
    rw [Result.andThen_ok, h.2]
    have hb : b = true := by have := h.1; cases b <;> simp_all
    rw [hb]
  | _ => rw [hq] at h; simp [Result.andThen] at h

theorem quiet_load_kv {o : Oper} {a : Act} {C : World → Prop} {K : Act → Prop} (x : Operand) (ho : o.op = .load 23 x)
    (ad : Addr) (hx : a.eval x = .pointer (some ad)) (p : Kv) (hc : ∀ w, C w → AtQ w ad p) (h : K (a.put o.dst (.agg #[.string ⟨p.1.toArray⟩, .string ⟨p.2.toArray⟩]))) : o.quiet Tryd.prog a C K := ⟨.agg #[.string ⟨p.1.toArray⟩, .string ⟨p.2.toArray⟩], fun w hw => by
  have hl := run_loadVar_cells (P := Tryd.prog) w ad 23 [sv p.1, sv p.2] _ (fun j u hu => by
    match j, hu with
    | 0, hu => cases hu; have e : ad.add 0 = ad := by unfold Addr.add; split <;> simp_all
               rw [e]; exact (hc w hw).1
    | 1, hu => cases hu; rw [add_one]; exact (hc w hw).2) Tryd.underlying23 rfl size_kv
  unfold Oper.quietAt execOp
  simp only [ho, hx, Instr.loadAt, Instr.sureAddr, Sem.run_bind, Sem.run_pure, Result.andThen_ok, hl]
  exact ⟨rfl, rfl⟩, h⟩

set_option maxRecDepth 100000 in
set_option maxHeartbeats 2000000 in
theorem ProveNone_any (K : ProveK) (A0 : Option Addr) (c0 : Nat) (ns : List Int) (n1 : Int) (z : List UInt8) (w : World) (hk : Laid2 w) (hr : RdI w A0 ns) :
    Calls Tryd.prog 7 #[.slice A0 ns.length c0, .int .i64 n1, .string ⟨z.toArray⟩] w fun e w' => e = .returned (.bool true) ∧ w.grownBy w' none := by
  have kp := Pairs_any A0 c0 ns w hr
  obtain ⟨x, hx, kx⟩ := KKey_any n1
  generalize ns.length = N0 at *
  go_enter Tryd.func7, Tryd.ntmps7
  go_upto_region 3 with (first
    | (go_at_call 11; refine kp.mono ?_; clear kp; rintro e w1 ⟨v1, ps, rfl, hkept, hpb, hg1⟩; obtain ⟨Al, cl, rfl, hcl, hrl, hbl⟩ := hpb.form)
    | (go_at_call 12; refine (kx _).mono ?_; clear kx; rintro e w3 ⟨rfl, hg2⟩))
  have hlen := hkept.len
  have hin : ∀ p ∈ ps, p.1 ∈ keysK := fun p hp => hkept.1.subset (List.mem_map_of_mem hp)
  have hgw3 : w.grownBy w3 none := grown_none hg1 hg2
  have hrow : RowQ w3 Al cl ps := ⟨hrl.kept hg2, hcl, hkept.rises, by omega, fun p hp => by have := hkept.may p hp; unfold mayQ at this; rw [decide_eq_true_iff] at this; omega⟩
  replace hk := hk.kept hgw3
  have hup := hrow.up
  have ke := fun W (hg : w3.grownBy W none) => K.exist x (hrow.kept hg) (hk.kept hg)
  have kd := fun W (hg : w3.grownBy W none) => K.absent x (hrow.kept hg) (hk.kept hg)
  have kA := fun W (hg : w3.grownBy W none) => K.absent [65] (hrow.kept hg) (hk.kept hg)
  have kZ := fun W (hg : w3.grownBy W none) => K.absent [122, 122, 122] (hrow.kept hg) (hk.kept hg)
  have hr0 : ∀ W, RowQ W none 0 [] := fun W => ⟨RdAt.nil, Nat.le_refl _, List.Pairwise.nil, by simp, by simp⟩
  have ko : ∀ (S : ByteArray) W, w3.grownBy W none → Calls Tryd.prog 15 #[.slice none 0 0, .string S] W fun e w' => PfBAt W zeroP false e w' := fun S W hg => by
    have h := K.exist S.data.toList (hr0 W) (hk.kept hg)
    rw [Array.toArray_toList, List.length_nil] at h
    exact h
  have kq : ∀ (S : ByteArray) W, w3.grownBy W none → Calls Tryd.prog 8 #[.slice none 0 0, .string S] W fun e w' => PfBAt W zeroP true e w' := fun S W hg => by
    have h := K.absent S.data.toList (hr0 W) (hk.kept hg)
    rw [Array.toArray_toList, List.length_nil] at h
    exact h
  have hA := has_no fun p hp => (keys_A p.1 (hin p hp)).2
  have hZ := has_no fun p hp => (keys_Z p.1 (hin p hp)).2
  have lA := low_none fun p hp => (keys_A p.1 (hin p hp)).1
  have lZ := low_all fun p hp => (keys_Z p.1 (hin p hp)).1
  have eA : absentL ps [65] = someL ps 0 (min 1 ps.length) := by unfold absentL coverL; rw [if_neg (by rw [hA]; decide), lA]; rfl
  have eZ : absentL ps [122, 122, 122] = someL ps (ps.length - 1) ps.length := by unfold absentL coverL; rw [if_neg (by rw [hZ]; decide), lZ]; congr 1; omega
  have eE : hasK ps x = true → (existL ps x).pairs.length = 1 ∧ 0 < ps.length := fun h => by
    have hl : lowN ps x < ps.length := by
      by_cases hl : lowN ps x < ps.length
      · exact hl
      · rw [has_end hup x hl] at h; cases h
    unfold existL
    rw [if_pos h, someL_len _ _ _ (by omega)]; omega
  have eD : hasK ps x = false → 0 < ps.length → 1 ≤ (absentL ps x).pairs.length ∧ (absentL ps x).pairs.length ≤ 2 := fun h h0 => by
    have := lowN_le ps x
    unfold absentL coverL
    rw [if_neg (by rw [h]; decide), someL_len _ _ _ (by omega)]; omega
  rw [hA] at kA
  rw [hZ] at kZ
  generalize existL ps x = PE at *
  generalize absentL ps x = PD at *
  generalize absentL ps [65] = PA at *
  generalize absentL ps [122, 122, 122] = PZ at *
  generalize hasK ps x = hb at *
  replace eE := Lib.hid eE
  replace eD := Lib.hid eD
  replace eA := Lib.hid eA
  replace eZ := Lib.hid eZ
  obtain ⟨PO, hPO⟩ : ∃ P, P = zeroP := ⟨_, rfl⟩
  obtain ⟨PQ, hPQ⟩ : ∃ P, P = zeroP := ⟨_, rfl⟩
  rw [← hPO] at ko
  rw [← hPQ] at kq
  replace hPO := Lib.hid hPO
  replace hPQ := Lib.hid hPQ
  clear hA hZ lA lZ hin hkept hr hpb hrl hbl hcl
  go_upto_region 4 with (first
    | (go_at_call 15; refine (ke _ (grown_refl w3 none)).mono ?_; clear ke; rintro e wa ⟨A9, c9, B9, d9, rs9, rfl, hp9, -, hga⟩; unfold pfv; have hst := store_pf PE.count PE.first A9 B9 PE.pairs.length PE.paths.length c9 d9 wa))
  clear hst
  have hb9 : (wa.alloc (.cells #[.int .i64 PE.count, .int .i64 PE.first, .slice A9 PE.pairs.length c9, .slice B9 PE.paths.length d9] 27)).heap[wa.heap.size]? = some (.cells #[.int .i64 PE.count, .int .i64 PE.first, .slice A9 PE.pairs.length c9, .slice B9 PE.paths.length d9] 27 (0, 0)) := alloc_at rfl
  have hgn := grown_alloc hga (.cells #[.int .i64 PE.count, .int .i64 PE.first, .slice A9 PE.pairs.length c9, .slice B9 PE.paths.length d9] 27)
  replace hp9 := hp9.kept (grown_alloc (grown_refl wa none) (.cells #[.int .i64 PE.count, .int .i64 PE.first, .slice A9 PE.pairs.length c9, .slice B9 PE.paths.length d9] 27))
  generalize wa.alloc (.cells #[.int .i64 PE.count, .int .i64 PE.first, .slice A9 PE.pairs.length c9, .slice B9 PE.paths.length d9] 27) = W9 at *
  generalize wa.heap.size = g9 at *
  have hG9 := grown_none (grown_refl w3 none) hgn
  clear hga hgn
  go_upto_region 5 with (first
    | (go_at_call 8; refine (kd _ hG9).mono ?_; clear kd; rintro e wa ⟨A11, c11, B11, d11, rs11, rfl, hp11, -, hga⟩; unfold pfv; have hst := store_pf PD.count PD.first A11 B11 PD.pairs.length PD.paths.length c11 d11 wa))
  clear hst
  have hb11 : (wa.alloc (.cells #[.int .i64 PD.count, .int .i64 PD.first, .slice A11 PD.pairs.length c11, .slice B11 PD.paths.length d11] 27)).heap[wa.heap.size]? = some (.cells #[.int .i64 PD.count, .int .i64 PD.first, .slice A11 PD.pairs.length c11, .slice B11 PD.paths.length d11] 27 (0, 0)) := alloc_at rfl
  have hgn := grown_alloc hga (.cells #[.int .i64 PD.count, .int .i64 PD.first, .slice A11 PD.pairs.length c11, .slice B11 PD.paths.length d11] 27)
  replace hp11 := hp11.kept (grown_alloc (grown_refl wa none) (.cells #[.int .i64 PD.count, .int .i64 PD.first, .slice A11 PD.pairs.length c11, .slice B11 PD.paths.length d11] 27))
  generalize wa.alloc (.cells #[.int .i64 PD.count, .int .i64 PD.first, .slice A11 PD.pairs.length c11, .slice B11 PD.paths.length d11] 27) = W11 at *
  generalize wa.heap.size = g11 at *
  have hG11 := grown_none hG9 hgn
  replace hb9 := keep_of hb9 hgn
  replace hp9 := hp9.kept hgn
  clear hga hgn
  go_upto_region 6 with (first
    | (go_at_call 8; refine (kA _ hG11).mono ?_; clear kA; rintro e wa ⟨A13, c13, B13, d13, rs13, rfl, hp13, -, hga⟩; unfold pfv; have hst := store_pf PA.count PA.first A13 B13 PA.pairs.length PA.paths.length c13 d13 wa))
  clear hst
  have hb13 : (wa.alloc (.cells #[.int .i64 PA.count, .int .i64 PA.first, .slice A13 PA.pairs.length c13, .slice B13 PA.paths.length d13] 27)).heap[wa.heap.size]? = some (.cells #[.int .i64 PA.count, .int .i64 PA.first, .slice A13 PA.pairs.length c13, .slice B13 PA.paths.length d13] 27 (0, 0)) := alloc_at rfl
  have hgn := grown_alloc hga (.cells #[.int .i64 PA.count, .int .i64 PA.first, .slice A13 PA.pairs.length c13, .slice B13 PA.paths.length d13] 27)
  replace hp13 := hp13.kept (grown_alloc (grown_refl wa none) (.cells #[.int .i64 PA.count, .int .i64 PA.first, .slice A13 PA.pairs.length c13, .slice B13 PA.paths.length d13] 27))
  generalize wa.alloc (.cells #[.int .i64 PA.count, .int .i64 PA.first, .slice A13 PA.pairs.length c13, .slice B13 PA.paths.length d13] 27) = W13 at *
  generalize wa.heap.size = g13 at *
  have hG13 := grown_none hG11 hgn
  replace hb9 := keep_of hb9 hgn
  replace hp9 := hp9.kept hgn
  replace hb11 := keep_of hb11 hgn
  replace hp11 := hp11.kept hgn
  clear hga hgn
  go_upto_region 7 with (first
    | (go_at_call 8; refine (kZ _ hG13).mono ?_; clear kZ; rintro e wa ⟨A15, c15, B15, d15, rs15, rfl, hp15, -, hga⟩; unfold pfv; have hst := store_pf PZ.count PZ.first A15 B15 PZ.pairs.length PZ.paths.length c15 d15 wa))
  clear hst
  have hb15 : (wa.alloc (.cells #[.int .i64 PZ.count, .int .i64 PZ.first, .slice A15 PZ.pairs.length c15, .slice B15 PZ.paths.length d15] 27)).heap[wa.heap.size]? = some (.cells #[.int .i64 PZ.count, .int .i64 PZ.first, .slice A15 PZ.pairs.length c15, .slice B15 PZ.paths.length d15] 27 (0, 0)) := alloc_at rfl
  have hgn := grown_alloc hga (.cells #[.int .i64 PZ.count, .int .i64 PZ.first, .slice A15 PZ.pairs.length c15, .slice B15 PZ.paths.length d15] 27)
  replace hp15 := hp15.kept (grown_alloc (grown_refl wa none) (.cells #[.int .i64 PZ.count, .int .i64 PZ.first, .slice A15 PZ.pairs.length c15, .slice B15 PZ.paths.length d15] 27))
  generalize wa.alloc (.cells #[.int .i64 PZ.count, .int .i64 PZ.first, .slice A15 PZ.pairs.length c15, .slice B15 PZ.paths.length d15] 27) = W15 at *
  generalize wa.heap.size = g15 at *
  have hG15 := grown_none hG13 hgn
  replace hb9 := keep_of hb9 hgn
  replace hp9 := hp9.kept hgn
  replace hb11 := keep_of hb11 hgn
  replace hp11 := hp11.kept hgn
  replace hb13 := keep_of hb13 hgn
  replace hp13 := hp13.kept hgn
  clear hga hgn
  go_upto_region 8 with (fail)
  generalize (if (16 : Int) < (z.length : Int) then (16 : Int) else (z.length : Int)) = mm
  generalize ByteArray.extract ⟨z.toArray⟩ 0 mm.toNat = S
  go_upto_region 9 with (first
    | (go_at_call 15; refine (ko _ _ hG15).mono ?_; clear ko; rintro e wa ⟨A17, c17, B17, d17, rs17, rfl, hp17, -, hga⟩; unfold pfv; have hst := store_pf PO.count PO.first A17 B17 PO.pairs.length PO.paths.length c17 d17 wa))
  clear hst
  have hb17 : (wa.alloc (.cells #[.int .i64 PO.count, .int .i64 PO.first, .slice A17 PO.pairs.length c17, .slice B17 PO.paths.length d17] 27)).heap[wa.heap.size]? = some (.cells #[.int .i64 PO.count, .int .i64 PO.first, .slice A17 PO.pairs.length c17, .slice B17 PO.paths.length d17] 27 (0, 0)) := alloc_at rfl
  have hgn := grown_alloc hga (.cells #[.int .i64 PO.count, .int .i64 PO.first, .slice A17 PO.pairs.length c17, .slice B17 PO.paths.length d17] 27)
  replace hp17 := hp17.kept (grown_alloc (grown_refl wa none) (.cells #[.int .i64 PO.count, .int .i64 PO.first, .slice A17 PO.pairs.length c17, .slice B17 PO.paths.length d17] 27))
  generalize wa.alloc (.cells #[.int .i64 PO.count, .int .i64 PO.first, .slice A17 PO.pairs.length c17, .slice B17 PO.paths.length d17] 27) = W17 at *
  generalize wa.heap.size = g17 at *
  have hG17 := grown_none hG15 hgn
  replace hb9 := keep_of hb9 hgn
  replace hp9 := hp9.kept hgn
  replace hb11 := keep_of hb11 hgn
  replace hp11 := hp11.kept hgn
  replace hb13 := keep_of hb13 hgn
  replace hp13 := hp13.kept hgn
  replace hb15 := keep_of hb15 hgn
  replace hp15 := hp15.kept hgn
  clear hga hgn
  go_upto_region 10 with (first
    | (go_at_call 8; refine (kq _ _ hG17).mono ?_; clear kq; rintro e wa ⟨A19, c19, B19, d19, rs19, rfl, hp19, -, hga⟩; unfold pfv; have hst := store_pf PQ.count PQ.first A19 B19 PQ.pairs.length PQ.paths.length c19 d19 wa))
  clear hst
  have hb19 : (wa.alloc (.cells #[.int .i64 PQ.count, .int .i64 PQ.first, .slice A19 PQ.pairs.length c19, .slice B19 PQ.paths.length d19] 27)).heap[wa.heap.size]? = some (.cells #[.int .i64 PQ.count, .int .i64 PQ.first, .slice A19 PQ.pairs.length c19, .slice B19 PQ.paths.length d19] 27 (0, 0)) := alloc_at rfl
  have hgn := grown_alloc hga (.cells #[.int .i64 PQ.count, .int .i64 PQ.first, .slice A19 PQ.pairs.length c19, .slice B19 PQ.paths.length d19] 27)
  replace hp19 := hp19.kept (grown_alloc (grown_refl wa none) (.cells #[.int .i64 PQ.count, .int .i64 PQ.first, .slice A19 PQ.pairs.length c19, .slice B19 PQ.paths.length d19] 27))
  generalize wa.alloc (.cells #[.int .i64 PQ.count, .int .i64 PQ.first, .slice A19 PQ.pairs.length c19, .slice B19 PQ.paths.length d19] 27) = W19 at *
  generalize wa.heap.size = g19 at *
  have hG19 := grown_none hG17 hgn
  replace hb9 := keep_of hb9 hgn
  replace hp9 := hp9.kept hgn
  replace hb11 := keep_of hb11 hgn
  replace hp11 := hp11.kept hgn
  replace hb13 := keep_of hb13 hgn
  replace hp13 := hp13.kept hgn
  replace hb15 := keep_of hb15 hgn
  replace hp15 := hp15.kept hgn
  replace hb17 := keep_of hb17 hgn
  replace hp17 := hp17.kept hgn
  clear hga hgn
  replace hrow := hrow.kept hG19
  replace hk := hk.kept hG19
  have hgw := grown_none hgw3 hG19
  have kr := fun W (hg : W19.grownBy W none) => ProveRuns_any K W (hk.kept hg)
  have c17' : W19.cell? ⟨g17, 2, none⟩ = some (.slice A17 0 c17) := by rw [cell_of_row W19 _ 2 _ _ _ hb17, hPO.out]; rfl
  have c19a : W19.cell? ⟨g19, 0, none⟩ = some (.int .i64 0) := by rw [cell_of_row W19 _ 0 _ _ _ hb19, hPQ.out]; rfl
  have c19b : W19.cell? ⟨g19, 2, none⟩ = some (.slice A19 0 c19) := by rw [cell_of_row W19 _ 2 _ _ _ hb19, hPQ.out]; rfl
  have F13 : ∀ wq, W19.grownBy wq none → wq.cell? ⟨g13, 1, none⟩ = some (.int .i64 PA.first) ∧ wq.cell? ⟨g13, 2, none⟩ = some (.slice A13 PA.pairs.length c13) := fun wq hq => ⟨(by rw [cell_of_row wq _ 1 _ _ _ (keep_of hb13 hq)]; rfl), (by rw [cell_of_row wq _ 2 _ _ _ (keep_of hb13 hq)]; rfl)⟩
  have F15 : ∀ wq, W19.grownBy wq none → wq.cell? ⟨g15, 1, none⟩ = some (.int .i64 PZ.first) ∧ wq.cell? ⟨g15, 2, none⟩ = some (.slice A15 PZ.pairs.length c15) := fun wq hq => ⟨(by rw [cell_of_row wq _ 1 _ _ _ (keep_of hb15 hq)]; rfl), (by rw [cell_of_row wq _ 2 _ _ _ (keep_of hb15 hq)]; rfl)⟩
  have F9 : ∀ wq, W19.grownBy wq none → wq.cell? ⟨g9, 2, none⟩ = some (.slice A9 PE.pairs.length c9) := fun wq hq => by rw [cell_of_row wq _ 2 _ _ _ (keep_of hb9 hq)]; rfl
  have F11 : ∀ wq, W19.grownBy wq none → wq.cell? ⟨g11, 2, none⟩ = some (.slice A11 PD.pairs.length c11) := fun wq hq => by rw [cell_of_row wq _ 2 _ _ _ (keep_of hb11 hq)]; rfl
  have r13 := hp13.rd
  have r15 := hp15.rd
  have rl := hrow.rd
  clear hb9 hb11 hb13 hb15 hb17 hb19 hp9 hp11 hp13 hp15 hp17 hp19 hG9 hG11 hG13 hG15 hG17 hG19 hgw3 hrow hPO hPQ hup
  obtain ⟨N, hN⟩ : ∃ N, N = ps.length := ⟨_, rfl⟩
  have eA' := eA.out
  have eZ' := eZ.out
  by_cases h0 : N = 0
  · have hb0 : hb = false := by
      cases hb
      · rfl
      · have := (eE.out rfl).2
        omega
    subst hb0
    have l13 : PA.pairs.length = 0 := by rw [eA', someL_len _ _ _ (by omega)]; omega
    have l15 : PZ.pairs.length = 0 := by rw [eZ', someL_len _ _ _ (by omega)]; omega
    have c13b := (F13 W19 (grown_refl _ _)).2
    have c15b := (F15 W19 (grown_refl _ _)).2
    rw [l13] at c13b
    rw [l15] at c15b
    rw [← hN, h0]
    clear eA' eZ' l13 l15 hN h0 r13 r15 rl F9 F11 F13 F15
    go_wp2_with (go_at_call 3; refine (kr _ (grown_refl _ _)).mono ?_; clear kr; rintro e we ⟨rfl, hge⟩)
    go_ret
    exact ⟨rfl, grown_none hgw hge⟩
  · obtain ⟨M, hM⟩ : ∃ M, N = M + 1 := ⟨N - 1, by omega⟩
    have l13 := someL_1 ps 0 (by omega)
    have l15 := someL_1 ps M (by omega)
    rw [show min 1 ps.length = 0 + 1 by omega] at eA'
    rw [show ps.length - 1 = M by omega, show ps.length = M + 1 by omega] at eZ'
    rw [← eA'] at l13
    rw [← eZ'] at l15
    obtain ⟨f1, f2, -⟩ := l13
    obtain ⟨f3, f4, -⟩ := l15
    rw [f1, f2] at F13
    rw [f1] at r13
    rw [f3, f4] at F15
    rw [f3] at r15
    obtain ⟨ad13, rfl, t13⟩ := RdQ.at r13 (k := 0) (by simp)
    obtain ⟨ad15, rfl, t15⟩ := RdQ.at r15 (k := 0) (by simp)
    obtain ⟨adl, e, tl0⟩ := RdQ.at rl (k := 0) (by omega)
    subst e
    obtain ⟨adl', e, tl1⟩ := RdQ.at rl (k := M) (by omega)
    cases e
    have l9 : hb = true → PE.pairs.length = 1 := fun h => (eE.out h).1
    have l11 : hb = false → 1 ≤ PD.pairs.length ∧ PD.pairs.length ≤ 2 := fun h => eD.out h (by omega)
    dsimp only [List.getElem_cons_zero, List.length_singleton] at t13 t15 F13 F15
    have hq0 := eql_kv ps[0]
    have hq1 := eql_kv ps[M]
    generalize ps[0] = q0 at *
    generalize ps[M] = q1 at *
    rw [← hN, hM]
    have hM36 : M ≤ 1000 := by omega
    clear eA' eZ' f1 f2 f3 f4 hN h0 r13 r15 rl hlen eE eD eA eZ
    have T13 : ∀ wq, W19.grownBy wq none → AtQ wq _ q0 := fun wq hq => t13.kept hq
    have T15 : ∀ wq, W19.grownBy wq none → AtQ wq _ q1 := fun wq hq => t15.kept hq
    have TL0 : ∀ wq, W19.grownBy wq none → AtQ wq _ q0 := fun wq hq => tl0.kept hq
    have TL1 : ∀ wq, W19.grownBy wq none → AtQ wq _ q1 := fun wq hq => tl1.kept hq
    clear t13 t15 tl0 tl1
    have hwM : IntKind.i64.wrap ((M : Nat) : Int) = (M : Int) := IntWalk.i64_in _ ⟨by omega, by omega⟩
    have ix0 := fun W => idx_Q adl (M + 1) cl 0 (by omega) W
    have ix1 := fun W => idx_Q adl (M + 1) cl M (by omega) W
    have iy0 := fun W => idx_Q ad13 1 c13 0 (by omega) W
    have iz0 := fun W => idx_Q ad15 1 c15 0 (by omega) W
    have KR : ∀ wq, W19.grownBy wq none → _ := fun wq hq => (kr wq hq)
    cases hb
    · obtain ⟨l11a, l11b⟩ := l11 rfl
      have q1 : (1 : Int) ≤ (PD.pairs.length : Int) := by omega
      have q2 : (PD.pairs.length : Int) ≤ 2 := by omega
      go_upto_region 14 with (fail)
      refine wp_region_grow (by kernel_rfl) (by kernel_rfl) ?_
      simp only [List.append_eq, List.cons_append, List.nil_append]
      iterate 8
        with_reducible refine wpQuiet_step (fun K hK => ?_)
        go_simp
        first
          | (refine hK _ ?_; clear hK K)
          | (refine ⟨_, fun _ _ => rfl, hK _ ?_⟩; clear hK K)
          | (apply Exists.intro
             refine ⟨fun wq hq => ?_, hK _ ?_⟩
             (first
               | (go_at_call 3; exact (KR wq hq).mono fun _ _ h => ⟨h.1, grown_none hq h.2⟩)
               | (obtain ⟨y1, y2⟩ := F13 wq hq; obtain ⟨y3, y4⟩ := F15 wq hq; have y5 := F9 wq hq; have y6 := F11 wq hq; go_simp; first | done | exact rfl | exact ⟨rfl, rfl⟩))
             clear hK K)
      with_reducible refine wpQuiet_step (fun K hK => ?_)
      rw [if_pos (by rfl)]
      refine quiet_load_kv _ rfl _ rfl _ T13 (hK _ ?_)
      clear hK K
      iterate 2
        with_reducible refine wpQuiet_step (fun K hK => ?_)
        go_simp
        first
          | (refine hK _ ?_; clear hK K)
          | (refine ⟨_, fun _ _ => rfl, hK _ ?_⟩; clear hK K)
          | (apply Exists.intro
             refine ⟨fun wq hq => ?_, hK _ ?_⟩
             (first
               | (go_at_call 3; exact (KR wq hq).mono fun _ _ h => ⟨h.1, grown_none hq h.2⟩)
               | (obtain ⟨y1, y2⟩ := F13 wq hq; obtain ⟨y3, y4⟩ := F15 wq hq; have y5 := F9 wq hq; have y6 := F11 wq hq; go_simp; first | done | exact rfl | exact ⟨rfl, rfl⟩))
             clear hK K)
      with_reducible refine wpQuiet_step (fun K hK => ?_)
      rw [if_pos (by rfl)]
      refine quiet_load_kv _ rfl _ rfl _ TL0 (hK _ ?_)
      clear hK K
      iterate 17
        with_reducible refine wpQuiet_step (fun K hK => ?_)
        go_simp
        first
          | (refine hK _ ?_; clear hK K)
          | (refine ⟨_, fun _ _ => rfl, hK _ ?_⟩; clear hK K)
          | (apply Exists.intro
             refine ⟨fun wq hq => ?_, hK _ ?_⟩
             (first
               | (go_at_call 3; exact (KR wq hq).mono fun _ _ h => ⟨h.1, grown_none hq h.2⟩)
               | (obtain ⟨y1, y2⟩ := F13 wq hq; obtain ⟨y3, y4⟩ := F15 wq hq; have y5 := F9 wq hq; have y6 := F11 wq hq; go_simp; first | done | exact rfl | exact ⟨rfl, rfl⟩))
             clear hK K)
      with_reducible refine wpQuiet_step (fun K hK => ?_)
      rw [if_pos (by rfl)]
      refine quiet_load_kv _ rfl _ rfl _ T15 (hK _ ?_)
      clear hK K
      iterate 5
        with_reducible refine wpQuiet_step (fun K hK => ?_)
        go_simp
        first
          | (refine hK _ ?_; clear hK K)
          | (refine ⟨_, fun _ _ => rfl, hK _ ?_⟩; clear hK K)
          | (apply Exists.intro
             refine ⟨fun wq hq => ?_, hK _ ?_⟩
             (first
               | (go_at_call 3; exact (KR wq hq).mono fun _ _ h => ⟨h.1, grown_none hq h.2⟩)
               | (obtain ⟨y1, y2⟩ := F13 wq hq; obtain ⟨y3, y4⟩ := F15 wq hq; have y5 := F9 wq hq; have y6 := F11 wq hq; go_simp; first | done | exact rfl | exact ⟨rfl, rfl⟩))
             clear hK K)
      with_reducible refine wpQuiet_step (fun K hK => ?_)
      rw [if_pos (by rfl)]
      refine quiet_load_kv _ rfl _ rfl _ TL1 (hK _ ?_)
      clear hK K
      iterate 38
        with_reducible refine wpQuiet_step (fun K hK => ?_)
        go_simp
        first
          | (refine hK _ ?_; clear hK K)
          | (refine ⟨_, fun _ _ => rfl, hK _ ?_⟩; clear hK K)
          | (apply Exists.intro
             refine ⟨fun wq hq => ?_, hK _ ?_⟩
             (first
               | (go_at_call 3; exact (KR wq hq).mono fun _ _ h => ⟨h.1, grown_none hq h.2⟩)
               | (obtain ⟨y1, y2⟩ := F13 wq hq; obtain ⟨y3, y4⟩ := F15 wq hq; have y5 := F9 wq hq; have y6 := F11 wq hq; go_simp; first | done | exact rfl | exact ⟨rfl, rfl⟩))
             clear hK K)
      with_reducible refine wpQuiet_nil ?_
      intro wq hq
      go_wp2
      go_ret
      exact ⟨rfl, grown_none hgw hq⟩
    · rw [l9 rfl] at F9
      go_upto_region 14 with (fail)
      refine wp_region_grow (by kernel_rfl) (by kernel_rfl) ?_
      simp only [List.append_eq, List.cons_append, List.nil_append]
      iterate 8
        with_reducible refine wpQuiet_step (fun K hK => ?_)
        go_simp
        first
          | (refine hK _ ?_; clear hK K)
          | (refine ⟨_, fun _ _ => rfl, hK _ ?_⟩; clear hK K)
          | (apply Exists.intro
             refine ⟨fun wq hq => ?_, hK _ ?_⟩
             (first
               | (go_at_call 3; exact (KR wq hq).mono fun _ _ h => ⟨h.1, grown_none hq h.2⟩)
               | (obtain ⟨y1, y2⟩ := F13 wq hq; obtain ⟨y3, y4⟩ := F15 wq hq; have y5 := F9 wq hq; have y6 := F11 wq hq; go_simp; first | done | exact rfl | exact ⟨rfl, rfl⟩))
             clear hK K)
      with_reducible refine wpQuiet_step (fun K hK => ?_)
      rw [if_pos (by rfl)]
      refine quiet_load_kv _ rfl _ rfl _ T13 (hK _ ?_)
      clear hK K
      iterate 2
        with_reducible refine wpQuiet_step (fun K hK => ?_)
        go_simp
        first
          | (refine hK _ ?_; clear hK K)
          | (refine ⟨_, fun _ _ => rfl, hK _ ?_⟩; clear hK K)
          | (apply Exists.intro
             refine ⟨fun wq hq => ?_, hK _ ?_⟩
             (first
               | (go_at_call 3; exact (KR wq hq).mono fun _ _ h => ⟨h.1, grown_none hq h.2⟩)
               | (obtain ⟨y1, y2⟩ := F13 wq hq; obtain ⟨y3, y4⟩ := F15 wq hq; have y5 := F9 wq hq; have y6 := F11 wq hq; go_simp; first | done | exact rfl | exact ⟨rfl, rfl⟩))
             clear hK K)
      with_reducible refine wpQuiet_step (fun K hK => ?_)
      rw [if_pos (by rfl)]
      refine quiet_load_kv _ rfl _ rfl _ TL0 (hK _ ?_)
      clear hK K
      iterate 17
        with_reducible refine wpQuiet_step (fun K hK => ?_)
        go_simp
        first
          | (refine hK _ ?_; clear hK K)
          | (refine ⟨_, fun _ _ => rfl, hK _ ?_⟩; clear hK K)
          | (apply Exists.intro
             refine ⟨fun wq hq => ?_, hK _ ?_⟩
             (first
               | (go_at_call 3; exact (KR wq hq).mono fun _ _ h => ⟨h.1, grown_none hq h.2⟩)
               | (obtain ⟨y1, y2⟩ := F13 wq hq; obtain ⟨y3, y4⟩ := F15 wq hq; have y5 := F9 wq hq; have y6 := F11 wq hq; go_simp; first | done | exact rfl | exact ⟨rfl, rfl⟩))
             clear hK K)
      with_reducible refine wpQuiet_step (fun K hK => ?_)
      rw [if_pos (by rfl)]
      refine quiet_load_kv _ rfl _ rfl _ T15 (hK _ ?_)
      clear hK K
      iterate 5
        with_reducible refine wpQuiet_step (fun K hK => ?_)
        go_simp
        first
          | (refine hK _ ?_; clear hK K)
          | (refine ⟨_, fun _ _ => rfl, hK _ ?_⟩; clear hK K)
          | (apply Exists.intro
             refine ⟨fun wq hq => ?_, hK _ ?_⟩
             (first
               | (go_at_call 3; exact (KR wq hq).mono fun _ _ h => ⟨h.1, grown_none hq h.2⟩)
               | (obtain ⟨y1, y2⟩ := F13 wq hq; obtain ⟨y3, y4⟩ := F15 wq hq; have y5 := F9 wq hq; have y6 := F11 wq hq; go_simp; first | done | exact rfl | exact ⟨rfl, rfl⟩))
             clear hK K)
      with_reducible refine wpQuiet_step (fun K hK => ?_)
      rw [if_pos (by rfl)]
      refine quiet_load_kv _ rfl _ rfl _ TL1 (hK _ ?_)
      clear hK K
      iterate 38
        with_reducible refine wpQuiet_step (fun K hK => ?_)
        go_simp
        first
          | (refine hK _ ?_; clear hK K)
          | (refine ⟨_, fun _ _ => rfl, hK _ ?_⟩; clear hK K)
          | (apply Exists.intro
             refine ⟨fun wq hq => ?_, hK _ ?_⟩
             (first
               | (go_at_call 3; exact (KR wq hq).mono fun _ _ h => ⟨h.1, grown_none hq h.2⟩)
               | (obtain ⟨y1, y2⟩ := F13 wq hq; obtain ⟨y3, y4⟩ := F15 wq hq; have y5 := F9 wq hq; have y6 := F11 wq hq; go_simp; first | done | exact rfl | exact ⟨rfl, rfl⟩))
             clear hK K)
      with_reducible refine wpQuiet_nil ?_
      intro wq hq
      go_wp2
      go_ret
      exact ⟨rfl, grown_none hgw hq⟩
end Go.Proofs.YtpeepiboocdnaaaDoor
