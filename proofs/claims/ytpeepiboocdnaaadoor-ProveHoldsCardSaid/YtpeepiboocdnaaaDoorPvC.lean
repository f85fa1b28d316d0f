/- Are two proofs the same? -/
import Derived.Test.YtpeepiboocdnaaaDoorPvA
import Derived.Test.YtpeepiboocdnaaaDoorKP
namespace Go.Proofs.YtpeepiboocdnaaaDoor
open Go.RowKit

/-- The cells of a proof in its box. -/
theorem pf_box {w W : World} {P : Pf} {A B : Option Addr} {c d : Nat} {t : TypeId} (hg : (w.alloc (.cells #[.int .i64 P.count, .int .i64 P.first, .slice A P.pairs.length c, .slice B P.paths.length d] t)).grownBy W none) :
    W.cell? ⟨w.heap.size, 0, none⟩ = some (.int .i64 P.count) ∧ W.cell? ⟨w.heap.size, 1, none⟩ = some (.int .i64 P.first) ∧ W.cell? ⟨w.heap.size, 2, none⟩ = some (.slice A P.pairs.length c) ∧ W.cell? ⟨w.heap.size, 3, none⟩ = some (.slice B P.paths.length d) := by
  have h : W.heap[w.heap.size]? = some (.cells #[.int .i64 P.count, .int .i64 P.first, .slice A P.pairs.length c, .slice B P.paths.length d] t) := keep_of (alloc_at rfl) hg
  exact ⟨by rw [cell_of_row W _ 0 _ _ _ h]; rfl, by rw [cell_of_row W _ 1 _ _ _ h]; rfl, by rw [cell_of_row W _ 2 _ _ _ h]; rfl, by rw [cell_of_row W _ 3 _ _ _ h]; rfl⟩
theorem idx_Hs (ad : Addr) (n c k : Nat) (hk : k < n) (w : World) : (Instr.indexAt 25 (.slice (some ad) n c) (.int .i64 (k : Int))).run Tryd.prog w = .ok (.pointer (some (ad.add k))) w := by
  rw [run_indexAt_slice (P := Tryd.prog) (h := by kernel_rfl), if_pos ⟨by omega, by omega⟩]
  rw [show (sizeOf (Tryd.prog.elem 25)).run Tryd.prog w = .ok 1 w from by kernel_rfl, Result.andThen_ok]
  simp

set_option maxRecDepth 100000 in
set_option maxHeartbeats 1000000 in
theorem Proofs_any (P : Pf) (A1 B1 A2 B2 : Option Addr) (c1 d1 c2 d2 : Nat) (r1 r2 : List Ph) (w : World) (h1 : IsPf w P A1 c1 B1 d1 r1) (h2 : IsPf w P A2 c2 B2 d2 r2) (hn : P.pairs.length ≤ 1000) (hm : P.paths.length ≤ 1000) (hx : ∀ x ∈ P.paths, x.length ≤ 32000) :
    Calls Tryd.prog 19 #[pfv P A1 c1 B1 d1, pfv P A2 c2 B2 d2] w fun e w' => e = .returned (.bool true) ∧ w.grownBy w' none := by
  obtain ⟨w0, hw0⟩ : ∃ w0, w0 = w.alloc (.cells #[.int .i64 P.count, .int .i64 P.first, .slice A1 P.pairs.length c1, .slice B1 P.paths.length d1] 27) := ⟨_, rfl⟩
  obtain ⟨w1, hw1⟩ : ∃ w1, w1 = w0.alloc (.cells #[.int .i64 P.count, .int .i64 P.first, .slice A2 P.pairs.length c2, .slice B2 P.paths.length d2] 27) := ⟨_, rfl⟩
  have hs0 : w0.heap.size = w.heap.size + 1 := by rw [hw0]; simp
  have hg0 : w.grownBy w0 none := by rw [hw0]; exact grown_alloc (grown_refl _ _) _
  have hg1 : w0.grownBy w1 none := by rw [hw1]; exact grown_alloc (grown_refl _ _) _
  have F1 := fun W (hg : w1.grownBy W none) => pf_box (w := w) (W := W) (P := P) (by rw [← hw0]; exact grown_none hg1 hg)
  have F2 := fun W (hg : w1.grownBy W none) => pf_box (w := w0) (W := W) (P := P) (by rw [← hw1]; exact hg)
  rw [hs0] at F2
  have hgw := grown_none hg0 hg1
  have hx1 : ∀ r ∈ r1, r.2.1.length ≤ 32000 := fun r hr => hx _ (by rw [← h1.ps]; exact List.mem_map.2 ⟨r, hr, rfl⟩)
  have hl1 := h1.len
  have hl2 := h2.len
  have hps : r1.map (fun r => r.2.1) = r2.map (fun r => r.2.1) := h1.ps.trans h2.ps.symm
  have hsame := fun W (hg : w1.grownBy W none) => SameQ_n A1 A2 P.pairs P.pairs P.pairs.length P.pairs.length c1 c2 W (RdAt.kept h1.rd (grown_none hgw hg)) (RdAt.kept h2.rd (grown_none hgw hg)) hn hn rfl rfl rfl
  have hp1 := h1.rp
  have hp2 := h2.rp
  obtain ⟨np, hnp⟩ : ∃ np, np = P.pairs.length := ⟨_, rfl⟩
  obtain ⟨nq, hnq⟩ : ∃ nq, nq = P.paths.length := ⟨_, rfl⟩
  rw [← hnp, ← hnq] at F1 F2
  rw [← hnp] at hsame
  rw [← hnq] at hl1 hl2 hm
  have HW : Hid ((w.alloc (.cells #[.int .i64 P.count, .int .i64 P.first, .slice A1 np c1, .slice B1 nq d1] 27)).alloc (.cells #[.int .i64 P.count, .int .i64 P.first, .slice A2 np c2, .slice B2 nq d2] 27) = w1) := by show _ = _; rw [hw1, hw0, hnp, hnq]
  unfold pfv
  rw [← hnp, ← hnq]
  clear hw0 hw1 hs0 hnp hnq h1 h2 hn
  generalize P.count = ct at *
  generalize P.first = ft at *
  obtain ⟨a0, a1, a2, a3⟩ := F1 w1 (grown_refl _ _)
  obtain ⟨b0, b1, b2, b3⟩ := F2 w1 (grown_refl _ _)
  go_enter Tryd.func19, Tryd.ntmps19
  go_upto_region 1 with (fail)
  rw [HW.out]
  go_wp2_with (go_at_call 32; refine (hsame _ (grown_refl _ _)).mono ?_; rintro e w5 ⟨rfl, hg5⟩; obtain ⟨x0, x1, x2, x3⟩ := F1 _ hg5; obtain ⟨y0, y1, y2, y3⟩ := F2 _ hg5)
  have hgw5 := grown_none hgw hg5
  go_loopw [38] (fun i wr => ∃ k : Nat, k ≤ nq ∧ i = .int .i64 (k : Int) ∧ w5.grownBy wr none) (fun i _ => nq - (intOf i).toNat)
  case atStart => exact ⟨0, Nat.zero_le _, rfl, grown_refl _ _⟩
  case round =>
    obtain ⟨k, hk, rfl, hgr⟩ := hrel
    have hg5r := grown_none hg5 hgr
    have hgwr := grown_none hgw5 hgr
    by_cases hlt : k < nq
    · have q1 : (k : Int) < (nq : Int) := by omega
      obtain ⟨ad1, rfl, hc1, ho1⟩ := RdPs.get hp1 (k := k) (by omega)
      obtain ⟨ad2, rfl, hc2, ho2⟩ := RdPs.get hp2 (k := k) (by omega)
      have he := congrArg (fun l => l[k]?) hps
      simp only [List.getElem?_map] at he
      rw [List.getElem?_eq_getElem (by omega), List.getElem?_eq_getElem (by omega)] at he
      simp only [Option.map_some, Option.some.injEq] at he
      have hxk := hx1 r1[k] (List.getElem_mem _)
      have FA : ∀ W, w1.grownBy W none → W.cell? (ad1.add k) = some (hv r1[k]) ∧ W.cell? (ad2.add k) = some (hv r2[k]) := fun W hg => ⟨(grown_none hgw hg).cell hc1 (by simp), (grown_none hgw hg).cell hc2 (by simp)⟩
      generalize r1[k] = ra at *
      generalize r2[k] = rb at *
      obtain ⟨Aa, Pa, na, ca⟩ := ra
      obtain ⟨Ab, Pb, nb, cb⟩ := rb
      have e1 := ho1.len
      have e2 := ho2.len
      dsimp only at he e1 e2 hxk
      subst he
      obtain rfl : na = nb := by omega
      have hsp := fun W (hg : w.grownBy W none) => SameP_any Aa Ab na ca cb Pa (by omega) e1 W (ho1.rd.kept hg) (ho2.rd.kept hg) ho1.at0 ho2.at0
      have hid1 := fun W => idx_Hs ad1 nq d1 k hlt W
      have hid2 := fun W => idx_Hs ad2 nq d2 k hlt W
      unfold hv at FA
      dsimp only at FA
      obtain ⟨u0, u1, u2, u3⟩ := F1 wr.drew (grown_drew hg5r)
      obtain ⟨v0, v1, v2, v3⟩ := F2 wr.drew (grown_drew hg5r)
      obtain ⟨f1, f2⟩ := FA wr.drew (grown_drew hg5r)
      obtain ⟨t0, t1, t2, t3⟩ := F1 wr hg5r
      clear hx1 hps e1 e2 hxk hc1 hc2 ho1 ho2
      go_upto_region 6 with (fail)
      go_region_with (go_at_call 20; refine (hsp _ (grown_drew hgwr)).mono ?_; rintro e w6 ⟨rfl, hg6⟩)
      all_goals
        go_wp2
        go_roundw
        case rel => exact ⟨k + 1, by omega, by go_num, grown_none hgr (grown_none (grown_drew (grown_refl _ _)) hg6)⟩
        case measure => simp [intOf]; omega
    · have q1 : ¬ (k : Int) < (nq : Int) := by omega
      go_wp2
      go_ret
      exact ⟨rfl, grown_none hgw5 hgr⟩
end Go.Proofs.YtpeepiboocdnaaaDoor
