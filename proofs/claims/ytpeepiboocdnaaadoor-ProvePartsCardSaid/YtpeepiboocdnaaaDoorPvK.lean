/- ProveParts. -/
import Derived.Test.YtpeepiboocdnaaaDoorPvL
import Derived.Test.YtpeepiboocdnaaaDoorPvG
import Derived.Test.YtpeepiboocdnaaaDoorKO
import Derived.Test.YtpeepiboocdnaaaDoorKJ
import Derived.Test.YtpeepiboocdnaaaDoorKF
namespace Go.Proofs.YtpeepiboocdnaaaDoor
open Go.RowKit

def ppaS (t : Nat) : Bool := t == 132 || t == 133 || t == 134 || t == 135 || t == 136 || t == 137 || t == 138 || t == 139 || t == 140 || t == 141 || t == 142 || t == 143 || t == 144 || t == 145 || t == 146 || t == 147 || t == 148 || t == 149 || t == 150 || t == 151 || t == 152 || t == 153 || t == 154 || t == 155 || t == 156 || t == 157 || t == 158 || t == 159 || t == 160 || t == 161 || t == 162 || t == 163 || t == 164 || t == 165 || t == 166 || t == 167 || t == 168 || t == 169 || t == 170 || t == 171 || t == 172
def ppaDie (_ : Nat) : Nat := 99
def ppaOwn (_ : Nat) : Bool := false
def ppaAl (k : Nat) : Bool := k == 12 || k == 21 || k == 23 || k == 34
def ppaF (Al A10 B10 A14 B14 : Option Addr) (cl c10 d10 c14 d14 n k i j S5 g10 g14 : Nat) (P PA : Pf) : Nat → Value → World → Prop
  | 0 => fun v _ => v = (.agg #[.int .i64 P.count, .int .i64 P.first, .slice A10 P.pairs.length c10, .slice B10 P.paths.length d10])
  | 1 => fun v _ => v = .int .i64 (S5 : Int)
  | 2 => fun v _ => v = .int .i64 (S5 : Int)
  | 3 => fun v _ => v = .bool true
  | 4 => fun v _ => v = .bool true
  | 5 => fun v _ => v = .pointer (some ⟨g10, 1, none⟩)
  | 6 => fun v _ => v = .int .i64 (i : Int)
  | 7 => fun v _ => v = .int .i64 (i : Int)
  | 8 => fun v _ => v = .bool true
  | 9 => fun v _ => v = .bool true
  | 10 => fun v _ => v = .bool true
  | 11 => fun v _ => v = .pointer (some ⟨g10, 2, none⟩)
  | 12 => fun v _ => v = .slice A10 k c10
  | 13 => fun v _ => v = .int .i64 (k : Int)
  | 14 => fun v _ => v = .int .i64 (j : Int)
  | 15 => fun v _ => v = .int .i64 (i : Int)
  | 16 => fun v _ => v = .int .i64 (k : Int)
  | 17 => fun v _ => v = .bool true
  | 18 => fun v _ => v = .bool true
  | 19 => fun v _ => v = .bool true
  | 20 => fun v _ => v = .pointer (some ⟨g14, 2, none⟩)
  | 21 => fun v _ => v = .slice A14 n c14
  | 22 => fun v _ => v = .int .i64 (n : Int)
  | 23 => fun v _ => v = .slice Al n cl
  | 24 => fun v _ => v = .int .i64 (n : Int)
  | 25 => fun v _ => v = .bool true
  | 26 => fun v _ => v = .bool true
  | 27 => fun v _ => v = .bool true
  | 28 => fun v _ => v = .pointer (some ⟨g14, 1, none⟩)
  | 29 => fun v _ => v = .int .i64 0
  | 30 => fun v _ => v = .bool true
  | 31 => fun v _ => v = .bool true
  | 32 => fun v _ => v = .bool true
  | 33 => fun v _ => v = (.agg #[.int .i64 PA.count, .int .i64 PA.first, .slice A14 PA.pairs.length c14, .slice B14 PA.paths.length d14])
  | 34 => fun v _ => v = .slice Al n cl
  | 35 => fun v w => ∃ A c B d rs, v = pfv PA A c B d ∧ IsPf w PA A c B d rs
  | 36 => fun v _ => v = .bool true
  | 37 => fun v _ => v = .bool true
  | 38 => fun v _ => v = .bool true
  | 39 => fun v _ => v = .bool true
  | 40 => fun v _ => v = .bool true
  | _ => fun _ _ => True
theorem ppaF_lasts (Al A10 B10 A14 B14 : Option Addr) (cl c10 d10 c14 d14 n k i j S5 g10 g14 : Nat) (P PA : Pf) : ∀ kq, LastsK ppaAl true kq (ppaF Al A10 B10 A14 B14 cl c10 d10 c14 d14 n k i j S5 g10 g14 P PA kq)
  | 0 => LastsK.val _
  | 1 => LastsK.val _
  | 2 => LastsK.val _
  | 3 => LastsK.val _
  | 4 => LastsK.val _
  | 5 => LastsK.val _
  | 6 => LastsK.val _
  | 7 => LastsK.val _
  | 8 => LastsK.val _
  | 9 => LastsK.val _
  | 10 => LastsK.val _
  | 11 => LastsK.val _
  | 12 => LastsK.val _
  | 13 => LastsK.val _
  | 14 => LastsK.val _
  | 15 => LastsK.val _
  | 16 => LastsK.val _
  | 17 => LastsK.val _
  | 18 => LastsK.val _
  | 19 => LastsK.val _
  | 20 => LastsK.val _
  | 21 => LastsK.val _
  | 22 => LastsK.val _
  | 23 => LastsK.val _
  | 24 => LastsK.val _
  | 25 => LastsK.val _
  | 26 => LastsK.val _
  | 27 => LastsK.val _
  | 28 => LastsK.val _
  | 29 => LastsK.val _
  | 30 => LastsK.val _
  | 31 => LastsK.val _
  | 32 => LastsK.val _
  | 33 => LastsK.val _
  | 34 => LastsK.val _
  | 35 => LastsK.calm fun _ _ _ ⟨A, c, B, d, rs, h1, h2⟩ hg => ⟨A, c, B, d, rs, h1, h2.kept hg⟩
  | 36 => LastsK.val _
  | 37 => LastsK.val _
  | 38 => LastsK.val _
  | 39 => LastsK.val _
  | 40 => LastsK.val _
  | _ + 41 => fun _ _ _ _ _ _ _ _ => trivial

set_option maxRecDepth 100000 in
set_option maxHeartbeats 2000000 in
theorem ProveParts_any (K : ProveK) (A0 : Option Addr) (c0 : Nat) (ns : List Int) (n1 n2 : Int) (w : World) (hk : Laid2 w) (hr : RdI w A0 ns) :
    Calls Tryd.prog 6 #[.slice A0 ns.length c0, .int .i64 n1, .int .i64 n2] w fun e w' => e = .returned (.bool true) ∧ w.grownBy w' none := by
  have kp := Pairs_any A0 c0 ns w hr
  generalize ns.length = N0 at *
  go_enter Tryd.func6, Tryd.ntmps6
  go_upto_region 2 with (first
    | (go_at_call 11; refine kp.mono ?_; clear kp; rintro e w1 ⟨v1, ps, rfl, hkept, hpb, hg1⟩; obtain ⟨Al, cl, rfl, hcl, hrl, hbl⟩ := hpb.form))
  have hlen := hkept.len
  have hrow : RowQ w1 Al cl ps := ⟨hrl, hcl, hkept.rises, by omega, fun p hp => by have := hkept.may p hp; unfold mayQ at this; rw [decide_eq_true_iff] at this; omega⟩
  replace hk := hk.kept hg1
  obtain ⟨i, hi, ki⟩ := Within_nat n1 ps.length (by omega)
  obtain ⟨j, hj, kj⟩ := Within_nat n2 ps.length (by omega)
  clear hr hpb hrl hbl hcl hkept
  go_upto_region 3 with (first
    | (go_at_call 13; refine (ki _).mono ?_; clear ki; rintro e w4 ⟨rfl, h4⟩; obtain rfl : w1 = w4 := h4)
    | (go_at_call 13; refine (kj _).mono ?_; clear kj; rintro e w4 ⟨rfl, h4⟩; obtain rfl : w1 = w4 := h4))
  have ks := K.some_ (i : Nat) (j : Nat) hrow hk (by omega) (by omega)
  rw [show ((i : Nat) : Int).toNat = i by omega, show min ((j : Nat) : Int).toNat ps.length = j by omega] at ks
  obtain ⟨P, hP⟩ : ∃ P, P = someL ps i j := ⟨_, rfl⟩
  rw [← hP] at ks
  replace hP := Lib.hid hP
  go_upto_region 4 with (go_at_call 18; refine ks.mono ?_; clear ks; rintro e wa ⟨A10, c10, B10, d10, rs10, rfl, hp10, -, hga⟩; unfold pfv; have hst := store_pf P.count P.first A10 B10 P.pairs.length P.paths.length c10 d10 wa)
  clear hst
  have hb10 : (wa.alloc (.cells #[.int .i64 P.count, .int .i64 P.first, .slice A10 P.pairs.length c10, .slice B10 P.paths.length d10] 27)).heap[wa.heap.size]? = some (.cells #[.int .i64 P.count, .int .i64 P.first, .slice A10 P.pairs.length c10, .slice B10 P.paths.length d10] 27 (0, 0)) := alloc_at rfl
  have hgn := grown_alloc hga (.cells #[.int .i64 P.count, .int .i64 P.first, .slice A10 P.pairs.length c10, .slice B10 P.paths.length d10] 27)
  replace hp10 := hp10.kept (grown_alloc (grown_refl wa none) (.cells #[.int .i64 P.count, .int .i64 P.first, .slice A10 P.pairs.length c10, .slice B10 P.paths.length d10] 27))
  generalize wa.alloc (.cells #[.int .i64 P.count, .int .i64 P.first, .slice A10 P.pairs.length c10, .slice B10 P.paths.length d10] 27) = W at *
  generalize wa.heap.size = g10 at *
  have hgw := grown_none hg1 hgn
  replace hk := hk.kept hgn
  replace hrow := hrow.kept hgn
  clear hga hgn hg1
  have kr := fun W' (hg : W.grownBy W' none) => ProveRuns_any K W' (hk.kept hg)
  by_cases hij : i < j
  · have hge : decide ((j : Int) ≤ (i : Int)) = false := decide_eq_false (by omega)
    obtain ⟨e1, e2, e3, e4, e5, e6⟩ := someL_some hij hj
    obtain ⟨m, hm⟩ : ∃ m, j = i + m := ⟨j - i, by omega⟩
    rw [← hP.out, show j - i = m by omega] at e3 e4 e5 e6
    rw [← hP.out] at e1 e2
    have hsz : sizeL P = sumS ps i m := by rw [hP.out, someL_size ps i j hj, show j - i = m by omega]; rfl
    have hb10P := Lib.hid hb10
    rw [box_of e1 e2 e5 e6] at hb10
    have F10 : ∀ wq, W.grownBy wq none → wq.cell? ⟨g10, 1, none⟩ = some (.int .i64 (i : Nat)) ∧ wq.cell? ⟨g10, 2, none⟩ = some (.slice A10 m c10) ∧ wq.cell? ⟨g10, 3, none⟩ = some (.slice B10 m d10) := fun wq hq => ⟨(by rw [cell_of_row wq _ 1 _ _ _ (keep_of hb10 hq)]; rfl), (by rw [cell_of_row wq _ 2 _ _ _ (keep_of hb10 hq)]; rfl), (by rw [cell_of_row wq _ 3 _ _ _ (keep_of hb10 hq)]; rfl)⟩
    clear hP
    obtain ⟨n, hn⟩ : ∃ n, n = ps.length := ⟨_, rfl⟩
    rw [← hn]
    replace hn := Lib.hid hn
    replace e1 := Lib.hid e1
    replace e2 := Lib.hid e2
    replace e3 := Lib.hid e3
    replace e4 := Lib.hid e4
    replace e5 := Lib.hid e5
    replace e6 := Lib.hid e6
    replace hsz := Lib.hid hsz
    replace hm := Lib.hid hm
    go_wp2_with fail
    rw [show decide (j ≤ i) = false from decide_eq_false (by omega)]
    go_loopw [11, 12] (fun s t wr => ∃ k : Nat, k ≤ m ∧ t = .int .i64 ((i : Int) + (k : Int)) ∧ s = .int .i64 (sumS ps i k : Nat) ∧ W.grownBy wr none) (fun _ t _ => ((j : Int) + 1 - intOf t).toNat)
    case atStart => exact ⟨0, Nat.zero_le _, by simp, rfl, grown_refl _ _⟩
    case round =>
      obtain ⟨k, hkm, rfl, rfl, hgr⟩ := hrel
      by_cases hlt : k < m
      · have q1 : (i : Int) + (k : Int) < (j : Int) := by have := hm.out; omega
        have hkn : i + k < ps.length := by have := hm.out; omega
        have ks := K.some_ ((i : Int) + (k : Int)) ((i : Int) + (k : Int) + 1) (hrow.kept hgr) ((hk.kept hgr)) (by omega) (by omega)
        rw [show ((i : Int) + (k : Int)).toNat = i + k by omega, show min ((i : Int) + (k : Int) + 1).toNat ps.length = i + k + 1 by omega] at ks
        obtain ⟨y1, y2, y3, y4, y5, y6⟩ := someL_some (ps := ps) (i := i + k) (j := i + k + 1) (by omega) (by omega)
        have hsz1 : sizeL (someL ps (i + k) (i + k + 1)) = 1 + depthN (i + k) ps.length := by rw [someL_size ps (i + k) (i + k + 1) (by omega)]; simp
        obtain ⟨P1, hP1⟩ : ∃ P, P = someL ps (i + k) (i + k + 1) := ⟨_, rfl⟩
        rw [← hP1] at ks y1 y2 y3 y4 y5 y6 hsz1
        clear hP1
        rw [show i + k + 1 - (i + k) = 1 by omega] at y3 y4 y5 y6
        rw [show ((i + k : Nat) : Int) = (i : Int) + (k : Int) by omega] at y2
        replace y1 := Lib.hid y1
        replace y2 := Lib.hid y2
        replace y3 := Lib.hid y3
        replace y4 := Lib.hid y4
        replace y5 := Lib.hid y5
        replace y6 := Lib.hid y6
        replace hsz1 := Lib.hid hsz1
        rw [← hn.out] at ks
        go_upto_region 11 with (go_at_call 18; refine ks.mono ?_; clear ks; rintro e wa ⟨A13, c13, B13, d13, rs13, rfl, hp13, -, hga⟩; unfold pfv; have hst := store_pf P1.count P1.first A13 B13 P1.pairs.length P1.paths.length c13 d13 wa)
        clear hst
        have hb13 : (wa.alloc (.cells #[.int .i64 P1.count, .int .i64 P1.first, .slice A13 P1.pairs.length c13, .slice B13 P1.paths.length d13] 27)).heap[wa.heap.size]? = some (.cells #[.int .i64 P1.count, .int .i64 P1.first, .slice A13 P1.pairs.length c13, .slice B13 P1.paths.length d13] 27 (0, 0)) := alloc_at rfl
        have hgn := grown_alloc hga (.cells #[.int .i64 P1.count, .int .i64 P1.first, .slice A13 P1.pairs.length c13, .slice B13 P1.paths.length d13] 27)
        replace hp13 := hp13.kept (grown_alloc (grown_refl wa none) (.cells #[.int .i64 P1.count, .int .i64 P1.first, .slice A13 P1.pairs.length c13, .slice B13 P1.paths.length d13] 27))
        generalize wa.alloc (.cells #[.int .i64 P1.count, .int .i64 P1.first, .slice A13 P1.pairs.length c13, .slice B13 P1.paths.length d13] 27) = V at *
        generalize wa.heap.size = g13 at *
        have hgV := grown_none hgr hgn
        rw [box_of y1.out y2.out y5.out y6.out] at hb13
        have F13 : ∀ wq, V.grownBy wq none → wq.cell? ⟨g13, 1, none⟩ = some (.int .i64 ((i : Int) + (k : Int))) ∧ wq.cell? ⟨g13, 2, none⟩ = some (.slice A13 1 c13) ∧ wq.cell? ⟨g13, 3, none⟩ = some (.slice B13 1 d13) := fun wq hq => ⟨(by rw [cell_of_row wq _ 1 _ _ _ (keep_of hb13 hq)]; rfl), (by rw [cell_of_row wq _ 2 _ _ _ (keep_of hb13 hq)]; rfl), (by rw [cell_of_row wq _ 3 _ _ _ (keep_of hb13 hq)]; rfl)⟩
        have G10 : ∀ wq, V.grownBy wq none → wq.cell? ⟨g10, 3, none⟩ = some (.slice B10 m d10) := fun wq hq => (F10 wq (grown_none hgV hq)).2.2
        obtain ⟨b10, ra, eb10, hca, hoa, hpa⟩ := hp10.path e4.out hlt
        obtain ⟨b13, rb, eb13, hcb, hob, hpb⟩ := hp13.path (k := 0) y4.out (by omega)
        rw [Nat.add_zero] at hpb
        have hab : ra.2.1 = rb.2.1 := hpa.trans hpb.symm
        obtain ⟨Aa, Pa, na, ca⟩ := ra
        obtain ⟨Ab, Pb, nb, cb⟩ := rb
        have u1 := hoa.len
        have u2 := hob.len
        have u3 : Pa.length ≤ 32000 := by
          dsimp only at hpa
          rw [hpa, pathB_len ps (i + k) hkn]
          have := depthN_lt ps.length (i + k)
          omega
        dsimp only at hab u1 u2
        subst hab
        obtain rfl : na = nb := by omega
        unfold hv at hca hcb
        dsimp only at hca hcb
        have FA : ∀ wq, V.grownBy wq none → wq.cell? (b10.add k) = some (.slice Aa na ca) := fun wq hq => (grown_none hgV hq).cell hca (by simp)
        have FB : ∀ wq, V.grownBy wq none → wq.cell? (b13.add 0) = some (.slice Ab na cb) := fun wq hq => hq.cell hcb (by simp)
        have eb0 : b13.add 0 = b13 := by unfold Addr.add; split <;> simp_all
        have FB2 : ∀ wq, V.grownBy wq none → wq.cell? b13 = some (.slice Ab na cb) := fun wq hq => by have := FB wq hq; rwa [eb0] at this
        clear eb0
        have hsp := fun wq (hq : V.grownBy wq none) => SameP_any Aa Ab na ca cb Pa (by omega) u1 wq (hoa.rd.kept (grown_none hgV hq)) (hob.rd.kept hq) hoa.at0 hob.at0
        have hsp' := fun wq (hq : V.grownBy wq none) => SameP_any Ab Aa na cb ca Pa (by omega) u1 wq (hob.rd.kept hq) (hoa.rd.kept (grown_none hgV hq)) hob.at0 hoa.at0
        clear hpa hpb hsp
        subst eb10
        subst eb13
        obtain ⟨adl, eal, tl⟩ := RdQ.at hrow.rd hkn
        have hQ1 : P1.pairs = [ps[i + k]] := by rw [y3.out, List.drop_eq_getElem_cons hkn]; rfl
        have hr13 := hp13.rd
        rw [hQ1] at hr13
        obtain ⟨ad13, ea13, t13⟩ := RdQ.at hr13 (k := 0) (by simp)
        rw [List.getElem_cons_zero] at t13
        clear hr13 hQ1
        generalize ps[i + k] = q at *
        have TL : ∀ wq, V.grownBy wq none → AtQ wq (adl.add ((i + k) * 2)) q := fun wq hq => tl.kept (grown_none hgV hq)
        have T13 : ∀ wq, V.grownBy wq none → AtQ wq (ad13.add (0 * 2)) q := fun wq hq => t13.kept hq
        subst eal
        subst ea13
        have hneq := neq_same q
        clear tl t13 hca hcb hoa hob u1 u2 hgn hga
        have hin : i + k < n := by rw [hn.out]; exact hkn
        have ix := fun W => idx_Q adl n cl (i + k) hin W
        rw [show ((i + k : Nat) : Int) = (i : Int) + (k : Int) by omega] at ix
        have iy := fun W => idx_Q ad13 1 c13 0 (by omega) W
        have ia := fun W => idx_Hs b10 m d10 k hlt W
        have ib := fun W => idx_Hs b13 1 d13 0 (by omega) W
        have hwk : IntKind.i64.wrap (k : Int) = (k : Int) := IntWalk.i64_in _ ⟨by omega, by have := hm.out; omega⟩
        have hwk2 : IntKind.i64.wrap ((i : Int) + (k : Int) - (i : Int)) = (k : Int) := by rw [show (i : Int) + (k : Int) - (i : Int) = (k : Int) by omega]; exact hwk
        have hgk : decide ((m : Int) ≤ (k : Int)) = false := decide_eq_false (by omega)
        have hgk2 : decide (m ≤ k) = false := decide_eq_false (by omega)
        have KP := K
        clear K
        refine wp_region_grow (by kernel_rfl) (by kernel_rfl) ?_
        iterate 14
          with_reducible refine wpQuiet_step (fun K hK => ?_)
          go_simp
          first
            | (refine hK _ ?_; clear hK K)
            | (refine ⟨_, fun _ _ => rfl, hK _ ?_⟩; clear hK K)
            | (apply Exists.intro
               refine ⟨fun wq hq => ?_, hK _ ?_⟩
               (first
                 | (go_at_call 20; exact (hsp' wq hq).mono fun _ _ h => ⟨h.1, grown_none hq h.2⟩)
                 | (obtain ⟨p1, p2, p3⟩ := F13 wq hq; have p4 := G10 wq hq; have p5 := FA wq hq; have p6 := FB wq hq; have p7 := FB2 wq hq; go_simp; first | done | exact rfl | exact ⟨rfl, rfl⟩))
               clear hK K)
        with_reducible refine wpQuiet_step (fun K hK => ?_)
        rw [if_pos (by rfl)]
        refine quiet_load_kvL _ rfl _ rfl _ T13 (hK _ ?_)
        clear hK K
        iterate 3
          with_reducible refine wpQuiet_step (fun K hK => ?_)
          go_simp
          first
            | (refine hK _ ?_; clear hK K)
            | (refine ⟨_, fun _ _ => rfl, hK _ ?_⟩; clear hK K)
            | (apply Exists.intro
               refine ⟨fun wq hq => ?_, hK _ ?_⟩
               (first
                 | (go_at_call 20; exact (hsp' wq hq).mono fun _ _ h => ⟨h.1, grown_none hq h.2⟩)
                 | (obtain ⟨p1, p2, p3⟩ := F13 wq hq; have p4 := G10 wq hq; have p5 := FA wq hq; have p6 := FB wq hq; have p7 := FB2 wq hq; go_simp; first | done | exact rfl | exact ⟨rfl, rfl⟩))
               clear hK K)
        with_reducible refine wpQuiet_step (fun K hK => ?_)
        rw [if_pos (by rfl)]
        refine quiet_load_kvL _ rfl _ rfl _ TL (hK _ ?_)
        clear hK K
        iterate 32
          with_reducible refine wpQuiet_step (fun K hK => ?_)
          go_simp
          first
            | (refine hK _ ?_; clear hK K)
            | (refine ⟨_, fun _ _ => rfl, hK _ ?_⟩; clear hK K)
            | (apply Exists.intro
               refine ⟨fun wq hq => ?_, hK _ ?_⟩
               (first
                 | (go_at_call 20; exact (hsp' wq hq).mono fun _ _ h => ⟨h.1, grown_none hq h.2⟩)
                 | (obtain ⟨p1, p2, p3⟩ := F13 wq hq; have p4 := G10 wq hq; have p5 := FA wq hq; have p6 := FB wq hq; have p7 := FB2 wq hq; go_simp; first | done | exact rfl | exact ⟨rfl, rfl⟩))
               clear hK K)
        with_reducible refine wpQuiet_nil ?_
        intro wq hq
        have ksz := KP.size (hp13.kept hq) (by rw [y5.out]; omega) (by rw [y6.out]; omega) (by rw [y4.out]; exact pathsB_le ps (i + k) 1 (by omega) (by omega))
        rw [hsz1.out] at ksz
        unfold pfv at ksz
        rw [box_of y1.out y2.out y5.out y6.out] at ksz
        have hb13q := keep_of hb13 hq
        have hD := depthN_lt ps.length (i + k)
        have HS := Lib.hid (sumS_next ps i k)
        have hSl := sumS_le ps i k
        have hSl2 : k * (1 + ps.length) ≤ 12 * 13 := Nat.mul_le_mul (by have := hm.out; omega) (by omega)
        generalize depthN (i + k) ps.length = D at *
        generalize sumS ps i k = S at *
        have hSl3 : S ≤ 156 := by omega
        clear hSl hSl2
        rw [show ((1 + D : Nat) : Int) = 1 + (D : Int) by omega] at ksz
        have hD2 : D ≤ 12 := by omega
        have hszr : (Tryd.prog.info? 27).map (·.size) = some (#[Value.int .i64 (ps.length : Nat), .int .i64 ((i : Int) + (k : Int)), .slice (some ad13) 1 c13, .slice (some b13) 1 d13] : Array Value).size := size_pf
        clear ix iy ia ib hwk hwk2 hgk hgk2 hneq hb13 hb10 F13 FA FB FB2 G10 F10 hD
        go_wp2_with (first
          | (refine wpList_load_row rfl 27 _ rfl g13 rfl _ _ (0, 0) _ hb13q Tryd.underlying27 rfl hszr ?_)
          | (go_at_call 10; refine ksz.mono ?_; clear ksz; rintro e we ⟨rfl, hge2⟩))
        go_roundw
        case rel => exact ⟨k + 1, by omega, by go_num, by rw [HS.out]; congr 1, grown_none hgV (grown_none hq hge2)⟩
        case measure => simp [intOf]; omega
      · obtain rfl : k = m := by omega
        have q1 : ¬ (i : Int) + (k : Int) < (j : Int) := by have := hm.out; omega
        have ks := K.some_ 0 (ps.length : Nat) (hrow.kept hgr) (hk.kept hgr) (by omega) (by omega)
        rw [show (0 : Int).toNat = 0 from rfl, show min ((ps.length : Nat) : Int).toNat ps.length = ps.length by omega] at ks
        obtain ⟨z1, z2, z3, z4, z5, z6⟩ := someL_some (ps := ps) (i := 0) (j := ps.length) (by omega) (Nat.le_refl _)
        have mA := someL_may ps 0 ps.length (Nat.le_refl _) (by omega)
        have ks9 := fun W' (hg : W.grownBy W' none) => K.some_ (-9) 99 (hrow.kept hg) (hk.kept hg) (by omega) (by omega)
        rw [show (-9 : Int).toNat = 0 from rfl, show min (99 : Int).toNat ps.length = ps.length by rw [show (99 : Int).toNat = 99 from rfl]; omega] at ks9
        obtain ⟨PA, hPA⟩ : ∃ P, P = someL ps 0 ps.length := ⟨_, rfl⟩
        rw [← hPA] at ks z1 z2 z3 z4 z5 z6 mA ks9
        clear hPA z1 z3 z4 z6
        rw [Nat.sub_zero] at z5
        replace z2 := Lib.hid z2
        replace z5 := Lib.hid z5
        replace mA := Lib.hid mA
        rw [← hn.out] at ks ks9
        go_upto_region 15 with (go_at_call 18; refine ks.mono ?_; clear ks; rintro e wa ⟨A14, c14, B14, d14, rs14, rfl, hp14, -, hga⟩; unfold pfv; have hst := store_pf PA.count PA.first A14 B14 PA.pairs.length PA.paths.length c14 d14 wa)
        clear hst
        have hb14 : (wa.alloc (.cells #[.int .i64 PA.count, .int .i64 PA.first, .slice A14 PA.pairs.length c14, .slice B14 PA.paths.length d14] 27)).heap[wa.heap.size]? = some (.cells #[.int .i64 PA.count, .int .i64 PA.first, .slice A14 PA.pairs.length c14, .slice B14 PA.paths.length d14] 27 (0, 0)) := alloc_at rfl
        have hgn := grown_alloc hga (.cells #[.int .i64 PA.count, .int .i64 PA.first, .slice A14 PA.pairs.length c14, .slice B14 PA.paths.length d14] 27)
        replace hp14 := hp14.kept (grown_alloc (grown_refl wa none) (.cells #[.int .i64 PA.count, .int .i64 PA.first, .slice A14 PA.pairs.length c14, .slice B14 PA.paths.length d14] 27))
        generalize wa.alloc (.cells #[.int .i64 PA.count, .int .i64 PA.first, .slice A14 PA.pairs.length c14, .slice B14 PA.paths.length d14] 27) = V at *
        generalize wa.heap.size = g14 at *
        have hgV := grown_none hgr hgn
        have F14 : ∀ wq, V.grownBy wq none → wq.cell? ⟨g14, 1, none⟩ = some (.int .i64 0) ∧ wq.cell? ⟨g14, 2, none⟩ = some (.slice A14 n c14) := fun wq hq => ⟨(by rw [cell_of_row wq _ 1 _ _ _ (keep_of hb14 hq)]; exact congrArg some (congrArg _ z2.out)), (by rw [cell_of_row wq _ 2 _ _ _ (keep_of hb14 hq), hn.out, ← z5.out]; rfl)⟩
        have G10 := fun wq (hq : V.grownBy wq none) => F10 wq (grown_none hgV hq)
        have ksz := fun wq (hq : V.grownBy wq none) => K.size (hp10.kept (grown_none hgV hq)) (by have := hm.out; rw [e5.out]; omega) (by have := hm.out; rw [e6.out]; omega) (by rw [e4.out]; exact pathsB_le ps i k (by have := hm.out; omega) (by omega))
        rw [hsz.out] at ksz
        generalize sumS ps i k = S5 at *
        replace ks9 := fun wq (hq : V.grownBy wq none) => ks9 wq (grown_none hgV hq)
        have hb10V := keep_of hb10P.out hgV
        replace hk := hk.kept hgV
        replace hgw := grown_none hgw hgV
        have hsubm : IntKind.i64.wrap ((j : Int) - (i : Int)) = (k : Int) := by rw [show (j : Int) - (i : Int) = (k : Int) by have := hm.out; omega]; exact IntWalk.i64_in _ ⟨by omega, by have := hm.out; omega⟩
        have KP := K
        clear K hb10 hb10P F10 hgn hga hp10 hgr hgV hrow kr
        refine wp_region_gt (R := none) (i1 := 999) (q := true) (al := ppaAl) 41 (N := 173) (S := ppaS) (die := ppaDie) (own := ppaOwn) (F := ppaF Al A10 B10 A14 B14 cl c10 d10 c14 d14 n k i j S5 g10 g14 P PA) (by kernel_rfl) (Nat.le_of_ble_eq_true (by kernel_rfl)) (by kernel_rfl) (by kernel_rfl) (by kernel_rfl) (by kernel_rfl) (Nat.le_of_ble_eq_true (by kernel_rfl)) (fun g e => by cases e) (ppaF_lasts Al A10 B10 A14 B14 cl c10 d10 c14 d14 n k i j S5 g10 g14 P PA) ?_ ?_
        · intro i o L' a w K hi ho hg hgN hLi hout hpre houter hitem h1 h2
          have hcases : i = 0 ∨ i = 1 ∨ i = 2 ∨ i = 3 ∨ i = 4 ∨ i = 5 ∨ i = 6 ∨ i = 7 ∨ i = 8 ∨ i = 9 ∨ i = 10 ∨ i = 11 ∨ i = 12 ∨ i = 13 ∨ i = 14 ∨ i = 15 ∨ i = 16 ∨ i = 17 ∨ i = 18 ∨ i = 19 ∨ i = 20 ∨ i = 21 ∨ i = 22 ∨ i = 23 ∨ i = 24 ∨ i = 25 ∨ i = 26 ∨ i = 27 ∨ i = 28 ∨ i = 29 ∨ i = 30 ∨ i = 31 ∨ i = 32 ∨ i = 33 ∨ i = 34 ∨ i = 35 ∨ i = 36 ∨ i = 37 ∨ i = 38 ∨ i = 39 ∨ i = 40 := by omega
          rcases hcases with rfl | rfl | rfl | rfl | rfl | rfl | rfl | rfl | rfl | rfl | rfl | rfl | rfl | rfl | rfl | rfl | rfl | rfl | rfl | rfl | rfl | rfl | rfl | rfl | rfl | rfl | rfl | rfl | rfl | rfl | rfl | rfl | rfl | rfl | rfl | rfl | rfl | rfl | rfl | rfl | rfl
          · cases (show some _ = some o from ho)
            exact ⟨rfl, wp_load_row 27 _ rfl _ (houter _ rfl) _ #[.int .i64 P.count, .int .i64 P.first, .slice A10 P.pairs.length c10, .slice B10 P.paths.length d10] (0, 0) _ (keep_of hb10V hg) Tryd.underlying27 rfl (size_pf) (h1 _ _ (grown_refl _ none) rfl (nob rfl) (.inl rfl))⟩
          · cases (show some _ = some o from ho)
            have x132 : a.eval (.tmp 132) = (.agg #[.int .i64 P.count, .int .i64 P.first, .slice A10 P.pairs.length c10, .slice B10 P.paths.length d10]) := hitem 0 (by decide) ⟨hpre 0 rfl, hout _ (by decide)⟩
            refine ⟨rfl, wp_call rfl Tryd.func10 (by kernel_rfl) (by kernel_rfl) (args := #[(.agg #[.int .i64 P.count, .int .i64 P.first, .slice A10 P.pairs.length c10, .slice B10 P.paths.length d10])]) (by simp [x132]) ((ksz w hg).mono ?_)⟩
            rintro e w' ⟨rfl, hg'⟩
            exact ⟨_, rfl, h1 _ _ hg' rfl (nob rfl) (.inl rfl)⟩
          · cases (show some _ = some o from ho)
            exact ⟨rfl, wp_move rfl (h1 _ _ (grown_refl _ none) (houter _ rfl) (by rw [houter _ rfl]; exact nob rfl) (by rw [houter _ rfl]; exact .inl rfl))⟩
          · cases (show some _ = some o from ho)
            exact ⟨rfl, wp_bin rfl (hitem 1 (by decide) ⟨hpre 1 rfl, hout _ (by decide)⟩) (hitem 2 (by decide) ⟨hpre 2 rfl, hout _ (by decide)⟩) (guard_int _ _ _ _ _) (eql_i64 _ _ _ (rfl)) (h1 _ _ (grown_refl _ none) rfl (nob rfl) (.inl rfl))⟩
          · cases (show some _ = some o from ho)
            have hx := hitem 3 (by decide) ⟨hpre 3 rfl, hout _ (by decide)⟩
            exact ⟨rfl, wp_move rfl (h1 _ _ (grown_refl _ none) hx (by rw [show a.eval (.tmp 135) = .bool true from hx]; exact nob rfl) (by rw [show a.eval (.tmp 135) = .bool true from hx]; exact .inl rfl))⟩
          · cases (show some _ = some o from ho)
            exact ⟨wanted_of (j := 4) rfl rfl (hitem 4 (by decide) ⟨hpre 4 rfl, hout _ (by decide)⟩), wp_field rfl (houter _ rfl) (field_pf _ 1 (by omega)) (h1 _ _ (grown_refl _ none) rfl (nob rfl) (.inl rfl))⟩
          · cases (show some _ = some o from ho)
            exact ⟨wanted_of (j := 4) rfl rfl (hitem 4 (by decide) ⟨hpre 4 rfl, hout _ (by decide)⟩), wp_loadC rfl (hitem 5 (by decide) ⟨hpre 5 rfl, hout _ (by decide)⟩) (load_cell ((G10 w hg).1) Tryd.underlying3 rfl) (h1 _ _ (grown_refl _ none) rfl (nob rfl) (.inl rfl))⟩
          · cases (show some _ = some o from ho)
            exact ⟨wanted_of (j := 4) rfl rfl (hitem 4 (by decide) ⟨hpre 4 rfl, hout _ (by decide)⟩), wp_move rfl (h1 _ _ (grown_refl _ none) (houter _ rfl) (by rw [houter _ rfl]; exact nob rfl) (by rw [houter _ rfl]; exact .inl rfl))⟩
          · cases (show some _ = some o from ho)
            exact ⟨wanted_of (j := 4) rfl rfl (hitem 4 (by decide) ⟨hpre 4 rfl, hout _ (by decide)⟩), wp_bin rfl (hitem 6 (by decide) ⟨hpre 6 rfl, hout _ (by decide)⟩) (hitem 7 (by decide) ⟨hpre 7 rfl, hout _ (by decide)⟩) (guard_int _ _ _ _ _) (eql_i64 _ _ _ (rfl)) (h1 _ _ (grown_refl _ none) rfl (nob rfl) (.inl rfl))⟩
          · cases (show some _ = some o from ho)
            have hc := hitem 4 (by decide) ⟨hpre 4 rfl, hout _ (by decide)⟩
            have hx := hitem 8 (by decide) ⟨hpre 8 rfl, hout _ (by decide)⟩
            exact ⟨rfl, wp_pick rfl hc (h1 _ _ (grown_refl _ none) hx (by rw [show a.eval (.tmp 140) = .bool true from hx]; exact nob rfl) (by rw [show a.eval (.tmp 140) = .bool true from hx]; exact .inl rfl))⟩
          · cases (show some _ = some o from ho)
            have hx := hitem 9 (by decide) ⟨hpre 9 rfl, hout _ (by decide)⟩
            exact ⟨rfl, wp_move rfl (h1 _ _ (grown_refl _ none) hx (by rw [show a.eval (.tmp 141) = .bool true from hx]; exact nob rfl) (by rw [show a.eval (.tmp 141) = .bool true from hx]; exact .inl rfl))⟩
          · cases (show some _ = some o from ho)
            exact ⟨wanted_of (j := 10) rfl rfl (hitem 10 (by decide) ⟨hpre 10 rfl, hout _ (by decide)⟩), wp_field rfl (houter _ rfl) (field_pf _ 2 (by omega)) (h1 _ _ (grown_refl _ none) rfl (nob rfl) (.inl rfl))⟩
          · cases (show some _ = some o from ho)
            exact ⟨wanted_of (j := 10) rfl rfl (hitem 10 (by decide) ⟨hpre 10 rfl, hout _ (by decide)⟩), wp_loadC rfl (hitem 11 (by decide) ⟨hpre 11 rfl, hout _ (by decide)⟩) (load_cell ((G10 w hg).2.1) Tryd.underlying24 rfl) (h1 _ _ (grown_refl _ none) rfl (fun g e => by cases (show (none : Option Nat) = some g from e)) (.inl rfl))⟩
          · cases (show some _ = some o from ho)
            exact ⟨wanted_of (j := 10) rfl rfl (hitem 10 (by decide) ⟨hpre 10 rfl, hout _ (by decide)⟩), wp_len rfl (by kernel_rfl) (hitem 12 (by decide) ⟨hpre 12 rfl, hout _ (by decide)⟩) (h1 _ _ (grown_refl _ none) rfl (nob rfl) (.inl rfl))⟩
          · cases (show some _ = some o from ho)
            exact ⟨wanted_of (j := 10) rfl rfl (hitem 10 (by decide) ⟨hpre 10 rfl, hout _ (by decide)⟩), wp_move rfl (h1 _ _ (grown_refl _ none) (houter _ rfl) (by rw [houter _ rfl]; exact nob rfl) (by rw [houter _ rfl]; exact .inl rfl))⟩
          · cases (show some _ = some o from ho)
            exact ⟨wanted_of (j := 10) rfl rfl (hitem 10 (by decide) ⟨hpre 10 rfl, hout _ (by decide)⟩), wp_move rfl (h1 _ _ (grown_refl _ none) (houter _ rfl) (by rw [houter _ rfl]; exact nob rfl) (by rw [houter _ rfl]; exact .inl rfl))⟩
          · cases (show some _ = some o from ho)
            exact ⟨wanted_of (j := 10) rfl rfl (hitem 10 (by decide) ⟨hpre 10 rfl, hout _ (by decide)⟩), wp_bin rfl (hitem 14 (by decide) ⟨hpre 14 rfl, hout _ (by decide)⟩) (hitem 15 (by decide) ⟨hpre 15 rfl, hout _ (by decide)⟩) (guard_subI _ _ _ _ _) (sub_to hsubm _) (h1 _ _ (grown_refl _ none) rfl (nob rfl) (.inl rfl))⟩
          · cases (show some _ = some o from ho)
            exact ⟨wanted_of (j := 10) rfl rfl (hitem 10 (by decide) ⟨hpre 10 rfl, hout _ (by decide)⟩), wp_bin rfl (hitem 13 (by decide) ⟨hpre 13 rfl, hout _ (by decide)⟩) (hitem 16 (by decide) ⟨hpre 16 rfl, hout _ (by decide)⟩) (guard_int _ _ _ _ _) (eql_i64 _ _ _ (rfl)) (h1 _ _ (grown_refl _ none) rfl (nob rfl) (.inl rfl))⟩
          · cases (show some _ = some o from ho)
            have hc := hitem 10 (by decide) ⟨hpre 10 rfl, hout _ (by decide)⟩
            have hx := hitem 17 (by decide) ⟨hpre 17 rfl, hout _ (by decide)⟩
            exact ⟨rfl, wp_pick rfl hc (h1 _ _ (grown_refl _ none) hx (by rw [show a.eval (.tmp 149) = .bool true from hx]; exact nob rfl) (by rw [show a.eval (.tmp 149) = .bool true from hx]; exact .inl rfl))⟩
          · cases (show some _ = some o from ho)
            have hx := hitem 18 (by decide) ⟨hpre 18 rfl, hout _ (by decide)⟩
            exact ⟨rfl, wp_move rfl (h1 _ _ (grown_refl _ none) hx (by rw [show a.eval (.tmp 150) = .bool true from hx]; exact nob rfl) (by rw [show a.eval (.tmp 150) = .bool true from hx]; exact .inl rfl))⟩
          · cases (show some _ = some o from ho)
            exact ⟨wanted_of (j := 19) rfl rfl (hitem 19 (by decide) ⟨hpre 19 rfl, hout _ (by decide)⟩), wp_field rfl (houter _ rfl) (field_pf _ 2 (by omega)) (h1 _ _ (grown_refl _ none) rfl (nob rfl) (.inl rfl))⟩
          · cases (show some _ = some o from ho)
            exact ⟨wanted_of (j := 19) rfl rfl (hitem 19 (by decide) ⟨hpre 19 rfl, hout _ (by decide)⟩), wp_loadC rfl (hitem 20 (by decide) ⟨hpre 20 rfl, hout _ (by decide)⟩) (load_cell ((F14 w hg).2) Tryd.underlying24 rfl) (h1 _ _ (grown_refl _ none) rfl (fun g e => by cases (show (none : Option Nat) = some g from e)) (.inl rfl))⟩
          · cases (show some _ = some o from ho)
            exact ⟨wanted_of (j := 19) rfl rfl (hitem 19 (by decide) ⟨hpre 19 rfl, hout _ (by decide)⟩), wp_len rfl (by kernel_rfl) (hitem 21 (by decide) ⟨hpre 21 rfl, hout _ (by decide)⟩) (h1 _ _ (grown_refl _ none) rfl (nob rfl) (.inl rfl))⟩
          · cases (show some _ = some o from ho)
            exact ⟨wanted_of (j := 19) rfl rfl (hitem 19 (by decide) ⟨hpre 19 rfl, hout _ (by decide)⟩), wp_move rfl (h1 _ _ (grown_refl _ none) (houter _ rfl) (by rw [houter _ rfl]; exact (fun g e => by cases (show (none : Option Nat) = some g from e))) (by rw [houter _ rfl]; exact .inl rfl))⟩
          · cases (show some _ = some o from ho)
            exact ⟨wanted_of (j := 19) rfl rfl (hitem 19 (by decide) ⟨hpre 19 rfl, hout _ (by decide)⟩), wp_len rfl (by kernel_rfl) (hitem 23 (by decide) ⟨hpre 23 rfl, hout _ (by decide)⟩) (h1 _ _ (grown_refl _ none) rfl (nob rfl) (.inl rfl))⟩
          · cases (show some _ = some o from ho)
            exact ⟨wanted_of (j := 19) rfl rfl (hitem 19 (by decide) ⟨hpre 19 rfl, hout _ (by decide)⟩), wp_bin rfl (hitem 22 (by decide) ⟨hpre 22 rfl, hout _ (by decide)⟩) (hitem 24 (by decide) ⟨hpre 24 rfl, hout _ (by decide)⟩) (guard_int _ _ _ _ _) (eql_i64 _ _ _ (rfl)) (h1 _ _ (grown_refl _ none) rfl (nob rfl) (.inl rfl))⟩
          · cases (show some _ = some o from ho)
            have hc := hitem 19 (by decide) ⟨hpre 19 rfl, hout _ (by decide)⟩
            have hx := hitem 25 (by decide) ⟨hpre 25 rfl, hout _ (by decide)⟩
            exact ⟨rfl, wp_pick rfl hc (h1 _ _ (grown_refl _ none) hx (by rw [show a.eval (.tmp 157) = .bool true from hx]; exact nob rfl) (by rw [show a.eval (.tmp 157) = .bool true from hx]; exact .inl rfl))⟩
          · cases (show some _ = some o from ho)
            have hx := hitem 26 (by decide) ⟨hpre 26 rfl, hout _ (by decide)⟩
            exact ⟨rfl, wp_move rfl (h1 _ _ (grown_refl _ none) hx (by rw [show a.eval (.tmp 158) = .bool true from hx]; exact nob rfl) (by rw [show a.eval (.tmp 158) = .bool true from hx]; exact .inl rfl))⟩
          · cases (show some _ = some o from ho)
            exact ⟨wanted_of (j := 27) rfl rfl (hitem 27 (by decide) ⟨hpre 27 rfl, hout _ (by decide)⟩), wp_field rfl (houter _ rfl) (field_pf _ 1 (by omega)) (h1 _ _ (grown_refl _ none) rfl (nob rfl) (.inl rfl))⟩
          · cases (show some _ = some o from ho)
            exact ⟨wanted_of (j := 27) rfl rfl (hitem 27 (by decide) ⟨hpre 27 rfl, hout _ (by decide)⟩), wp_loadC rfl (hitem 28 (by decide) ⟨hpre 28 rfl, hout _ (by decide)⟩) (load_cell ((F14 w hg).1) Tryd.underlying3 rfl) (h1 _ _ (grown_refl _ none) rfl (nob rfl) (.inl rfl))⟩
          · cases (show some _ = some o from ho)
            exact ⟨wanted_of (j := 27) rfl rfl (hitem 27 (by decide) ⟨hpre 27 rfl, hout _ (by decide)⟩), wp_bin rfl (hitem 29 (by decide) ⟨hpre 29 rfl, hout _ (by decide)⟩) (rfl) (guard_int _ _ _ _ _) (eql_i64 _ _ _ (rfl)) (h1 _ _ (grown_refl _ none) rfl (nob rfl) (.inl rfl))⟩
          · cases (show some _ = some o from ho)
            have hc := hitem 27 (by decide) ⟨hpre 27 rfl, hout _ (by decide)⟩
            have hx := hitem 30 (by decide) ⟨hpre 30 rfl, hout _ (by decide)⟩
            exact ⟨rfl, wp_pick rfl hc (h1 _ _ (grown_refl _ none) hx (by rw [show a.eval (.tmp 162) = .bool true from hx]; exact nob rfl) (by rw [show a.eval (.tmp 162) = .bool true from hx]; exact .inl rfl))⟩
          · cases (show some _ = some o from ho)
            have hx := hitem 31 (by decide) ⟨hpre 31 rfl, hout _ (by decide)⟩
            exact ⟨rfl, wp_move rfl (h1 _ _ (grown_refl _ none) hx (by rw [show a.eval (.tmp 163) = .bool true from hx]; exact nob rfl) (by rw [show a.eval (.tmp 163) = .bool true from hx]; exact .inl rfl))⟩
          · cases (show some _ = some o from ho)
            exact ⟨wanted_of (j := 32) rfl rfl (hitem 32 (by decide) ⟨hpre 32 rfl, hout _ (by decide)⟩), wp_load_row 27 _ rfl _ (houter _ rfl) _ #[.int .i64 PA.count, .int .i64 PA.first, .slice A14 PA.pairs.length c14, .slice B14 PA.paths.length d14] (0, 0) _ (keep_of hb14 hg) Tryd.underlying27 rfl (size_pf) (h1 _ _ (grown_refl _ none) rfl (nob rfl) (.inl rfl))⟩
          · cases (show some _ = some o from ho)
            exact ⟨wanted_of (j := 32) rfl rfl (hitem 32 (by decide) ⟨hpre 32 rfl, hout _ (by decide)⟩), wp_move rfl (h1 _ _ (grown_refl _ none) (houter _ rfl) (by rw [houter _ rfl]; exact (fun g e => by cases (show (none : Option Nat) = some g from e))) (by rw [houter _ rfl]; exact .inl rfl))⟩
          · cases (show some _ = some o from ho)
            have x166 : a.eval (.tmp 166) = .slice Al n cl := hitem 34 (by decide) ⟨hpre 34 rfl, hout _ (by decide)⟩
            refine ⟨wanted_of (j := 32) rfl rfl (hitem 32 (by decide) ⟨hpre 32 rfl, hout _ (by decide)⟩), wp_call rfl Tryd.func18 (by kernel_rfl) (by kernel_rfl) (args := #[.slice Al n cl, .int .i64 (-9), .int .i64 99]) (by simp [eval_const, x166]) ((ks9 w hg).mono ?_)⟩
            rintro e w' ⟨A, c, B, d, rs, rfl, hp, -, hg'⟩
            exact ⟨_, rfl, h1 _ _ hg' (⟨A, c, B, d, rs, rfl, hp⟩) (nob rfl) (.inl rfl)⟩
          · cases (show some _ = some o from ho)
            have ea : a.eval (.tmp 165) = pfv PA A14 c14 B14 d14 := hitem 33 (by decide) ⟨hpre 33 rfl, hout _ (by decide)⟩
            obtain ⟨Ab, cb, Bb, db, rb, eb, hb'⟩ := hitem 35 (by decide) ⟨hpre 35 rfl, hout _ (by decide)⟩
            replace eb : a.eval (.tmp 167) = _ := eb
            refine ⟨wanted_of (j := 32) rfl rfl (hitem 32 (by decide) ⟨hpre 32 rfl, hout _ (by decide)⟩), wp_call rfl Tryd.func19 (by kernel_rfl) (by kernel_rfl) (args := #[pfv PA A14 c14 B14 d14, pfv PA Ab cb Bb db]) (by simp [ea, eb]) ((Proofs_any PA A14 B14 Ab Bb c14 d14 cb db rs14 rb w (hp14.kept hg) hb' mA.out.1 mA.out.2.1 mA.out.2.2).mono ?_)⟩
            rintro e w' ⟨rfl, hg'⟩
            exact ⟨_, rfl, h1 _ _ hg' rfl (nob rfl) (.inl rfl)⟩
          · cases (show some _ = some o from ho)
            have hc := hitem 32 (by decide) ⟨hpre 32 rfl, hout _ (by decide)⟩
            have hx := hitem 36 (by decide) ⟨hpre 36 rfl, hout _ (by decide)⟩
            exact ⟨rfl, wp_pick rfl hc (h1 _ _ (grown_refl _ none) hx (by rw [show a.eval (.tmp 168) = .bool true from hx]; exact nob rfl) (by rw [show a.eval (.tmp 168) = .bool true from hx]; exact .inl rfl))⟩
          · cases (show some _ = some o from ho)
            have hx := hitem 37 (by decide) ⟨hpre 37 rfl, hout _ (by decide)⟩
            exact ⟨rfl, wp_move rfl (h1 _ _ (grown_refl _ none) hx (by rw [show a.eval (.tmp 169) = .bool true from hx]; exact nob rfl) (by rw [show a.eval (.tmp 169) = .bool true from hx]; exact .inl rfl))⟩
          · cases (show some _ = some o from ho)
            refine ⟨wanted_of (j := 38) rfl rfl (hitem 38 (by decide) ⟨hpre 38 rfl, hout _ (by decide)⟩), wp_call rfl Tryd.func3 (by kernel_rfl) (by kernel_rfl) (args := #[]) (by simp []) ((ProveRuns_any KP w (hk.kept hg)).mono ?_)⟩
            rintro e w' ⟨rfl, hg'⟩
            exact ⟨_, rfl, h1 _ _ hg' rfl (nob rfl) (.inl rfl)⟩
          · cases (show some _ = some o from ho)
            have hc := hitem 38 (by decide) ⟨hpre 38 rfl, hout _ (by decide)⟩
            have hx := hitem 39 (by decide) ⟨hpre 39 rfl, hout _ (by decide)⟩
            exact ⟨rfl, wp_pick rfl hc (h1 _ _ (grown_refl _ none) hx (by rw [show a.eval (.tmp 171) = .bool true from hx]; exact nob rfl) (by rw [show a.eval (.tmp 171) = .bool true from hx]; exact .inl rfl))⟩
        · intro a wT hgT hend hap ha
          obtain ⟨f, hf⟩ : ∃ f : Nat → Value, f = fun t => a.tmps.getD t undef := ⟨_, rfl⟩
          have s172 : f 172 = .bool true := by rw [hf]; exact (hend 40 (by decide) (by decide)).1
          rw [← hf] at ha
          clear hend hap
          clear hf
          subst ha
          simp only [fill, ppaS, Nat.reduceAdd, Nat.reduceBEq, Bool.or_false, Bool.or_true, cond_true, cond_false, s172]
          clear s172
          change wpList _ _ _ [_] _ _
          go_wp2_with fail
          go_ret
          exact ⟨rfl, grown_none hgw hgT⟩
  · have eP : P = ⟨ps.length, 0, [], []⟩ := by rw [hP.out, someL_none hij]
    have hge : decide ((j : Int) ≤ (i : Int)) = true := decide_eq_true (by omega)
    have ksz := fun W' (hg : W.grownBy W' none) => K.size (hp10.kept hg) (by rw [eP]; simp) (by rw [eP]; simp) (by rw [eP]; simp)
    rw [show sizeL P = 0 by rw [eP]; rfl] at ksz
    unfold pfv at ksz
    rw [box_of (P := P) (x := ps.length) (y := 0) (n := 0) (m := 0) (by rw [eP]) (by rw [eP]) (by rw [eP]; rfl) (by rw [eP]; rfl)] at hb10 ksz
    have c0' : W.cell? ⟨g10, 0, none⟩ = some (.int .i64 (ps.length : Nat)) := by rw [cell_of_row W _ 0 _ _ _ hb10]; rfl
    have c1' : W.cell? ⟨g10, 1, none⟩ = some (.int .i64 0) := by rw [cell_of_row W _ 1 _ _ _ hb10]; rfl
    have c2' : W.cell? ⟨g10, 2, none⟩ = some (.slice A10 0 c10) := by rw [cell_of_row W _ 2 _ _ _ hb10]; rfl
    have c3' : W.cell? ⟨g10, 3, none⟩ = some (.slice B10 0 d10) := by rw [cell_of_row W _ 3 _ _ _ hb10]; rfl
    replace eP := Lib.hid eP
    clear hP
    have hsz2 : (Tryd.prog.info? 27).map (·.size) = some (#[Value.int .i64 (ps.length : Nat), .int .i64 0, .slice A10 0 c10, .slice B10 0 d10] : Array Value).size := size_pf
    generalize ps.length = n at *
    go_wp2_with (first
      | (refine wpList_load_row_g (by rfl) 27 _ rfl g10 rfl 27 _ (0, 0) _ hb10 Tryd.underlying27 rfl hsz2 ?_)
      | (go_at_call 10; refine (ksz _ (grown_refl _ _)).mono ?_; clear ksz; rintro e we ⟨rfl, hge2⟩)
      | (go_at_call 3; refine (kr _ hge2).mono ?_; clear kr; rintro e wf ⟨rfl, hgf⟩))
    go_ret
    exact ⟨rfl, grown_none hgw (grown_none hge2 hgf)⟩
end Go.Proofs.YtpeepiboocdnaaaDoor
