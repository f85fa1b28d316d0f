/- KvRanges. -/
import Derived.Test.YtehbhjkceemmcaaKvS
import Derived.Test.YtehbhjkceemmcaaKvJ
import Derived.Test.YtehbhjkceemmcaaKvR
import Derived.Test.YtehbhjkceemmcaaKG
import Derived.Deep.DeepCutAuto
namespace Go.Proofs.Ytehbhjkceemmcaa
open Go.RowKit

theorem guard_neB (x y : Operand) (xv yv : Bool) (w : World) : (eqGuard .neq 4 x y (.bool xv) (.bool yv)).run Try.prog w = .ok () w := by kernel_rfl
theorem neB_same (b : Bool) (w : World) : (binOp .neq 4 (.bool b) (.bool b)).run Try.prog w = .ok (.bool false) w := by
  have h : (binOp .neq 4 (.bool b) (.bool b)).run Try.prog w = .ok (.bool (b != b)) w := by cases b <;> kernel_rfl
  rw [h]; simp
theorem eqI_nat (i j : Nat) (w : World) : (binOp .eql 3 (.int .i64 (i : Int)) (.int .i64 (j : Int))).run Try.prog w = .ok (.bool (decide (i = j))) w := by
  have h : (binOp .eql 3 (.int .i64 (i : Int)) (.int .i64 (j : Int))).run Try.prog w = .ok (.bool ((i : Int) == (j : Int))) w := by kernel_rfl
  rw [h]
  congr 2
  by_cases e : i = j
  · subst e; simp
  · have : ¬ (i : Int) = (j : Int) := by omega
    simp [e, this]
theorem Leaf_new (p : Kv) (w : World) (h1 : p.1.length ≤ 100000) (h2 : p.2.length ≤ 100000) : Calls Try.prog 22 #[.agg #[.string ⟨p.1.toArray⟩, .string ⟨p.2.toArray⟩]] w fun e w' => ∃ v', e = .returned v' ∧ OwnB w' v' (leafL p) ∧ w.grownBy w' none ∧ (∀ g ∈ blocksOf v', w.heap.size ≤ g) ∧ (∀ g ∈ blocksOf v', g < w'.heap.size) := by
  refine (Leaf_any p w h1 h2).mono ?_
  rintro e w' ⟨v', rfl, ho, hg, hn⟩
  exact ⟨v', rfl, ho, hg, fun g hgm => hn g (mem_own ho g hgm), own_lt ho⟩
theorem wpList_appQ_g {ops : Array Oper} {rest : List Oper} {o : Oper} {a : Act} {w : World} {Q : Exit → Act → World → Prop} (hw : Region.wanted o (yielded ops a.tmps) = true) (s x : Operand)
    (ho : o.op = .call { callee := .builtin .append, args := #[s, x], argTypes := #[22, 22] })
    {v : Value} {ps : List Kv} (hv : a.eval s = v) (hown : OwnQ w v ps) {A : Option Addr} {m c : Nat} {qs : List Kv} (hx : a.eval x = .slice A m c) (hm : m = qs.length) (hr : RdQ w A qs) (hb : ps.length + m ≤ 1000000000)
    (h : ∀ v' w', OwnQ w' v' (ps ++ qs) → Grew w w' v v' → wpList Try.prog ops Q rest (a.put o.dst v') w') : wpList Try.prog ops Q (o :: rest) a w := by
  refine wpList_step fun K hK => ?_
  simp only [hw, if_true]
  exact wp_appQ ho hv hown hx hm hr hb fun v' w' h1 h2 => hK _ _ (h v' w' h1 h2)
/-- A row of the call's own since that world. -/
def Since (w0 w : World) (v : Value) : Prop := w0.grownBy w none ∧ ∀ g, v.ownBlock = some g → w0.heap.size ≤ g
theorem Since.lit (w : World) (o : Obj) (n c : Nat) : Since w (w.alloc o) (.slice (some ⟨w.heap.size, 0, none⟩) n c) := ⟨grown_alloc (grown_refl _ _) _, fun g e => by cases e; exact Nat.le_refl _⟩
theorem Since.kept {w0 w w' : World} {v : Value} (h : Since w0 w v) (hg : w.grownBy w' none) : Since w0 w' v := ⟨grown_none h.1 hg, h.2⟩
theorem Since.app {w0 w w' : World} {v v' : Value} (h : Since w0 w v) (hg : Grew w w' v v') : Since w0 w' v' := by
  refine ⟨grown_trans h.1 hg.1 (.inr h.2), fun g e => ?_⟩
  rcases hg.2 with e' | ⟨g', e', hle⟩
  · exact h.2 g (by rw [← e', e])
  · rw [e] at e'; injection e' with e'; exact Nat.le_trans h.1.size (by omega)
theorem SameQ_n (A1 A2 : Option Addr) (l1 l2 : List Kv) (n1 n2 c1 c2 : Nat) (w : World) (h1 : RdQ w A1 l1) (h2 : RdQ w A2 l2) (hm1 : l1.length ≤ 1000) (hm2 : l2.length ≤ 1000) (e1 : n1 = l1.length) (e2 : n2 = l2.length) (he : l1 = l2) :
    Calls Try.prog 19 #[.slice A1 n1 c1, .slice A2 n2 c2] w fun e w' => e = .returned (.bool true) ∧ w.grownBy w' none := by
  subst e1 e2 he
  refine (SameQ_any A1 A2 l1 l1 c1 c2 w h1 h2 (by omega) (by omega)).mono ?_
  rintro e w' ⟨rfl, hg⟩
  exact ⟨by simp, hg⟩
theorem RightQ_n (A : Option Addr) (c n : Nat) (ps : List Kv) (w : World) (hr : RdQ w A ps) (hm : ps.length ≤ 1000) (hn : n = ps.length) :
    Calls Try.prog 11 #[.slice A n c] w fun e w' => e = .returned (.bool (rightL ps)) ∧ w.grownBy w' none := by
  subst hn; exact Right_any A c ps w hr (by omega)
theorem RRightQ_n (A : Option Addr) (c n : Nat) (ps : List Kv) (w : World) (hr : RdQ w A ps) (hm : ps.length ≤ 1000) (hn : n = ps.length) :
    Calls Try.prog 23 #[.slice A n c] w fun e w' => e = .returned (.bool (rightL ps)) ∧ w.grownBy w' none := by
  subst hn; exact RRight_any A c ps w hr (by omega)
def kxS (t : Nat) : Bool := t == 108 || t == 109 || t == 110 || t == 111 || t == 112 || t == 113 || t == 114 || t == 115 || t == 116 || t == 117 || t == 118 || t == 119 || t == 120 || t == 121 || t == 122
def kxDie (_ : Nat) : Nat := 99
def kxOwn (k : Nat) : Bool := k == 4 || k == 9
def kxAl (k : Nat) : Bool := k == 0 || k == 5
def kxF (ad : Addr) (n cl i1 j1 : Nat) (y1 y2 : Kv) (bij : Bool) : Nat → Value → World → Prop
  | 0 => fun v _ => v = .slice (some ad) n cl
  | 1 => fun v _ => v = .int .i64 (i1 : Nat)
  | 2 => fun v _ => v = .pointer (some (ad.add (i1 * 2)))
  | 3 => fun v _ => v = (.agg #[.string ⟨(y1).1.toArray⟩, .string ⟨(y1).2.toArray⟩])
  | 4 => fun v w => OwnB w v (leafL y1)
  | 5 => fun v _ => v = .slice (some ad) n cl
  | 6 => fun v _ => v = .int .i64 (j1 : Nat)
  | 7 => fun v _ => v = .pointer (some (ad.add (j1 * 2)))
  | 8 => fun v _ => v = (.agg #[.string ⟨(y2).1.toArray⟩, .string ⟨(y2).2.toArray⟩])
  | 9 => fun v w => OwnB w v (leafL y2)
  | 10 => fun v _ => v = .bool bij
  | 11 => fun v _ => v = .int .i64 (i1 : Nat)
  | 12 => fun v _ => v = .int .i64 (j1 : Nat)
  | 13 => fun v _ => v = .bool bij
  | 14 => fun v _ => v = .bool false
  | _ => fun _ _ => True
theorem kxF_lasts (ad : Addr) (n cl i1 j1 : Nat) (y1 y2 : Kv) (bij : Bool) : ∀ kq, LastsB kxAl kq (kxF ad n cl i1 j1 y1 y2 bij kq)
  | 0 => LastsB.val _
  | 1 => LastsB.val _
  | 2 => LastsB.val _
  | 3 => LastsB.val _
  | 4 => LastsB.ownB rfl _
  | 5 => LastsB.val _
  | 6 => LastsB.val _
  | 7 => LastsB.val _
  | 8 => LastsB.val _
  | 9 => LastsB.ownB rfl _
  | 10 => LastsB.val _
  | 11 => LastsB.val _
  | 12 => LastsB.val _
  | 13 => LastsB.val _
  | 14 => LastsB.val _
  | _ + 15 => fun _ _ _ _ _ _ _ => trivial

set_option maxRecDepth 100000 in
set_option maxHeartbeats 1000000 in
theorem KvRanges_any (A1 A5 : Option Addr) (c1 c5 : Nat) (ns : List Int) (raw : List Kv) (a b c : Int) (w : World) (hr1 : RdI w A1 ns) (hr5 : RdQ w A5 raw) (hc5 : raw.length ≤ c5) :
    Calls Try.prog 5 #[.slice A1 ns.length c1, .int .i64 a, .int .i64 b, .int .i64 c, .slice A5 raw.length c5] w fun e w' => e = .returned (.bool true) ∧ w.grownBy w' none := by
  have gl := lss_str
  have gg := geq_str
  have ge := leq_str
  have ts : ∀ l : List UInt8, (ByteArray.mk l.toArray).toList = l := fun l => Lib.toList_data _
  obtain ⟨x, -, ka⟩ := KKey_any a
  obtain ⟨y, -, kb⟩ := KKey_any b
  obtain ⟨z, -, kc⟩ := KKey_any c
  have hPs := Pairs_any A1 c1 ns w hr1
  go_enter Try.func5, Try.ntmps5
  go_upto_region 3 with (first
    | (go_at_call 20; refine hPs.mono ?_; rintro e w1 ⟨vl, ps, rfl, hK, hpl, hg1⟩)
    | (go_at_call 12; refine (ka _).mono ?_; clear ka; rintro e w2 ⟨rfl, hg2⟩)
    | (go_at_call 12; refine (kb _).mono ?_; clear kb; rintro e w3 ⟨rfl, hg3⟩)
    | (go_at_call 12; refine (kc _).mono ?_; clear kc; rintro e w4 ⟨rfl, hg4⟩))
  obtain ⟨Al, cl, rfl, hcl, hrl1, -⟩ := hpl.form
  have hlen := hK.len
  have hG4 := grown_none (grown_none hg2 hg3) hg4
  have hrl := RdAt.kept hrl1 hG4
  have hgw4 := grown_none hg1 hG4
  have hRg := Range_any Al cl ps x y w4 hrl hcl (by omega) hK.rises
  go_wp2_with (go_at_call 8; refine hRg.mono ?_; clear hRg; rintro e w5 ⟨vr, rfl, hpr, hg5⟩; obtain ⟨Ar, cr, rfl, hcr, hrr, -⟩ := hpr.form)
  have hgw5 := grown_none hgw4 hg5
  have hrl5 := RdAt.kept hrl hg5
  go_loopw [16, 36] (fun s i wr => ∃ j : Nat, j ≤ ps.length ∧ i = .int .i64 j ∧ s = .int .i64 ((rangeL (ps.take j) x y).length : Nat) ∧ w5.grownBy wr none) (fun _ i _ => ps.length - (intOf i).toNat)
  case atStart => exact ⟨0, Nat.zero_le _, rfl, rfl, grown_refl _ _⟩
  case round =>
    obtain ⟨j, hj, rfl, rfl, hgj⟩ := hrel
    by_cases hlt : j < ps.length
    · obtain ⟨ad, rfl, hc1⟩ := RdQ.at (RdAt.kept hrl5 hgj) hlt
      have hnx := Lib.hid (congrArg List.length (rangeL_next hlt x y))
      have hat : Hid ((!kl ps[j].1 x && kl ps[j].1 y) = true → ∃ hl : (rangeL (ps.take j) x y).length < (rangeL ps x y).length, (rangeL ps x y)[(rangeL (ps.take j) x y).length] = ps[j]) := rangeL_at hlt
      generalize ps[j] = yy at *
      have HC := Lib.hid hc1
      clear hc1
      have hxl : (rangeL (ps.take j) x y).length ≤ 12 := Nat.le_trans (List.length_filter_le _ _) (by rw [List.length_take]; omega)
      cases hk1 : kl yy.1 x
      · cases hk2 : kl yy.1 y
        · go_wp2_with (first | (refine wpList_load_kv (by rfl) _ rfl (ad.add (j * 2)) rfl yy HC.out ?_))
          go_roundw
          case rel => exact ⟨j + 1, by omega, by go_num, by rw [hnx.out, hk1, hk2]; simp, grown_none hgj (grown_alloc (grown_refl _ _) _)⟩
          case measure => simp [intOf]; omega
        · obtain ⟨hl, hv⟩ := hat.out (by rw [hk1, hk2]; rfl)
          obtain ⟨adr, e9, hr9⟩ := RdQ.at (RdAt.kept hrr hgj) hl
          subst e9
          rw [hv] at hr9
          clear hat hv
          have hnx2 : Hid ((rangeL (ps.take (j + 1)) x y).length = (rangeL (ps.take j) x y).length + 1) := by show _ = _; rw [hnx.out, hk1, hk2]; simp
          clear hnx
          generalize (rangeL (ps.take j) x y).length = N at *
          have hq : ∀ w, (binOp .neq 26 (.agg #[.string ⟨yy.1.toArray⟩, .string ⟨yy.2.toArray⟩]) (.agg #[.string ⟨yy.1.toArray⟩, .string ⟨yy.2.toArray⟩])).run Try.prog w = .ok (.bool false) w := fun w => by rw [neq_kv]; simp
          go_upto_region 9 with (first | (refine wpList_load_kv (by rfl) _ rfl (ad.add (j * 2)) rfl yy HC.out ?_))
          generalize hw0 : wr.alloc (Obj.cells #[Value.string ⟨yy.1.toArray⟩, Value.string ⟨yy.2.toArray⟩] 26) = w0
          have hg0 : wr.grownBy w0 none := by rw [← hw0]; exact grown_alloc (grown_refl _ _) _
          have hb0 : AtQ w0 ⟨wr.heap.size, 0, none⟩ yy := box_at (by rw [hw0]; exact grown_refl _ _)
          have hr0 := hr9.kept hg0
          have q1 : w0.cell? (adr.add (N * 2)) = some (.string ⟨yy.1.toArray⟩) := hr0.1
          have q2 : w0.cell? ⟨(adr.add (N * 2)).block, (adr.add (N * 2)).off + 1, none⟩ = some (.string ⟨yy.2.toArray⟩) := hr0.2
          have q3 : w0.cell? ⟨wr.heap.size, 0, none⟩ = some (.string ⟨yy.1.toArray⟩) := hb0.1
          have q4 : w0.cell? ⟨wr.heap.size, 1, none⟩ = some (.string ⟨yy.2.toArray⟩) := hb0.2
          have hgN : ¬ (N : Int) ≥ ((rangeL ps x y).length : Int) := by omega
          have hgN2 : ¬ ((rangeL ps x y).length : Int) ≤ (N : Int) := by omega
          clear hr0 hb0 hr9 hw0
          go_quiet (fail)
          go_wp2
          go_roundw
          case rel => exact ⟨j + 1, by omega, by go_num, by rw [hnx2.out]; go_num, grown_drewN (grown_none hgj hg0) _⟩
          case measure => simp [intOf]; omega
      · go_wp2_with (first | (refine wpList_load_kv (by rfl) _ rfl (ad.add (j * 2)) rfl yy HC.out ?_))
        go_roundw
        case rel => exact ⟨j + 1, by omega, by go_num, by rw [hnx.out, hk1]; simp, grown_none hgj (grown_alloc (grown_refl _ _) _)⟩
        case measure => simp [intOf]; omega
    · obtain rfl : j = ps.length := by omega
      rw [List.take_length]
      have hgj5 := grown_none hgw5 hgj
      have hrlj := RdAt.kept hrl5 hgj
      have hl1 : (rangeL ps x y).length ≤ 12 := Nat.le_trans (List.length_filter_le _ _) (by omega)
      have hl2 : (rangeL ps y z).length ≤ 12 := Nat.le_trans (List.length_filter_le _ _) (by omega)
      have hl3 : (rangeL ps x z).length ≤ 12 := Nat.le_trans (List.length_filter_le _ _) (by omega)
      have R1 := fun (W : World) (hg : wr.grownBy W none) => Range_any Al cl ps x y W (RdAt.kept hrlj hg) hcl (by omega) hK.rises
      have R2 := fun (W : World) (hg : wr.grownBy W none) => Range_any Al cl ps y z W (RdAt.kept hrlj hg) hcl (by omega) hK.rises
      have R3 := fun (W : World) (hg : wr.grownBy W none) => Range_any Al cl ps x z W (RdAt.kept hrlj hg) hcl (by omega) hK.rises
      go_upto_region 13 with fail
      go_cut [97] (fun t wx => t = .bool false ∧ wr.grownBy wx none)
      case first =>
        cases hk1 : kl y x
        · cases hk2 : kl z y
          · have hmeet : [] ++ rangeL ps x y ++ rangeL ps y z = rangeL ps x z := by rw [List.nil_append, range_meet hK.rises hk1 hk2]
            go_wp2_with (first
          | (go_at_call 8; refine (R1 _ (grown_alloc (grown_refl _ _) _)).mono ?_; clear R1; rintro e wa ⟨va, rfl, hpa, hga⟩; obtain ⟨Aa, ca, rfl, -, hra, -⟩ := hpa.form; have hE2 := (emptyQ wr).kept hga; have hSa := (Since.lit wr (.cells #[] 26) 0 0).kept hga)
          | (at_builtin; refine wpList_appQ_g rfl _ _ rfl rfl hE2 rfl rfl hra (by simp; omega) ?_; clear hE2; intro vb wb hob hgb; have hSb := hSa.app hgb; clear hSa)
          | (go_at_call 8; refine (R2 _ hSb.1).mono ?_; clear R2; rintro e wd ⟨vd, rfl, hpd, hgd⟩; obtain ⟨Ad, cd, rfl, -, hrd, -⟩ := hpd.form; have hob2 := hob.kept hgd; have hSd := hSb.kept hgd; clear hSb)
          | (at_builtin; refine wpList_appQ_g rfl _ _ rfl rfl hob2 rfl rfl hrd (by simp; omega) ?_; clear hob2; intro vf wf hof hgf; have hSf := hSd.app hgf; clear hSd)
          | (go_at_call 8; refine (R3 _ hSf.1).mono ?_; clear R3; rintro e wh ⟨vh, rfl, hph, hgh⟩; obtain ⟨Ah, ch, rfl, -, hrh, -⟩ := hph.form; obtain ⟨Ao, co, rfl, -, hro, -⟩ := (hof.kept hgh).toPB.form; have hSh := hSf.1)
          | (go_at_call 19; refine (SameQ_n Ao Ah ([] ++ rangeL ps x y ++ rangeL ps y z) (rangeL ps x z) _ _ co ch wh hro hrh ?k1 ?k2 ?k3 rfl hmeet).mono ?_; (case k1 => simp; omega); (case k2 => omega); (case k3 => simp); rintro e wk ⟨rfl, hgk⟩))
            go_meet
            exact ⟨rfl, grown_none (grown_none hSh hgh) hgk⟩
          · go_wp2
            go_meet
            exact ⟨rfl, grown_refl _ _⟩
        · go_wp2
          go_meet
          exact ⟨rfl, grown_refl _ _⟩
      case rest =>
        obtain ⟨rfl, hgx⟩ := hcut
        clear R1 R2 R3 hl1 hl2 hl3
        have hrlX := RdAt.kept hrlj hgx
        have hgX := grown_none hgj5 hgx
        clear hgx hgj5 hrlj hgj hrl5 hgw5 hrl hgw4 hG4 hrl1
        go_wp2
        go_loopw [100] (fun i wo => ∃ i1 : Nat, i1 ≤ ps.length ∧ i = .int .i64 i1 ∧ wc.grownBy wo none) (fun i _ => ps.length - (intOf i).toNat)
        case atStart => exact ⟨0, Nat.zero_le _, rfl, grown_refl _ _⟩
        case round =>
          obtain ⟨i1, hi0, rfl, hgo⟩ := hrel
          by_cases hi1 : i1 < ps.length
          · go_wp2
            go_loopw [105] (fun i wj => ∃ j1 : Nat, j1 ≤ ps.length ∧ i = .int .i64 j1 ∧ wc.grownBy wj none) (fun i _ => ps.length - (intOf i).toNat)
            case atStart => exact ⟨0, Nat.zero_le _, rfl, hgo⟩
            case round =>
              obtain ⟨j1, hj0, rfl, hgj⟩ := hrel
              by_cases hj1 : j1 < ps.length
              · have hrlJ := RdAt.kept hrlX hgj
                obtain ⟨ad, rfl, hy1⟩ := RdQ.at hrlJ hi1
                obtain ⟨ad', e', hy2⟩ := RdQ.at hrlJ hj1
                cases e'
                have hsame : Hid (decide (leafL ps[i1] = leafL ps[j1]) = decide (i1 = j1)) := leaf_same hK hi1 hj1
                have heq := eqI_nat i1 j1
                have hk1 := (keysK_may _ (hK.1.subset (List.mem_map_of_mem (List.getElem_mem hi1)))).2
                have hk2 := (keysK_may _ (hK.1.subset (List.mem_map_of_mem (List.getElem_mem hj1)))).2
                have hv1 := hK.2 _ (List.getElem_mem hi1)
                have hv2 := hK.2 _ (List.getElem_mem hj1)
                generalize decide (i1 = j1) = bij at *
                generalize ps[i1] = y1 at *
                generalize ps[j1] = y2 at *
                have hY1 := Lib.hid hy1
                have hY2 := Lib.hid hy2
                clear hy1 hy2
                have hLfy1 := fun w => Leaf_new y1 w (by omega) (by omega)
                have hLfy2 := fun w => Leaf_new y2 w (by omega) (by omega)
                have hlf1 := leafL_len y1
                have hlf2 := leafL_len y2
                go_wp2
                refine wp_region_gb (al := kxAl) 15 (N := 144) (S := kxS) (die := kxDie) (own := kxOwn) (F := kxF ad ps.length cl i1 j1 y1 y2 bij) (by kernel_rfl) (Nat.le_of_ble_eq_true (by kernel_rfl)) (fun h => absurd (show 15 < 15 from h) (Nat.lt_irrefl _)) (fun h => absurd (show 15 < 15 from h) (Nat.lt_irrefl _)) (by kernel_rfl) (by kernel_rfl) (Nat.le_of_ble_eq_true (by kernel_rfl)) (kxF_lasts ad ps.length cl i1 j1 y1 y2 bij) ?_ ?_
                · intro i o L' a w K hi ho hg hLi hout hpre houter hitem h1 h2 h3
                  have hcases : i = 0 ∨ i = 1 ∨ i = 2 ∨ i = 3 ∨ i = 4 ∨ i = 5 ∨ i = 6 ∨ i = 7 ∨ i = 8 ∨ i = 9 ∨ i = 10 ∨ i = 11 ∨ i = 12 ∨ i = 13 ∨ i = 14 := by omega
                  rcases hcases with rfl | rfl | rfl | rfl | rfl | rfl | rfl | rfl | rfl | rfl | rfl | rfl | rfl | rfl | rfl
                  · cases (show some _ = some o from ho)
                    exact ⟨rfl, wp_move rfl (h1 ⟨_, rfl⟩ _ _ (grown_refl _ none) (houter _ rfl) (by rw [houter _ rfl]; exact nobl rfl) (by rw [houter _ rfl]; exact FreshB.none rfl))⟩
                  · cases (show some _ = some o from ho)
                    exact ⟨rfl, wp_move rfl (h1 ⟨_, rfl⟩ _ _ (grown_refl _ none) (houter _ rfl) (by rw [houter _ rfl]; exact nobl rfl) (by rw [houter _ rfl]; exact FreshB.none rfl))⟩
                  · cases (show some _ = some o from ho)
                    exact ⟨rfl, wp_index rfl (hitem 0 (by decide) ⟨hpre 0 rfl, hout _ (by decide)⟩) (hitem 1 (by decide) ⟨hpre 1 rfl, hout _ (by decide)⟩) (idx_Q ad ps.length cl i1 hi1 _) (h1 ⟨_, rfl⟩ _ _ (grown_refl _ none) rfl (nobl rfl) (FreshB.none rfl))⟩
                  · cases (show some _ = some o from ho)
                    exact ⟨rfl, wp_load_kv rfl (hitem 2 (by decide) ⟨hpre 2 rfl, hout _ (by decide)⟩) (AtQ.kept hY1.out hg) (h1 ⟨_, rfl⟩ _ _ (grown_refl _ none) rfl (nobl rfl) (FreshB.none rfl))⟩
                  · cases (show some _ = some o from ho)
                    have x111 : a.eval (.tmp 111) = (.agg #[.string ⟨(y1).1.toArray⟩, .string ⟨(y1).2.toArray⟩]) := hitem 3 (by decide) ⟨hpre 3 rfl, hout _ (by decide)⟩
                    refine ⟨rfl, wp_call rfl Try.func22 (by kernel_rfl) (by kernel_rfl) (args := #[(.agg #[.string ⟨(y1).1.toArray⟩, .string ⟨(y1).2.toArray⟩])]) (by simp [x111]) ((hLfy1 w).mono ?_)⟩
                    rintro e w' ⟨v, rfl, hf', hg', hn', ht'⟩
                    exact ⟨_, rfl, h1 ⟨_, rfl⟩ _ _ hg' hf' ht' (FreshB.new hn')⟩
                  · cases (show some _ = some o from ho)
                    exact ⟨rfl, wp_move rfl (h1 ⟨_, rfl⟩ _ _ (grown_refl _ none) (houter _ rfl) (by rw [houter _ rfl]; exact nobl rfl) (by rw [houter _ rfl]; exact FreshB.none rfl))⟩
                  · cases (show some _ = some o from ho)
                    exact ⟨rfl, wp_move rfl (h1 ⟨_, rfl⟩ _ _ (grown_refl _ none) (houter _ rfl) (by rw [houter _ rfl]; exact nobl rfl) (by rw [houter _ rfl]; exact FreshB.none rfl))⟩
                  · cases (show some _ = some o from ho)
                    exact ⟨rfl, wp_index rfl (hitem 5 (by decide) ⟨hpre 5 rfl, hout _ (by decide)⟩) (hitem 6 (by decide) ⟨hpre 6 rfl, hout _ (by decide)⟩) (idx_Q ad ps.length cl j1 hj1 _) (h1 ⟨_, rfl⟩ _ _ (grown_refl _ none) rfl (nobl rfl) (FreshB.none rfl))⟩
                  · cases (show some _ = some o from ho)
                    exact ⟨rfl, wp_load_kv rfl (hitem 7 (by decide) ⟨hpre 7 rfl, hout _ (by decide)⟩) (AtQ.kept hY2.out hg) (h1 ⟨_, rfl⟩ _ _ (grown_refl _ none) rfl (nobl rfl) (FreshB.none rfl))⟩
                  · cases (show some _ = some o from ho)
                    have x116 : a.eval (.tmp 116) = (.agg #[.string ⟨(y2).1.toArray⟩, .string ⟨(y2).2.toArray⟩]) := hitem 8 (by decide) ⟨hpre 8 rfl, hout _ (by decide)⟩
                    refine ⟨rfl, wp_call rfl Try.func22 (by kernel_rfl) (by kernel_rfl) (args := #[(.agg #[.string ⟨(y2).1.toArray⟩, .string ⟨(y2).2.toArray⟩])]) (by simp [x116]) ((hLfy2 w).mono ?_)⟩
                    rintro e w' ⟨v, rfl, hf', hg', hn', ht'⟩
                    exact ⟨_, rfl, h1 ⟨_, rfl⟩ _ _ hg' hf' ht' (FreshB.new hn')⟩
                  · cases (show some _ = some o from ho)
                    have hu : OwnB w (a.eval (.tmp 112)) (leafL y1) := hitem 4 (by decide) ⟨hpre 4 rfl, hout _ (by decide)⟩
                    have hv : OwnB w (a.eval (.tmp 117)) (leafL y2) := hitem 9 (by decide) ⟨hpre 9 rfl, hout _ (by decide)⟩
                    obtain ⟨A3, c3, e3, -, q3, hr3⟩ := OwnB.slice hu
                    obtain ⟨A4, c4, e4, -, q4, hr4⟩ := OwnB.slice hv
                    refine ⟨rfl, wp_call rfl Try.func21 (by kernel_rfl) (by kernel_rfl) (args := #[.slice A3 (leafL y1).length c3, .slice A4 (leafL y2).length c4]) (by simp [e3, e4]) ((sameB_any A3 A4 (leafL y1) (leafL y2) c3 c4 w hr3 hr4 (by unfold maxLen; omega) (by unfold maxLen; omega)).mono ?_)⟩
                    rintro e w' ⟨rfl, hg'⟩
                    exact ⟨_, rfl, h1 ⟨_, rfl⟩ _ _ hg' (by rw [hsame.out]; rfl) (nobl rfl) (FreshB.none rfl)⟩
                  · cases (show some _ = some o from ho)
                    exact ⟨rfl, wp_move rfl (h1 ⟨_, rfl⟩ _ _ (grown_refl _ none) (houter _ rfl) (by rw [houter _ rfl]; exact nobl rfl) (by rw [houter _ rfl]; exact FreshB.none rfl))⟩
                  · cases (show some _ = some o from ho)
                    exact ⟨rfl, wp_move rfl (h1 ⟨_, rfl⟩ _ _ (grown_refl _ none) (houter _ rfl) (by rw [houter _ rfl]; exact nobl rfl) (by rw [houter _ rfl]; exact FreshB.none rfl))⟩
                  · cases (show some _ = some o from ho)
                    exact ⟨rfl, wp_bin rfl (hitem 11 (by decide) ⟨hpre 11 rfl, hout _ (by decide)⟩) (hitem 12 (by decide) ⟨hpre 12 rfl, hout _ (by decide)⟩) (guard_int _ _ _ _ _) (heq _) (h1 ⟨_, rfl⟩ _ _ (grown_refl _ none) rfl (nobl rfl) (FreshB.none rfl))⟩
                  · cases (show some _ = some o from ho)
                    exact ⟨rfl, wp_bin rfl (hitem 10 (by decide) ⟨hpre 10 rfl, hout _ (by decide)⟩) (hitem 13 (by decide) ⟨hpre 13 rfl, hout _ (by decide)⟩) (guard_neB _ _ _ _ _) (neB_same _ _) (h1 ⟨_, rfl⟩ _ _ (grown_refl _ none) rfl (nobl rfl) (FreshB.none rfl))⟩
                · intro a wT hgT hend hap ha
                  obtain ⟨f, hf⟩ : ∃ f : Nat → Value, f = fun t => a.tmps.getD t undef := ⟨_, rfl⟩
                  have s122 : f 122 = .bool false := by rw [hf]; exact (hend 14 (by decide) (by decide)).1
                  rw [← hf] at ha
                  clear hend hap
                  clear hf
                  subst ha
                  simp only [fill, kxS, Nat.reduceAdd, Nat.reduceBEq, Bool.or_false, Bool.or_true, cond_true, cond_false, List.drop_succ_cons, List.drop_zero, s122]
                  go_wp2_with fail
                  go_roundw
                  case rel => exact ⟨j1 + 1, by omega, by go_num, grown_none hgj hgT⟩
                  case measure => simp [intOf]; omega

              · obtain rfl : j1 = ps.length := by omega
                go_wp2
                go_roundw
                case rel => exact ⟨i1 + 1, by omega, by go_num, hgj⟩
                case measure => simp [intOf]; omega
          · obtain ⟨mm, hmv, hm1, hm2⟩ : ∃ mm : Nat, (if (6 : Int) < (raw.length : Int) then (6 : Int) else (raw.length : Int)) = (mm : Int) ∧ mm ≤ raw.length ∧ mm ≤ 6 := by
              by_cases h6 : (6 : Int) < (raw.length : Int)
              · exact ⟨6, by rw [if_pos h6]; rfl, by omega, Nat.le_refl _⟩
              · exact ⟨raw.length, by rw [if_neg h6], Nat.le_refl _, by omega⟩
            have hgoo := grown_none hgX hgo
            have hr5o := RdQ.take (RdAt.kept hr5 hgoo) mm
            have hs5 := sl_hiQ A5 raw.length c5 mm (by omega)
            have hr5e := RdAt.alloc hr5o (.cells #[] 26)
            have hEo := emptyQ wr
            have hrlO := RdAt.kept hrlX hgo
            have hri := hK.right
            have mk1 : True := trivial
            have hlt5 : (raw.take mm).length = mm := by rw [List.length_take]; omega
            go_wp2_with (first
              | (at_builtin; refine wpList_appQ rfl _ _ rfl rfl hEo rfl ?k1 hr5e ?k2 ?_; (case k1 => exact hlt5.symm); (case k2 => simp; omega); intro vq wq hoq hgq; have hgQ := (Grew.fresh hgq).nil; clear hEo hr5e; obtain ⟨Aq, cq, rfl, -, hrq, -⟩ := hoq.toPB.form)
              | (go_at_call 11; clear mk1; refine (RightQ_n Aq cq _ _ wq hrq ?k3 ?k4).mono ?_; (case k3 => simp; omega); (case k4 => simp [hlt5]); rintro e wr1 ⟨rfl, hgr1⟩; have hgR1 := grown_none hgQ hgr1)
              | (go_at_call 23; refine (RRightQ_n Aq cq _ _ wr1 (RdAt.kept hrq hgr1) ?k5 ?k6).mono ?_; (case k5 => simp; omega); (case k6 => simp [hlt5]); rintro e wr2 ⟨rfl, hgr2⟩; have hgR2 := grown_none hgR1 hgr2)
              | (go_at_call 11; refine (Right_any Al cl ps wr2 (RdAt.kept hrlO hgR2) ?k7).mono ?_; (case k7 => omega); rw [hri]; rintro e wr3 ⟨rfl, hgr3⟩; have hgR3 := grown_none hgR2 hgr3)
              | (go_at_call 3; refine (KvRuns_any wr3).mono ?_; rintro e wr4 ⟨rfl, hgr4⟩))
            trace_state
            go_ret
            exact ⟨rfl, grown_none hgoo (grown_none hgR3 hgr4)⟩
end Go.Proofs.Ytehbhjkceemmcaa
