/- KvPlays. -/
import Derived.Test.YtehbhjkceemmcaaKvS
import Derived.Test.YtehbhjkceemmcaaKvM
import Derived.Test.YtehbhjkceemmcaaKvJ
import Derived.Test.YtehbhjkceemmcaaKvR
import Derived.Deep.DeepCutAuto
namespace Go.Proofs.Ytehbhjkceemmcaa
open Go.RowKit

theorem rises_set {ps : List Kv} (h : Rises ps) (p : Kv) : Rises (setL ps p) := by
  refine List.pairwise_append.2 ⟨List.Pairwise.filter _ h, List.pairwise_cons.2 ⟨fun q hq => (List.mem_filter.1 hq).2, List.Pairwise.filter _ h⟩, fun a ha b hb => ?_⟩
  have h1 := (List.mem_filter.1 ha).2
  rcases List.mem_cons.1 hb with rfl | hb
  · exact h1
  · exact kl_trans h1 (List.mem_filter.1 hb).2
theorem rises_del {ps : List Kv} (h : Rises ps) (k : List UInt8) : Rises (delL ps k) := by
  rw [← notL_del h]
  exact List.Pairwise.filter _ h
theorem right_set {ps : List Kv} (h : rightL ps = true) {p : Kv} (hp : okL ps p = true) : rightL (setL ps p) = true := by
  obtain ⟨h1, h2, h3⟩ := (right_iff ps).1 h
  unfold okL at hp
  simp only [Bool.and_eq_true, decide_eq_true_eq] at hp
  refine (right_iff _).2 ⟨hp.2, fun q hq => ?_, rises_set h3 p⟩
  rcases List.mem_append.1 hq with hq | hq
  · exact h2 q (List.mem_filter.1 hq).1
  · rcases List.mem_cons.1 hq with rfl | hq
    · exact hp.1
    · exact h2 q (List.mem_filter.1 hq).1
theorem right_del {ps : List Kv} (h : rightL ps = true) (k : List UInt8) : rightL (delL ps k) = true := by
  obtain ⟨h1, h2, h3⟩ := (right_iff ps).1 h
  rw [← notL_del h3]
  exact (right_iff _).2 ⟨Nat.le_trans (List.length_filter_le ..) h1, fun q hq => h2 q (List.mem_filter.1 hq).1, List.Pairwise.filter _ h3⟩
theorem getV_none {ps : List Kv} {k : List UInt8} (h : hasK ps k = false) : getV ps k = [] := by
  unfold hasK at h
  unfold getV
  cases hq : atL ps k with
  | nil => rfl
  | cons a l => rw [hq] at h; cases h
theorem getV_at {ps : List Kv} (h : Rises ps) {k : List UInt8} (hl : lowN ps k < ps.length) (hz : (ps[lowN ps k]).1 = k) : getV ps k = (ps[lowN ps k]).2 := by
  have hh : hasK ps k = true := by rw [has_at h k hl, hz]; simp
  have e := drop_low h k
  rw [List.drop_eq_getElem_cons hl] at e
  unfold hasK at hh
  unfold getV
  cases hq : atL ps k with
  | nil => rw [hq] at hh; cases hh
  | cons a l => rw [hq, List.cons_append] at e; rw [(List.cons.inj e).1]
theorem all_kv (z : Kv) : (#[Value.string ⟨z.1.toArray⟩, Value.string ⟨z.2.toArray⟩] : Array Value).all (·.oneCell') = true := by simp [Value.oneCell']
theorem at_setRow {w : World} {g : Nat} {z : Kv} {t : TypeId} {old : Array Value} (h : w.heap[g]? = some (.cells old t (0, 0))) : AtQ (w.setRow g #[Value.string ⟨z.1.toArray⟩, Value.string ⟨z.2.toArray⟩]) ⟨g, 0, none⟩ z := by
  have h2 := setRow_heap w g old #[Value.string ⟨z.1.toArray⟩, Value.string ⟨z.2.toArray⟩] t (0, 0) h
  exact ⟨by rw [cell_of_row _ _ 0 _ _ _ h2]; rfl, by show World.cell? _ ⟨g, 0 + 1, none⟩ = _; rw [cell_of_row _ _ _ _ _ _ h2]; rfl⟩

set_option maxRecDepth 100000 in
set_option maxHeartbeats 4000000 in
theorem KvPlays_any (A1 A2 : Option Addr) (c1 c2 : Nat) (ns : List Int) (raw : List Kv) (w : World) (hr1 : RdI w A1 ns) (hr2 : RdQ w A2 raw) :
    Calls Try.prog 4 #[.slice A1 ns.length c1, .slice A2 raw.length c2] w fun e w' => e = .returned (.bool true) ∧ w.grownBy w' none := by
  have gs := eql_str
  have gn := neq_str
  have ts : ∀ l : List UInt8, (ByteArray.mk l.toArray).toList = l := fun l => Lib.toList_data _
  go_enter Try.func4, Try.ntmps4
  go_wp2
  go_loopg [5, 6, 7] 30 (fun gk l o i wr => ∃ (k : Nat) (ps : List Kv), k ≤ 30 ∧ i = .int .i64 k ∧ 30 - k ≤ gk ∧ PB wr l ps ∧ PB wr o ps ∧ Hid (rightL ps = true) ∧ w.grownBy wr none)
  case atStart => exact ⟨0, [], by omega, rfl, by omega, PB.nil _, PB.nil _, (rfl : rightL [] = true), grown_refl _ _⟩
  case round =>
    obtain ⟨k, ps, hk, rfl, hgk, hpl, hpo, hright, hg0⟩ := hrel
    by_cases hcond : k < ns.length ∧ k < 30
    · obtain ⟨hlt, hk30⟩ := hcond
      obtain ⟨ad, rfl, hcx⟩ := RdI.get (RdAt.kept hr1 hg0) hlt
      generalize ns[k] = x at hcx
      obtain ⟨kt, hkt, hKk⟩ := KKey_any x
      obtain ⟨tt, htt, hTt⟩ := KText_any (wrap64 (x.tdiv 12))
      obtain ⟨Al, cl, rfl, hcl, hrl, hbl⟩ := hpl.form
      obtain ⟨Ao, co, rfl, hco, hro, hbo⟩ := hpo.form
      go_upto_region 7 with (first
        | (go_at_call 12; refine (hKk _).mono ?_; rintro e w1 ⟨rfl, hg1⟩; have hcx1 := hg1.cell hcx (by simp))
        | (go_at_call 13; refine (hTt _).mono ?_; rintro e w2 ⟨rfl, hg2⟩))
      have hgw2 : w.grownBy w2 none := grown_none (grown_none hg0 hg1) hg2
      generalize hw3 : w2.alloc (Obj.cells #[Value.string { data := kt.toArray }, Value.string { data := tt.toArray }] 26) = w3
      have hg3 : w2.grownBy w3 none := by rw [← hw3]; exact grown_alloc (grown_refl _ _) _
      have hh3 : Hid (w3.heap[w2.heap.size]? = some (.cells #[Value.string { data := kt.toArray }, Value.string { data := tt.toArray }] 26 (0, 0))) := by show _ = _; rw [← hw3]; exact heap_alloc_new _ _
      have hb3 : AtQ w3 ⟨w2.heap.size, 0, none⟩ (kt, tt) := box_at (p := (kt, tt)) (by rw [hw3]; exact grown_refl _ _)
      clear hw3
      go_cut [50] (fun t wx => ∃ b : Bool, t = .bool b ∧ (b = true → k < raw.length) ∧ wx = w3)
      case first =>
        by_cases hraw : k < raw.length
        · by_cases h3 : (k : Int) % 3 = 2
          all_goals
            go_wp2
            go_meet
            exact ⟨_, rfl, fun _ => hraw, rfl⟩
        · go_wp2
          go_meet
          exact ⟨_, rfl, (fun h => by simp at h), rfl⟩
      case rest =>
        obtain ⟨b, rfl, hraw, rfl⟩ := hcut
        go_upto_if 50 with fail
        go_cut [] (fun wx => ∃ p0 : Kv, Hid (AtQ wx ⟨w2.heap.size, 0, none⟩ p0) ∧ w2.grownBy wx none)
        case first =>
          cases b
          · go_wp2
            go_meet
            exact ⟨(kt, tt), hb3, hg3⟩
          · have hr2' := hr2.kept (grown_none hgw2 hg3)
            obtain ⟨ad2, rfl, hz⟩ := RdQ.at hr2' (hraw rfl)
            have hlt2 := hraw rfl
            generalize raw[k] = z at *
            have HZ := Lib.hid hz
            clear hz
            have hsz : (Try.prog.info? 26).map (·.size) = some (#[Value.string ⟨z.1.toArray⟩, Value.string ⟨z.2.toArray⟩] : Array Value).size := size_kv
            have hall : (#[Value.string ⟨z.1.toArray⟩, Value.string ⟨z.2.toArray⟩] : Array Value).all (·.oneCell') = true := all_kv z
            go_wp2_with (first
              | (refine wpList_load_kv (by rfl) _ rfl (ad2.add (k * 2)) rfl z HZ.out ?_)
              | (refine wpList_store_row rfl 26 _ _ rfl w2.heap.size #[Value.string ⟨z.1.toArray⟩, Value.string ⟨z.2.toArray⟩] rfl rfl 26 _ hh3.out hsz rfl hall ?_))
            go_meet
            exact ⟨z, at_setRow hh3.out, grown_setRow hg3 (.inr (Nat.le_refl _)) _⟩
        case rest =>
          obtain ⟨p0, hb0, hg3'⟩ := hcut
          clear hh3 hb3 hg3 hraw
          have hgr : wr.grownBy wc none := grown_none (grown_none hg1 hg2) hg3'
          have hgc : w.grownBy wc none := grown_none hg0 hgr
          have hrl2 := RdAt.kept hrl hgr
          have hlen := ((right_iff ps).1 hright.out).1
          have hE := emptyQ wc
          have hrl3 := RdAt.alloc hrl2 (.cells #[] 26)
          have hcx3 := hgr.cell hcx (by simp)
          have hcx4 : (wc.alloc (.cells #[] 26)).cell? (ad.add k) = some (.int .i64 x) := (grown_alloc (grown_refl wc none) _).cell hcx3 (by simp)
          go_upto_if 64 with (at_builtin; refine wpList_appQ rfl _ _ rfl rfl hE rfl rfl hrl3 (by simp; omega) ?_; intro vw wd how hgd; have hgd2 := (Grew.fresh hgd).nil; have hcx5 := hgd2.cell hcx3 (by simp))
          have hgd3 : w.grownBy wd none := grown_none hgc hgd2
          have hrlD := RdAt.kept hrl2 hgd2
          have hroD := RdAt.kept (RdAt.kept hro hgr) hgd2
          have hboD : ∀ ad, Ao = some ad → ad.block < wd.heap.size := fun ad e => Nat.lt_of_lt_of_le (hbo ad e) (grown_none hgr hgd2).size
          have hrises := Lib.hid ((right_iff ps).1 hright.out).2.2
          go_cut [5, 6, 12, 13, 14] (fun l o _ _ _ wx => ∃ qs : List Kv, PB wx l qs ∧ PB wx o qs ∧ Hid (rightL qs = true) ∧ wd.grownBy wx none)
          case first =>
            have d1 := Del_any Al cl ps kt wd hrlD hcl (by omega) hrises.out
            have d2 := fun (W : World) (hg : wd.grownBy W none) => RDel_any Ao co ps kt W (RdAt.kept hroD hg) (by omega) hrises.out
            have e1 := Set_any Al cl ps p0 wd hrlD hcl (by omega) hrises.out
            have e2 := fun (W : World) (hg : wd.grownBy W none) => RSet_any Ao co ps p0 W (RdAt.kept hroD hg) (fun ad e => Nat.lt_of_lt_of_le (hboD ad e) hg.size) hco (by omega) hrises.out
            have hbD := Lib.hid (hb0.out.kept hgd2)
            have hP := RPair_any p0
            have hright2 : Hid (okL ps p0 = true → rightL (setL ps p0) = true) := fun h => right_set hright.out h
            have hrightD : Hid (rightL (delL ps kt) = true) := right_del hright.out kt
            have hok : Hid (okL ps p0 = (mayQ p0 && decide ((setL ps p0).length ≤ 30))) := rfl
            generalize okL ps p0 = ok at *
            generalize setL ps p0 = ss at *
            generalize delL ps kt = dd at *
            generalize mayQ p0 = may at *
            cases may
            · obtain rfl : ok = false := hok.out
              simp only [Bool.false_eq_true, if_false] at e1
              go_wp2_with (first
                | (go_at_call 9; refine d1.mono ?_; rintro e wa ⟨va, rfl, hpa, hga⟩)
                | (go_at_call 14; refine (d2 _ hga).mono ?_; rintro e wb ⟨vb, rfl, hpb, hgb⟩)
                | (refine wpList_load_kv (by rfl) _ rfl ⟨w2.heap.size, 0, none⟩ rfl p0 hbD.out ?_)
                | (go_at_call 7; refine e1.mono ?_; rintro e we ⟨ve, rfl, hpe, hge⟩; have hbE := hbD.out.kept hge)
                | (refine wpList_load_kv (by rfl) _ rfl ⟨w2.heap.size, 0, none⟩ rfl p0 hbE ?_)
                | (go_at_call 15; refine (hP _).mono ?_; rintro e wf ⟨rfl, hgf⟩; have hbF := hbE.kept hgf; have hgF := grown_none hge hgf)
                | (refine wpList_load_kv (by rfl) _ rfl ⟨w2.heap.size, 0, none⟩ rfl p0 hbF ?_)
                | (go_at_call 16; refine (e2 _ hgF).mono ?_; clear hgF; rintro e wg ⟨vg, rfl, hpg, hgg⟩; obtain ⟨Ag, cg, rfl, -⟩ := hpg.form; have hbG := hbF.kept hgg; have hgG := grown_none (grown_none hge hgf) hgg)
                | (refine wpList_load_kv (by rfl) _ rfl ⟨w2.heap.size, 0, none⟩ rfl p0 hbG ?_)
                | (go_at_call 16; refine (e2 _ hgG).mono ?_; rintro e wh ⟨vh, rfl, hph, hgh⟩))
              · go_meet
                exact ⟨dd, hpa.kept hgb, hpb, hrightD, grown_none hga hgb⟩
              · go_meet
                exact ⟨ps, hpe.kept hgf, (hpo.kept (grown_none hgr hgd2)).kept (grown_none hge hgf), hright, grown_none hge hgf⟩
            · by_cases hs : ss.length ≤ 30
              · obtain rfl : ok = true := by rw [hok.out]; simp [hs]
                simp only [if_true] at e1
                go_wp2_with (first
                | (go_at_call 9; refine d1.mono ?_; rintro e wa ⟨va, rfl, hpa, hga⟩)
                | (go_at_call 14; refine (d2 _ hga).mono ?_; rintro e wb ⟨vb, rfl, hpb, hgb⟩)
                | (refine wpList_load_kv (by rfl) _ rfl ⟨w2.heap.size, 0, none⟩ rfl p0 hbD.out ?_)
                | (go_at_call 7; refine e1.mono ?_; rintro e we ⟨ve, rfl, hpe, hge⟩; have hbE := hbD.out.kept hge)
                | (refine wpList_load_kv (by rfl) _ rfl ⟨w2.heap.size, 0, none⟩ rfl p0 hbE ?_)
                | (go_at_call 15; refine (hP _).mono ?_; rintro e wf ⟨rfl, hgf⟩; have hbF := hbE.kept hgf; have hgF := grown_none hge hgf)
                | (refine wpList_load_kv (by rfl) _ rfl ⟨w2.heap.size, 0, none⟩ rfl p0 hbF ?_)
                | (go_at_call 16; refine (e2 _ hgF).mono ?_; clear hgF; rintro e wg ⟨vg, rfl, hpg, hgg⟩; obtain ⟨Ag, cg, rfl, -⟩ := hpg.form; have hbG := hbF.kept hgg; have hgG := grown_none (grown_none hge hgf) hgg)
                | (refine wpList_load_kv (by rfl) _ rfl ⟨w2.heap.size, 0, none⟩ rfl p0 hbG ?_)
                | (go_at_call 16; refine (e2 _ hgG).mono ?_; rintro e wh ⟨vh, rfl, hph, hgh⟩))
                · go_meet
                  exact ⟨dd, hpa.kept hgb, hpb, hrightD, grown_none hga hgb⟩
                · go_meet
                  exact ⟨ss, hpe.kept (grown_none (grown_none hgf hgg) hgh), hph, hright2.out trivial, grown_none hgG hgh⟩
              · obtain rfl : ok = false := by rw [hok.out]; simp; omega
                simp only [Bool.false_eq_true, if_false] at e1
                go_wp2_with (first
                | (go_at_call 9; refine d1.mono ?_; rintro e wa ⟨va, rfl, hpa, hga⟩)
                | (go_at_call 14; refine (d2 _ hga).mono ?_; rintro e wb ⟨vb, rfl, hpb, hgb⟩)
                | (refine wpList_load_kv (by rfl) _ rfl ⟨w2.heap.size, 0, none⟩ rfl p0 hbD.out ?_)
                | (go_at_call 7; refine e1.mono ?_; rintro e we ⟨ve, rfl, hpe, hge⟩; have hbE := hbD.out.kept hge)
                | (refine wpList_load_kv (by rfl) _ rfl ⟨w2.heap.size, 0, none⟩ rfl p0 hbE ?_)
                | (go_at_call 15; refine (hP _).mono ?_; rintro e wf ⟨rfl, hgf⟩; have hbF := hbE.kept hgf; have hgF := grown_none hge hgf)
                | (refine wpList_load_kv (by rfl) _ rfl ⟨w2.heap.size, 0, none⟩ rfl p0 hbF ?_)
                | (go_at_call 16; refine (e2 _ hgF).mono ?_; clear hgF; rintro e wg ⟨vg, rfl, hpg, hgg⟩; obtain ⟨Ag, cg, rfl, -⟩ := hpg.form; have hbG := hbF.kept hgg; have hgG := grown_none (grown_none hge hgf) hgg)
                | (refine wpList_load_kv (by rfl) _ rfl ⟨w2.heap.size, 0, none⟩ rfl p0 hbG ?_)
                | (go_at_call 16; refine (e2 _ hgG).mono ?_; rintro e wh ⟨vh, rfl, hph, hgh⟩))
                · go_meet
                  exact ⟨dd, hpa.kept hgb, hpb, hrightD, grown_none hga hgb⟩
                · go_meet
                  exact ⟨ps, hpe.kept (grown_none hgf hgg), (hpo.kept (grown_none hgr hgd2)).kept hgG, hright, hgG⟩
          case rest =>
            obtain ⟨qs, hql, hqo, hqr, hgx⟩ := hcut
            have hgD := grown_none hgd3 hgx
            have hwas := (how.kept hgx).toPB
            have hrlX := RdAt.kept hrlD hgx
            clear hgd hgd2 hgd3 hrlD hroD hboD hrises hgr hgc hrl2 hrl3 hcx3 hcx4 hcx5 hE hb0 hg3' how
            obtain ⟨hq1, -, hq3⟩ := (right_iff qs).1 hqr.out
            obtain ⟨Aq, cq, e1, hcq, hrq, -⟩ := hql.form
            obtain ⟨Ap, cp, e2, hcp, hrp, -⟩ := hqo.form
            obtain ⟨Aw, cw, e3, -, hrw, -⟩ := hwas.form
            subst e1 e2 e3
            have t1 := Get_any Aq cq qs kt wc hrq (by omega) hq3
            have t2 := fun (W : World) (hg : wc.grownBy W none) => RFirst_any Ap cp qs kt W (RdAt.kept hrp hg) (by omega) hq3
            have t3 := fun (W : World) (hg : wc.grownBy W none) => SameQ_any Aq Ap qs qs cq cp W (RdAt.kept hrq hg) (RdAt.kept hrp hg) (by omega) (by omega)
            have t4 := fun (W : World) (hg : wc.grownBy W none) => Right_any Aq cq qs W (RdAt.kept hrq hg) (by omega)
            have t5 := fun (W : World) (hg : wc.grownBy W none) => SameQ_any Al Aw ps ([] ++ ps) cl cw W (RdAt.kept hrlX hg) (RdAt.kept hrw hg) (by omega) (by simp; omega)
            have t6 := fun (W : World) (hg : wc.grownBy W none) => First_any Aq cq qs kt W (RdAt.kept hrq hg) (by omega) hq3
            simp only [decide_true] at t3
            simp only [hqr.out] at t4
            simp only [List.nil_append, decide_true] at t5
            have ha := has_at hq3 kt
            have hb := has_end hq3 kt
            have hv1 := getV_at hq3 (k := kt)
            have hv0 := getV_none (ps := qs) (k := kt)
            clear hq3
            by_cases hh : lowN qs kt < qs.length
            · have ha2 := ha hh
              have hv2 := hv1 hh
              obtain ⟨ad3, rfl, z1, z2⟩ := RdQ.get hrp hh
              clear ha hb hv1
              generalize qs[lowN qs kt] = zz at *
              generalize hlow : lowN qs kt = L at *
              clear hlow
              generalize hasK qs kt = has at *
              generalize getV qs kt = gv at *
              by_cases hz : zz.1 = kt
              · obtain rfl : has = true := by rw [ha2]; simp [hz]
                obtain rfl := hv2 hz
                have z1 : wc.cell? (ad3.add (L * 2)) = some (.string ⟨zz.1.toArray⟩) := z1
                have z2 : wc.cell? ⟨(ad3.add (L * 2)).block, (ad3.add (L * 2)).off + 1, none⟩ = some (.string ⟨zz.2.toArray⟩) := z2
                rw [hz] at z1
                clear ha2 hv0 hv2 hz
                go_wp2_with (first
                  | (go_at_call 17; refine t1.mono ?_; rintro e wj ⟨rfl, hgj⟩; have z1wj := hgj.cell z1 (by simp); have z2wj := hgj.cell z2 (by simp))
                  | (go_at_call 18; refine (t2 _ hgj).mono ?_; rintro e wj2 ⟨rfl, rfl⟩)
                  | (go_at_call 19; refine (t3 _ hgj).mono ?_; clear t3; rintro e wk ⟨rfl, hgk⟩; have hgK := grown_none hgj hgk)
                  | (go_at_call 11; refine (t4 _ hgK).mono ?_; rintro e wl ⟨rfl, hgl⟩; have hgL := grown_none hgK hgl; have z1wl := hgL.cell z1 (by simp); have z2wl := hgL.cell z2 (by simp))
                  | (go_at_call 19; refine (t5 _ hgL).mono ?_; rintro e wm ⟨rfl, hgm⟩; have hgM := grown_none hgL hgm)
                  | (go_at_call 10; refine (t6 _ hgM).mono ?_; rintro e wn ⟨rfl, hgn⟩; have hgN := grown_none hgM hgn))
                go_roundg (30 - (k + 1))
                case measure => omega
                case rel => exact ⟨k + 1, qs, by omega, by go_num, Nat.le_refl _, hql.kept hgN, hqo.kept hgN, hqr, grown_none hgD hgN⟩
              · obtain rfl : has = false := by rw [ha2]; simp [hz]
                obtain rfl := hv0 rfl
                have z1 : wc.cell? (ad3.add (L * 2)) = some (.string ⟨zz.1.toArray⟩) := z1
                have hzb : (zz.1 == kt) = false := by simpa using hz
                clear ha2 hv0 hv2 hz
                go_wp2_with (first
                  | (go_at_call 17; refine t1.mono ?_; rintro e wj ⟨rfl, hgj⟩; have z1wj := hgj.cell z1 (by simp))
                  | (go_at_call 18; refine (t2 _ hgj).mono ?_; rintro e wj2 ⟨rfl, rfl⟩)
                  | (go_at_call 19; refine (t3 _ hgj).mono ?_; clear t3; rintro e wk ⟨rfl, hgk⟩; have hgK := grown_none hgj hgk)
                  | (go_at_call 11; refine (t4 _ hgK).mono ?_; rintro e wl ⟨rfl, hgl⟩; have hgL := grown_none hgK hgl; have z1wl := hgL.cell z1 (by simp))
                  | (go_at_call 19; refine (t5 _ hgL).mono ?_; rintro e wm ⟨rfl, hgm⟩; have hgM := grown_none hgL hgm)
                  | (go_at_call 10; refine (t6 _ hgM).mono ?_; rintro e wn ⟨rfl, hgn⟩; have hgN := grown_none hgM hgn))
                go_roundg (30 - (k + 1))
                case measure => omega
                case rel => exact ⟨k + 1, qs, by omega, by go_num, Nat.le_refl _, hql.kept hgN, hqo.kept hgN, hqr, grown_none hgD hgN⟩
            · have hb2 := hb hh
              have hv2 := hv0 hb2
              clear ha hb hv1 hv0
              generalize lowN qs kt = L at *
              generalize hasK qs kt = has at *
              generalize getV qs kt = gv at *
              subst hb2 hv2
              have hhi : ¬ (L : Int) < (qs.length : Int) := by omega
              go_wp2_with (first
                | (go_at_call 17; refine t1.mono ?_; rintro e wj ⟨rfl, hgj⟩)
                | (go_at_call 18; refine (t2 _ hgj).mono ?_; rintro e wj2 ⟨rfl, rfl⟩)
                | (go_at_call 19; refine (t3 _ hgj).mono ?_; clear t3; rintro e wk ⟨rfl, hgk⟩; have hgK := grown_none hgj hgk)
                | (go_at_call 11; refine (t4 _ hgK).mono ?_; rintro e wl ⟨rfl, hgl⟩; have hgL := grown_none hgK hgl)
                | (go_at_call 19; refine (t5 _ hgL).mono ?_; rintro e wm ⟨rfl, hgm⟩; have hgM := grown_none hgL hgm)
                | (go_at_call 10; refine (t6 _ hgM).mono ?_; rintro e wn ⟨rfl, hgn⟩; have hgN := grown_none hgM hgn))
              go_roundg (30 - (k + 1))
              case measure => omega
              case rel => exact ⟨k + 1, qs, by omega, by go_num, Nat.le_refl _, hql.kept hgN, hqo.kept hgN, hqr, grown_none hgD hgN⟩
    · have hruns := KvRuns_any wr
      go_wp2_with (go_at_call 3; refine hruns.mono ?_; rintro e wz ⟨rfl, hgz⟩)
      all_goals
        go_ret
        exact ⟨rfl, grown_none hg0 hgz⟩
end Go.Proofs.Ytehbhjkceemmcaa
