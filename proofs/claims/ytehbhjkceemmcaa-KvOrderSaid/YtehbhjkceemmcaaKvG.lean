/- Package kv: Set, Range. -/
import Derived.Test.YtehbhjkceemmcaaKvF
namespace Go.Proofs.Ytehbhjkceemmcaa
open Go.RowKit

theorem setL_len (ps : List Kv) (p : Kv) : (setL ps p).length = lowN ps p.1 + (1 + (hiL ps p.1).length) := by
  unfold setL
  rw [List.length_append, List.length_cons]
  show (loL ps p.1).length + _ = (loL ps p.1).length + _
  omega
/-- Is it taken? -/
def okL (ps : List Kv) (p : Kv) : Bool := mayQ p && decide ((setL ps p).length ≤ 30)
theorem box_at {w w' : World} {p : Kv} {t : TypeId} (hg : (w.alloc (.cells #[.string ⟨p.1.toArray⟩, .string ⟨p.2.toArray⟩] t)).grownBy w' none) : AtQ w' ⟨w.heap.size, 0, none⟩ p := by
  have h := (alloc_atQ (w := w) (o := .cells #[.string ⟨p.1.toArray⟩, .string ⟨p.2.toArray⟩] t) rfl)
  have h2 : w'.heap[w.heap.size]? = some (.cells #[.string ⟨p.1.toArray⟩, .string ⟨p.2.toArray⟩] t) := (hg.block _ (by simp) (by simp)).trans h
  exact ⟨by rw [cell_of_row _ _ 0 _ _ _ h2]; rfl, by show w'.cell? ⟨w.heap.size, 0 + 1, none⟩ = _; rw [cell_of_row _ _ _ _ _ _ h2]; rfl⟩

set_option maxRecDepth 100000 in
set_option maxHeartbeats 1000000 in
theorem Set_any (A : Option Addr) (c : Nat) (ps : List Kv) (p : Kv) (w : World) (hr : RdQ w A ps) (hc : ps.length ≤ c) (hn : ps.length ≤ 1000) (hs : Rises ps) :
    Calls Try.prog 7 #[.slice A ps.length c, .agg #[.string ⟨p.1.toArray⟩, .string ⟨p.2.toArray⟩]] w fun e w' => ∃ v', e = .returned (.tuple #[v', .bool (okL ps p)]) ∧ PB w' v' (if okL ps p then setL ps p else ps) ∧ w.grownBy w' none := by
  have hS := fun (W : World) (hg : w.grownBy W none) => place_any A c ps p.1 W (hr.kept hg) (by omega) hs
  have hl := len_parts hs p.1
  have hlo := hr.take (lowN ps p.1)
  have hhi := RdQ.cut hr (k := lowN ps p.1 + (atL ps p.1).length) hc
  rw [take_low hs] at hlo
  rw [drop_past hs] at hhi
  have hN : (loL ps p.1).length = lowN ps p.1 := rfl
  have hsl := setL_len ps p
  have hcat : setL ps p = loL ps p.1 ++ ([p] ++ hiL ps p.1) := rfl
  have hP := isPair_any p
  have hok : okL ps p = (mayQ p && decide ((setL ps p).length ≤ 30)) := rfl
  rw [hsl] at hok
  generalize okL ps p = ok at *
  rw [hcat]
  clear hcat hs hsl
  generalize lowN ps p.1 = N at *
  generalize (atL ps p.1).length = M at *
  generalize loL ps p.1 = lo at *
  generalize hiL ps p.1 = hi at *
  generalize mayQ p = may at *
  have hlen : N + M + hi.length = ps.length := by omega
  have hTN : N ≤ N + M := by omega
  generalize N + M = T at *
  clear hl
  have H1 : ∀ W : World, w.grownBy W none → PS W (.slice A N c) lo := fun W hg => ⟨A, c, by rw [hN], by omega, hlo.kept hg⟩
  have H2 : ∀ W : World, w.grownBy W none → PS W (.slice (if c = T then A else A.map (·.add (T * 2))) (ps.length - T) (c - T)) hi := fun W hg => ⟨_, _, by rw [show ps.length - T = hi.length by omega], by omega, hhi.kept hg⟩
  have hb : (lo ++ ([p] ++ hi)).length ≤ 1000000 := by rw [List.length_append, List.length_append, List.length_singleton]; omega
  have s1 := sl_hiQ A ps.length c N (by omega)
  have s2 := sl_loQ A ps.length c T (by omega)
  have s3 := fun (g : Nat) (A2 : Option Addr) (n2 c2 : Nat) (W : World) => lit_3p _ _ _ A (some ⟨g, 0, none⟩) A2 N c 1 1 n2 c2 rfl rfl rfl W
  have s4 := lit_1q
  have hC := fun (W : World) (hg : w.grownBy W none) => CloneQ_any A c ps W (hr.kept hg) (by omega)
  clear hlo hhi hr
  generalize (if c = T then A else A.map (·.add (T * 2))) = B at *
  generalize hn2 : ps.length - T = n2 at *
  have hn2' : hi.length = n2 := by omega
  have hps : T + n2 = ps.length := by omega
  rw [hn2'] at hok
  clear hn2 hlen hn2'
  generalize c - T = c2 at *
  generalize hw0 : w.alloc (.cells #[.string ⟨p.1.toArray⟩, .string ⟨p.2.toArray⟩] 26) = w0
  have hg0 : w.grownBy w0 none := by rw [← hw0]; exact grown_alloc (grown_refl _ _) _
  have hbox : ∀ W, w0.grownBy W none → AtQ W ⟨w.heap.size, 0, none⟩ p := fun W h => box_at (by rw [hw0]; exact h)
  have HW := Lib.hid hw0
  have HO := Lib.hid hok
  clear hw0 hok
  cases may
  · obtain rfl : ok = false := HO.out
    clear HO
    go_enter Try.func7, Try.ntmps7
    go_wp2_with (first | (go_at_call 25; rw [HW.out]; refine (hS _ hg0).mono ?_; rintro e w1 ⟨rfl, hg1⟩; have hb1 := hbox _ hg1) | (refine wpList_load_kv (by rfl) _ rfl ⟨w.heap.size, 0, none⟩ rfl p hb1 ?_) | (go_at_call 26; refine (hP _).mono ?_; rintro e w2 ⟨rfl, hg2⟩; have hgw : w.grownBy w2 none := grown_none (grown_none hg0 hg1) hg2) | (go_at_call 27; refine (hC _ hgw).mono ?_; rintro e w3 ⟨v3, rfl, hp3, hg3⟩))
    go_ret2
    exact ⟨_, rfl, hp3, grown_none hgw hg3⟩
  · by_cases hsz : N + (1 + n2) ≤ 30
    · obtain rfl : ok = true := by rw [HO.out]; simp [hsz]
      clear HO
      go_enter Try.func7, Try.ntmps7
      go_wp2_with (first | (go_at_call 25; rw [HW.out]; refine (hS _ hg0).mono ?_; rintro e w1 ⟨rfl, hg1⟩; have hb1 := hbox _ hg1) | (refine wpList_load_kv (by rfl) _ rfl ⟨w.heap.size, 0, none⟩ rfl p hb1 ?_) | (go_at_call 26; refine (hP _).mono ?_; rintro e w2 ⟨rfl, hg2⟩; have hgw : w.grownBy w2 none := grown_none (grown_none hg0 hg1) hg2) | (go_at_call 27; refine (hC _ hgw).mono ?_; rintro e w3 ⟨v3, rfl, hp3, hg3⟩))
      have hb2 := hbox _ (grown_none hg1 hg2)
      have c1 : w2.cell? ⟨w.heap.size, 0, none⟩ = some (.string ⟨p.1.toArray⟩) := hb2.1
      have c3 : w2.cell? ⟨w.heap.size, 1, none⟩ = some (.string ⟨p.2.toArray⟩) := hb2.2
      have hcat := cat3 ((w2.alloc (.cells #[.string ⟨p.1.toArray⟩, .string ⟨p.2.toArray⟩] 26)).alloc (.cells #[.slice A N c, .slice (some ⟨w2.heap.size, 0, none⟩) 1 1, .slice B n2 c2] 22)).drew (w2.heap.size + 1) (.slice A N c) (.slice (some ⟨w2.heap.size, 0, none⟩) 1 1) (.slice B n2 c2) 22 (0, 0) lo [p] hi (alloc_atQ (by simp)) (H1 _ (grown_drew (grown_alloc (grown_alloc hgw _) _))) (ps_one p (t := 26) (fr := (0, 0)) (alloc_oldQ (alloc_atQ rfl))) (H2 _ (grown_drew (grown_alloc (grown_alloc hgw _) _))) hb
      go_region_with (go_at_call 28; refine hcat.mono ?_; rintro e w3 ⟨v3, rfl, ho, hg3⟩)
      all_goals
        go_wp2
        go_ret2
        exact ⟨_, rfl, ho.toPB, grown_none (grown_drew (grown_alloc (grown_alloc hgw _) _)) hg3⟩
    · obtain rfl : ok = false := by rw [HO.out]; simp; omega
      clear HO
      go_enter Try.func7, Try.ntmps7
      go_wp2_with (first | (go_at_call 25; rw [HW.out]; refine (hS _ hg0).mono ?_; rintro e w1 ⟨rfl, hg1⟩; have hb1 := hbox _ hg1) | (refine wpList_load_kv (by rfl) _ rfl ⟨w.heap.size, 0, none⟩ rfl p hb1 ?_) | (go_at_call 26; refine (hP _).mono ?_; rintro e w2 ⟨rfl, hg2⟩; have hgw : w.grownBy w2 none := grown_none (grown_none hg0 hg1) hg2) | (go_at_call 27; refine (hC _ hgw).mono ?_; rintro e w3 ⟨v3, rfl, hp3, hg3⟩))
      go_ret2
      exact ⟨_, rfl, hp3, grown_none hgw hg3⟩
end Go.Proofs.Ytehbhjkceemmcaa
