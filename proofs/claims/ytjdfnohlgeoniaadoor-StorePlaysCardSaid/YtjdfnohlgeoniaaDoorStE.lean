/- Laws of package store: StoreRuns. -/
import Derived.Test.YtjdfnohlgeoniaaDoorStD0
namespace Go.Proofs.YtjdfnohlgeoniaaDoor
open Go.RowKit


def va : Kv := ([97], [])
theorem v_set : Vers.set ⟨[], []⟩ va = ⟨[va], []⟩ := by kernel_rfl
theorem v_com : Vers.commit ⟨[va], []⟩ = ⟨[va], [[va]]⟩ := by kernel_rfl
theorem v_del : Vers.del ⟨[va], [[va]]⟩ [97] = ⟨[], [[va]]⟩ := by kernel_rfl
theorem v_com2 : Vers.commit ⟨[], [[va]]⟩ = ⟨[], [[va], []]⟩ := by kernel_rfl
theorem v_at1 : Vers.at? ⟨[], [[va], []]⟩ 1 = some [va] := by kernel_rfl
theorem v_at2 : Vers.at? ⟨[], [[va], []]⟩ 2 = some [] := by kernel_rfl

set_option maxRecDepth 100000 in
theorem StoreRuns_any (SA : World → Nat → (Nat → Prop) → (Nat → Prop) → Vers → Prop) (K : StoreJ SA) (w : World) : Calls Tryd.prog 24 #[] w fun e w' => e = .returned (.bool true) ∧ w.grownBy w' none := by
  have kn := K.new
  have ks := fun w g B R h => K.set (w := w) (g := g) (B := B) (R := R) (s := ⟨[], []⟩) va h
  have kc := fun w g B R h => K.commit (w := w) (g := g) (B := B) (R := R) (s := ⟨[va], []⟩) h
  have kd := fun w g B R h => K.del (w := w) (g := g) (B := B) (R := R) (s := ⟨[va], [[va]]⟩) [97] h
  have kc2 := fun w g B R h => K.commit (w := w) (g := g) (B := B) (R := R) (s := ⟨[], [[va]]⟩) h
  have ka1 := fun w g B R hs => K.at_ (w := w) (g := g) (B := B) (R := R) (s := ⟨[], [[va], []]⟩) 1 hs (by omega)
  have ka2 := fun w g B R hs => K.at_ (w := w) (g := g) (B := B) (R := R) (s := ⟨[], [[va], []]⟩) 2 hs (by omega)
  have kh := fun w g B R h => K.height (w := w) (g := g) (B := B) (R := R) (s := ⟨[], [[va], []]⟩) h
  have keep := fun w w' g B R s (h : SA w g B R s) (hg : w.grownBy w' none) => K.keep h (.ofNone hg (fun _ => False)) (fun _ e => e.elim)
  simp only [v_set, v_com, v_del, v_com2, v_at1, v_at2, Option.getD, Option.isSome, show Vers.commits ⟨[va], []⟩ = 1 from rfl, show Vers.commits ⟨[], [[va]]⟩ = 2 from rfl, List.length_cons, List.length_nil, Nat.reduceAdd, Int.cast_ofNat_Int] at ks kc kd kc2 ka1 ka2 kh
  go_enter Tryd.func24, Tryd.ntmps24
  go_wp2_with (first
    | (go_at_call 7; refine (kn _).mono ?_; rintro e w1 ⟨g, B1, R1, rfl, h1, hr1, hg1⟩; unfold sptr)
    | (go_at_call 14; refine (ks _ _ _ _ h1).mono ?_; rintro e w2 ⟨B2, R2, rfl, h2, hd2⟩)
    | (go_at_call 11; refine (kc _ _ _ _ h2).mono ?_; clear kc; rintro e w3 ⟨B3, R3, rfl, h3, hd3⟩)
    | (go_at_call 12; refine (kd _ _ _ _ h3).mono ?_; rintro e w4 ⟨B4, R4, v4, rfl, h4, hd4⟩)
    | (go_at_call 11; refine (kc2 _ _ _ _ h4).mono ?_; rintro e w5 ⟨B5, R5, rfl, h5, hd5⟩)
    | (go_at_call 19; refine (ka1 _ _ _ _ h5).mono ?_; clear ka1; rintro e w6 ⟨v6, rfl, hp6, hb6, hg6⟩; have h6 := keep _ _ _ _ _ _ h5 hg6; obtain ⟨A6, c6, e6, hc6, hr6, hl6⟩ := hp6.form; subst e6)
    | (go_at_call 19; refine (ka2 _ _ _ _ h6).mono ?_; clear ka2; rintro e w7 ⟨v7, rfl, hp7, hb7, hg7⟩; have h7 := keep _ _ _ _ _ _ h6 hg7; obtain ⟨A7, c7, e7, hc7, hr7, hl7⟩ := hp7.form; subst e7)
    | (go_at_call 16; refine (kh _ _ _ _ h7).mono ?_; rintro e w8 ⟨rfl, hg8⟩))
  go_ret
  have r1 : Road w w1 B1 R1 := ⟨hg1, fun x hx => hr1 x ((K.sub h1).1 x hx), hr1⟩
  exact ⟨rfl, (((((((r1.did hd2).did hd3).did hd4).did hd5).then hg6).then hg7).then hg8).grew⟩
end Go.Proofs.YtjdfnohlgeoniaaDoor
