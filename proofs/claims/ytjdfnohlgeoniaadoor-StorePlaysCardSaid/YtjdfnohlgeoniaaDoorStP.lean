/- Laws of package store: StorePlays. -/
import Derived.Test.YtjdfnohlgeoniaaDoorStO
namespace Go.Proofs.YtjdfnohlgeoniaaDoor
open Go.RowKit

/-! ## Keys among the statements' own -/
theorem sorted_len : ∀ (K l : List (List UInt8)), K.Pairwise (fun a b => kl a b = true) → l.Pairwise (fun a b => kl a b = true) → (∀ x ∈ l, x ∈ K) → l.length ≤ K.length
  | [], [], _, _, _ => Nat.le_refl _
  | [], x :: _, _, _, h => by cases h x (by simp)
  | k :: K, [], _, _, _ => Nat.zero_le _
  | k :: K, x :: l, hK, hl, h => by
    obtain ⟨hk1, hk2⟩ := List.pairwise_cons.1 hK
    obtain ⟨hx1, hx2⟩ := List.pairwise_cons.1 hl
    by_cases e : x = k
    · subst e
      have := sorted_len K l hk2 hx2 (fun y hy => by
        rcases List.mem_cons.1 (h y (by simp [hy])) with e2 | e2
        · have := hx1 y hy
          rw [e2, kl_irr] at this; cases this
        · exact e2)
      simp; omega
    · have hxK : x ∈ K := by
        rcases List.mem_cons.1 (h x (by simp)) with e2 | e2
        · exact absurd e2 e
        · exact e2
      have := sorted_len K (x :: l) hk2 hl (fun y hy => by
        rcases List.mem_cons.1 (h y hy) with e2 | e2
        · rcases List.mem_cons.1 hy with e3 | e3
          · rw [e3]; exact hxK
          · have h1 := hx1 y e3
            have h2 := hk1 x hxK
            rw [e2, kl_asymm h2] at h1; cases h1
        · exact e2)
      simp only [List.length_cons] at this ⊢
      omega
/-- Its keys are among the statements' own. -/
def Ours (ps : List Kv) : Prop := ∀ q ∈ ps, q.1 ∈ keysK
theorem Ours.len {ps : List Kv} (h : Ours ps) (hr : Rises ps) : ps.length ≤ 12 := by
  have := sorted_len keysK (ps.map (·.1)) keysK_rise ((List.pairwise_map (f := fun q : Kv => q.1) (R := fun a b => kl a b = true)).2 hr) (fun x hx => by
    obtain ⟨q, hq, rfl⟩ := List.mem_map.1 hx
    exact h q hq)
  rw [List.length_map, keysK_len] at this
  exact this
theorem Ours.set {ps : List Kv} (h : Ours ps) {p : Kv} (hp : p.1 ∈ keysK) : Ours (setL ps p) := fun q hq => by
  rcases mem_set.1 hq with rfl | ⟨h1, -⟩
  · exact hp
  · exact h q h1
theorem Ours.del {ps : List Kv} (h : Ours ps) (k : List UInt8) : Ours (delL ps k) := fun q hq => by
  unfold delL at hq
  rcases List.mem_append.1 hq with hq | hq
  · exact h q (List.mem_filter.1 hq).1
  · exact h q (List.mem_filter.1 hq).1
theorem Ours.ok {ps : List Kv} (h : Ours ps) (hr : Rises ps) {p : Kv} (hp : p.1 ∈ keysK) (ht : p.2 ∈ textsK) : okL ps p = true := by
  have h1 := keysK_may _ hp
  have h2 := textsK_may _ ht
  have h3 := (h.set hp).len (rise_set hr p)
  exact okL_of h1.1 h1.2 (by omega) (by omega)

/-! ## What is kept, by heights -/
def keptU (n h : Nat) : List Int := ((List.range h).filter fun x => decide (1 ≤ x ∧ x ≤ n ∧ n < x + 6)).map fun x : Nat => (x : Int)
theorem keptU_all (s : Vers) (h : s.all.length ≤ 16) : keptU s.all.length (s.all.length + 2) = s.kept := by
  have hall : ∀ n : Fin 17, keptU n.val (n.val + 2) = (List.range (min n.val 6)).map fun (i : Nat) => ((n.val - min n.val 6 + 1 + i : Nat) : Int) := by decide +kernel
  exact hall ⟨s.all.length, by omega⟩
theorem keptU_in {n h : Nat} (hi : 1 ≤ h ∧ h ≤ n ∧ n < h + 6) : keptU n (h + 1) = keptU n h ++ [(h : Int)] := by
  unfold keptU
  rw [List.range_succ, List.filter_append, List.map_append]
  simp [hi]
theorem keptU_out {n h : Nat} (hi : ¬ (1 ≤ h ∧ h ≤ n ∧ n < h + 6)) : keptU n (h + 1) = keptU n h := by
  unfold keptU
  rw [List.range_succ, List.filter_append, List.map_append]
  have this : decide (1 ≤ h ∧ h ≤ n ∧ n < h + 6) = false := decide_eq_false hi
  have e : List.filter (fun x => decide (1 ≤ x ∧ x ≤ n ∧ n < x + 6)) [h] = [] := by rw [List.filter_cons, if_neg (by rw [this]; decide)]; rfl
  rw [e]; simp
theorem keptU_len (n h : Nat) : (keptU n h).length ≤ h := by
  unfold keptU
  rw [List.length_map]
  exact Nat.le_trans (List.length_filter_le _ _) (by simp)

/-! ## A store, the rows beside it, and what is now -/
structure Play (SA : World → Nat → (Nat → Prop) → (Nat → Prop) → Vers → Prop) (w0 : World) (g : Nat) (w : World) (nv av : Value) (B R : Nat → Prop) (s : Vers) (rs : List Rq) (rn : Rq) : Prop where
  h : Hold SA w0 g w av B R s rs
  hrs : rs.map (fun r => r.2.1) = s.all
  hnv : nv = rv rn
  hrn : rn.2.1 = s.now
  ok : rn.ok w B
  ap : ∀ k, av.ownBlock = some k → ∀ ad, rn.1 = some ad → ad.block ≠ k
  ours : Ours s.now
/-- None of this lies in Z. -/
structure Off (Z : Nat → Prop) (av : Value) (R : Nat → Prop) (rs : List Rq) (rn : Rq) : Prop where
  r : ∀ x, Z x → ¬ R x
  a : ∀ k, av.ownBlock = some k → ¬ Z k
  q : ∀ q ∈ rs, ∀ ad, q.1 = some ad → ¬ Z ad.block
  n : ∀ ad, rn.1 = some ad → ¬ Z ad.block
section
variable {SA : World → Nat → (Nat → Prop) → (Nat → Prop) → Vers → Prop} {w0 w w' : World} {g : Nat} {nv av av' nv' : Value} {B R B' R' Z : Nat → Prop} {s s' : Vers} {rs : List Rq} {rn rn' : Rq}
theorem Play.kept (K : StoreK SA) (h : Play SA w0 g w nv av B R s rs rn) (hg : w.grownBy w' none) : Play SA w0 g w' nv av B R s rs rn := ⟨h.h.kept K hg, h.hrs, h.hnv, h.hrn, h.ok.kept hg, h.ap, h.ours⟩
/-- A world that has changed in Z alone. -/
theorem Play.aside (K : StoreK SA) (h : Play SA w0 g w nv av B R s rs rn) (ho : Off Z av R rs rn) (hg : GrewIn w w' Z) (hZ : ∀ x, Z x → w0.heap.size ≤ x) : Play SA w0 g w' nv av B R s rs rn :=
  ⟨⟨K.keep h.h.sa hg ho.r, ⟨GrewIn.from h.h.ro.grew hg hZ, h.h.ro.b, h.h.ro.r⟩, fun q hq => ⟨hg.keep (h.h.ok q hq).1 (fun ad e => ((h.h.ok q hq).2.2 ad e).2) (ho.q q hq), (h.h.ok q hq).2.1, fun ad e => ⟨((h.h.ok q hq).2.2 ad e).1, Nat.lt_of_lt_of_le ((h.h.ok q hq).2.2 ad e).2 hg.size⟩⟩, hg.ownV h.h.ov ho.a, h.h.ap⟩,
   h.hrs, h.hnv, h.hrn, ⟨hg.keep h.ok.1 (fun ad e => (h.ok.2.2 ad e).2) ho.n, h.ok.2.1, fun ad e => ⟨(h.ok.2.2 ad e).1, Nat.lt_of_lt_of_le (h.ok.2.2 ad e).2 hg.size⟩⟩, h.ap, h.ours⟩
/-- All of it is older than the world. -/
theorem Play.off (K : StoreK SA) (h : Play SA w0 g w nv av B R s rs rn) (hZ : ∀ x, Z x → w.heap.size ≤ x) : Off Z av R rs rn where
  r := fun x hz hr => by have := (K.sub h.h.sa).2 x hr; have := hZ x hz; omega
  a := fun k e hz => by have := h.h.ov.lt k e; have := hZ k hz; omega
  q := fun q hq ad e hz => by have := ((h.h.ok q hq).2.2 ad e).2; have := hZ _ hz; omega
  n := fun ad e hz => by have := (h.ok.2.2 ad e).2; have := hZ _ hz; omega
/-- A call on the store whose now is left alone. -/
theorem Play.did (K : StoreK SA) (h : Play SA w0 g w nv av B R s rs rn) (hd : Did w w' B R B' R') (hs : SA w' g B' R' s') (hn : s'.now = s.now) (ha : s'.all = s.all) : Play SA w0 g w' nv av B' R' s' rs rn :=
  ⟨h.h.did K hd hs, h.hrs.trans ha.symm, h.hnv, h.hrn.trans hn.symm, h.ok.did hd, h.ap, by rw [hn]; exact h.ours⟩
/-- A call on the store, and another row for what is now. -/
theorem Play.fresh (K : StoreK SA) {w2 : World} (h : Play SA w0 g w nv av B R s rs rn) (hd : Did w w' B R B' R') (hs : SA w' g B' R' s') (ha : s'.all = s.all) (hg : w'.grownBy w2 none) {A : Option Addr} {c : Nat} {l : List Kv} (hp : PB w2 (.slice A l.length c) l) (hf : ∀ x, (Value.slice A l.length c).ownBlock = some x → w'.heap.size ≤ x) (hl : l = s'.now) (ho : Ours l) : Play SA w0 g w2 (.slice A l.length c) av B' R' s' rs (A, l, c) := by
  obtain ⟨A1, c1, e1, hc1, hr1, hl1⟩ := hp.form
  cases e1
  have hh := h.h.did K hd hs
  refine ⟨hh.kept K hg, h.hrs.trans ha.symm, rfl, hl, ⟨hr1, hc1, fun ad e => ⟨fun hb => ?_, hl1 ad e⟩⟩, fun k e ad ea e2 => ?_, hl ▸ ho⟩
  · have h1 := (K.sub hs).2 _ ((K.sub hs).1 _ hb)
    have h2 := hf ad.block (by rw [show A = some ad from e]; rfl)
    omega
  · have h1 := hh.ov.lt k e
    have h2 := hf ad.block (by rw [show A = some ad from ea]; rfl)
    omega
theorem Off.fresh (ho : Off Z av R rs rn) {A : Option Addr} {c n N : Nat} {l : List Kv} (hf : ∀ x, (Value.slice A n c).ownBlock = some x → N ≤ x) (hZ : ∀ x, Z x → x < N) : Off Z av R rs (A, l, c) :=
  ⟨ho.r, ho.a, ho.q, fun ad e hz => by
    have h1 := hf ad.block (by rw [show A = some ad from e]; rfl)
    have h2 := hZ _ hz
    omega⟩
/-- A commit, and what is now appended to the rows. -/
theorem Play.commitApp (K : StoreK SA) {wA w2 : World} {av2 : Value} (h : Play SA w0 g w nv av B R s rs rn) (hd : Did w w' B R B' R') (hs : SA w' g B' R' ⟨s.now, s.all ++ [s.now]⟩) (hgA : w'.grownBy wA none) (hg : Grew wA w2 av av2) (ho : OwnV 25 w2 av2 (rs.map rv ++ [rv rn])) : Play SA w0 g w2 nv av2 B' R' ⟨s.now, s.all ++ [s.now]⟩ (rs ++ [rn]) rn := by
  have hh := (h.h.did K hd hs).kept K hgA
  have hok := (h.ok.did hd).kept hgA
  have hh2 := hh.app K hok h.ap hg ho
  exact ⟨hh2, by rw [List.map_append, h.hrs]; simp [h.hrn], h.hnv, h.hrn, hh2.ok rn (by simp), fun k e ad ea => (hh2.ap k e).2.2 rn (by simp) ad ea, h.ours⟩
theorem Off.app (ho : Off Z av R rs rn) (hd : Did w w' B R B' R') {wA w2 : World} {av2 : Value} (hgA : w'.grownBy wA none) (hg : Grew wA w2 av av2) (hZ : ∀ x, Z x → x < w.heap.size) : Off Z av2 R' (rs ++ [rn]) rn where
  r := fun x hz hr => (hd.r x hr).elim (ho.r x hz) (fun hl => absurd (hZ x hz) (Nat.not_lt.2 hl))
  a := fun k e hz => by
    rcases hg.2 with h | ⟨k2, h, hl⟩
    · exact ho.a k (by rw [← h]; exact e) hz
    · rw [e] at h; injection h with h
      have := hZ k hz
      have := hd.grew.size
      have := hgA.size
      omega
  q := fun q hq ad e => by
    rcases List.mem_append.1 hq with hq | hq
    · exact ho.q q hq ad e
    · rw [List.mem_singleton.1 hq] at e; exact ho.n ad e
  n := ho.n
theorem Off.did (ho : Off Z av R rs rn) (hd : Did w w' B R B' R') (hZ : ∀ x, Z x → x < w.heap.size) : Off Z av R' rs rn :=
  ⟨fun x hz hr => (hd.r x hr).elim (ho.r x hz) (fun hl => absurd (hZ x hz) (Nat.not_lt.2 hl)), ho.a, ho.q, ho.n⟩
end
theorem alloc_Q (w : World) : (Instr.alloc 29 true (.tuple #[])).run Tryd.prog w = .ok (.pointer (some ⟨w.heap.size, 0, none⟩)) (w.alloc (.cells #[.string ⟨#[]⟩, .string ⟨#[]⟩] 29)) := by kernel_rfl
/-- How things stand behind the switch: the store's side, and the copy that was made ahead of it. -/
def SwR (SA : World → Nat → (Nat → Prop) → (Nat → Prop) → Vers → Prop) (w0 : World) (g g2 lo hi : Nat) (Bc Rc : Nat → Prop) (s0 : Vers) (nv av : Value) (wx : World) : Prop :=
  ∃ (B R : Nat → Prop) (s : Vers) (rs : List Rq) (rn : Rq), Play SA w0 g wx nv av B R s rs rn ∧ Off (fun y => lo ≤ y ∧ y < hi) av R rs rn ∧ SA wx g2 Bc Rc s0 ∧ hi ≤ wx.heap.size
def splS (t : Nat) : Bool := t == 7 || t == 30 || t == 31 || t == 32 || t == 33 || t == 34 || t == 35 || t == 36 || t == 37 || t == 38 || t == 39 || t == 40 || t == 41
def splDie (_ : Nat) : Nat := 99
def splOwn (k : Nat) : Bool := k == 12
def splAl (k : Nat) : Bool := k == 0 || k == 5 || k == 12
def splF (ad : Addr) (n c i : Nat) (x m : Int) (kt tt : List UInt8) : Nat → Value → World → Prop
  | 0 => fun v _ => v = .slice (some ad) n c
  | 1 => fun v _ => v = .int .i64 (i : Nat)
  | 2 => fun v _ => v = .pointer (some (ad.add i))
  | 3 => fun v _ => v = .int .i64 x
  | 4 => fun v _ => v = (.string ⟨kt.toArray⟩)
  | 5 => fun v _ => v = .slice (some ad) n c
  | 6 => fun v _ => v = .int .i64 (i : Nat)
  | 7 => fun v _ => v = .pointer (some (ad.add i))
  | 8 => fun v _ => v = .int .i64 x
  | 9 => fun v _ => v = .int .i64 m
  | 10 => fun v _ => v = (.string ⟨tt.toArray⟩)
  | 11 => fun v _ => v = (.agg #[.string ⟨kt.toArray⟩, .string ⟨tt.toArray⟩])
  | 12 => Made #[.string ⟨#[]⟩, .string ⟨#[]⟩] 29
  | _ => fun _ _ => True
theorem splF_lasts (ad : Addr) (n c i : Nat) (x m : Int) (kt tt : List UInt8) : ∀ kq, LastsB splAl kq (splF ad n c i x m kt tt kq)
  | 0 => LastsB.val _
  | 1 => LastsB.val _
  | 2 => LastsB.val _
  | 3 => LastsB.val _
  | 4 => LastsB.val _
  | 5 => LastsB.val _
  | 6 => LastsB.val _
  | 7 => LastsB.val _
  | 8 => LastsB.val _
  | 9 => LastsB.val _
  | 10 => LastsB.val _
  | 11 => LastsB.val _
  | 12 => LastsB.made rfl _ _
  | _ + 13 => fun _ _ _ _ _ _ _ => trivial
set_option maxRecDepth 100000 in
set_option maxHeartbeats 8000000 in
theorem StorePlays_any (SA : World → Nat → (Nat → Prop) → (Nat → Prop) → Vers → Prop) (K' : StoreN SA) (A1 : Option Addr) (c1 : Nat) (ns : List Int) (w : World) (hkl : Laid2 w) (hr1 : RdI w A1 ns) (_hm1 : ns.length ≤ maxLen) :
    Calls Tryd.prog 3 #[.slice A1 ns.length c1] w fun e w' => e = .returned (.bool true) ∧ w.grownBy w' none := by
  unfold maxLen at _hm1
  have K := K'.toStoreK
  have hru := fun W => StoreRuns_any SA K.toStoreJ W
  go_enter Tryd.func3, Tryd.ntmps3
  go_wp2_with (go_at_call 7; refine (K'.new _).mono ?_; rintro e w1 ⟨g, B1, R1, rfl, hs1, hR1, hg01⟩; unfold sptr)
  have hp1 : Play SA w g w1 (.slice none 0 0) (.slice none 0 0) B1 R1 ⟨[], []⟩ [] (none, [], 0) :=
    ⟨⟨hs1, ⟨hg01, fun x hx => hR1 x ((K'.sub hs1).1 x hx), hR1⟩, (fun q hq => by cases hq), OwnV.nil _, fun k e => by cases e⟩, rfl, rfl, rfl, ⟨RdAt.nil, Nat.le_refl _, fun ad e => by cases e⟩, (fun k e => by cases e), fun q hq => by cases hq⟩
  go_loopw [4, 5, 6] (fun nv av i wr => ∃ (j : Nat) (B R : Nat → Prop) (s : Vers) (rs : List Rq) (rn : Rq), j ≤ 60 ∧ i = .int .i64 (j : Int) ∧ Play SA w g wr nv av B R s rs rn) (fun _ _ i _ => 61 - (intOf i).toNat)
  case atStart => exact ⟨0, B1, R1, _, [], _, by omega, rfl, hp1⟩
  case round =>
    obtain ⟨j, B, R, s, rs, rn, hj, rfl, hp⟩ := hrel
    by_cases hcond : j < ns.length ∧ j < 60
    · obtain ⟨hlt, hlt60⟩ := hcond
      have q1 : (j : Int) < (ns.length : Int) := by omega
      have q2 : (j : Int) < 60 := by omega
      obtain ⟨ad, rfl, hcx0⟩ := RdI.get (RdAt.kept hr1 hp.h.ro.grew) hlt
      generalize ns[j] = x at hcx0
      obtain ⟨kt, hkt, hKk⟩ := KKey_any x
      obtain ⟨m, hm⟩ := quo12 x
      obtain ⟨tt, htt, hTt⟩ := KText_any m
      have hcx := Lib.hid hcx0
      clear hcx0
      go_upto_region 9 with (fail)
      refine wp_region_gb (al := splAl) 13 (N := 201) (S := splS) (die := splDie) (own := splOwn) (F := splF ad ns.length c1 j x m kt tt) (by kernel_rfl) (Nat.le_of_ble_eq_true (by kernel_rfl)) (fun _ => by kernel_rfl) (fun _ => by kernel_rfl) (by kernel_rfl) (by kernel_rfl) (Nat.le_of_ble_eq_true (by kernel_rfl)) (splF_lasts ad ns.length c1 j x m kt tt) ?_ ?_
      · intro i o L' a w K hi ho hg hLi hout hpre houter hitem h1 h2 h3
        have hcases : i = 0 ∨ i = 1 ∨ i = 2 ∨ i = 3 ∨ i = 4 ∨ i = 5 ∨ i = 6 ∨ i = 7 ∨ i = 8 ∨ i = 9 ∨ i = 10 ∨ i = 11 ∨ i = 12 := by omega
        rcases hcases with rfl | rfl | rfl | rfl | rfl | rfl | rfl | rfl | rfl | rfl | rfl | rfl | rfl
        · cases (show some _ = some o from ho)
          exact ⟨rfl, wp_move rfl (h1 ⟨_, rfl⟩ _ _ (grown_refl _ none) (houter _ rfl) (by rw [houter _ rfl]; exact nobl rfl) (by rw [houter _ rfl]; exact FreshB.none rfl))⟩
        · cases (show some _ = some o from ho)
          exact ⟨rfl, wp_move rfl (h1 ⟨_, rfl⟩ _ _ (grown_refl _ none) (houter _ rfl) (by rw [houter _ rfl]; exact nobl rfl) (by rw [houter _ rfl]; exact FreshB.none rfl))⟩
        · cases (show some _ = some o from ho)
          exact ⟨rfl, wp_index rfl (hitem 0 (by decide) ⟨hpre 0 rfl, hout _ (by decide)⟩) (hitem 1 (by decide) ⟨hpre 1 rfl, hout _ (by decide)⟩) (idx_I ad ns.length c1 j hlt _) (h1 ⟨_, rfl⟩ _ _ (grown_refl _ none) rfl (nobl rfl) (FreshB.none rfl))⟩
        · cases (show some _ = some o from ho)
          exact ⟨rfl, wp_loadC rfl (hitem 2 (by decide) ⟨hpre 2 rfl, hout _ (by decide)⟩) (load_cell (hg.cell hcx.out (by simp)) Tryd.underlying3 rfl) (h1 ⟨_, rfl⟩ _ _ (grown_refl _ none) rfl (nobl rfl) (FreshB.none rfl))⟩
        · cases (show some _ = some o from ho)
          have x33 : a.eval (.tmp 33) = .int .i64 x := hitem 3 (by decide) ⟨hpre 3 rfl, hout _ (by decide)⟩
          refine ⟨rfl, wp_call rfl Tryd.func8 (by kernel_rfl) (by kernel_rfl) (args := #[.int .i64 x]) (by simp [x33]) ((hKk w).mono ?_)⟩
          rintro e w' ⟨rfl, hg'⟩
          exact ⟨_, rfl, h1 ⟨_, rfl⟩ _ _ hg' rfl (nobl rfl) (FreshB.none rfl)⟩
        · cases (show some _ = some o from ho)
          exact ⟨rfl, wp_move rfl (h1 ⟨_, rfl⟩ _ _ (grown_refl _ none) (houter _ rfl) (by rw [houter _ rfl]; exact nobl rfl) (by rw [houter _ rfl]; exact FreshB.none rfl))⟩
        · cases (show some _ = some o from ho)
          exact ⟨rfl, wp_move rfl (h1 ⟨_, rfl⟩ _ _ (grown_refl _ none) (houter _ rfl) (by rw [houter _ rfl]; exact nobl rfl) (by rw [houter _ rfl]; exact FreshB.none rfl))⟩
        · cases (show some _ = some o from ho)
          exact ⟨rfl, wp_index rfl (hitem 5 (by decide) ⟨hpre 5 rfl, hout _ (by decide)⟩) (hitem 6 (by decide) ⟨hpre 6 rfl, hout _ (by decide)⟩) (idx_I ad ns.length c1 j hlt _) (h1 ⟨_, rfl⟩ _ _ (grown_refl _ none) rfl (nobl rfl) (FreshB.none rfl))⟩
        · cases (show some _ = some o from ho)
          exact ⟨rfl, wp_loadC rfl (hitem 7 (by decide) ⟨hpre 7 rfl, hout _ (by decide)⟩) (load_cell (hg.cell hcx.out (by simp)) Tryd.underlying3 rfl) (h1 ⟨_, rfl⟩ _ _ (grown_refl _ none) rfl (nobl rfl) (FreshB.none rfl))⟩
        · cases (show some _ = some o from ho)
          exact ⟨rfl, wp_bin rfl (hitem 8 (by decide) ⟨hpre 8 rfl, hout _ (by decide)⟩) rfl (guard_quo _ _ _ _ _) (hm _) (h1 ⟨_, rfl⟩ _ _ (grown_refl _ none) rfl (nobl rfl) (FreshB.none rfl))⟩
        · cases (show some _ = some o from ho)
          have x39 : a.eval (.tmp 39) = .int .i64 m := hitem 9 (by decide) ⟨hpre 9 rfl, hout _ (by decide)⟩
          refine ⟨rfl, wp_call rfl Tryd.func9 (by kernel_rfl) (by kernel_rfl) (args := #[.int .i64 m]) (by simp [x39]) ((hTt w).mono ?_)⟩
          rintro e w' ⟨rfl, hg'⟩
          exact ⟨_, rfl, h1 ⟨_, rfl⟩ _ _ hg' rfl (nobl rfl) (FreshB.none rfl)⟩
        · cases (show some _ = some o from ho)
          exact ⟨rfl, wp_build2 rfl (hitem 4 (by decide) ⟨hpre 4 rfl, hout _ (by decide)⟩) (hitem 10 (by decide) ⟨hpre 10 rfl, hout _ (by decide)⟩) (build_kv _ _ _) (h1 ⟨_, rfl⟩ _ _ (grown_refl _ none) rfl (nobl rfl) (FreshB.none rfl))⟩
        · cases (show some _ = some o from ho)
          exact ⟨rfl, wp_alloc rfl (alloc_Q _) (h1 ⟨_, rfl⟩ _ _ (grown_alloc (grown_refl _ _) _) ⟨_, rfl, heap_alloc_new _ _⟩ (new_lt _ _) (FreshB.new (new_ge _)))⟩
      · intro a wT hgT hend hap ha
        obtain ⟨f, hf⟩ : ∃ f : Nat → Value, f = fun t => a.tmps.getD t undef := ⟨_, rfl⟩
        have s41 : f 41 = (.agg #[.string ⟨kt.toArray⟩, .string ⟨tt.toArray⟩]) := by rw [hf]; exact (hend 11 (by decide) (by decide)).1
        obtain ⟨⟨b7, q7, hh7⟩, fr7⟩ := hend 12 (by decide) (by decide)
        have f7 : wr.heap.size ≤ b7 := fr7 rfl b7 (by rw [q7]; exact List.mem_singleton.2 rfl)
        have s7 := (congrFun hf 7).trans q7
        rw [← hf] at ha
        clear hend hap
        clear hf
        clear q7 fr7
        subst ha
        simp only [fill, splS, Nat.reduceAdd, Nat.reduceBEq, Bool.or_false, Bool.or_true, cond_true, cond_false, List.drop_succ_cons, List.drop_zero, s41, s7]
        have hlt7 : ∀ y, B y → y < wr.heap.size := fun y hy => (K.sub hp.h.sa).2 _ ((K.sub hp.h.sa).1 _ hy)
        go_upto_region 10 with (refine wpList_store_row rfl 29 _ _ rfl b7 #[.string ⟨kt.toArray⟩, .string ⟨tt.toArray⟩] rfl rfl 29 _ hh7 size_kv rfl (all_kv (kt, tt)) ?_; generalize hw3 : World.setRow _ b7 _ = w3)
        have hbx : AtQ w3 ⟨b7, 0, none⟩ (kt, tt) := by rw [← hw3]; exact at_setRow (z := (kt, tt)) hh7
        have hg3 : wr.grownBy w3 none := by rw [← hw3]; exact grown_setRow hgT (.inr f7) _
        have hb7 : ¬ B b7 ∧ b7 < w3.heap.size := ⟨fun h => by have := hlt7 _ h; omega, by rw [← hw3, setRow_size]; exact (Array.getElem?_eq_some_iff.1 hh7).1⟩
        clear hw3 hh7 hlt7 hp1
        have hp3 := hp.kept K hg3
        have kcp := K.copy hp3.h.sa
        -- the forms of what is now and of all rows
        obtain ⟨Av, cv, ea, hcv, -, -⟩ := hp.h.ov.slice
        have hll : (rs.map rv).length = s.all.length := by rw [List.length_map, ← hp.hrs, List.length_map]
        rw [hll] at ea
        obtain ⟨An, ln, cn⟩ := rn
        have en : u4 = .slice An ln.length cn := hp.hnv
        subst ea
        subst en
        clear hp
        obtain ⟨L, hL⟩ : ∃ L, L = s.all.length := ⟨_, rfl⟩
        rw [← hL] at hll
        have hln : ln = s.now := hp3.hrn
        have hrises := ((right_iff _).1 (K.right hp3.h.sa).1).2.2
        have hlen := hp3.ours.len hrises
        rw [← hln] at hrises hlen
        have HL := Lib.hid hL
        have HLN := Lib.hid hln
        rw [← hL] at hp3 ⊢
        clear hL hln
        go_upto_block 2 with (go_at_call 10; refine kcp.mono ?_; rintro e wb ⟨g2, Bc, Rc, rfl, hsc, hgb, hBc, hRc, hBR⟩; unfold sptr)
        have hpb := hp3.kept K hgb
        have hcxb : wb.cell? (ad.add j) = some (.int .i64 x) := (grown_none hg3 hgb).cell hcx.out (by simp)
        have hoff : Off (fun y => w3.heap.size ≤ y ∧ y < wb.heap.size) (.slice Av L cv) R rs (An, ln, cn) := hp3.off K (fun y h => h.1)
        have hbxb := hbx.kept hgb
        have hb7b : ¬ B b7 ∧ b7 < wb.heap.size := ⟨hb7.1, Nat.lt_of_lt_of_le hb7.2 hgb.size⟩
        have hcopy : ∀ wx, GrewIn wb wx B → SA wx g2 Bc Rc s := fun wx h => K.keep hsc h hBR
        have hsz : ∀ y, w3.heap.size ≤ y ∧ y < wb.heap.size → y < wb.heap.size := fun y h => h.2
        go_cut [4, 5] (fun nv av wx => SwR SA w g g2 w3.heap.size wb.heap.size Bc Rc s nv av wx)
        case first =>
          as_aux_lemma =>
            cases hb3 : (x.tmod 3 == 0)
            · cases hb1 : (x.tmod 7 == 1)
              · have hok : okL s.now (kt, tt) = true := hpb.ours.ok (by rw [← HLN.out]; exact hrises) hkt htt
                have ks := K.set (kt, tt) hpb.h.sa
                rw [Vers.yes hok, hok] at ks
                have hrs := fun W (hr : RdQ W An ln) (hl : ∀ ad, An = some ad → ad.block < W.heap.size) => RSet_new An cn ln (kt, tt) W hr hl hpb.ok.2.1 (by omega) hrises
                clear hok
                go_wp2_with (first
                  | (refine wpList_load_kv (by rfl) _ rfl ⟨b7, 0, none⟩ rfl (kt, tt) hbxb ?_)
                  | (go_at_call 14; refine ks.mono ?_; rintro e w5 ⟨B5, R5, rfl, hs5, hd5⟩; have hbx5 := (hd5.at hbxb hb7b).1; have hok5 := hpb.ok.did hd5)
                  | (refine wpList_load_kv (by rfl) _ rfl ⟨b7, 0, none⟩ rfl (kt, tt) hbx5 ?_)
                  | (go_at_call 15; refine (hrs _ hok5.1 (fun ad e => (hok5.2.2 ad e).2)).mono ?_; rintro e w6 ⟨v6, rfl, hp6, hg6, hf6⟩; obtain ⟨A6, c6, e6, -, -, -⟩ := hp6.form; subst e6))
                go_meet
                exact ⟨B5, R5, _, rs, (A6, _, c6), hpb.fresh K hd5 hs5 rfl hg6 hp6 hf6 (by rw [HLN.out]) (by rw [HLN.out]; exact hpb.ours.set hkt), (hoff.did hd5 hsz).fresh hf6 (fun y h => Nat.lt_of_lt_of_le h.2 hd5.grew.size), K.keep (hcopy _ hd5.grew) (.ofNone hg6 fun _ => False) (fun _ e => e.elim), Nat.le_trans hd5.grew.size hg6.size⟩
              · have kd := K.del kt hpb.h.sa
                have hrd := fun W (hr : RdQ W An ln) => RDel_new An cn ln kt W hr (by omega) hrises
                have c0 : wb.cell? ⟨b7, 0, none⟩ = some (.string ⟨kt.toArray⟩) := hbxb.1
                go_wp2_with (first
                  | (go_at_call 12; refine kd.mono ?_; rintro e w5 ⟨B5, R5, v5, rfl, hs5, hd5⟩; have hbx5 := (hd5.at hbxb hb7b).1; have c05 : w5.cell? ⟨b7, 0, none⟩ = some (.string ⟨kt.toArray⟩) := hbx5.1; have hok5 := hpb.ok.did hd5)
                  | (go_at_call 13; refine (hrd _ hok5.1).mono ?_; rintro e w6 ⟨v6, rfl, hp6, hg6, hf6⟩; obtain ⟨A6, c6, e6, -, -, -⟩ := hp6.form; subst e6))
                go_meet
                exact ⟨B5, R5, _, rs, (A6, _, c6), hpb.fresh K hd5 hs5 rfl hg6 hp6 hf6 (by rw [HLN.out]; rfl) (by rw [HLN.out]; exact hpb.ours.del kt), (hoff.did hd5 hsz).fresh hf6 (fun y h => Nat.lt_of_lt_of_le h.2 hd5.grew.size), K.keep (hcopy _ hd5.grew) (.ofNone hg6 fun _ => False) (fun _ e => e.elim), Nat.le_trans hd5.grew.size hg6.size⟩
            · have kc := K.commit hpb.h.sa
              by_cases h16 : L < 16
              · have hcm : s.commits = L + 1 := by unfold Vers.commits; rw [← HL.out, if_pos h16]
                have hc2 : s.commit = ⟨s.now, s.all ++ [s.now]⟩ := by unfold Vers.commit; rw [← HL.out, if_pos h16]
                rw [hcm, hc2, show ((L + 1 : Nat) : Int) = (L : Int) + 1 by omega] at kc
                have hLI : (L : Int) < 16 := by omega
                have hn0 : ¬ ((L : Int) + 1 = 0) := by omega
                clear hcm hc2
                go_wp2_with (first
                  | (go_at_call 11; refine kc.mono ?_; rintro e w5 ⟨B5, R5, rfl, hs5, hd5⟩; have ho5 := ((hpb.h.did K hd5 hs5).ov).alloc (.cells #[.slice An ln.length cn] 25))
                  | (at_builtin; refine wpList_appV _ rfl _ _ 26 rfl Tryd.underlying26 info_listQ rfl rfl ho5 (news := [rv (An, ln, cn)]) rfl rfl (rd_row (cs := [_]) (alloc_at rfl)) (by intro u hu; rw [List.mem_singleton.1 hu]; rfl) (by rw [hll]; simp; omega) (by rw [hll]; simp [maxLen]; omega) ?_))
                intro v6 w6 ho6 hg6
                have hgA := grown_alloc (grown_refl w5 none) (.cells #[.slice An ln.length cn] 25)
                have hfin : SwR SA w g g2 w3.heap.size wb.heap.size Bc Rc s (.slice An ln.length cn) v6 w6 := by
                  refine ⟨B5, R5, _, rs ++ [(An, ln, cn)], (An, ln, cn), hpb.commitApp K hd5 hs5 hgA hg6 ho6, hoff.app hd5 hgA hg6 hsz, ?_, ?_⟩
                  · refine K.keep (K.keep (hcopy _ hd5.grew) (.ofNone hgA fun _ => False) (fun _ e => e.elim)) (.ofRow hg6.1) (fun k e hr => ?_)
                    rcases hRc k hr with h | h
                    · exact (hp3.h.ap k e).1 h
                    · have := hp3.h.ov.lt k e; omega
                  · exact Nat.le_trans hd5.grew.size (Nat.le_trans hgA.size hg6.1.size)
                obtain ⟨A6, c6, e6, -, -, -⟩ := ho6.slice
                rw [List.length_append, hll, List.length_singleton] at e6
                subst e6
                replace hfin := Lib.hid hfin
                clear ho6 hg6 ho5
                go_wp2
                go_meet
                exact hfin.out
              · have hcm : s.commits = 0 := by unfold Vers.commits; rw [← HL.out, if_neg h16]
                have hc2 : s.commit = s := by unfold Vers.commit; rw [← HL.out, if_neg h16]
                rw [hcm, hc2] at kc
                have hLI : ¬ (L : Int) < 16 := by omega
                go_wp2_with (go_at_call 11; refine kc.mono ?_; rintro e w5 ⟨B5, R5, rfl, hs5, hd5⟩)
                go_meet
                exact ⟨B5, R5, s, rs, (An, ln, cn), hpb.did K hd5 hs5 rfl rfl, hoff.did hd5 hsz, hcopy _ hd5.grew, hd5.grew.size⟩
        case rest =>
          obtain ⟨B5, R5, s5, rs5, rn5, hp5, hoff5, hsc5, hsz5⟩ := hcut
          have hBZ : ∀ y, Bc y → w3.heap.size ≤ y ∧ y < wb.heap.size := fun y h => ⟨hBc y h, (K.sub hsc).2 y ((K.sub hsc).1 y h)⟩
          have ks := K.set ([99, 111, 112, 121], []) hsc5
          have kcm := fun W B R s (h : SA W g2 B R s) => K.commit h
          have hw3z : w.heap.size ≤ w3.heap.size := hp3.h.ro.grew.size
          clear hp3 hpb hoff hsc hcopy hbx hbxb hb7 hb7b hcxb hBR hRc hrises hlen kcp hg3 hgT hcx
          go_upto_region 29 with (first
            | (go_at_call 14; refine ks.mono ?_; rintro e w6 ⟨B6, R6, rfl, hs6, hd6⟩)
            | (go_at_call 11; refine (kcm _ _ _ _ hs6).mono ?_; rintro e w7 ⟨B7, R7, rfl, hs7, hd7⟩))
          have hp7 := hp5.aside K hoff5 ((hd6.grew.trans hd7.grew hd6.b).mono hBZ) (fun y h => Nat.le_trans hw3z h.1)
          clear hp5 hoff5 hsc5 hs6 hs7 hd6 hd7 ks hBZ hBc kcm
          obtain ⟨A5, c5, ea, hc5, -, hra5⟩ := hp7.h.ov.slice
          have hll5 : (rs5.map rv).length = s5.all.length := by rw [List.length_map, ← hp7.hrs, List.length_map]
          have hrl5 : rs5.length = s5.all.length := by rw [← hp7.hrs, List.length_map]
          rw [hll5] at ea hc5
          obtain ⟨An5, ln5, cn5⟩ := rn5
          have en := hp7.hnv
          unfold rv at en
          dsimp only at en
          subst ea
          subst en
          have hN16 : s5.all.length ≤ 16 := (K.right hp7.h.sa).2.1
          have hnow5 : ln5 = s5.now := hp7.hrn
          have hlen5 : s5.now.length ≤ 12 := hp7.ours.len ((right_iff _).1 (K.right hp7.h.sa).1).2.2
          have hkU := keptU_all s5 hN16
          obtain ⟨N, hN⟩ : ∃ N, N = s5.all.length := ⟨_, rfl⟩
          have keep7 := fun W (hg : w7.grownBy W none) => (hp7.kept K hg)
          have khe := fun W (hg : w7.grownBy W none) => K.height (keep7 W hg).h.sa
          have kno := fun W (hg : w7.grownBy W none) => K.now_ (keep7 W hg).h.sa
          have kkp := fun W (hg : w7.grownBy W none) => K.kept (keep7 W hg).h.sa
          rw [← hN] at khe hkU hN16
          obtain ⟨nl, hnl⟩ : ∃ nl, nl = ln5.length := ⟨_, rfl⟩
          have HNL := Lib.hid hnl
          have HN5 := Lib.hid hN
          have HNOW := Lib.hid hnow5
          have hok7 := hp7.ok
          have hsame := fun A c W (hg : w7.grownBy W none) (hr : RdQ W A s5.now) => SameQ_n A An5 s5.now ln5 nl nl c cn5 W hr (RdAt.kept hok7.1 hg) (by omega) (by rw [HNOW.out]; omega) (by rw [HNL.out, HNOW.out]) HNL.out HNOW.out.symm
          rw [← hN, ← hnl]
          clear hN hnl hnow5
          go_upto_block 3 with (first
            | (go_at_call 16; refine (khe _ (grown_refl _ _)).mono ?_; rintro e w8 ⟨rfl, hg8⟩)
            | (go_at_call 18; refine (kno _ hg8).mono ?_; rintro e w9 ⟨v9, rfl, hp9, -, hg9⟩; obtain ⟨A9, c9, e9, -, hr9, -⟩ := hp9.form; rw [show s5.now.length = nl from (by rw [HNL.out, HNOW.out])] at e9; subst e9)
            | (go_at_call 17; refine (hsame _ _ _ (grown_none hg8 hg9) hr9).mono ?_; rintro e w10 ⟨rfl, hg10⟩))
          have hg7 := grown_none (grown_none hg8 hg9) hg10
          clear khe kno hsame hr9
          go_cut [10, 11] (fun kv _ wx => OwnV 3 wx kv ((keptU N (N + 2)).map iv) ∧ w7.grownBy wx none)
          case first =>
            go_wp2
            go_loopw [10, 11] (fun kv i wr => ∃ h : Nat, h ≤ N + 2 ∧ i = .int .i64 (h : Int) ∧ OwnV 3 wr kv ((keptU N h).map iv) ∧ Grew w10 wr (.slice none 0 0) kv) (fun _ i _ => N + 3 - (intOf i).toNat)
            case atStart => exact ⟨0, Nat.zero_le _, rfl, OwnV.nil _, Grew.refl _ _⟩
            case round =>
              obtain ⟨h, hh, rfl, hov, hgr⟩ := hrel
              have hg7r := grown_none hg7 hgr.nil
              have hpr := keep7 _ hg7r
              by_cases hle : h < N + 2
              · have hleI : (h : Int) ≤ (N : Int) + 1 := by omega
                have ka := fun W (hg : wr.grownBy W none) => K.at_ (h : Int) (keep7 W (grown_none hg7r hg)).h.sa (by omega)
                have kr := fun W (hg : wr.grownBy W none) => K.root (h : Int) (keep7 W (grown_none hg7r hg)).h.sa (hkl.kept (keep7 W (grown_none hg7r hg)).h.ro.grew) (by omega)
                by_cases hin : 1 ≤ h ∧ h ≤ N ∧ N < h + 6
                · obtain ⟨hin1, hin2, hin3⟩ := hin
                  have hnx := Lib.hid (keptU_in (n := N) ⟨hin1, hin2, hin3⟩)
                  obtain ⟨i, hi⟩ : ∃ i, i = h - 1 := ⟨_, rfl⟩
                  have hiN : i < rs5.length := by have := HN5.out; omega
                  have q1 : (1 : Int) ≤ (h : Int) := by omega
                  have q2 : (h : Int) ≤ (N : Int) := by omega
                  have q3 : (N : Int) - 6 < (h : Int) := by omega
                  have q4 : (i : Int) < (N : Int) := by omega
                  have e6 : IntKind.i64.wrap ((N : Int) - 6) = (N : Int) - 6 := IntWalk.i64_in _ ⟨by omega, by omega⟩
                  have e7 : IntKind.i64.wrap ((h : Int) - 1) = (i : Int) := by rw [show (h : Int) - 1 = (i : Int) by omega]; exact IntWalk.i64_in _ ⟨by omega, by omega⟩
                  have hat := at_row (s := s5) hp7.hrs hiN (by have := HN5.out; omega)
                  rw [show (i : Int) + 1 = (h : Int) by omega] at hat
                  obtain ⟨ad5, rfl, hcl0⟩ := RdAt.get (hra5.kept hg7r) (k := i) (by rw [List.length_map]; exact hiN)
                  rw [List.getElem_map] at hcl0
                  have hokr := hpr.h.ok rs5[i] (List.getElem_mem _)
                  have hri : rightL rs5[i].2.1 = true := (K.right hpr.h.sa).2.2 _ (by rw [← hp7.hrs]; exact List.mem_map.2 ⟨rs5[i], List.getElem_mem _, rfl⟩)
                  generalize rs5[i] = r at *
                  obtain ⟨Ar, lr, cr⟩ := r
                  unfold rv at hcl0
                  dsimp only at hcl0 hat hri
                  obtain ⟨hr0, hrc, -⟩ := hokr
                  dsimp only at hr0 hrc
                  obtain ⟨hlr, hmr, -⟩ := (right_iff lr).1 hri
                  have hlr2 : ∀ p ∈ lr, p.1.length ≤ 100 ∧ p.2.length ≤ 100 := fun p hp => by
                    have := of_decide_eq_true (show decide _ = true from hmr p hp)
                    omega
                  have hidx := fun W => idx_R ad5 N c5 i (by omega) W
                  obtain ⟨nr, hnr⟩ : ∃ nr, nr = lr.length := ⟨_, rfl⟩
                  have HNR := Lib.hid hnr
                  have hro : s5.rootAt (h : Int) = storeRootL lr := by unfold Vers.rootAt; rw [hat]
                  rw [hat] at ka kr
                  rw [hro] at kr
                  obtain ⟨X, hX⟩ : ∃ X, X = storeRootL lr := ⟨_, rfl⟩
                  have hXl : Hid (X.length = 32) := by rw [hX]; exact boundL_len _ _
                  rw [← hX] at kr
                  have hsr0 := fun W (hg : wr.grownBy W none) => RStoreRoot_any Ar cr lr W (RdAt.kept hr0 hg) (by omega) hlr2
                  rw [← hX, ← hnr] at hsr0
                  rw [← hnr] at hcl0
                  clear hX hro hat hnr hmr hlr2 hi hin1 hin2 hin3
                  go_upto_region 38 with (first
                    | (go_at_call 19; refine (ka _ (grown_refl _ _)).mono ?_; rintro e w12 ⟨v12, rfl, hp12, -, hg12⟩; obtain ⟨A12, c12, e12, -, hr12, -⟩ := hp12.form; rw [show ((some lr).getD []).length = nr from HNR.out.symm] at e12; subst e12; replace hr12 : RdQ w12 A12 lr := hr12)
                    | (go_at_call 20; refine (kr _ hg12).mono ?_; rintro e w13 ⟨rfl, hg13⟩)
                    | (refine wpList_store_row rfl 40 _ _ rfl w13.heap.size (X.map bv).toArray rfl rfl 40 _ (alloc_at rfl) (hashV_size X hXl.out) (by rw [show (X.map bv).toArray.size = 32 from by rw [List.size_toArray, List.length_map, hXl.out]]; rfl) (bv_all' _) ?_; generalize hV : World.setRow _ w13.heap.size _ = V; have HV := new_hash hV; clear hV))
                  have hgV := grown_none (grown_none hg12 hg13) HV.2
                  have hsm := fun W (hg : V.grownBy W none) => SameQ_n A12 Ar lr lr nr nr c12 cr W (RdAt.kept hr12 (grown_none (grown_none hg13 HV.2) hg)) (RdAt.kept hr0 (grown_none hgV hg)) (by omega) (by omega) HNR.out HNR.out rfl
                  have hsr := fun W (hg : V.grownBy W none) => hsr0 W (grown_none hgV hg)
                  have FC : ∀ W, V.grownBy W none → W.cell? (ad5.add i) = some (.slice Ar nr cr) := fun W hg => (grown_none hgV hg).cell hcl0 (by simp)
                  have hbr := Lib.hid HV.1
                  have hVs := hashV_size X hXl.out
                  have hneq := neqIn_hash X hXl.out
                  generalize (X.map bv).toArray = VX at *
                  replace hVs := Lib.hid hVs
                  clear HV ka kr hXl hsr0 hcl0
                  as_aux_lemma =>
                    refine wp_region_grow (by kernel_rfl) (by kernel_rfl) ?_
                    iterate 20
                      with_reducible refine wpQuiet_step (fun K hK => ?_)
                      go_simp
                      first
                        | (refine hK _ ?_; clear hK K)
                        | (refine ⟨_, fun _ _ => rfl, hK _ ?_⟩; clear hK K)
                        | (apply Exists.intro
                           refine ⟨fun wq hq => ?_, hK _ ?_⟩
                           (first
                             | (go_at_call 17; exact (hsm wq hq).mono fun _ _ h => ⟨h.1, grown_none hq h.2⟩)
                             | (have c1 := FC wq hq; go_simp; first | done | exact rfl | exact ⟨rfl, rfl⟩))
                           clear hK K)
                    with_reducible refine wpQuiet_step (fun K hK => ?_)
                    rw [if_pos (by rfl)]
                    refine quiet_load_row 40 _ rfl w13.heap.size rfl 40 VX (0, 0) _ (fun wq hq => keep_of hbr.out hq) Tryd.underlying40 rfl hVs.out (hK _ ?_)
                    clear hK K
                    iterate 6
                      with_reducible refine wpQuiet_step (fun K hK => ?_)
                      go_simp
                      first
                        | (refine hK _ ?_; clear hK K)
                        | (refine ⟨_, fun _ _ => rfl, hK _ ?_⟩; clear hK K)
                        | (apply Exists.intro
                           refine ⟨fun wq hq => ?_, hK _ ?_⟩
                           (first
                             | (go_at_call 21; exact (hsr wq hq).mono fun _ _ h => ⟨h.1, grown_none hq h.2⟩)
                             | (have c1 := FC wq hq; go_simp; first | done | exact rfl | exact ⟨rfl, rfl⟩))
                           clear hK K)
                    with_reducible refine wpQuiet_step (fun K hK => ?_)
                    rw [if_pos (by rfl)]
                    refine quiet_bin rfl rfl rfl (fun _ => guard_neH _ _ _ _ _) hneq (hK _ ?_)
                    clear hK K
                    iterate 17
                      with_reducible refine wpQuiet_step (fun K hK => ?_)
                      go_simp
                      first
                        | (refine hK _ ?_; clear hK K)
                        | (refine ⟨_, fun _ _ => rfl, hK _ ?_⟩; clear hK K)
                    with_reducible refine wpQuiet_nil ?_
                    intro wq hq
                    have hgq := grown_none hgV hq
                    go_wp2_with (at_builtin; refine wpList_appV _ rfl _ _ 22 rfl Tryd.underlying22 info_intK rfl rfl ((hov.kept hgq).alloc _) (news := [iv (h : Int)]) rfl rfl (rd_row (cs := [_]) (alloc_at rfl)) (by intro u hu; rw [List.mem_singleton.1 hu]; rfl) (by rw [List.length_map]; have := keptU_len N h; simp; omega) (by rw [List.length_map]; have := keptU_len N h; simp [maxLen]; omega) ?_)
                    intro v14 w14 ho14 hg14
                    go_wp2
                    go_roundw
                    case rel => exact ⟨h + 1, by omega, by go_num, by rw [hnx.out, List.map_append]; exact ho14, (hgr.post (grown_alloc hgq _)).trans hg14⟩
                    case measure => simp [intOf]; omega
                · have hnx := Lib.hid (keptU_out (n := N) hin)
                  have hat : s5.at? (h : Int) = none := Vers.at_no (by have := HN5.out; omega)
                  have hro : s5.rootAt (h : Int) = zeroH := by unfold Vers.rootAt; rw [hat]; rfl
                  have e6 : IntKind.i64.wrap ((N : Int) - 6) = (N : Int) - 6 := IntWalk.i64_in _ ⟨by omega, by omega⟩
                  rw [hat] at ka kr
                  rw [hro] at kr
                  obtain ⟨X, hX⟩ : ∃ X, X = zeroH := ⟨_, rfl⟩
                  have hXl : Hid (X.length = 32) := by rw [hX]; exact zeroH_len
                  have hneq := neqZ
                  rw [← hX] at kr hneq
                  clear hX hro hat
                  go_upto_region 37 with (first
                    | (go_at_call 19; refine (ka _ (grown_refl _ _)).mono ?_; rintro e w12 ⟨v12, rfl, hp12, -, hg12⟩; obtain ⟨A12, c12, e12, -, -, -⟩ := hp12.form; rw [show ((none : Option (List Kv)).getD []).length = 0 from rfl] at e12; subst e12)
                    | (go_at_call 20; refine (kr _ hg12).mono ?_; rintro e w13 ⟨rfl, hg13⟩)
                    | (refine wpList_store_row rfl 40 _ _ rfl w13.heap.size (X.map bv).toArray rfl rfl 40 _ (alloc_at rfl) (hashV_size X hXl.out) (by rw [show (X.map bv).toArray.size = 32 from by rw [List.size_toArray, List.length_map, hXl.out]]; rfl) (bv_all' _) ?_; generalize hV : World.setRow _ w13.heap.size _ = V; have HV := new_hash hV; clear hV))
                  have hgV := grown_none (grown_none hg12 hg13) HV.2
                  have hbr := Lib.hid HV.1
                  have hVs := hashV_size X hXl.out
                  generalize (X.map bv).toArray = VX at *
                  replace hVs := Lib.hid hVs
                  clear HV ka kr hXl
                  go_cut [16] (fun t wx => t = .bool false ∧ wx = V)
                  case first =>
                    by_cases p1 : 1 ≤ h
                    · by_cases p2 : h ≤ N
                      · have q1 : (1 : Int) ≤ (h : Int) := by omega
                        have q2 : (h : Int) ≤ (N : Int) := by omega
                        have q3 : decide ((N : Int) - 6 < (h : Int)) = false := decide_eq_false (by omega)
                        go_wp2
                        go_meet
                        exact ⟨rfl, rfl⟩
                      · have q1 : (1 : Int) ≤ (h : Int) := by omega
                        have q2 : decide ((h : Int) ≤ (N : Int)) = false := decide_eq_false (by omega)
                        go_wp2
                        go_meet
                        exact ⟨rfl, rfl⟩
                    · have q1 : decide ((1 : Int) ≤ (h : Int)) = false := decide_eq_false (by omega)
                      go_wp2
                      go_meet
                      exact ⟨rfl, rfl⟩
                  case rest =>
                    obtain ⟨e16, eV⟩ := hcut
                    subst e16
                    subst eV
                    go_upto_region 38 with (fail)
                    as_aux_lemma =>
                      refine wp_region_grow (by kernel_rfl) (by kernel_rfl) ?_
                      iterate 39
                        with_reducible refine wpQuiet_step (fun K hK => ?_)
                        go_simp
                        first
                          | (refine hK _ ?_; clear hK K)
                          | (refine ⟨_, fun _ _ => rfl, hK _ ?_⟩; clear hK K)
                      with_reducible refine wpQuiet_step (fun K hK => ?_)
                      rw [if_pos (by rfl)]
                      refine quiet_load_row 40 _ rfl w13.heap.size rfl 40 VX (0, 0) _ (fun wq hq => keep_of hbr.out hq) Tryd.underlying40 rfl hVs.out (hK _ ?_)
                      clear hK K
                      iterate 1
                        with_reducible refine wpQuiet_step (fun K hK => ?_)
                        go_simp
                        first
                          | (refine hK _ ?_; clear hK K)
                          | (refine ⟨_, fun _ _ => rfl, hK _ ?_⟩; clear hK K)
                      with_reducible refine wpQuiet_step (fun K hK => ?_)
                      rw [if_pos (by rfl)]
                      refine quiet_bin rfl rfl rfl (fun _ => guard_neH _ _ _ _ _) hneq (hK _ ?_)
                      clear hK K
                      iterate 3
                        with_reducible refine wpQuiet_step (fun K hK => ?_)
                        go_simp
                        first
                          | (refine hK _ ?_; clear hK K)
                          | (refine ⟨_, fun _ _ => rfl, hK _ ?_⟩; clear hK K)
                      with_reducible refine wpQuiet_nil ?_
                      intro wq hq
                      go_wp2
                      go_roundw
                      case rel => exact ⟨h + 1, by omega, by go_num, by rw [hnx.out]; exact hov.kept (grown_none hgV hq), hgr.post (grown_none hgV hq)⟩
                      case measure => simp [intOf]; omega
              · have hleI : decide ((h : Int) ≤ (N : Int) + 1) = false := decide_eq_false (by omega)
                obtain rfl : h = N + 2 := by omega
                go_wp2
                go_meet
                exact ⟨hov, hg7r⟩
          case rest =>
            obtain ⟨hov, hg7c⟩ := hcut
            rw [hkU] at hov
            obtain ⟨A14, c14, e14, hc14, -, hr14⟩ := hov.slice
            rw [List.length_map] at e14
            subst e14
            have kk := kkp _ hg7c
            have hkm : s5.kept.length ≤ maxLen := by rw [kept_len]; unfold maxLen; omega
            have hsi := fun A c W (hg : wc.grownBy W none) (hr : RdAt W A (s5.kept.map iv)) => sameI_trueN A A14 s5.kept c c14 W hr (hr14.kept hg) hkm
            generalize s5.kept = KL at *
            go_wp2_with (first
              | (go_at_call 23; refine kk.mono ?_; rintro e w15 ⟨A15, c15, rfl, -, hr15, hg15⟩)
              | (go_at_call 22; refine (hsi _ _ _ hg15 hr15).mono ?_; rintro e w16 ⟨rfl, hg16⟩))
            go_roundw
            case rel => exact ⟨j + 1, B5, R5, s5, rs5, (An5, ln5, cn5), by omega, by go_num, by rw [HNL.out, HN5.out]; exact keep7 _ (grown_none (grown_none hg7c hg15) hg16)⟩
            case measure => simp [intOf]; omega
    · by_cases hlt : j < ns.length
      · have q1 : (j : Int) < (ns.length : Int) := by omega
        have q2 : ¬ (j : Int) < 60 := by omega
        go_wp2_with (go_at_call 24; refine (hru _).mono ?_; rintro e w4 ⟨rfl, hg4⟩)
        go_ret
        exact ⟨rfl, grown_none hp.h.ro.grew hg4⟩
      · have q1 : ¬ (j : Int) < (ns.length : Int) := by omega
        go_wp2_with (go_at_call 24; refine (hru _).mono ?_; rintro e w4 ⟨rfl, hg4⟩)
        go_ret
        exact ⟨rfl, grown_none hp.h.ro.grew hg4⟩

end Go.Proofs.YtjdfnohlgeoniaaDoor
