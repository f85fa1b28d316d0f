/- Laws of package store: StoreRoots. -/
import Derived.Test.YtjdfnohlgeoniaaDoorStF
import Derived.Test.YtjdfnohlgeoniaaDoorKP
namespace Go.Proofs.YtjdfnohlgeoniaaDoor
open Go.RowKit
def srtS (t : Nat) : Bool := t == 42 || t == 43 || t == 44 || t == 45 || t == 46 || t == 47 || t == 48 || t == 49 || t == 50 || t == 51 || t == 52 || t == 53 || t == 54 || t == 55 || t == 56 || t == 57
def srtDie (k : Nat) : Nat := if k = 0 then 6 else if k = 6 then 10 else if k = 10 then 15 else 99
def srtOwn (k : Nat) : Bool := k == 0 || k == 5 || k == 6 || k == 10 || k == 15
def srtAl (k : Nat) : Bool := k == 1 || k == 7 || k == 9 || k == 11 || k == 14
def srtF (A B : Option Addr) (ad : Addr) (n c q n2 c2 : Nat) (tk dr : List Kv) (p : Kv) : Nat → Value → World → Prop
  | 0 => fun v w => OwnQ w v []
  | 1 => fun v _ => v = .slice A n c
  | 2 => fun v _ => v = .int .i64 (q : Nat)
  | 3 => fun v _ => v = .pointer (some (ad.add (q * 2)))
  | 4 => fun v _ => v = (.agg #[.string ⟨(p).1.toArray⟩, .string ⟨(p).2.toArray⟩])
  | 5 => QOne p
  | 6 => fun v w => OwnQ w v (([]) ++ ([p]))
  | 7 => fun v _ => v = .slice A n c
  | 8 => fun v _ => v = .int .i64 (q : Nat)
  | 9 => fun v _ => v = .slice A q c
  | 10 => fun v w => OwnQ w v ((([]) ++ ([p])) ++ (tk))
  | 11 => fun v _ => v = .slice A n c
  | 12 => fun v _ => v = .int .i64 (q : Nat)
  | 13 => fun v _ => v = .int .i64 ((q : Int) + 1)
  | 14 => fun v _ => v = .slice B n2 c2
  | 15 => fun v w => OwnQ w v (((([]) ++ ([p])) ++ (tk)) ++ (dr))
  | _ => fun _ _ => True
theorem srtF_lasts (A B : Option Addr) (ad : Addr) (n c q n2 c2 : Nat) (tk dr : List Kv) (p : Kv) : ∀ kq, LastsB srtAl kq (srtF A B ad n c q n2 c2 tk dr p kq)
  | 0 => LastsB.ownQ rfl _
  | 1 => LastsB.val _
  | 2 => LastsB.val _
  | 3 => LastsB.val _
  | 4 => LastsB.val _
  | 5 => LastsB.qone rfl _
  | 6 => LastsB.ownQ rfl _
  | 7 => LastsB.val _
  | 8 => LastsB.val _
  | 9 => LastsB.val _
  | 10 => LastsB.ownQ rfl _
  | 11 => LastsB.val _
  | 12 => LastsB.val _
  | 13 => LastsB.val _
  | 14 => LastsB.val _
  | 15 => LastsB.ownQ rfl _
  | _ + 16 => fun _ _ _ _ _ _ _ => trivial


theorem Vers.yes {s : Vers} {p : Kv} (h : okL s.now p = true) : s.set p = ⟨setL s.now p, s.all⟩ := by unfold Vers.set; rw [if_pos h]
theorem nodup_rises {xs : List Kv} (h : Rises xs) : xs.Nodup := List.Pairwise.imp (fun {a b} hab e => by rw [e, kl_irr] at hab; cases hab) h
theorem nodup_apart {xs : List Kv} (h : Apart xs) : xs.Nodup := List.Pairwise.imp (fun {a b} hab e => hab (by rw [e])) h
theorem len_take {xs tl : List Kv} {j : Nat} (h : Rises xs) (ha : Apart tl) (hx : ∀ q, q ∈ xs ↔ q ∈ tl.take j) : xs.length ≤ tl.length := by
  have h1 := ((List.perm_ext_iff_of_nodup (nodup_rises h) ((List.take_sublist j tl).nodup (nodup_apart ha))).2 hx).length_eq
  rw [h1, List.length_take]; omega
theorem mem_del {ps : List Kv} (h : Rises ps) {k : List UInt8} {q : Kv} : q ∈ delL ps k ↔ q ∈ ps ∧ q.1 ≠ k := by
  rw [← notL_del h]
  unfold notL
  rw [List.mem_filter]
  simp
theorem set_four {xs tl : List Kv} {j : Nat} (hj : j < tl.length) (ha : Apart tl) (h1 : Rises xs) (hx : ∀ q, q ∈ xs ↔ q ∈ tl.take j) {t o : List UInt8} (hn : ∀ q ∈ xs, q.1 ≠ t) (hp : tl[j].1 ≠ t) :
    ∀ q, q ∈ delL (setL (setL (setL xs (t, [])) (tl[j].1, o)) tl[j]) t ↔ q ∈ tl.take (j + 1) := by
  intro q
  rw [mem_del (rise_set (rise_set (rise_set h1 _) _) _), mem_set, mem_set, mem_set, List.take_succ_eq_append_getElem hj, List.mem_append, List.mem_singleton, ← hx]
  have hq : ∀ q ∈ xs, q.1 ≠ tl[j].1 := fun q hq => by
    obtain ⟨i, hi, e⟩ := List.mem_iff_getElem.1 ((hx q).1 hq)
    rw [List.length_take] at hi
    rw [List.getElem_take] at e
    rw [← e]
    exact List.pairwise_iff_getElem.1 ha i j (by omega) hj (by omega)
  constructor
  · rintro ⟨h | ⟨h | ⟨h | h, -⟩, h'⟩, h2⟩
    · exact .inr h
    · exact absurd (by rw [h]) h'
    · exact absurd (by rw [h]) h2
    · exact .inl h.1
  · rintro (h | h)
    · exact ⟨.inr ⟨.inr ⟨.inr ⟨h, hn q h⟩, hq q h⟩, hq q h⟩, hn q h⟩
    · subst h; exact ⟨.inl rfl, hp⟩
theorem Did.rd {w w' : World} {B R B' R' : Nat → Prop} {A : Option Addr} {xs : List Value} (h : Did w w' B R B' R') (hr : RdAt w A xs) (hb : ∀ ad, A = some ad → ¬ B ad.block ∧ ad.block < w.heap.size) :
    RdAt w' A xs ∧ ∀ ad, A = some ad → ¬ B' ad.block ∧ ad.block < w'.heap.size :=
  ⟨h.grew.keep hr (fun ad e => (hb ad e).2) (fun ad e => (hb ad e).1), fun ad e => ⟨fun hx => (h.b _ hx).elim (hb ad e).1 (fun hl => absurd (hb ad e).2 (Nat.not_lt.2 hl)), Nat.lt_of_lt_of_le (hb ad e).2 h.grew.size⟩⟩
theorem Did.at {w w' : World} {B R B' R' : Nat → Prop} {g : Nat} {p : Kv} (h : Did w w' B R B' R') (hr : AtQ w ⟨g, 0, none⟩ p) (hb : ¬ B g ∧ g < w.heap.size) :
    AtQ w' ⟨g, 0, none⟩ p ∧ ¬ B' g ∧ g < w'.heap.size :=
  ⟨⟨(h.grew.cell (a := ⟨g, 0, none⟩) hb.2 hb.1).trans hr.1, (h.grew.cell (a := ⟨g, 0 + 1, none⟩) hb.2 hb.1).trans hr.2⟩, fun hx => (h.b _ hx).elim hb.1 (fun hl => absurd hb.2 (Nat.not_lt.2 hl)), Nat.lt_of_lt_of_le hb.2 h.grew.size⟩
theorem mem_ownb {A : Option Addr} {n c gk : Nat} (e : (Value.slice A n c).ownBlock = some gk) : gk ∈ bl srtAl 15 (.slice A n c) := by
  cases A with
  | none => cases e
  | some ad => cases e; exact List.mem_singleton.2 rfl

def sreS (t : Nat) : Bool := t == 86 || t == 87 || t == 88 || t == 89 || t == 90 || t == 91 || t == 92 || t == 93 || t == 94 || t == 95 || t == 96 || t == 97 || t == 98 || t == 99 || t == 100 || t == 101 || t == 102 || t == 103 || t == 104 || t == 105 || t == 106 || t == 107
def sreDie (_ : Nat) : Nat := 99
def sreOwn (_ : Nat) : Bool := false
def sreAl (k : Nat) : Bool := k == 3 || k == 9 || k == 15 || k == 16
def sreF (X : List UInt8) (xs : List Kv) (N cl g : Nat) (Al : Option Addr) : Nat → Value → World → Prop
  | 0 => fun v _ => v = .bool true
  | 1 => fun v _ => v = .bool true
  | 2 => fun v _ => v = (.agg (X.map bv).toArray)
  | 3 => fun v _ => v = .slice Al N cl
  | 4 => fun v _ => v = .agg (X.map bv).toArray
  | 5 => fun v _ => v = .bool true
  | 6 => fun v _ => v = .bool true
  | 7 => fun v _ => v = .bool true
  | 8 => fun v _ => v = (.agg (X.map bv).toArray)
  | 9 => fun v _ => v = .slice Al N cl
  | 10 => fun v _ => v = .agg (X.map bv).toArray
  | 11 => fun v _ => v = .bool true
  | 12 => fun v _ => v = .bool true
  | 13 => fun v _ => v = .bool true
  | 14 => fun v _ => v = .pointer (some ⟨g, 0, none⟩)
  | 15 => fun v w => ∃ (A : Option Addr) (c : Nat), v = .slice A N c ∧ RdQ w A xs
  | 16 => fun v _ => v = .slice Al N cl
  | 17 => fun v _ => v = .bool true
  | 18 => fun v _ => v = .bool true
  | 19 => fun v _ => v = .bool true
  | 20 => fun v _ => v = .bool true
  | 21 => fun v _ => v = .bool true
  | _ => fun _ _ => True
theorem sreF_lasts (X : List UInt8) (xs : List Kv) (N cl g : Nat) (Al : Option Addr) : ∀ kq, LastsK sreAl true kq (sreF X xs N cl g Al kq)
  | 0 => LastsK.val _
  | 1 => LastsK.val _
  | 2 => LastsK.val _
  | 3 => LastsK.val _
  | 4 => LastsK.val _
  | 5 => LastsK.val _
  | 6 => LastsK.val _
  | 7 => LastsK.val _
  | 8 => LastsK.val _
  | 9 => LastsK.val _
  | 10 => LastsK.val _
  | 11 => LastsK.val _
  | 12 => LastsK.val _
  | 13 => LastsK.val _
  | 14 => LastsK.val _
  | 15 => LastsK.calm fun _ _ _ ⟨A, c, h1, h2⟩ hg => ⟨A, c, h1, RdAt.kept h2 hg⟩
  | 16 => LastsK.val _
  | 17 => LastsK.val _
  | 18 => LastsK.val _
  | 19 => LastsK.val _
  | 20 => LastsK.val _
  | 21 => LastsK.val _
  | _ + 22 => fun _ _ _ _ _ _ _ _ => trivial

set_option maxRecDepth 100000 in
set_option maxHeartbeats 2000000 in
theorem StoreRoots_any (SA : World → Nat → (Nat → Prop) → (Nat → Prop) → Vers → Prop) (K' : StoreK SA) (A1 A2 : Option Addr) (c1 c2 : Nat) (ns order : List Int) (w : World) (hkl : Laid2 w) (hr1 : RdI w A1 ns) (hr2 : RdI w A2 order) (hm2 : order.length ≤ maxLen) :
    Calls Tryd.prog 4 #[.slice A1 ns.length c1, .slice A2 order.length c2] w fun e w' => e = .returned (.bool true) ∧ w.grownBy w' none := by
  have hPs := Pairs_any A1 c1 ns w hr1
  have kn := K'.new
  unfold maxLen at hm2
  go_enter Tryd.func4, Tryd.ntmps4
  go_upto_region 5 with (first
    | (go_at_call 25; refine hPs.mono ?_; rintro e w0 ⟨vl, ps, rfl, hK, hpl, hg0⟩)
    | (go_at_call 7; refine (kn _).mono ?_; rintro e w1 ⟨g, B1, R1, rfl, hs1, hR1, hg01⟩; unfold sptr))
  have hg1 := grown_none hg0 hg01
  have hlt1 := (K'.sub hs1).2
  obtain ⟨Al, cl, rfl, hcl, hrl0, -⟩ := hpl.form
  have hrl := RdAt.kept hrl0 hg01
  have hlen := hK.len
  have hE := emptyQ w1
  have hrlE := RdAt.alloc hrl (.cells #[] 29)
  go_upto_block 0 with (at_builtin; refine wpList_appQ rfl _ _ rfl rfl hE rfl rfl hrlE (by simp; omega) ?_; intro vt w2 hot hgt)
  have hg2 : w1.grownBy w2 none := (Grew.fresh hgt).nil
  have hgw2 := grown_none hg1 hg2
  rw [List.nil_append] at hot
  have hot2 := hot.toPB
  have hfr : ∀ gk, vt.ownBlock = some gk → w1.heap.size ≤ gk := fun gk e => by
    rcases hgt.2 with e2 | ⟨g', e2, h⟩
    · rw [e2] at e
      replace e : (Value.slice (some ⟨w1.heap.size, 0, none⟩) 0 0).ownBlock = some gk := e
      have e' : w1.heap.size = gk := by simpa [Value.ownBlock] using e
      omega
    · rw [e] at e2
      have e' : gk = g' := by simpa using e2
      simp at h
      omega
  go_cut [7, 8] (fun t _ wx => ∃ tl : List Kv, PB wx t tl ∧ tl.Perm ps ∧ w2.grownBy wx none ∧ ∀ gk, t.ownBlock = some gk → w1.heap.size ≤ gk)
  case first =>
    go_wp2
    go_loopw [7, 8] (fun t i wr => ∃ (j : Nat) (tl : List Kv), j ≤ order.length ∧ i = .int .i64 j ∧ PB wr t tl ∧ tl.Perm ps ∧ w2.grownBy wr none ∧ ∀ gk, t.ownBlock = some gk → w1.heap.size ≤ gk) (fun _ i _ => order.length - (intOf i).toNat)
    case atStart => exact ⟨0, ps, Nat.zero_le _, rfl, hot2, List.Perm.refl _, grown_refl _ _, hfr⟩
    case round =>
      obtain ⟨j, tl, hj, rfl, hpt, hperm, hgj, hfrj⟩ := hrel
      obtain ⟨A, c, rfl, hc, hrt0, hA⟩ := hpt.form
      have htl : tl.length ≤ 12 := by rw [hperm.length_eq]; exact hlen
      by_cases hcond : j < order.length ∧ 1 < tl.length
      · obtain ⟨hlt, hlt1⟩ := hcond
        obtain ⟨ado, rfl, hcx⟩ := RdI.get (RdAt.kept hr2 (grown_none hgw2 hgj)) hlt
        generalize order[j] = x at hcx
        obtain ⟨q, hq, hW⟩ := Within_nat x (tl.length - 1) (by omega)
        have hsub : ((tl.length - 1 : Nat) : Int) = (tl.length : Int) - 1 := by omega
        rw [hsub] at hW
        go_upto_region 10 with (go_at_call 26; refine (hW _).mono ?_; rintro e w3 ⟨rfl, rfl⟩)
        obtain ⟨adt, rfl, hat0⟩ := RdQ.at hrt0 (k := q) (by omega)
        have hperm2 : Hid ((((([] : List Kv) ++ [tl[q]]) ++ tl.take q) ++ tl.drop (q + 1)).Perm tl) := move_perm (by omega)
        have htk : (tl.take q).length = q := by rw [List.length_take]; omega
        have hdr : (tl.drop (q + 1)).length = tl.length - (q + 1) := List.length_drop
        have hrt := RdQ.take hrt0 q
        have hrd := RdQ.cut hrt0 (k := q + 1) hc
        have hidx := fun w => idx_Q adt tl.length c q (by omega) w
        have s1 := sl_hiQ (some adt) tl.length c q (by omega)
        have s2 : ∀ w : World, (Instr.sliceAt 25 (.slice (some adt) tl.length c) (some (.int .i64 ((q : Int) + 1))) none none).run Tryd.prog w = .ok (.slice (if c = q + 1 then some adt else (some adt).map (·.add ((q + 1) * 2))) (tl.length - (q + 1)) (c - (q + 1))) w := fun w => sl_loQ (some adt) tl.length c (q + 1) (by omega) w
        have hA0 := blk_lt (n := tl.length) (c := c) hA
        have hA1 := blk_lt (n := q) (c := c) hA
        have hB0 := blk_lt (n := tl.length - (q + 1)) (c := c - (q + 1)) (cut_lt (c := c) (T := q + 1) hA)
        have hat := Lib.hid hat0
        have hn21 : tl.length - (q + 1) ≤ 12 := by omega
        have hq12 : q ≤ 12 := by omega
        clear hat0
        generalize (if c = q + 1 then some adt else (some adt).map (·.add ((q + 1) * 2))) = B at *
        generalize tl.length - (q + 1) = n2 at *
        generalize c - (q + 1) = c2 at *
        generalize tl.take q = tk at *
        generalize tl.drop (q + 1) = dr at *
        generalize tl[q] = p at *
        refine wp_region_gb (al := srtAl) 16 (N := 60) (S := srtS) (die := srtDie) (own := srtOwn) (F := srtF (some adt) B adt tl.length c q n2 c2 tk dr p) (by kernel_rfl) (Nat.le_of_ble_eq_true (by kernel_rfl)) (fun _ => by kernel_rfl) (fun _ => by kernel_rfl) (by kernel_rfl) (by kernel_rfl) (Nat.le_of_ble_eq_true (by kernel_rfl)) (srtF_lasts (some adt) B adt tl.length c q n2 c2 tk dr p) ?_ ?_
        · intro i o L' a w K hi ho hg hLi hout hpre houter hitem h1 h2 h3
          have hcases : i = 0 ∨ i = 1 ∨ i = 2 ∨ i = 3 ∨ i = 4 ∨ i = 5 ∨ i = 6 ∨ i = 7 ∨ i = 8 ∨ i = 9 ∨ i = 10 ∨ i = 11 ∨ i = 12 ∨ i = 13 ∨ i = 14 ∨ i = 15 := by omega
          rcases hcases with rfl | rfl | rfl | rfl | rfl | rfl | rfl | rfl | rfl | rfl | rfl | rfl | rfl | rfl | rfl | rfl
          · cases (show some _ = some o from ho)
            exact ⟨rfl, wp_lit0 rfl (lit_0q _) (h1 ⟨_, rfl⟩ _ _ (grown_alloc (grown_refl _ _) _) (emptyQ _) (new_lt _ _) (FreshB.new (new_ge _)))⟩
          · cases (show some _ = some o from ho)
            exact ⟨rfl, wp_move rfl (h1 ⟨_, rfl⟩ _ _ (grown_refl _ none) (houter _ rfl) (by rw [houter _ rfl]; exact nobl rfl) (by rw [houter _ rfl]; exact FreshB.none rfl))⟩
          · cases (show some _ = some o from ho)
            exact ⟨rfl, wp_move rfl (h1 ⟨_, rfl⟩ _ _ (grown_refl _ none) (houter _ rfl) (by rw [houter _ rfl]; exact nobl rfl) (by rw [houter _ rfl]; exact FreshB.none rfl))⟩
          · cases (show some _ = some o from ho)
            exact ⟨rfl, wp_index rfl (hitem 1 (by decide) ⟨hpre 1 rfl, hout _ (by decide)⟩) (hitem 2 (by decide) ⟨hpre 2 rfl, hout _ (by decide)⟩) (hidx _) (h1 ⟨_, rfl⟩ _ _ (grown_refl _ none) rfl (nobl rfl) (FreshB.none rfl))⟩
          · cases (show some _ = some o from ho)
            exact ⟨rfl, wp_load_kv rfl (hitem 3 (by decide) ⟨hpre 3 rfl, hout _ (by decide)⟩) (hat.out.kept hg) (h1 ⟨_, rfl⟩ _ _ (grown_refl _ none) rfl (nobl rfl) (FreshB.none rfl))⟩
          · cases (show some _ = some o from ho)
            exact ⟨rfl, wp_lit1 rfl (hitem 4 (by decide) ⟨hpre 4 rfl, hout _ (by decide)⟩) (lit_1q _ _ _) (h1 ⟨_, rfl⟩ _ _ (grown_alloc (grown_refl _ _) _) (qone_new _ p) (new_lt _ _) (FreshB.new (new_ge _)))⟩
          · cases (show some _ = some o from ho)
            have hu := hitem 0 (by decide) ⟨hpre 0 rfl, hLi⟩
            obtain ⟨b5, e5, q5⟩ := hitem 5 (by decide) ⟨hpre 5 rfl, hout _ (by decide)⟩
            exact ⟨rfl, wp_appQ rfl rfl hu (e5) (rfl) (q5) (by simp) fun v w' hv hw => h2 ⟨_, rfl⟩ 0 v w' _ (by decide) ⟨hpre 0 rfl, hLi⟩ rfl rfl hw.1 (ownQ_mem hu) hv (ownQ_lt hv) (grewQ_blocks hu hv hw)⟩
          · cases (show some _ = some o from ho)
            exact ⟨rfl, wp_move rfl (h1 ⟨_, rfl⟩ _ _ (grown_refl _ none) (houter _ rfl) (by rw [houter _ rfl]; exact nobl rfl) (by rw [houter _ rfl]; exact FreshB.none rfl))⟩
          · cases (show some _ = some o from ho)
            exact ⟨rfl, wp_move rfl (h1 ⟨_, rfl⟩ _ _ (grown_refl _ none) (houter _ rfl) (by rw [houter _ rfl]; exact nobl rfl) (by rw [houter _ rfl]; exact FreshB.none rfl))⟩
          · cases (show some _ = some o from ho)
            exact ⟨rfl, wp_slice_hi rfl (hitem 7 (by decide) ⟨hpre 7 rfl, hout _ (by decide)⟩) (hitem 8 (by decide) ⟨hpre 8 rfl, hout _ (by decide)⟩) (s1 _) (h1 ⟨_, rfl⟩ _ _ (grown_refl _ none) rfl (nobl rfl) (FreshB.none rfl))⟩
          · cases (show some _ = some o from ho)
            have hu := hitem 6 (by decide) ⟨hpre 6 rfl, hLi⟩
            exact ⟨rfl, wp_appQ rfl rfl hu (hitem 9 (by decide) ⟨hpre 9 rfl, hout _ (by decide)⟩) (htk.symm) (RdAt.kept hrt hg) (by simp; omega) fun v w' hv hw => h2 ⟨_, rfl⟩ 6 v w' _ (by decide) ⟨hpre 6 rfl, hLi⟩ rfl rfl hw.1 (ownQ_mem hu) hv (ownQ_lt hv) (grewQ_blocks hu hv hw)⟩
          · cases (show some _ = some o from ho)
            exact ⟨rfl, wp_move rfl (h1 ⟨_, rfl⟩ _ _ (grown_refl _ none) (houter _ rfl) (by rw [houter _ rfl]; exact nobl rfl) (by rw [houter _ rfl]; exact FreshB.none rfl))⟩
          · cases (show some _ = some o from ho)
            exact ⟨rfl, wp_move rfl (h1 ⟨_, rfl⟩ _ _ (grown_refl _ none) (houter _ rfl) (by rw [houter _ rfl]; exact nobl rfl) (by rw [houter _ rfl]; exact FreshB.none rfl))⟩
          · cases (show some _ = some o from ho)
            exact ⟨rfl, wp_bin rfl (hitem 12 (by decide) ⟨hpre 12 rfl, hout _ (by decide)⟩) rfl (guard_add _ _ _ _ _) (add_i64 _ _ _ (by omega)) (h1 ⟨_, rfl⟩ _ _ (grown_refl _ none) rfl (nobl rfl) (FreshB.none rfl))⟩
          · cases (show some _ = some o from ho)
            exact ⟨rfl, wp_slice_lo rfl (hitem 11 (by decide) ⟨hpre 11 rfl, hout _ (by decide)⟩) (hitem 13 (by decide) ⟨hpre 13 rfl, hout _ (by decide)⟩) (s2 _) (h1 ⟨_, rfl⟩ _ _ (grown_refl _ none) rfl (nobl rfl) (FreshB.none rfl))⟩
          · cases (show some _ = some o from ho)
            have hu := hitem 10 (by decide) ⟨hpre 10 rfl, hLi⟩
            exact ⟨rfl, wp_appQ rfl rfl hu (hitem 14 (by decide) ⟨hpre 14 rfl, hout _ (by decide)⟩) (hdr.symm) (RdAt.kept hrd hg) (by simp; omega) fun v w' hv hw => h2 ⟨_, rfl⟩ 10 v w' _ (by decide) ⟨hpre 10 rfl, hLi⟩ rfl rfl hw.1 (ownQ_mem hu) hv (ownQ_lt hv) (grewQ_blocks hu hv hw)⟩
        · intro a wT hgT hend hap ha
          obtain ⟨f, hf⟩ : ∃ f : Nat → Value, f = fun t => a.tmps.getD t undef := ⟨_, rfl⟩
          have o57 := (hend 15 (by decide) (by decide)).1
          obtain ⟨A57, c57, q57, -⟩ := OwnQ.form o57
          replace o57 := q57 ▸ o57
          have fr57 : ∀ gk, (Value.slice A57 _ c57).ownBlock = some gk → _ ≤ gk := fun gk e => (hend 15 (by decide) (by decide)).2 rfl gk (by rw [show valB _ a 15 = _ from q57]; exact mem_ownb e)
          have s57 := (congrFun hf 57).trans q57
          rw [← hf] at ha
          clear hend hap
          clear hf
          clear q57
          subst ha
          simp only [fill, srtS, Nat.reduceAdd, Nat.reduceBEq, Bool.or_false, Bool.or_true, cond_true, cond_false, List.drop_succ_cons, List.drop_zero, s57]
          have o9 := o57
          go_wp2_with fail
          go_roundw
          case rel => exact ⟨j + 1, _, by omega, by go_num, o9.toPB, hperm2.out.trans hperm, grown_none hgj hgT, fun gk e => Nat.le_trans (Nat.le_trans hg2.size hgj.size) (fr57 gk e)⟩
          case measure => simp [intOf]; omega
      · go_wp2
        all_goals
          go_meet
          exact ⟨tl, hpt, hperm, hgj, hfrj⟩
  case rest =>
    obtain ⟨tl, hpt, hperm, hgj, hfrj⟩ := hcut
    obtain ⟨A, c, e1, hc, hrt0, hAlt0⟩ := hpt.form
    subst e1
    have hgwc := grown_none hgw2 hgj
    have hsc := K'.keep hs1 (.ofNone (grown_none hg2 hgj) (fun _ => False)) (fun _ e => e.elim)
    have hnb : ∀ ad, A = some ad → ¬ B1 ad.block := fun ad e hb => by
      have h1 := hlt1 _ ((K'.sub hs1).1 _ hb)
      have h2 := hfrj ad.block (by rw [e]; rfl)
      omega
    have hAlt : ∀ ad, A = some ad → ad.block < wc.heap.size := hAlt0
    have hro : Road w0 wc B1 R1 := ⟨grown_none hg01 (grown_none hg2 hgj), fun x hx => hR1 x ((K'.sub hs1).1 x hx), hR1⟩
    have htl : tl.length ≤ 12 := by rw [hperm.length_eq]; exact hlen
    have hap : Hid (Apart tl) := Apart.perm hperm hK.rises.apart
    have hmem : Hid (∀ q, q ∈ tl ↔ q ∈ ps) := fun q => hperm.mem_iff
    have hmayT : Hid (∀ q ∈ tl, (1 ≤ q.1.length ∧ q.1.length ≤ 16 ∧ q.2.length ≤ 24) ∧ q.1 ≠ [116, 109, 112]) := fun q hq => by
      have h1 := hK.may q ((hmem.out q).1 hq)
      unfold mayQ at h1
      refine ⟨by simpa using h1, fun e => ?_⟩
      have h1 := hK.1.subset (List.mem_map_of_mem ((hmem.out q).1 hq))
      rw [e] at h1
      exact absurd h1 (by decide)
    clear hE hrlE kn hPs hlt1 hR1 hs1 hfrj hfr
    go_wp2
    go_loopw [60] (fun i wr => ∃ (j : Nat) (xs : List Kv) (B R : Nat → Prop), j ≤ tl.length ∧ i = .int .i64 j ∧ SA wr g B R ⟨xs, []⟩ ∧ RdQ wr A tl ∧ (∀ ad, A = some ad → ¬ B ad.block ∧ ad.block < wr.heap.size) ∧ Hid (Rises xs ∧ ∀ q, q ∈ xs ↔ q ∈ tl.take j) ∧ Road w0 wr B R) (fun i _ => tl.length - (intOf i).toNat)
    case atStart => exact ⟨0, [], B1, R1, Nat.zero_le _, rfl, hsc, hrt0, fun ad e => ⟨hnb ad e, hAlt ad e⟩, ⟨List.Pairwise.nil, by simp⟩, hro⟩
    case round =>
      obtain ⟨j, xs, B, R, hj, rfl, hsr, hrt, hAB, hX, hroj⟩ := hrel
      obtain ⟨hx1, hx2⟩ := hX.out
      by_cases hlt : j < tl.length
      · obtain ⟨ad, rfl, hc1⟩ := RdQ.at hrt hlt
        have hm1 := hmayT.out _ (List.getElem_mem hlt)
        have hxl := len_take hx1 hap.out hx2
        have hnx : ∀ q ∈ xs, q.1 ≠ [116, 109, 112] := fun q hq => (hmayT.out q (List.mem_of_mem_take ((hx2 q).1 hq))).2
        have htw := Lib.hid (set_four (o := [111, 116, 104, 101, 114]) hlt hap.out hx1 hx2 hnx hm1.2)
        generalize tl[j] = p at *
        have HC := Lib.hid hc1
        clear hc1
        have hxj : xs.length ≤ 12 := by omega
        have ok1 : okL xs ([116, 109, 112], []) = true := okL_of (by simp) (by simp) (by simp) (by have := set_le xs ([116, 109, 112], []); omega)
        have hr1' := rise_set hx1 ([116, 109, 112], [])
        have hl1' := set_le xs ([116, 109, 112], [])
        have S1 := fun W (h : SA W g B R ⟨xs, []⟩) => K'.set ([116, 109, 112], []) h
        rw [Vers.yes (s := ⟨xs, []⟩) ok1] at S1
        dsimp only at S1
        rw [ok1] at S1
        generalize setL xs ([116, 109, 112], []) = xs1 at *
        have ok2 : okL xs1 (p.1, [111, 116, 104, 101, 114]) = true := okL_of hm1.1.1 hm1.1.2.1 (by simp) (by have := set_le xs1 (p.1, [111, 116, 104, 101, 114]); omega)
        have hr2' := rise_set hr1' (p.1, [111, 116, 104, 101, 114])
        have hl2' := set_le xs1 (p.1, [111, 116, 104, 101, 114])
        have S2 := fun W B R (h : SA W g B R ⟨xs1, []⟩) => K'.set (p.1, [111, 116, 104, 101, 114]) h
        rw [Vers.yes (s := ⟨xs1, []⟩) ok2] at S2
        dsimp only at S2
        rw [ok2] at S2
        generalize setL xs1 (p.1, [111, 116, 104, 101, 114]) = xs2 at *
        have ok3 : okL xs2 p = true := okL_of hm1.1.1 hm1.1.2.1 hm1.1.2.2 (by have := set_le xs2 p; omega)
        have hr3' := rise_set hr2' p
        have S3 := fun W B R (h : SA W g B R ⟨xs2, []⟩) => K'.set p h
        rw [Vers.yes (s := ⟨xs2, []⟩) ok3] at S3
        dsimp only at S3
        rw [ok3] at S3
        generalize setL xs2 p = xs3 at *
        have hr4' := rise_del hr3' [116, 109, 112]
        have S4 := fun W B R (h : SA W g B R ⟨xs3, []⟩) => K'.del [116, 109, 112] h
        rw [show Vers.del ⟨xs3, []⟩ [116, 109, 112] = ⟨delL xs3 [116, 109, 112], []⟩ from rfl] at S4
        generalize delL xs3 [116, 109, 112] = xs4 at *
        have hnB : ¬ B wr.heap.size := fun h => by have := (K'.sub hsr).2 _ ((K'.sub hsr).1 _ h); omega
        have hbx : AtQ (wr.alloc (Obj.cells #[Value.string ⟨p.1.toArray⟩, Value.string ⟨p.2.toArray⟩] 29)) ⟨wr.heap.size, 0, none⟩ p := box_at (grown_refl _ _)
        have hbl : ¬ B wr.heap.size ∧ wr.heap.size < (wr.alloc (Obj.cells #[Value.string ⟨p.1.toArray⟩, Value.string ⟨p.2.toArray⟩] 29)).heap.size := ⟨hnB, by simp⟩
        have hrt' := RdAt.alloc hrt (Obj.cells #[Value.string ⟨p.1.toArray⟩, Value.string ⟨p.2.toArray⟩] 29)
        have hAB' : ∀ ad', some ad = some ad' → ¬ B ad'.block ∧ ad'.block < (wr.alloc (Obj.cells #[Value.string ⟨p.1.toArray⟩, Value.string ⟨p.2.toArray⟩] 29)).heap.size := fun ad' e => ⟨(hAB ad' e).1, by have := (hAB ad' e).2; simp; omega⟩
        have hroj' := hroj.then (grown_alloc (grown_refl wr none) (Obj.cells #[Value.string ⟨p.1.toArray⟩, Value.string ⟨p.2.toArray⟩] 29))
        have hsr0 := K'.keep hsr (.ofNone (grown_alloc (grown_refl wr none) (Obj.cells #[Value.string ⟨p.1.toArray⟩, Value.string ⟨p.2.toArray⟩] 29)) (fun _ => False)) (fun _ e => e.elim)
        clear ok1 ok2 ok3
        go_wp2_with (first
          | (refine wpList_load_kv (by rfl) _ rfl (ad.add (j * 2)) rfl p HC.out ?_)
          | (go_at_call 14; refine (S1 _ hsr0).mono ?_; clear S1; rintro e wa ⟨Ba, Ra, rfl, hsa, hda⟩; have hxa := hda.at hbx hbl; have hra := hda.rd hrt' hAB'; have ca0 : wa.cell? ⟨wr.heap.size, 0, none⟩ = some (.string ⟨p.1.toArray⟩) := hxa.1.1)
          | (go_at_call 14; refine (S2 _ _ _ hsa).mono ?_; clear S2; rintro e wb ⟨Bb, Rb, rfl, hsb, hdb⟩; have hxb := hdb.at hxa.1 hxa.2; have hrb := hdb.rd hra.1 hra.2; have hb2 := hxb.1)
          | (refine wpList_load_kv (by rfl) _ rfl ⟨wr.heap.size, 0, none⟩ rfl p hb2 ?_)
          | (go_at_call 14; refine (S3 _ _ _ hsb).mono ?_; clear S3; rintro e wd ⟨Bd, Rd, rfl, hsd, hdd⟩; have hrd := hdd.rd hrb.1 hrb.2)
          | (go_at_call 12; refine (S4 _ _ _ hsd).mono ?_; clear S4; rintro e we ⟨Be, Re, ve, rfl, hse, hde⟩; have hre := hde.rd hrd.1 hrd.2))
        go_roundw
        case rel => exact ⟨j + 1, _, Be, Re, by omega, by go_num, hse, hre.1, hre.2, ⟨hr4', htw.out⟩, (((hroj'.did hda).did hdb).did hdd).did hde⟩
        case measure => simp [intOf]; omega
      · obtain rfl : j = tl.length := by omega
        have hxs : xs = ps := rises_ext hx1 hK.rises fun q => by rw [hx2, List.take_length]; exact hmem.out q
        subst hxs
        have hlk := fun W (hg : wr.grownBy W none) => RdAt.kept hrl0 (grown_none hroj.grew hg)
        have C1 := K'.commit hsr
        rw [show Vers.commits ⟨xs, []⟩ = 1 from rfl, show Vers.commit ⟨xs, []⟩ = ⟨xs, [xs]⟩ from rfl] at C1
        have hrt1 := fun W B R (h : SA W g B R ⟨xs, [xs]⟩) (hk : Laid2 W) => K'.root 1 h hk (by omega)
        rw [show Vers.at? ⟨xs, [xs]⟩ 1 = some xs from rfl, show Vers.rootAt ⟨xs, [xs]⟩ 1 = storeRootL xs from rfl] at hrt1
        have hright := hK.right
        obtain ⟨X, hX⟩ : ∃ X, X = storeRootL xs := ⟨_, rfl⟩
        have hXl : Hid (X.length = 32) := by rw [hX]; exact boundL_len _ _
        rw [← hX] at hrt1
        have HX : Hid (storeRootL xs = X) := hX.symm
        clear hX
        go_wp2_with (first
          | (go_at_call 11; refine C1.mono ?_; rintro e w9 ⟨B9, R9, rfl, hs9, hd9⟩; have hro9 := hroj.did hd9)
          | (go_at_call 20; refine (hrt1 _ _ _ hs9 (hkl.kept (grown_none hg0 hro9.grew))).mono ?_; rintro e wa ⟨rfl, hga⟩; have hst := store_new X hXl.out wa; have hbr := alloc_at (w := wa) (o := .cells (X.map bv).toArray 40) rfl; have hga' := grown_alloc hga (.cells (X.map bv).toArray 40)))
        have heq := eqlH_true X hXl.out
        have hkW := hkl.kept (grown_none hg0 (grown_none hro9.grew hga'))
        have hlW := fun W (hg : (wa.alloc (.cells (X.map bv).toArray 40)).grownBy W none) => RdAt.kept hrl0 (grown_none (grown_none hro9.grew hga') hg)
        have hsW := K'.keep hs9 (.ofNone hga' (fun _ => False)) (fun _ e => e.elim)
        have hgW := grown_none hg0 (grown_none hro9.grew hga')
        generalize hW : wa.alloc (.cells (X.map bv).toArray 40) = W at *
        have hsr := fun w' (hg : W.grownBy w' none) => K'.sroot (hlW w' hg) hcl hright (hkW.kept hg)
        have hrr := fun w' (hg : W.grownBy w' none) => RStoreRoot_any Al cl xs w' (hlW w' hg) (by omega) (fun p hp => by have := (hmayT.out p ((hmem.out p).2 hp)).1; omega)
        rw [HX.out] at hsr hrr
        have hnow : ∀ w', W.grownBy w' none → Calls Tryd.prog 18 #[sptr g] w' fun e w'' => ∃ A c, e = .returned (.slice A xs.length c) ∧ RdQ w'' A xs ∧ w'.grownBy w'' none := fun w' hg => (K'.now_ (K'.keep hsW (.ofNone hg (fun _ => False)) (fun _ e => e.elim))).mono (by
          rintro e w'' ⟨v, rfl, hp, -, hg'⟩
          obtain ⟨A, c, rfl, -, hr, -⟩ := hp.form
          exact ⟨A, c, rfl, hr, hg'⟩)
        have hsame := fun w' (A : Option Addr) (c : Nat) (h : RdQ w' A xs) (hg : W.grownBy w' none) => SameQ_n A Al xs xs _ _ c cl w' h (hlW w' hg) (by omega) (by omega) rfl rfl rfl
        have hruns := fun w' => StoreRuns_any SA K'.toStoreJ w'
        have hb := hbr
        clear hbr hst HX hmem hmayT hap hcl hlk C1 hrt1
        generalize hxn : xs.length = N at *
        replace hxn := Lib.hid hxn
        refine wp_region_gt (R := none) (i1 := 999) (q := true) (al := sreAl) 22 (N := 108) (S := sreS) (die := sreDie) (own := sreOwn) (F := sreF X xs N cl g Al) (by kernel_rfl) (Nat.le_of_ble_eq_true (by kernel_rfl)) (by kernel_rfl) (by kernel_rfl) (by kernel_rfl) (by kernel_rfl) (Nat.le_of_ble_eq_true (by kernel_rfl)) (fun g e => by cases e) (sreF_lasts X xs N cl g Al) ?_ ?_
        · intro i o L' a w K hi ho hg hgN hLi hout hpre houter hitem h1 h2
          have hcases : i = 0 ∨ i = 1 ∨ i = 2 ∨ i = 3 ∨ i = 4 ∨ i = 5 ∨ i = 6 ∨ i = 7 ∨ i = 8 ∨ i = 9 ∨ i = 10 ∨ i = 11 ∨ i = 12 ∨ i = 13 ∨ i = 14 ∨ i = 15 ∨ i = 16 ∨ i = 17 ∨ i = 18 ∨ i = 19 ∨ i = 20 ∨ i = 21 := by omega
          rcases hcases with rfl | rfl | rfl | rfl | rfl | rfl | rfl | rfl | rfl | rfl | rfl | rfl | rfl | rfl | rfl | rfl | rfl | rfl | rfl | rfl | rfl | rfl
          · cases (show some _ = some o from ho)
            exact ⟨rfl, wp_move rfl (h1 _ _ (grown_refl _ none) (houter _ rfl) (by rw [houter _ rfl]; exact nob rfl) (by rw [houter _ rfl]; exact .inl rfl))⟩
          · cases (show some _ = some o from ho)
            have hx := hitem 0 (by decide) ⟨hpre 0 rfl, hout _ (by decide)⟩
            exact ⟨rfl, wp_move rfl (h1 _ _ (grown_refl _ none) hx (by rw [show a.eval (.tmp 86) = .bool true from hx]; exact nob rfl) (by rw [show a.eval (.tmp 86) = .bool true from hx]; exact .inl rfl))⟩
          · cases (show some _ = some o from ho)
            exact ⟨wanted_of (j := 1) rfl rfl (hitem 1 (by decide) ⟨hpre 1 rfl, hout _ (by decide)⟩), wp_load_row 40 _ rfl _ (houter _ rfl) _ (X.map bv).toArray (0, 0) _ (keep_of hb hg) Tryd.underlying40 rfl (hashV_size _ (hXl.out)) (h1 _ _ (grown_refl _ none) rfl (nob rfl) (.inl rfl))⟩
          · cases (show some _ = some o from ho)
            exact ⟨wanted_of (j := 1) rfl rfl (hitem 1 (by decide) ⟨hpre 1 rfl, hout _ (by decide)⟩), wp_move rfl (h1 _ _ (grown_refl _ none) (houter _ rfl) (by rw [houter _ rfl]; exact (fun g e => by cases (show (none : Option Nat) = some g from e))) (by rw [houter _ rfl]; exact .inl rfl))⟩
          · cases (show some _ = some o from ho)
            have x89 : a.eval (.tmp 89) = .slice Al N cl := hitem 3 (by decide) ⟨hpre 3 rfl, hout _ (by decide)⟩
            refine ⟨wanted_of (j := 1) rfl rfl (hitem 1 (by decide) ⟨hpre 1 rfl, hout _ (by decide)⟩), wp_call rfl Tryd.func27 (by kernel_rfl) (by kernel_rfl) (args := #[.slice Al N cl]) (by simp [x89]) ((hsr w hg).mono ?_)⟩
            rintro e w' ⟨rfl, hg'⟩
            exact ⟨_, rfl, h1 _ _ hg' rfl (nob rfl) (.inl rfl)⟩
          · cases (show some _ = some o from ho)
            exact ⟨wanted_of (j := 1) rfl rfl (hitem 1 (by decide) ⟨hpre 1 rfl, hout _ (by decide)⟩), wp_bin rfl (hitem 2 (by decide) ⟨hpre 2 rfl, hout _ (by decide)⟩) (hitem 4 (by decide) ⟨hpre 4 rfl, hout _ (by decide)⟩) (guard_hash _ _ _ _ _) (heq _) (h1 _ _ (grown_refl _ none) rfl (nob rfl) (.inl rfl))⟩
          · cases (show some _ = some o from ho)
            have hc := hitem 1 (by decide) ⟨hpre 1 rfl, hout _ (by decide)⟩
            have hx := hitem 5 (by decide) ⟨hpre 5 rfl, hout _ (by decide)⟩
            exact ⟨rfl, wp_pick rfl hc (h1 _ _ (grown_refl _ none) hx (by rw [show a.eval (.tmp 91) = .bool true from hx]; exact nob rfl) (by rw [show a.eval (.tmp 91) = .bool true from hx]; exact .inl rfl))⟩
          · cases (show some _ = some o from ho)
            have hx := hitem 6 (by decide) ⟨hpre 6 rfl, hout _ (by decide)⟩
            exact ⟨rfl, wp_move rfl (h1 _ _ (grown_refl _ none) hx (by rw [show a.eval (.tmp 92) = .bool true from hx]; exact nob rfl) (by rw [show a.eval (.tmp 92) = .bool true from hx]; exact .inl rfl))⟩
          · cases (show some _ = some o from ho)
            exact ⟨wanted_of (j := 7) rfl rfl (hitem 7 (by decide) ⟨hpre 7 rfl, hout _ (by decide)⟩), wp_load_row 40 _ rfl _ (houter _ rfl) _ (X.map bv).toArray (0, 0) _ (keep_of hb hg) Tryd.underlying40 rfl (hashV_size _ (hXl.out)) (h1 _ _ (grown_refl _ none) rfl (nob rfl) (.inl rfl))⟩
          · cases (show some _ = some o from ho)
            exact ⟨wanted_of (j := 7) rfl rfl (hitem 7 (by decide) ⟨hpre 7 rfl, hout _ (by decide)⟩), wp_move rfl (h1 _ _ (grown_refl _ none) (houter _ rfl) (by rw [houter _ rfl]; exact (fun g e => by cases (show (none : Option Nat) = some g from e))) (by rw [houter _ rfl]; exact .inl rfl))⟩
          · cases (show some _ = some o from ho)
            have x95 : a.eval (.tmp 95) = .slice Al N cl := hitem 9 (by decide) ⟨hpre 9 rfl, hout _ (by decide)⟩
            refine ⟨wanted_of (j := 7) rfl rfl (hitem 7 (by decide) ⟨hpre 7 rfl, hout _ (by decide)⟩), wp_call rfl Tryd.func21 (by kernel_rfl) (by kernel_rfl) (args := #[.slice Al N cl]) (by simp [x95]) ((hrr w hg).mono ?_)⟩
            rintro e w' ⟨rfl, hg'⟩
            exact ⟨_, rfl, h1 _ _ hg' rfl (nob rfl) (.inl rfl)⟩
          · cases (show some _ = some o from ho)
            exact ⟨wanted_of (j := 7) rfl rfl (hitem 7 (by decide) ⟨hpre 7 rfl, hout _ (by decide)⟩), wp_bin rfl (hitem 8 (by decide) ⟨hpre 8 rfl, hout _ (by decide)⟩) (hitem 10 (by decide) ⟨hpre 10 rfl, hout _ (by decide)⟩) (guard_hash _ _ _ _ _) (heq _) (h1 _ _ (grown_refl _ none) rfl (nob rfl) (.inl rfl))⟩
          · cases (show some _ = some o from ho)
            have hc := hitem 7 (by decide) ⟨hpre 7 rfl, hout _ (by decide)⟩
            have hx := hitem 11 (by decide) ⟨hpre 11 rfl, hout _ (by decide)⟩
            exact ⟨rfl, wp_pick rfl hc (h1 _ _ (grown_refl _ none) hx (by rw [show a.eval (.tmp 97) = .bool true from hx]; exact nob rfl) (by rw [show a.eval (.tmp 97) = .bool true from hx]; exact .inl rfl))⟩
          · cases (show some _ = some o from ho)
            have hx := hitem 12 (by decide) ⟨hpre 12 rfl, hout _ (by decide)⟩
            exact ⟨rfl, wp_move rfl (h1 _ _ (grown_refl _ none) hx (by rw [show a.eval (.tmp 98) = .bool true from hx]; exact nob rfl) (by rw [show a.eval (.tmp 98) = .bool true from hx]; exact .inl rfl))⟩
          · cases (show some _ = some o from ho)
            exact ⟨wanted_of (j := 13) rfl rfl (hitem 13 (by decide) ⟨hpre 13 rfl, hout _ (by decide)⟩), wp_move rfl (h1 _ _ (grown_refl _ none) (houter _ rfl) (by rw [houter _ rfl]; exact nob rfl) (by rw [houter _ rfl]; exact .inl rfl))⟩
          · cases (show some _ = some o from ho)
            have x100 : a.eval (.tmp 100) = .pointer (some ⟨g, 0, none⟩) := hitem 14 (by decide) ⟨hpre 14 rfl, hout _ (by decide)⟩
            refine ⟨wanted_of (j := 13) rfl rfl (hitem 13 (by decide) ⟨hpre 13 rfl, hout _ (by decide)⟩), wp_call rfl Tryd.func18 (by kernel_rfl) (by kernel_rfl) (args := #[.pointer (some ⟨g, 0, none⟩)]) (by simp [x100]) ((hnow w hg).mono ?_)⟩
            rintro e w' ⟨A, c, rfl, k, hg'⟩
            exact ⟨_, rfl, h1 _ _ hg' ⟨A, c, rfl, k⟩ (fun g e => by cases (show (none : Option Nat) = some g from e)) (.inl rfl)⟩
          · cases (show some _ = some o from ho)
            exact ⟨wanted_of (j := 13) rfl rfl (hitem 13 (by decide) ⟨hpre 13 rfl, hout _ (by decide)⟩), wp_move rfl (h1 _ _ (grown_refl _ none) (houter _ rfl) (by rw [houter _ rfl]; exact (fun g e => by cases (show (none : Option Nat) = some g from e))) (by rw [houter _ rfl]; exact .inl rfl))⟩
          · cases (show some _ = some o from ho)
            obtain ⟨A, c, x101, k⟩ := hitem 15 (by decide) ⟨hpre 15 rfl, hout _ (by decide)⟩
            replace x101 : a.eval (.tmp 101) = _ := x101
            have x102 : a.eval (.tmp 102) = .slice Al N cl := hitem 16 (by decide) ⟨hpre 16 rfl, hout _ (by decide)⟩
            refine ⟨wanted_of (j := 13) rfl rfl (hitem 13 (by decide) ⟨hpre 13 rfl, hout _ (by decide)⟩), wp_call rfl Tryd.func17 (by kernel_rfl) (by kernel_rfl) (args := #[.slice A N c, .slice Al N cl]) (by simp [x101, x102]) ((hsame w A c k hg).mono ?_)⟩
            rintro e w' ⟨rfl, hg'⟩
            exact ⟨_, rfl, h1 _ _ hg' rfl (nob rfl) (.inl rfl)⟩
          · cases (show some _ = some o from ho)
            have hc := hitem 13 (by decide) ⟨hpre 13 rfl, hout _ (by decide)⟩
            have hx := hitem 17 (by decide) ⟨hpre 17 rfl, hout _ (by decide)⟩
            exact ⟨rfl, wp_pick rfl hc (h1 _ _ (grown_refl _ none) hx (by rw [show a.eval (.tmp 103) = .bool true from hx]; exact nob rfl) (by rw [show a.eval (.tmp 103) = .bool true from hx]; exact .inl rfl))⟩
          · cases (show some _ = some o from ho)
            have hx := hitem 18 (by decide) ⟨hpre 18 rfl, hout _ (by decide)⟩
            exact ⟨rfl, wp_move rfl (h1 _ _ (grown_refl _ none) hx (by rw [show a.eval (.tmp 104) = .bool true from hx]; exact nob rfl) (by rw [show a.eval (.tmp 104) = .bool true from hx]; exact .inl rfl))⟩
          · cases (show some _ = some o from ho)
            refine ⟨wanted_of (j := 19) rfl rfl (hitem 19 (by decide) ⟨hpre 19 rfl, hout _ (by decide)⟩), wp_call rfl Tryd.func24 (by kernel_rfl) (by kernel_rfl) (args := #[]) (by simp []) ((hruns w).mono ?_)⟩
            rintro e w' ⟨rfl, hg'⟩
            exact ⟨_, rfl, h1 _ _ hg' rfl (nob rfl) (.inl rfl)⟩
          · cases (show some _ = some o from ho)
            have hc := hitem 19 (by decide) ⟨hpre 19 rfl, hout _ (by decide)⟩
            have hx := hitem 20 (by decide) ⟨hpre 20 rfl, hout _ (by decide)⟩
            exact ⟨rfl, wp_pick rfl hc (h1 _ _ (grown_refl _ none) hx (by rw [show a.eval (.tmp 106) = .bool true from hx]; exact nob rfl) (by rw [show a.eval (.tmp 106) = .bool true from hx]; exact .inl rfl))⟩
        · intro a wT hgT hend hap ha
          obtain ⟨f, hf⟩ : ∃ f : Nat → Value, f = fun t => a.tmps.getD t undef := ⟨_, rfl⟩
          have s107 : f 107 = .bool true := by rw [hf]; exact (hend 21 (by decide) (by decide)).1
          rw [← hf] at ha
          clear hend hap
          clear hf
          subst ha
          simp only [fill, sreS, Nat.reduceAdd, Nat.reduceBEq, Bool.or_false, Bool.or_true, cond_true, cond_false, List.drop_succ_cons, List.drop_zero, s107]
          clear s107
          go_wp2_with fail
          go_ret
          exact ⟨rfl, grown_none hgW hgT⟩
end Go.Proofs.YtjdfnohlgeoniaaDoor
