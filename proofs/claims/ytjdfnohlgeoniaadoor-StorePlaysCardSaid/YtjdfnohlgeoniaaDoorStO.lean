/- Laws of package store: StoreOld. -/
import Derived.Test.YtjdfnohlgeoniaaDoorStN
import Derived.Test.YtjdfnohlgeoniaaDoorStH
namespace Go.Proofs.YtjdfnohlgeoniaaDoor
open Go.RowKit

/-- .. and Now gives a row in a block that is new. -/
structure StoreN (SA : World → Nat → (Nat → Prop) → (Nat → Prop) → Vers → Prop) : Prop extends StoreK SA where
  nowN : ∀ {w g B R s}, SA w g B R s → Calls Tryd.prog 18 #[sptr g] w fun e w' => ∃ v, e = .returned v ∧ PB w' v s.now ∧ (∀ x, v.ownBlock = some x → w.heap.size ≤ x) ∧ w.grownBy w' none
set_option maxRecDepth 100000 in
theorem NowN_any {w : World} {g : Nat} {B R : Nat → Prop} {s : Vers} (h : SA w g B R s) : Calls Tryd.prog 18 #[sptr g] w fun e w' => ∃ v, e = .returned v ∧ PB w' v s.now ∧ (∀ x, v.ownBlock = some x → w.heap.size ≤ x) ∧ w.grownBy w' none := by
  obtain ⟨A, c, kv, rs, x⟩ := h
  obtain ⟨hlen, -, -⟩ := (right_iff _).1 x.ri.1
  have hC := CloneQ_new A c s.now w x.rn (by omega)
  have c0 := x.cell0
  clear x
  unfold sptr
  go_enter Tryd.func18, Tryd.ntmps18
  go_wp2_with (go_at_call 34; refine hC.mono ?_; rintro e w1 ⟨v1, rfl, hp1, hg1, hf1⟩)
  go_ret
  exact ⟨_, rfl, hp1, hf1, hg1⟩
theorem storeN : StoreN SA where
  toStoreK := storeK
  nowN := fun h => NowN_any h

/-- A store, and a row of rows beside it: what each was when it was handed out. -/
structure Hold (SA : World → Nat → (Nat → Prop) → (Nat → Prop) → Vers → Prop) (w0 : World) (g : Nat) (w : World) (xv : Value) (B R : Nat → Prop) (s : Vers) (rs : List Rq) : Prop where
  sa : SA w g B R s
  ro : Road w0 w B R
  ok : OkRows w B rs
  ov : OwnV 25 w xv (rs.map rv)
  ap : ∀ k, xv.ownBlock = some k → ¬ R k ∧ w0.heap.size ≤ k ∧ ∀ q ∈ rs, ∀ ad, q.1 = some ad → ad.block ≠ k
section
variable {SA : World → Nat → (Nat → Prop) → (Nat → Prop) → Vers → Prop} {w0 w w' : World} {g : Nat} {xv : Value} {B R B' R' : Nat → Prop} {s s' : Vers} {rs : List Rq}
theorem Hold.did (K : StoreK SA) (h : Hold SA w0 g w xv B R s rs) (hd : Did w w' B R B' R') (hs : SA w' g B' R' s') : Hold SA w0 g w' xv B' R' s' rs := by
  have hb : ∀ k, xv.ownBlock = some k → ¬ B k := fun k e hb => (h.ap k e).1 ((K.sub h.sa).1 k hb)
  exact ⟨hs, h.ro.did hd, h.ok.did hd, (hd.ownV h.ov hb).1, fun k e => ⟨fun hr => (hd.r k hr).elim (h.ap k e).1 (fun hl => absurd (h.ov.lt k e) (Nat.not_lt.2 hl)), (h.ap k e).2⟩⟩
theorem Hold.kept (K : StoreK SA) (h : Hold SA w0 g w xv B R s rs) (hg : w.grownBy w' none) : Hold SA w0 g w' xv B R s rs :=
  ⟨K.keep h.sa (.ofNone hg fun _ => False) (fun _ e => e.elim), h.ro.then hg, h.ok.kept hg, h.ov.kept hg, h.ap⟩
/-- A row more: appended in a world that has grown. -/
theorem Hold.app (K : StoreK SA) {xv' : Value} {r : Rq} (h : Hold SA w0 g w xv B R s rs) (hr : r.ok w B) (hrx : ∀ k, xv.ownBlock = some k → ∀ ad, r.1 = some ad → ad.block ≠ k) (hg : Grew w w' xv xv') (ho : OwnV 25 w' xv' (rs.map rv ++ [rv r])) : Hold SA w0 g w' xv' B R s (rs ++ [r]) := by
  have hall : ∀ q ∈ rs ++ [r], ∀ ad, q.1 = some ad → (∀ k, xv.ownBlock = some k → ad.block ≠ k) ∧ ad.block < w.heap.size := fun q hq ad e => by
    rcases List.mem_append.1 hq with hq | hq
    · exact ⟨fun k ek => (h.ap k ek).2.2 q hq ad e, ((h.ok q hq).2.2 ad e).2⟩
    · rw [List.mem_singleton.1 hq] at e
      exact ⟨fun k ek => hrx k ek ad e, (hr.2.2 ad e).2⟩
  have hne : ∀ q ∈ rs ++ [r], ∀ ad, q.1 = some ad → some ad.block ≠ xv.ownBlock := fun q hq ad e e2 => (hall q hq ad e).1 _ e2.symm rfl
  have hC : ∀ k, xv.ownBlock = some k → ¬ R k := fun k e => (h.ap k e).1
  have hgi : GrewIn w w' (fun k => xv.ownBlock = some k) := .ofRow hg.1
  refine ⟨K.keep h.sa hgi hC, ⟨GrewIn.from h.ro.grew hgi (fun k e => (h.ap k e).2.1), h.ro.b, h.ro.r⟩, ?_, by rw [List.map_append]; exact ho, ?_⟩
  · intro q hq
    rcases List.mem_append.1 hq with hq' | hq'
    · exact (h.ok q hq').own hg.1 (hne q hq)
    · rw [List.mem_singleton.1 hq']
      exact hr.own hg.1 (hne r (by simp))
  · intro k e
    rcases hg.2 with e2 | ⟨k2, e2, hl⟩
    · have e3 : xv.ownBlock = some k := by rw [← e2]; exact e
      exact ⟨hC k e3, (h.ap k e3).2.1, fun q hq ad eq => (hall q hq ad eq).1 k e3⟩
    · rw [e] at e2; injection e2 with e2
      refine ⟨fun hr2 => ?_, ?_, fun q hq ad eq => ?_⟩
      · have := (K.sub h.sa).2 k hr2; omega
      · have := h.ro.grew.size; omega
      · have := (hall q hq ad eq).2; omega
end
theorem Within_one (n : Int) : ∃ k : Nat, 1 ≤ k ∧ k ≤ 16 ∧ ∀ w : World, Calls Tryd.prog 26 #[.int .i64 n, .int .i64 1, .int .i64 16] w fun e w' => e = .returned (.int .i64 (k : Int)) ∧ w = w' := by
  have hb := within_le (n := n) (lo := 1) (hi := 16) (by omega)
  refine ⟨(within n 1 16).toNat, by omega, by omega, fun w => ?_⟩
  refine (Within_any n 1 16 w (by omega) (by omega) (by omega)).mono ?_
  rintro e w' ⟨rfl, rfl⟩
  exact ⟨ret_int (by omega), rfl⟩
theorem build_kv (a b : List UInt8) (w : World) : (Instr.build 29 #[(0, .string ⟨a.toArray⟩), (1, .string ⟨b.toArray⟩)]).run Tryd.prog w = .ok (.agg #[.string ⟨a.toArray⟩, .string ⟨b.toArray⟩]) w := by kernel_rfl
theorem quo7 (n : Int) : ∃ m : Int, ∀ w : World, (binOp .quo 3 (.int .i64 n) (.int .i64 7)).run Tryd.prog w = .ok (.int .i64 m) w :=
  ⟨IntKind.i64.wrap (n.tdiv 7), fun w => by kernel_rfl⟩
theorem neqIn_hash (X : List UInt8) (hX : X.length = 32) (w : World) : (binOp .neq 40 (.agg (X.map bv).toArray) (.agg (X.map bv).toArray)).run Tryd.prog w = .ok (.bool false) w := by
  have h := eqIn_hash X hX w
  simp only [binOp, Op.equal, Op.maxDepth, Sem.run_bind, Sem.run_pure, h, Result.andThen_ok, Bool.not_true]
/-- What is kept of a height is the row that was handed out then. -/
theorem at_row {s : Vers} {rs : List Rq} {j : Nat} (h : rs.map (fun r => r.2.1) = s.all) (hj : j < rs.length) (hin : s.all.length < j + 7) : s.at? ((j : Int) + 1) = some rs[j].2.1 := by
  have hl : rs.length = s.all.length := by rw [← h, List.length_map]
  have h1 := Vers.at_in (s := s) (h := j + 1) (by omega) (by omega) (by omega)
  rw [show ((j + 1 : Nat) : Int) = (j : Int) + 1 by omega] at h1
  rw [h1]
  have h2 := congrArg (fun l => l[j]?) h
  simp only [List.getElem?_map] at h2
  rw [List.getElem?_eq_getElem hj, List.getElem?_eq_getElem (by omega)] at h2
  simp only [Option.map_some, Option.some.injEq] at h2
  rw [h2]; rfl
theorem guard_neH (x y : Operand) (xv yv : Array Value) (w : World) : (eqGuard .neq 40 x y (.agg xv) (.agg yv)).run Tryd.prog w = .ok () w := by kernel_rfl
theorem kept_len (s : Vers) : s.kept.length = min s.all.length 6 := by unfold Vers.kept; simp
theorem set_all (s : Vers) (p : Kv) : (s.set p).all = s.all := by unfold Vers.set; split <;> rfl
theorem del_all (s : Vers) (k : List UInt8) : (s.del k).all = s.all := rfl
def stoS (t : Nat) : Bool := t == 53 || t == 54 || t == 55 || t == 56 || t == 57 || t == 58 || t == 59 || t == 60 || t == 61 || t == 62 || t == 63 || t == 64 || t == 65
def stoDie (_ : Nat) : Nat := 99
def stoOwn (_ : Nat) : Bool := false
def stoAl (k : Nat) : Bool := k == 1 || k == 6
def stoF (ad : Addr) (n c i G : Nat) (x m : Int) (kt tt : List UInt8) : Nat → Value → World → Prop
  | 0 => fun v _ => v = .pointer (some ⟨G, 0, none⟩)
  | 1 => fun v _ => v = .slice (some ad) n c
  | 2 => fun v _ => v = .int .i64 (i : Nat)
  | 3 => fun v _ => v = .pointer (some (ad.add i))
  | 4 => fun v _ => v = .int .i64 x
  | 5 => fun v _ => v = (.string ⟨kt.toArray⟩)
  | 6 => fun v _ => v = .slice (some ad) n c
  | 7 => fun v _ => v = .int .i64 (i : Nat)
  | 8 => fun v _ => v = .pointer (some (ad.add i))
  | 9 => fun v _ => v = .int .i64 x
  | 10 => fun v _ => v = .int .i64 m
  | 11 => fun v _ => v = (.string ⟨tt.toArray⟩)
  | 12 => fun v _ => v = (.agg #[.string ⟨kt.toArray⟩, .string ⟨tt.toArray⟩])
  | _ => fun _ _ => True
theorem stoF_lasts (ad : Addr) (n c i G : Nat) (x m : Int) (kt tt : List UInt8) : ∀ kq, LastsB stoAl kq (stoF ad n c i G x m kt tt kq)
  | 0 => LastsB.val _
  | 1 => LastsB.val _
  | 2 => LastsB.val _
  | 3 => LastsB.val _
  | 4 => LastsB.val _
  | 5 => LastsB.val _
  | 6 => LastsB.val _
  | 7 => LastsB.val _
  | 8 => LastsB.val _
  | 9 => LastsB.val _
  | 10 => LastsB.val _
  | 11 => LastsB.val _
  | 12 => LastsB.val _
  | _ + 13 => fun _ _ _ _ _ _ _ => trivial

set_option maxRecDepth 100000 in
set_option maxHeartbeats 1000000 in
theorem StoreOld_any (SA : World → Nat → (Nat → Prop) → (Nat → Prop) → Vers → Prop) (K' : StoreN SA) (A1 : Option Addr) (c1 : Nat) (ns : List Int) (n : Int) (w : World) (hkl : Laid2 w) (hr1 : RdI w A1 ns) (hm1 : ns.length ≤ maxLen) :
    Calls Tryd.prog 5 #[.slice A1 ns.length c1, .int .i64 n] w fun e w' => e = .returned (.bool true) ∧ w.grownBy w' none := by
  unfold maxLen at hm1
  obtain ⟨k, hk1, hk16, hwi⟩ := Within_one n
  have K := K'.toStoreK
  go_enter Tryd.func5, Tryd.ntmps5
  go_upto_block 0 with (first
    | (go_at_call 7; refine (K'.new _).mono ?_; rintro e w1 ⟨g, B1, R1, rfl, hs1, hR1, hg01⟩; unfold sptr)
    | (go_at_call 26; refine (hwi _).mono ?_; rintro e w2 ⟨rfl, rfl⟩))
  have hh1 : Hold SA w g w1 (.slice none 0 0) B1 R1 ⟨[], []⟩ [] := ⟨hs1, ⟨hg01, fun x hx => hR1 x ((K'.sub hs1).1 x hx), hR1⟩, (fun q hq => by cases hq), OwnV.nil _, fun k e => by cases e⟩
  go_cut [6, 8] (fun xv _ wx => ∃ (B R : Nat → Prop) (s : Vers) (rs : List Rq), Hold SA w g wx xv B R s rs ∧ s.all.length = k ∧ Hid (rs.map (fun r => r.2.1) = s.all))
  case first =>
    go_wp2
    go_loopw [6, 8] (fun xv i wr => ∃ (j : Nat) (B R : Nat → Prop) (s : Vers) (rs : List Rq), j ≤ k ∧ i = .int .i64 ((j : Int) + 1) ∧ Hold SA w g wr xv B R s rs ∧ s.all.length = j ∧ Hid (rs.map (fun r => r.2.1) = s.all)) (fun _ i _ => 18 - (intOf i).toNat)
    case atStart => exact ⟨0, B1, R1, ⟨[], []⟩, [], Nat.zero_le _, rfl, hh1, rfl, rfl⟩
    case round =>
      obtain ⟨j, B, R, s, rs, hj, rfl, hh, hsj, hrs⟩ := hrel
      by_cases hlt : j < k
      · have hkj : (j : Int) + 1 ≤ (k : Int) := by omega
        go_upto_block 2 with (fail)
        go_cut [9] (fun _ wx => ∃ (B R : Nat → Prop) (s2 : Vers), Hold SA w g wx u6 B R s2 rs ∧ s2.all = s.all)
        case first =>
          go_wp2
          go_loopw [9] (fun i wi => ∃ (i0 : Nat) (B R : Nat → Prop) (s2 : Vers), i = .int .i64 (i0 : Int) ∧ i0 ≤ j + 5 ∧ Hold SA w g wi u6 B R s2 rs ∧ s2.all = s.all) (fun i _ => 30 - (intOf i).toNat)
          case atStart => exact ⟨j + 1, B, R, s, rfl, by omega, hh, rfl⟩
          case round =>
            obtain ⟨i0, Bi, Ri, si, rfl, hi5, hhi, hsi⟩ := hrel
            by_cases hlt0 : i0 < ns.length
            · by_cases hlt5 : i0 < j + 5
              · have q1 : (i0 : Int) < (j : Int) + 1 + 4 := by omega
                have q2 : (i0 : Int) < (ns.length : Int) := by omega
                obtain ⟨ad, rfl, hcx0⟩ := RdI.get (RdAt.kept hr1 hhi.ro.grew) hlt0
                generalize ns[i0] = x at hcx0
                obtain ⟨kt, hkt, hKk⟩ := KKey_any x
                obtain ⟨m, hm⟩ := quo7 x
                obtain ⟨tt, htt, hTt⟩ := KText_any m
                go_upto_if 45 with (fail)
                cases hb : (x.tmod 3 == 0)
                · have hcx := Lib.hid hcx0
                  clear hcx0
                  go_upto_region 14 with (fail)
                  refine wp_region_gb (al := stoAl) 13 (N := 141) (S := stoS) (die := stoDie) (own := stoOwn) (F := stoF ad ns.length c1 i0 g x m kt tt) (by kernel_rfl) (Nat.le_of_ble_eq_true (by kernel_rfl)) (fun _ => by kernel_rfl) (fun _ => by kernel_rfl) (by kernel_rfl) (by kernel_rfl) (Nat.le_of_ble_eq_true (by kernel_rfl)) (stoF_lasts ad ns.length c1 i0 g x m kt tt) ?_ ?_
                  · intro i o L' a w K hi ho hg hLi hout hpre houter hitem h1 h2 h3
                    have hcases : i = 0 ∨ i = 1 ∨ i = 2 ∨ i = 3 ∨ i = 4 ∨ i = 5 ∨ i = 6 ∨ i = 7 ∨ i = 8 ∨ i = 9 ∨ i = 10 ∨ i = 11 ∨ i = 12 := by omega
                    rcases hcases with rfl | rfl | rfl | rfl | rfl | rfl | rfl | rfl | rfl | rfl | rfl | rfl | rfl
                    · cases (show some _ = some o from ho)
                      exact ⟨rfl, wp_move rfl (h1 ⟨_, rfl⟩ _ _ (grown_refl _ none) (houter _ rfl) (by rw [houter _ rfl]; exact nobl rfl) (by rw [houter _ rfl]; exact FreshB.none rfl))⟩
                    · cases (show some _ = some o from ho)
                      exact ⟨rfl, wp_move rfl (h1 ⟨_, rfl⟩ _ _ (grown_refl _ none) (houter _ rfl) (by rw [houter _ rfl]; exact nobl rfl) (by rw [houter _ rfl]; exact FreshB.none rfl))⟩
                    · cases (show some _ = some o from ho)
                      exact ⟨rfl, wp_move rfl (h1 ⟨_, rfl⟩ _ _ (grown_refl _ none) (houter _ rfl) (by rw [houter _ rfl]; exact nobl rfl) (by rw [houter _ rfl]; exact FreshB.none rfl))⟩
                    · cases (show some _ = some o from ho)
                      exact ⟨rfl, wp_index rfl (hitem 1 (by decide) ⟨hpre 1 rfl, hout _ (by decide)⟩) (hitem 2 (by decide) ⟨hpre 2 rfl, hout _ (by decide)⟩) (idx_I ad ns.length c1 i0 hlt0 _) (h1 ⟨_, rfl⟩ _ _ (grown_refl _ none) rfl (nobl rfl) (FreshB.none rfl))⟩
                    · cases (show some _ = some o from ho)
                      exact ⟨rfl, wp_loadC rfl (hitem 3 (by decide) ⟨hpre 3 rfl, hout _ (by decide)⟩) (load_cell (hg.cell hcx.out (by simp)) Tryd.underlying3 rfl) (h1 ⟨_, rfl⟩ _ _ (grown_refl _ none) rfl (nobl rfl) (FreshB.none rfl))⟩
                    · cases (show some _ = some o from ho)
                      have x57 : a.eval (.tmp 57) = .int .i64 x := hitem 4 (by decide) ⟨hpre 4 rfl, hout _ (by decide)⟩
                      refine ⟨rfl, wp_call rfl Tryd.func8 (by kernel_rfl) (by kernel_rfl) (args := #[.int .i64 x]) (by simp [x57]) ((hKk w).mono ?_)⟩
                      rintro e w' ⟨rfl, hg'⟩
                      exact ⟨_, rfl, h1 ⟨_, rfl⟩ _ _ hg' rfl (nobl rfl) (FreshB.none rfl)⟩
                    · cases (show some _ = some o from ho)
                      exact ⟨rfl, wp_move rfl (h1 ⟨_, rfl⟩ _ _ (grown_refl _ none) (houter _ rfl) (by rw [houter _ rfl]; exact nobl rfl) (by rw [houter _ rfl]; exact FreshB.none rfl))⟩
                    · cases (show some _ = some o from ho)
                      exact ⟨rfl, wp_move rfl (h1 ⟨_, rfl⟩ _ _ (grown_refl _ none) (houter _ rfl) (by rw [houter _ rfl]; exact nobl rfl) (by rw [houter _ rfl]; exact FreshB.none rfl))⟩
                    · cases (show some _ = some o from ho)
                      exact ⟨rfl, wp_index rfl (hitem 6 (by decide) ⟨hpre 6 rfl, hout _ (by decide)⟩) (hitem 7 (by decide) ⟨hpre 7 rfl, hout _ (by decide)⟩) (idx_I ad ns.length c1 i0 hlt0 _) (h1 ⟨_, rfl⟩ _ _ (grown_refl _ none) rfl (nobl rfl) (FreshB.none rfl))⟩
                    · cases (show some _ = some o from ho)
                      exact ⟨rfl, wp_loadC rfl (hitem 8 (by decide) ⟨hpre 8 rfl, hout _ (by decide)⟩) (load_cell (hg.cell hcx.out (by simp)) Tryd.underlying3 rfl) (h1 ⟨_, rfl⟩ _ _ (grown_refl _ none) rfl (nobl rfl) (FreshB.none rfl))⟩
                    · cases (show some _ = some o from ho)
                      exact ⟨rfl, wp_bin rfl (hitem 9 (by decide) ⟨hpre 9 rfl, hout _ (by decide)⟩) rfl (guard_quo _ _ _ _ _) (hm _) (h1 ⟨_, rfl⟩ _ _ (grown_refl _ none) rfl (nobl rfl) (FreshB.none rfl))⟩
                    · cases (show some _ = some o from ho)
                      have x63 : a.eval (.tmp 63) = .int .i64 m := hitem 10 (by decide) ⟨hpre 10 rfl, hout _ (by decide)⟩
                      refine ⟨rfl, wp_call rfl Tryd.func9 (by kernel_rfl) (by kernel_rfl) (args := #[.int .i64 m]) (by simp [x63]) ((hTt w).mono ?_)⟩
                      rintro e w' ⟨rfl, hg'⟩
                      exact ⟨_, rfl, h1 ⟨_, rfl⟩ _ _ hg' rfl (nobl rfl) (FreshB.none rfl)⟩
                    · cases (show some _ = some o from ho)
                      exact ⟨rfl, wp_build2 rfl (hitem 5 (by decide) ⟨hpre 5 rfl, hout _ (by decide)⟩) (hitem 11 (by decide) ⟨hpre 11 rfl, hout _ (by decide)⟩) (build_kv _ _ _) (h1 ⟨_, rfl⟩ _ _ (grown_refl _ none) rfl (nobl rfl) (FreshB.none rfl))⟩
                  · intro a wT hgT hend hap ha
                    obtain ⟨f, hf⟩ : ∃ f : Nat → Value, f = fun t => a.tmps.getD t undef := ⟨_, rfl⟩
                    have s53 : f 53 = .pointer (some ⟨g, 0, none⟩) := by rw [hf]; exact (hend 0 (by decide) (by decide)).1
                    have s65 : f 65 = (.agg #[.string ⟨kt.toArray⟩, .string ⟨tt.toArray⟩]) := by rw [hf]; exact (hend 12 (by decide) (by decide)).1
                    rw [← hf] at ha
                    clear hend hap
                    clear hf
                    subst ha
                    simp only [fill, stoS, Nat.reduceAdd, Nat.reduceBEq, Bool.or_false, Bool.or_true, cond_true, cond_false, List.drop_succ_cons, List.drop_zero, s53, s65]
                    have hhT := hhi.kept K hgT
                    have hst := K.set (kt, tt) hhT.sa
                    go_wp2_with (go_at_call 14; refine hst.mono ?_; rintro e w3 ⟨B3, R3, rfl, hs3, hd3⟩)
                    go_roundw
                    case rel => exact ⟨i0 + 1, B3, R3, _, by go_num, by omega, hhT.did K hd3 hs3, (set_all _ _).trans hsi⟩
                    case measure => simp [intOf]; omega
                · have kd := fun W (hg : wr.grownBy W none) => K.del kt (hhi.kept K hg).sa
                  go_wp2_with (first
                    | (go_at_call 8; refine (hKk _).mono ?_; rintro e w2 ⟨rfl, hg2⟩)
                    | (go_at_call 12; refine (kd _ hg2).mono ?_; rintro e w3 ⟨B3, R3, v3, rfl, hs3, hd3⟩))
                  go_roundw
                  case rel => exact ⟨i0 + 1, B3, R3, _, by go_num, by omega, (hhi.kept K hg2).did K hd3 hs3, (del_all _ _).trans hsi⟩
                  case measure => simp [intOf]; omega
              · have q1 : ¬ (i0 : Int) < (j : Int) + 1 + 4 := by omega
                have q2 : (i0 : Int) < (ns.length : Int) := by omega
                go_wp2
                go_meet
                exact ⟨Bi, Ri, si, hhi, hsi⟩
            · have q2 : ¬ (i0 : Int) < (ns.length : Int) := by omega
              go_wp2
              go_meet
              exact ⟨Bi, Ri, si, hhi, hsi⟩
        case rest =>
          obtain ⟨B2, R2, s2, hh2, hs2⟩ := hcut
          have hov := hh2.ov
          have kn := K'.nowN hh2.sa
          have hrl : rs.length = j := by have := congrArg List.length hrs.out; rw [List.length_map] at this; omega
          have hml : (rs.map rv).length = j := by rw [List.length_map, hrl]
          have hcm : s2.commits = j + 1 := by unfold Vers.commits; rw [hs2, hsj, if_pos (by omega)]
          have hc2 : s2.commit = ⟨s2.now, s2.all ++ [s2.now]⟩ := by unfold Vers.commit; rw [hs2, hsj, if_pos (by omega)]
          have kc := fun W B R (h : SA W g B R s2) => K.commit h
          rw [hcm, hc2, show ((j + 1 : Nat) : Int) = (j : Int) + 1 by omega] at kc
          have hmap : Hid (∀ A c, (rs ++ [((A, s2.now, c) : Rq)]).map (fun r => r.2.1) = s2.all ++ [s2.now]) := fun A c => by rw [List.map_append, hrs.out, hs2]; rfl
          have hlen2 : (s2.all ++ [s2.now]).length = j + 1 := by rw [hs2, List.length_append, hsj]; rfl
          replace hlen2 := Lib.hid hlen2
          clear hcm hc2 hs2 hsj hrl hh
          go_wp2_with (first
            | (go_at_call 18; refine kn.mono ?_; rintro e w2 ⟨v2, rfl, hp2, hf2, hg2⟩; obtain ⟨A2, c2, e2, hc2, hr2, hl2⟩ := hp2.form; subst e2)
            | (at_builtin; refine wpList_appV _ rfl _ _ 26 rfl Tryd.underlying26 info_listQ rfl rfl ((hov.kept hg2).alloc _) (news := [rv (A2, s2.now, c2)]) rfl rfl (rd_row (cs := [_]) (alloc_at rfl)) (by intro u hu; rw [List.mem_singleton.1 hu]; rfl) (by rw [hml]; simp; omega) (by rw [hml]; simp [maxLen]; omega) ?_))
          intro v3 w3 ho3 hg3
          have hltN : ∀ ad, A2 = some ad → wc.heap.size ≤ ad.block := fun ad e => hf2 _ (by rw [e]; rfl)
          have hh3 : Hold SA w g w3 v3 B2 R2 s2 (rs ++ [(A2, s2.now, c2)]) := by
            refine (hh2.kept K (grown_alloc hg2 _)).app K (r := (A2, s2.now, c2)) ⟨hr2.alloc _, hc2, fun ad e => ⟨fun hb => ?_, ?_⟩⟩ (fun kb e ad ea e2 => ?_) hg3 ho3
            · have h1 := (K.sub hh2.sa).2 _ ((K.sub hh2.sa).1 _ hb)
              have h2 := hltN ad e
              omega
            · have := hl2 ad e; simp; omega
            · have h1 := hh2.ov.lt kb e
              have h2 := hltN ad ea
              omega
          have kc3 := kc _ _ _ hh3.sa
          go_wp2_with (go_at_call 11; refine kc3.mono ?_; rintro e w4 ⟨B4, R4, rfl, hs4, hd4⟩)
          go_roundw
          case rel => exact ⟨j + 1, B4, R4, _, _, by omega, by go_num, hh3.did K hd4 hs4, hlen2.out, hmap.out _ _⟩
          case measure => simp [intOf]; omega
      · go_wp2
        go_meet
        exact ⟨B, R, s, rs, hh, by omega, hrs⟩
  case rest =>
    obtain ⟨B, R, s, rs, hh, hsk, hrs⟩ := hcut
    obtain ⟨A6, c6, e6, hc6, -, hr6⟩ := hh.ov.slice
    have hrl : rs.length = k := by have := congrArg List.length hrs.out; rw [List.length_map] at this; omega
    rw [List.length_map, hrl] at e6 hc6
    subst e6
    have hgw := hh.ro.grew
    have keep := fun w' (hg : wc.grownBy w' none) => K.keep hh.sa (.ofNone hg fun _ => False) (fun _ e => e.elim)
    go_wp2
    go_loopw [78] (fun i wr => ∃ j : Nat, j ≤ k ∧ i = .int .i64 (j : Int) ∧ wc.grownBy wr none) (fun i _ => k - (intOf i).toNat)
    case atStart => exact ⟨0, Nat.zero_le _, rfl, grown_refl _ _⟩
    case round =>
      obtain ⟨j, hj, rfl, hgr⟩ := hrel
      have hgwr := grown_none hgw hgr
      by_cases hlt : j < k
      · have hjI : (j : Int) < (k : Int) := by omega
        obtain ⟨ad, rfl, hcl0⟩ := RdAt.get (hr6.kept hgr) (k := j) (by rw [List.length_map, hrl]; exact hlt)
        rw [List.getElem_map] at hcl0
        have hat := at_row (s := s) hrs.out (j := j) (by omega)
        have hok := (hh.ok.kept hgr) rs[j] (List.getElem_mem _)
        have hri : rightL rs[j].2.1 = true := (K.right hh.sa).2.2 _ (by rw [← hrs.out]; exact List.mem_map.2 ⟨rs[j], List.getElem_mem _, rfl⟩)
        generalize rs[j] = r at *
        obtain ⟨hr0, hrc, -⟩ := hok
        obtain ⟨Ar, lr, cr⟩ := r
        unfold rv at hcl0
        dsimp only at hcl0 hat hr0 hrc hri
        have hlr := ((right_iff lr).1 hri).1
        have ka := fun W (hg : wr.grownBy W none) => K.at_ ((j : Int) + 1) (keep W (grown_none hgr hg)) (by omega)
        have kr := fun W (hg : wr.grownBy W none) => K.root ((j : Int) + 1) (keep W (grown_none hgr hg)) (hkl.kept (grown_none hgwr hg)) (by omega)
        have e6 : IntKind.i64.wrap ((k : Int) - 6) = (k : Int) - 6 := IntWalk.i64_in _ ⟨by omega, by omega⟩
        obtain ⟨nl, hnl⟩ : ∃ nl, nl = lr.length := ⟨_, rfl⟩
        have HNL := Lib.hid hnl
        rw [← hnl] at hcl0
        by_cases hin : s.all.length < j + 7
        · have hinI : (k : Int) - 6 < (j : Int) + 1 := by omega
          have hat1 := hat hin
          have hro : s.rootAt ((j : Int) + 1) = storeRootL lr := by unfold Vers.rootAt; rw [hat1]
          rw [hat1] at ka kr
          rw [hro] at kr
          obtain ⟨X, hX⟩ : ∃ X, X = storeRootL lr := ⟨_, rfl⟩
          have hXl : Hid (X.length = 32) := by rw [hX]; exact boundL_len _ _
          rw [← hX] at kr
          have hsr := fun W (hg : wr.grownBy W none) => K.sroot (RdAt.kept hr0 hg) hrc hri (hkl.kept (grown_none hgwr hg))
          rw [← hX, ← hnl] at hsr
          clear hX hro hat1 hat hnl
          go_upto_region 24 with (first
            | (go_at_call 19; refine (ka _ (grown_refl _ _)).mono ?_; rintro e w2 ⟨v2, rfl, hp2, -, hg2⟩; obtain ⟨A2, c2, e2, -, hr2, -⟩ := hp2.form; rw [show ((some lr).getD []).length = nl from HNL.out.symm] at e2; subst e2; replace hr2 : RdQ w2 A2 lr := hr2)
            | (go_at_call 20; refine (kr _ hg2).mono ?_; rintro e w3 ⟨rfl, hg3⟩)
            | (refine wpList_store_row rfl 40 _ _ rfl w3.heap.size (X.map bv).toArray rfl rfl 40 _ (alloc_at rfl) (hashV_size X hXl.out) (by rw [show (X.map bv).toArray.size = 32 from by rw [List.size_toArray, List.length_map, hXl.out]]; rfl) (bv_all' _) ?_; generalize hV : World.setRow _ w3.heap.size _ = V; have HV := new_hash hV; clear hV))
          have hgV := grown_none (grown_none hg2 hg3) HV.2
          have hsame := fun W (hg : V.grownBy W none) => SameQ_n A2 Ar lr lr nl nl c2 cr W (RdAt.kept hr2 (grown_none (grown_none hg3 HV.2) hg)) (RdAt.kept hr0 (grown_none hgV hg)) (by omega) (by omega) HNL.out HNL.out rfl
          have hbr := Lib.hid HV.1
          have hVs := hashV_size X hXl.out
          have hneq := neqIn_hash X hXl.out
          generalize (X.map bv).toArray = VX at *
          replace hVs := Lib.hid hVs
          clear HV ka kr hXl
          refine wp_region_grow (by kernel_rfl) (by kernel_rfl) ?_
          iterate 16
            with_reducible refine wpQuiet_step (fun K hK => ?_)
            go_simp
            first
              | (refine hK _ ?_; clear hK K)
              | (refine ⟨_, fun _ _ => rfl, hK _ ?_⟩; clear hK K)
              | (apply Exists.intro
                 refine ⟨fun wq hq => ?_, hK _ ?_⟩
                 (first
                   | (go_at_call 17; exact (hsame wq hq).mono fun _ _ h => ⟨h.1, grown_none hq h.2⟩))
                 clear hK K)
          with_reducible refine wpQuiet_step (fun K hK => ?_)
          rw [if_pos (by rfl)]
          refine quiet_load_row 40 _ rfl w3.heap.size rfl 40 VX (0, 0) _ (fun wq hq => keep_of hbr.out hq) Tryd.underlying40 rfl hVs.out (hK _ ?_)
          clear hK K
          iterate 2
            with_reducible refine wpQuiet_step (fun K hK => ?_)
            go_simp
            first
              | (refine hK _ ?_; clear hK K)
              | (refine ⟨_, fun _ _ => rfl, hK _ ?_⟩; clear hK K)
              | (apply Exists.intro
                 refine ⟨fun wq hq => ?_, hK _ ?_⟩
                 (first
                   | (go_at_call 27; exact (hsr wq (grown_none hgV hq)).mono fun _ _ h => ⟨h.1, grown_none hq h.2⟩))
                 clear hK K)
          with_reducible refine wpQuiet_step (fun K hK => ?_)
          rw [if_pos (by rfl)]
          refine quiet_bin rfl rfl rfl (fun _ => guard_neH _ _ _ _ _) hneq (hK _ ?_)
          clear hK K
          iterate 3
            with_reducible refine wpQuiet_step (fun K hK => ?_)
            go_simp
            first
              | (refine hK _ ?_; clear hK K)
              | (refine ⟨_, fun _ _ => rfl, hK _ ?_⟩; clear hK K)
          with_reducible refine wpQuiet_nil ?_
          intro wq hq
          go_wp2
          go_roundw
          case rel => exact ⟨j + 1, by omega, by go_num, grown_none hgr (grown_none hgV hq)⟩
          case measure => simp [intOf]; omega
        · have hinI : decide ((k : Int) - 6 < (j : Int) + 1) = false := decide_eq_false (by omega)
          have hat1 : s.at? ((j : Int) + 1) = none := Vers.at_no (by omega)
          obtain ⟨X, hX⟩ : ∃ X, X = s.rootAt ((j : Int) + 1) := ⟨_, rfl⟩
          have hXl : Hid (X.length = 32) := by rw [hX]; exact Vers.root_len _ _
          rw [hat1] at ka kr
          rw [← hX] at kr
          clear hX hat1 hat hnl
          go_upto_region 24 with (first
            | (go_at_call 19; refine (ka _ (grown_refl _ _)).mono ?_; rintro e w2 ⟨v2, rfl, hp2, -, hg2⟩)
            | (go_at_call 20; refine (kr _ hg2).mono ?_; rintro e w3 ⟨rfl, hg3⟩)
            | (refine wpList_store_row rfl 40 _ _ rfl w3.heap.size (X.map bv).toArray rfl rfl 40 _ (alloc_at rfl) (hashV_size X hXl.out) (by rw [show (X.map bv).toArray.size = 32 from by rw [List.size_toArray, List.length_map, hXl.out]]; rfl) (bv_all' _) ?_; generalize hV : World.setRow _ w3.heap.size _ = V; have HV := new_hash hV; clear hV))
          have hgV := grown_none (grown_none hg2 hg3) HV.2
          clear HV ka kr hXl
          refine wp_region_grow (by kernel_rfl) (by kernel_rfl) ?_
          iterate 23
            with_reducible refine wpQuiet_step (fun K hK => ?_)
            go_simp
            first
              | (refine hK _ ?_; clear hK K)
              | (refine ⟨_, fun _ _ => rfl, hK _ ?_⟩; clear hK K)
          with_reducible refine wpQuiet_nil ?_
          intro wq hq
          go_wp2
          go_roundw
          case rel => exact ⟨j + 1, by omega, by go_num, grown_none hgr (grown_none hgV hq)⟩
          case measure => simp [intOf]; omega
      · obtain rfl : j = k := by omega
        have hs' := keep wr hgr
        have hkp := K.kept hs'
        have hkl2 : s.kept.length = min j 6 := by rw [kept_len, hsk]
        have khe := fun W (hg : wr.grownBy W none) => K.height (keep W (grown_none hgr hg))
        rw [hkl2] at hkp
        rw [hsk] at khe
        have hru := fun W => StoreRuns_any SA K.toStoreJ W
        obtain ⟨mj, hmj⟩ : ∃ mj, mj = min j 6 := ⟨_, rfl⟩
        rw [← hmj] at hkp
        have hmi : ((if (6 : Int) < (j : Int) then (6 : Int) else (j : Int)) : Int) = (mj : Int) := by rw [hmj]; split <;> omega
        clear hkl2 hmj hsk
        go_wp2_with (first
          | (go_at_call 23; refine hkp.mono ?_; rintro e w2 ⟨A2, c2, rfl, -, -, hg2⟩)
          | (go_at_call 16; refine (khe _ hg2).mono ?_; rintro e w3 ⟨rfl, hg3⟩)
          | (go_at_call 24; refine (hru _).mono ?_; rintro e w4 ⟨rfl, hg4⟩))
        go_ret
        exact ⟨rfl, grown_none (grown_none (grown_none hgwr hg2) hg3) hg4⟩
end Go.Proofs.YtjdfnohlgeoniaaDoor
