/- The landed store in memory; New, Height, Set, Del. -/
import Derived.Test.YtjdfnohlgeoniaaDoorStD0
namespace Go.Proofs.YtjdfnohlgeoniaaDoor
open Go.RowKit

theorem GrewIn.ownV {w w' : World} {C : Nat → Prop} {t : TypeId} {v : Value} {xs : List Value} (hd : GrewIn w w' C) (h : OwnV t w v xs) (hb : ∀ g, v.ownBlock = some g → ¬ C g) : OwnV t w' v xs := by
  have hlt := h.lt
  obtain ⟨base, hbs, h1, h2⟩ := h
  refine ⟨base, Nat.le_trans hbs hd.size, h1, ?_⟩
  rcases h2 with hn | ⟨g, cap, cur, rfl, hbg, hgg, rest⟩
  · exact .inl hn
  · exact .inr ⟨g, cap, cur, rfl, hbg, (hd.block g (hlt g rfl) (hb g rfl)).trans hgg, rest⟩

theorem bodyPost_end0' {P : Program} {fn : Func} {R : Ending → World → Prop} {a : Act} {w : World} (hr : fn.results = #[]) (hd : a.defers = []) (hR : R (.returned (.tuple #[])) w) : bodyPost P fn R .normal a w :=
  bodyPost_end (results_none hr _ _ _) hd hR
/-- At block g a store lies that is s: its fields one by one. -/
structure SAx (w : World) (g : Nat) (B R : Nat → Prop) (s : Vers) (A : Option Addr) (c : Nat) (kv : Value) (rs : List Rq) : Prop where
  hg : w.heap[g]? = some (.cells #[.slice A s.now.length c, .int .i64 (s.all.length : Nat), kv] 54 (0, 0))
  rn : RdQ w A s.now
  cn : s.now.length ≤ c
  an : ∀ ad, A = some ad → R ad.block ∧ ¬ B ad.block
  ok : OwnV 25 w kv (rs.map rv)
  bk : ∀ x, kv.ownBlock = some x → B x ∧ x ≠ g
  rr : ∀ r ∈ rs, RdQ w r.1 r.2.1 ∧ r.2.1.length ≤ r.2.2 ∧ ∀ ad, r.1 = some ad → R ad.block ∧ ¬ B ad.block
  rk : rs.map (fun r => r.2.1) = s.all.drop (s.all.length - 6)
  bg : B g
  br : ∀ x, B x → R x
  rl : ∀ x, R x → x < w.heap.size
  ri : rightL s.now = true ∧ s.all.length ≤ 16 ∧ ∀ r ∈ s.all, rightL r = true
/-- A store, as the laws' road asks. -/
def SA (w : World) (g : Nat) (B R : Nat → Prop) (s : Vers) : Prop := ∃ A c kv rs, SAx w g B R s A c kv rs

section
variable {w w' : World} {g : Nat} {B R C : Nat → Prop} {s : Vers} {A : Option Addr} {c : Nat} {kv : Value} {rs : List Rq}
theorem SAx.lt (x : SAx w g B R s A c kv rs) : g < w.heap.size := x.rl _ (x.br _ x.bg)
theorem SAx.keep (x : SAx w g B R s A c kv rs) (h : GrewIn w w' C) (hC : ∀ k, C k → ¬ R k) : SAx w' g B R s A c kv rs where
  hg := (h.block g x.lt (fun e => hC _ e (x.br _ x.bg))).trans x.hg
  rn := h.keep x.rn (fun ad e => x.rl _ (x.an ad e).1) (fun ad e hc => hC _ hc (x.an ad e).1)
  cn := x.cn
  an := x.an
  ok := h.ownV x.ok (fun k e hc => hC _ hc (x.br _ (x.bk k e).1))
  bk := x.bk
  rr := fun r hr => ⟨h.keep (x.rr r hr).1 (fun ad e => x.rl _ ((x.rr r hr).2.2 ad e).1) (fun ad e hc => hC _ hc ((x.rr r hr).2.2 ad e).1), (x.rr r hr).2⟩
  rk := x.rk
  bg := x.bg
  br := x.br
  rl := fun k hk => Nat.lt_of_lt_of_le (x.rl k hk) h.size
  ri := x.ri
theorem SAx.kept (x : SAx w g B R s A c kv rs) (h : w.grownBy w' none) : SAx w' g B R s A c kv rs := x.keep (.ofNone h fun _ => False) fun _ e => e.elim
theorem SAx.cell0 (x : SAx w g B R s A c kv rs) : w.cell? ⟨g, 0, none⟩ = some (.slice A s.now.length c) := by rw [cell_of_row _ _ 0 _ _ _ x.hg]; rfl
theorem SAx.cell1 (x : SAx w g B R s A c kv rs) : w.cell? ⟨g, 1, none⟩ = some (.int .i64 (s.all.length : Nat)) := by rw [cell_of_row _ _ 1 _ _ _ x.hg]; rfl
theorem SAx.cell2 (x : SAx w g B R s A c kv rs) : w.cell? ⟨g, 2, none⟩ = some kv := by rw [cell_of_row _ _ 2 _ _ _ x.hg]; rfl
theorem SAx.froz (x : SAx w g B R s A c kv rs) (i : Nat) : w.frozen? ⟨g, i, none⟩ = false := frozen_of_row w g i _ _ x.hg
theorem SAx.len (x : SAx w g B R s A c kv rs) : rs.length = min s.all.length 6 := by
  have := congrArg List.length x.rk
  rw [List.length_map, List.length_drop] at this
  omega
theorem setCell_in (w : World) (g i : Nat) (v : Value) : GrewIn w (w.setCell ⟨g, i, none⟩ v) (· = g) :=
  ⟨rfl, rfl, rfl, by simp [World.setCell], fun k _ hk => Below.heap_setCell w ⟨g, i, none⟩ v k (fun e => hk e)⟩
/-- The blocks that a store stands on, and those that are new. -/
def More (R : Nat → Prop) (w w' : World) (k : Nat) : Prop := R k ∨ (w.heap.size ≤ k ∧ k < w'.heap.size)
/-- Another row is put for what is now. -/
theorem SAx.put (x : SAx w g B R s A c kv rs) (h : w.grownBy w' none) {A' : Option Addr} {c' : Nat} {ps : List Kv} (hp : PB w' (.slice A' ps.length c') ps) (hf : ∀ k, (Value.slice A' ps.length c').ownBlock = some k → w.heap.size ≤ k) (hr : rightL ps = true) :
    SA (w'.setCell ⟨g, 0, none⟩ (.slice A' ps.length c')) g B (More R w w') ⟨ps, s.all⟩ ∧ Did w (w'.setCell ⟨g, 0, none⟩ (.slice A' ps.length c')) B R B (More R w w') := by
  obtain ⟨A1, c1, e1, hc1, hr1, hl1⟩ := hp.form
  cases e1
  have x1 := x.kept h
  have hS := setCell_in w' g 0 (.slice A' ps.length c')
  have hlt := x.lt
  have hBR : ∀ k, B k → k < w.heap.size := fun k hk => x.rl k (x.br k hk)
  have hne : ∀ k, ¬ B k → ¬ k = g := fun k hk e => hk (by rw [e]; exact x.bg)
  have hA : ∀ ad, A' = some ad → w.heap.size ≤ ad.block := fun ad e => hf _ (by rw [e]; rfl)
  refine ⟨⟨A', c', kv, rs, ?_⟩, ?_⟩
  · exact {
      hg := heap_setCell_same w' g 0 _ _ _ x1.hg
      rn := hS.keep hr1 hl1 (fun ad e e2 => by have := hA ad e; omega)
      cn := hc1
      an := fun ad e => ⟨.inr ⟨hA ad e, hl1 ad e⟩, fun hb => by have := hA ad e; have := hBR _ hb; omega⟩
      ok := hS.ownV x1.ok (fun k e => (x.bk k e).2)
      bk := x.bk
      rr := fun r hr => ⟨hS.keep (x1.rr r hr).1 (fun ad e => x1.rl _ ((x1.rr r hr).2.2 ad e).1) (fun ad e => hne _ ((x.rr r hr).2.2 ad e).2), (x.rr r hr).2.1, fun ad e => ⟨.inl ((x.rr r hr).2.2 ad e).1, ((x.rr r hr).2.2 ad e).2⟩⟩
      rk := x.rk
      bg := x.bg
      br := fun k hk => .inl (x.br k hk)
      rl := fun k hk => by
        refine Nat.lt_of_lt_of_le ?_ hS.size
        rcases hk with hk | hk
        · exact x1.rl k hk
        · exact hk.2
      ri := ⟨hr, x.ri.2⟩ }
  · exact ⟨(GrewIn.ofNone h B).trans hS (fun k e => .inl (by rw [e]; exact x.bg)), fun k hk => .inl hk, fun k hk => hk.imp id (fun h => h.1)⟩
end

set_option maxRecDepth 100000 in
theorem New_any (w : World) : Calls Tryd.prog 7 #[] w fun e w' => ∃ g B R, e = .returned (sptr g) ∧ SA w' g B R ⟨[], []⟩ ∧ (∀ x, R x → w.heap.size ≤ x) ∧ w.grownBy w' none := by
  go_enter Tryd.func7, Tryd.ntmps7
  go_wp2
  go_ret
  refine ⟨w.heap.size, (· = w.heap.size), (· = w.heap.size), rfl, ⟨none, 0, .slice none 0 0, [], ?_⟩, fun x e => by rw [e]; exact Nat.le_refl _, grown_alloc (grown_refl _ _) _⟩
  exact {
    hg := heap_alloc_new _ _
    rn := RdAt.nil
    cn := Nat.le_refl _
    an := fun ad e => by cases e
    ok := OwnV.nil _
    bk := fun x e => by cases e
    rr := fun r hr => by cases hr
    rk := rfl
    bg := rfl
    br := fun x e => e
    rl := fun x e => by rw [e]; simp
    ri := ⟨by kernel_rfl, by simp, fun r hr => by cases hr⟩ }

set_option maxRecDepth 100000 in
theorem Height_any {w : World} {g : Nat} {B R : Nat → Prop} {s : Vers} (h : SA w g B R s) : Calls Tryd.prog 16 #[sptr g] w fun e w' => e = .returned (.int .i64 (s.all.length : Nat)) ∧ w.grownBy w' none := by
  obtain ⟨A, c, kv, rs, x⟩ := h
  have c1 := x.cell1
  clear x
  unfold sptr
  go_enter Tryd.func16, Tryd.ntmps16
  go_wp2
  go_ret
  exact ⟨rfl, grown_refl _ _⟩

set_option maxRecDepth 100000 in
theorem SDel_any {w : World} {g : Nat} {B R : Nat → Prop} {s : Vers} (k : List UInt8) (h : SA w g B R s) : Calls Tryd.prog 12 #[sptr g, .string ⟨k.toArray⟩] w fun e w' => ∃ B' R' v, e = .returned v ∧ SA w' g B' R' (s.del k) ∧ Did w w' B R B' R' := by
  obtain ⟨A, c, kv, rs, x⟩ := h
  obtain ⟨hlen, -, hri⟩ := (right_iff _).1 x.ri.1
  have hD := Del_new A c s.now k w x.rn x.cn (by omega) hri
  have hright := right_del x.ri.1 k
  have c0 := x.cell0
  have hcell : ∀ w1, w.grownBy w1 none → w1.cell? ⟨g, 0, none⟩ = some (.slice A s.now.length c) ∧ w1.frozen? ⟨g, 0, none⟩ = false := fun w1 hg => ⟨(x.kept hg).cell0, (x.kept hg).froz 0⟩
  have X := Lib.hid x
  clear x
  unfold Vers.del
  unfold sptr
  go_enter Tryd.func12, Tryd.ntmps12
  go_wp2_with (go_at_call 31; refine hD.mono ?_; rintro e w1 ⟨v1, rfl, hp1, hg1, hf1⟩; obtain ⟨A1, c1, e1, -, -, -⟩ := hp1.form; subst e1; obtain ⟨hc1, hz1⟩ := hcell _ hg1)
  refine bodyPost_end0' rfl rfl ?_
  exact ⟨_, _, _, rfl, (X.out.put hg1 hp1 hf1 hright).1, (X.out.put hg1 hp1 hf1 hright).2⟩

set_option maxRecDepth 100000 in
theorem SSet_any {w : World} {g : Nat} {B R : Nat → Prop} {s : Vers} (p : Kv) (h : SA w g B R s) : Calls Tryd.prog 14 #[sptr g, .agg #[.string ⟨p.1.toArray⟩, .string ⟨p.2.toArray⟩]] w fun e w' => ∃ B' R', e = .returned (.bool (okL s.now p)) ∧ SA w' g B' R' (s.set p) ∧ Did w w' B R B' R' := by
  obtain ⟨A, c, kv, rs, x⟩ := h
  obtain ⟨hlen, -, hri⟩ := (right_iff _).1 x.ri.1
  have hS := fun W (hg : w.grownBy W none) => Set_new A c s.now p W (x.rn.kept hg) x.cn (by omega) hri
  have hright := fun ho => right_set x.ri.1 (p := p) ho
  have hcell : ∀ w1, w.grownBy w1 none → w1.cell? ⟨g, 0, none⟩ = some (.slice A s.now.length c) ∧ w1.frozen? ⟨g, 0, none⟩ = false := fun w1 hg => ⟨(x.kept hg).cell0, (x.kept hg).froz 0⟩
  have X := Lib.hid x
  clear x
  have hsv : s.set p = if okL s.now p then ⟨setL s.now p, s.all⟩ else s := rfl
  rw [hsv]
  clear hsv
  generalize hw0 : w.alloc (.cells #[.string ⟨p.1.toArray⟩, .string ⟨p.2.toArray⟩] 29) = w0
  have hg0 : w.grownBy w0 none := by rw [← hw0]; exact grown_alloc (grown_refl _ _) _
  have hbox : AtQ w0 ⟨w.heap.size, 0, none⟩ p := box_at (by rw [hw0]; exact grown_refl _ _)
  have hb0 : w0.cell? ⟨w.heap.size, 0, none⟩ = some (.string ⟨p.1.toArray⟩) := hbox.1
  have hb1 : w0.cell? ⟨w.heap.size, 1, none⟩ = some (.string ⟨p.2.toArray⟩) := hbox.2
  obtain ⟨hc0, -⟩ := hcell _ hg0
  have HW := Lib.hid hw0
  have hS0 := hS w0.drew (grown_drew hg0)
  clear hw0 hbox hS
  have HR := Lib.hid hright
  clear hright
  cases hok : okL s.now p
  · rw [hok] at hS0
    unfold sptr
    go_enter Tryd.func14, Tryd.ntmps14
    go_upto_region 1 with (fail)
    rw [HW.out]
    go_region_with (go_at_call 32; refine hS0.mono ?_; rintro e w1 ⟨v1, rfl, hp1, hg1, hf1⟩)
    all_goals
      go_wp2
      go_ret
      exact ⟨rfl, B, R, ⟨A, c, kv, rs, X.out.kept (grown_none (grown_drew hg0) hg1)⟩, .ofNone (grown_none (grown_drew hg0) hg1) B, fun _ h => .inl h, fun _ h => .inl h⟩
  · rw [hok] at hS0
    unfold sptr
    go_enter Tryd.func14, Tryd.ntmps14
    go_upto_region 1 with (fail)
    rw [HW.out]
    go_region_with (go_at_call 32; refine hS0.mono ?_; rintro e w1 ⟨v1, rfl, hp1, hg1, hf1⟩; obtain ⟨A1, c1, e1, -, -, -⟩ := hp1.form; obtain ⟨hc1, hz1⟩ := hcell _ (grown_none (grown_drew hg0) hg1); simp only [if_true] at hp1 e1; subst e1)
    all_goals
      go_wp2
      go_ret
      have hP := X.out.put (grown_none (grown_drew hg0) hg1) hp1 (fun k e => Nat.le_trans hg0.size (hf1 k e)) (HR.out hok)
      exact ⟨rfl, _, _, hP.1, hP.2⟩
end Go.Proofs.YtjdfnohlgeoniaaDoor
