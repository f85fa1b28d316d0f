/- slices.Clone, Grow, Concat of rows of pairs. Package kv: Set, Del, Range. Package kv: Set, Range. Package kv: Range, Right, Leaf. -/
import Derived.Test.YtjdfnohlgeoniaaDoorKL
namespace Go.Proofs.YtjdfnohlgeoniaaDoor
open Go.RowKit

theorem eq_nilQ (w : World) (A : Option Addr) (n c n' c' : Nat) : (binOp .eql 25 (.slice A n c) (.slice none n' c')).run Tryd.prog w = .ok (.bool A.isNone) w := Lib.run_eql_slice_nil w _ _ A n c n' c' Tryd.underlying25
/-- A slice of pairs without an address has none. -/
theorem RdQ.none {w : World} {ps : List Kv} (h : RdQ w none ps) : ps = [] := by
  rcases h with h | ⟨ad, e, _⟩
  · exact qcs_nil h
  · cases e
theorem emptyQ (w : World) : OwnQ (w.alloc (.cells #[] 29)) (.slice (some ⟨w.heap.size, 0, none⟩) 0 0) [] := ownQ_new w #[] [] 0 rfl rfl (Nat.zero_le _)

set_option maxRecDepth 100000 in
theorem CloneQ_new (A : Option Addr) (c : Nat) (ps : List Kv) (w : World) (hr : RdQ w A ps) (hn : ps.length ≤ 1000000) :
    Calls Tryd.prog 34 #[.slice A ps.length c] w fun e w' => ∃ v', e = .returned v' ∧ PB w' v' ps ∧ w.grownBy w' none ∧ ∀ x, v'.ownBlock = some x → w.heap.size ≤ x := by
  have q := eq_nilQ
  cases A with
  | none =>
    obtain rfl := hr.none
    go_enter Tryd.func34, Tryd.ntmps34
    go_wp2
    go_ret
    exact ⟨_, rfl, PB.nil _, grown_refl _ _, fun x e => by cases e⟩
  | some ad =>
    have hr2 := hr.alloc (.cells #[] 29)
    have hO := emptyQ w
    go_enter Tryd.func34, Tryd.ntmps34
    go_wp2_with (at_builtin; refine wpList_appQ rfl _ _ rfl rfl hO rfl rfl hr2 (by simp; omega) ?_)
    intro v' w' ho hg
    go_wp2
    go_ret
    exact ⟨_, rfl, ho.toPB, (Grew.fresh hg).nil, (Grew.fresh hg).new⟩
theorem CloneQ_any (A : Option Addr) (c : Nat) (ps : List Kv) (w : World) (hr : RdQ w A ps) (hn : ps.length ≤ 1000000) :
    Calls Tryd.prog 34 #[.slice A ps.length c] w fun e w' => ∃ v', e = .returned v' ∧ PB w' v' ps ∧ w.grownBy w' none :=
  (CloneQ_new A c ps w hr hn).mono fun _ _ ⟨v', h1, h2, h3, _⟩ => ⟨v', h1, h2, h3⟩

set_option maxRecDepth 100000 in
theorem Grow_nil (n : Nat) (w : World) (hn : n ≤ 1000000000) :
    Calls Tryd.prog 59 #[.slice none 0 0, .int .i64 (n : Nat)] w fun e w' => ∃ v', e = .returned v' ∧ OwnQ w' v' [] ∧ Grew w w' (.slice none 0 0) v' := by
  obtain ⟨i, hi, hz, hs, hby⟩ := info_parts info_kv
  rcases Nat.eq_zero_or_pos n with rfl | hpos
  · go_enter Tryd.func59, Tryd.ntmps59
    go_wp2
    go_ret
    exact ⟨_, rfl, OwnQ.nil _, Grew.refl _ _⟩
  · have hrz := fun ty => Lib.run_append_nil_zeros (P := Tryd.prog) w 25 3 ty 29 i _ .i64 .i64 Tryd.underlying25 Tryd.underlying3 hi hz n hpos (by omega) (by omega) (by rw [hby]; omega)
    have hge := grownCap_ge w n 0 29
    have hle := grownCap_le_maxLen w n 0 29 (by unfold maxLen; omega)
    generalize grownCap w n 0 29 = G at *
    have hzl : ∀ m, (Builtin.zeroCells (Value.agg #[.string ⟨#[]⟩, .string ⟨#[]⟩]).cells m).size = m * 2 := by
      intro m
      simp [Builtin.zeroCells, Value.cells]
    have hsl : ∀ (W : World), (Instr.sliceAt 25 (.slice (some ⟨w.heap.size, 0, none⟩) n G) none (some (.int .i64 0)) none).run Tryd.prog W = .ok (.slice (some ⟨w.heap.size, 0, none⟩) 0 G) W := fun W => sl_hiQ _ _ _ 0 (Nat.zero_le _) W
    have hsn : ∀ (W : World), (Instr.sliceAt 25 (.slice none 0 0) none (some (.int .i64 0)) none).run Tryd.prog W = .ok (.slice none 0 0) W := fun W => sl_hiQ _ _ _ 0 (Nat.le_refl _) W
    have hcs : ((Builtin.zeroCells (Value.agg #[.string ⟨#[]⟩, .string ⟨#[]⟩]).cells n) ++ (Builtin.zeroCells (Value.agg #[.string ⟨#[]⟩, .string ⟨#[]⟩]).cells (G - n))).size = G * 2 := by
      rw [Array.size_append, hzl, hzl]; omega
    generalize ((Builtin.zeroCells (Value.agg #[.string ⟨#[]⟩, .string ⟨#[]⟩]).cells n) ++ (Builtin.zeroCells (Value.agg #[.string ⟨#[]⟩, .string ⟨#[]⟩]).cells (G - n))) = cs at *
    clear hzl
    have hres : OwnQ (w.drew.alloc (.cells cs 29)) (.slice (some ⟨w.heap.size, 0, none⟩) 0 G) [] :=
      ⟨w.heap.size, by simp, by simp [qcs], .inr ⟨w.heap.size, G, cs, rfl, Nat.le_refl _, heap_alloc_new w.drew _, Nat.zero_le _, hle, hcs, by simp [qcs]⟩⟩
    go_enter Tryd.func59, Tryd.ntmps59
    go_wp2_with (at_builtin; refine Lib.wpList_append_run _ rfl _ _ 25 3 rfl _ _ rfl rfl _ _ (hrz _) ?_)
    go_ret
    exact ⟨_, rfl, hres, grown_alloc (grown_drew (grown_refl _ _)) _, .inr ⟨_, rfl, Nat.le_refl _⟩⟩

/-- What the slices hold together. -/
def catQ (ts : List (Value × List Kv)) : List Kv := ts.flatMap (·.2)
theorem catQ_next {ts : List (Value × List Kv)} {k : Nat} (h : k < ts.length) : catQ (ts.take (k + 1)) = catQ (ts.take k) ++ ts[k].2 := by
  rw [List.take_succ_eq_append_getElem h, catQ, List.flatMap_append]; simp [catQ]
theorem catQ_le (ts : List (Value × List Kv)) (k : Nat) : (catQ (ts.take k)).length ≤ (catQ ts).length := by
  have e : catQ ts = catQ (ts.take k) ++ catQ (ts.drop k) := by
    unfold catQ
    rw [← List.flatMap_append, List.take_append_drop]
  rw [e, List.length_append]; omega

set_option maxHeartbeats 2000000 in
set_option maxRecDepth 100000 in
theorem Concat_any (A : Option Addr) (c : Nat) (ts : List (Value × List Kv)) (w : World) (hr : RdAt w A (ts.map (·.1))) (hp : ∀ t ∈ ts, PS w t.1 t.2) (hb : (catQ ts).length ≤ 1000000) (hn : ts.length ≤ 1000) :
    Calls Tryd.prog 45 #[.slice A ts.length c] w fun e w' => ∃ v', e = .returned v' ∧ OwnQ w' v' (catQ ts) ∧ Grew w w' (.slice none 0 0) v' := by
  have hnext : ∀ (w' : World), w.grownBy w' none → ∀ k, k < ts.length → ∃ ad B cB, A = some ad ∧ w'.cell? (ad.add k) = some (.slice B ts[k]!.2.length cB) ∧ RdQ w' B ts[k]!.2 ∧ catQ (ts.take (k + 1)) = catQ (ts.take k) ++ ts[k]!.2 := by
    intro w' hg k hk
    obtain ⟨ad, hA, hc⟩ := (hr.kept hg).get (k := k) (by rw [List.length_map]; exact hk)
    obtain ⟨B, cB, e, _, hB⟩ := (hp ts[k] (List.getElem_mem hk)).kept hg
    rw [List.getElem_map, e] at hc
    rw [getElem!_pos ts k hk]
    exact ⟨ad, B, cB, hA, hc, hB, catQ_next hk⟩
  have hle := catQ_le ts
  have hall : catQ (ts.take ts.length) = catQ ts := by rw [List.take_length]
  clear hr hp
  go_enter Tryd.func45, Tryd.ntmps45
  go_wp2
  go_loopw [3, 11] (fun x i wr => ∃ k : Nat, k ≤ ts.length ∧ i = .int .i64 k ∧ x = .int .i64 ((catQ (ts.take k)).length : Nat) ∧ w = wr) (fun _ i _ => ts.length - (intOf i).toNat)
  case atStart => exact ⟨0, Nat.zero_le _, rfl, rfl, rfl⟩
  case round =>
    obtain ⟨k, hk, rfl, rfl, rfl⟩ := hrel
    by_cases hlt : k < ts.length
    · obtain ⟨ad, B, cB, rfl, hc, hB, hnx⟩ := hnext w (grown_refl _ _) k hlt
      have hl := hle (k + 1)
      rw [hnx, List.length_append] at hl
      have HN := Lib.hid hnx
      clear hnx
      generalize ts[k]! = t at *
      generalize hM : (catQ (ts.take k)).length = M at *
      go_wp2
      go_roundw
      case rel => exact ⟨k + 1, by omega, by go_num, by rw [HN.out, List.length_append, hM]; go_num, trivial⟩
      case measure => simp [intOf]; omega
    · obtain rfl : k = ts.length := by omega
      rw [hall]
      go_wp2_with (go_at_call 59; refine (Grow_nil _ _ (by omega)).mono ?_; rintro e w1 ⟨v1, rfl, ho1, hg1⟩)
      go_loopw [6, 27] (fun x i wr => ∃ k : Nat, k ≤ ts.length ∧ i = .int .i64 k ∧ OwnQ wr x (catQ (ts.take k)) ∧ Grew w wr (.slice none 0 0) x) (fun _ i _ => ts.length - (intOf i).toNat)
      case atStart => exact ⟨0, Nat.zero_le _, rfl, ho1, hg1⟩
      case round =>
        obtain ⟨k, hk, rfl, ho, hg⟩ := hrel
        by_cases hlt : k < ts.length
        · obtain ⟨ad, B, cB, rfl, hc, hB, hnx⟩ := hnext wr hg.nil k hlt
          have hl := hle (k + 1)
          rw [hnx, List.length_append] at hl
          have HN := Lib.hid hnx
          clear hnx
          generalize ts[k]! = t at *
          go_wp2_with (at_builtin; refine wpList_appQ rfl _ _ rfl rfl ho rfl rfl hB (by omega) ?_)
          intro v' w' ho' hg'
          go_wp2
          go_roundw
          case rel => exact ⟨k + 1, by omega, by go_num, by rw [HN.out]; exact ho', hg.trans hg'⟩
          case measure => simp [intOf]; omega
        · obtain rfl : k = ts.length := by omega
          rw [hall] at ho
          go_wp2
          go_ret
          exact ⟨_, rfl, ho, hg⟩
end Go.Proofs.YtjdfnohlgeoniaaDoor

namespace Go.Proofs.YtjdfnohlgeoniaaDoor
open Go.RowKit

def setL (ps : List Kv) (p : Kv) : List Kv := loL ps p.1 ++ p :: hiL ps p.1
def delL (ps : List Kv) (k : List UInt8) : List Kv := loL ps k ++ hiL ps k
theorem alloc_atQ {w : World} {o : Obj} {g : Nat} (hg : w.heap.size = g) : (w.alloc o).heap[g]? = some o := by subst hg; exact heap_alloc_new w o
theorem alloc_oldQ {w : World} {o o' : Obj} {g : Nat} (h : w.heap[g]? = some o) : (w.alloc o').heap[g]? = some o := by
  have hlt := (Array.getElem?_eq_some_iff.1 h).1
  show (w.heap.push o')[g]? = _
  rw [Array.getElem?_push_lt hlt, ← Array.getElem?_eq_getElem hlt]
  exact h
/-- Concat of two, of three. -/
theorem cat2 (W : World) (g : Nat) (v1 v2 : Value) (t : TypeId) (fr : Nat × Nat) (l1 l2 : List Kv) (hW : W.heap[g]? = some (.cells #[v1, v2] t fr)) (h1 : PS W v1 l1) (h2 : PS W v2 l2) (hb : (l1 ++ l2).length ≤ 1000000) :
    Calls Tryd.prog 45 #[.slice (some ⟨g, 0, none⟩) 2 2] W fun e w' => ∃ v', e = .returned v' ∧ OwnQ w' v' (l1 ++ l2) ∧ W.grownBy w' none ∧ ∀ x, v'.ownBlock = some x → W.heap.size ≤ x := by
  have e : catQ [(v1, l1), (v2, l2)] = l1 ++ l2 := by simp [catQ]
  refine (Concat_any (some ⟨g, 0, none⟩) 2 [(v1, l1), (v2, l2)] W (rd_row hW) (by simp [h1, h2]) (by rw [e]; exact hb) (by simp)).mono ?_
  rintro _ w' ⟨v', rfl, ho, hg⟩
  exact ⟨v', rfl, by rw [e] at ho; exact ho, hg.nil, hg.new⟩
theorem cat3 (W : World) (g : Nat) (v1 v2 v3 : Value) (t : TypeId) (fr : Nat × Nat) (l1 l2 l3 : List Kv) (hW : W.heap[g]? = some (.cells #[v1, v2, v3] t fr)) (h1 : PS W v1 l1) (h2 : PS W v2 l2) (h3 : PS W v3 l3) (hb : (l1 ++ (l2 ++ l3)).length ≤ 1000000) :
    Calls Tryd.prog 45 #[.slice (some ⟨g, 0, none⟩) 3 3] W fun e w' => ∃ v', e = .returned v' ∧ OwnQ w' v' (l1 ++ (l2 ++ l3)) ∧ W.grownBy w' none ∧ ∀ x, v'.ownBlock = some x → W.heap.size ≤ x := by
  have e : catQ [(v1, l1), (v2, l2), (v3, l3)] = l1 ++ (l2 ++ l3) := by simp [catQ]
  refine (Concat_any (some ⟨g, 0, none⟩) 3 [(v1, l1), (v2, l2), (v3, l3)] W (rd_row hW) (by simp [h1, h2, h3]) (by rw [e]; exact hb) (by simp)).mono ?_
  rintro _ w' ⟨v', rfl, ho, hg⟩
  exact ⟨v', rfl, by rw [e] at ho; exact ho, hg.nil, hg.new⟩
theorem lit_1q (a b : ByteArray) (w : World) : (Instr.buildSlice 25 1 #[(0, .agg #[.string a, .string b])]).run Tryd.prog w = .ok (.slice (some ⟨w.heap.size, 0, none⟩) 1 1) (w.alloc (.cells #[.string a, .string b] 29)) := by kernel_rfl
theorem lit_2p (v1 v2 : Value) (A1 A2 : Option Addr) (n1 c1 n2 c2 : Nat) (h1 : v1 = .slice A1 n1 c1) (h2 : v2 = .slice A2 n2 c2) (w : World) : (Instr.buildSlice 26 2 #[(0, v1), (1, v2)]).run Tryd.prog w = .ok (.slice (some ⟨w.heap.size, 0, none⟩) 2 2) (w.alloc (.cells #[v1, v2] 25)) := by subst h1 h2; kernel_rfl
theorem lit_3p (v1 v2 v3 : Value) (A1 A2 A3 : Option Addr) (n1 c1 n2 c2 n3 c3 : Nat) (h1 : v1 = .slice A1 n1 c1) (h2 : v2 = .slice A2 n2 c2) (h3 : v3 = .slice A3 n3 c3) (w : World) : (Instr.buildSlice 26 3 #[(0, v1), (1, v2), (2, v3)]).run Tryd.prog w = .ok (.slice (some ⟨w.heap.size, 0, none⟩) 3 3) (w.alloc (.cells #[v1, v2, v3] 25)) := by subst h1 h2 h3; kernel_rfl
/-- The one pair of a literal. -/
theorem ps_one {w : World} {g : Nat} (p : Kv) {t : TypeId} {fr : Nat × Nat} (h : w.heap[g]? = some (.cells #[.string ⟨p.1.toArray⟩, .string ⟨p.2.toArray⟩] t fr)) : PS w (.slice (some ⟨g, 0, none⟩) 1 1) [p] :=
  ⟨_, 1, rfl, Nat.le_refl _, rd_row h⟩

set_option maxRecDepth 100000 in
set_option maxHeartbeats 400000 in
set_option maxRecDepth 100000 in
theorem Del_new (A : Option Addr) (c : Nat) (ps : List Kv) (k : List UInt8) (w : World) (hr : RdQ w A ps) (hc : ps.length ≤ c) (hn : ps.length ≤ 1000) (hs : Rises ps) :
    Calls Tryd.prog 31 #[.slice A ps.length c, .string ⟨k.toArray⟩] w fun e w' => ∃ v', e = .returned v' ∧ PB w' v' (delL ps k) ∧ w.grownBy w' none ∧ ∀ x, v'.ownBlock = some x → w.heap.size ≤ x := by
  have hS := place_any A c ps k w hr (by omega) hs
  have hl := len_parts hs k
  have hlo := hr.take (lowN ps k)
  have hhi := RdQ.cut hr (k := lowN ps k + (atL ps k).length) hc
  rw [take_low hs] at hlo
  rw [drop_past hs] at hhi
  have hN : (loL ps k).length = lowN ps k := rfl
  have hcat : delL ps k = loL ps k ++ hiL ps k := rfl
  rw [hcat]
  clear hcat hr hs
  generalize lowN ps k = N at *
  generalize (atL ps k).length = M at *
  generalize loL ps k = lo at *
  generalize hiL ps k = hi at *
  have hlen : N + M + hi.length = ps.length := by omega
  have hTN : N ≤ N + M := by omega
  generalize N + M = T at *
  clear hl
  have H1 : ∀ W : World, w.grownBy W none → PS W (.slice A N c) lo := fun W hg => ⟨A, c, by rw [hN], by omega, hlo.kept hg⟩
  have H2 : ∀ W : World, w.grownBy W none → PS W (.slice (if c = T then A else A.map (·.add (T * 2))) (ps.length - T) (c - T)) hi := fun W hg => ⟨_, _, by rw [show ps.length - T = hi.length by omega], by omega, hhi.kept hg⟩
  have hb : (lo ++ hi).length ≤ 1000000 := by rw [List.length_append]; omega
  have s1 := sl_hiQ A ps.length c N (by omega)
  have s2 := sl_loQ A ps.length c T (by omega)
  have s3 := fun (A2 : Option Addr) (n2 c2 : Nat) (W : World) => lit_2p _ _ A A2 N c n2 c2 rfl rfl W
  clear hlo hhi
  generalize (if c = T then A else A.map (·.add (T * 2))) = B at *
  generalize ps.length - T = n2 at *
  generalize c - T = c2 at *
  go_enter Tryd.func31, Tryd.ntmps31
  go_wp2_with (go_at_call 44; refine hS.mono ?_; rintro e w1 ⟨rfl, hg⟩)
  have hcat := cat2 (w1.alloc (.cells #[.slice A N c, .slice B n2 c2] 25)).drew w1.heap.size (.slice A N c) (.slice B n2 c2) 25 (0, 0) lo hi (alloc_atQ rfl) (H1 _ (grown_drew (grown_alloc hg _))) (H2 _ (grown_drew (grown_alloc hg _))) hb
  go_region_with (go_at_call 45; refine hcat.mono ?_; rintro e w2 ⟨v2, rfl, ho, hg2, hf2⟩)
  all_goals
    go_wp2
    go_ret
    exact ⟨_, rfl, ho.toPB, grown_none (grown_drew (grown_alloc hg _)) hg2, fun x e => Nat.le_trans (grown_drew (grown_alloc hg _)).size (hf2 x e)⟩
theorem Del_any (A : Option Addr) (c : Nat) (ps : List Kv) (k : List UInt8) (w : World) (hr : RdQ w A ps) (hc : ps.length ≤ c) (hn : ps.length ≤ 1000) (hs : Rises ps) :
    Calls Tryd.prog 31 #[.slice A ps.length c, .string ⟨k.toArray⟩] w fun e w' => ∃ v', e = .returned v' ∧ PB w' v' (delL ps k) ∧ w.grownBy w' none :=
  (Del_new A c ps k w hr hc hn hs).mono fun _ _ ⟨v', h1, h2, h3, _⟩ => ⟨v', h1, h2, h3⟩
end Go.Proofs.YtjdfnohlgeoniaaDoor

namespace Go.Proofs.YtjdfnohlgeoniaaDoor
open Go.RowKit

theorem setL_len (ps : List Kv) (p : Kv) : (setL ps p).length = lowN ps p.1 + (1 + (hiL ps p.1).length) := by
  unfold setL
  rw [List.length_append, List.length_cons]
  show (loL ps p.1).length + _ = (loL ps p.1).length + _
  omega
/-- Is it taken? -/
def okL (ps : List Kv) (p : Kv) : Bool := mayQ p && decide ((setL ps p).length ≤ 30)
theorem box_at {w w' : World} {p : Kv} {t : TypeId} (hg : (w.alloc (.cells #[.string ⟨p.1.toArray⟩, .string ⟨p.2.toArray⟩] t)).grownBy w' none) : AtQ w' ⟨w.heap.size, 0, none⟩ p := by
  have h := (alloc_atQ (w := w) (o := .cells #[.string ⟨p.1.toArray⟩, .string ⟨p.2.toArray⟩] t) rfl)
  have h2 : w'.heap[w.heap.size]? = some (.cells #[.string ⟨p.1.toArray⟩, .string ⟨p.2.toArray⟩] t) := (hg.block _ (by simp) (by simp)).trans h
  exact ⟨by rw [cell_of_row _ _ 0 _ _ _ h2]; rfl, by show w'.cell? ⟨w.heap.size, 0 + 1, none⟩ = _; rw [cell_of_row _ _ _ _ _ _ h2]; rfl⟩

set_option maxRecDepth 100000 in
set_option maxHeartbeats 1000000 in
set_option maxRecDepth 100000 in
theorem Set_new (A : Option Addr) (c : Nat) (ps : List Kv) (p : Kv) (w : World) (hr : RdQ w A ps) (hc : ps.length ≤ c) (hn : ps.length ≤ 1000) (hs : Rises ps) :
    Calls Tryd.prog 32 #[.slice A ps.length c, .agg #[.string ⟨p.1.toArray⟩, .string ⟨p.2.toArray⟩]] w fun e w' => ∃ v', e = .returned (.tuple #[v', .bool (okL ps p)]) ∧ PB w' v' (if okL ps p then setL ps p else ps) ∧ w.grownBy w' none ∧ ∀ x, v'.ownBlock = some x → w.heap.size ≤ x := by
  have hS := fun (W : World) (hg : w.grownBy W none) => place_any A c ps p.1 W (hr.kept hg) (by omega) hs
  have hl := len_parts hs p.1
  have hlo := hr.take (lowN ps p.1)
  have hhi := RdQ.cut hr (k := lowN ps p.1 + (atL ps p.1).length) hc
  rw [take_low hs] at hlo
  rw [drop_past hs] at hhi
  have hN : (loL ps p.1).length = lowN ps p.1 := rfl
  have hsl := setL_len ps p
  have hcat : setL ps p = loL ps p.1 ++ ([p] ++ hiL ps p.1) := rfl
  have hP := isPair_any p
  have hok : okL ps p = (mayQ p && decide ((setL ps p).length ≤ 30)) := rfl
  rw [hsl] at hok
  generalize okL ps p = ok at *
  rw [hcat]
  clear hcat hs hsl
  generalize lowN ps p.1 = N at *
  generalize (atL ps p.1).length = M at *
  generalize loL ps p.1 = lo at *
  generalize hiL ps p.1 = hi at *
  generalize mayQ p = may at *
  have hlen : N + M + hi.length = ps.length := by omega
  have hTN : N ≤ N + M := by omega
  generalize N + M = T at *
  clear hl
  have H1 : ∀ W : World, w.grownBy W none → PS W (.slice A N c) lo := fun W hg => ⟨A, c, by rw [hN], by omega, hlo.kept hg⟩
  have H2 : ∀ W : World, w.grownBy W none → PS W (.slice (if c = T then A else A.map (·.add (T * 2))) (ps.length - T) (c - T)) hi := fun W hg => ⟨_, _, by rw [show ps.length - T = hi.length by omega], by omega, hhi.kept hg⟩
  have hb : (lo ++ ([p] ++ hi)).length ≤ 1000000 := by rw [List.length_append, List.length_append, List.length_singleton]; omega
  have s1 := sl_hiQ A ps.length c N (by omega)
  have s2 := sl_loQ A ps.length c T (by omega)
  have s3 := fun (g : Nat) (A2 : Option Addr) (n2 c2 : Nat) (W : World) => lit_3p _ _ _ A (some ⟨g, 0, none⟩) A2 N c 1 1 n2 c2 rfl rfl rfl W
  have s4 := lit_1q
  have hC := fun (W : World) (hg : w.grownBy W none) => CloneQ_new A c ps W (hr.kept hg) (by omega)
  clear hlo hhi hr
  generalize (if c = T then A else A.map (·.add (T * 2))) = B at *
  generalize hn2 : ps.length - T = n2 at *
  have hn2' : hi.length = n2 := by omega
  have hps : T + n2 = ps.length := by omega
  rw [hn2'] at hok
  clear hn2 hlen hn2'
  generalize c - T = c2 at *
  generalize hw0 : w.alloc (.cells #[.string ⟨p.1.toArray⟩, .string ⟨p.2.toArray⟩] 29) = w0
  have hg0 : w.grownBy w0 none := by rw [← hw0]; exact grown_alloc (grown_refl _ _) _
  have hbox : ∀ W, w0.grownBy W none → AtQ W ⟨w.heap.size, 0, none⟩ p := fun W h => box_at (by rw [hw0]; exact h)
  have HW := Lib.hid hw0
  have HO := Lib.hid hok
  clear hw0 hok
  cases may
  · obtain rfl : ok = false := HO.out
    clear HO
    go_enter Tryd.func32, Tryd.ntmps32
    go_wp2_with (first | (go_at_call 44; rw [HW.out]; refine (hS _ hg0).mono ?_; rintro e w1 ⟨rfl, hg1⟩; have hb1 := hbox _ hg1) | (refine wpList_load_kv (by rfl) _ rfl ⟨w.heap.size, 0, none⟩ rfl p hb1 ?_) | (go_at_call 46; refine (hP _).mono ?_; rintro e w2 ⟨rfl, hg2⟩; have hgw : w.grownBy w2 none := grown_none (grown_none hg0 hg1) hg2) | (go_at_call 34; refine (hC _ hgw).mono ?_; rintro e w3 ⟨v3, rfl, hp3, hg3, hf3⟩))
    go_ret2
    exact ⟨_, rfl, hp3, grown_none hgw hg3, fun x e => Nat.le_trans hgw.size (hf3 x e)⟩
  · by_cases hsz : N + (1 + n2) ≤ 30
    · obtain rfl : ok = true := by rw [HO.out]; simp [hsz]
      clear HO
      go_enter Tryd.func32, Tryd.ntmps32
      go_wp2_with (first | (go_at_call 44; rw [HW.out]; refine (hS _ hg0).mono ?_; rintro e w1 ⟨rfl, hg1⟩; have hb1 := hbox _ hg1) | (refine wpList_load_kv (by rfl) _ rfl ⟨w.heap.size, 0, none⟩ rfl p hb1 ?_) | (go_at_call 46; refine (hP _).mono ?_; rintro e w2 ⟨rfl, hg2⟩; have hgw : w.grownBy w2 none := grown_none (grown_none hg0 hg1) hg2) | (go_at_call 34; refine (hC _ hgw).mono ?_; rintro e w3 ⟨v3, rfl, hp3, hg3, hf3⟩))
      have hb2 := hbox _ (grown_none hg1 hg2)
      have c1 : w2.cell? ⟨w.heap.size, 0, none⟩ = some (.string ⟨p.1.toArray⟩) := hb2.1
      have c3 : w2.cell? ⟨w.heap.size, 1, none⟩ = some (.string ⟨p.2.toArray⟩) := hb2.2
      have hcat := cat3 ((w2.alloc (.cells #[.string ⟨p.1.toArray⟩, .string ⟨p.2.toArray⟩] 29)).alloc (.cells #[.slice A N c, .slice (some ⟨w2.heap.size, 0, none⟩) 1 1, .slice B n2 c2] 25)).drew (w2.heap.size + 1) (.slice A N c) (.slice (some ⟨w2.heap.size, 0, none⟩) 1 1) (.slice B n2 c2) 25 (0, 0) lo [p] hi (alloc_atQ (by simp)) (H1 _ (grown_drew (grown_alloc (grown_alloc hgw _) _))) (ps_one p (t := 29) (fr := (0, 0)) (alloc_oldQ (alloc_atQ rfl))) (H2 _ (grown_drew (grown_alloc (grown_alloc hgw _) _))) hb
      go_region_with (go_at_call 45; refine hcat.mono ?_; rintro e w3 ⟨v3, rfl, ho, hg3, hf3⟩)
      all_goals
        go_wp2
        go_ret2
        exact ⟨_, rfl, ho.toPB, grown_none (grown_drew (grown_alloc (grown_alloc hgw _) _)) hg3, fun x e => Nat.le_trans (grown_drew (grown_alloc (grown_alloc hgw _) _)).size (hf3 x e)⟩
    · obtain rfl : ok = false := by rw [HO.out]; simp; omega
      clear HO
      go_enter Tryd.func32, Tryd.ntmps32
      go_wp2_with (first | (go_at_call 44; rw [HW.out]; refine (hS _ hg0).mono ?_; rintro e w1 ⟨rfl, hg1⟩; have hb1 := hbox _ hg1) | (refine wpList_load_kv (by rfl) _ rfl ⟨w.heap.size, 0, none⟩ rfl p hb1 ?_) | (go_at_call 46; refine (hP _).mono ?_; rintro e w2 ⟨rfl, hg2⟩; have hgw : w.grownBy w2 none := grown_none (grown_none hg0 hg1) hg2) | (go_at_call 34; refine (hC _ hgw).mono ?_; rintro e w3 ⟨v3, rfl, hp3, hg3, hf3⟩))
      go_ret2
      exact ⟨_, rfl, hp3, grown_none hgw hg3, fun x e => Nat.le_trans hgw.size (hf3 x e)⟩
theorem Set_any (A : Option Addr) (c : Nat) (ps : List Kv) (p : Kv) (w : World) (hr : RdQ w A ps) (hc : ps.length ≤ c) (hn : ps.length ≤ 1000) (hs : Rises ps) :
    Calls Tryd.prog 32 #[.slice A ps.length c, .agg #[.string ⟨p.1.toArray⟩, .string ⟨p.2.toArray⟩]] w fun e w' => ∃ v', e = .returned (.tuple #[v', .bool (okL ps p)]) ∧ PB w' v' (if okL ps p then setL ps p else ps) ∧ w.grownBy w' none :=
  (Set_new A c ps p w hr hc hn hs).mono fun _ _ ⟨v', h1, h2, h3, _⟩ => ⟨v', h1, h2, h3⟩
end Go.Proofs.YtjdfnohlgeoniaaDoor

namespace Go.Proofs.YtjdfnohlgeoniaaDoor
open Go.RowKit

def rangeL (ps : List Kv) (s e : List UInt8) : List Kv := ps.filter fun p => !kl p.1 s && kl p.1 e
/-- A filter that keeps just the places from a on, below b. -/
theorem filter_cut (f : Kv → Bool) : ∀ (ps : List Kv) (a b : Nat), a ≤ b → b ≤ ps.length → (∀ i (h : i < ps.length), f ps[i] = (decide (a ≤ i) && decide (i < b))) → (ps.drop a).take (b - a) = ps.filter f
  | [], a, b, _, _, _ => by simp
  | p :: ps, 0, 0, _, _, h => by
    have e : (p :: ps).filter f = [] := List.filter_eq_nil_iff.2 fun q hq e => by
      obtain ⟨i, hi, rfl⟩ := List.getElem_of_mem hq
      rw [h i hi] at e
      simp at e
    rw [e]; rfl
  | p :: ps, 0, b + 1, _, hb, h => by
    have h0 := h 0 (by simp)
    simp at h0
    have ih := filter_cut f ps 0 b (by omega) (by simpa using hb) fun i hi => by
      have := h (i + 1) (by simpa using hi)
      simpa using this
    rw [List.filter_cons, h0, if_pos rfl, ← ih]
    simp
  | p :: ps, a + 1, 0, hab, _, _ => by omega
  | p :: ps, a + 1, b + 1, hab, hb, h => by
    have h0 := h 0 (by simp)
    simp at h0
    have ih := filter_cut f ps a b (by omega) (by simpa using hb) fun i hi => by
      have := h (i + 1) (by simpa using hi)
      simpa using this
    rw [List.filter_cons, h0, if_neg (by simp), ← ih, List.drop_succ_cons]
    congr 1
    omega
theorem range_cut {ps : List Kv} (h : Rises ps) (s e : List UInt8) : (ps.drop (lowN ps s)).take (max (lowN ps s) (lowN ps e) - lowN ps s) = rangeL ps s e := by
  have hs := lowN_le ps s
  have he := lowN_le ps e
  refine filter_cut _ ps _ _ (by omega) (by omega) fun i hi => ?_
  have e1 : kl ps[i].1 s = decide (i < lowN ps s) := by
    by_cases h1 : i < lowN ps s
    · rw [below_low h s h1 hi]; simp [h1]
    · rw [above_low h s (by omega) hi]; simp [h1]
  have e2 : kl ps[i].1 e = decide (i < lowN ps e) := by
    by_cases h1 : i < lowN ps e
    · rw [below_low h e h1 hi]; simp [h1]
    · rw [above_low h e (by omega) hi]; simp [h1]
  rw [e1, e2]
  by_cases h1 : i < lowN ps s <;> by_cases h2 : i < lowN ps e <;> simp [h1, h2] <;> omega
theorem sl_lhQ (A : Option Addr) (n c a b : Nat) (hab : a ≤ b) (hb : b ≤ c) (w : World) : (Instr.sliceAt 25 (.slice A n c) (some (.int .i64 (a : Int))) (some (.int .i64 (b : Int))) none).run Tryd.prog w = .ok (.slice (if c = a then A else A.map (·.add (a * 2))) (b - a) (c - a)) w := by
  rw [run_sliceAt_slice (P := Tryd.prog) (w := w) (t := 25) (h := by kernel_rfl), run_slice_lh (P := Tryd.prog) (w := w) (ht := by kernel_rfl) (h0 := by omega) (h1 := by omega) (h2 := by omega)]
  have he : (sizeOf (Tryd.prog.elem 25)).run Tryd.prog w = .ok 2 w := by kernel_rfl
  rw [he, Result.andThen_ok]
  simp [sliced]

/-! ## Right -/

/-- Is the pair at that place as it should be? -/
def okAt (ps : List Kv) (i : Nat) : Bool := mayQ ps[i]! && (decide (i = 0) || kl ps[i - 1]!.1 ps[i]!.1)
def goodL (ps : List Kv) : Bool := (List.range ps.length).all (okAt ps)
def rightL (ps : List Kv) : Bool := decide (ps.length ≤ 30) && goodL ps
theorem rises_of : ∀ ps : List Kv, (∀ i, i < ps.length → i = 0 ∨ kl ps[i - 1]!.1 ps[i]!.1 = true) → Rises ps
  | [], _ => List.Pairwise.nil
  | [p], _ => List.pairwise_singleton ..
  | p :: q :: ps, h => by
    have h1 := h 1 (by simp)
    simp at h1
    have ih := rises_of (q :: ps) fun i hi => by
      rcases Nat.eq_zero_or_pos i with rfl | hp
      · exact .inl rfl
      · have := h (i + 1) (by simpa using hi)
        obtain ⟨j, rfl⟩ : ∃ j, i = j + 1 := ⟨i - 1, by omega⟩
        right
        simpa using this
    refine List.Pairwise.cons (fun x hx => ?_) ih
    rcases List.mem_cons.1 hx with rfl | hx
    · exact h1
    · exact kl_trans h1 ((List.pairwise_cons.1 ih).1 x hx)
theorem rises_next {ps : List Kv} (h : Rises ps) (i : Nat) (hi : i + 1 < ps.length) : kl ps[i].1 ps[i + 1].1 = true := List.pairwise_iff_getElem.1 h i (i + 1) (by omega) hi (by omega)
theorem good_iff (ps : List Kv) : goodL ps = true ↔ (∀ p ∈ ps, mayQ p = true) ∧ Rises ps := by
  unfold goodL okAt
  simp only [List.all_eq_true, List.mem_range, Bool.and_eq_true, Bool.or_eq_true, decide_eq_true_eq]
  constructor
  · intro h
    refine ⟨fun p hp => ?_, rises_of ps fun i hi => (h i hi).2⟩
    obtain ⟨i, hi, rfl⟩ := List.getElem_of_mem hp
    have := (h i hi).1
    rwa [getElem!_pos ps i hi] at this
  · rintro ⟨h1, h2⟩ i hi
    refine ⟨by rw [getElem!_pos ps i hi]; exact h1 _ (List.getElem_mem hi), ?_⟩
    rcases Nat.eq_zero_or_pos i with rfl | hp
    · exact .inl rfl
    · obtain ⟨j, rfl⟩ : ∃ j, i = j + 1 := ⟨i - 1, by omega⟩
      right
      rw [Nat.add_sub_cancel, getElem!_pos ps j (by omega), getElem!_pos ps (j + 1) hi]
      exact rises_next h2 j hi
theorem right_iff (ps : List Kv) : rightL ps = true ↔ ps.length ≤ 30 ∧ (∀ p ∈ ps, mayQ p = true) ∧ Rises ps := by
  unfold rightL
  rw [Bool.and_eq_true, decide_eq_true_eq, good_iff]
end Go.Proofs.YtjdfnohlgeoniaaDoor
