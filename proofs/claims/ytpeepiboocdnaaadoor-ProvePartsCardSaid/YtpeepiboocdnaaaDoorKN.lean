/- Package kv: Right; the document's own RightPairs. The document's own RightPair and RightPairs. The document's own First, Del; two rows of pairs compared. Two rows of pairs compared; the document's own Set. The document's own Set. The statements' keys and texts. Rows of pairs told by what is in them: set in any order, taken out. -/
import Derived.Test.YtpeepiboocdnaaaDoorKM
import Derived.Test.YtpeepiboocdnaaaDoorKC
import Derived.Laws.StructEq
import Derived.Test.YtpeepiboocdnaaaDoorKA
namespace Go.Proofs.YtpeepiboocdnaaaDoor
open Go.RowKit

theorem okAt_zero {ps : List Kv} (h : 0 < ps.length) : okAt ps 0 = mayQ ps[0] := by
  unfold okAt
  rw [getElem!_pos ps 0 h]
  simp
theorem okAt_succ {ps : List Kv} {j : Nat} (h : j + 1 < ps.length) : okAt ps (j + 1) = (mayQ ps[j + 1] && kl ps[j].1 ps[j + 1].1) := by
  unfold okAt
  rw [getElem!_pos ps (j + 1) h, Nat.add_sub_cancel, getElem!_pos ps j (by omega)]
  simp
theorem good_all {ps : List Kv} (h : ∀ j, j < ps.length → okAt ps j = true) : goodL ps = true := by
  unfold goodL
  rw [List.all_eq_true]
  intro j hj
  exact h j (List.mem_range.1 hj)
theorem good_not {ps : List Kv} {j : Nat} (hj : j < ps.length) (h : okAt ps j = false) : goodL ps = false := by
  cases hg : goodL ps
  · rfl
  · unfold goodL at hg
    rw [List.all_eq_true] at hg
    rw [hg j (List.mem_range.2 hj)] at h; cases h
theorem upto_succ {ps : List Kv} {k : Nat} (h : ∀ j, j < k → okAt ps j = true) (hk : okAt ps k = true) : ∀ j, j < k + 1 → okAt ps j = true := by
  intro j hj
  rcases Nat.lt_or_ge j k with h1 | h1
  · exact h j h1
  · rw [show j = k by omega]; exact hk
/-- A region that draws its order, whose operations read and whose calls only make new memory: one walk, in the order of the text. -/
theorem wp_region_grow {P : Program} {id : Nat} {Q : Exit → Act → World → Prop} {a : Act} {w : World} {l : List Oper} (hm : P.follows .mixedOrders = true) (hB : Region.lexB .any l.toArray = true)
    (h : wpQuiet P l.toArray (fun w' => w.grownBy w' none) (fun a' => ∀ w', w.grownBy w' none → Q .normal a' w') l a) : (Code.region id l.toArray true).wp P Q a w :=
  wp_region_quiet (C := fun w' => w.grownBy w' none) hm hB (grown_drew (grown_refl _ _)) (by simpa using h)
theorem cell_newQ {w w' : World} {p : Kv} {t : TypeId} (hg : (w.alloc (.cells #[.string ⟨p.1.toArray⟩, .string ⟨p.2.toArray⟩] t)).grownBy w' none) : w'.cell? ⟨w.heap.size, 0, none⟩ = some (.string ⟨p.1.toArray⟩) := (box_at hg).1

end Go.Proofs.YtpeepiboocdnaaaDoor

namespace Go.Proofs.YtpeepiboocdnaaaDoor
open Go.RowKit

end Go.Proofs.YtpeepiboocdnaaaDoor

namespace Go.Proofs.YtpeepiboocdnaaaDoor
open Go.RowKit

set_option maxRecDepth 100000 in
theorem RFirst_any (A : Option Addr) (c : Nat) (ps : List Kv) (k : List UInt8) (w : World) (hr : RdQ w A ps) (hn : ps.length ≤ 1000000000) (hs : Rises ps) :
    Calls Tryd.prog 14 #[.slice A ps.length c, .string ⟨k.toArray⟩] w fun e w' => e = .returned (.int .i64 (lowN ps k : Nat)) ∧ w = w' := by
  have gs := lss_str
  have ts : ∀ l : List UInt8, (ByteArray.mk l.toArray).toList = l := fun l => Lib.toList_data _
  have H1 : Aside (∀ i (hl : i < ps.length), i < lowN ps k → kl ps[i].1 k = true) := fun i hl hi => below_low hs k hi hl
  have H2 : Aside (∀ i (hl : i < ps.length), lowN ps k ≤ i → kl ps[i].1 k = false) := fun i hl hi => above_low hs k hi hl
  have hN := lowN_le ps k
  clear hs
  generalize lowN ps k = N at *
  go_enter Tryd.func14, Tryd.ntmps14
  go_wp2
  go_loopw [5] (fun i wr => ∃ j : Nat, j ≤ N ∧ i = .int .i64 j ∧ w = wr) (fun i _ => ps.length - (intOf i).toNat)
  case atStart => exact ⟨0, Nat.zero_le _, rfl, rfl⟩
  case round =>
    obtain ⟨j, hj, rfl, rfl⟩ := hrel
    by_cases hlt : j < ps.length
    · obtain ⟨ad, rfl, hc, -⟩ := RdQ.get hr hlt
      have h1' : Aside (j < N → kl ps[j].1 k = true) := H1.out j hlt
      have h2' : Aside (N ≤ j → kl ps[j].1 k = false) := H2.out j hlt
      generalize ps[j] = y at *
      have hc2 : w.cell? (ad.add (j * 2)) = some (.string ⟨y.1.toArray⟩) := hc
      clear hc
      cases hkl : kl y.1 k
      · have hjN : j = N := by
          refine Nat.le_antisymm hj (Nat.le_of_not_lt fun h => ?_)
          rw [h1'.out h] at hkl; cases hkl
        subst hjN
        go_wp2
        go_ret
        exact ⟨rfl, rfl⟩
      · have hjN : j < N := by
          refine Nat.lt_of_not_le fun h => ?_
          rw [h2'.out h] at hkl; cases hkl
        go_wp2
        go_roundw
        case rel => exact ⟨j + 1, hjN, by go_num, trivial⟩
        case measure => simp [intOf]; omega
    · obtain rfl : j = N := by omega
      go_wp2
      go_ret
      exact ⟨rfl, rfl⟩

theorem lit_1k (a b : ByteArray) (w : World) : (Instr.buildSlice 24 1 #[(0, .agg #[.string a, .string b])]).run Tryd.prog w = .ok (.slice (some ⟨w.heap.size, 0, none⟩) 1 1) (w.alloc (.cells #[.string a, .string b] 23)) := lit_1q a b w
/-- Without that key. -/
def notL (ps : List Kv) (k : List UInt8) : List Kv := ps.filter fun p => !(p.1 == k)
theorem notL_next {ps : List Kv} {j : Nat} (h : j < ps.length) (k : List UInt8) : notL (ps.take (j + 1)) k = notL (ps.take j) k ++ (if ps[j].1 == k then [] else [ps[j]]) := by
  rw [List.take_succ_eq_append_getElem h]
  unfold notL
  rw [List.filter_append, List.filter_cons]
  cases ps[j].1 == k <;> rfl
theorem notL_del {ps : List Kv} (h : Rises ps) (k : List UInt8) : notL ps k = delL ps k := by
  have e := kvparts_of h k
  have h1 : notL (loL ps k) k = loL ps k := List.filter_eq_self.2 fun q hq => by
    have := (List.mem_filter.1 hq).2
    rw [Bool.not_eq_true', beq_eq_false_iff_ne]
    intro e; rw [e, kl_irr] at this; cases this
  have h2 : notL (atL ps k) k = [] := List.filter_eq_nil_iff.2 fun q hq => by
    have := (List.mem_filter.1 hq).2
    simp [this]
  have h3 : notL (hiL ps k) k = hiL ps k := List.filter_eq_self.2 fun q hq => by
    have := (List.mem_filter.1 hq).2
    rw [Bool.not_eq_true', beq_eq_false_iff_ne]
    intro e; rw [e, kl_irr] at this; cases this
  have e2 : notL ps k = notL (loL ps k ++ (atL ps k ++ hiL ps k)) k := by rw [← e]
  rw [e2]
  show List.filter _ _ = _
  rw [List.filter_append, List.filter_append]
  show notL (loL ps k) k ++ (notL (atL ps k) k ++ notL (hiL ps k) k) = _
  rw [h1, h2, h3]; rfl

end Go.Proofs.YtpeepiboocdnaaaDoor

namespace Go.Proofs.YtpeepiboocdnaaaDoor
open Go.RowKit

theorem neq_kv (x y : Kv) (w : World) : (binOp .neq 23 (.agg #[.string ⟨x.1.toArray⟩, .string ⟨x.2.toArray⟩]) (.agg #[.string ⟨y.1.toArray⟩, .string ⟨y.2.toArray⟩])).run Tryd.prog w = .ok (.bool (!(x == y))) w := by
  rw [run_neq_struct, run_equalIn_struct (P := Tryd.prog) w 9999 23 _ _ (by kernel_rfl) (by kernel_rfl)]
  have h : (Op.eqFields 9999 #[.string ⟨x.1.toArray⟩, .string ⟨x.2.toArray⟩] #[.string ⟨y.1.toArray⟩, .string ⟨y.2.toArray⟩] (Tryd.prog.fieldsOf 23).toList).run Tryd.prog w = .ok (x == y) w := by
    have hm : ((Tryd.prog.fieldsOf 23).toList.map fun f => (f.name, f.offset, f.type)) = [("Key", 0, 9), ("Value", 1, 9)] := by kernel_rfl
    have hz : ∀ w, (sizeOf 9).run Tryd.prog w = .ok 1 w := fun w => by kernel_rfl
    have he := fun (a b : ByteArray) (w : World) => run_equalIn_string (P := Tryd.prog) w 9998 9 a b Tryd.underlying9
    generalize (Tryd.prog.fieldsOf 23).toList = L at *
    obtain ⟨f0, L0, rfl, h0, hm⟩ := List.map_eq_cons_iff.1 hm
    obtain ⟨f1, L1, rfl, h1, hm⟩ := List.map_eq_cons_iff.1 hm
    obtain rfl := List.map_eq_nil_iff.1 hm
    simp only [Prod.mk.injEq] at h0 h1
    obtain ⟨n0, o0, t0⟩ := h0
    obtain ⟨n1, o1, t1⟩ := h1
    simp [Op.eqFields, n0, o0, t0, n1, o1, t1, part, hz, he]
    show _ = Result.ok (x.1 == y.1 && x.2 == y.2) w
    by_cases e1 : x.1 = y.1 <;> by_cases e2 : x.2 = y.2 <;> simp [e1, e2]
  rw [h]
  rfl
theorem kv_of {x y : Kv} (h : (!(x == y)) = false) : x = y := by simpa using h
theorem kv_ne {x y : Kv} (h : (!(x == y)) = true) : x ≠ y := by simpa using h

set_option maxHeartbeats 1000000 in
set_option maxRecDepth 100000 in
theorem SameQ_any (A1 A2 : Option Addr) (l1 l2 : List Kv) (c1 c2 : Nat) (w : World) (h1 : RdQ w A1 l1) (h2 : RdQ w A2 l2) (hm1 : l1.length ≤ 1000000000) (hm2 : l2.length ≤ 1000000000) :
    Calls Tryd.prog 32 #[.slice A1 l1.length c1, .slice A2 l2.length c2] w fun e w' => e = .returned (.bool (decide (l1 = l2))) ∧ w.grownBy w' none := by
  by_cases hl : l1.length = l2.length
  · have hlb : ((l1.length : Int) != (l2.length : Int)) = false := by simp [hl]
    have HL := Lib.hid hl
    clear hl
    go_enter Tryd.func32, Tryd.ntmps32
    go_wp2
    go_loopw [5] (fun i wr => ∃ k n : Nat, k ≤ l1.length ∧ i = .int .i64 k ∧ Hid (l1.take k = l2.take k) ∧ wr = w.drewN n) (fun i _ => l1.length - (intOf i).toNat)
    case atStart => exact ⟨0, 0, Nat.zero_le _, rfl, (rfl : l1.take 0 = l2.take 0), rfl⟩
    case round =>
      obtain ⟨k, n, hk, rfl, HT, rfl⟩ := hrel
      by_cases hlt : k < l1.length
      · obtain ⟨a1, rfl, hc1⟩ := RdQ.at h1 hlt
        have hlt2 : k < l2.length := by rw [← HL.out]; exact hlt
        obtain ⟨a2, rfl, hc2⟩ := RdQ.at h2 hlt2
        have hE : Hid (l1[k] = l2[k] → l1.take (k + 1) = l2.take (k + 1)) := fun e => take_next hlt hlt2 HT.out e
        have hN : Hid (l1[k] ≠ l2[k] → decide (l1 = l2) = false) := fun e => take_parts hlt hlt2 e
        generalize l1[k] = x at *
        generalize l2[k] = y at *
        have q1 : w.cell? (a1.add (k * 2)) = some (.string ⟨x.1.toArray⟩) := hc1.1
        have q2 : w.cell? ⟨(a1.add (k * 2)).block, (a1.add (k * 2)).off + 1, none⟩ = some (.string ⟨x.2.toArray⟩) := hc1.2
        have q3 : w.cell? (a2.add (k * 2)) = some (.string ⟨y.1.toArray⟩) := hc2.1
        have q4 : w.cell? ⟨(a2.add (k * 2)).block, (a2.add (k * 2)).off + 1, none⟩ = some (.string ⟨y.2.toArray⟩) := hc2.2
        have hq := neq_kv x y
        clear hc1 hc2
        cases hxy : !(x == y)
        · rw [hxy] at hq
          have hEq := hE.out (kv_of hxy)
          have HEq := Lib.hid hEq
          clear hEq hE hN hxy
          go_wp2
          go_quiet (fail)
          go_wp2
          go_roundw
          case rel => exact ⟨k + 1, n + nq, by omega, by go_num, HEq, rfl⟩
          case measure => simp [intOf]; omega
        · rw [hxy] at hq
          have HNe := Lib.hid (hN.out (kv_ne hxy))
          clear hE hN hxy
          go_wp2
          go_quiet (fail)
          go_wp2
          go_ret
          exact ⟨ret_bool HNe.out.symm, grown_drewN (grown_drewN (grown_refl _ _) _) _⟩
      · go_wp2
        go_ret
        exact ⟨ret_bool (by symm; rw [decide_eq_true_iff]; exact take_all HL.out hlt HT.out), grown_drewN (grown_refl _ _) _⟩
  · have hlb : ((l1.length : Int) != (l2.length : Int)) = true := by rw [bne_iff_ne]; omega
    go_enter Tryd.func32, Tryd.ntmps32
    go_wp2
    go_ret
    exact ⟨ret_bool (by symm; rw [decide_eq_false_iff_not]; rintro rfl; exact hl rfl), grown_refl _ _⟩
end Go.Proofs.YtpeepiboocdnaaaDoor

namespace Go.Proofs.YtpeepiboocdnaaaDoor
open Go.RowKit

theorem lit_0q (w : World) : (Instr.buildSlice 24 0 #[]).run Tryd.prog w = .ok (.slice (some ⟨w.heap.size, 0, none⟩) 0 0) (w.alloc (.cells #[] 23)) := by kernel_rfl
theorem lasts_ownQ (l : List Kv) : Lasts fun v w => OwnQ w v l := fun _ _ _ _ h hg hne => h.keep hg hne
theorem rd_litQ (w : World) (p : Kv) : ∃ A c, (Value.slice (some ⟨w.heap.size, 0, none⟩) 1 1) = .slice A 1 c ∧ RdAt (w.alloc (.cells #[.string ⟨p.1.toArray⟩, .string ⟨p.2.toArray⟩] 23)) A (qcs [p]) :=
  ⟨_, _, rfl, rd_row (alloc_atQ rfl)⟩
theorem blk_lt {A : Option Addr} {n c k : Nat} (h : ∀ ad, A = some ad → ad.block < k) : ∀ g, (Value.slice A n c).ownBlock = some g → g < k := by
  intro g e
  cases A with
  | none => cases e
  | some ad => simp only [Value.ownBlock, Option.some.injEq] at e; subst e; exact h _ rfl
theorem cut_lt {A : Option Addr} {c T k : Nat} (h : ∀ ad, A = some ad → ad.block < k) : ∀ ad, (if c = T then A else A.map (·.add (T * 2))) = some ad → ad.block < k := by
  intro ad e
  split at e
  · exact h ad e
  · cases A with
    | none => cases e
    | some a => simp only [Option.map_some, Option.some.injEq] at e; subst e; rw [add_block]; exact h a rfl
def kvsS (t : Nat) : Bool := (decide (32 ≤ t) && decide (t ≤ 41)) || t == 4
def kvsDie (k : Nat) : Nat := if k = 0 then 4 else if k = 4 then 7 else if k = 7 then 9 else if k = 9 then 10 else 99
def kvsOwn (k : Nat) : Bool := k == 0 || k == 4 || k == 6 || k == 7 || k == 9 || k == 10
def kvsF (A B : Option Addr) (n c N n2 c2 : Nat) (lo hi : List Kv) (p : Kv) : Nat → Value → World → Prop
  | 0 => fun v w => OwnQ w v ([])
  | 1 => fun v _ => v = .slice A n c
  | 2 => fun v _ => v = .int .i64 (N : Nat)
  | 3 => fun v _ => v = .slice A N c
  | 4 => fun v w => OwnQ w v (([]) ++ (lo))
  | 5 => fun v _ => v = (.agg #[.string ⟨(p).1.toArray⟩, .string ⟨(p).2.toArray⟩])
  | 6 => fun v w => ∃ A' c', v = .slice A' 1 c' ∧ RdAt w A' (qcs [p])
  | 7 => fun v w => OwnQ w v ((([]) ++ (lo)) ++ ([p]))
  | 8 => fun v _ => v = .slice B n2 c2
  | 9 => fun v w => OwnQ w v (((([]) ++ (lo)) ++ ([p])) ++ (hi))
  | 10 => fun v w => OwnQ w v (((([]) ++ (lo)) ++ ([p])) ++ (hi))
  | _ => fun _ _ => True
theorem kvsF_lasts (A B : Option Addr) (n c N n2 c2 : Nat) (lo hi : List Kv) (p : Kv) : ∀ k, Lasts (kvsF A B n c N n2 c2 lo hi p k)
  | 0 => lasts_ownQ _
  | 1 => lasts_val _
  | 2 => lasts_val _
  | 3 => lasts_val _
  | 4 => lasts_ownQ _
  | 5 => lasts_val _
  | 6 => lasts_rd _ _
  | 7 => lasts_ownQ _
  | 8 => lasts_val _
  | 9 => lasts_ownQ _
  | 10 => lasts_ownQ _
  | _ + 11 => fun _ _ _ _ _ _ _ => trivial

end Go.Proofs.YtpeepiboocdnaaaDoor

namespace Go.Proofs.YtpeepiboocdnaaaDoor
open Go.RowKit

def keysK : List (List UInt8) := [[97], [97, 98], [97, 98, 99], [98], [98, 97], [115, 47, 97], [115, 47, 98], [115, 47, 99], [116], [117], [122], [122, 122]]
theorem at_plain (g k : Nat) : (⟨g, 0, none⟩ : Addr).add k = ⟨g, k, none⟩ := by unfold Addr.add; split <;> simp_all
theorem keysK_len : keysK.length = 12 := rfl
set_option maxRecDepth 100000 in
theorem keys_any (w : World) : Calls Tryd.prog 26 #[] w fun e w' => ∃ g, e = .returned (.slice (some ⟨g, 0, none⟩) 12 12) ∧ RdS w' (some ⟨g, 0, none⟩) keysK ∧ w.grownBy w' none := by
  go_enter Tryd.func26, Tryd.ntmps26
  go_wp2
  go_ret
  exact ⟨w.heap.size, rfl, rd_row (cs := keysK.map sv) (heap_alloc_new w _), grown_alloc (grown_refl _ _) _⟩
set_option maxRecDepth 100000 in
theorem KKey_any (n : Int) : ∃ k ∈ keysK, ∀ w : World, Calls Tryd.prog 12 #[.int .i64 n] w fun e w' => e = .returned (.string ⟨k.toArray⟩) ∧ w.grownBy w' none := by
  obtain ⟨x, hx, hW⟩ := Within_nat n 11 (by omega)
  refine ⟨keysK[x]'(by rw [keysK_len]; omega), List.getElem_mem _, fun w => ?_⟩
  have hget : ∀ (w' : World) (g : Nat), RdS w' (some ⟨g, 0, none⟩) keysK → w'.cell? ⟨g, x, none⟩ = some (.string ⟨(keysK[x]'(by rw [keysK_len]; omega)).toArray⟩) := by
    intro w' g h
    obtain ⟨ad, e, hc⟩ := RdS.get h (k := x) (by rw [keysK_len]; omega)
    cases e
    rwa [at_plain] at hc
  generalize keysK[x]'(by rw [keysK_len]; omega) = kx at *
  have k1 := fun (w : World) => keys_any w
  have k2 := fun (w : World) => keys_any w
  have hx2 : (x : Int) < 12 := by omega
  go_enter Tryd.func12, Tryd.ntmps12
  go_wp2_with (first
    | (go_at_call 26; refine (k1 _).mono ?_; clear k1; rintro e w1 ⟨g1, rfl, hr1, hg1⟩)
    | (go_at_call 26; refine (k2 _).mono ?_; clear k2; rintro e w2 ⟨g2, rfl, hr2, hg2⟩; have hc := hget _ _ (hr1.kept hg2))
    | (go_at_call 13; refine (hW _).mono ?_; rintro e w3 ⟨rfl, rfl⟩))
  go_ret
  exact ⟨rfl, grown_none hg1 hg2⟩
def textsK : List (List UInt8) := [[], [49], [120], [118, 97, 108, 117, 101], [49, 50, 51, 52, 53, 54, 55, 56]]
theorem textsK_len : textsK.length = 5 := rfl
set_option maxRecDepth 100000 in
theorem KText_any (n : Int) : ∃ t ∈ textsK, ∀ w : World, Calls Tryd.prog 25 #[.int .i64 n] w fun e w' => e = .returned (.string ⟨t.toArray⟩) ∧ w.grownBy w' none := by
  obtain ⟨x, hx, hW⟩ := Within_nat n 4 (by omega)
  refine ⟨textsK[x]'(by rw [textsK_len]; omega), List.getElem_mem _, fun w => ?_⟩
  have hr : RdS (w.alloc (.cells (textsK.map sv).toArray 9)) (some ⟨w.heap.size, 0, none⟩) textsK := rd_row (heap_alloc_new w _)
  obtain ⟨ad, e, hc⟩ := RdS.get hr (k := x) (by rw [textsK_len]; omega)
  cases e
  rw [at_plain] at hc
  generalize textsK[x]'(by rw [textsK_len]; omega) = kx at *
  have hx2 : (x : Int) < 5 := by omega
  change World.cell? (w.alloc (.cells #[.string ⟨#[]⟩, .string ⟨#[49]⟩, .string ⟨#[120]⟩, .string ⟨#[118, 97, 108, 117, 101]⟩, .string ⟨#[49, 50, 51, 52, 53, 54, 55, 56]⟩] 9)) _ = _ at hc
  generalize hw0 : w.alloc (.cells #[.string ⟨#[]⟩, .string ⟨#[49]⟩, .string ⟨#[120]⟩, .string ⟨#[118, 97, 108, 117, 101]⟩, .string ⟨#[49, 50, 51, 52, 53, 54, 55, 56]⟩] 9) = w0 at hc
  have hg0 : w.grownBy w0 none := by rw [← hw0]; exact grown_alloc (grown_refl _ _) _
  have HW := Lib.hid hw0
  clear hw0 hr
  go_enter Tryd.func25, Tryd.ntmps25
  go_wp2_with (go_at_call 13; rw [HW.out]; refine (hW _).mono ?_; rintro e w3 ⟨rfl, rfl⟩)
  go_ret
  exact ⟨rfl, hg0⟩
theorem keysK_may : ∀ k ∈ keysK, 1 ≤ k.length ∧ k.length ≤ 16 := by decide
theorem textsK_may : ∀ t ∈ textsK, t.length ≤ 8 := by decide
theorem keysK_rise : keysK.Pairwise fun a b => kl a b = true := by decide
end Go.Proofs.YtpeepiboocdnaaaDoor

namespace Go.Proofs.YtpeepiboocdnaaaDoor
open Go.RowKit

/-! ## Rows told by what is in them -/

theorem rise_set {ps : List Kv} (h : Rises ps) (p : Kv) : Rises (setL ps p) := by
  refine List.pairwise_append.2 ⟨List.Pairwise.filter _ h, List.pairwise_cons.2 ⟨fun q hq => (List.mem_filter.1 hq).2, List.Pairwise.filter _ h⟩, fun a ha b hb => ?_⟩
  have h1 := (List.mem_filter.1 ha).2
  rcases List.mem_cons.1 hb with rfl | hb
  · exact h1
  · exact kl_trans h1 (List.mem_filter.1 hb).2
theorem rise_del {ps : List Kv} (h : Rises ps) (k : List UInt8) : Rises (delL ps k) := by
  rw [← notL_del h]
  exact List.Pairwise.filter _ h
theorem mem_set {ps : List Kv} {p q : Kv} : q ∈ setL ps p ↔ q = p ∨ (q ∈ ps ∧ q.1 ≠ p.1) := by
  unfold setL loL hiL
  rw [List.mem_append, List.mem_cons, List.mem_filter, List.mem_filter]
  constructor
  · rintro (⟨h1, h2⟩ | rfl | ⟨h1, h2⟩)
    · exact .inr ⟨h1, fun e => by rw [e, kl_irr] at h2; cases h2⟩
    · exact .inl rfl
    · exact .inr ⟨h1, fun e => by rw [e, kl_irr] at h2; cases h2⟩
  · rintro (rfl | ⟨h1, h2⟩)
    · exact .inr (.inl rfl)
    · cases h : kl q.1 p.1
      · cases h' : kl p.1 q.1
        · exact absurd (kl_tri h h') h2
        · exact .inr (.inr ⟨h1, rfl⟩)
      · exact .inl ⟨h1, rfl⟩
theorem set_le (ps : List Kv) (p : Kv) : (setL ps p).length ≤ ps.length + 1 := by
  have h : (setL ps p).Sublist (loL ps p.1 ++ p :: hiL ps p.1) := List.Sublist.refl _
  have e : (loL ps p.1).length + (hiL ps p.1).length ≤ ps.length := by
    unfold loL hiL
    induction ps with
    | nil => simp
    | cons a l ih =>
      have ih := ih (List.Sublist.refl _)
      rw [List.filter_cons, List.filter_cons]
      cases h1 : kl a.1 p.1
      · cases h2 : kl p.1 a.1 <;> simp <;> omega
      · rw [kl_asymm h1]; simp; omega
  unfold setL
  rw [List.length_append, List.length_cons]; omega
theorem rises_ext : ∀ {a b : List Kv}, Rises a → Rises b → (∀ q, q ∈ a ↔ q ∈ b) → a = b
  | [], [], _, _, _ => rfl
  | [], y :: b, _, _, h => by have := (h y).2 (List.mem_cons_self ..); cases this
  | x :: a, [], _, _, h => by have := (h x).1 (List.mem_cons_self ..); cases this
  | x :: a, y :: b, ha, hb, h => by
    obtain ⟨a1, a2⟩ := List.pairwise_cons.1 ha
    obtain ⟨b1, b2⟩ := List.pairwise_cons.1 hb
    have hxy : x = y := by
      rcases List.mem_cons.1 ((h x).1 (List.mem_cons_self ..)) with e | hx
      · exact e
      · rcases List.mem_cons.1 ((h y).2 (List.mem_cons_self ..)) with e | hy
        · exact e.symm
        · have h1 := b1 x hx
          have h2 := a1 y hy
          rw [kl_asymm h1] at h2; cases h2
    subst hxy
    have hr : ∀ q, q ∈ a ↔ q ∈ b := fun q => by
      constructor
      · intro hq
        rcases List.mem_cons.1 ((h q).1 (List.mem_cons_of_mem _ hq)) with e | hq'
        · subst e
          have := a1 q hq
          rw [kl_irr] at this; cases this
        · exact hq'
      · intro hq
        rcases List.mem_cons.1 ((h q).2 (List.mem_cons_of_mem _ hq)) with e | hq'
        · subst e
          have := b1 q hq
          rw [kl_irr] at this; cases this
        · exact hq'
    rw [rises_ext a2 b2 hr]
/-- Keys apart. -/
def Apart (ps : List Kv) : Prop := ps.Pairwise fun a b => a.1 ≠ b.1
theorem Rises.apart {ps : List Kv} (h : Rises ps) : Apart ps := List.Pairwise.imp (fun {a b} hab e => by rw [e, kl_irr] at hab; cases hab) h
theorem Apart.perm {a b : List Kv} (h : a.Perm b) (hb : Apart b) : Apart a := List.Pairwise.perm hb h.symm fun hxy e => hxy e.symm
theorem Apart.at {ps : List Kv} (h : Apart ps) {j : Nat} (hj : j < ps.length) : ∀ q ∈ ps.take j, q.1 ≠ ps[j].1 := by
  intro q hq
  obtain ⟨i, hi, rfl⟩ := List.getElem_of_mem hq
  rw [List.getElem_take]
  rw [List.length_take] at hi
  exact List.pairwise_iff_getElem.1 h i j (by omega) hj (by omega)
/-- Set with some value, then with its own: the next of the row. -/
theorem set_twice {xs tl : List Kv} {j : Nat} (hj : j < tl.length) (ha : Apart tl) (hx : ∀ q, q ∈ xs ↔ q ∈ tl.take j) (t : List UInt8) : ∀ q, q ∈ setL (setL xs (tl[j].1, t)) tl[j] ↔ q ∈ tl.take (j + 1) := by
  intro q
  rw [mem_set, mem_set, List.take_succ_eq_append_getElem hj, List.mem_append, List.mem_singleton, hx]
  constructor
  · rintro (rfl | ⟨rfl | ⟨h1, -⟩, h2⟩)
    · exact .inr rfl
    · exact absurd rfl h2
    · exact .inl h1
  · rintro (h | rfl)
    · exact .inr ⟨.inr ⟨h, ha.at hj q h⟩, ha.at hj q h⟩
    · exact .inl rfl
theorem del_set {ps : List Kv} (h : Rises ps) {p : Kv} (hn : ∀ q ∈ ps, q.1 ≠ p.1) : delL (setL ps p) p.1 = ps := by
  refine rises_ext (rise_del (rise_set h p) p.1) h fun q => ?_
  rw [← notL_del (rise_set h p)]
  unfold notL
  rw [List.mem_filter, mem_set]
  constructor
  · rintro ⟨rfl | ⟨h1, -⟩, h2⟩
    · simp at h2
    · exact h1
  · intro hq
    exact ⟨.inr ⟨hq, hn q hq⟩, by simpa using hn q hq⟩
theorem move_perm {tl : List Kv} {q : Nat} (hq : q < tl.length) : (((([] : List Kv) ++ [tl[q]]) ++ tl.take q) ++ tl.drop (q + 1)).Perm tl := by
  have e : tl = tl.take q ++ tl[q] :: tl.drop (q + 1) := by rw [← List.drop_eq_getElem_cons hq, List.take_append_drop]
  have h2 : (tl.take q ++ tl[q] :: tl.drop (q + 1)).Perm (tl[q] :: (tl.take q ++ tl.drop (q + 1))) := List.perm_middle
  rw [← e] at h2
  rw [List.nil_append, List.append_assoc]
  exact h2.symm

end Go.Proofs.YtpeepiboocdnaaaDoor
