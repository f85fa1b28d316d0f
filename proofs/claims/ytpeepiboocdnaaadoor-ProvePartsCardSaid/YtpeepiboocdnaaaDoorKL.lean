/- The contracts of the book's own functions (are two lists the same; a number brought into bounds; a list with room, and is it as it was). The contracts of package vint's functions. Rows of pairs (a key, a value): how they lie in memory, rows of the call's own; keys in their order. Rows of pairs that rise: where a key stands; the contracts of package kv's search. Package kv's search, place, First, Get. Package kv: place, First, Get, isPair; slices.Clone, Grow, Concat of rows of pairs. -/
import Derived.Test.YtpeepiboocdnaaaDoorRows
import Derived.Test.YtpeepiboocdnaaaDoorKA
import Derived.Deep.AppendLies
import Derived.Deep.SlicePairs
import Derived.Lib.Bytealg
import Derived.Laws.Cover1
import Derived.Deep.LoopGhost
import Derived.Lib.AppendZeros
namespace Go.Proofs.YtpeepiboocdnaaaDoor
open Go.RowKit

theorem take_next {α : Type} {l1 l2 : List α} {k : Nat} (h1 : k < l1.length) (h2 : k < l2.length) (ht : l1.take k = l2.take k) (he : l1[k] = l2[k]) : l1.take (k + 1) = l2.take (k + 1) := by
  rw [List.take_succ_eq_append_getElem h1, List.take_succ_eq_append_getElem h2, ht, he]
theorem take_all {α : Type} {l1 l2 : List α} {k : Nat} (hl : l1.length = l2.length) (hk : ¬ k < l1.length) (ht : l1.take k = l2.take k) : l1 = l2 := by
  rw [List.take_of_length_le (by omega), List.take_of_length_le (by omega)] at ht; exact ht
theorem take_parts {α : Type} [DecidableEq α] {l1 l2 : List α} {k : Nat} (h1 : k < l1.length) (h2 : k < l2.length) (he : l1[k] ≠ l2[k]) : decide (l1 = l2) = false := by
  rw [decide_eq_false_iff_not]; rintro rfl; exact he rfl
theorem u8_of {a b : UInt8} (h : ((a.toNat : Int) != (b.toNat : Int)) = false) : a = b := by
  have h' : (a.toNat : Int) = (b.toNat : Int) := by simpa using h
  exact UInt8.toNat_inj.1 (by omega)
theorem u8_ne {a b : UInt8} (h : ((a.toNat : Int) != (b.toNat : Int)) = true) : a ≠ b := by
  rintro rfl; simp at h

end Go.Proofs.YtpeepiboocdnaaaDoor

namespace Go.Proofs.YtpeepiboocdnaaaDoor
open Go.RowKit

/-- The lowest seven bits, with 128 more. -/
def lowB (n : Nat) : UInt8 := UInt8.ofNat (n % 128 + 128)
/-- A number's bytes: sevens of bits, the lowest first, 128 more on all but the last. -/
def putN (n : Nat) : List UInt8 := if n < 128 then [UInt8.ofNat n] else lowB n :: putN (n / 128)
  termination_by n
  decreasing_by omega

/-- .. of those that may be. -/
def putL (n : Int) : List UInt8 := if n < 0 ∨ 1099511627775 < n then [] else putN n.toNat

/-- 'append(v, s...)', s a text. -/
theorem wpList_appS (w : World) {ops : Array Oper} {rest : List Oper} {o : Oper} {a : Act} {Q : Exit → Act → World → Prop} (hgd : o.guard = none) (x y : Operand)
    (ho : o.op = .call { callee := .builtin .append, args := #[x, y], argTypes := #[61, 9] })
    {v : Value} {l : List UInt8} (hv : a.eval x = v) (hown : OwnB w v l) {s : ByteArray} (hy : a.eval y = .string s)
    (hb : l.length + s.size ≤ 140737488355328)
    (h : ∀ v' w', OwnB w' v' (l ++ s.data.toList) → Grew w w' v v' → wpList Tryd.prog ops Q rest (a.put o.dst v') w') : wpList Tryd.prog ops Q (o :: rest) a w := by
  obtain ⟨i, hi, hz, hs, hby⟩ := info_parts info_u8
  obtain ⟨base, hbase, hown⟩ := hown
  refine wpList_plain hgd fun K hK => ?_
  obtain ⟨v', w', hrun, h2, h3⟩ := run_append_str (P := Tryd.prog) w (ty := o.type) Tryd.underlying61 Tryd.underlying9 hi hz hs hby hown s hb hbase
  unfold Oper.wp execOp
  simp only [ho, resolve, invoke, builtin, Sem.run_bind, Sem.run_pure, Result.andThen_ok, List.map_toArray, List.map_cons, List.map_nil, hv, hy, hrun]
  exact hK _ _ (h v' w' ⟨base, Nat.le_trans hbase h3.1.size, h2⟩ h3)

theorem or128 : ∀ x : Fin 256, bits .or .u8 (x.val : Int) 128 = ((x.val % 128 + 128 : Nat) : Int) := by decide +kernel
theorem lowB_val (m : Nat) : bits .or .u8 ((m : Int) % 256) 128 = ((lowB m).toNat : Int) := by
  have h : bits .or .u8 ((m % 256 : Nat) : Int) 128 = ((m % 256 % 128 + 128 : Nat) : Int) := or128 ⟨m % 256, Nat.mod_lt _ (by omega)⟩
  have e : ((m : Int) % 256) = ((m % 256 : Nat) : Int) := by omega
  rw [e, h, lowB, UInt8.toNat_ofNat']
  have : m % 256 % 128 = m % 128 := by omega
  omega
theorem putN_small {n : Nat} (h : n < 128) : putN n = [UInt8.ofNat n] := by rw [putN]; simp [h]
theorem putN_great {n : Nat} (h : ¬ n < 128) : putN n = lowB n :: putN (n / 128) := by rw [putN]; simp [h]

theorem putN_lt (k : Nat) : ∀ n, n < 128 ^ (k + 1) → (putN n).length ≤ k + 1 := by
  induction k with
  | zero => intro n h; rw [putN_small (by simpa using h)]; simp
  | succ k ih =>
    intro n h
    by_cases hn : n < 128
    · rw [putN_small hn]; simp
    · rw [putN_great hn, List.length_cons]
      have := ih (n / 128) (by rw [Nat.pow_succ] at h; exact Nat.div_lt_of_lt_mul (by omega))
      omega
theorem putN_len (n : Nat) (h : n ≤ 1099511627775) : (putN n).length ≤ 6 := putN_lt 5 n (by show n < 4398046511104; omega)

set_option maxHeartbeats 400000 in
theorem vput_none (v : Value) (n : Int) (w : World) (h : n < 0 ∨ 1099511627775 < n) :
    Calls Tryd.prog 53 #[v, .int .i64 n] w fun e w' => e = .returned v ∧ w = w' := by
  rcases h with h | h
  · go_enter Tryd.func53, Tryd.ntmps53
    go_wp2
    go_ret
    exact ⟨rfl, rfl⟩
  · have h0 : ¬ n < 0 := by omega
    go_enter Tryd.func53, Tryd.ntmps53
    go_wp2
    go_ret
    exact ⟨rfl, rfl⟩

set_option maxHeartbeats 400000 in
theorem vput_some (v : Value) (l : List UInt8) (n : Nat) (w : World) (h1 : n ≤ 1099511627775) (ho : OwnB w v l) (hb : l.length ≤ 100000000000) :
    Calls Tryd.prog 53 #[v, .int .i64 n] w fun e w' => ∃ v', e = .returned v' ∧ OwnB w' v' (l ++ putN n) ∧ Grew w w' v v' := by
  have h3 : ¬ 1099511627775 < (n : Int) := by omega
  go_enter Tryd.func53, Tryd.ntmps53
  go_wp2
  go_loopw [0, 1] (fun x i wr => ∃ (m : Nat) (p : List UInt8), i = .int .i64 m ∧ m ≤ 1099511627775 ∧ OwnB wr x p ∧ p ++ putN m = l ++ putN n ∧ Grew w wr v x) (fun _ i _ => (intOf i).toNat)
  case atStart => exact ⟨n, l, rfl, h1, ho, rfl, Grew.refl _ _⟩
  case round =>
    obtain ⟨m, p, rfl, hm, hop, heq, hg⟩ := hrel
    have HE := Lib.hid heq
    clear heq
    have hpl : p.length ≤ l.length + 6 := by
      have h := congrArg List.length HE.out
      have h6 := putN_len n h1
      simp only [List.length_append] at h
      omega
    by_cases hlt : 127 < m
    · go_wp2_with (at_builtin; refine wpList_appB _ rfl _ _ rfl rfl (hop.alloc _) (news := [lowB m]) rfl rfl (rdB_new _ _ _ _ ?c1) ?c2 ?_)
      case c1 => simp only [bv]; rw [lowB_val]
      case c2 => simp; omega
      intro v' w' ho' hg'
      go_wp2
      go_roundw
      case rel => exact ⟨m / 128, p ++ [lowB m], by go_num, by omega, ho', by rw [← HE.out, putN_great (n := m) (by omega)]; simp, hg.trans (Grew.pre (grown_alloc (grown_refl _ _) _) hg')⟩
      case measure => simp [intOf]; omega
    · go_wp2_with (at_builtin; refine wpList_appB _ rfl _ _ rfl rfl (hop.alloc _) (news := [UInt8.ofNat m]) rfl rfl (rdB_new _ _ _ _ ?d1) ?d2 ?_)
      case d1 => simp only [bv]; rw [ofNat_u8 (by omega)]
      case d2 => simp; omega
      intro v' w' ho' hg'
      go_wp2
      go_ret
      exact ⟨v', rfl, by rw [← HE.out, putN_small (by omega)]; exact ho', hg.trans (Grew.pre (grown_alloc (grown_refl _ _) _) hg')⟩

theorem putL_none {n : Int} (h : n < 0 ∨ 1099511627775 < n) : putL n = [] := by rw [putL, if_pos h]
theorem putL_some {n : Nat} (h : n ≤ 1099511627775) : putL n = putN n := by rw [putL, if_neg (by omega)]; simp
theorem putL_len (n : Int) : (putL n).length ≤ 6 := by
  unfold putL
  split
  · simp
  · exact putN_len _ (by omega)

theorem vput_any (v : Value) (l : List UInt8) (n : Int) (w : World) (ho : OwnB w v l) (hb : l.length ≤ 100000000000) :
    Calls Tryd.prog 53 #[v, .int .i64 n] w fun e w' => ∃ v', e = .returned v' ∧ OwnB w' v' (l ++ putL n) ∧ Grew w w' v v' := by
  by_cases h : n < 0 ∨ 1099511627775 < n
  · refine (vput_none v n w h).mono ?_
    rintro e w' ⟨rfl, rfl⟩
    exact ⟨v, rfl, by rw [putL_none h, List.append_nil]; exact ho, Grew.refl _ _⟩
  · obtain ⟨m, rfl⟩ := Int.eq_ofNat_of_zero_le (show 0 ≤ n by omega)
    refine (vput_some v l m w (by omega) ho hb).mono ?_
    rintro e w' ⟨v', rfl, h1, h2⟩
    exact ⟨v', rfl, by rw [putL_some (by omega)]; exact h1, h2⟩

/-- The bytes of many numbers. -/
def putsL (ns : List Int) : List UInt8 := ns.flatMap putL
theorem putsL_len (ns : List Int) : (putsL ns).length ≤ 6 * ns.length := by
  induction ns with
  | nil => simp [putsL]
  | cons n r ih =>
    have := putL_len n
    simp only [putsL, List.flatMap_cons, List.length_append, List.length_cons] at ih ⊢
    omega
theorem putsL_next {ns : List Int} {k : Nat} (h : k < ns.length) : putsL (ns.take (k + 1)) = putsL (ns.take k) ++ putL ns[k] := by
  rw [List.take_succ_eq_append_getElem h, putsL, List.flatMap_append]; simp [putsL]

/-- A text's bytes: its length, and they. -/
def textL (s : List UInt8) : List UInt8 := putL s.length ++ s
def textsL (ss : List (List UInt8)) : List UInt8 := ss.flatMap textL
theorem textsL_next {ss : List (List UInt8)} {k : Nat} (h : k < ss.length) : textsL (ss.take (k + 1)) = textsL (ss.take k) ++ textL ss[k] := by
  rw [List.take_succ_eq_append_getElem h, textsL, List.flatMap_append]; simp [textsL]
theorem textsL_len (ss : List (List UInt8)) (M : Nat) (h : ∀ s ∈ ss, s.length ≤ M) : (textsL ss).length ≤ ss.length * (M + 6) := by
  induction ss with
  | nil => simp [textsL]
  | cons s r ih =>
    have h1 := putL_len s.length
    have h2 := h s (by simp)
    have h3 := ih fun x hx => h x (by simp [hx])
    simp only [textsL, List.flatMap_cons, textL, List.length_append, List.length_cons] at h3 ⊢
    rw [Nat.add_mul, Nat.one_mul]
    omega

set_option maxHeartbeats 400000 in
theorem Text_any (A : Option Addr) (c : Nat) (ss : List (List UInt8)) (w : World) (hr : RdS w A ss) (hb : ss.length ≤ 10000) (hs : ∀ s ∈ ss, s.length ≤ 100000) :
    Calls Tryd.prog 45 #[.slice A ss.length c] w fun e w' => ∃ v', e = .returned v' ∧ OwnB w' v' (textsL ss) ∧ Grew w w' (.slice none 0 0) v' := by
  go_enter Tryd.func45, Tryd.ntmps45
  go_wp2
  go_loopw [3, 8] (fun x i wr => ∃ k : Nat, k ≤ ss.length ∧ i = .int .i64 k ∧ OwnB wr x (textsL (ss.take k)) ∧ Grew w wr (.slice none 0 0) x) (fun _ i _ => ss.length - (intOf i).toNat)
  case atStart => exact ⟨0, Nat.zero_le _, rfl, OwnB.nil _, Grew.refl _ _⟩
  case round =>
    obtain ⟨k, hk, rfl, ho, hg⟩ := hrel
    have hle := textsL_len (ss.take k) 100000 fun s h => hs s (List.mem_of_mem_take h)
    have hle : (textsL (ss.take k)).length ≤ 1000060000 := by
      have h1 : (ss.take k).length ≤ 10000 := by rw [List.length_take]; omega
      have h2 := Nat.mul_le_mul_right (100000 + 6) h1
      omega
    by_cases hlt : k < ss.length
    · have hr' : RdS wr A ss := hr.kept hg.nil
      obtain ⟨ad, rfl, hc⟩ := hr'.get hlt
      have hsl := hs _ (List.getElem_mem hlt)
      obtain ⟨s, hS⟩ : ∃ s, s = ss[k] := ⟨_, rfl⟩
      rw [← hS] at hc hsl
      have HS := Lib.hid hS
      clear hS
      have hpl := putL_len s.length
      go_wp2_with (first | (go_at_call 53; refine (vput_any _ _ _ _ ho (by omega)).mono ?_; rintro e w1 ⟨v1, rfl, ho1, hg1⟩) | (at_builtin; refine wpList_appS _ rfl _ _ rfl rfl ho1 rfl ?c1 ?_))
      case c1 => simp; show _ + s.length ≤ _; omega
      intro v' w' ho' hg'
      go_wp2
      go_roundw
      case rel => exact ⟨k + 1, by omega, by go_num, by rw [textsL_next hlt, ← HS.out]; simpa [textL] using ho', (hg.trans hg1).trans hg'⟩
      case measure => simp [intOf]; omega
    · go_wp2
      go_ret
      exact ⟨_, rfl, by rw [List.take_of_length_le (by omega)] at ho; exact ho, hg⟩

def hashesL (hs : List (List UInt8)) : List UInt8 := hs.flatten
theorem hashesL_next {hs : List (List UInt8)} {k : Nat} (h : k < hs.length) : hashesL (hs.take (k + 1)) = hashesL (hs.take k) ++ hs[k] := by
  rw [List.take_succ_eq_append_getElem h, hashesL, List.flatten_append]; simp [hashesL]
theorem hashesL_len (hs : List (List UInt8)) (h : ∀ x ∈ hs, x.length = 32) : (hashesL hs).length = 32 * hs.length := by
  induction hs with
  | nil => simp [hashesL]
  | cons x r ih =>
    have h1 := h x (by simp)
    have h2 := ih fun y hy => h y (by simp [hy])
    simp only [hashesL, List.flatten_cons, List.length_append, List.length_cons] at h2 ⊢
    omega

end Go.Proofs.YtpeepiboocdnaaaDoor

namespace Go.Proofs.YtpeepiboocdnaaaDoor
open Go.RowKit

/-! ## Keys in their order -/

/-- Is the first one below the second one, byte by byte? -/
abbrev kl (a b : List UInt8) : Bool := Op.bytesLess a b
theorem kl_cons (x y : UInt8) (a b : List UInt8) : kl (x :: a) (y :: b) = (decide (x < y) || (x == y && kl a b)) := rfl
theorem kl_nil (a : List UInt8) : kl a [] = false := by cases a <;> rfl
theorem kl_irr : ∀ a : List UInt8, kl a a = false
  | [] => rfl
  | x :: a => by
    rw [kl_cons, kl_irr a]
    simp [UInt8.lt_irrefl]
theorem u8_tri {x y : UInt8} (h : ¬ x < y) (h' : ¬ y < x) : x = y := UInt8.le_antisymm (UInt8.not_lt.1 h') (UInt8.not_lt.1 h)
theorem kl_trans : ∀ {a b c : List UInt8}, kl a b = true → kl b c = true → kl a c = true
  | _, _, [], _, h => by rw [kl_nil] at h; cases h
  | _, [], _ :: _, h, _ => by rw [kl_nil] at h; cases h
  | [], _ :: _, _ :: _, _, _ => rfl
  | x :: a, y :: b, z :: c, h, h' => by
    rw [kl_cons] at h h' ⊢
    simp only [Bool.or_eq_true, decide_eq_true_eq, Bool.and_eq_true, beq_iff_eq] at h h' ⊢
    rcases h with h | ⟨rfl, h⟩
    · rcases h' with h' | ⟨rfl, _⟩
      · exact .inl (UInt8.lt_trans h h')
      · exact .inl h
    · rcases h' with h' | ⟨rfl, h'⟩
      · exact .inl h'
      · exact .inr ⟨rfl, kl_trans h h'⟩
theorem kl_tri : ∀ {a b : List UInt8}, kl a b = false → kl b a = false → a = b
  | [], [], _, _ => rfl
  | [], _ :: _, h, _ => by cases h
  | _ :: _, [], _, h => by cases h
  | x :: a, y :: b, h, h' => by
    rw [kl_cons] at h h'
    simp only [Bool.or_eq_false_iff, decide_eq_false_iff_not, Bool.and_eq_false_imp, beq_iff_eq] at h h'
    obtain rfl := u8_tri h.1 h'.1
    rw [kl_tri (h.2 rfl) (h'.2 rfl)]
theorem kl_asymm {a b : List UInt8} (h : kl a b = true) : kl b a = false := by
  cases h' : kl b a
  · rfl
  · have := kl_trans h h'
    rw [kl_irr] at this; cases this
/-- From below on. -/
theorem kl_ge_trans {a b c : List UInt8} (h : kl a b = false) (h' : kl b c = false) : kl a c = false := by
  cases hc : kl a c
  · rfl
  · cases hb : kl b a
    · have := kl_tri h hb
      subst this
      rw [h'] at hc; cases hc
    · rw [kl_trans hb hc] at h'; cases h'
theorem kl_lt_of {a b c : List UInt8} (h : kl a b = true) (h' : kl c b = false) : kl a c = true := by
  cases hc : kl a c
  · rw [kl_ge_trans hc h'] at h; cases h
  · rfl
theorem kl_lt_of' {a b c : List UInt8} (h : kl b a = false) (h' : kl b c = true) : kl a c = true := by
  cases hc : kl a c
  · rw [kl_ge_trans h hc] at h'; cases h'
  · rfl
theorem cmp_lt : ∀ (a b : List UInt8), decide (Lib.compareBytes a b < 0) = kl a b
  | [], [] => by decide
  | [], _ :: _ => by simp [Lib.compareBytes, Op.bytesLess]
  | _ :: _, [] => by simp [Lib.compareBytes, Op.bytesLess]
  | x :: a, y :: b => by
    have ih := cmp_lt a b
    rw [kl_cons, Lib.compareBytes]
    by_cases h : x < y
    · simp [h]
    · rw [if_neg h]
      by_cases h' : y < x
      · rw [if_pos h']
        have : x ≠ y := by rintro rfl; exact h h'
        simp [h, this]
      · rw [if_neg h', ih]
        obtain rfl := u8_tri h h'
        simp [h]
theorem cmp_eq : ∀ (a b : List UInt8), decide (Lib.compareBytes a b = 0) = decide (a = b)
  | [], [] => by decide
  | [], _ :: _ => by simp [Lib.compareBytes]
  | _ :: _, [] => by simp [Lib.compareBytes]
  | x :: a, y :: b => by
    have ih := cmp_eq a b
    rw [Lib.compareBytes]
    by_cases h : x < y
    · have : x ≠ y := by rintro rfl; exact UInt8.lt_irrefl _ h
      simp [h, this]
    · rw [if_neg h]
      by_cases h' : y < x
      · have : x ≠ y := by rintro rfl; exact h h'
        simp [h', this]
      · rw [if_neg h', ih]
        obtain rfl := u8_tri h h'
        simp

/-! ## Pairs in memory -/

abbrev Kv := List UInt8 × List UInt8
/-- A pair as a value. -/
def qv (p : Kv) : Value := .agg #[sv p.1, sv p.2]
/-- Pairs as cells, two each. -/
def qcs : List Kv → List Value
  | [] => []
  | p :: ps => sv p.1 :: sv p.2 :: qcs ps
theorem qcs_len : ∀ ps, (qcs ps).length = ps.length * 2
  | [] => rfl
  | p :: ps => by simp [qcs, qcs_len ps]; omega
theorem qcs_append : ∀ ps qs, qcs (ps ++ qs) = qcs ps ++ qcs qs
  | [], _ => rfl
  | p :: ps, qs => by simp [qcs, qcs_append ps qs]
theorem qcs_take : ∀ ps k, (qcs ps).take (k * 2) = qcs (ps.take k)
  | ps, 0 => by simp [qcs]
  | [], k + 1 => by simp [qcs]
  | p :: ps, k + 1 => by
    rw [show (k + 1) * 2 = k * 2 + 2 by omega]
    show sv p.1 :: sv p.2 :: (qcs ps).take (k * 2) = sv p.1 :: sv p.2 :: qcs (ps.take k)
    rw [qcs_take ps k]
theorem qcs_drop : ∀ ps k, (qcs ps).drop (k * 2) = qcs (ps.drop k)
  | ps, 0 => by simp
  | [], k + 1 => by simp [qcs]
  | p :: ps, k + 1 => by
    rw [show (k + 1) * 2 = k * 2 + 2 by omega]
    exact qcs_drop ps k
theorem qcs_get : ∀ (ps : List Kv) (k : Nat) (h : k < ps.length), (qcs ps)[k * 2]? = some (sv ps[k].1) ∧ (qcs ps)[k * 2 + 1]? = some (sv ps[k].2)
  | p :: ps, 0, _ => ⟨rfl, rfl⟩
  | p :: ps, k + 1, h => by
    have := qcs_get ps k (by simpa using h)
    rw [show (k + 1) * 2 = k * 2 + 2 by omega, qcs]
    exact this
theorem qcs_one : ∀ ps : List Kv, ∀ u ∈ qcs ps, u.oneCell' = true
  | [], u, h => by cases h
  | p :: ps, u, h => by
    simp only [qcs, List.mem_cons] at h
    rcases h with rfl | rfl | h
    · rfl
    · rfl
    · exact qcs_one ps u h
theorem qcs_nil {ps : List Kv} (h : qcs ps = []) : ps = [] := by cases ps <;> simp_all [qcs]

theorem add_one (a : Addr) : a.add 1 = ⟨a.block, a.off + 1, none⟩ := by unfold Addr.add; simp
/-- From the address A on the pairs are there. -/
abbrev RdQ (w : World) (A : Option Addr) (ps : List Kv) : Prop := RdAt w A (qcs ps)
theorem RdQ.get {w : World} {A : Option Addr} {ps : List Kv} (h : RdQ w A ps) {k : Nat} (hk : k < ps.length) :
    ∃ ad, A = some ad ∧ w.cell? (ad.add (k * 2)) = some (sv ps[k].1) ∧ w.cell? ⟨(ad.add (k * 2)).block, (ad.add (k * 2)).off + 1, none⟩ = some (sv ps[k].2) := by
  rcases h with h | ⟨ad, hA, hc⟩
  · rw [qcs_nil h] at hk; cases hk
  · obtain ⟨h1, h2⟩ := qcs_get ps k hk
    exact ⟨ad, hA, hc _ _ h1, by rw [← add_one, add_add]; exact hc _ _ h2⟩
/-- The cells of a pair, for its load. -/
theorem RdQ.cells {w : World} {A : Option Addr} {ps : List Kv} (h : RdQ w A ps) {k : Nat} (hk : k < ps.length) :
    ∃ ad, A = some ad ∧ ∀ j u, [sv ps[k].1, sv ps[k].2][j]? = some u → w.cell? ((ad.add (k * 2)).add j) = some u := by
  obtain ⟨ad, hA, h1, h2⟩ := h.get hk
  refine ⟨ad, hA, fun j u hu => ?_⟩
  match j, hu with
  | 0, hu => cases hu; rw [add_add, Nat.add_zero]; exact h1
  | 1, hu => cases hu; rw [add_one]; exact h2
theorem RdQ.take {w : World} {A : Option Addr} {ps : List Kv} (h : RdQ w A ps) (k : Nat) : RdQ w A (ps.take k) := by
  show RdAt w A (qcs (ps.take k))
  rw [← qcs_take]; exact RdAt.take h _
theorem RdQ.cut {w : World} {A : Option Addr} {ps : List Kv} (h : RdQ w A ps) {k c : Nat} (hc : ps.length ≤ c) : RdQ w (if c = k then A else A.map (·.add (k * 2))) (ps.drop k) := by
  show RdAt w _ (qcs (ps.drop k))
  by_cases e : c = k
  · rw [if_pos e, List.drop_eq_nil_of_le (by omega)]; exact RdAt.nil
  · rw [if_neg e, ← qcs_drop]; exact RdAt.drop h _

/-- A pair lies there. -/
def AtQ (w : World) (ad : Addr) (p : Kv) : Prop := w.cell? ad = some (sv p.1) ∧ w.cell? ⟨ad.block, ad.off + 1, none⟩ = some (sv p.2)
theorem AtQ.keep {w w' : World} {ad : Addr} {p : Kv} (h : AtQ w ad p) {row : Option Nat} (hg : w.grownBy w' row) (hne : some ad.block ≠ row) : AtQ w' ad p :=
  ⟨hg.cell h.1 hne, hg.cell h.2 hne⟩
theorem AtQ.kept {w w' : World} {ad : Addr} {p : Kv} (h : AtQ w ad p) (hg : w.grownBy w' none) : AtQ w' ad p := h.keep hg (by simp)
theorem RdQ.at {w : World} {A : Option Addr} {ps : List Kv} (h : RdQ w A ps) {k : Nat} (hk : k < ps.length) : ∃ ad, A = some ad ∧ AtQ w (ad.add (k * 2)) ps[k] := RdQ.get h hk
/-- A slice that reads as these pairs. -/
def PS (w : World) (v : Value) (ps : List Kv) : Prop := ∃ A c, v = .slice A ps.length c ∧ ps.length ≤ c ∧ RdQ w A ps
theorem PS.kept {w w' : World} {v : Value} {ps : List Kv} (h : PS w v ps) (hg : w.grownBy w' none) : PS w' v ps := by
  obtain ⟨A, c, e, hc, hr⟩ := h
  exact ⟨A, c, e, hc, hr.kept hg⟩
theorem PS.nil (w : World) : PS w (.slice none 0 0) [] := ⟨none, 0, rfl, Nat.le_refl _, RdAt.nil⟩

/-- .. and that lies in memory. -/
def PB (w : World) (v : Value) (ps : List Kv) : Prop := PS w v ps ∧ ∀ g, v.ownBlock = some g → g < w.heap.size
theorem PB.kept {w w' : World} {v : Value} {ps : List Kv} (h : PB w v ps) (hg : w.grownBy w' none) : PB w' v ps := ⟨h.1.kept hg, fun g e => Nat.lt_of_lt_of_le (h.2 g e) hg.size⟩
theorem PB.nil (w : World) : PB w (.slice none 0 0) [] := ⟨PS.nil w, fun g e => by cases e⟩
theorem PB.form {w : World} {v : Value} {ps : List Kv} (h : PB w v ps) : ∃ A c, v = .slice A ps.length c ∧ ps.length ≤ c ∧ RdQ w A ps ∧ ∀ ad, A = some ad → ad.block < w.heap.size := by
  obtain ⟨⟨A, c, rfl, hc, hr⟩, hb⟩ := h
  exact ⟨A, c, rfl, hc, hr, fun ad e => hb _ (by rw [e]; rfl)⟩

/-! ## Rows of pairs of the call's own -/

theorem info_kv : (Tryd.prog.info? 23).map (fun i => (i.zero, i.size, i.bytes)) = some (some (.agg #[.string ⟨#[]⟩, .string ⟨#[]⟩]), 2, 32) := by kernel_rfl
theorem size_kv : (Tryd.prog.info? 23).map (·.size) = some 2 := by kernel_rfl
theorem wp_load_kv {o : Oper} {a : Act} {w : World} {K : Act → World → Prop} {Q : Exit → Act → World → Prop} {x : Operand} (ho : o.op = .load 23 x)
    {ad : Addr} (hx : a.eval x = .pointer (some ad)) {p : Kv} (hc : AtQ w ad p) (h : K (a.put o.dst (.agg #[.string ⟨p.1.toArray⟩, .string ⟨p.2.toArray⟩])) w) : Oper.wp Tryd.prog o a w K Q := by
  unfold Oper.wp execOp
  have hl := run_loadVar_cells (P := Tryd.prog) w ad 23 [sv p.1, sv p.2] _ (fun j u hu => by
    match j, hu with
    | 0, hu => cases hu; have e : ad.add 0 = ad := by unfold Addr.add; split <;> simp_all
               rw [e]; exact hc.1
    | 1, hu => cases hu; rw [add_one]; exact hc.2) Tryd.underlying23 rfl size_kv
  simp only [ho, hx, Instr.loadAt, Instr.sureAddr, Sem.run_bind, Sem.run_pure, Result.andThen_ok, hl]
  exact h
theorem wpList_load_kv {ops : Array Oper} {rest : List Oper} {o : Oper} {a : Act} {w : World} {Q : Exit → Act → World → Prop} (hw : Region.wanted o (yielded ops a.tmps) = true) (x : Operand) (ho : o.op = .load 23 x)
    (ad : Addr) (hx : a.eval x = .pointer (some ad)) (p : Kv) (hc : AtQ w ad p) (h : wpList Tryd.prog ops Q rest (a.put o.dst (.agg #[.string ⟨p.1.toArray⟩, .string ⟨p.2.toArray⟩])) w) : wpList Tryd.prog ops Q (o :: rest) a w := by
  refine wpList_step fun K hK => ?_
  simp only [hw, if_true]
  unfold Oper.wp execOp
  have hl := run_loadVar_cells (P := Tryd.prog) w ad 23 [sv p.1, sv p.2] _ (fun j u hu => by
    match j, hu with
    | 0, hu => cases hu; have e : ad.add 0 = ad := by unfold Addr.add; split <;> simp_all
               rw [e]; exact hc.1
    | 1, hu => cases hu; rw [add_one]; exact hc.2) Tryd.underlying23 rfl size_kv
  simp only [ho, hx, Instr.loadAt, Instr.sureAddr, Sem.run_bind, Sem.run_pure, Result.andThen_ok, hl]
  exact hK _ _ h
def OwnQ (w : World) (v : Value) (ps : List Kv) : Prop := ∃ base, base ≤ w.heap.size ∧ w.ownsRow base 23 2 v ps.length (qcs ps)
section
variable {w w' : World} {v : Value} {ps : List Kv}
theorem OwnQ.nil (w : World) : OwnQ w (.slice none 0 0) [] := ⟨0, Nat.zero_le _, by simp [qcs], .inl ⟨rfl, rfl⟩⟩
theorem OwnQ.keep (h : OwnQ w v ps) {row : Option Nat} (hg : w.grownBy w' row) (hne : v.ownBlock = none ∨ v.ownBlock ≠ row) : OwnQ w' v ps := by
  obtain ⟨base, hb, h⟩ := h
  exact ⟨base, Nat.le_trans hb hg.size, h.kept hg hne⟩
theorem OwnQ.kept (h : OwnQ w v ps) (hg : w.grownBy w' none) : OwnQ w' v ps := h.keep hg (by cases v.ownBlock <;> simp)
theorem OwnQ.lt (h : OwnQ w v ps) : ∀ k, v.ownBlock = some k → k < w.heap.size := by
  obtain ⟨base, hb, _, h⟩ := h
  rcases h with ⟨rfl, _⟩ | ⟨g, cap, cur, rfl, _, hg, _⟩
  · intro k e; cases e
  · intro k e
    simp only [Value.ownBlock, Option.some.injEq] at e
    subst e
    exact (Array.getElem?_eq_some_iff.1 hg).1
theorem OwnQ.toPS (h : OwnQ w v ps) : PS w v ps := by
  obtain ⟨base, hb, h⟩ := h
  obtain ⟨A, c, rfl, h1, h2⟩ := own_slice h
  exact ⟨A, c, rfl, h1, RdAt.ofOwn h⟩
end
theorem OwnQ.toPB {w : World} {v : Value} {ps : List Kv} (h : OwnQ w v ps) : PB w v ps := ⟨h.toPS, h.lt⟩
theorem wp_appQ {o : Oper} {a : Act} {w : World} {K : Act → World → Prop} {Q : Exit → Act → World → Prop} {s x : Operand}
    (ho : o.op = .call { callee := .builtin .append, args := #[s, x], argTypes := #[24, 24] })
    {v : Value} {ps : List Kv} (hv : a.eval s = v) (hown : OwnQ w v ps) {A : Option Addr} {m c : Nat} {qs : List Kv} (hx : a.eval x = .slice A m c) (hm : m = qs.length) (hr : RdQ w A qs) (hb : ps.length + m ≤ 1000000000)
    (h : ∀ v' w', OwnQ w' v' (ps ++ qs) → Grew w w' v v' → K (a.put o.dst v') w') : Oper.wp Tryd.prog o a w K Q := by
  obtain ⟨i, hi, hz, hs, hby⟩ := info_parts info_kv
  obtain ⟨base, hbase, hown⟩ := hown
  subst hm
  rcases hr with e | ⟨ad, rfl, hc⟩
  · obtain rfl := qcs_nil e
    have hrun := run_append_empty (P := Tryd.prog) w (ty := o.type) Tryd.underlying24 hi hown A c
    unfold Oper.wp execOp
    simp only [ho, resolve, invoke, builtin, Sem.run_bind, Sem.run_pure, Result.andThen_ok, List.map_toArray, List.map_cons, List.map_nil, hv, hx, List.length_nil, hrun]
    exact h v w (by rw [List.append_nil]; exact ⟨base, hbase, hown⟩) (Grew.refl w v)
  · rcases Nat.eq_zero_or_pos qs.length with h0 | hpos
    · obtain rfl := List.eq_nil_of_length_eq_zero h0
      have hrun := run_append_empty (P := Tryd.prog) w (ty := o.type) Tryd.underlying24 hi hown (some ad) c
      unfold Oper.wp execOp
      simp only [ho, resolve, invoke, builtin, Sem.run_bind, Sem.run_pure, Result.andThen_ok, List.map_toArray, List.map_cons, List.map_nil, hv, hx, List.length_nil, hrun]
      exact h v w (by rw [List.append_nil]; exact ⟨base, hbase, hown⟩) (Grew.refl w v)
    · refine wp_append_lies w s x 24 ho base 23 i _ 2 32 Tryd.underlying24 hi hz hs hby rfl (by omega) v ps.length (qcs ps) hv hown ad qs.length c (qcs qs) hx (qcs_len _) hc (qcs_one _) hpos (by unfold maxLen; omega) (by omega) hbase _ rfl ?_
      intro g cap w' h1 h2 h3 _
      refine h _ w' ⟨base, Nat.le_trans hbase h2.size, by rw [qcs_append, List.length_append]; exact h1⟩ ⟨h2, ?_⟩
      rcases h3 with h3 | h3
      · exact .inl h3.symm
      · exact .inr ⟨g, rfl, by omega⟩
theorem wpList_appQ {ops : Array Oper} {rest : List Oper} {o : Oper} {a : Act} {w : World} {Q : Exit → Act → World → Prop} (hgd : o.guard = none) (s x : Operand)
    (ho : o.op = .call { callee := .builtin .append, args := #[s, x], argTypes := #[24, 24] })
    {v : Value} {ps : List Kv} (hv : a.eval s = v) (hown : OwnQ w v ps) {A : Option Addr} {m c : Nat} {qs : List Kv} (hx : a.eval x = .slice A m c) (hm : m = qs.length) (hr : RdQ w A qs) (hb : ps.length + m ≤ 1000000000)
    (h : ∀ v' w', OwnQ w' v' (ps ++ qs) → Grew w w' v v' → wpList Tryd.prog ops Q rest (a.put o.dst v') w') : wpList Tryd.prog ops Q (o :: rest) a w :=
  wpList_plain hgd fun _ hK => wp_appQ ho hv hown hx hm hr hb fun v' w' h1 h2 => hK _ _ (h v' w' h1 h2)
theorem step_appQ {ops : Array Oper} {o : Oper} {a : Act} {w : World} {K : Act → World → Prop} {Q : Exit → Act → World → Prop} {E : Prop} (hgd : o.guard = none) (s x : Operand)
    (ho : o.op = .call { callee := .builtin .append, args := #[s, x], argTypes := #[24, 24] })
    {v : Value} {ps : List Kv} (hv : a.eval s = v) (hown : OwnQ w v ps) {A : Option Addr} {m c : Nat} {qs : List Kv} (hx : a.eval x = .slice A m c) (hm : m = qs.length) (hr : RdQ w A qs) (hb : ps.length + m ≤ 1000000000)
    (h : ∀ v' w', OwnQ w' v' (ps ++ qs) → Grew w w' v v' → K (a.put o.dst v') w') : if Region.wanted o (yielded ops a.tmps) = true then Oper.wp Tryd.prog o a w K Q else E := by
  have hw : Region.wanted o (yielded ops a.tmps) = true := by simp [Region.wanted, hgd]
  rw [if_pos hw]
  exact wp_appQ ho hv hown hx hm hr hb h
/-- A literal row of pairs: it is the call's own. -/
theorem ownQ_new (w : World) (cs : Array Value) (ps : List Kv) (n : Nat) (h : cs.toList = qcs ps) (hn : ps.length = n) (hm : n ≤ maxLen) : OwnQ (w.alloc (.cells cs 23)) (.slice (some ⟨w.heap.size, 0, none⟩) n n) ps := by
  have hs : cs.size = n * 2 := by rw [← Array.length_toList, h, qcs_len, hn]
  have hl := qcs_len ps
  refine ⟨w.heap.size, by simp, by rw [hl], .inr ⟨w.heap.size, n, cs, by rw [hn], Nat.le_refl _, heap_alloc_new w _, by omega, hm, by omega, ?_⟩⟩
  rw [List.take_of_length_le (by rw [h, hl]; exact Nat.le_refl _), h]

/-! ## Slices of pairs -/

theorem sl_hiQ (A : Option Addr) (n c k : Nat) (hk : k ≤ c) (w : World) : (Instr.sliceAt 24 (.slice A n c) none (some (.int .i64 (k : Int))) none).run Tryd.prog w = .ok (.slice A k c) w := by
  rw [run_sliceAt_slice (P := Tryd.prog) (w := w) (t := 24) (h := by kernel_rfl), run_slice_h (P := Tryd.prog) (w := w) (ht := by kernel_rfl) (h0 := by omega) (h2 := by omega)]
  have he : (sizeOf (Tryd.prog.elem 24)).run Tryd.prog w = .ok 2 w := by kernel_rfl
  rw [he, Result.andThen_ok]
  cases A with
  | none => simp [sliced]
  | some ad =>
    have e : ad.add 0 = ad := by unfold Addr.add; split <;> simp_all
    simp [sliced, e]
theorem sl_loQ (A : Option Addr) (n c k : Nat) (hk : k ≤ n) (w : World) : (Instr.sliceAt 24 (.slice A n c) (some (.int .i64 (k : Int))) none none).run Tryd.prog w = .ok (.slice (if c = k then A else A.map (·.add (k * 2))) (n - k) (c - k)) w := by
  rw [run_sliceAt_slice (P := Tryd.prog) (w := w) (t := 24) (h := by kernel_rfl), run_slice_l (P := Tryd.prog) (w := w) (ht := by kernel_rfl) (h0 := by omega) (h1 := by omega)]
  have he : (sizeOf (Tryd.prog.elem 24)).run Tryd.prog w = .ok 2 w := by kernel_rfl
  rw [he, Result.andThen_ok]
  simp [sliced]
theorem idx_Q (ad : Addr) (n c k : Nat) (hk : k < n) (w : World) : (Instr.indexAt 24 (.slice (some ad) n c) (.int .i64 (k : Int))).run Tryd.prog w = .ok (.pointer (some (ad.add (k * 2)))) w := by
  rw [run_indexAt_slice (P := Tryd.prog) (h := by kernel_rfl), if_pos ⟨by omega, by omega⟩]
  rw [show (sizeOf (Tryd.prog.elem 24)).run Tryd.prog w = .ok 2 w from by kernel_rfl, Result.andThen_ok]
  simp

/-! ## Strings compared -/
theorem lss_str (a b : List UInt8) (t : TypeId) : binOp .lss t (.string ⟨a.toArray⟩) (.string ⟨b.toArray⟩) = pure (.bool (kl a b)) := by
  rw [binOp_string_lss, Lib.toList_data, Lib.toList_data]
theorem geq_str (a b : List UInt8) (t : TypeId) : binOp .geq t (.string ⟨a.toArray⟩) (.string ⟨b.toArray⟩) = pure (.bool (!kl a b)) := by
  rw [binOp_string_geq, Lib.toList_data, Lib.toList_data]
theorem eql_str (a b : List UInt8) (t : TypeId) : binOp .eql t (.string ⟨a.toArray⟩) (.string ⟨b.toArray⟩) = pure (.bool (a == b)) := by
  rw [binOp_string_eql, Lib.toList_data, Lib.toList_data]
theorem neq_str (a b : List UInt8) (t : TypeId) : binOp .neq t (.string ⟨a.toArray⟩) (.string ⟨b.toArray⟩) = pure (.bool (!(a == b))) := by
  rw [binOp_string_neq, Lib.toList_data, Lib.toList_data]
end Go.Proofs.YtpeepiboocdnaaaDoor

namespace Go.Proofs.YtpeepiboocdnaaaDoor
open Go.RowKit

/-! ## Rows that rise, as lists -/

def Rises (ps : List Kv) : Prop := ps.Pairwise fun p q => kl p.1 q.1 = true
/-- The pairs below a key, those above it. -/
def loL (ps : List Kv) (k : List UInt8) : List Kv := ps.filter fun p => kl p.1 k
def hiL (ps : List Kv) (k : List UInt8) : List Kv := ps.filter fun p => kl k p.1
/-- The key's own pair, if there is one. -/
def atL (ps : List Kv) (k : List UInt8) : List Kv := ps.filter fun p => p.1 == k
theorem kvparts_of : ∀ {ps : List Kv} (_ : Rises ps) (k : List UInt8), ps = loL ps k ++ (atL ps k ++ hiL ps k)
  | [], _, _ => rfl
  | p :: ps, h, k => by
    obtain ⟨h1, h2⟩ := List.pairwise_cons.1 h
    have ih := kvparts_of h2 k
    cases hp : kl p.1 k
    · have hlo : loL ps k = [] := List.filter_eq_nil_iff.2 fun q hq e => by
        rw [kl_trans (h1 q hq) e] at hp; cases hp
      have hlo' : loL (p :: ps) k = [] := by show List.filter _ _ = _; rw [List.filter_cons]; simp only [hp]; exact hlo
      rw [hlo', List.nil_append]
      cases hk : kl k p.1
      · obtain e := kl_tri hp hk
        have hat : atL ps k = [] := List.filter_eq_nil_iff.2 fun q hq e' => by
          have := h1 q hq
          rw [beq_iff_eq.1 e', e, kl_irr] at this; cases this
        rw [hlo, hat, List.nil_append, List.nil_append] at ih
        have e1 : atL (p :: ps) k = p :: atL ps k := by show List.filter _ _ = _; rw [List.filter_cons]; simp only [e, beq_self_eq_true]; rfl
        have e2 : hiL (p :: ps) k = hiL ps k := by show List.filter _ _ = _; rw [List.filter_cons]; simp only [hk]; rfl
        rw [e1, e2, hat, ← ih]; rfl
      · have hat : atL (p :: ps) k = [] := List.filter_eq_nil_iff.2 fun q hq e' => by
          have e'' := beq_iff_eq.1 e'
          rcases List.mem_cons.1 hq with rfl | hq
          · rw [e'', kl_irr] at hk; cases hk
          · have := kl_trans hk (h1 q hq)
            rw [e'', kl_irr] at this; cases this
        rw [hat, List.nil_append]
        exact (List.filter_eq_self.2 fun q hq => by
          rcases List.mem_cons.1 hq with rfl | hq
          · exact hk
          · exact kl_trans hk (h1 q hq)).symm
    · have e1 : loL (p :: ps) k = p :: loL ps k := by show List.filter _ _ = _; rw [List.filter_cons]; simp only [hp]; rfl
      have hk := kl_asymm hp
      have hne : (p.1 == k) = false := by
        rw [beq_eq_false_iff_ne]; intro e; rw [e, kl_irr] at hp; cases hp
      have e2 : atL (p :: ps) k = atL ps k := by show List.filter _ _ = _; rw [List.filter_cons]; simp only [hne]; rfl
      have e3 : hiL (p :: ps) k = hiL ps k := by show List.filter _ _ = _; rw [List.filter_cons]; simp only [hk]; rfl
      rw [e1, e2, e3, List.cons_append, ← ih]
theorem atL_one : ∀ {ps : List Kv} (_ : Rises ps) (k : List UInt8), atL ps k = [] ∨ ∃ v, atL ps k = [(k, v)]
  | [], _, _ => .inl rfl
  | p :: ps, h, k => by
    obtain ⟨h1, h2⟩ := List.pairwise_cons.1 h
    cases hp : p.1 == k
    · have e : atL (p :: ps) k = atL ps k := by show List.filter _ _ = _; rw [List.filter_cons]; simp only [hp]; rfl
      rw [e]
      exact atL_one h2 k
    · have hk := beq_iff_eq.1 hp
      have hat : atL ps k = [] := List.filter_eq_nil_iff.2 fun q hq e' => by
        have := h1 q hq
        rw [beq_iff_eq.1 e', hk, kl_irr] at this; cases this
      refine .inr ⟨p.2, ?_⟩
      have e : atL (p :: ps) k = p :: atL ps k := by show List.filter _ _ = _; rw [List.filter_cons]; simp only [hp]; rfl
      rw [e, hat, ← hk]
/-- How many are below; is there one of that key? -/
def lowN (ps : List Kv) (k : List UInt8) : Nat := (loL ps k).length
def hasK (ps : List Kv) (k : List UInt8) : Bool := !(atL ps k).isEmpty
theorem lowN_le (ps : List Kv) (k : List UInt8) : lowN ps k ≤ ps.length := List.length_filter_le ..
section
variable {ps : List Kv} (h : Rises ps) (k : List UInt8)
include h
theorem take_low : ps.take (lowN ps k) = loL ps k := by
  have e := kvparts_of h k
  have e2 : (loL ps k ++ (atL ps k ++ hiL ps k)).take (lowN ps k) = loL ps k := List.take_left' rfl
  rwa [← e] at e2
theorem drop_low : ps.drop (lowN ps k) = atL ps k ++ hiL ps k := by
  have e := kvparts_of h k
  have e2 : (loL ps k ++ (atL ps k ++ hiL ps k)).drop (lowN ps k) = atL ps k ++ hiL ps k := List.drop_left' rfl
  rwa [← e] at e2
theorem drop_past : ps.drop (lowN ps k + (atL ps k).length) = hiL ps k := by
  rw [← List.drop_drop, drop_low h, List.drop_left]
theorem len_parts : ps.length = lowN ps k + ((atL ps k).length + (hiL ps k).length) := by
  have e := congrArg List.length (kvparts_of h k)
  rwa [List.length_append, List.length_append] at e
theorem below_low {i : Nat} (hi : i < lowN ps k) (hl : i < ps.length) : kl ps[i].1 k = true := by
  have e := take_low h k
  have hm : ps[i] ∈ ps.take (lowN ps k) := by
    rw [List.mem_iff_getElem]
    exact ⟨i, by rw [List.length_take]; omega, List.getElem_take ..⟩
  rw [e] at hm
  exact (List.mem_filter.1 hm).2
theorem above_low {i : Nat} (hi : lowN ps k ≤ i) (hl : i < ps.length) : kl ps[i].1 k = false := by
  have e := drop_low h k
  have hm : ps[i] ∈ ps.drop (lowN ps k) := by
    rw [List.mem_iff_getElem]
    refine ⟨i - lowN ps k, by rw [List.length_drop]; omega, ?_⟩
    rw [List.getElem_drop]
    congr 1
    omega
  rw [e, List.mem_append] at hm
  rcases hm with hm | hm
  · have := (List.mem_filter.1 hm).2
    rw [beq_iff_eq.1 this, kl_irr]
  · exact kl_asymm (List.mem_filter.1 hm).2
theorem low_of {n : Nat} (hn : n ≤ ps.length) (h1 : ∀ i (hl : i < ps.length), i < n → kl ps[i].1 k = true) (h2 : ∀ i (hl : i < ps.length), n ≤ i → kl ps[i].1 k = false) : n = lowN ps k := by
  have hle := lowN_le ps k
  rcases Nat.lt_trichotomy n (lowN ps k) with hlt | rfl | hgt
  · have := below_low h k hlt (by omega)
    rw [h2 n (by omega) (Nat.le_refl _)] at this; cases this
  · rfl
  · have := above_low h k (Nat.le_refl _) (i := lowN ps k) (by omega)
    rw [h1 _ (by omega) hgt] at this; cases this
theorem has_at (hl : lowN ps k < ps.length) : hasK ps k = decide (ps[lowN ps k].1 = k) := by
  have e := drop_low h k
  have e2 := List.drop_eq_getElem_cons hl
  rw [e] at e2
  rcases atL_one h k with h0 | ⟨v, h0⟩
  · rw [h0, List.nil_append] at e2
    have hm : ps[lowN ps k] ∈ hiL ps k := by rw [e2]; exact List.mem_cons_self ..
    have hk := (List.mem_filter.1 hm).2
    unfold hasK
    rw [h0]
    symm
    rw [List.isEmpty_nil, Bool.not_true, decide_eq_false_iff_not]
    intro e3
    rw [e3, kl_irr] at hk; cases hk
  · rw [h0] at e2
    have e3 := (List.cons.inj e2).1
    unfold hasK
    rw [h0, ← e3]
    simp
theorem has_end (hl : ¬ lowN ps k < ps.length) : hasK ps k = false := by
  have e := len_parts h k
  have : atL ps k = [] := List.eq_nil_of_length_eq_zero (by omega)
  unfold hasK
  rw [this]; rfl
theorem len_at : (atL ps k).length = if hasK ps k then 1 else 0 := by
  unfold hasK
  rcases atL_one h k with h0 | ⟨v, h0⟩ <;> rw [h0] <;> rfl
end

/-! ## The search -/

theorem run_cmp (a b : List UInt8) (w : World) : (callFunc 66 #[.string ⟨a.toArray⟩, .string ⟨b.toArray⟩]).run Tryd.prog w = .ok (.value (.int .i64 (Lib.compareBytes a b))) w := by
  rw [run_callFunc_extern Tryd.func66 (by kernel_rfl) (by kernel_rfl) (by kernel_rfl) (e := Extern.BytealgCompare.compare) (by kernel_rfl), Lib.run_compareString]
  rfl
set_option maxRecDepth 100000 in
theorem Cmp_in (a b : List UInt8) (w : World) : Calls Tryd.prog 61 #[.string ⟨a.toArray⟩, .string ⟨b.toArray⟩] w fun e w' => e = .returned (.int .i64 (Lib.compareBytes a b)) ∧ w = w' := by
  have hc := run_cmp a b
  go_enter Tryd.func61, Tryd.ntmps61
  go_wp2
  go_ret
  exact ⟨rfl, rfl⟩
set_option maxRecDepth 100000 in
theorem Compare_any (a b : List UInt8) (w : World) : Calls Tryd.prog 54 #[.string ⟨a.toArray⟩, .string ⟨b.toArray⟩] w fun e w' => e = .returned (.int .i64 (Lib.compareBytes a b)) ∧ w = w' := by
  go_enter Tryd.func54, Tryd.ntmps54
  go_wp2_with (go_at_call 61; refine (Cmp_in _ _ _).mono ?_; rintro e w' ⟨rfl, rfl⟩)
  go_ret
  exact ⟨rfl, rfl⟩
set_option maxRecDepth 100000 in
theorem Against_any (p : Kv) (k : List UInt8) (w : World) : Calls Tryd.prog 47 #[.agg #[.string ⟨p.1.toArray⟩, .string ⟨p.2.toArray⟩], .string ⟨k.toArray⟩] w fun e w' => e = .returned (.int .i64 (Lib.compareBytes p.1 k)) ∧ w.grownBy w' none := by
  go_enter Tryd.func47, Tryd.ntmps47
  go_wp2_with (go_at_call 54; refine (Compare_any _ _ _).mono ?_; rintro e w' ⟨rfl, rfl⟩)
  go_ret
  exact ⟨rfl, grown_alloc (grown_refl _ _) _⟩
end Go.Proofs.YtpeepiboocdnaaaDoor

namespace Go.Proofs.YtpeepiboocdnaaaDoor
open Go.RowKit

set_option maxHeartbeats 2000000 in
set_option maxRecDepth 100000 in
set_option maxRecDepth 100000 in
theorem Search_any (A : Option Addr) (c : Nat) (ps : List Kv) (k : List UInt8) (w : World) (hr : RdQ w A ps) (hn : ps.length ≤ 1000000000) (hs : Rises ps) :
    Calls Tryd.prog 46 #[.slice A ps.length c, .string ⟨k.toArray⟩, .func (.func 47) #[] #[]] w fun e w' => e = .returned (.tuple #[.int .i64 (lowN ps k : Nat), .bool (hasK ps k)]) ∧ w.grownBy w' none := by
  have H1 : Aside (∀ i (hl : i < ps.length), i < lowN ps k → kl ps[i].1 k = true) := fun i hl hi => below_low hs k hi hl
  have H2 : Aside (∀ i (hl : i < ps.length), lowN ps k ≤ i → kl ps[i].1 k = false) := fun i hl hi => above_low hs k hi hl
  have H3 : Aside (∀ hl : lowN ps k < ps.length, hasK ps k = decide (ps[lowN ps k].1 = k)) := fun hl => has_at hs k hl
  have H4 : Aside (¬ lowN ps k < ps.length → hasK ps k = false) := fun hl => has_end hs k hl
  have hN := lowN_le ps k
  clear hs
  generalize lowN ps k = N at *
  generalize hasK ps k = F at *
  go_enter Tryd.func46, Tryd.ntmps46
  go_wp2
  go_loopg [9, 10] ps.length (fun kx s9 s10 wr => ∃ lo hi : Nat, s9 = .int .i64 lo ∧ s10 = .int .i64 hi ∧ lo ≤ N ∧ N ≤ hi ∧ hi ≤ ps.length ∧ hi - lo ≤ kx ∧ w.grownBy wr none)
  case atStart => exact ⟨0, ps.length, rfl, rfl, by omega, hN, Nat.le_refl _, by omega, grown_refl _ _⟩
  case round =>
    obtain ⟨lo, hi, rfl, rfl, hlo, hhi, hin, hg, hw⟩ := hrel
    have hr' := hr.kept hw
    by_cases hlt : lo < hi
    · have hm : (lo + hi) / 2 < ps.length := by omega
      obtain ⟨ad, rfl, hc⟩ := RdQ.at hr' hm
      have H1' : Aside ((lo + hi) / 2 < N → kl ps[(lo + hi) / 2].1 k = true) := H1.out _ hm
      have H2' : Aside (N ≤ (lo + hi) / 2 → kl ps[(lo + hi) / 2].1 k = false) := H2.out _ hm
      generalize ps[(lo + hi) / 2] = y at hc H1' H2'
      have HC := Lib.hid hc
      clear hc
      by_cases hyx : Lib.compareBytes y.1 k < 0
      · have hle : (lo + hi) / 2 < N := by
          refine Nat.lt_of_not_le fun h => ?_
          have := H2'.out h
          rw [← cmp_lt] at this
          simp [hyx] at this
        go_wp2_with (first | (refine wpList_load_kv (by rfl) _ rfl (ad.add ((lo + hi) / 2 * 2)) rfl y HC.out ?_) | (go_at_call 47; refine (Against_any _ _ _).mono ?_; rintro e w1 ⟨rfl, hg1⟩))
        go_roundg (hi - ((lo + hi) / 2 + 1))
        case measure => omega
        case rel => exact ⟨(lo + hi) / 2 + 1, hi, by rw [show ((lo : Int) + (hi : Int)) / 2 + 1 = (((lo + hi) / 2 + 1 : Nat) : Int) by omega], rfl, hle, hhi, hin, Nat.le_refl _, grown_none hw hg1⟩
      · have hle : N ≤ (lo + hi) / 2 := by
          refine Nat.le_of_not_lt fun h => ?_
          have := H1'.out h
          rw [← cmp_lt] at this
          simp [hyx] at this
        go_wp2_with (first | (refine wpList_load_kv (by rfl) _ rfl (ad.add ((lo + hi) / 2 * 2)) rfl y HC.out ?_) | (go_at_call 47; refine (Against_any _ _ _).mono ?_; rintro e w1 ⟨rfl, hg1⟩))
        go_roundg ((lo + hi) / 2 - lo)
        case measure => omega
        case rel => exact ⟨lo, (lo + hi) / 2, rfl, by rw [show ((lo : Int) + (hi : Int)) / 2 = (((lo + hi) / 2 : Nat) : Int) by omega], hlo, hle, by omega, Nat.le_refl _, grown_none hw hg1⟩
    · obtain rfl : hi = lo := by omega
      obtain rfl : N = hi := by omega
      by_cases hlt2 : N < ps.length
      · obtain ⟨ad, rfl, hc⟩ := RdQ.at hr' hlt2
        have H3' : Aside (F = decide (ps[N].1 = k)) := H3.out hlt2
        generalize ps[N] = y at hc H3'
        have HC := Lib.hid hc
        clear hc
        have HE : Aside (F = decide (Lib.compareBytes y.1 k = 0)) := by show _ = _; rw [H3'.out, ← cmp_eq]
        by_cases hyx : Lib.compareBytes y.1 k = 0
        · go_wp2_with (first | (refine wpList_load_kv (by rfl) _ rfl (ad.add (N * 2)) rfl y HC.out ?_) | (go_at_call 47; refine (Against_any _ _ _).mono ?_; rintro e w1 ⟨rfl, hg1⟩))
          go_ret2
          exact ⟨by rw [HE.out]; simp [hyx], grown_none hw hg1⟩
        · go_wp2_with (first | (refine wpList_load_kv (by rfl) _ rfl (ad.add (N * 2)) rfl y HC.out ?_) | (go_at_call 47; refine (Against_any _ _ _).mono ?_; rintro e w1 ⟨rfl, hg1⟩))
          go_ret2
          exact ⟨by rw [HE.out]; simp [hyx], grown_none hw hg1⟩
      · go_wp2
        go_ret2
        exact ⟨by rw [H4.out hlt2]; rfl, hw⟩
end Go.Proofs.YtpeepiboocdnaaaDoor

namespace Go.Proofs.YtpeepiboocdnaaaDoor
open Go.RowKit

set_option maxRecDepth 100000 in
theorem place_any (A : Option Addr) (c : Nat) (ps : List Kv) (k : List UInt8) (w : World) (hr : RdQ w A ps) (hn : ps.length ≤ 1000000000) (hs : Rises ps) :
    Calls Tryd.prog 37 #[.slice A ps.length c, .string ⟨k.toArray⟩] w fun e w' => e = .returned (.tuple #[.int .i64 (lowN ps k : Nat), .int .i64 ((lowN ps k + (atL ps k).length : Nat))]) ∧ w.grownBy w' none := by
  have hS := Search_any A c ps k w hr hn hs
  have hl := len_at hs k
  have hb := lowN_le ps k
  clear hr hs
  generalize lowN ps k = N at *
  generalize hasK ps k = F at *
  generalize (atL ps k).length = M at *
  have HL := Lib.hid hl
  clear hl
  go_enter Tryd.func37, Tryd.ntmps37
  cases F
  · have hM : M = 0 := HL.out
    subst hM
    go_wp2_with (go_at_call 46; refine hS.mono ?_; rintro e w' ⟨rfl, hg⟩)
    go_ret2
    exact ⟨rfl, hg⟩
  · have hM : M = 1 := HL.out
    subst hM
    go_wp2_with (go_at_call 46; refine hS.mono ?_; rintro e w' ⟨rfl, hg⟩)
    go_ret2
    exact ⟨rfl, hg⟩

set_option maxRecDepth 100000 in
theorem First_any (A : Option Addr) (c : Nat) (ps : List Kv) (k : List UInt8) (w : World) (hr : RdQ w A ps) (hn : ps.length ≤ 1000000000) (hs : Rises ps) :
    Calls Tryd.prog 24 #[.slice A ps.length c, .string ⟨k.toArray⟩] w fun e w' => e = .returned (.int .i64 (lowN ps k : Nat)) ∧ w.grownBy w' none := by
  have hS := place_any A c ps k w hr hn hs
  clear hr hs
  generalize lowN ps k = N at *
  generalize (atL ps k).length = M at *
  go_enter Tryd.func24, Tryd.ntmps24
  go_wp2_with (go_at_call 37; refine hS.mono ?_; rintro e w' ⟨rfl, hg⟩)
  go_ret
  exact ⟨rfl, hg⟩

/-- The value of a key; whether there is one. -/
def getV (ps : List Kv) (k : List UInt8) : List UInt8 := match atL ps k with | [] => [] | p :: _ => p.2
set_option maxRecDepth 100000 in
theorem Get_any (A : Option Addr) (c : Nat) (ps : List Kv) (k : List UInt8) (w : World) (hr : RdQ w A ps) (hn : ps.length ≤ 1000000000) (hs : Rises ps) :
    Calls Tryd.prog 36 #[.slice A ps.length c, .string ⟨k.toArray⟩] w fun e w' => e = .returned (.tuple #[.string ⟨(getV ps k).toArray⟩, .bool (hasK ps k)]) ∧ w.grownBy w' none := by
  have hS := place_any A c ps k w hr hn hs
  rcases atL_one hs k with h0 | ⟨v, h0⟩
  · have hM : (atL ps k).length = 0 := by rw [h0]; rfl
    have hF : hasK ps k = false := by unfold hasK; rw [h0]; rfl
    have hV : getV ps k = [] := by unfold getV; rw [h0]
    rw [hM] at hS
    rw [hF, hV]
    clear hr hs h0 hM hF hV
    generalize lowN ps k = N at *
    go_enter Tryd.func36, Tryd.ntmps36
    go_wp2_with (go_at_call 37; refine hS.mono ?_; rintro e w' ⟨rfl, hg⟩)
    go_ret2
    exact ⟨rfl, hg⟩
  · have hM : (atL ps k).length = 1 := by rw [h0]; rfl
    have hF : hasK ps k = true := by unfold hasK; rw [h0]; rfl
    have hV : getV ps k = v := by unfold getV; rw [h0]
    have hlt : lowN ps k < ps.length := by have := len_parts hs k; omega
    have hk : ps[lowN ps k] = (k, v) := by
      have e := drop_low hs k
      rw [List.drop_eq_getElem_cons hlt, h0] at e
      exact (List.cons.inj e).1
    obtain ⟨ad, rfl, -, hc⟩ := RdQ.get hr hlt
    rw [hk] at hc
    rw [hM] at hS
    rw [hF, hV]
    clear hr hs h0 hM hF hV hk
    generalize lowN ps k = N at *
    have hc2 : ∀ w', w.grownBy w' none → w'.cell? ⟨(ad.add (N * 2)).block, (ad.add (N * 2)).off + 1, none⟩ = some (.string ⟨v.toArray⟩) := fun w' hg => hg.cell hc (by simp)
    clear hc
    go_enter Tryd.func36, Tryd.ntmps36
    go_wp2_with (go_at_call 37; refine hS.mono ?_; rintro e w' ⟨rfl, hg⟩; have hc := hc2 _ hg)
    go_ret2
    exact ⟨rfl, hg⟩

/-- May that be a pair? -/
def mayQ (p : Kv) : Bool := decide (1 ≤ p.1.length ∧ p.1.length ≤ 16 ∧ p.2.length ≤ 24)
end Go.Proofs.YtpeepiboocdnaaaDoor
