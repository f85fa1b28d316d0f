/- The contracts of package vint's functions. -/
import Derived.Test.YtehbhjkceemmcaaRows
import Derived.Test.YtehbhjkceemmcaaKA
import Derived.Test.YtehbhjkceemmcaaBook
namespace Go.Proofs.Ytehbhjkceemmcaa
open Go.RowKit

/-- The lowest seven bits, with 128 more. -/
def lowB (n : Nat) : UInt8 := UInt8.ofNat (n % 128 + 128)
/-- A number's bytes: sevens of bits, the lowest first, 128 more on all but the last. -/
def putN (n : Nat) : List UInt8 := if n < 128 then [UInt8.ofNat n] else lowB n :: putN (n / 128)
  termination_by n
  decreasing_by omega

/-- .. of those that may be. -/
def putL (n : Int) : List UInt8 := if n < 0 ∨ 1099511627775 < n then [] else putN n.toNat

/-- 'append(v, s...)', s a text. -/
theorem wpList_appS (w : World) {ops : Array Oper} {rest : List Oper} {o : Oper} {a : Act} {Q : Exit → Act → World → Prop} (hgd : o.guard = none) (x y : Operand)
    (ho : o.op = .call { callee := .builtin .append, args := #[x, y], argTypes := #[42, 9] })
    {v : Value} {l : List UInt8} (hv : a.eval x = v) (hown : OwnB w v l) {s : ByteArray} (hy : a.eval y = .string s)
    (hb : l.length + s.size ≤ 140737488355328)
    (h : ∀ v' w', OwnB w' v' (l ++ s.data.toList) → Grew w w' v v' → wpList Try.prog ops Q rest (a.put o.dst v') w') : wpList Try.prog ops Q (o :: rest) a w := by
  obtain ⟨i, hi, hz, hs, hby⟩ := info_parts info_u8
  obtain ⟨base, hbase, hown⟩ := hown
  refine wpList_plain hgd fun K hK => ?_
  obtain ⟨v', w', hrun, h2, h3⟩ := run_append_str (P := Try.prog) w (ty := o.type) Try.underlying42 Try.underlying9 hi hz hs hby hown s hb hbase
  unfold Oper.wp execOp
  simp only [ho, resolve, invoke, builtin, Sem.run_bind, Sem.run_pure, Result.andThen_ok, List.map_toArray, List.map_cons, List.map_nil, hv, hy, hrun]
  exact hK _ _ (h v' w' ⟨base, Nat.le_trans hbase h3.1.size, h2⟩ h3)

theorem or128 : ∀ x : Fin 256, bits .or .u8 (x.val : Int) 128 = ((x.val % 128 + 128 : Nat) : Int) := by decide +kernel
theorem lowB_val (m : Nat) : bits .or .u8 ((m : Int) % 256) 128 = ((lowB m).toNat : Int) := by
  have h : bits .or .u8 ((m % 256 : Nat) : Int) 128 = ((m % 256 % 128 + 128 : Nat) : Int) := or128 ⟨m % 256, Nat.mod_lt _ (by omega)⟩
  have e : ((m : Int) % 256) = ((m % 256 : Nat) : Int) := by omega
  rw [e, h, lowB, UInt8.toNat_ofNat']
  have : m % 256 % 128 = m % 128 := by omega
  omega
theorem putN_small {n : Nat} (h : n < 128) : putN n = [UInt8.ofNat n] := by rw [putN]; simp [h]
theorem putN_great {n : Nat} (h : ¬ n < 128) : putN n = lowB n :: putN (n / 128) := by rw [putN]; simp [h]

theorem putN_lt (k : Nat) : ∀ n, n < 128 ^ (k + 1) → (putN n).length ≤ k + 1 := by
  induction k with
  | zero => intro n h; rw [putN_small (by simpa using h)]; simp
  | succ k ih =>
    intro n h
    by_cases hn : n < 128
    · rw [putN_small hn]; simp
    · rw [putN_great hn, List.length_cons]
      have := ih (n / 128) (by rw [Nat.pow_succ] at h; exact Nat.div_lt_of_lt_mul (by omega))
      omega
theorem putN_len (n : Nat) (h : n ≤ 1099511627775) : (putN n).length ≤ 6 := putN_lt 5 n (by show n < 4398046511104; omega)

set_option maxHeartbeats 400000 in
theorem vput_none (v : Value) (n : Int) (w : World) (h : n < 0 ∨ 1099511627775 < n) :
    Calls Try.prog 34 #[v, .int .i64 n] w fun e w' => e = .returned v ∧ w = w' := by
  rcases h with h | h
  · go_enter Try.func34, Try.ntmps34
    go_wp2
    go_ret
    exact ⟨rfl, rfl⟩
  · have h0 : ¬ n < 0 := by omega
    go_enter Try.func34, Try.ntmps34
    go_wp2
    go_ret
    exact ⟨rfl, rfl⟩

set_option maxHeartbeats 400000 in
theorem vput_some (v : Value) (l : List UInt8) (n : Nat) (w : World) (h1 : n ≤ 1099511627775) (ho : OwnB w v l) (hb : l.length ≤ 100000000000) :
    Calls Try.prog 34 #[v, .int .i64 n] w fun e w' => ∃ v', e = .returned v' ∧ OwnB w' v' (l ++ putN n) ∧ Grew w w' v v' := by
  have h3 : ¬ 1099511627775 < (n : Int) := by omega
  go_enter Try.func34, Try.ntmps34
  go_wp2
  go_loopw [0, 1] (fun x i wr => ∃ (m : Nat) (p : List UInt8), i = .int .i64 m ∧ m ≤ 1099511627775 ∧ OwnB wr x p ∧ p ++ putN m = l ++ putN n ∧ Grew w wr v x) (fun _ i _ => (intOf i).toNat)
  case atStart => exact ⟨n, l, rfl, h1, ho, rfl, Grew.refl _ _⟩
  case round =>
    obtain ⟨m, p, rfl, hm, hop, heq, hg⟩ := hrel
    have HE := Lib.hid heq
    clear heq
    have hpl : p.length ≤ l.length + 6 := by
      have h := congrArg List.length HE.out
      have h6 := putN_len n h1
      simp only [List.length_append] at h
      omega
    by_cases hlt : 127 < m
    · go_wp2_with (at_builtin; refine wpList_appB _ rfl _ _ rfl rfl (hop.alloc _) (news := [lowB m]) rfl rfl (rdB_new _ _ _ _ ?c1) ?c2 ?_)
      case c1 => simp only [bv]; rw [lowB_val]
      case c2 => simp; omega
      intro v' w' ho' hg'
      go_wp2
      go_roundw
      case rel => exact ⟨m / 128, p ++ [lowB m], by go_num, by omega, ho', by rw [← HE.out, putN_great (n := m) (by omega)]; simp, hg.trans (Grew.pre (grown_alloc (grown_refl _ _) _) hg')⟩
      case measure => simp [intOf]; omega
    · go_wp2_with (at_builtin; refine wpList_appB _ rfl _ _ rfl rfl (hop.alloc _) (news := [UInt8.ofNat m]) rfl rfl (rdB_new _ _ _ _ ?d1) ?d2 ?_)
      case d1 => simp only [bv]; rw [ofNat_u8 (by omega)]
      case d2 => simp; omega
      intro v' w' ho' hg'
      go_wp2
      go_ret
      exact ⟨v', rfl, by rw [← HE.out, putN_small (by omega)]; exact ho', hg.trans (Grew.pre (grown_alloc (grown_refl _ _) _) hg')⟩

theorem putL_none {n : Int} (h : n < 0 ∨ 1099511627775 < n) : putL n = [] := by rw [putL, if_pos h]
theorem putL_some {n : Nat} (h : n ≤ 1099511627775) : putL n = putN n := by rw [putL, if_neg (by omega)]; simp
theorem putL_len (n : Int) : (putL n).length ≤ 6 := by
  unfold putL
  split
  · simp
  · exact putN_len _ (by omega)

theorem vput_any (v : Value) (l : List UInt8) (n : Int) (w : World) (ho : OwnB w v l) (hb : l.length ≤ 100000000000) :
    Calls Try.prog 34 #[v, .int .i64 n] w fun e w' => ∃ v', e = .returned v' ∧ OwnB w' v' (l ++ putL n) ∧ Grew w w' v v' := by
  by_cases h : n < 0 ∨ 1099511627775 < n
  · refine (vput_none v n w h).mono ?_
    rintro e w' ⟨rfl, rfl⟩
    exact ⟨v, rfl, by rw [putL_none h, List.append_nil]; exact ho, Grew.refl _ _⟩
  · obtain ⟨m, rfl⟩ := Int.eq_ofNat_of_zero_le (show 0 ≤ n by omega)
    refine (vput_some v l m w (by omega) ho hb).mono ?_
    rintro e w' ⟨v', rfl, h1, h2⟩
    exact ⟨v', rfl, by rw [putL_some (by omega)]; exact h1, h2⟩

/-- The bytes of many numbers. -/
def putsL (ns : List Int) : List UInt8 := ns.flatMap putL
theorem putsL_len (ns : List Int) : (putsL ns).length ≤ 6 * ns.length := by
  induction ns with
  | nil => simp [putsL]
  | cons n r ih =>
    have := putL_len n
    simp only [putsL, List.flatMap_cons, List.length_append, List.length_cons] at ih ⊢
    omega
theorem putsL_next {ns : List Int} {k : Nat} (h : k < ns.length) : putsL (ns.take (k + 1)) = putsL (ns.take k) ++ putL ns[k] := by
  rw [List.take_succ_eq_append_getElem h, putsL, List.flatMap_append]; simp [putsL]

/-- A text's bytes: its length, and they. -/
def textL (s : List UInt8) : List UInt8 := putL s.length ++ s
def textsL (ss : List (List UInt8)) : List UInt8 := ss.flatMap textL
theorem textsL_next {ss : List (List UInt8)} {k : Nat} (h : k < ss.length) : textsL (ss.take (k + 1)) = textsL (ss.take k) ++ textL ss[k] := by
  rw [List.take_succ_eq_append_getElem h, textsL, List.flatMap_append]; simp [textsL]
theorem textsL_len (ss : List (List UInt8)) (M : Nat) (h : ∀ s ∈ ss, s.length ≤ M) : (textsL ss).length ≤ ss.length * (M + 6) := by
  induction ss with
  | nil => simp [textsL]
  | cons s r ih =>
    have h1 := putL_len s.length
    have h2 := h s (by simp)
    have h3 := ih fun x hx => h x (by simp [hx])
    simp only [textsL, List.flatMap_cons, textL, List.length_append, List.length_cons] at h3 ⊢
    rw [Nat.add_mul, Nat.one_mul]
    omega

set_option maxHeartbeats 400000 in
theorem Text_any (A : Option Addr) (c : Nat) (ss : List (List UInt8)) (w : World) (hr : RdS w A ss) (hb : ss.length ≤ 10000) (hs : ∀ s ∈ ss, s.length ≤ 100000) :
    Calls Try.prog 30 #[.slice A ss.length c] w fun e w' => ∃ v', e = .returned v' ∧ OwnB w' v' (textsL ss) ∧ Grew w w' (.slice none 0 0) v' := by
  go_enter Try.func30, Try.ntmps30
  go_wp2
  go_loopw [3, 8] (fun x i wr => ∃ k : Nat, k ≤ ss.length ∧ i = .int .i64 k ∧ OwnB wr x (textsL (ss.take k)) ∧ Grew w wr (.slice none 0 0) x) (fun _ i _ => ss.length - (intOf i).toNat)
  case atStart => exact ⟨0, Nat.zero_le _, rfl, OwnB.nil _, Grew.refl _ _⟩
  case round =>
    obtain ⟨k, hk, rfl, ho, hg⟩ := hrel
    have hle := textsL_len (ss.take k) 100000 fun s h => hs s (List.mem_of_mem_take h)
    have hle : (textsL (ss.take k)).length ≤ 1000060000 := by
      have h1 : (ss.take k).length ≤ 10000 := by rw [List.length_take]; omega
      have h2 := Nat.mul_le_mul_right (100000 + 6) h1
      omega
    by_cases hlt : k < ss.length
    · have hr' : RdS wr A ss := hr.kept hg.nil
      obtain ⟨ad, rfl, hc⟩ := hr'.get hlt
      have hsl := hs _ (List.getElem_mem hlt)
      obtain ⟨s, hS⟩ : ∃ s, s = ss[k] := ⟨_, rfl⟩
      rw [← hS] at hc hsl
      have HS := Lib.hid hS
      clear hS
      have hpl := putL_len s.length
      go_wp2_with (first | (go_at_call 34; refine (vput_any _ _ _ _ ho (by omega)).mono ?_; rintro e w1 ⟨v1, rfl, ho1, hg1⟩) | (at_builtin; refine wpList_appS _ rfl _ _ rfl rfl ho1 rfl ?c1 ?_))
      case c1 => simp; show _ + s.length ≤ _; omega
      intro v' w' ho' hg'
      go_wp2
      go_roundw
      case rel => exact ⟨k + 1, by omega, by go_num, by rw [textsL_next hlt, ← HS.out]; simpa [textL] using ho', (hg.trans hg1).trans hg'⟩
      case measure => simp [intOf]; omega
    · go_wp2
      go_ret
      exact ⟨_, rfl, by rw [List.take_of_length_le (by omega)] at ho; exact ho, hg⟩

def hashesL (hs : List (List UInt8)) : List UInt8 := hs.flatten
theorem hashesL_next {hs : List (List UInt8)} {k : Nat} (h : k < hs.length) : hashesL (hs.take (k + 1)) = hashesL (hs.take k) ++ hs[k] := by
  rw [List.take_succ_eq_append_getElem h, hashesL, List.flatten_append]; simp [hashesL]
theorem hashesL_len (hs : List (List UInt8)) (h : ∀ x ∈ hs, x.length = 32) : (hashesL hs).length = 32 * hs.length := by
  induction hs with
  | nil => simp [hashesL]
  | cons x r ih =>
    have h1 := h x (by simp)
    have h2 := ih fun y hy => h y (by simp [hy])
    simp only [hashesL, List.flatten_cons, List.length_append, List.length_cons] at h2 ⊢
    omega

end Go.Proofs.Ytehbhjkceemmcaa
