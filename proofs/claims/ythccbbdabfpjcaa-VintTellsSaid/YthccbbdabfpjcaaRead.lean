/- The contracts of package vint's Reader. -/
import Derived.Test.YthccbbdabfpjcaaVint
namespace Go.Proofs.Ythccbbdabfpjcaa
open Go.RowKit

/-- What 'number' makes of bytes: from place i on, n so far. -/
def numGo : List UInt8 → Nat → Nat → Nat × Nat
  | [], _, _ => (0, 0)
  | c :: r, i, n =>
    if 127 < c.toNat then numGo r (i + 1) (n + c.toNat % 128 * 128 ^ i)
    else if (0 < i ∧ c.toNat = 0) ∨ 1099511627775 < n + c.toNat % 128 * 128 ^ i then (0, 0) else (n + c.toNat % 128 * 128 ^ i, i + 1)
def numOf (l : List UInt8) : Nat × Nat := numGo (l.take 6) 0 0

theorem and127 : ∀ x : Fin 256, bits .and .u8 (x.val : Int) 127 = ((x.val % 128 : Nat) : Int) := by decide +kernel
theorem pow7 (k : Nat) : (128 : Nat) ^ k = 2 ^ (7 * k) := by rw [Nat.pow_mul]
/-- 'n |= int(c&127) << (7*i)', as the sum that it is. -/
theorem next_bits (b : UInt8) (k m : Nat) (hk : k < 6) (hm : m < 128 ^ k) :
    bits .or .i64 (m : Int) (wrap64 (wrap64 (bits .and .u8 (b.toNat : Int) 127) * 2 ^ (7 * k))) = ((m + b.toNat % 128 * 128 ^ k : Nat) : Int) := by
  have hb : bits .and .u8 (b.toNat : Int) 127 = ((b.toNat % 128 : Nat) : Int) := and127 ⟨b.toNat, UInt8.toNat_lt b⟩
  have hx : b.toNat % 128 < 128 := Nat.mod_lt _ (by omega)
  have h6 : (128 : Nat) ^ k ≤ 34359738368 := by
    have : (128 : Nat) ^ k ≤ 128 ^ 5 := Nat.pow_le_pow_right (by omega) (by omega)
    exact this
  have hle : b.toNat % 128 * 128 ^ k ≤ 127 * 34359738368 := Nat.mul_le_mul (by omega) h6
  have e1 : wrap64 ((b.toNat % 128 : Nat) : Int) = ((b.toNat % 128 : Nat) : Int) := IntWalk.wrap64_in _ ⟨by omega, by omega⟩
  have e2 : (((b.toNat % 128 : Nat) : Int) * 2 ^ (7 * k)) = ((b.toNat % 128 * 128 ^ k : Nat) : Int) := by rw [pow7]; simp
  have e3 : wrap64 ((b.toNat % 128 * 128 ^ k : Nat) : Int) = ((b.toNat % 128 * 128 ^ k : Nat) : Int) := IntWalk.wrap64_in _ ⟨by omega, by omega⟩
  rw [hb, e1, e2, e3]
  have hor : m ||| (b.toNat % 128 * 128 ^ k) = m + b.toNat % 128 * 128 ^ k := by
    rw [Nat.or_comm, pow7, ← Nat.shiftLeft_eq, ← Nat.shiftLeft_add_eq_or_of_lt (by rw [← pow7]; exact hm)]
    omega
  have ha : (BitVec.ofInt 64 (m : Int)).toNat = m := by
    rw [BitVec.ofInt_natCast, BitVec.toNat_ofNat]; exact Nat.mod_eq_of_lt (by omega)
  have hb2 : (BitVec.ofInt 64 ((b.toNat % 128 * 128 ^ k : Nat) : Int)).toNat = b.toNat % 128 * 128 ^ k := by
    rw [BitVec.ofInt_natCast, BitVec.toNat_ofNat]; exact Nat.mod_eq_of_lt (by omega)
  show IntKind.i64.wrap ((BitVec.ofInt 64 (m : Int) ||| BitVec.ofInt 64 ((b.toNat % 128 * 128 ^ k : Nat) : Int)).toNat : Int) = _
  rw [BitVec.toNat_or, ha, hb2, hor, IntKind.wrap_i64]
  omega
theorem drop_step (l : List UInt8) (M k : Nat) (hk : k < l.length) (hM : k < M) : (l.take M).drop k = l[k] :: (l.take M).drop (k + 1) := by
  rw [List.drop_eq_getElem_cons (by rw [List.length_take]; omega)]
  simp
theorem go_more {b : UInt8} {r : List UInt8} {i n : Nat} (h : 127 < b.toNat) : numGo (b :: r) i n = numGo r (i + 1) (n + b.toNat % 128 * 128 ^ i) := by rw [numGo, if_pos h]
theorem go_bad {b : UInt8} {r : List UInt8} {i n : Nat} (h : ¬ 127 < b.toNat) (hb : (0 < i ∧ b.toNat = 0) ∨ 1099511627775 < n + b.toNat % 128 * 128 ^ i) : numGo (b :: r) i n = (0, 0) := by rw [numGo, if_neg h, if_pos hb]
theorem go_last {b : UInt8} {r : List UInt8} {i n : Nat} (h : ¬ 127 < b.toNat) (hb : ¬ ((0 < i ∧ b.toNat = 0) ∨ 1099511627775 < n + b.toNat % 128 * 128 ^ i)) : numGo (b :: r) i n = (n + b.toNat % 128 * 128 ^ i, i + 1) := by rw [numGo, if_neg h, if_neg hb]
theorem next_lt {b m k : Nat} (h : m < 128 ^ k) : m + b % 128 * 128 ^ k < 128 ^ (k + 1) := by
  have h1 : b % 128 * 128 ^ k ≤ 127 * 128 ^ k := Nat.mul_le_mul_right _ (by omega)
  rw [Nat.pow_succ]
  omega
theorem ret_two {a b : Nat} {p : Nat × Nat} (h : p = (a, b)) : Ending.returned (.tuple #[.int .i64 (a : Int), .int .i64 (b : Int)]) = .returned (.tuple #[.int .i64 (p.1 : Int), .int .i64 (p.2 : Int)]) := by rw [h]

set_option maxHeartbeats 400000 in
theorem number_any (A : Option Addr) (c : Nat) (l : List UInt8) (w : World) (hr : RdB w A l) (hc : l.length ≤ c) (hm : c ≤ maxLen) :
    Calls Try.prog 25 #[.slice A l.length c] w fun e w' => e = .returned (.tuple #[.int .i64 (numOf l).1, .int .i64 (numOf l).2]) ∧ w = w' := by
  unfold maxLen at hm
  by_cases h6 : 6 < l.length
  · have h6' : ¬ (l.length : Int) ≤ 6 := by omega
    have h6c : (6 : Int) ≤ (c : Int) := by omega
    go_enter Try.func25, Try.ntmps25
    go_wp2
    go_loop [2, 12] (fun n i => ∃ k m : Nat, k ≤ 6 ∧ i = .int .i64 k ∧ n = .int .i64 m ∧ m < 128 ^ k ∧ numGo ((l.take 6).drop k) k m = numOf l) (fun _ i => 6 - (intOf i).toNat)
    case atStart => exact ⟨0, 0, by omega, rfl, rfl, by omega, rfl⟩
    case round =>
      obtain ⟨k, m, hk, rfl, rfl, hmk, hgo⟩ := hrel
      have HG := Lib.hid hgo
      clear hgo
      by_cases hlt : k < 6
      · obtain ⟨ad, rfl, hcell⟩ := hr.get (k := k) (by omega)
        have hnb := next_bits l[k] k m (by omega) hmk
        have hds := drop_step l 6 k (by omega) (by omega)
        have hnl := next_lt (b := l[k].toNat) hmk
        obtain ⟨b, hB⟩ : ∃ b, b = l[k] := ⟨_, rfl⟩
        rw [← hB] at hnb hcell hds hnl
        obtain ⟨M, hM⟩ : ∃ M, M = m + b.toNat % 128 * 128 ^ k := ⟨_, rfl⟩
        rw [← hM] at hnb hnl
        have HD := Lib.hid hds
        have HM := Lib.hid hM
        clear hds hM hB
        by_cases hmore : 127 < b.toNat
        · go_wp2
          go_round
          case rel => exact ⟨k + 1, M, by omega, by go_num, rfl, hnl, by rw [← HG.out, HD.out, go_more hmore, HM.out]⟩
          case measure => simp [intOf]; omega
        · by_cases hz : 0 < k ∧ b.toNat = 0
          · obtain ⟨hz1, hz2⟩ := hz
            have hzb : ((b.toNat : Int) == 0) = true := by simp [hz2]
            have HZ := Lib.hid hz2
            clear hz2
            go_wp2
            go_ret2
            exact ⟨ret_two (by rw [← HG.out, HD.out, go_bad hmore (.inl ⟨hz1, HZ.out⟩)]), rfl⟩
          · by_cases hmax : 1099511627775 < M
            · have HMX : Hid (numOf l = (0, 0)) := by rw [← HG.out, HD.out]; exact go_bad hmore (.inr (by rw [← HM.out]; exact hmax))
              by_cases hk0 : 0 < k
              · have hzb : ((b.toNat : Int) == 0) = false := by rw [beq_eq_false_iff_ne]; omega
                go_wp2
                go_ret2
                exact ⟨ret_two HMX.out, rfl⟩
              · go_wp2
                go_ret2
                exact ⟨ret_two HMX.out, rfl⟩
            · have HLT : Hid (numOf l = (M, k + 1)) := by rw [← HG.out, HD.out, go_last hmore (by rw [← HM.out]; omega), HM.out]; rfl
              by_cases hk0 : 0 < k
              · have hzb : ((b.toNat : Int) == 0) = false := by rw [beq_eq_false_iff_ne]; omega
                go_wp2
                go_ret2
                exact ⟨ret_two HLT.out, rfl⟩
              · go_wp2
                go_ret2
                exact ⟨ret_two HLT.out, rfl⟩
      · go_wp2
        go_ret2
        exact ⟨ret_two (by rw [← HG.out, List.drop_eq_nil_of_le (by rw [List.length_take]; omega)]; rfl), rfl⟩
  · have h6' : (l.length : Int) ≤ 6 := by omega
    go_enter Try.func25, Try.ntmps25
    go_wp2
    go_loop [2, 12] (fun n i => ∃ k m : Nat, k ≤ l.length ∧ i = .int .i64 k ∧ n = .int .i64 m ∧ m < 128 ^ k ∧ numGo ((l.take 6).drop k) k m = numOf l) (fun _ i => l.length - (intOf i).toNat)
    case atStart => exact ⟨0, 0, by omega, rfl, rfl, by omega, rfl⟩
    case round =>
      obtain ⟨k, m, hk, rfl, rfl, hmk, hgo⟩ := hrel
      have HG := Lib.hid hgo
      clear hgo
      by_cases hlt : k < l.length
      · obtain ⟨ad, rfl, hcell⟩ := hr.get (k := k) (by omega)
        have hnb := next_bits l[k] k m (by omega) hmk
        have hds := drop_step l 6 k (by omega) (by omega)
        have hnl := next_lt (b := l[k].toNat) hmk
        obtain ⟨b, hB⟩ : ∃ b, b = l[k] := ⟨_, rfl⟩
        rw [← hB] at hnb hcell hds hnl
        obtain ⟨M, hM⟩ : ∃ M, M = m + b.toNat % 128 * 128 ^ k := ⟨_, rfl⟩
        rw [← hM] at hnb hnl
        have HD := Lib.hid hds
        have HM := Lib.hid hM
        clear hds hM hB
        by_cases hmore : 127 < b.toNat
        · go_wp2
          go_round
          case rel => exact ⟨k + 1, M, by omega, by go_num, rfl, hnl, by rw [← HG.out, HD.out, go_more hmore, HM.out]⟩
          case measure => simp [intOf]; omega
        · by_cases hz : 0 < k ∧ b.toNat = 0
          · obtain ⟨hz1, hz2⟩ := hz
            have hzb : ((b.toNat : Int) == 0) = true := by simp [hz2]
            have HZ := Lib.hid hz2
            clear hz2
            go_wp2
            go_ret2
            exact ⟨ret_two (by rw [← HG.out, HD.out, go_bad hmore (.inl ⟨hz1, HZ.out⟩)]), rfl⟩
          · by_cases hmax : 1099511627775 < M
            · have HMX : Hid (numOf l = (0, 0)) := by rw [← HG.out, HD.out]; exact go_bad hmore (.inr (by rw [← HM.out]; exact hmax))
              by_cases hk0 : 0 < k
              · have hzb : ((b.toNat : Int) == 0) = false := by rw [beq_eq_false_iff_ne]; omega
                go_wp2
                go_ret2
                exact ⟨ret_two HMX.out, rfl⟩
              · go_wp2
                go_ret2
                exact ⟨ret_two HMX.out, rfl⟩
            · have HLT : Hid (numOf l = (M, k + 1)) := by rw [← HG.out, HD.out, go_last hmore (by rw [← HM.out]; omega), HM.out]; rfl
              by_cases hk0 : 0 < k
              · have hzb : ((b.toNat : Int) == 0) = false := by rw [beq_eq_false_iff_ne]; omega
                go_wp2
                go_ret2
                exact ⟨ret_two HLT.out, rfl⟩
              · go_wp2
                go_ret2
                exact ⟨ret_two HLT.out, rfl⟩
      · go_wp2
        go_ret2
        exact ⟨ret_two (by rw [← HG.out, List.drop_eq_nil_of_le (by rw [List.length_take]; omega)]; rfl), rfl⟩

set_option maxHeartbeats 400000 in
theorem Clone_any (A : Option Addr) (c : Nat) (l : List UInt8) (w : World) (hr : RdB w A l) (hb : l.length ≤ 140737488355328) :
    Calls Try.prog 24 #[.slice A l.length c] w fun e w' => ∃ v', e = .returned v' ∧ OwnB w' v' l ∧ Grew w w' (.slice none 0 0) v' := by
  have hq := fun W : World => Lib.run_eql_slice_nil (P := Try.prog) W 24 5 A l.length c 0 0 Try.underlying24
  rcases A with _ | ad
  · have hl : l = [] := by
      rcases hr with h | ⟨ad, h, _⟩
      · simpa using h
      · cases h
    subst hl
    clear hq
    have hq := fun W : World => Lib.run_eql_slice_nil (P := Try.prog) W 24 5 none 0 c 0 0 Try.underlying24
    show Calls _ _ #[.slice none 0 c] _ _
    go_enter Try.func24, Try.ntmps24
    go_wp2
    go_ret
    exact ⟨_, rfl, OwnB.nil _, Grew.refl _ _⟩
  · have hown := ownB_new w #[] [] 0 rfl rfl (Nat.zero_le _)
    go_enter Try.func24, Try.ntmps24
    go_wp2_with (at_builtin; refine wpList_appB _ rfl _ _ rfl rfl hown (news := l) rfl rfl (hr.alloc _) ?c1 ?_)
    case c1 => simpa using hb
    intro v' w' ho hg
    go_wp2
    go_ret
    exact ⟨_, rfl, by simpa using ho, hg.fresh⟩

/-- A Reader at block g: what is left of its bytes, and is it bad? -/
def IsR (w : World) (g : Nat) (l : List UInt8) (bad : Bool) : Prop :=
  ∃ A c, w.heap[g]? = some (.cells #[.slice A l.length c, .bool bad] 50 (0, 0)) ∧ l.length ≤ c ∧ c ≤ maxLen ∧ RdB w A l ∧ ∀ ad, A = some ad → ad.block < g
theorem IsR.kept {w w' : World} {g : Nat} {l : List UInt8} {bad : Bool} (h : IsR w g l bad) (hg : w.grownBy w' none) : IsR w' g l bad := by
  obtain ⟨A, c, h1, h2, h3, h4, h5⟩ := h
  exact ⟨A, c, (hg.block g (Array.getElem?_eq_some_iff.1 h1).1 (by simp)).trans h1, h2, h3, h4.kept hg, h5⟩
theorem IsR.keep {w w' : World} {g : Nat} {l : List UInt8} {bad : Bool} (h : IsR w g l bad) {row : Option Nat} (hg : w.grownBy w' row) (hne : ∀ r, row = some r → g < r) : IsR w' g l bad := by
  obtain ⟨A, c, h1, h2, h3, h4, h5⟩ := h
  exact ⟨A, c, (hg.block g (Array.getElem?_eq_some_iff.1 h1).1 (fun e => by have := hne g e.symm; omega)).trans h1, h2, h3, h4.keep hg (fun ad e er => by have := hne _ er.symm; have := h5 ad e; omega), h5⟩
theorem IsR.lt {w : World} {g : Nat} {l : List UInt8} {bad : Bool} (h : IsR w g l bad) : g < w.heap.size := by
  obtain ⟨A, c, h1, _⟩ := h
  exact (Array.getElem?_eq_some_iff.1 h1).1

set_option maxHeartbeats 400000 in
theorem Read_any (A : Option Addr) (c : Nat) (l : List UInt8) (w : World) (hr : RdB w A l) (hb : l.length ≤ 140737488355328) :
    Calls Try.prog 9 #[.slice A l.length c] w fun e w' => ∃ g, e = .returned (.pointer (some ⟨g, 0, none⟩)) ∧ w.heap.size ≤ g ∧ IsR w' g l false ∧ w.grownBy w' none := by
  go_enter Try.func9, Try.ntmps9
  go_wp2_with (go_at_call 24; refine (Clone_any _ _ _ _ hr hb).mono ?_; rintro e w1 ⟨v1, rfl, ho, hg⟩; obtain ⟨A1, c1, rfl, h1, h2, h3⟩ := ho.slice)
  go_ret
  have hlt := h3.lt
  refine ⟨_, rfl, hg.nil.size, ⟨A1, c1, heap_alloc_new _ _, h1, h2, h3.alloc _, ?_⟩, grown_alloc hg.nil _⟩
  intro ad hA
  have := ho.lt ad.block (by rw [hA]; rfl)
  omega

theorem heap_setCell_to {w : World} {g i : Nat} {cs cs' : Array Value} {t : TypeId} {v : Value} (hg : w.heap[g]? = some (.cells cs t (0, 0))) (hcs : cs.setIfInBounds i v = cs') :
    (w.setCell ⟨g, i, none⟩ v).heap[g]? = some (.cells cs' t (0, 0)) := by rw [← hcs]; exact heap_setCell_same w g i cs t v hg
theorem isR_fail {w : World} {g : Nat} {v u : Value} (h : w.heap[g]? = some (.cells #[v, u] 50 (0, 0))) :
    IsR ((w.setCell ⟨g, 0, none⟩ (.slice none 0 0)).setCell ⟨g, 1, none⟩ (.bool true)) g [] true :=
  ⟨none, 0, heap_setCell_to (heap_setCell_to h rfl) rfl, Nat.le_refl _, Nat.zero_le _, RdAt.nil, fun _ e => by cases e⟩
theorem isR_take {w : World} {g n c : Nat} {A A' : Option Addr} {l : List UInt8} {bad : Bool} {v : Value} {m c' : Nat} (h : w.heap[g]? = some (.cells #[v, .bool bad] 50 (0, 0)))
    (hA : A' = if c = n then A else A.map (·.add n)) (hm : m = l.length - n) (hc' : c' = c - n) (hl : l.length ≤ c) (hc : c ≤ maxLen) (hr : RdB w A l) (hne : ∀ ad, A = some ad → ad.block < g) :
    IsR (w.setCell ⟨g, 0, none⟩ (.slice A' m c')) g (l.drop n) bad := by
  have hg : w.grownBy (w.setCell ⟨g, 0, none⟩ (.slice A' m c')) (some g) := grown_set (grown_refl _ _) (.inl rfl) _
  have hne' : ∀ ad, A' = some ad → ad.block < g := by
    intro ad e
    rw [hA] at e
    split at e
    · exact hne ad e
    · cases A with
      | none => cases e
      | some a0 => simp only [Option.map_some, Option.some.injEq] at e; rw [← e, add_block]; exact hne a0 rfl
  have hr2 : RdB w A' (l.drop n) := by
    rw [hA]
    have := hr.cut (k := n) (c := c) (by simpa using hl)
    rw [← List.map_drop] at this
    exact this
  refine ⟨A', c', ?_, by rw [List.length_drop]; omega, by omega, hr2.keep hg (fun ad e er => by injection er with er; have := hne' ad e; omega), hne'⟩
  rw [List.length_drop, ← hm]
  exact heap_setCell_to h rfl
theorem rd_takeB {w : World} {A : Option Addr} {l : List UInt8} (h : RdB w A l) (n : Nat) : RdB w A (l.take n) := by
  have := RdAt.take h n
  rw [← List.map_take] at this
  exact this

set_option maxHeartbeats 400000 in
theorem fail_any (g : Nat) (l : List UInt8) (bad : Bool) (w : World) (h : IsR w g l bad) :
    Calls Try.prog 26 #[.pointer (some ⟨g, 0, none⟩)] w fun e w' => e = .returned (.tuple #[]) ∧ IsR w' g [] true ∧ w.grownBy w' (some g) := by
  obtain ⟨A, c, h1, h2, h3, h4, h5⟩ := h
  have hc0 : w.cell? ⟨g, 0, none⟩ = some (.slice A l.length c) := by rw [cell_of_row w g 0 _ _ _ h1]; rfl
  have hc1 : w.cell? ⟨g, 1, none⟩ = some (.bool bad) := by rw [cell_of_row w g 1 _ _ _ h1]; rfl
  have hf0 : w.frozen? ⟨g, 0, none⟩ = false := frozen_of_row w g 0 _ _ h1
  have hf1 : w.frozen? ⟨g, 1, none⟩ = false := frozen_of_row w g 1 _ _ h1
  go_enter Try.func26, Try.ntmps26
  go_wp2
  go_end0
  have e1 : w.grownBy (w.setCell ⟨g, 0, none⟩ (.slice none 0 0)) (some g) := grown_set (grown_refl _ _) (.inl rfl) _
  have e2 : w.grownBy ((w.setCell ⟨g, 0, none⟩ (.slice none 0 0)).setCell ⟨g, 1, none⟩ (.bool true)) (some g) := grown_set e1 (.inl rfl) _
  have e3 := isR_fail h1
  exact ⟨rfl, e3, e2⟩

/-- 'take' where there is so much. -/
theorem take_ok (g n : Nat) (l : List UInt8) (bad : Bool) (w : World) (h : IsR w g l bad) (hn : n ≤ l.length) :
    Calls Try.prog 27 #[.pointer (some ⟨g, 0, none⟩), .int .i64 n] w fun e w' => ∃ A c, e = .returned (.slice A n c) ∧ n ≤ c ∧ c ≤ maxLen ∧ RdB w' A (l.take n) ∧ (∀ ad, A = some ad → ad.block < g) ∧ IsR w' g (l.drop n) bad ∧ w.grownBy w' (some g) := by
  obtain ⟨A, c, h1, h2, h3, h4, h5⟩ := h
  have hc0 : w.cell? ⟨g, 0, none⟩ = some (.slice A l.length c) := by rw [cell_of_row w g 0 _ _ _ h1]; rfl
  have hf0 : w.frozen? ⟨g, 0, none⟩ = false := frozen_of_row w g 0 _ _ h1
  have hm := h3
  unfold maxLen at hm
  go_enter Try.func27, Try.ntmps27
  go_wp2
  · go_ret
    have hcn : c = n := by assumption
    have hgr : w.grownBy (w.setCell ⟨g, 0, none⟩ (.slice A (l.length - n) 0)) (some g) := grown_set (grown_refl _ _) (.inl rfl) _
    exact ⟨A, n, rfl, Nat.le_refl _, by omega, (rd_takeB h4 n).keep hgr (fun ad e er => by injection er with er; have := h5 ad e; omega), h5, isR_take h1 (by rw [if_pos hcn]) rfl (by omega) h2 h3 h4 h5, hgr⟩
  · go_ret
    have hcn : ¬ c = n := by assumption
    have hgr : w.grownBy (w.setCell ⟨g, 0, none⟩ (.slice (A.map (·.add n)) (l.length - n) (c - n))) (some g) := grown_set (grown_refl _ _) (.inl rfl) _
    exact ⟨A, c, rfl, by omega, h3, (rd_takeB h4 n).keep hgr (fun ad e er => by injection er with er; have := h5 ad e; omega), h5, isR_take h1 (by rw [if_neg hcn]) rfl rfl h2 h3 h4 h5, hgr⟩

theorem take_no (g n : Nat) (l : List UInt8) (bad : Bool) (w : World) (h : IsR w g l bad) (hn : l.length < n) :
    Calls Try.prog 27 #[.pointer (some ⟨g, 0, none⟩), .int .i64 n] w fun e w' => e = .returned (.slice none 0 0) ∧ IsR w' g [] true ∧ w.grownBy w' (some g) := by
  have h0 := h
  obtain ⟨A, c, h1, h2, h3, h4, h5⟩ := h0
  have hc0 : w.cell? ⟨g, 0, none⟩ = some (.slice A l.length c) := by rw [cell_of_row w g 0 _ _ _ h1]; rfl
  have hm := h3
  unfold maxLen at hm
  go_enter Try.func27, Try.ntmps27
  go_wp2_with (go_at_call 26; refine (fail_any g l bad _ h).mono ?_; rintro e w1 ⟨rfl, hr1, hg1⟩)
  go_ret
  exact ⟨rfl, hr1, hg1⟩

/-- A Reader's state: what is left, and is it bad? -/
abbrev RState : Type := List UInt8 × Bool
def rNum (s : RState) : Nat × RState := if (numOf s.1).2 = 0 then (0, ([], true)) else ((numOf s.1).1, (s.1.drop (numOf s.1).2, s.2))
def rTake (n : Nat) (s : RState) : List UInt8 × RState := if s.1.length < n then ([], ([], true)) else (s.1.take n, (s.1.drop n, s.2))
def rText (s : RState) : List UInt8 × RState := rTake (rNum s).1 (rNum s).2
def rHash (s : RState) : List UInt8 × RState := if s.1.length < 32 then (List.replicate 32 0, ([], true)) else (s.1.take 32, (s.1.drop 32, s.2))

theorem go_bounds : ∀ (r : List UInt8) (i n : Nat), (numGo r i n).2 ≤ i + r.length ∧ (numGo r i n).1 ≤ 1099511627775 := by
  intro r
  induction r with
  | nil => intro i n; simp [numGo]
  | cons b r ih =>
    intro i n
    rw [numGo]
    split
    · have := ih (i + 1) (n + b.toNat % 128 * 128 ^ i)
      simp only [List.length_cons]
      omega
    · split
      · simp
      · simp only [List.length_cons]
        omega
theorem numOf_le (l : List UInt8) : (numOf l).2 ≤ l.length := by
  have h := (go_bounds (l.take 6) 0 0).1
  rw [List.length_take] at h
  show (numGo (l.take 6) 0 0).2 ≤ _
  omega
theorem numOf_max (l : List UInt8) : (numOf l).1 ≤ 1099511627775 := (go_bounds (l.take 6) 0 0).2
theorem rNum_max (s : RState) : (rNum s).1 ≤ 1099511627775 := by
  unfold rNum
  split
  · simp
  · exact numOf_max _

set_option maxHeartbeats 400000 in
theorem Number_any (g : Nat) (s : RState) (w : World) (h : IsR w g s.1 s.2) :
    Calls Try.prog 10 #[.pointer (some ⟨g, 0, none⟩)] w fun e w' => e = .returned (.int .i64 (rNum s).1) ∧ IsR w' g (rNum s).2.1 (rNum s).2.2 ∧ w.grownBy w' (some g) := by
  obtain ⟨l, bad⟩ := s
  have h0 := h
  obtain ⟨A, c, h1, h2, h3, h4, h5⟩ := h0
  have hc0 : w.cell? ⟨g, 0, none⟩ = some (.slice A l.length c) := by rw [cell_of_row w g 0 _ _ _ h1]; rfl
  have hle := numOf_le l
  by_cases hz : (numOf l).2 = 0
  · have hR : Hid (rNum (l, bad) = (0, ([], true))) := by unfold rNum; rw [if_pos hz]; rfl
    have hzb : (((numOf l).2 : Int) == 0) = true := by simp [hz]
    have HZ := Lib.hid hz
    clear hz
    go_enter Try.func10, Try.ntmps10
    go_wp2_with (first | (go_at_call 25; refine (number_any _ _ _ _ h4 h2 h3).mono ?_; rintro e w1 ⟨rfl, rfl⟩) | (go_at_call 26; refine (fail_any g l bad _ h).mono ?_; rintro e w2 ⟨rfl, hr1, hg1⟩))
    go_ret
    rw [hR.out]
    exact ⟨rfl, hr1, hg1⟩
  · have hR : Hid (rNum (l, bad) = ((numOf l).1, (l.drop (numOf l).2, bad))) := by unfold rNum; rw [if_neg hz]; rfl
    have hzb : (((numOf l).2 : Int) == 0) = false := by rw [beq_eq_false_iff_ne]; omega
    go_enter Try.func10, Try.ntmps10
    go_wp2_with (first | (go_at_call 25; refine (number_any _ _ _ _ h4 h2 h3).mono ?_; rintro e w1 ⟨rfl, rfl⟩) | (go_at_call 27; refine (take_ok g _ l bad _ h hle).mono ?_; rintro e w2 ⟨A2, c2, rfl, q1, q2, q3, q4, hr1, hg1⟩))
    go_ret
    rw [hR.out]
    exact ⟨rfl, hr1, hg1⟩
end Go.Proofs.Ythccbbdabfpjcaa
