/- The document's own bytes of a number and of a text (without round 1's texts); lists of numbers compared. -/
import Derived.Test.YtpeepiboocdnaaaDoorKL
namespace Go.Proofs.YtpeepiboocdnaaaDoor
open Go.RowKit

theorem lowB_natN (d : Nat) : (lowB d).toNat = d % 128 + 128 := by
  rw [lowB, UInt8.toNat_ofNat']; omega
theorem and_lowN (m : Nat) (h : m ≤ 1099511627775) : bits .and .i64 (m : Int) 127 = ((m % 128 : Nat) : Int) := by
  have ha : (BitVec.ofInt 64 (m : Int)).toNat = m := by
    rw [BitVec.ofInt_natCast, BitVec.toNat_ofNat]; exact Nat.mod_eq_of_lt (by omega)
  have h7 : m &&& 127 = m % 128 := Nat.and_two_pow_sub_one_eq_mod m 7
  show IntKind.i64.wrap ((BitVec.ofInt 64 (m : Int) &&& BitVec.ofInt 64 127).toNat : Int) = _
  rw [BitVec.toNat_and, ha, show (BitVec.ofInt 64 127).toNat = 127 from by decide, h7, IntKind.wrap_i64]
  omega
theorem or_highN : ∀ x : Fin 128, bits .or .i64 (x.val : Int) 128 = ((x.val + 128 : Nat) : Int) := by decide +kernel
theorem low_valN (m : Nat) (h : m ≤ 1099511627775) : bits .or .i64 (bits .and .i64 (m : Int) 127) 128 % 256 = ((lowB m).toNat : Int) := by
  have := or_highN ⟨m % 128, Nat.mod_lt _ (by omega)⟩
  simp only at this
  rw [and_lowN m h, this, lowB_natN]
  omega

set_option maxRecDepth 100000 in
theorem Put_refN (n : Int) : ∀ (w : World),
    Calls Tryd.prog 56 #[.int .i64 n] w fun e w' => ∃ v, e = .returned v ∧ OwnB w' v (putL n) ∧ Grew w w' (.slice none 0 0) v := by
  obtain ⟨N, hN⟩ : ∃ N, N = n.toNat := ⟨_, rfl⟩
  induction N using Nat.strongRecOn generalizing n with
  | ind N ih =>
    intro w
    by_cases h : n < 0 ∨ 1099511627775 < n
    · rw [putL_none h]
      rcases h with h | h
      · go_enter Tryd.func56, Tryd.ntmps56
        go_wp2
        go_ret
        exact ⟨_, rfl, OwnB.nil _, Grew.refl _ _⟩
      · have h0 : ¬ n < 0 := by omega
        go_enter Tryd.func56, Tryd.ntmps56
        go_wp2
        go_ret
        exact ⟨_, rfl, OwnB.nil _, Grew.refl _ _⟩
    · obtain ⟨m, rfl⟩ := Int.eq_ofNat_of_zero_le (show 0 ≤ n by omega)
      have hm : m ≤ 1099511627775 := by omega
      have h3 : ¬ 1099511627775 < (m : Int) := by omega
      rw [putL_some hm]
      clear h
      have hNm : N = m := by omega
      by_cases hlt : m < 128
      · clear hN hNm ih
        go_enter Tryd.func56, Tryd.ntmps56
        go_wp2
        go_ret
        exact ⟨_, rfl, by rw [putN_small hlt]; exact ownB_new w #[.int .u8 (m : Int)] [UInt8.ofNat m] 1 (by simp only [List.map_cons, List.map_nil, bv]; rw [ofNat_u8 (by omega)]) rfl (by decide), grown_alloc (grown_refl _ _) _, .inr ⟨_, rfl, Nat.le_refl _⟩⟩
      · have hput : putL ((m / 128 : Nat) : Int) = putN (m / 128) := putL_some (by omega)
        have hrec := ih (m / 128) (by omega) ((m / 128 : Nat) : Int) (Int.toNat_natCast _).symm
        rw [hput, show ((m / 128 : Nat) : Int) = (m : Int) / 128 from by omega] at hrec
        have hpl := putN_len (m / 128) (by omega)
        have HREC := Lib.hid hrec
        clear hrec ih hput hN hNm
        go_enter Tryd.func56, Tryd.ntmps56
        go_wp2_with fail
        have hown := ownB_new w #[.int .u8 (bits .or .i64 (bits .and .i64 (m : Int) 127) 128 % 256)] [lowB m] 1 (by simp only [List.map_cons, List.map_nil, bv]; rw [low_valN m hm]) rfl (by decide)
        refine (HREC.out _).mono ?_
        rintro e w1 ⟨v1, rfl, ho1, hg1⟩
        have hown1 := hown.kept hg1.nil
        obtain ⟨A1, c1, rfl, q1, q2, hr1⟩ := ho1.slice
        go_wp2_with (at_builtin; refine wpList_appB _ rfl _ _ rfl rfl hown1 (news := putN (m / 128)) rfl rfl hr1 ?c1 ?_)
        case c1 => simp; omega
        intro v' w' ho' hg'
        go_wp2
        go_ret
        exact ⟨v', rfl, by rw [putN_great hlt]; exact ho', by
          refine ⟨grown_trans (grown_none (grown_alloc (grown_refl _ _) _) hg1.nil) hg'.1 (.inr fun g e => by simp [Value.ownBlock] at e; omega), ?_⟩
          rcases hg'.2 with e | ⟨g, e, hg⟩
          · exact .inr ⟨w.heap.size, e, Nat.le_refl _⟩
          · exact .inr ⟨g, e, by have := hg1.1.size; simp at this; omega⟩⟩

theorem Text_refN (s : List UInt8) (w : World) (hs : s.length ≤ 100000) :
    Calls Tryd.prog 49 #[.string ⟨s.toArray⟩] w fun e w' => ∃ v, e = .returned v ∧ OwnB w' v (textL s) ∧ Grew w w' (.slice none 0 0) v := by
  have hpl := putL_len s.length
  go_enter Tryd.func49, Tryd.ntmps49
  go_wp2_with fail
  refine (Put_refN _ _).mono ?_
  rintro e w1 ⟨v1, rfl, ho1, hg1⟩
  go_wp2_with (at_builtin; refine wpList_appS _ rfl _ _ rfl rfl ho1 rfl ?c1 ?_)
  case c1 => show _ + s.length ≤ _; omega
  intro v' w' ho' hg'
  go_wp2
  go_ret
  exact ⟨v', rfl, by simpa [textL] using ho', hg1.trans hg'⟩
end Go.Proofs.YtpeepiboocdnaaaDoor
