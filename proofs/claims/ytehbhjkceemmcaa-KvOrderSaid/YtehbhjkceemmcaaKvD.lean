/- Package kv: place, First, Get, isPair; slices.Clone, Grow, Concat of rows of pairs. -/
import Derived.Test.YtehbhjkceemmcaaKvC
import Derived.Lib.AppendZeros
namespace Go.Proofs.Ytehbhjkceemmcaa
open Go.RowKit

theorem place_any (A : Option Addr) (c : Nat) (ps : List Kv) (k : List UInt8) (w : World) (hr : RdQ w A ps) (hn : ps.length ≤ 1000000000) (hs : Rises ps) :
    Calls Try.prog 25 #[.slice A ps.length c, .string ⟨k.toArray⟩] w fun e w' => e = .returned (.tuple #[.int .i64 (lowN ps k : Nat), .int .i64 ((lowN ps k + (atL ps k).length : Nat))]) ∧ w.grownBy w' none := by
  have hS := Search_any A c ps k w hr hn hs
  have hl := len_at hs k
  have hb := lowN_le ps k
  clear hr hs
  generalize lowN ps k = N at *
  generalize hasK ps k = F at *
  generalize (atL ps k).length = M at *
  have HL := Lib.hid hl
  clear hl
  go_enter Try.func25, Try.ntmps25
  cases F
  · have hM : M = 0 := HL.out
    subst hM
    go_wp2_with (go_at_call 31; refine hS.mono ?_; rintro e w' ⟨rfl, hg⟩)
    go_ret2
    exact ⟨rfl, hg⟩
  · have hM : M = 1 := HL.out
    subst hM
    go_wp2_with (go_at_call 31; refine hS.mono ?_; rintro e w' ⟨rfl, hg⟩)
    go_ret2
    exact ⟨rfl, hg⟩

theorem First_any (A : Option Addr) (c : Nat) (ps : List Kv) (k : List UInt8) (w : World) (hr : RdQ w A ps) (hn : ps.length ≤ 1000000000) (hs : Rises ps) :
    Calls Try.prog 10 #[.slice A ps.length c, .string ⟨k.toArray⟩] w fun e w' => e = .returned (.int .i64 (lowN ps k : Nat)) ∧ w.grownBy w' none := by
  have hS := place_any A c ps k w hr hn hs
  clear hr hs
  generalize lowN ps k = N at *
  generalize (atL ps k).length = M at *
  go_enter Try.func10, Try.ntmps10
  go_wp2_with (go_at_call 25; refine hS.mono ?_; rintro e w' ⟨rfl, hg⟩)
  go_ret
  exact ⟨rfl, hg⟩

/-- The value of a key; whether there is one. -/
def getV (ps : List Kv) (k : List UInt8) : List UInt8 := match atL ps k with | [] => [] | p :: _ => p.2
theorem Get_any (A : Option Addr) (c : Nat) (ps : List Kv) (k : List UInt8) (w : World) (hr : RdQ w A ps) (hn : ps.length ≤ 1000000000) (hs : Rises ps) :
    Calls Try.prog 17 #[.slice A ps.length c, .string ⟨k.toArray⟩] w fun e w' => e = .returned (.tuple #[.string ⟨(getV ps k).toArray⟩, .bool (hasK ps k)]) ∧ w.grownBy w' none := by
  have hS := place_any A c ps k w hr hn hs
  rcases atL_one hs k with h0 | ⟨v, h0⟩
  · have hM : (atL ps k).length = 0 := by rw [h0]; rfl
    have hF : hasK ps k = false := by unfold hasK; rw [h0]; rfl
    have hV : getV ps k = [] := by unfold getV; rw [h0]
    rw [hM] at hS
    rw [hF, hV]
    clear hr hs h0 hM hF hV
    generalize lowN ps k = N at *
    go_enter Try.func17, Try.ntmps17
    go_wp2_with (go_at_call 25; refine hS.mono ?_; rintro e w' ⟨rfl, hg⟩)
    go_ret2
    exact ⟨rfl, hg⟩
  · have hM : (atL ps k).length = 1 := by rw [h0]; rfl
    have hF : hasK ps k = true := by unfold hasK; rw [h0]; rfl
    have hV : getV ps k = v := by unfold getV; rw [h0]
    have hlt : lowN ps k < ps.length := by have := len_parts hs k; omega
    have hk : ps[lowN ps k] = (k, v) := by
      have e := drop_low hs k
      rw [List.drop_eq_getElem_cons hlt, h0] at e
      exact (List.cons.inj e).1
    obtain ⟨ad, rfl, -, hc⟩ := RdQ.get hr hlt
    rw [hk] at hc
    rw [hM] at hS
    rw [hF, hV]
    clear hr hs h0 hM hF hV hk
    generalize lowN ps k = N at *
    have hc2 : ∀ w', w.grownBy w' none → w'.cell? ⟨(ad.add (N * 2)).block, (ad.add (N * 2)).off + 1, none⟩ = some (.string ⟨v.toArray⟩) := fun w' hg => hg.cell hc (by simp)
    clear hc
    go_enter Try.func17, Try.ntmps17
    go_wp2_with (go_at_call 25; refine hS.mono ?_; rintro e w' ⟨rfl, hg⟩; have hc := hc2 _ hg)
    go_ret2
    exact ⟨rfl, hg⟩

/-- May that be a pair? -/
def mayQ (p : Kv) : Bool := decide (1 ≤ p.1.length ∧ p.1.length ≤ 16 ∧ p.2.length ≤ 24)
theorem isPair_any (p : Kv) (w : World) : Calls Try.prog 26 #[.agg #[.string ⟨p.1.toArray⟩, .string ⟨p.2.toArray⟩]] w fun e w' => e = .returned (.bool (mayQ p)) ∧ w.grownBy w' none := by
  have h1 : (⟨p.1.toArray⟩ : ByteArray).size = p.1.length := by simp [ByteArray.size]
  have h2 : (⟨p.2.toArray⟩ : ByteArray).size = p.2.length := by simp [ByteArray.size]
  by_cases c1 : 1 ≤ p.1.length
  · by_cases c2 : p.1.length ≤ 16
    · by_cases c3 : p.2.length ≤ 24
      all_goals
        go_enter Try.func26, Try.ntmps26
        go_wp2
        go_ret
        exact ⟨ret_bool (by unfold mayQ; simp [c1, c2, c3] <;> omega), grown_alloc (grown_refl _ _) _⟩
    · go_enter Try.func26, Try.ntmps26
      go_wp2
      go_ret
      exact ⟨ret_bool (by unfold mayQ; simp [c2]), grown_alloc (grown_refl _ _) _⟩
  · have c1' : p.1.length = 0 := by omega
    go_enter Try.func26, Try.ntmps26
    go_wp2
    go_ret
    exact ⟨ret_bool (by unfold mayQ; simp [c1']), grown_alloc (grown_refl _ _) _⟩
end Go.Proofs.Ytehbhjkceemmcaa
