/- Reading what was put, and what of it is cut off: the plain facts. -/
import Derived.Test.YthccbbdabfpjcaaPure
import Derived.Deep.WholeRow
namespace Go.Proofs.Ythccbbdabfpjcaa
open Go.RowKit

theorem lowB_big (d : Nat) : 127 < (lowB d).toNat := by rw [lowB_nat]; omega
/-- Cut bytes of a number are none. -/
theorem go_cutoff : ∀ (d c i n : Nat), c < (putN d).length → numGo ((putN d).take c) i n = (0, 0) := by
  intro d
  induction d using Nat.strongRecOn with
  | ind d ih =>
    intro c i n hc
    rw [putN] at hc ⊢
    by_cases h : d < 128
    · rw [if_pos h] at hc ⊢
      have : c = 0 := by simp at hc; exact hc
      subst this
      simp [numGo]
    · rw [if_neg h] at hc ⊢
      match c, hc with
      | 0, _ => simp [numGo]
      | c + 1, hc =>
        rw [List.take_succ_cons, go_more (lowB_big d)]
        exact ih (d / 128) (by omega) c _ _ (by simpa using hc)
theorem numOf_cutoff (d c : Nat) (rest : List UInt8) (hc : c < (putN d).length) : numOf ((putN d ++ rest).take c) = (0, 0) := by
  unfold numOf
  rw [List.take_append_of_le_length (by omega), List.take_take]
  exact go_cutoff d _ 0 0 (by omega)
theorem rNum_cutoff (d c : Nat) (rest : List UInt8) (bad : Bool) (hc : c < (putN d).length) : rNum ((putN d ++ rest).take c, bad) = (0, ([], true)) := by
  unfold rNum
  simp only [numOf_cutoff d c rest hc, if_true]
theorem rNum_bad : rNum ([], true) = (0, ([], true)) := by unfold rNum numOf; simp [numGo]
theorem rNum_end : rNum ([], false) = (0, ([], true)) := by unfold rNum numOf; simp [numGo]
theorem rText_bad : rText ([], true) = ([], ([], true)) := by unfold rText rTake; rw [rNum_bad]; simp
theorem rHash_bad : rHash ([], true) = (List.replicate 32 0, ([], true)) := by unfold rHash; rw [if_pos (by decide)]
theorem take_over {α : Type} (a b : List α) {c : Nat} (h : a.length ≤ c) : (a ++ b).take c = a ++ b.take (c - a.length) := by
  rw [List.take_append, List.take_of_length_le h]
/-- A number, cut or not. -/
theorem cut_num (n : Nat) (rest : List UInt8) (c : Nat) (h : n ≤ 1099511627775) :
    (c < (putN n).length ∧ rNum ((putN n ++ rest).take c, false) = (0, ([], true))) ∨ ((putN n).length ≤ c ∧ rNum ((putN n ++ rest).take c, false) = (n, (rest.take (c - (putN n).length), false))) := by
  by_cases hc : c < (putN n).length
  · exact .inl ⟨hc, rNum_cutoff _ _ _ _ hc⟩
  · refine .inr ⟨by omega, ?_⟩
    rw [take_over _ _ (by omega), rNum_read _ _ _ h]
theorem cut_text (s rest : List UInt8) (c : Nat) (h : s.length ≤ 1099511627775) :
    (c < (textL s).length ∧ rText ((textL s ++ rest).take c, false) = ([], ([], true))) ∨ ((textL s).length ≤ c ∧ rText ((textL s ++ rest).take c, false) = (s, (rest.take (c - (textL s).length), false))) := by
  have e : textL s = putN s.length ++ s := by rw [textL, putL_some h]
  have hl : (textL s).length = (putN s.length).length + s.length := by rw [e, List.length_append]
  by_cases hc : c < (textL s).length
  · refine .inl ⟨hc, ?_⟩
    rw [e, List.append_assoc]
    unfold rText
    rcases cut_num s.length (s ++ rest) c h with ⟨_, h2⟩ | ⟨h1, h2⟩
    · rw [h2]; unfold rTake; simp
    · rw [h2]
      unfold rTake
      rw [if_pos (by simp only [List.length_take, List.length_append]; omega)]
  · refine .inr ⟨by omega, ?_⟩
    rw [take_over _ _ (by omega), rText_read _ _ _ h]
theorem cut_hash (y rest : List UInt8) (c : Nat) (h : y.length = 32) :
    (c < 32 ∧ rHash ((y ++ rest).take c, false) = (List.replicate 32 0, ([], true))) ∨ (32 ≤ c ∧ rHash ((y ++ rest).take c, false) = (y, (rest.take (c - 32), false))) := by
  by_cases hc : c < 32
  · refine .inl ⟨hc, ?_⟩
    unfold rHash
    rw [if_pos (by simp only [List.length_take, List.length_append]; omega)]
  · refine .inr ⟨by omega, ?_⟩
    rw [take_over _ _ (by omega), rHash_read _ _ _ h, h]
/-- Number, text, hash and number, read of a part that isn't all: what comes of each. -/
theorem cut_back (n m : Nat) (s h : List UInt8) (c : Nat) (hn : n ≤ 1099511627775) (hs : s.length ≤ 1099511627775) (hh : h.length = 32) (hc : c < (putN n ++ (textL s ++ (h ++ putN m))).length) :
    ∃ (x : Nat) (t y : List UInt8) (S1 S2 S3 : RState), rNum ((putN n ++ (textL s ++ (h ++ putN m))).take c, false) = (x, S1) ∧ rText S1 = (t, S2) ∧ rHash S2 = (y, S3) ∧ rNum S3 = (0, ([], true)) ∧
      (x = 0 ∨ x = n) ∧ (t = [] ∨ t = s) ∧ (y = List.replicate 32 0 ∨ y = h) := by
  simp only [List.length_append] at hc
  rcases cut_num n (textL s ++ (h ++ putN m)) c hn with ⟨_, e1⟩ | ⟨h1, e1⟩
  · exact ⟨_, _, _, _, _, _, e1, rText_bad, rHash_bad, rNum_bad, .inl rfl, .inl rfl, .inl rfl⟩
  · rcases cut_text s (h ++ putN m) (c - (putN n).length) hs with ⟨_, e2⟩ | ⟨h2, e2⟩
    · exact ⟨_, _, _, _, _, _, e1, e2, rHash_bad, rNum_bad, .inr rfl, .inl rfl, .inl rfl⟩
    · rcases cut_hash h (putN m) (c - (putN n).length - (textL s).length) hh with ⟨_, e3⟩ | ⟨h3, e3⟩
      · exact ⟨_, _, _, _, _, _, e1, e2, e3, rNum_bad, .inr rfl, .inr rfl, .inl rfl⟩
      · refine ⟨_, _, _, _, _, _, e1, e2, e3, ?_, .inr rfl, .inr rfl, .inr rfl⟩
        have := rNum_cutoff m (c - (putN n).length - (textL s).length - 32) [] false (by omega)
        rwa [List.append_nil] at this

/-- A hash laid into its variable: a new one, one that is there. -/
theorem store_hash_new (y : List UInt8) (hy : y.length = 32) (w : World) : (storeCells ⟨w.heap.size, 0, none⟩ (y.map bv)).run Try.prog (w.alloc (.cells #[Value.int .u8 0, Value.int .u8 0, Value.int .u8 0, Value.int .u8 0, Value.int .u8 0, Value.int .u8 0, Value.int .u8 0, Value.int .u8 0, Value.int .u8 0, Value.int .u8 0, Value.int .u8 0, Value.int .u8 0, Value.int .u8 0, Value.int .u8 0, Value.int .u8 0, Value.int .u8 0, Value.int .u8 0, Value.int .u8 0, Value.int .u8 0, Value.int .u8 0, Value.int .u8 0, Value.int .u8 0, Value.int .u8 0, Value.int .u8 0, Value.int .u8 0, Value.int .u8 0, Value.int .u8 0, Value.int .u8 0, Value.int .u8 0, Value.int .u8 0, Value.int .u8 0, Value.int .u8 0] 33)) = .ok () (w.alloc (.cells (y.map bv).toArray 33)) := by
  have hs : ((y.map bv).toArray : Array Value).size = 32 := by rw [List.size_toArray, List.length_map, hy]
  have := run_storeCells_new (P := Try.prog) w 33 #[Value.int .u8 0, Value.int .u8 0, Value.int .u8 0, Value.int .u8 0, Value.int .u8 0, Value.int .u8 0, Value.int .u8 0, Value.int .u8 0, Value.int .u8 0, Value.int .u8 0, Value.int .u8 0, Value.int .u8 0, Value.int .u8 0, Value.int .u8 0, Value.int .u8 0, Value.int .u8 0, Value.int .u8 0, Value.int .u8 0, Value.int .u8 0, Value.int .u8 0, Value.int .u8 0, Value.int .u8 0, Value.int .u8 0, Value.int .u8 0, Value.int .u8 0, Value.int .u8 0, Value.int .u8 0, Value.int .u8 0, Value.int .u8 0, Value.int .u8 0, Value.int .u8 0, Value.int .u8 0] (y.map bv).toArray (by rw [hs]; exact size_hash) (by rw [hs]; rfl) (bv_all y)
  exact this
theorem store_hash_at (y : List UInt8) (hy : y.length = 32) (x : List UInt8) (hx : x.length = 32) (w : World) (g : Nat) (hg : w.heap[g]? = some (.cells (x.map bv).toArray 33 (0, 0))) :
    (storeCells ⟨g, 0, none⟩ (y.map bv)).run Try.prog w = .ok () (w.setRow g (y.map bv).toArray) :=
  run_storeCells_from (P := Try.prog) g 33 (y.map bv) 0 _ w hg (by simp [hy, hx]) (fun v hv => bv_one y v hv)

/-! The calls, told by what they come to. -/
theorem Number_to {g : Nat} {S : RState} {w : World} (h : IsR w g S.1 S.2) {n : Nat} {S' : RState} (e : rNum S = (n, S')) :
    Calls Try.prog 10 #[.pointer (some ⟨g, 0, none⟩)] w fun e w' => e = .returned (.int .i64 n) ∧ IsR w' g S'.1 S'.2 ∧ w.grownBy w' (some g) := by
  have := Number_any g S w h
  rw [e] at this
  exact this
/-- A Reader with nothing left stays so, whatever is laid elsewhere. -/
theorem isR_nil {w w' : World} {g r : Nat} {bad : Bool} (h : IsR w g [] bad) (hg : w.grownBy w' (some r)) (hne : g ≠ r) : IsR w' g [] bad := by
  obtain ⟨A, c, h1, h2, h3, h4, h5⟩ := h
  refine ⟨A, c, (hg.block g (Array.getElem?_eq_some_iff.1 h1).1 (fun e => hne (by injection e))).trans h1, h2, h3, ?_, h5⟩
  rcases h4 with e | ⟨ad, e, _⟩
  · exact .inl e
  · exact .inr ⟨ad, e, fun k x hx => by simp at hx⟩
theorem Good_to {g : Nat} {S : RState} {w : World} (h : IsR w g S.1 S.2) {b : Bool} (e : (!S.2) = b) :
    Calls Try.prog 13 #[.pointer (some ⟨g, 0, none⟩)] w fun e w' => e = .returned (.bool b) ∧ w = w' := by
  subst e
  exact Good_any g S w h
theorem Done_to {g : Nat} {S : RState} {w : World} (h : IsR w g S.1 S.2) {b : Bool} (e : (!S.2 && S.1.isEmpty) = b) :
    Calls Try.prog 23 #[.pointer (some ⟨g, 0, none⟩)] w fun e w' => e = .returned (.bool b) ∧ w = w' := by
  subst e
  exact Done_any g S w h
theorem Text_to {g : Nat} {S : RState} {w : World} (h : IsR w g S.1 S.2) {t : List UInt8} {S' : RState} (e : rText S = (t, S')) :
    Calls Try.prog 21 #[.pointer (some ⟨g, 0, none⟩)] w fun e w' => e = .returned (.string ⟨t.toArray⟩) ∧ IsR w' g S'.1 S'.2 ∧ w.grownBy w' (some g) := by
  have := RText_any g S w h
  rw [e] at this
  exact this
theorem Hash_to {g : Nat} {S : RState} {w : World} (h : IsR w g S.1 S.2) {y : List UInt8} {S' : RState} (e : rHash S = (y, S')) :
    Calls Try.prog 22 #[.pointer (some ⟨g, 0, none⟩)] w fun e w' => e = .returned (.agg (y.map bv).toArray) ∧ IsR w' g S'.1 S'.2 ∧ w.grownBy w' (some g) := by
  have := RHash_any g S w h
  rw [e] at this
  exact this
end Go.Proofs.Ythccbbdabfpjcaa
