/- Two rows of hashes that are alike. -/
import Derived.Test.YtmfnncfiaaeknaaDoorLamX
namespace Go.Proofs.YtmfnncfiaaeknaaDoor
open Go.RowKit

def shS (t : Nat) : Bool := t == 17 || t == 18 || t == 19 || t == 20 || t == 21 || t == 22 || t == 23 || t == 24
def shDie (_ : Nat) : Nat := 99
def shOwn (_ : Nat) : Bool := false
def shAl (_ : Nat) : Bool := false
def shF (k g1 c1 g2 c2 : Nat) (F : List UInt8) : Nat → Value → World → Prop
  | 0 => fun v _ => v = .slice (some ⟨g1, 0, none⟩) 32 c1
  | 1 => fun v _ => v = (.int .i64 (k : Int))
  | 2 => fun v _ => v = .pointer (some ⟨g1, k * 32, none⟩)
  | 3 => fun v _ => v = (.agg (F.map bv).toArray)
  | 4 => fun v _ => v = .slice (some ⟨g2, 0, none⟩) 32 c2
  | 5 => fun v _ => v = (.int .i64 (k : Int))
  | 6 => fun v _ => v = .pointer (some ⟨g2, k * 32, none⟩)
  | 7 => fun v _ => v = (.agg (F.map bv).toArray)
  | _ => fun _ _ => True
theorem shF_lasts (k g1 c1 g2 c2 : Nat) (F : List UInt8) : ∀ kq, LastsB shAl kq (shF k g1 c1 g2 c2 F kq)
  | 0 => LastsB.val _
  | 1 => LastsB.val _
  | 2 => LastsB.val _
  | 3 => LastsB.val _
  | 4 => LastsB.val _
  | 5 => LastsB.val _
  | 6 => LastsB.val _
  | 7 => LastsB.val _
  | _ + 8 => fun _ _ _ _ _ _ _ => trivial

set_option maxRecDepth 100000 in
set_option maxHeartbeats 1000000 in
theorem SameH_any (g1 c1 g2 c2 : Nat) (f : Nat → List UInt8) (hf : ∀ i, (f i).length = 32) (w : World) (h1 : RdB w (some ⟨g1, 0, none⟩) (partsF f 32)) (h2 : RdB w (some ⟨g2, 0, none⟩) (partsF f 32)) :
    Calls Tryd.prog 25 #[.slice (some ⟨g1, 0, none⟩) 32 c1, .slice (some ⟨g2, 0, none⟩) 32 c2] w fun e w' => e = .returned (.bool true) ∧ w.grownBy w' none := by
  have la1 := lt_of_part hf h1
  have la2 := lt_of_part hf h2
  go_enter Tryd.func25, Tryd.ntmps25
  go_wp2
  go_loopw [5] (fun i wz => ∃ k : Nat, k ≤ 32 ∧ i = .int .i64 k ∧ w.grownBy wz none) (fun i _ => 32 - (intOf i).toNat)
  case atStart => exact ⟨0, by omega, rfl, grown_refl _ _⟩
  case round =>
    obtain ⟨k, hkl, rfl, hgz⟩ := hrel
    by_cases hlt : k < 32
    · have hlt' : (k : Int) < 32 := by omega
      have hra := fun w' (h : wr.grownBy w' none) => range_part hf (h1.kept (grown_same hgz h)) hlt
      have hrb := fun w' (h : wr.grownBy w' none) => range_part hf (h2.kept (grown_same hgz h)) hlt
      have hF := hf k
      generalize f k = F at hra hrb hF
      have hFl := Lib.hid hF
      have hne : ∀ w, (binOp .neq 23 (.agg (F.map bv).toArray) (.agg (F.map bv).toArray)).run Tryd.prog w = .ok (.bool false) w := fun w => by
        rw [neq_hash F F hF hF w, beq_self_eq_true]; rfl
      clear hF
      have hlt1 : ∀ x ∈ blocksOf (.slice (some ⟨g1, 0, none⟩) 32 c1), x < wr.heap.size := fun x e => by have e' : x ∈ [g1] := e; rw [List.mem_singleton] at e'; subst e'; exact Nat.lt_of_lt_of_le la1 hgz.size
      have hlt2 : ∀ x ∈ blocksOf (.slice (some ⟨g2, 0, none⟩) 32 c2), x < wr.heap.size := fun x e => by have e' : x ∈ [g2] := e; rw [List.mem_singleton] at e'; subst e'; exact Nat.lt_of_lt_of_le la2 hgz.size
      go_wp2_with fail
      refine wp_region_gb (al := shAl) 8 (N := 26) (S := shS) (die := shDie) (own := shOwn) (F := shF k g1 c1 g2 c2 F) (by kernel_rfl) (Nat.le_of_ble_eq_true (by kernel_rfl)) (fun _ => by kernel_rfl) (fun _ => by kernel_rfl) (by kernel_rfl) (by kernel_rfl) (Nat.le_of_ble_eq_true (by kernel_rfl)) (shF_lasts k g1 c1 g2 c2 F) ?_ ?_
      · intro i o L' a w K hi ho hg hLi hout hpre houter hitem h1 h2 h3
        have hcases : i = 0 ∨ i = 1 ∨ i = 2 ∨ i = 3 ∨ i = 4 ∨ i = 5 ∨ i = 6 ∨ i = 7 := by omega
        rcases hcases with rfl | rfl | rfl | rfl | rfl | rfl | rfl | rfl
        · cases (show some _ = some o from ho)
          exact ⟨rfl, wp_move rfl (h1 ⟨_, rfl⟩ _ _ (grown_refl _ none) (houter _ rfl) (by rw [houter _ rfl]; exact fun g e => Nat.lt_of_lt_of_le (hlt1 g e) hg.size) (by rw [houter _ rfl]; exact FreshB.old rfl hlt1))⟩
        · cases (show some _ = some o from ho)
          exact ⟨rfl, wp_move rfl (h1 ⟨_, rfl⟩ _ _ (grown_refl _ none) (houter _ rfl) (by rw [houter _ rfl]; exact nobl rfl) (by rw [houter _ rfl]; exact FreshB.none rfl))⟩
        · cases (show some _ = some o from ho)
          exact ⟨rfl, wp_index rfl (hitem 0 (by decide) ⟨hpre 0 rfl, hout _ (by decide)⟩) (hitem 1 (by decide) ⟨hpre 1 rfl, hout _ (by decide)⟩) (index_hs _ _ _ _ hlt _) (h1 ⟨_, rfl⟩ _ _ (grown_refl _ none) rfl (nobl rfl) (FreshB.none rfl))⟩
        · cases (show some _ = some o from ho)
          exact ⟨rfl, wp_load_mid 23 _ rfl g1 (k * 32) (hitem 2 (by decide) ⟨hpre 2 rfl, hout _ (by decide)⟩) (F.map bv) _ (hra _ hg) Tryd.underlying23 rfl (info_hash _ hFl.out) (h1 ⟨_, rfl⟩ _ _ (grown_refl _ none) rfl (nobl (blocks_bytes _)) (FreshB.none (blocks_bytes _)))⟩
        · cases (show some _ = some o from ho)
          exact ⟨rfl, wp_move rfl (h1 ⟨_, rfl⟩ _ _ (grown_refl _ none) (houter _ rfl) (by rw [houter _ rfl]; exact fun g e => Nat.lt_of_lt_of_le (hlt2 g e) hg.size) (by rw [houter _ rfl]; exact FreshB.old rfl hlt2))⟩
        · cases (show some _ = some o from ho)
          exact ⟨rfl, wp_move rfl (h1 ⟨_, rfl⟩ _ _ (grown_refl _ none) (houter _ rfl) (by rw [houter _ rfl]; exact nobl rfl) (by rw [houter _ rfl]; exact FreshB.none rfl))⟩
        · cases (show some _ = some o from ho)
          exact ⟨rfl, wp_index rfl (hitem 4 (by decide) ⟨hpre 4 rfl, hout _ (by decide)⟩) (hitem 5 (by decide) ⟨hpre 5 rfl, hout _ (by decide)⟩) (index_hs _ _ _ _ hlt _) (h1 ⟨_, rfl⟩ _ _ (grown_refl _ none) rfl (nobl rfl) (FreshB.none rfl))⟩
        · cases (show some _ = some o from ho)
          exact ⟨rfl, wp_load_mid 23 _ rfl g2 (k * 32) (hitem 6 (by decide) ⟨hpre 6 rfl, hout _ (by decide)⟩) (F.map bv) _ (hrb _ hg) Tryd.underlying23 rfl (info_hash _ hFl.out) (h1 ⟨_, rfl⟩ _ _ (grown_refl _ none) rfl (nobl (blocks_bytes _)) (FreshB.none (blocks_bytes _)))⟩
      · intro a wT hgT hend hap ha
        obtain ⟨f, hf⟩ : ∃ f : Nat → Value, f = fun t => a.tmps.getD t undef := ⟨_, rfl⟩
        have s20 : f 20 = (.agg (F.map bv).toArray) := by rw [hf]; exact (hend 3 (by decide) (by decide)).1
        have s24 : f 24 = (.agg (F.map bv).toArray) := by rw [hf]; exact (hend 7 (by decide) (by decide)).1
        rw [← hf] at ha
        clear hend hap
        clear hf
        subst ha
        simp only [fill, shS, Nat.reduceAdd, Nat.reduceBEq, Bool.or_false, Bool.or_true, cond_true, cond_false, List.drop_succ_cons, List.drop_zero, s20, s24]
        clear s20 s24
        go_wp2
        go_roundw
        case rel => exact ⟨k + 1, by omega, by go_num, grown_same hgz hgT⟩
        case measure => simp [intOf]; omega
    · have hkk : k = 32 := by omega
      subst hkk
      rw [show ((32 : Nat) : Int) = 32 from rfl]
      go_wp2
      go_ret
      exact ⟨rfl, hgz⟩
end Go.Proofs.YtmfnncfiaaeknaaDoor
