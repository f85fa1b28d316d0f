/- The statements' keys and texts. -/
import Derived.Test.YtehbhjkceemmcaaKvL
import Derived.Test.YtehbhjkceemmcaaKA
namespace Go.Proofs.Ytehbhjkceemmcaa
open Go.RowKit

def keysK : List (List UInt8) := [[97], [97, 98], [97, 98, 99], [98], [98, 97], [115, 47, 97], [115, 47, 98], [115, 47, 99], [116], [117], [122], [122, 122]]
theorem at_plain (g k : Nat) : (⟨g, 0, none⟩ : Addr).add k = ⟨g, k, none⟩ := by unfold Addr.add; split <;> simp_all
theorem keysK_len : keysK.length = 12 := rfl
theorem keys_any (w : World) : Calls Try.prog 29 #[] w fun e w' => ∃ g, e = .returned (.slice (some ⟨g, 0, none⟩) 12 12) ∧ RdS w' (some ⟨g, 0, none⟩) keysK ∧ w.grownBy w' none := by
  go_enter Try.func29, Try.ntmps29
  go_wp2
  go_ret
  exact ⟨w.heap.size, rfl, rd_row (cs := keysK.map sv) (heap_alloc_new w _), grown_alloc (grown_refl _ _) _⟩
theorem KKey_any (n : Int) : ∃ k ∈ keysK, ∀ w : World, Calls Try.prog 12 #[.int .i64 n] w fun e w' => e = .returned (.string ⟨k.toArray⟩) ∧ w.grownBy w' none := by
  obtain ⟨x, hx, hW⟩ := Within_nat n 11 (by omega)
  refine ⟨keysK[x]'(by rw [keysK_len]; omega), List.getElem_mem _, fun w => ?_⟩
  have hget : ∀ (w' : World) (g : Nat), RdS w' (some ⟨g, 0, none⟩) keysK → w'.cell? ⟨g, x, none⟩ = some (.string ⟨(keysK[x]'(by rw [keysK_len]; omega)).toArray⟩) := by
    intro w' g h
    obtain ⟨ad, e, hc⟩ := RdS.get h (k := x) (by rw [keysK_len]; omega)
    cases e
    rwa [at_plain] at hc
  generalize keysK[x]'(by rw [keysK_len]; omega) = kx at *
  have k1 := fun (w : World) => keys_any w
  have k2 := fun (w : World) => keys_any w
  have hx2 : (x : Int) < 12 := by omega
  go_enter Try.func12, Try.ntmps12
  go_wp2_with (first
    | (go_at_call 29; refine (k1 _).mono ?_; clear k1; rintro e w1 ⟨g1, rfl, hr1, hg1⟩)
    | (go_at_call 29; refine (k2 _).mono ?_; clear k2; rintro e w2 ⟨g2, rfl, hr2, hg2⟩; have hc := hget _ _ (hr1.kept hg2))
    | (go_at_call 24; refine (hW _).mono ?_; rintro e w3 ⟨rfl, rfl⟩))
  go_ret
  exact ⟨rfl, grown_none hg1 hg2⟩
def textsK : List (List UInt8) := [[], [49], [120], [118, 97, 108, 117, 101], [49, 50, 51, 52, 53, 54, 55, 56]]
theorem textsK_len : textsK.length = 5 := rfl
theorem KText_any (n : Int) : ∃ t ∈ textsK, ∀ w : World, Calls Try.prog 13 #[.int .i64 n] w fun e w' => e = .returned (.string ⟨t.toArray⟩) ∧ w.grownBy w' none := by
  obtain ⟨x, hx, hW⟩ := Within_nat n 4 (by omega)
  refine ⟨textsK[x]'(by rw [textsK_len]; omega), List.getElem_mem _, fun w => ?_⟩
  have hr : RdS (w.alloc (.cells (textsK.map sv).toArray 9)) (some ⟨w.heap.size, 0, none⟩) textsK := rd_row (heap_alloc_new w _)
  obtain ⟨ad, e, hc⟩ := RdS.get hr (k := x) (by rw [textsK_len]; omega)
  cases e
  rw [at_plain] at hc
  generalize textsK[x]'(by rw [textsK_len]; omega) = kx at *
  have hx2 : (x : Int) < 5 := by omega
  change World.cell? (w.alloc (.cells #[.string ⟨#[]⟩, .string ⟨#[49]⟩, .string ⟨#[120]⟩, .string ⟨#[118, 97, 108, 117, 101]⟩, .string ⟨#[49, 50, 51, 52, 53, 54, 55, 56]⟩] 9)) _ = _ at hc
  generalize hw0 : w.alloc (.cells #[.string ⟨#[]⟩, .string ⟨#[49]⟩, .string ⟨#[120]⟩, .string ⟨#[118, 97, 108, 117, 101]⟩, .string ⟨#[49, 50, 51, 52, 53, 54, 55, 56]⟩] 9) = w0 at hc
  have hg0 : w.grownBy w0 none := by rw [← hw0]; exact grown_alloc (grown_refl _ _) _
  have HW := Lib.hid hw0
  clear hw0 hr
  go_enter Try.func13, Try.ntmps13
  go_wp2_with (go_at_call 24; rw [HW.out]; refine (hW _).mono ?_; rintro e w3 ⟨rfl, rfl⟩)
  go_ret
  exact ⟨rfl, hg0⟩
theorem keysK_may : ∀ k ∈ keysK, 1 ≤ k.length ∧ k.length ≤ 16 := by decide
theorem textsK_may : ∀ t ∈ textsK, t.length ≤ 8 := by decide
theorem keysK_rise : keysK.Pairwise fun a b => kl a b = true := by decide
end Go.Proofs.Ytehbhjkceemmcaa
