/- One-time signatures: a bit of a digest; the program's and the document's own. -/
import Derived.Test.YtmfnncfiaaeknaaDoorLamA
namespace Go.Proofs.YtmfnncfiaaeknaaDoor
open Go.RowKit

/-- A variable made and written. -/
theorem new_hash {w w' : World} {C X : Array Value} {t : TypeId} (h : (w.alloc (.cells C t)).setRow w.heap.size X = w') : w'.heap[w.heap.size]? = some (.cells X t (0, 0)) ∧ w.grownBy w' none := by
  subst h
  exact ⟨setRow_heap _ _ _ _ _ _ (alloc_at rfl), grown_setRow (grown_alloc (grown_refl _ _) _) (.inr (Nat.le_refl _)) _⟩
theorem and1_u8 : ∀ x : Fin 256, ∀ s : Fin 8, bits BinOp.and IntKind.u8 ((x.val : Int) / 2 ^ s.val) 1 = ((x.val / 2 ^ s.val % 2 : Nat) : Int) := by decide +kernel
theorem and1_i64 : ∀ x : Fin 256, ∀ s : Fin 8, bits BinOp.and IntKind.i64 ((x.val : Int) / 2 ^ s.val) 1 = ((x.val / 2 ^ s.val % 2 : Nat) : Int) := by decide +kernel

set_option maxRecDepth 100000 in
theorem bit_any (d : List UInt8) (h32 : d.length = 32) (i : Nat) (hi : i < 256) (w : World) :
    Calls Tryd.prog 31 #[.agg (d.map bv).toArray, .int .i64 i] w fun e w' => e = .returned (.int .i64 (((d.getD (i / 8) 0).toNat / 2 ^ (7 - i % 8) % 2 : Nat) : Int)) ∧ w.grownBy w' none := by
  obtain ⟨q, hq⟩ : ∃ q, q = i / 8 := ⟨_, rfl⟩
  obtain ⟨s, hs⟩ : ∃ s, s = 7 - i % 8 := ⟨_, rfl⟩
  have hq32 : q < 32 := by omega
  have hs8 : s < 8 := by omega
  have e1 : (i : Int).tdiv 8 = (q : Int) := by rw [Int.tdiv_eq_ediv_of_nonneg (by omega)]; omega
  have e2 : (i : Int).tmod 8 = 7 - (s : Int) := by rw [Int.tmod_eq_emod_of_nonneg (by omega)]; omega
  have e3 : IntKind.i64.wrap (q : Int) = (q : Int) := IntWalk.i64_in _ ⟨by omega, by omega⟩
  have e4 : IntKind.i64.wrap (7 - (s : Int)) = 7 - (s : Int) := IntWalk.i64_in _ ⟨by omega, by omega⟩
  have e5 : (7 : Int) - (7 - (s : Int)) = (s : Int) := by omega
  have e6 : IntKind.i64.wrap (s : Int) = (s : Int) := IntWalk.i64_in _ ⟨by omega, by omega⟩
  rw [← hq, ← hs]
  obtain ⟨x, hx⟩ : ∃ x, x = d.getD q 0 := ⟨_, rfl⟩
  have hc : ∀ w' : World, w'.heap[w.heap.size]? = some (.cells (d.map bv).toArray 23 (0, 0)) → w'.cell? ⟨w.heap.size, q, none⟩ = some (.int .u8 (x.toNat : Int)) := fun w' h => by
    refine cell_bv h ?_
    rw [hx, List.getD_eq_getElem?_getD, List.getElem?_eq_getElem (by omega)]; rfl
  have hc0 := hc _ (alloc_at rfl)
  rw [← hx]
  clear hx hc hs hq
  have e7 : bits BinOp.and IntKind.u8 ((x.toNat : Int) / 2 ^ s) 1 = ((x.toNat / 2 ^ s % 2 : Nat) : Int) := and1_u8 ⟨x.toNat, x.toNat_lt⟩ ⟨s, hs8⟩
  have hy2 : x.toNat / 2 ^ s % 2 < 2 := Nat.mod_lt _ (by omega)
  generalize x.toNat / 2 ^ s % 2 = y at e7 hy2 ⊢
  have e8 : IntKind.i64.wrap (y : Int) = (y : Int) := IntWalk.i64_in _ ⟨by omega, by omega⟩
  have e9 : wrap64 (y : Int) = (y : Int) := IntWalk.wrap64_in _ ⟨by omega, by omega⟩
  go_enter Tryd.func31, Tryd.ntmps31
  go_wp2
  go_ret
  exact ⟨rfl, grown_alloc (grown_refl _ _) _⟩

set_option maxRecDepth 100000 in
theorem Bit_any (A : Option Addr) (m : List UInt8) (c i : Nat) (w : World) (hk : Laid2 w) (hr : RdB w A m) (hb : m.length ≤ 1000) (hi : i < 256) :
    Calls Tryd.prog 14 #[.slice A m.length c, .int .i64 i] w fun e w' => e = .returned (.int .i64 (bitL m i)) ∧ w.grownBy w' none := by
  have hd := digest_any A m c w hk hr hb
  have hbit := fun w' => bit_any (tagL 109 m) (tagL_len _ _) i hi w'
  obtain ⟨X, hX⟩ : ∃ X, X = tagL 109 m := ⟨_, rfl⟩
  rw [← hX] at hd hbit
  have e : (X.getD (i / 8) 0).toNat / 2 ^ (7 - i % 8) % 2 = bitL m i := by rw [hX]; rfl
  simp only [e] at hbit
  have h0 : (0 : Int) ≤ (i : Int) := by omega
  have h1 : (i : Int) < 256 := by omega
  clear hX e
  go_enter Tryd.func14, Tryd.ntmps14
  go_wp2_with (first
    | (go_at_call 30; refine hd.mono ?_; rintro e w6 ⟨rfl, hg6⟩)
    | (go_at_call 31; refine (hbit _).mono ?_; rintro e w7 ⟨rfl, hg7⟩))
  go_ret
  exact ⟨rfl, grown_same hg6 hg7⟩

set_option maxRecDepth 100000 in
theorem Rbit_any (A : Option Addr) (m : List UInt8) (c i : Nat) (w : World) (hr : RdB w A m) (hb : m.length ≤ 1000) (hi : i < 256) :
    Calls Tryd.prog 34 #[.slice A m.length c, .int .i64 i] w fun e w' => e = .returned (.int .i64 (bitL m i)) ∧ w.grownBy w' none := by
  have htag := fun A' w' (h3 : RdP w' A' [(A, m, c)]) => RTagged_any 109 A' [(A, m, c)] 1 w' h3 (by simp [catP]; omega) (by simp)
  obtain ⟨X, hX⟩ : ∃ X, X = tagL 109 (catP [(A, m, c)]) := ⟨_, rfl⟩
  rw [← hX] at htag
  have HX : X = tagL 109 m := by rw [hX]; simp [catP]
  have hXl : Hid (X.length = 32) := by rw [hX]; exact tagL_len _ _
  clear hX
  change ∀ A' w', RdP w' A' _ → Calls Tryd.prog 26 #[.int .u8 109, .slice A' 1 1] w' _ at htag
  obtain ⟨q, hq⟩ : ∃ q, q = i / 8 := ⟨_, rfl⟩
  obtain ⟨s, hs⟩ : ∃ s, s = 7 - i % 8 := ⟨_, rfl⟩
  have hq32 : q < 32 := by omega
  have hs8 : s < 8 := by omega
  have e1 : (i : Int).tdiv 8 = (q : Int) := by rw [Int.tdiv_eq_ediv_of_nonneg (by omega)]; omega
  have e2 : (i : Int).tmod 8 = 7 - (s : Int) := by rw [Int.tmod_eq_emod_of_nonneg (by omega)]; omega
  have e3 : IntKind.i64.wrap (q : Int) = (q : Int) := IntWalk.i64_in _ ⟨by omega, by omega⟩
  have e4 : IntKind.i64.wrap (7 - (s : Int)) = 7 - (s : Int) := IntWalk.i64_in _ ⟨by omega, by omega⟩
  have e5 : (7 : Int) - (7 - (s : Int)) = (s : Int) := by omega
  have e6 : IntKind.i64.wrap (s : Int) = (s : Int) := IntWalk.i64_in _ ⟨by omega, by omega⟩
  have e10 : IntKind.u64.wrap (s : Int) = (s : Int) := IntWalk.u64_in _ ⟨by omega, by omega⟩
  unfold bitL
  rw [← HX, ← hq, ← hs]
  obtain ⟨x, hx⟩ : ∃ x, x = X.getD q 0 := ⟨_, rfl⟩
  have hc : ∀ (w' : World) g, w'.heap[g]? = some (.cells (X.map bv).toArray 23 (0, 0)) → w'.cell? ⟨g, q, none⟩ = some (.int .u8 (x.toNat : Int)) := fun w' g h => by
    refine cell_bv h ?_
    have := hXl.out
    rw [hx, List.getD_eq_getElem?_getD, List.getElem?_eq_getElem (by omega)]; rfl
  rw [← hx]
  clear hx hs hq HX
  have e7 : bits BinOp.and IntKind.i64 ((x.toNat : Int) / 2 ^ s) 1 = ((x.toNat / 2 ^ s % 2 : Nat) : Int) := and1_i64 ⟨x.toNat, x.toNat_lt⟩ ⟨s, hs8⟩
  have hy2 : x.toNat / 2 ^ s % 2 < 2 := Nat.mod_lt _ (by omega)
  generalize x.toNat / 2 ^ s % 2 = y at e7 hy2 ⊢
  have e8 : IntKind.i64.wrap (y : Int) = (y : Int) := IntWalk.i64_in _ ⟨by omega, by omega⟩
  have e11 : wrap64 ((x.toNat : Int) / 2 ^ s) = (x.toNat : Int) / 2 ^ s := by
    have h1 : (0 : Int) ≤ (x.toNat : Int) / 2 ^ s := Int.ediv_nonneg (by omega) (by exact_mod_cast Nat.zero_le (2 ^ s))
    have h2 : (x.toNat : Int) / 2 ^ s ≤ (x.toNat : Int) := Int.ediv_le_self _ (by omega)
    have h3 := x.toNat_lt
    exact IntWalk.wrap64_in _ ⟨by omega, by omega⟩
  go_enter Tryd.func34, Tryd.ntmps34
  go_wp2_with (first
    | (go_at_call 26; refine (htag _ _ (rdP_kept1 (rd_row (cs := [_]) (alloc_at (by simp))) (hr.alloc _))).mono ?_; rintro e w6 ⟨rfl, hg6⟩)
    | (refine wpList_store_row rfl 23 _ _ rfl (w6.heap.size) (X.map bv).toArray rfl rfl 23 _ (alloc_at rfl) (hashV_size X hXl.out) (by rw [show (X.map bv).toArray.size = 32 from by rw [List.size_toArray, List.length_map, hXl.out]]; rfl) (bv_all' _) ?_; generalize hw3 : World.setRow _ _ _ = w3; have HW3 := new_hash hw3; clear hw3; have hc1 := hc _ _ HW3.1))
  go_ret
  exact ⟨rfl, grown_same (grown_same (grown_alloc (grown_refl _ _) _) hg6) HW3.2⟩
end Go.Proofs.YtmfnncfiaaeknaaDoor
