/- One-time signatures, the small functions: a secret, its public part, a message's digest, a bit of it; the program's and the document's own. One-time signatures: a bit of a digest; the program's and the document's own. Rows in rows: cells written in the midst of a block, an array's part, a key of all public parts; the program's and the document's own. A seed's key; the program's own. A signature; the program's own. Whose a signature is; the program's own. Whose a signature is: the contract of the program's own function; is it of a key. Signatures of other sizes are nobody's; is a signature of a key. -/
import Derived.Test.YtohdifimfhdhoaaDoorKD
import Derived.Test.YtohdifimfhdhoaaDoorKC
import Derived.Test.YtohdifimfhdhoaaDoorKB
import Derived.Deep.MidRow
import Derived.Deep.RegionHeld3
import Derived.Deep.DeepCutAuto
import Derived.Deep.CutBlock
import Derived.Laws.ResultCell
namespace Go.Proofs.YtohdifimfhdhoaaDoor
open Go.RowKit

def Laid2 (w : World) : Prop := LaidK w ∧ LaidS w
theorem Laid2.kept {w w' : World} (h : Laid2 w) (hg : w.grownBy w' none) : Laid2 w' := ⟨h.1.kept hg, h.2.kept hg⟩
theorem alloc_at {w : World} {o : Obj} {g : Nat} (h : g = w.heap.size) : (w.alloc o).heap[g]? = some o := by subst h; exact heap_alloc_new _ _
theorem alloc_old {w : World} {o o' : Obj} {g : Nat} (h : w.heap[g]? = some o) : (w.alloc o').heap[g]? = some o := keep_of h (grown_alloc (grown_refl _ _) _)
theorem hashV_size (X : List UInt8) (h : X.length = 32) : (Tryd.prog.info? 23).map (·.size) = some (X.map bv).toArray.size := by rw [List.size_toArray, List.length_map, h]; exact size_hash
theorem rdP_kept1 {w : World} {A : Option Addr} {p : Part} (h1 : RdAt w A [pv p]) (h2 : RdB w p.1 p.2.1) : RdP w A [p] := ⟨h1, fun q hq => by rw [List.mem_singleton] at hq; subst hq; exact h2⟩
theorem tagL_len (t : UInt8) (l : List UInt8) : (tagL t l).length = 32 := sumL_len _

set_option maxRecDepth 100000 in
theorem public_any (s : List UInt8) (h32 : s.length = 32) (w : World) (hk : Laid2 w) :
    Calls Tryd.prog 37 #[.agg (s.map bv).toArray] w fun e w' => e = .returned (.agg ((publicL s).map bv).toArray) ∧ w.grownBy w' none := by
  have htag := fun A w' (h1 : Laid2 w') (h3 : RdP w' A [(some ⟨w.heap.size, 0, none⟩, s, 32)]) => Tagged_any 112 A [(some ⟨w.heap.size, 0, none⟩, s, 32)] 1 w' h1.1 h1.2 h3 (by simp [catP]; omega) (by simp)
  have h32' := Lib.hid h32
  obtain ⟨X, hX⟩ : ∃ X, X = tagL 112 (catP [((some ⟨w.heap.size, 0, none⟩ : Option Addr), s, 32)]) := ⟨_, rfl⟩
  rw [← hX] at htag
  have HX : Hid (X = publicL s) := by show _ = _; rw [hX]; simp [catP, publicL]
  have hXl : Hid (X.length = 32) := by rw [hX]; exact tagL_len _ _
  clear hX
  change ∀ A w', Laid2 w' → RdP w' A _ → Calls Tryd.prog 31 #[.int .u8 112, .slice A 1 1] w' _ at htag
  go_enter Tryd.func37, Tryd.ntmps37
  go_wp2_with (first
    | (go_at_call 31; refine (htag _ _ (hk.kept (by first | exact grown_refl _ _ | exact grown_alloc (grown_refl _ _) _ | exact grown_alloc (grown_alloc (grown_refl _ _) _) _ | exact grown_alloc (grown_alloc (grown_alloc (grown_refl _ _) _) _) _ | exact grown_alloc (grown_alloc (grown_alloc (grown_alloc (grown_refl _ _) _) _) _) _)) (rdP_kept1 (by unfold pv; simp only [h32'.out]; exact rd_row (cs := [_]) (alloc_at (by simp))) (rd_row (alloc_old (alloc_old (alloc_at rfl)))))).mono ?_; rintro e w6 ⟨rfl, hg6⟩)
    | (refine wpList_store_row rfl 23 _ _ rfl (w.heap.size + 1) (X.map bv).toArray rfl rfl 23 _ (keep_of (alloc_old (alloc_at (by simp))) hg6) (hashV_size X hXl.out) (by rw [show (X.map bv).toArray.size = 32 from by rw [List.size_toArray, List.length_map, hXl.out]]; rfl) (bv_all' _) ?_))
  refine bodyPost_ret (results_cell_row rfl _ _ (w.heap.size + 1) 23 (X.map bv).toArray (0, 0) _ rfl (setRow_heap _ _ _ _ _ _ (keep_of (alloc_old (alloc_at (by simp))) hg6)) Tryd.underlying23 rfl (hashV_size X hXl.out)) rfl ?_
  exact ⟨by rw [HX.out], grown_setRow (grown_same (grown_alloc (grown_alloc (grown_alloc (grown_refl _ _) _) _) _) hg6) (.inr (by omega)) _⟩

set_option maxRecDepth 100000 in
theorem Rpublic_any (s : List UInt8) (h32 : s.length = 32) (w : World) :
    Calls Tryd.prog 52 #[.agg (s.map bv).toArray] w fun e w' => e = .returned (.agg ((publicL s).map bv).toArray) ∧ w.grownBy w' none := by
  have htag := fun A w' (h3 : RdP w' A [(some ⟨w.heap.size, 0, none⟩, s, 32)]) => RTagged_any 112 A [(some ⟨w.heap.size, 0, none⟩, s, 32)] 1 w' h3 (by simp [catP]; omega) (by simp)
  have h32' := Lib.hid h32
  obtain ⟨X, hX⟩ : ∃ X, X = tagL 112 (catP [((some ⟨w.heap.size, 0, none⟩ : Option Addr), s, 32)]) := ⟨_, rfl⟩
  rw [← hX] at htag
  have HX : Hid (X = publicL s) := by show _ = _; rw [hX]; simp [catP, publicL]
  have hXl : Hid (X.length = 32) := by rw [hX]; exact tagL_len _ _
  clear hX
  change ∀ A w', RdP w' A _ → Calls Tryd.prog 16 #[.int .u8 112, .slice A 1 1] w' _ at htag
  go_enter Tryd.func52, Tryd.ntmps52
  go_wp2_with (first
    | (go_at_call 16; refine (htag _ _ (rdP_kept1 (by unfold pv; simp only [h32'.out]; exact rd_row (cs := [_]) (alloc_at (by simp))) (rd_row (alloc_old (alloc_old (alloc_at rfl)))))).mono ?_; rintro e w6 ⟨rfl, hg6⟩)
    | (refine wpList_store_row rfl 23 _ _ rfl (w.heap.size + 1) (X.map bv).toArray rfl rfl 23 _ (keep_of (alloc_old (alloc_at (by simp))) hg6) (hashV_size X hXl.out) (by rw [show (X.map bv).toArray.size = 32 from by rw [List.size_toArray, List.length_map, hXl.out]]; rfl) (bv_all' _) ?_))
  refine bodyPost_ret (results_cell_row rfl _ _ (w.heap.size + 1) 23 (X.map bv).toArray (0, 0) _ rfl (setRow_heap _ _ _ _ _ _ (keep_of (alloc_old (alloc_at (by simp))) hg6)) Tryd.underlying23 rfl (hashV_size X hXl.out)) rfl ?_
  exact ⟨by rw [HX.out], grown_setRow (grown_same (grown_alloc (grown_alloc (grown_alloc (grown_refl _ _) _) _) _) hg6) (.inr (by omega)) _⟩

set_option maxRecDepth 100000 in
theorem digest_any (A : Option Addr) (m : List UInt8) (c : Nat) (w : World) (hk : Laid2 w) (hr : RdB w A m) (hb : m.length ≤ 1000) :
    Calls Tryd.prog 35 #[.slice A m.length c] w fun e w' => e = .returned (.agg ((tagL 109 m).map bv).toArray) ∧ w.grownBy w' none := by
  have htag := fun A' w' (h1 : Laid2 w') (h3 : RdP w' A' [(A, m, c)]) => Tagged_any 109 A' [(A, m, c)] 1 w' h1.1 h1.2 h3 (by simp [catP]; omega) (by simp)
  obtain ⟨X, hX⟩ : ∃ X, X = tagL 109 (catP [(A, m, c)]) := ⟨_, rfl⟩
  rw [← hX] at htag
  have HX : Hid (X = tagL 109 m) := by show _ = _; rw [hX]; simp [catP]
  have hXl : Hid (X.length = 32) := by rw [hX]; exact tagL_len _ _
  clear hX
  change ∀ A' w', Laid2 w' → RdP w' A' _ → Calls Tryd.prog 31 #[.int .u8 109, .slice A' 1 1] w' _ at htag
  go_enter Tryd.func35, Tryd.ntmps35
  go_wp2_with (first
    | (go_at_call 31; refine (htag _ _ (hk.kept (by first | exact grown_refl _ _ | exact grown_alloc (grown_refl _ _) _ | exact grown_alloc (grown_alloc (grown_refl _ _) _) _ | exact grown_alloc (grown_alloc (grown_alloc (grown_refl _ _) _) _) _ | exact grown_alloc (grown_alloc (grown_alloc (grown_alloc (grown_refl _ _) _) _) _) _)) (rdP_kept1 (rd_row (cs := [_]) (alloc_at (by simp))) ((hr.alloc _).alloc _))).mono ?_; rintro e w6 ⟨rfl, hg6⟩)
    | (refine wpList_store_row rfl 23 _ _ rfl (w.heap.size) (X.map bv).toArray rfl rfl 23 _ (keep_of (alloc_old (alloc_at rfl)) hg6) (hashV_size X hXl.out) (by rw [show (X.map bv).toArray.size = 32 from by rw [List.size_toArray, List.length_map, hXl.out]]; rfl) (bv_all' _) ?_))
  refine bodyPost_ret (results_cell_row rfl _ _ (w.heap.size) 23 (X.map bv).toArray (0, 0) _ rfl (setRow_heap _ _ _ _ _ _ (keep_of (alloc_old (alloc_at rfl)) hg6)) Tryd.underlying23 rfl (hashV_size X hXl.out)) rfl ?_
  exact ⟨by rw [HX.out], grown_setRow (grown_same (grown_alloc (grown_alloc (grown_refl _ _) _) _) hg6) (.inr (by omega)) _⟩

set_option maxRecDepth 100000 in
theorem secret_any (s : List UInt8) (h32 : s.length = 32) (i v : Nat) (hi : i < 256) (hv : v < 256) (w : World) (hk : Laid2 w) :
    Calls Tryd.prog 39 #[.agg (s.map bv).toArray, .int .i64 i, .int .i64 v] w fun e w' => e = .returned (.agg ((secretL s i v).map bv).toArray) ∧ w.grownBy w' none := by
  obtain ⟨p1, hp1⟩ : ∃ p1 : Part, p1 = (some ⟨w.heap.size, 0, none⟩, s, 32) := ⟨_, rfl⟩
  obtain ⟨p2, hp2⟩ : ∃ p2 : Part, p2 = (some ⟨w.heap.size + 1 + 1, 0, none⟩, [UInt8.ofNat i, UInt8.ofNat v], 2) := ⟨_, rfl⟩
  have htag := fun A w' (h1 : Laid2 w') (h3 : RdP w' A [p1, p2]) => Tagged_any 115 A [p1, p2] 2 w' h1.1 h1.2 h3 (by rw [hp1, hp2]; simp [catP]; omega) (by simp)
  obtain ⟨X, hX⟩ : ∃ X, X = tagL 115 (catP [p1, p2]) := ⟨_, rfl⟩
  rw [← hX] at htag
  have HX : Hid (X = secretL s i v) := by show _ = _; rw [hX, hp1, hp2]; simp [catP, secretL]
  have hXl : Hid (X.length = 32) := by rw [hX]; exact tagL_len _ _
  have e1 : Hid (pv p1 = .slice (some ⟨w.heap.size, 0, none⟩) 32 32) := by show _ = _; rw [hp1, pv, h32]
  have e2 : Hid (pv p2 = .slice (some ⟨w.heap.size + 1 + 1, 0, none⟩) 2 2) := by show _ = _; rw [hp2]; rfl
  have w1 : IntKind.u8.wrap (i : Int) = ((UInt8.ofNat i).toNat : Int) := by rw [ofNat_u8 hi]; exact IntWalk.u8_in _ ⟨by omega, by omega⟩
  have w2 : IntKind.u8.wrap (v : Int) = ((UInt8.ofNat v).toNat : Int) := by rw [ofNat_u8 hv]; exact IntWalk.u8_in _ ⟨by omega, by omega⟩
  have hrd : ∀ w' A (C1 C2 : Array Value), w'.heap[w.heap.size]? = some (.cells C1 23 (0, 0)) → C1 = (s.map bv).toArray → w'.heap[w.heap.size + 1 + 1]? = some (.cells C2 5 (0, 0)) → C2 = ([UInt8.ofNat i, UInt8.ofNat v].map bv).toArray → RdAt w' A [pv p1, pv p2] → RdP w' A [p1, p2] := fun w' A C1 C2 h1 e1 h2 e2 h3 => ⟨h3, fun q hq => by
    subst e1 e2
    simp only [List.mem_cons, List.not_mem_nil, or_false] at hq
    rcases hq with rfl | rfl
    · rw [hp1]; exact rd_row h1
    · rw [hp2]; exact rd_row h2⟩
  clear hX hp1 hp2
  change ∀ A w', Laid2 w' → RdP w' A _ → Calls Tryd.prog 31 #[.int .u8 115, .slice A 2 2] w' _ at htag
  go_enter Tryd.func39, Tryd.ntmps39
  go_wp2_with (first
    | (go_at_call 31; refine (htag _ _ (hk.kept (by first | exact grown_refl _ _ | exact grown_alloc (grown_refl _ _) _ | exact grown_alloc (grown_alloc (grown_refl _ _) _) _ | exact grown_alloc (grown_alloc (grown_alloc (grown_refl _ _) _) _) _ | exact grown_alloc (grown_alloc (grown_alloc (grown_alloc (grown_refl _ _) _) _) _) _)) (hrd _ _ _ _ (alloc_old (alloc_old (alloc_old (alloc_at rfl)))) rfl (alloc_old (alloc_at (by simp))) rfl (by rw [e1.out, e2.out]; exact rd_row (cs := [_, _]) (alloc_at (by simp))))).mono ?_; rintro e w6 ⟨rfl, hg6⟩)
    | (refine wpList_store_row rfl 23 _ _ rfl (w.heap.size + 1) (X.map bv).toArray rfl rfl 23 _ (keep_of (alloc_old (alloc_old (alloc_at (by simp)))) hg6) (hashV_size X hXl.out) (by rw [show (X.map bv).toArray.size = 32 from by rw [List.size_toArray, List.length_map, hXl.out]]; rfl) (bv_all' _) ?_))
  refine bodyPost_ret (results_cell_row rfl _ _ (w.heap.size + 1) 23 (X.map bv).toArray (0, 0) _ rfl (setRow_heap _ _ _ _ _ _ (keep_of (alloc_old (alloc_old (alloc_at (by simp)))) hg6)) Tryd.underlying23 rfl (hashV_size X hXl.out)) rfl ?_
  exact ⟨by rw [HX.out], grown_setRow (grown_same (grown_alloc (grown_alloc (grown_alloc (grown_alloc (grown_refl _ _) _) _) _) _) hg6) (.inr (by omega)) _⟩

set_option maxRecDepth 100000 in
theorem Rsecret_any (s : List UInt8) (h32 : s.length = 32) (i v : Nat) (hi : i < 256) (hv : v < 256) (w : World) :
    Calls Tryd.prog 56 #[.agg (s.map bv).toArray, .int .i64 i, .int .i64 v] w fun e w' => e = .returned (.agg ((secretL s i v).map bv).toArray) ∧ w.grownBy w' none := by
  obtain ⟨p1, hp1⟩ : ∃ p1 : Part, p1 = (some ⟨w.heap.size, 0, none⟩, s, 32) := ⟨_, rfl⟩
  obtain ⟨p2, hp2⟩ : ∃ p2 : Part, p2 = (some ⟨w.heap.size + 1 + 1, 0, none⟩, [UInt8.ofNat i, UInt8.ofNat v], 2) := ⟨_, rfl⟩
  have htag := fun A w' (h3 : RdP w' A [p1, p2]) => RTagged_any 115 A [p1, p2] 2 w' h3 (by rw [hp1, hp2]; simp [catP]; omega) (by simp)
  obtain ⟨X, hX⟩ : ∃ X, X = tagL 115 (catP [p1, p2]) := ⟨_, rfl⟩
  rw [← hX] at htag
  have HX : Hid (X = secretL s i v) := by show _ = _; rw [hX, hp1, hp2]; simp [catP, secretL]
  have hXl : Hid (X.length = 32) := by rw [hX]; exact tagL_len _ _
  have e1 : Hid (pv p1 = .slice (some ⟨w.heap.size, 0, none⟩) 32 32) := by show _ = _; rw [hp1, pv, h32]
  have e2 : Hid (pv p2 = .slice (some ⟨w.heap.size + 1 + 1, 0, none⟩) 2 2) := by show _ = _; rw [hp2]; rfl
  have w1 : IntKind.u8.wrap (i : Int) = ((UInt8.ofNat i).toNat : Int) := by rw [ofNat_u8 hi]; exact IntWalk.u8_in _ ⟨by omega, by omega⟩
  have w2 : IntKind.u8.wrap (v : Int) = ((UInt8.ofNat v).toNat : Int) := by rw [ofNat_u8 hv]; exact IntWalk.u8_in _ ⟨by omega, by omega⟩
  have hrd : ∀ w' A (C1 C2 : Array Value), w'.heap[w.heap.size]? = some (.cells C1 23 (0, 0)) → C1 = (s.map bv).toArray → w'.heap[w.heap.size + 1 + 1]? = some (.cells C2 5 (0, 0)) → C2 = ([UInt8.ofNat i, UInt8.ofNat v].map bv).toArray → RdAt w' A [pv p1, pv p2] → RdP w' A [p1, p2] := fun w' A C1 C2 h1 e1 h2 e2 h3 => ⟨h3, fun q hq => by
    subst e1 e2
    simp only [List.mem_cons, List.not_mem_nil, or_false] at hq
    rcases hq with rfl | rfl
    · rw [hp1]; exact rd_row h1
    · rw [hp2]; exact rd_row h2⟩
  clear hX hp1 hp2
  change ∀ A w', RdP w' A _ → Calls Tryd.prog 16 #[.int .u8 115, .slice A 2 2] w' _ at htag
  go_enter Tryd.func56, Tryd.ntmps56
  go_wp2_with (first
    | (go_at_call 16; refine (htag _ _ (hrd _ _ _ _ (alloc_old (alloc_old (alloc_old (alloc_at rfl)))) rfl (alloc_old (alloc_at (by simp))) rfl (by rw [e1.out, e2.out]; exact rd_row (cs := [_, _]) (alloc_at (by simp))))).mono ?_; rintro e w6 ⟨rfl, hg6⟩)
    | (refine wpList_store_row rfl 23 _ _ rfl (w.heap.size + 1) (X.map bv).toArray rfl rfl 23 _ (keep_of (alloc_old (alloc_old (alloc_at (by simp)))) hg6) (hashV_size X hXl.out) (by rw [show (X.map bv).toArray.size = 32 from by rw [List.size_toArray, List.length_map, hXl.out]]; rfl) (bv_all' _) ?_))
  refine bodyPost_ret (results_cell_row rfl _ _ (w.heap.size + 1) 23 (X.map bv).toArray (0, 0) _ rfl (setRow_heap _ _ _ _ _ _ (keep_of (alloc_old (alloc_old (alloc_at (by simp)))) hg6)) Tryd.underlying23 rfl (hashV_size X hXl.out)) rfl ?_
  exact ⟨by rw [HX.out], grown_setRow (grown_same (grown_alloc (grown_alloc (grown_alloc (grown_alloc (grown_refl _ _) _) _) _) _) hg6) (.inr (by omega)) _⟩
end Go.Proofs.YtohdifimfhdhoaaDoor

namespace Go.Proofs.YtohdifimfhdhoaaDoor
open Go.RowKit

/-- A variable made and written. -/
theorem new_hash {w w' : World} {C X : Array Value} {t : TypeId} (h : (w.alloc (.cells C t)).setRow w.heap.size X = w') : w'.heap[w.heap.size]? = some (.cells X t (0, 0)) ∧ w.grownBy w' none := by
  subst h
  exact ⟨setRow_heap _ _ _ _ _ _ (alloc_at rfl), grown_setRow (grown_alloc (grown_refl _ _) _) (.inr (Nat.le_refl _)) _⟩
theorem and1_u8 : ∀ x : Fin 256, ∀ s : Fin 8, bits BinOp.and IntKind.u8 ((x.val : Int) / 2 ^ s.val) 1 = ((x.val / 2 ^ s.val % 2 : Nat) : Int) := by decide +kernel
theorem and1_i64 : ∀ x : Fin 256, ∀ s : Fin 8, bits BinOp.and IntKind.i64 ((x.val : Int) / 2 ^ s.val) 1 = ((x.val / 2 ^ s.val % 2 : Nat) : Int) := by decide +kernel

set_option maxRecDepth 100000 in
theorem bit_any (d : List UInt8) (h32 : d.length = 32) (i : Nat) (hi : i < 256) (w : World) :
    Calls Tryd.prog 36 #[.agg (d.map bv).toArray, .int .i64 i] w fun e w' => e = .returned (.int .i64 (((d.getD (i / 8) 0).toNat / 2 ^ (7 - i % 8) % 2 : Nat) : Int)) ∧ w.grownBy w' none := by
  obtain ⟨q, hq⟩ : ∃ q, q = i / 8 := ⟨_, rfl⟩
  obtain ⟨s, hs⟩ : ∃ s, s = 7 - i % 8 := ⟨_, rfl⟩
  have hq32 : q < 32 := by omega
  have hs8 : s < 8 := by omega
  have e1 : (i : Int).tdiv 8 = (q : Int) := by rw [Int.tdiv_eq_ediv_of_nonneg (by omega)]; omega
  have e2 : (i : Int).tmod 8 = 7 - (s : Int) := by rw [Int.tmod_eq_emod_of_nonneg (by omega)]; omega
  have e3 : IntKind.i64.wrap (q : Int) = (q : Int) := IntWalk.i64_in _ ⟨by omega, by omega⟩
  have e4 : IntKind.i64.wrap (7 - (s : Int)) = 7 - (s : Int) := IntWalk.i64_in _ ⟨by omega, by omega⟩
  have e5 : (7 : Int) - (7 - (s : Int)) = (s : Int) := by omega
  have e6 : IntKind.i64.wrap (s : Int) = (s : Int) := IntWalk.i64_in _ ⟨by omega, by omega⟩
  rw [← hq, ← hs]
  obtain ⟨x, hx⟩ : ∃ x, x = d.getD q 0 := ⟨_, rfl⟩
  have hc : ∀ w' : World, w'.heap[w.heap.size]? = some (.cells (d.map bv).toArray 23 (0, 0)) → w'.cell? ⟨w.heap.size, q, none⟩ = some (.int .u8 (x.toNat : Int)) := fun w' h => by
    refine cell_bv h ?_
    rw [hx, List.getD_eq_getElem?_getD, List.getElem?_eq_getElem (by omega)]; rfl
  have hc0 := hc _ (alloc_at rfl)
  rw [← hx]
  clear hx hc hs hq
  have e7 : bits BinOp.and IntKind.u8 ((x.toNat : Int) / 2 ^ s) 1 = ((x.toNat / 2 ^ s % 2 : Nat) : Int) := and1_u8 ⟨x.toNat, x.toNat_lt⟩ ⟨s, hs8⟩
  have hy2 : x.toNat / 2 ^ s % 2 < 2 := Nat.mod_lt _ (by omega)
  generalize x.toNat / 2 ^ s % 2 = y at e7 hy2 ⊢
  have e8 : IntKind.i64.wrap (y : Int) = (y : Int) := IntWalk.i64_in _ ⟨by omega, by omega⟩
  have e9 : wrap64 (y : Int) = (y : Int) := IntWalk.wrap64_in _ ⟨by omega, by omega⟩
  go_enter Tryd.func36, Tryd.ntmps36
  go_wp2
  go_ret
  exact ⟨rfl, grown_alloc (grown_refl _ _) _⟩

set_option maxRecDepth 100000 in
theorem Rbit_any (A : Option Addr) (m : List UInt8) (c i : Nat) (w : World) (hr : RdB w A m) (hb : m.length ≤ 1000) (hi : i < 256) :
    Calls Tryd.prog 53 #[.slice A m.length c, .int .i64 i] w fun e w' => e = .returned (.int .i64 (bitL m i)) ∧ w.grownBy w' none := by
  have htag := fun A' w' (h3 : RdP w' A' [(A, m, c)]) => RTagged_any 109 A' [(A, m, c)] 1 w' h3 (by simp [catP]; omega) (by simp)
  obtain ⟨X, hX⟩ : ∃ X, X = tagL 109 (catP [(A, m, c)]) := ⟨_, rfl⟩
  rw [← hX] at htag
  have HX : X = tagL 109 m := by rw [hX]; simp [catP]
  have hXl : Hid (X.length = 32) := by rw [hX]; exact tagL_len _ _
  clear hX
  change ∀ A' w', RdP w' A' _ → Calls Tryd.prog 16 #[.int .u8 109, .slice A' 1 1] w' _ at htag
  obtain ⟨q, hq⟩ : ∃ q, q = i / 8 := ⟨_, rfl⟩
  obtain ⟨s, hs⟩ : ∃ s, s = 7 - i % 8 := ⟨_, rfl⟩
  have hq32 : q < 32 := by omega
  have hs8 : s < 8 := by omega
  have e1 : (i : Int).tdiv 8 = (q : Int) := by rw [Int.tdiv_eq_ediv_of_nonneg (by omega)]; omega
  have e2 : (i : Int).tmod 8 = 7 - (s : Int) := by rw [Int.tmod_eq_emod_of_nonneg (by omega)]; omega
  have e3 : IntKind.i64.wrap (q : Int) = (q : Int) := IntWalk.i64_in _ ⟨by omega, by omega⟩
  have e4 : IntKind.i64.wrap (7 - (s : Int)) = 7 - (s : Int) := IntWalk.i64_in _ ⟨by omega, by omega⟩
  have e5 : (7 : Int) - (7 - (s : Int)) = (s : Int) := by omega
  have e6 : IntKind.i64.wrap (s : Int) = (s : Int) := IntWalk.i64_in _ ⟨by omega, by omega⟩
  have e10 : IntKind.u64.wrap (s : Int) = (s : Int) := IntWalk.u64_in _ ⟨by omega, by omega⟩
  unfold bitL
  rw [← HX, ← hq, ← hs]
  obtain ⟨x, hx⟩ : ∃ x, x = X.getD q 0 := ⟨_, rfl⟩
  have hc : ∀ (w' : World) g, w'.heap[g]? = some (.cells (X.map bv).toArray 23 (0, 0)) → w'.cell? ⟨g, q, none⟩ = some (.int .u8 (x.toNat : Int)) := fun w' g h => by
    refine cell_bv h ?_
    have := hXl.out
    rw [hx, List.getD_eq_getElem?_getD, List.getElem?_eq_getElem (by omega)]; rfl
  rw [← hx]
  clear hx hs hq HX
  have e7 : bits BinOp.and IntKind.i64 ((x.toNat : Int) / 2 ^ s) 1 = ((x.toNat / 2 ^ s % 2 : Nat) : Int) := and1_i64 ⟨x.toNat, x.toNat_lt⟩ ⟨s, hs8⟩
  have hy2 : x.toNat / 2 ^ s % 2 < 2 := Nat.mod_lt _ (by omega)
  generalize x.toNat / 2 ^ s % 2 = y at e7 hy2 ⊢
  have e8 : IntKind.i64.wrap (y : Int) = (y : Int) := IntWalk.i64_in _ ⟨by omega, by omega⟩
  have e11 : wrap64 ((x.toNat : Int) / 2 ^ s) = (x.toNat : Int) / 2 ^ s := by
    have h1 : (0 : Int) ≤ (x.toNat : Int) / 2 ^ s := Int.ediv_nonneg (by omega) (by exact_mod_cast Nat.zero_le (2 ^ s))
    have h2 : (x.toNat : Int) / 2 ^ s ≤ (x.toNat : Int) := Int.ediv_le_self _ (by omega)
    have h3 := x.toNat_lt
    exact IntWalk.wrap64_in _ ⟨by omega, by omega⟩
  go_enter Tryd.func53, Tryd.ntmps53
  go_wp2_with (first
    | (go_at_call 16; refine (htag _ _ (rdP_kept1 (rd_row (cs := [_]) (alloc_at (by simp))) (hr.alloc _))).mono ?_; rintro e w6 ⟨rfl, hg6⟩)
    | (refine wpList_store_row rfl 23 _ _ rfl (w6.heap.size) (X.map bv).toArray rfl rfl 23 _ (alloc_at rfl) (hashV_size X hXl.out) (by rw [show (X.map bv).toArray.size = 32 from by rw [List.size_toArray, List.length_map, hXl.out]]; rfl) (bv_all' _) ?_; generalize hw3 : World.setRow _ _ _ = w3; have HW3 := new_hash hw3; clear hw3; have hc1 := hc _ _ HW3.1))
  go_ret
  exact ⟨rfl, grown_same (grown_same (grown_alloc (grown_refl _ _) _) hg6) HW3.2⟩
end Go.Proofs.YtohdifimfhdhoaaDoor

namespace Go.Proofs.YtohdifimfhdhoaaDoor
open Go.RowKit

theorem heap_setCells {b : Nat} {t : TypeId} : ∀ (vs pre old post : List Value) (w : World), old.length = vs.length → w.heap[b]? = some (.cells (pre ++ (old ++ post)).toArray t (0, 0)) → (w.setCells b pre.length vs).heap[b]? = some (.cells (pre ++ (vs ++ post)).toArray t (0, 0))
  | [], pre, old, post, w, hl, h => by
    have : old = [] := List.eq_nil_of_length_eq_zero hl
    subst this
    exact h
  | v :: r, pre, [], post, w, hl, h => by simp at hl
  | v :: r, pre, x :: old, post, w, hl, h => by
    rw [World.setCells]
    have := heap_setCells (b := b) (t := t) r (pre ++ [v]) old post (w.setCell ⟨b, pre.length, none⟩ v) (by simpa using hl) (heap_setCell_to h (by
      apply Array.ext'
      simp))
    rw [List.length_append, List.length_singleton] at this
    simpa using this
theorem grown_setCells {w : World} {row : Option Nat} {b : Nat} (hb : some b = row ∨ w.heap.size ≤ b) : ∀ (vs : List Value) (o : Nat) (w' : World), w.grownBy w' row → w.grownBy (w'.setCells b o vs) row
  | [], _, _, h => h
  | v :: r, o, w', h => by
    rw [World.setCells]
    exact grown_setCells hb r (o + 1) _ (grown_set h (p := ⟨b, o, none⟩) hb v)
theorem range_of_row {w : World} {b : Nat} {X : List UInt8} {t : TypeId} {fr : Nat × Nat} (h : w.heap[b]? = some (.cells (X.map bv).toArray t fr)) : w.rangeAt b 0 (X.map bv) := fun j v hv => by
  rw [cell_of_row w b (0 + j) _ t fr h, Nat.zero_add]
  simpa using hv
theorem info_hash (X : List UInt8) (h : X.length = 32) : (Tryd.prog.info? 23).map (·.size) = some (X.map bv).length := by rw [List.length_map, h]; exact size_hash
theorem there_of {w : World} {b o n : Nat} {C : Array Value} {t : TypeId} (h : w.heap[b]? = some (.cells C t (0, 0))) (hn : o + n ≤ C.size) : w.there b o n := fun j hj => by
  rw [cell_of_row w b (o + j) C t (0, 0) h]
  exact ⟨by rw [Array.getElem?_eq_getElem (by omega)]; rfl, frozen_of_row _ _ _ _ _ h⟩
theorem other_setCells {b g : Nat} (hne : g ≠ b) : ∀ (vs : List Value) (o : Nat) (w : World), (w.setCells b o vs).heap[g]? = w.heap[g]?
  | [], _, _ => rfl
  | v :: r, o, w => by
    rw [World.setCells, other_setCells hne r (o + 1)]
    exact Below.heap_setCell w ⟨b, o, none⟩ v g (by simpa using hne)

/-- A row's part of an array of rows. -/
theorem run_index_part {P : Program} (w : World) (t e f : TypeId) (n m sz i : Nat) (cs : Array Value) (ht : P.underlying t = some (.array n e)) (he : P.underlying e = some (.array m f)) (hs : (P.info? e).map (·.size) = some sz) (hi : i < n) :
    (Instr.index t (.agg cs) (.int .i64 (i : Int))).run P w = .ok (.agg (cs.extract (i * sz) (i * sz + sz))) w := by
  obtain ⟨ii, hq, hsz⟩ := Option.map_eq_some_iff.1 hs
  have hagg : (isAgg e).run P w = .ok true w := by
    unfold isAgg
    rw [Sem.run_bind, run_underlying he w]
    simp
  have h1 : (0 : Int) ≤ (i : Int) ∧ (i : Int) < (n : Int) := ⟨by omega, by omega⟩
  simp [Instr.index, asIntOf, Sem.run_bind, run_underlying ht w, part, hagg, sizeOf, typeInfo, hq, hsz, h1]
  intro h; omega
theorem bytes_part (L : List UInt8) (a n : Nat) : (L.map bv).toArray.extract a (a + n) = (((L.drop a).take n).map bv).toArray := by
  simp [List.map_take, List.map_drop]

theorem size_pair : (Tryd.prog.info? 57).map (·.size) = some 64 := by kernel_rfl
theorem size_publics : (Tryd.prog.info? 59).map (·.size) = some 2048 := by kernel_rfl
theorem index_pair (L : List UInt8) (k : Nat) (hk : k < 32) (w : World) : (Instr.index 59 (.agg (L.map bv).toArray) (.int .i64 (k : Int))).run Tryd.prog w = .ok (.agg (((L.drop (k * 64)).take 64).map bv).toArray) w := by
  rw [run_index_part (P := Tryd.prog) w _ _ _ _ _ _ k _ Tryd.underlying59 Tryd.underlying57 size_pair hk, bytes_part]
theorem index_hash (L : List UInt8) (k : Nat) (hk : k < 2) (w : World) : (Instr.index 57 (.agg (L.map bv).toArray) (.int .i64 (k : Int))).run Tryd.prog w = .ok (.agg (((L.drop (k * 32)).take 32).map bv).toArray) w := by
  rw [run_index_part (P := Tryd.prog) w _ _ _ _ _ _ k _ Tryd.underlying57 Tryd.underlying23 size_hash hk, bytes_part]
theorem make_row (w : World) : (Instr.makeSlice 30 (.int .i64 0) (.int .i64 2048)).run Tryd.prog w = .ok (.slice (some ⟨w.heap.size, 0, none⟩) 0 2048) (w.alloc (.cells (List.replicate 2048 (Value.int .u8 0)).toArray 5)) := by
  obtain ⟨i, hi, hz, hs, hb⟩ := info_parts info_u8
  have := run_make (P := Tryd.prog) w 30 5 i (.int .u8 0) Tryd.underlying30 hi hz .i64 .i64 0 2048 (by omega) (by omega) (by rw [hb]; decide) (by omega)
  rw [hs, show (2048 : Int).toNat = 2048 from rfl, made_bytes] at this
  exact this
theorem load_pair (w : World) (g : Nat) (x : List UInt8) (t : TypeId) (fr : Nat × Nat) (hx : x.length = 64) (hg : w.heap[g]? = some (.cells (x.map bv).toArray t fr)) :
    (Instr.loadAt 57 (.pointer (some ⟨g, 0, none⟩))).run Tryd.prog w = .ok (.agg (x.map bv).toArray) w := by
  have h := run_loadVar_row (P := Tryd.prog) w g t 57 (x.map bv).toArray fr _ hg Tryd.underlying57 rfl (by rw [List.size_toArray, List.length_map, hx]; exact size_pair)
  simp only [Instr.loadAt, Instr.sureAddr, Sem.run_bind, Sem.run_pure, Result.andThen_ok, h]

set_option maxRecDepth 100000 in
set_option maxHeartbeats 2000000 in
theorem keyOf_any (L : List UInt8) (hL : L.length = 2048) (w : World) (hk : Laid2 w) :
    Calls Tryd.prog 38 #[.agg (L.map bv).toArray] w fun e w' => e = .returned (.agg ((tagL 107 L).map bv).toArray) ∧ w.grownBy w' none := by
  have hsz : Hid ((Tryd.prog.info? 59).map (·.size) = some (L.map bv).toArray.size) := by show _ = _; rw [List.size_toArray, List.length_map, hL]; exact size_publics
  have HL := Lib.hid hL
  clear hL
  obtain ⟨C, hC⟩ : ∃ C, C = (List.replicate 2048 (Value.int .u8 0)) := ⟨_, rfl⟩
  have hmk := fun w' => make_row w'
  rw [← hC] at hmk
  have HC := Lib.hid hC
  clear hC
  go_enter Tryd.func38, Tryd.ntmps38
  go_wp2_with (refine wpList_load_row rfl 59 _ rfl w.heap.size rfl _ (L.map bv).toArray (0, 0) _ (alloc_old (alloc_old (alloc_at rfl))) Tryd.underlying59 rfl hsz.out ?_)
  have hR : Hid (((w.alloc (.cells (L.map bv).toArray 59)).alloc (.cells (rowH []) 23)).heap[w.heap.size + 1]? = some (.cells (rowH []) 23 (0, 0))) := alloc_at (by simp)
  have hg : w.grownBy ((w.alloc (.cells (L.map bv).toArray 59)).alloc (.cells (rowH []) 23)) none := grown_alloc (grown_alloc (grown_refl _ _) _) _
  have hs1 : ((w.alloc (.cells (L.map bv).toArray 59)).alloc (.cells (rowH []) 23)).heap.size = w.heap.size + 1 + 1 := by simp
  change Code.wp _ _ _ _ (((w.alloc (.cells (L.map bv).toArray 59)).alloc (.cells (rowH []) 23)).alloc (.cells C.toArray 5))
  generalize (w.alloc (.cells (L.map bv).toArray 59)).alloc (.cells (rowH []) 23) = w1 at hR hg hs1 ⊢
  have ho : OwnB (w1.alloc (.cells C.toArray 5)) (.slice (some ⟨w.heap.size + 1 + 1, 0, none⟩) 0 2048) (L.take (0 * 64)) := by
    rw [← hs1]
    exact ownB_of (heap_alloc_new _ _) (by simp) (by simp) (by rw [HC.out]; simp) (by omega) (by unfold maxLen; omega)
  have hgr : Grew w1 (w1.alloc (.cells C.toArray 5)) (.slice none 0 0) (.slice (some ⟨w.heap.size + 1 + 1, 0, none⟩) 0 2048) :=
    ⟨grown_alloc (grown_refl _ _) _, .inr ⟨_, rfl, by rw [hs1]; exact Nat.le_refl _⟩⟩
  clear hs1 hmk
  generalize w1.alloc (.cells C.toArray 5) = w2 at ho hgr ⊢
  go_loopw [3, 10] (fun x i wz => ∃ k : Nat, k ≤ 32 ∧ i = .int .i64 k ∧ OwnB wz x (L.take (k * 64)) ∧ Grew w1 wz (.slice none 0 0) x) (fun _ i _ => 32 - (intOf i).toNat)
  case atStart => exact ⟨0, by omega, rfl, ho, hgr⟩
  case round =>
    clear ho hgr
    obtain ⟨k, hkl, rfl, ho, hgr⟩ := hrel
    by_cases hlt : k < 32
    · have hlt' : (k : Int) < 32 := by omega
      have hix := fun w' => index_pair L k hlt w'
      obtain ⟨l, hl⟩ : ∃ l, l = (L.drop (k * 64)).take 64 := ⟨_, rfl⟩
      rw [← hl] at hix
      have hll : Hid (l.length = 64) := by show _ = _; rw [hl, List.length_take, List.length_drop, HL.out]; omega
      have hlc : Hid (∀ v, v ≤ 64 → L.take (k * 64 + v) = L.take (k * 64) ++ l.take v) := fun v hv => by
        rw [hl, List.take_take, Nat.min_eq_left hv, List.take_add]
      clear hl
      go_wp2_with (first
        | (refine wpList_store_row rfl 57 _ _ rfl (wr.heap.size) (l.map bv).toArray rfl rfl 57 _ (alloc_at rfl) (by rw [List.size_toArray, List.length_map, hll.out]; exact size_pair) (by rw [show (l.map bv).toArray.size = 64 from by rw [List.size_toArray, List.length_map, hll.out]]; rfl) (bv_all' _) ?_; generalize hw3 : World.setRow _ _ _ = w3; have HW3 := new_hash hw3; clear hw3)
        | (refine wpList_load_row rfl 57 _ rfl wr.heap.size rfl _ (l.map bv).toArray (0, 0) _ HW3.1 Tryd.underlying57 rfl (by rw [List.size_toArray, List.length_map, hll.out]; exact size_pair) ?_))
      have hgn := hgr.nil
      have ho3 : OwnB w3 u3 (L.take (k * 64) ++ l.take (0 * 32)) := by simpa using ho.kept HW3.2
      have hgr3 : Grew w1 w3 (.slice none 0 0) u3 := hgr.post HW3.2
      clear ho hgr HW3
      go_loopw [3, 14] (fun x i wz => ∃ v : Nat, v ≤ 2 ∧ i = .int .i64 v ∧ OwnB wz x (L.take (k * 64) ++ l.take (v * 32)) ∧ Grew w1 wz (.slice none 0 0) x) (fun _ i _ => 2 - (intOf i).toNat)
      case atStart => exact ⟨0, by omega, rfl, ho3, hgr3⟩
      case round =>
        clear ho3 hgr3
        obtain ⟨v, hvl, rfl, ho, hgr⟩ := hrel
        by_cases hv2 : v < 2
        · have hv2' : (v : Int) < 2 := by omega
          have hiy := fun w' => index_hash l v hv2 w'
          obtain ⟨y, hy⟩ : ∃ y, y = (l.drop (v * 32)).take 32 := ⟨_, rfl⟩
          rw [← hy] at hiy
          have hyl : Hid (y.length = 32) := by show _ = _; rw [hy, List.length_take, List.length_drop, hll.out]; omega
          have hyc : Hid (l.take ((v + 1) * 32) = l.take (v * 32) ++ y) := by show _ = _; rw [hy, Nat.add_mul, Nat.one_mul, List.take_add]
          have hb : Hid ((L.take (k * 64) ++ l.take (v * 32)).length + y.length ≤ 140737488355328) := by
            show _ ≤ _
            rw [List.length_append, List.length_take, List.length_take, HL.out, hll.out, hyl.out]; omega
          clear hy
          go_wp2_with (first
            | (refine wpList_store_row rfl 23 _ _ rfl (wr.heap.size) (y.map bv).toArray rfl rfl 23 _ (alloc_at rfl) (hashV_size y hyl.out) (by rw [show (y.map bv).toArray.size = 32 from by rw [List.size_toArray, List.length_map, hyl.out]]; rfl) (bv_all' _) ?_; generalize hw4 : World.setRow _ _ _ = w4; have HW4 := new_hash hw4; clear hw4; have ho4 := ho.kept HW4.2; have hry := rd_row HW4.1)
            | (at_builtin; refine wpList_appB (v := u3) _ rfl _ _ rfl rfl ho4 (news := y) rfl hyl.out.symm hry hb.out ?_; intro v6 w6 ho6 hgr6))
          go_roundw
          case rel =>
            refine ⟨v + 1, by omega, by go_num, ?_, (hgr.post HW4.2).trans hgr6⟩
            rw [hyc.out, ← List.append_assoc]
            exact ho6
          case measure => simp [intOf]; omega
        · have hvv : v = 2 := by omega
          subst hvv
          rw [show ((2 : Nat) : Int) = 2 from rfl]
          go_wp2
          go_roundw
          case rel =>
            refine ⟨k + 1, by omega, by go_num, ?_, hgr⟩
            rw [Nat.add_mul, hlc.out (1 * 64) (by omega)]
            exact ho
          case measure => simp [intOf]; omega
    · have hkk : k = 32 := by omega
      subst hkk
      rw [List.take_of_length_le (by rw [HL.out]; omega)] at ho
      obtain ⟨A5, c5, rfl, hc5, hm5, hr5⟩ := ho.slice
      have hgn := hgr.nil
      have htag := fun A w' (h1 : Laid2 w') (h3 : RdP w' A [(A5, L, c5)]) => Tagged_any 107 A [(A5, L, c5)] 1 w' h1.1 h1.2 h3 (by simp [catP, HL.out]) (by simp)
      obtain ⟨X, hX⟩ : ∃ X, X = tagL 107 (catP [(A5, L, c5)]) := ⟨_, rfl⟩
      rw [← hX] at htag
      have HX : Hid (X = tagL 107 L) := by show _ = _; rw [hX]; simp [catP]
      have hXl : Hid (X.length = 32) := by rw [hX]; exact tagL_len _ _
      clear hX
      change ∀ A w', Laid2 w' → RdP w' A _ → Calls Tryd.prog 31 #[.int .u8 107, .slice A 1 1] w' _ at htag
      have hR2 := keep_of hR.out (grown_alloc hgn (.cells #[.slice A5 L.length c5] 30))
      have hgw := grown_same hg hgn
      go_wp2_with (first
        | (go_at_call 31; refine (htag _ _ (hk.kept (grown_alloc hgw _)) (rdP_kept1 (rd_row (cs := [_]) (alloc_at rfl)) (hr5.alloc _))).mono ?_; rintro e w6 ⟨rfl, hg6⟩)
        | (refine wpList_store_row rfl 23 _ _ rfl (w.heap.size + 1) (X.map bv).toArray rfl rfl 23 _ (keep_of hR2 hg6) (hashV_size X hXl.out) (by rw [rowH_size _ (by simp), List.size_toArray, List.length_map, hXl.out]) (bv_all' _) ?_))
      refine bodyPost_ret (results_cell_row rfl _ _ (w.heap.size + 1) 23 (X.map bv).toArray (0, 0) _ rfl (setRow_heap _ _ _ _ _ _ (keep_of hR2 hg6)) Tryd.underlying23 rfl (hashV_size X hXl.out)) rfl ?_
      exact ⟨by rw [HX.out], grown_setRow (grown_same (grown_alloc hgw _) hg6) (.inr (by omega)) _⟩
end Go.Proofs.YtohdifimfhdhoaaDoor

namespace Go.Proofs.YtohdifimfhdhoaaDoor
open Go.RowKit

theorem zero_publics (w : World) : (zeroValue 59).run Tryd.prog w = .ok (.agg (List.replicate 2048 (Value.int .u8 0)).toArray) w := by kernel_rfl
/-- A row of 2048 bytes, the first of them written. -/
def rowP (l : List UInt8) : Array Value := (l.map bv ++ List.replicate (2048 - l.length) (Value.int .u8 0)).toArray
theorem rowP_size (l : List UInt8) (h : l.length ≤ 2048) : (rowP l).size = 2048 := by simp [rowP]; omega
theorem rowP_full {l : List UInt8} (h : l.length = 2048) : rowP l = (l.map bv).toArray := by simp [rowP, h]
theorem rowP_put {w : World} {b n : Nat} {t : TypeId} {l x : List UInt8} (h : w.heap[b]? = some (.cells (rowP l) t (0, 0))) (hn : l.length = n) (hl : n + x.length ≤ 2048) : (w.setCells b n (x.map bv)).heap[b]? = some (.cells (rowP (l ++ x)) t (0, 0)) := by
  subst hn
  have := heap_setCells (b := b) (t := t) (x.map bv) (l.map bv) (List.replicate x.length (Value.int .u8 0)) (List.replicate (2048 - (l ++ x).length) (Value.int .u8 0)) w (by simp) (by
    rw [h]
    unfold rowP
    rw [List.replicate_append_replicate, List.length_append, show x.length + (2048 - (l.length + x.length)) = 2048 - l.length from by omega])
  rw [List.length_map] at this
  rw [this]
  unfold rowP
  simp
def pubF (s : List UInt8) (n : Nat) : List UInt8 := ((List.range n).flatMap fun i => [pubL s i 0, pubL s i 1]).flatten
theorem pubF_next (s : List UInt8) (n : Nat) : pubF s (n + 1) = pubF s n ++ pubL s n 0 ++ pubL s n 1 := by
  unfold pubF
  rw [List.range_succ, List.flatMap_append, List.flatten_append]
  simp
theorem pubL_len (s : List UInt8) (i v : Nat) : (pubL s i v).length = 32 := tagL_len _ _
theorem pubF_len (s : List UInt8) : ∀ n, (pubF s n).length = n * 64
  | 0 => rfl
  | n + 1 => by rw [pubF_next, List.length_append, List.length_append, pubL_len, pubL_len, pubF_len s n]; omega
theorem keyL_pubF (s : List UInt8) : keyL s = tagL 107 (pubF s 32) := by unfold keyL keyOf; exact congrArg (tagL 107) (show (pubs s).flatten = pubF s 32 by unfold pubs pubF; exact congrArg List.flatten (Eq.refl _))
/-- The two parts of a bit, as far as they are written. -/
def pairP (f : Nat → List UInt8) (v : Nat) : List UInt8 := if v = 0 then [] else if v = 1 then f 0 else f 0 ++ f 1
theorem pairP_len (f : Nat → List UInt8) (hf : ∀ v, (f v).length = 32) (v : Nat) (h : v ≤ 2) : (pairP f v).length = v * 32 := by
  unfold pairP
  split
  · subst v; rfl
  · split
    · subst v; rw [hf]
    · rw [List.length_append, hf, hf]; omega
theorem pairP_next (f : Nat → List UInt8) (v : Nat) (h : v < 2) : pairP f (v + 1) = pairP f v ++ f v := by
  unfold pairP
  rcases (show v = 0 ∨ v = 1 by omega) with e | e <;> subst e <;> simp
theorem pairP_0 (f : Nat → List UInt8) : pairP f 0 = [] := rfl
theorem pairP_2 (f : Nat → List UInt8) : pairP f 2 = f 0 ++ f 1 := rfl

set_option maxRecDepth 100000 in
set_option maxHeartbeats 2000000 in
theorem Key_any (s : List UInt8) (h32 : s.length = 32) (w : World) (hk : Laid2 w) :
    Calls Tryd.prog 19 #[.agg (s.map bv).toArray] w fun e w' => e = .returned (.agg ((keyL s).map bv).toArray) ∧ w.grownBy w' none := by
  have hsec := fun i v (hi : i < 256) (hv : v < 256) w' (h : Laid2 w') => secret_any s h32 i v hi hv w' h
  have HL := Lib.hid h32
  clear h32
  obtain ⟨C, hC⟩ : ∃ C, C = (List.replicate 2048 (Value.int .u8 0)) := ⟨_, rfl⟩
  have hz := fun w' => zero_publics w'
  rw [← hC] at hz
  have HC := Lib.hid hC
  clear hC
  go_enter Tryd.func19, Tryd.ntmps19
  go_wp2
  have h0 : (w.alloc (.cells (s.map bv).toArray 23)).heap[w.heap.size]? = some (.cells (s.map bv).toArray 23 (0, 0)) := alloc_at rfl
  have hR : Hid (((w.alloc (.cells (s.map bv).toArray 23)).alloc (.cells (rowH []) 23)).heap[w.heap.size + 1]? = some (.cells (rowH []) 23 (0, 0))) := alloc_at (by simp)
  have hS : Hid (((w.alloc (.cells (s.map bv).toArray 23)).alloc (.cells (rowH []) 23)).heap[w.heap.size]? = some (.cells (s.map bv).toArray 23 (0, 0))) := alloc_old h0
  have hg : w.grownBy ((w.alloc (.cells (s.map bv).toArray 23)).alloc (.cells (rowH []) 23)) none := grown_alloc (grown_alloc (grown_refl _ _) _) _
  have hs1 : ((w.alloc (.cells (s.map bv).toArray 23)).alloc (.cells (rowH []) 23)).heap.size = w.heap.size + 1 + 1 := by simp
  change Code.wp _ _ _ _ (((w.alloc (.cells (s.map bv).toArray 23)).alloc (.cells (rowH []) 23)).alloc (.cells C.toArray 59))
  clear h0
  generalize (w.alloc (.cells (s.map bv).toArray 23)).alloc (.cells (rowH []) 23) = w1 at hR hS hg hs1 ⊢
  have hP : Hid ((w1.alloc (.cells C.toArray 59)).heap[w.heap.size + 1 + 1]? = some (.cells (rowP (pubF s 0)) 59 (0, 0))) := by
    show _ = _
    rw [HC.out]
    exact alloc_at hs1.symm
  have hg2 : w1.grownBy (w1.alloc (.cells C.toArray 59)) none := grown_alloc (grown_refl _ _) _
  have HS1 := Lib.hid hs1
  clear hs1 hz
  generalize w1.alloc (.cells C.toArray 59) = w2 at hP hg2 ⊢
  go_loopw [6] (fun i wz => ∃ k : Nat, k ≤ 32 ∧ i = .int .i64 k ∧ Hid (wz.heap[w.heap.size + 1 + 1]? = some (.cells (rowP (pubF s k)) 59 (0, 0))) ∧ w1.grownBy wz none) (fun i _ => 32 - (intOf i).toNat)
  case atStart => exact ⟨0, by omega, rfl, hP, hg2⟩
  case round =>
    clear hP hg2
    obtain ⟨k, hkl, rfl, hP, hg2⟩ := hrel
    by_cases hlt : k < 32
    · have hlt' : (k : Int) < 32 := by omega
      go_wp2
      replace hP : Hid (wr.heap[w.heap.size + 1 + 1]? = some (.cells (rowP (pubF s k ++ pairP (pubL s k) 0)) 59 (0, 0))) := by
        show _ = _
        rw [pairP_0, List.append_nil]; exact hP.out
      go_loopw [9] (fun i wz => ∃ v : Nat, v ≤ 2 ∧ i = .int .i64 v ∧ Hid (wz.heap[w.heap.size + 1 + 1]? = some (.cells (rowP (pubF s k ++ pairP (pubL s k) v)) 59 (0, 0))) ∧ w1.grownBy wz none) (fun i _ => 2 - (intOf i).toNat)
      case atStart => exact ⟨0, by omega, rfl, hP, hg2⟩
      case round =>
        clear hP hg2
        obtain ⟨v, hvl, rfl, hP, hg2⟩ := hrel
        by_cases hv2 : v < 2
        · have hv2' : (v : Int) < 2 := by omega
          go_wp2_with fail
          have hgw := grown_same hg hg2
          have hkr := hk.kept (grown_drew hgw)
          have hu := Tryd.underlying23
          have hi1 := info_hash s HL.out
          have hsec1 := fun w' h => hsec k v (by omega) (by omega) w' h
          obtain ⟨Y, hY⟩ : ∃ Y, Y = secretL s k v := ⟨_, rfl⟩
          have hpub := fun w' h => public_any Y (by rw [hY]; exact tagL_len _ _) w' h
          obtain ⟨X, hX⟩ : ∃ X, X = publicL Y := ⟨_, rfl⟩
          rw [← hY] at hsec1
          rw [← hX] at hpub
          have hXl : Hid (X.length = 32) := by rw [hX]; exact tagL_len _ _
          have HX : Hid (pairP (pubL s k) (v + 1) = pairP (pubL s k) v ++ X) := by show _ = _; rw [pairP_next _ v hv2, hX, hY]; rfl
          clear hX hY
          have hi2 := info_hash X hXl.out
          have hn2 : (X.map bv).length = 32 := by rw [List.length_map, hXl.out]
          have ho2 : ∀ u ∈ X.map bv, u.oneCell' = true := bv_one _
          have hra : ∀ w', w1.grownBy w' none → w'.rangeAt w.heap.size 0 (s.map bv) := fun w' h => range_of_row (keep_of hS.out h)
          have hth : ∀ (w' : World) (C : Array Value), w'.heap[w.heap.size + 1 + 1]? = some (.cells C 59 (0, 0)) → C.size = 2048 → w'.there (w.heap.size + 1 + 1) (k * 64 + v * 32) 32 := fun w' C h hC => there_of h (by omega)
          have hrow2 : (rowP (pubF s k ++ pairP (pubL s k) v)).size = 2048 := rowP_size _ (by rw [List.length_append, pubF_len, pairP_len _ (pubL_len s k) _ hvl]; omega)
          go_region_held3 (fun w' => wr.grownBy w' (some (w.heap.size + 1 + 1)) ∧ w'.rangeAt w.heap.size 0 (s.map bv) ∧ w'.there (w.heap.size + 1 + 1) (k * 64 + v * 32) 32)
            (first
              | exact ⟨grown_drew (grown_refl _ _), hra _ (grown_drew hg2), hth _ _ hP.out hrow2⟩
              | exact ⟨grown_any hG6 _, hra _ (grown_same hg2 hG6), hth _ _ (keep_of hP.out hG6) hrow2⟩
              | exact ⟨grown_any hG7 _, hra _ (grown_same hg2 hG7), hth _ _ (keep_of hP.out hG7) hrow2⟩
              | exact ⟨grown_setCells (.inl rfl) _ _ _ (grown_any hG7 _), World.rangeAt_setCells_apart (hra _ (grown_same hg2 hG7)) _ _ _ (.inl (by omega)), World.there_setCells (hth _ _ (keep_of hP.out hG7) hrow2) _ _ _⟩)
            ((first
              | (go_simp; go_at_call 39; refine (hsec1 _ hkr).mono ?_; rintro e w6 ⟨rfl, hg6⟩; have hG6 : wr.grownBy w6 none := grown_same (grown_drew (grown_refl _ _)) hg6)
              | (go_simp; go_at_call 37; refine (hpub _ (hkr.kept hg6)).mono ?_; rintro e w7 ⟨rfl, hg7⟩; have hG7 : wr.grownBy w7 none := grown_same hG6 hg7)))
          have hP8 := rowP_put (keep_of hP.out hG7) (n := k * 64 + v * 32) (x := X) (by rw [List.length_append, pubF_len, pairP_len _ (pubL_len s k) _ hvl]) (by rw [hXl.out]; omega)
          have hG8 : w1.grownBy (w7.setCells (w.heap.size + 1 + 1) (k * 64 + v * 32) (X.map bv)) none := grown_setCells (.inr (Nat.le_of_eq HS1.out)) _ _ _ (grown_same hg2 hG7)
          generalize w7.setCells (w.heap.size + 1 + 1) (k * 64 + v * 32) (X.map bv) = w8 at hP8 hG8 ⊢
          clear hu hi1 hi2 hn2 ho2 hra hth hrow2 hsec1 hpub
          go_wp2
          go_roundw
          case rel =>
            refine ⟨v + 1, by omega, by go_num, ?_, hG8⟩
            show _ = _
            rw [HX.out, ← List.append_assoc]
            exact hP8
          case measure => simp [intOf]; omega
        · have hvv : v = 2 := by omega
          subst hvv
          rw [show ((2 : Nat) : Int) = 2 from rfl]
          go_wp2
          go_roundw
          case rel =>
            refine ⟨k + 1, by omega, by go_num, ?_, hg2⟩
            rw [pubF_next, List.append_assoc, ← pairP_2]
            exact hP
          case measure => simp [intOf]; omega
    · have hkk : k = 32 := by omega
      subst hkk
      rw [show ((32 : Nat) : Int) = 32 from rfl]
      obtain ⟨L, hL⟩ : ∃ L, L = pubF s 32 := ⟨_, rfl⟩
      have hLl : L.length = 2048 := by rw [hL, pubF_len]
      rw [← hL, rowP_full hLl] at hP
      have hkey := keyOf_any L hLl wr (hk.kept (grown_same hg hg2))
      obtain ⟨X, hX⟩ : ∃ X, X = tagL 107 L := ⟨_, rfl⟩
      rw [← hX] at hkey
      have HX : Hid (X = keyL s) := by show _ = _; rw [hX, hL, keyL_pubF]
      have hXl : Hid (X.length = 32) := by rw [hX]; exact tagL_len _ _
      have hsz : Hid ((Tryd.prog.info? 59).map (·.size) = some (L.map bv).toArray.size) := by show _ = _; rw [List.size_toArray, List.length_map, hLl]; exact size_publics
      have hR2 := keep_of hR.out hg2
      have hgw := grown_same hg hg2
      clear hX hL hLl
      go_wp2_with (first
        | (refine wpList_load_row rfl 59 _ rfl (w.heap.size + 1 + 1) rfl _ (L.map bv).toArray (0, 0) _ hP.out Tryd.underlying59 rfl hsz.out ?_)
        | (go_at_call 38; refine hkey.mono ?_; rintro e w6 ⟨rfl, hg6⟩)
        | (refine wpList_store_row rfl 23 _ _ rfl (w.heap.size + 1) (X.map bv).toArray rfl rfl 23 _ (keep_of hR2 hg6) (hashV_size X hXl.out) (by rw [rowH_size _ (by simp), List.size_toArray, List.length_map, hXl.out]) (bv_all' _) ?_))
      refine bodyPost_ret (results_cell_row rfl _ _ (w.heap.size + 1) 23 (X.map bv).toArray (0, 0) _ rfl (setRow_heap _ _ _ _ _ _ (keep_of hR2 hg6)) Tryd.underlying23 rfl (hashV_size X hXl.out)) rfl ?_
      exact ⟨by rw [HX.out], grown_setRow (grown_same hgw hg6) (.inr (by omega)) _⟩
end Go.Proofs.YtohdifimfhdhoaaDoor

namespace Go.Proofs.YtohdifimfhdhoaaDoor
open Go.RowKit

/-- A row of n bytes, the first of them written. -/
def rowN (n : Nat) (l : List UInt8) : Array Value := (l.map bv ++ List.replicate (n - l.length) (Value.int .u8 0)).toArray
theorem rowN_size (n : Nat) (l : List UInt8) (h : l.length ≤ n) : (rowN n l).size = n := by simp [rowN]; omega
theorem rowN_full {n : Nat} {l : List UInt8} (h : l.length = n) : rowN n l = (l.map bv).toArray := by simp [rowN, h]
theorem rowN_put {w : World} {b n m : Nat} {t : TypeId} {l x : List UInt8} (h : w.heap[b]? = some (.cells (rowN m l) t (0, 0))) (hn : l.length = n) (hl : n + x.length ≤ m) : (w.setCells b n (x.map bv)).heap[b]? = some (.cells (rowN m (l ++ x)) t (0, 0)) := by
  subst hn
  have := heap_setCells (b := b) (t := t) (x.map bv) (l.map bv) (List.replicate x.length (Value.int .u8 0)) (List.replicate (m - (l ++ x).length) (Value.int .u8 0)) w (by simp) (by
    rw [h]
    unfold rowN
    rw [List.replicate_append_replicate, List.length_append, show x.length + (m - (l.length + x.length)) = m - l.length from by omega])
  rw [List.length_map] at this
  rw [this]
  unfold rowN
  simp
theorem other_block {w w' : World} {row : Option Nat} {g : Nat} {o : Obj} (h : w.heap[g]? = some o) (hg : w.grownBy w' row) (hne : some g ≠ row) : w'.heap[g]? = some o :=
  (hg.block _ (Array.getElem?_eq_some_iff.1 h).1 hne).trans h
theorem cell_of_cells {w : World} {g i : Nat} {C : Array Value} {t : TypeId} {fr : Nat × Nat} {v : Value} (h : w.heap[g]? = some (.cells C t fr)) (hv : C[i]? = some v) : w.cell? ⟨g, i, none⟩ = some v := by
  rw [cell_of_row w _ _ _ _ _ h]; exact hv

def partsF (f : Nat → List UInt8) (n : Nat) : List UInt8 := ((List.range n).map f).flatten
theorem partsF_next (f : Nat → List UInt8) (n : Nat) : partsF f (n + 1) = partsF f n ++ f n := by
  unfold partsF
  rw [List.range_succ, List.map_append, List.flatten_append]
  simp
theorem partsF_len (f : Nat → List UInt8) (hf : ∀ i, (f i).length = 32) : ∀ n, (partsF f n).length = n * 32
  | 0 => rfl
  | n + 1 => by rw [partsF_next, List.length_append, hf, partsF_len f hf n]; omega
def openF (s m : List UInt8) (i : Nat) : List UInt8 := secretL s i (bitL m i)
def shutF (s m : List UInt8) (i : Nat) : List UInt8 := pubL s i (1 - bitL m i)
theorem openF_len (s m : List UInt8) (i : Nat) : (openF s m i).length = 32 := tagL_len _ _
theorem shutF_len (s m : List UInt8) (i : Nat) : (shutF s m i).length = 32 := tagL_len _ _
theorem openL_flat (s m : List UInt8) : (openL s m).flatten = partsF (openF s m) 32 := by unfold openL partsF openF; exact Eq.refl _
theorem shutL_flat (s m : List UInt8) : (shutL s m).flatten = partsF (shutF s m) 32 := by unfold shutL partsF shutF; exact Eq.refl _

theorem size_one : (Tryd.prog.info? 26).map (·.size) = some 2 := by kernel_rfl
theorem info_hashrow : (Tryd.prog.info? 23).map (fun i => (i.zero, i.size, i.bytes)) = some (some (.agg (List.replicate 32 (Value.int .u8 0)).toArray), 32, 32) := by kernel_rfl
theorem made_hashes (n : Nat) : madeCells (Value.agg (List.replicate 32 (Value.int .u8 0)).toArray).cells n = (List.replicate n (Value.int .u8 0)).toArray := by
  have h : ∀ x, (List.replicate 32 (Value.int .u8 0)).toArray[x % (List.replicate 32 (Value.int .u8 0)).toArray.size]! = Value.int .u8 0 := fun x => by
    rw [List.size_toArray, List.length_replicate]
    have := Nat.mod_lt x (show 0 < 32 by omega)
    rw [getElem!_pos _ _ (by rw [List.size_toArray, List.length_replicate]; exact this), List.getElem_toArray, List.getElem_replicate]
  apply Array.ext'
  apply List.ext_getElem
  · rw [Array.length_toList, size_madeCells, List.length_replicate]
  · intro i h1 h2
    simp only [madeCells, Value.cells, h, Array.getElem_toList, Array.getElem_map, List.getElem_replicate]
theorem make_hashes (w : World) : (Instr.makeSlice 24 (.int .i64 32) (.int .i64 32)).run Tryd.prog w = .ok (.slice (some ⟨w.heap.size, 0, none⟩) 32 32) (w.alloc (.cells (rowN 1024 []) 23)) := by
  obtain ⟨i, hi, hz, hs, hb⟩ := info_parts info_hashrow
  have := run_make (P := Tryd.prog) w 24 23 i _ Tryd.underlying24 hi hz .i64 .i64 32 32 (by omega) (by omega) (by rw [hb]; decide) (by omega)
  rw [hs, show (32 : Int).toNat = 32 from rfl, show 32 * 32 = 1024 from rfl, made_hashes] at this
  exact this

/-- What stands while a signature is made: the seed's box, the result, the signature's struct, the digest. -/
structure SgH (w : World) (s D : List UInt8) (R S : Array Value) (b4 g5 g6 : Nat) (wz : World) : Prop where
  gr : w.grownBy wz none
  seed : wz.heap[w.heap.size]? = some (.cells (s.map bv).toArray 23 (0, 0))
  res : wz.heap[b4]? = some (.cells R 26 (0, 0))
  str : wz.heap[g5]? = some (.cells S 26 (0, 0))
  dig : wz.heap[g6]? = some (.cells (D.map bv).toArray 23 (0, 0))
theorem SgH.to {w : World} {s D : List UInt8} {R S : Array Value} {b4 g5 g6 : Nat} {wz wy : World} (h : SgH w s D R S b4 g5 g6 wz) {row : Option Nat} (hg : wz.grownBy wy row)
    (h0 : ∀ g, row = some g → w.heap.size ≤ g ∧ g ≠ w.heap.size ∧ g ≠ b4 ∧ g ≠ g5 ∧ g ≠ g6) : SgH w s D R S b4 g5 g6 wy := by
  have hne : ∀ x, (∀ g, row = some g → g ≠ x) → some x ≠ row := fun x hx e => hx x e.symm rfl
  exact ⟨grown_trans h.gr hg (.inr fun g e => (h0 g e).1), other_block h.seed hg (hne _ fun g e => (h0 g e).2.1), other_block h.res hg (hne _ fun g e => (h0 g e).2.2.1), other_block h.str hg (hne _ fun g e => (h0 g e).2.2.2.1), other_block h.dig hg (hne _ fun g e => (h0 g e).2.2.2.2)⟩
theorem SgH.set {w : World} {s D : List UInt8} {R S : Array Value} {b4 g5 g6 : Nat} {wz : World} (h : SgH w s D R S b4 g5 g6 wz) {b : Nat} (h0 : w.heap.size ≤ b ∧ b ≠ w.heap.size ∧ b ≠ b4 ∧ b ≠ g5 ∧ b ≠ g6) (o : Nat) (vs : List Value) : SgH w s D R S b4 g5 g6 (wz.setCells b o vs) :=
  h.to (grown_setCells (.inl rfl) vs o _ (grown_refl _ (some b))) fun g e => by cases e; exact h0
theorem SgH.kept {w : World} {s D : List UInt8} {R S : Array Value} {b4 g5 g6 : Nat} {wz wy : World} (h : SgH w s D R S b4 g5 g6 wz) (hg : wz.grownBy wy none) : SgH w s D R S b4 g5 g6 wy := h.to hg fun g e => by cases e
/-- What the regions that write a part look at. -/
theorem sg_look {w : World} {s D : List UInt8} {R S : Array Value} {b4 g5 g6 : Nat} {wz : World} (h : SgH w s D R S b4 g5 g6 wz) {i : Nat} {v : Value} (hv : S[i]? = some v) {b o n : Nat} (ht : wz.there b o n) :
    wz.cell? ⟨g5, i, none⟩ = some v ∧ wz.rangeAt w.heap.size 0 (s.map bv) ∧ wz.there b o n := ⟨cell_of_cells h.str hv, range_of_row h.seed, ht⟩
theorem lt_of_heap {w : World} {g : Nat} {o : Obj} (h : w.heap[g]? = some o) : g < w.heap.size := (Array.getElem?_eq_some_iff.1 h).1

set_option maxRecDepth 100000 in
set_option maxHeartbeats 2000000 in
theorem Sign_any (s : List UInt8) (h32 : s.length = 32) (A : Option Addr) (m : List UInt8) (c : Nat) (w : World) (hk : Laid2 w) (hr : RdB w A m) (hb : m.length ≤ 1000) :
    Calls Tryd.prog 24 #[.agg (s.map bv).toArray, .slice A m.length c] w fun e w' => ∃ g1 c1 g2 c2 : Nat, e = .returned (.agg #[.slice (some ⟨g1, 0, none⟩) 32 c1, .slice (some ⟨g2, 0, none⟩) 32 c2]) ∧ 32 ≤ c1 ∧ c1 ≤ maxLen ∧ 32 ≤ c2 ∧ c2 ≤ maxLen ∧ RdB w' (some ⟨g1, 0, none⟩) (partsF (openF s m) 32) ∧ RdB w' (some ⟨g2, 0, none⟩) (partsF (shutF s m) 32) ∧ w.grownBy w' none ∧ w.heap.size ≤ g1 ∧ w.heap.size ≤ g2 := by
  have hsec := fun i v (hi : i < 256) (hv : v < 256) w' (h : Laid2 w') => secret_any s h32 i v hi hv w' h
  have HL := Lib.hid h32
  clear h32
  have hmk := fun w' => make_hashes w'
  obtain ⟨C, hC⟩ : ∃ C, C = rowN 1024 [] := ⟨_, rfl⟩
  rw [← hC] at hmk
  have HC := Lib.hid hC
  clear hC
  go_enter Tryd.func24, Tryd.ntmps24
  go_upto_region 1 with (fail)
  have hseed0 : Hid (((w.alloc (.cells (s.map bv).toArray 23)).alloc (.cells #[.slice none 0 0, .slice none 0 0] 26)).heap[w.heap.size]? = some (.cells (s.map bv).toArray 23 (0, 0))) := alloc_old (alloc_at rfl)
  have hres0 : Hid (((w.alloc (.cells (s.map bv).toArray 23)).alloc (.cells #[.slice none 0 0, .slice none 0 0] 26)).heap[w.heap.size + 1]? = some (.cells #[.slice none 0 0, .slice none 0 0] 26 (0, 0))) := alloc_at (by simp)
  change Code.wp _ _ _ _ ((w.alloc (.cells (s.map bv).toArray 23)).alloc (.cells #[.slice none 0 0, .slice none 0 0] 26))
  have hg : w.grownBy ((w.alloc (.cells (s.map bv).toArray 23)).alloc (.cells #[.slice none 0 0, .slice none 0 0] 26)) none := grown_alloc (grown_alloc (grown_refl _ _) _) _
  have hs1 : Hid (((w.alloc (.cells (s.map bv).toArray 23)).alloc (.cells #[.slice none 0 0, .slice none 0 0] 26)).heap.size = w.heap.size + 1 + 1) := by show _ = _; simp
  generalize (w.alloc (.cells (s.map bv).toArray 23)).alloc (.cells #[.slice none 0 0, .slice none 0 0] 26) = w1 at hseed0 hres0 hg hs1 ⊢
  go_cut [5, 9, 10, 11] (fun a b c _ w' => ∃ g1 g2 g5 : Nat, a = .pointer (some ⟨g5, 0, none⟩) ∧ b = .slice (some ⟨g1, 0, none⟩) 32 32 ∧ c = .slice (some ⟨g2, 0, none⟩) 32 32 ∧ Hid (w'.heap[g1]? = some (.cells C 23 (0, 0))) ∧ Hid (w'.heap[g2]? = some (.cells C 23 (0, 0)))
    ∧ Hid (w'.heap[g5]? = some (.cells #[.slice (some ⟨g1, 0, none⟩) 32 32, .slice (some ⟨g2, 0, none⟩) 32 32] 26 (0, 0))) ∧ Hid (g1 ≠ g2 ∧ g1 ≠ g5 ∧ g2 ≠ g5 ∧ w1.heap.size ≤ g1 ∧ w1.heap.size ≤ g2 ∧ w1.heap.size ≤ g5) ∧ w1.grownBy w' none)
  case first =>
    go_region
    all_goals
      (go_wp2
       go_meet
       case rel =>
         refine ⟨_, _, _, rfl, rfl, rfl, ?h1, ?h2, ?h3, ?h4, ?h5⟩
         case h3 => first | (refine alloc_at ?_; simp; done) | (refine alloc_old (alloc_at ?_); simp; done) | (refine alloc_old (alloc_old (alloc_at ?_)); simp; done)
         case h1 => first | (refine alloc_at ?_; simp; done) | (refine alloc_old (alloc_at ?_); simp; done) | (refine alloc_old (alloc_old (alloc_at ?_)); simp; done)
         case h2 => first | (refine alloc_at ?_; simp; done) | (refine alloc_old (alloc_at ?_); simp; done) | (refine alloc_old (alloc_old (alloc_at ?_)); simp; done)
         case h4 => show _ ∧ _; omega
         case h5 => exact grown_drew (grown_alloc (grown_alloc (grown_alloc (grown_refl _ _) _) _) _))
  case rest =>
    clear hmk
    obtain ⟨g1, g2, g5, rfl, rfl, rfl, hC1, hC2, hG5, hne, hgc⟩ := hcut
    have hd := digest_any A m c wc (hk.kept (grown_same hg hgc)) (hr.kept (grown_same hg hgc)) hb
    have hbit0 := fun k (h : k < 256) w' => bit_any (tagL 109 m) (tagL_len _ _) k h w'
    obtain ⟨X, hX⟩ : ∃ X, X = tagL 109 m := ⟨_, rfl⟩
    rw [← hX] at hd hbit0
    have hXl : Hid (X.length = 32) := by rw [hX]; exact tagL_len _ _
    have hbl : ∀ k, (X.getD (k / 8) 0).toNat / 2 ^ (7 - k % 8) % 2 = bitL m k := fun k => by rw [hX]; rfl
    simp only [hbl] at hbit0
    clear hX hbl
    go_wp2_with (first
      | (go_at_call 35; refine hd.mono ?_; rintro e w6 ⟨rfl, hg6⟩)
      | (refine wpList_store_row rfl 23 _ _ rfl (w6.heap.size) (X.map bv).toArray rfl rfl 23 _ (alloc_at rfl) (hashV_size X hXl.out) (by rw [show (X.map bv).toArray.size = 32 from by rw [List.size_toArray, List.length_map, hXl.out]]; rfl) (bv_all' _) ?_; generalize hw3 : World.setRow _ _ _ = w3; have HW3 := new_hash hw3; clear hw3))
    have hg36 : wc.grownBy w3 none := grown_same hg6 HW3.2
    have l1 := lt_of_heap hC1.out
    have l2 := lt_of_heap hC2.out
    have l5 := lt_of_heap hG5.out
    have l6 := hg6.size
    obtain ⟨S, hS⟩ : ∃ S : Array Value, S = #[.slice (some ⟨g1, 0, none⟩) 32 32, .slice (some ⟨g2, 0, none⟩) 32 32] := ⟨_, rfl⟩
    rw [← hS] at hG5
    have hS0 : S[0]? = some (.slice (some ⟨g1, 0, none⟩) 32 32) := by rw [hS]; rfl
    have hS1 : S[1]? = some (.slice (some ⟨g2, 0, none⟩) 32 32) := by rw [hS]; rfl
    have HS := Lib.hid hS
    have hsg : SgH w s X #[.slice none 0 0, .slice none 0 0] S (w.heap.size + 1) g5 w6.heap.size w3 :=
      ⟨grown_same hg (grown_same hgc hg36), keep_of (keep_of hseed0.out hgc) hg36, keep_of (keep_of hres0.out hgc) hg36, keep_of hG5.out hg36, HW3.1⟩
    have hr1 : Hid (w3.heap[g1]? = some (.cells (rowN 1024 (partsF (openF s m) 0)) 23 (0, 0))) := by show _ = _; rw [show partsF (openF s m) 0 = [] from rfl, ← HC.out]; exact keep_of hC1.out hg36
    have hr2 : Hid (w3.heap[g2]? = some (.cells (rowN 1024 (partsF (shutF s m) 0)) 23 (0, 0))) := by show _ = _; rw [show partsF (shutF s m) 0 = [] from rfl, ← HC.out]; exact keep_of hC2.out hg36
    obtain ⟨n1, n2, n3, n4, n5, n6⟩ := hne.out
    have hz := hs1.out
    have a1 : Hid (w.heap.size ≤ g1 ∧ g1 ≠ w.heap.size ∧ g1 ≠ w.heap.size + 1 ∧ g1 ≠ g5 ∧ g1 ≠ w6.heap.size) := by show _ ∧ _; omega
    have a2 : Hid (w.heap.size ≤ g2 ∧ g2 ≠ w.heap.size ∧ g2 ≠ w.heap.size + 1 ∧ g2 ≠ g5 ∧ g2 ≠ w6.heap.size) := by show _ ∧ _; omega
    have a3 : Hid (g1 ≠ g2) := n1
    clear hS hC1 hC2 hG5 hne hs1 hz n1 n2 n3 n4 n5 n6 l1 l2 l5 l6 hg36 HW3 hd
    generalize w6.heap.size = g6 at hsg a1 a2 ⊢
    go_loopw [14] (fun i wz => ∃ k : Nat, k ≤ 32 ∧ i = .int .i64 k ∧ Hid (wz.heap[g1]? = some (.cells (rowN 1024 (partsF (openF s m) k)) 23 (0, 0))) ∧ Hid (wz.heap[g2]? = some (.cells (rowN 1024 (partsF (shutF s m) k)) 23 (0, 0)))
      ∧ SgH w s X #[.slice none 0 0, .slice none 0 0] S (w.heap.size + 1) g5 g6 wz) (fun i _ => 32 - (intOf i).toNat)
    case atStart => exact ⟨0, by omega, rfl, hr1, hr2, hsg⟩
    case round =>
      clear hr1 hr2 hsg
      obtain ⟨k, hkl, rfl, hr1, hr2, hsg⟩ := hrel
      by_cases hlt : k < 32
      · have hlt' : (k : Int) < 32 := by omega
        have hbit := fun w' => hbit0 k (by omega) w'
        obtain ⟨b, hb'⟩ : ∃ b, b = bitL m k := ⟨_, rfl⟩
        rw [← hb'] at hbit
        have hb2 : b = 0 ∨ b = 1 := by rw [hb']; exact bitL_lt _ _
        obtain ⟨d, hd'⟩ : ∃ d, d = 1 - b := ⟨_, rfl⟩
        have hwr : IntKind.i64.wrap (1 - (b : Int)) = (d : Int) := by
          rw [show (1 : Int) - (b : Int) = (d : Int) by omega]
          exact IntWalk.i64_in _ ⟨by omega, by omega⟩
        have hsecO := fun w' h => hsec k b (by omega) (by omega) w' h
        have hsecS := fun w' h => hsec k d (by omega) (by omega) w' h
        obtain ⟨Y, hY⟩ : ∃ Y, Y = secretL s k b := ⟨_, rfl⟩
        obtain ⟨Z, hZ⟩ : ∃ Z, Z = secretL s k d := ⟨_, rfl⟩
        have hpub := fun w' h => public_any Z (by rw [hZ]; exact tagL_len _ _) w' h
        obtain ⟨T, hT⟩ : ∃ T, T = publicL Z := ⟨_, rfl⟩
        rw [← hY] at hsecO
        rw [← hZ] at hsecS
        rw [← hT] at hpub
        have hYl : Hid (Y.length = 32) := by rw [hY]; exact tagL_len _ _
        have hTl : Hid (T.length = 32) := by rw [hT]; exact tagL_len _ _
        have HY : Hid (partsF (openF s m) (k + 1) = partsF (openF s m) k ++ Y) := by show _ = _; rw [partsF_next, hY, hb']; rfl
        have HT : Hid (partsF (shutF s m) (k + 1) = partsF (shutF s m) k ++ T) := by show _ = _; rw [partsF_next, hT, hZ, hd', hb']; rfl
        clear hY hZ hT hb' hd'
        have hi0 : ((k : Nat) : Int) < 256 := by omega
        go_wp2_with (first
          | (refine wpList_load_row rfl 23 _ rfl g6 rfl _ (X.map bv).toArray (0, 0) _ hsg.dig Tryd.underlying23 rfl (hashV_size X hXl.out) ?_)
          | (go_at_call 36; refine (hbit _).mono ?_; rintro e w7 ⟨rfl, hg7⟩))
        replace hsg := hsg.kept hg7
        replace hr1 : Hid (w7.heap[g1]? = _) := keep_of hr1.out hg7
        replace hr2 : Hid (w7.heap[g2]? = _) := keep_of hr2.out hg7
        have hu := Tryd.underlying23
        have hi1 := info_hash s HL.out
        have hi2 := info_hash Y hYl.out
        have hn2 : (Y.map bv).length = 32 := by rw [List.length_map, hYl.out]
        have ho2 : ∀ u ∈ Y.map bv, u.oneCell' = true := bv_one _
        have hlen1 := partsF_len (openF s m) (openF_len s m) k
        have hlen2 := partsF_len (shutF s m) (shutF_len s m) k
        have hsz1 : k * 32 + 32 ≤ (rowN 1024 (partsF (openF s m) k)).size := by rw [rowN_size _ _ (by omega)]; omega
        have hsz2 : k * 32 + 32 ≤ (rowN 1024 (partsF (shutF s m) k)).size := by rw [rowN_size _ _ (by omega)]; omega
        have hkr := hk.kept (grown_drew hsg.gr)
        go_region_held3 (fun w' => w'.cell? ⟨g5, 0, none⟩ = some (.slice (some ⟨g1, 0, none⟩) 32 32) ∧ w'.rangeAt w.heap.size 0 (s.map bv) ∧ w'.there g1 (k * 32) 32)
          (first
            | exact sg_look (hsg.kept (grown_drew (grown_refl _ _))) hS0 (there_of (w := w7.drew) hr1.out hsz1)
            | exact sg_look (hsg.kept hG8) hS0 (there_of (keep_of hr1.out hG8) hsz1)
            | exact sg_look ((hsg.kept hG8).set a1.out _ _) hS0 (World.there_setCells (there_of (keep_of hr1.out hG8) hsz1) _ _ _))
          ((first
            | (go_simp; go_at_call 39; refine (hsecO _ hkr).mono ?_; rintro e w8 ⟨rfl, hg8⟩; have hG8 : w7.grownBy w8 none := grown_same (grown_drew (grown_refl _ _)) hg8)))
        have hr1' := rowN_put (keep_of hr1.out hG8) hlen1 (x := Y) (by rw [hYl.out]; omega)
        have hr2' : (w8.setCells g1 (k * 32) (Y.map bv)).heap[g2]? = _ := (other_setCells (Ne.symm a3.out) _ _ _).trans (keep_of hr2.out hG8)
        have hsg' := (hsg.kept hG8).set a1.out (k * 32) (Y.map bv)
        rw [← HY.out] at hr1'
        generalize w8.setCells g1 (k * 32) (Y.map bv) = w9 at hr1' hr2' hsg' ⊢
        clear hu hi1 hi2 hn2 ho2 hkr hsz1 hr1 hr2 hsg hg7
        have HR1 := Lib.hid hr1'
        clear hr1'
        go_wp2_with fail
        have hu := Tryd.underlying23
        have hi1 := info_hash s HL.out
        have hi2 := info_hash T hTl.out
        have hn2 : (T.map bv).length = 32 := by rw [List.length_map, hTl.out]
        have ho2 : ∀ u ∈ T.map bv, u.oneCell' = true := bv_one _
        have hkr := hk.kept (grown_drew hsg'.gr)
        go_region_held3 (fun w' => w'.cell? ⟨g5, 1, none⟩ = some (.slice (some ⟨g2, 0, none⟩) 32 32) ∧ w'.rangeAt w.heap.size 0 (s.map bv) ∧ w'.there g2 (k * 32) 32)
          (first
            | exact sg_look (hsg'.kept (grown_drew (grown_refl _ _))) hS1 (there_of (w := w9.drew) hr2' hsz2)
            | exact sg_look (hsg'.kept hG11) hS1 (there_of (keep_of hr2' hG11) hsz2)
            | exact sg_look (hsg'.kept hG10) hS1 (there_of (keep_of hr2' hG10) hsz2)
            | exact sg_look ((hsg'.kept hG11).set a2.out _ _) hS1 (World.there_setCells (there_of (keep_of hr2' hG11) hsz2) _ _ _))
          ((first
            | (go_simp; go_at_call 39; refine (hsecS _ hkr).mono ?_; rintro e w10 ⟨rfl, hg10⟩; have hG10 : w9.grownBy w10 none := grown_same (grown_drew (grown_refl _ _)) hg10)
            | (go_simp; go_at_call 37; refine (hpub _ (hkr.kept hg10)).mono ?_; rintro e w11 ⟨rfl, hg11⟩; have hG11 : w9.grownBy w11 none := grown_same hG10 hg11)))
        have hr2'' := rowN_put (keep_of hr2' hG11) hlen2 (x := T) (by rw [hTl.out]; omega)
        have hr1'' : (w11.setCells g2 (k * 32) (T.map bv)).heap[g1]? = _ := (other_setCells a3.out _ _ _).trans (keep_of HR1.out hG11)
        have hsg'' := (hsg'.kept hG11).set a2.out (k * 32) (T.map bv)
        rw [← HT.out] at hr2''
        generalize w11.setCells g2 (k * 32) (T.map bv) = w12 at hr1'' hr2'' hsg'' ⊢
        clear hu hi1 hi2 hn2 ho2 hkr hsz2 hr2' hsg'
        have HR2 := Lib.hid hr2''
        have HR11 := Lib.hid hr1''
        clear hr1'' hr2''
        go_wp2
        go_roundw
        case rel => exact ⟨k + 1, by omega, by go_num, HR11, HR2, hsg''⟩
        case measure => simp [intOf]; omega
      · have hkk : k = 32 := by omega
        subst hkk
        rw [show ((32 : Nat) : Int) = 32 from rfl]
        have hL1 : (partsF (openF s m) 32).length = 1024 := partsF_len _ (openF_len s m) 32
        have hL2 : (partsF (shutF s m) 32).length = 1024 := partsF_len _ (shutF_len s m) 32
        rw [rowN_full hL1] at hr1
        rw [rowN_full hL2] at hr2
        have hsS : Hid ((Tryd.prog.info? 26).map (·.size) = some S.size) := by show _ = _; rw [HS.out]; exact size_one
        have hsA : Hid (S.all (·.oneCell') = true) := by show _ = _; rw [HS.out]; simp [Value.oneCell']
        go_wp2_with (first
          | (refine wpList_load_row rfl 26 _ rfl g5 rfl _ S (0, 0) _ hsg.str Tryd.underlying26 rfl hsS.out ?_)
          | (refine wpList_store_row rfl 26 _ _ rfl (w.heap.size + 1) S rfl rfl 26 _ hsg.res hsS.out (by rw [HS.out]; rfl) hsA.out ?_))
        refine bodyPost_ret (results_cell_row rfl _ _ (w.heap.size + 1) 26 S (0, 0) _ rfl (setRow_heap _ _ _ _ _ _ hsg.res) Tryd.underlying26 rfl hsS.out) rfl ?_
        have e1 : (wr.setRow (w.heap.size + 1) S).heap[g1]? = _ := (setRow_other _ _ _ _ a1.out.2.2.1).trans hr1.out
        have e2 : (wr.setRow (w.heap.size + 1) S).heap[g2]? = _ := (setRow_other _ _ _ _ a2.out.2.2.1).trans hr2.out
        exact ⟨_, 32, _, 32, by rw [HS.out], by omega, by unfold maxLen; omega, by omega, by unfold maxLen; omega, rd_row e1, rd_row e2, grown_setRow hsg.gr (.inr (by omega)) _, a1.out.1, a2.out.1⟩
end Go.Proofs.YtohdifimfhdhoaaDoor

namespace Go.Proofs.YtohdifimfhdhoaaDoor
open Go.RowKit

/-- A row with other cells from o on. -/
def over (C : Array Value) (o : Nat) (vs : List Value) : Array Value := (C.toList.take o ++ (vs ++ C.toList.drop (o + vs.length))).toArray
theorem over_size (C : Array Value) (o : Nat) (vs : List Value) (h : o + vs.length ≤ C.size) : (over C o vs).size = C.size := by simp [over]; omega
theorem heap_over {w : World} {b o : Nat} {t : TypeId} {C : Array Value} {vs : List Value} (h : w.heap[b]? = some (.cells C t (0, 0))) (ho : o + vs.length ≤ C.size) : (w.setCells b o vs).heap[b]? = some (.cells (over C o vs) t (0, 0)) := by
  have hp : (C.toList.take o).length = o := by simp; omega
  have := heap_setCells (b := b) (t := t) vs (C.toList.take o) ((C.toList.drop o).take vs.length) (C.toList.drop (o + vs.length)) w (by simp; omega) (by
    rw [h, ← List.drop_drop, List.take_append_drop, List.take_append_drop])
  rw [hp] at this
  exact this
/-- A bit's two parts, written one behind the other. -/
theorem pair_over (D P G : List UInt8) (n b d : Nat) (hD : D.length = n) (hP : P.length = 32) (hG : G.length = 32) (hn : n + 64 ≤ 2048) (hb : b = 0 ∧ d = 1 ∨ b = 1 ∧ d = 0) :
    over (over (rowP D) (n + b * 32) (P.map bv)) (n + d * 32) (G.map bv) = rowP (D ++ if b = 1 then G ++ P else P ++ G) := by
  subst hD
  obtain ⟨r, hr⟩ : ∃ r, 2048 - D.length = 32 + (32 + r) := ⟨2048 - D.length - 64, by omega⟩
  have e0 : (rowP D).toList = D.map bv ++ (List.replicate 32 (Value.int .u8 0) ++ (List.replicate 32 (Value.int .u8 0) ++ List.replicate r (Value.int .u8 0))) := by
    unfold rowP
    rw [hr, ← List.replicate_append_replicate, ← List.replicate_append_replicate]
  have f : ∀ (a x y : List Value) (k : Nat), a.length = k → (a ++ (x ++ y)).take k = a ∧ (a ++ (x ++ y)).drop (k + x.length) = y := fun a x y k hk => by
    subst hk
    exact ⟨by simp, by rw [← List.append_assoc, List.drop_left' (by simp)]⟩
  have hE : rowP (D ++ if b = 1 then G ++ P else P ++ G) = (D.map bv ++ ((if b = 1 then G.map bv ++ P.map bv else P.map bv ++ G.map bv) ++ List.replicate r (Value.int .u8 0))).toArray := by
    unfold rowP
    have : (if b = 1 then G ++ P else P ++ G).length = 64 := by split <;> simp [hP, hG]
    rw [List.length_append, this, show 2048 - (D.length + 64) = r by omega]
    split <;> simp
  rw [hE]
  rcases hb with ⟨rfl, rfl⟩ | ⟨rfl, rfl⟩
  · obtain ⟨t1, t2⟩ := f (D.map bv) (List.replicate 32 (Value.int .u8 0)) (List.replicate 32 (Value.int .u8 0) ++ List.replicate r (Value.int .u8 0)) (D.length + 0 * 32) (by simp)
    rw [List.length_replicate] at t2
    obtain ⟨t3, t4⟩ := f (D.map bv ++ P.map bv) (List.replicate 32 (Value.int .u8 0)) (List.replicate r (Value.int .u8 0)) (D.length + 1 * 32) (by simp [hP])
    rw [List.length_replicate, List.append_assoc] at t4
    rw [List.append_assoc] at t3
    unfold over
    rw [e0, t1, List.length_map, hP, t2, List.length_map, hG]
    simp only
    rw [t3, t4]
    simp
  · obtain ⟨t1, t2⟩ := f (D.map bv ++ List.replicate 32 (Value.int .u8 0)) (List.replicate 32 (Value.int .u8 0)) (List.replicate r (Value.int .u8 0)) (D.length + 1 * 32) (by simp)
    rw [List.length_replicate, List.append_assoc] at t2
    rw [List.append_assoc] at t1
    obtain ⟨t3, t4⟩ := f (D.map bv) (List.replicate 32 (Value.int .u8 0)) (P.map bv ++ List.replicate r (Value.int .u8 0)) (D.length + 0 * 32) (by simp)
    rw [List.length_replicate] at t4
    unfold over
    rw [e0, t1, List.length_map, hP, t2, List.length_map, hG]
    simp only
    rw [List.append_assoc, t3, t4]
    simp

/-- What is known of some blocks. -/
def Kn (w : World) (bs : List (Nat × Obj)) (wz : World) : Prop := w.grownBy wz none ∧ ∀ p ∈ bs, wz.heap[p.1]? = some p.2
section
variable {w wz wy : World} {bs : List (Nat × Obj)}
theorem Kn.kept (h : Kn w bs wz) (hg : wz.grownBy wy none) : Kn w bs wy := ⟨grown_same h.1 hg, fun p hp => keep_of (h.2 p hp) hg⟩
theorem Kn.set (h : Kn w bs wz) {b : Nat} (h0 : w.heap.size ≤ b) (hne : ∀ p ∈ bs, p.1 ≠ b) (o : Nat) (vs : List Value) : Kn w bs (wz.setCells b o vs) :=
  ⟨grown_setCells (.inr h0) vs o _ h.1, fun p hp => (other_setCells (hne p hp) vs o wz).trans (h.2 p hp)⟩
theorem Kn.get (h : Kn w bs wz) (i : Nat) {p : Nat × Obj} (hi : bs[i]? = some p) : wz.heap[p.1]? = some p.2 := h.2 p (List.mem_of_getElem? hi)
end
/-- A part of a row of parts. -/
theorem range_part {w : World} {g : Nat} {f : Nat → List UInt8} (hf : ∀ i, (f i).length = 32) {n k : Nat} (h : RdB w (some ⟨g, 0, none⟩) (partsF f n)) (hk : k < n) : w.rangeAt g (k * 32) ((f k).map bv) := by
  intro j v hv
  rcases h with e | ⟨ad, e, hc⟩
  · have := congrArg List.length e
    rw [List.length_map, partsF_len f hf] at this
    simp at this; omega
  · injection e with e
    subst e
    have hj : j < 32 := by
      have := (List.getElem?_eq_some_iff.1 hv).1
      rwa [List.length_map, hf] at this
    have := hc (k * 32 + j) v (by
      have h2 : ∀ m, k < m → (partsF f m)[k * 32 + j]? = (f k)[j]? := by
        intro m
        induction m with
        | zero => intro h; omega
        | succ m ih =>
          intro h
          rw [partsF_next]
          have hl := partsF_len f hf m
          by_cases hm : k < m
          · rw [List.getElem?_append_left (by omega), ih hm]
          · have : k = m := by omega
            subst this
            rw [List.getElem?_append_right (by omega), hl, Nat.add_sub_cancel_left]
      rw [List.getElem?_map, h2 n hk, ← List.getElem?_map]; exact hv)
    rwa [Addr.add_mid, Nat.zero_add] at this
/-- Two results: a row's variable and a slot. -/
theorem results_row_tmp {P : Program} {fn : Func} {p u : Tmp} {ty : TypeId} (h : fn.results = #[.cell p ty, .tmp u]) (tmps : Array Value) (w : World) (g : Nat) (t : TypeId) (cs : Array Value) (fr : Nat × Nat) (d : TypeDesc)
    (hp : tmps.getD p undef = .pointer (some ⟨g, 0, none⟩)) (hg : w.heap[g]? = some (.cells cs t fr))
    (hu : P.underlying ty = some d) (hd : (match d with | .struct _ | .array _ _ => true | _ => false) = true) (hi : (P.info? ty).map (·.size) = some cs.size) :
    (results fn tmps).run P w = .ok (.tuple #[.agg cs, tmps.getD u undef]) w := by
  rw [results_cell_tmp h, hp]
  simp [asAddr, run_loadVar_row w g t ty cs fr d hg hu hd hi]
end Go.Proofs.YtohdifimfhdhoaaDoor

namespace Go.Proofs.YtohdifimfhdhoaaDoor
open Go.RowKit

/-- The two parts of a bit that a signature tells. -/
def whoPair (m : List UInt8) (f g : Nat → List UInt8) (i : Nat) : List UInt8 := if bitL m i = 1 then g i ++ publicL (f i) else publicL (f i) ++ g i
/-- Whose a signature of these parts is. -/
def whoF (m : List UInt8) (f g : Nat → List UInt8) : List UInt8 := tagL 107 (partsF (whoPair m f g) 32)
theorem publicL_len (s : List UInt8) : (publicL s).length = 32 := tagL_len _ _
theorem whoPair_len (m : List UInt8) (f g : Nat → List UInt8) (hg : ∀ i, (g i).length = 32) (i : Nat) : (whoPair m f g i).length = 64 := by
  unfold whoPair
  split <;> rw [List.length_append, publicL_len, hg]
theorem partsF_len64 (f : Nat → List UInt8) (hf : ∀ i, (f i).length = 64) : ∀ n, (partsF f n).length = n * 64
  | 0 => rfl
  | n + 1 => by rw [partsF_next, List.length_append, hf, partsF_len64 f hf n]; omega
theorem whoF_len (m : List UInt8) (f g : Nat → List UInt8) : (whoF m f g).length = 32 := tagL_len _ _

set_option maxRecDepth 100000 in
set_option maxHeartbeats 2000000 in
theorem Who_any (A : Option Addr) (m : List UInt8) (c : Nat) (a1 c1 a2 c2 : Nat) (f g : Nat → List UInt8) (hf : ∀ i, (f i).length = 32) (hg32 : ∀ i, (g i).length = 32) (w : World) (hk : Laid2 w) (hr : RdB w A m) (hb : m.length ≤ 1000)
    (h1 : RdB w (some ⟨a1, 0, none⟩) (partsF f 32)) (h2 : RdB w (some ⟨a2, 0, none⟩) (partsF g 32)) :
    Calls Tryd.prog 18 #[.slice A m.length c, .agg #[.slice (some ⟨a1, 0, none⟩) 32 c1, .slice (some ⟨a2, 0, none⟩) 32 c2]] w fun e w' => e = .returned (.tuple #[.agg ((whoF m f g).map bv).toArray, .bool true]) ∧ w.grownBy w' none := by
  obtain ⟨C, hC⟩ : ∃ C, C = (List.replicate 2048 (Value.int .u8 0)) := ⟨_, rfl⟩
  have hz := fun w' => zero_publics w'
  rw [← hC] at hz
  have HC := Lib.hid hC
  clear hC
  have hd := fun w' (hg : w.grownBy w' none) => digest_any A m c w' (hk.kept hg) (hr.kept hg) hb
  have hbit0 := fun k (h : k < 256) w' => bit_any (tagL 109 m) (tagL_len _ _) k h w'
  obtain ⟨X, hX⟩ : ∃ X, X = tagL 109 m := ⟨_, rfl⟩
  rw [← hX] at hbit0
  simp only [← hX] at hd
  have hXl : Hid (X.length = 32) := by rw [hX]; exact tagL_len _ _
  have hbl : ∀ k, (X.getD (k / 8) 0).toNat / 2 ^ (7 - k % 8) % 2 = bitL m k := fun k => by rw [hX]; rfl
  simp only [hbl] at hbit0
  clear hX hbl
  go_enter Tryd.func18, Tryd.ntmps18
  go_wp2_with (first
    | (go_at_call 35; refine (hd _ (grown_alloc (grown_alloc (grown_alloc (grown_refl _ _) _) _) _)).mono ?_; rintro e w6 ⟨rfl, hg6⟩)
    | (refine wpList_store_row rfl 23 _ _ rfl (w6.heap.size) (X.map bv).toArray rfl rfl 23 _ (alloc_at rfl) (hashV_size X hXl.out) (by rw [show (X.map bv).toArray.size = 32 from by rw [List.size_toArray, List.length_map, hXl.out]]; rfl) (bv_all' _) ?_; generalize hw3 : World.setRow _ _ _ = w3; have HW3 := new_hash hw3; clear hw3))
  obtain ⟨S, hS⟩ : ∃ S : Array Value, S = #[.slice (some ⟨a1, 0, none⟩) 32 c1, .slice (some ⟨a2, 0, none⟩) 32 c2] := ⟨_, rfl⟩
  rw [← hS] at hg6
  have hS0 : S[0]? = some (.slice (some ⟨a1, 0, none⟩) 32 c1) := by rw [hS]; rfl
  have hS1 : S[1]? = some (.slice (some ⟨a2, 0, none⟩) 32 c2) := by rw [hS]; rfl
  clear hS hd hz
  have q0 : (((w.alloc (.cells S 26)).alloc (.cells (rowH []) 23)).alloc (.cells C.toArray 59)).heap[w.heap.size]? = some (.cells S 26 (0, 0)) := alloc_old (alloc_old (alloc_at rfl))
  have q1 : (((w.alloc (.cells S 26)).alloc (.cells (rowH []) 23)).alloc (.cells C.toArray 59)).heap[w.heap.size + 1]? = some (.cells (rowH []) 23 (0, 0)) := alloc_old (alloc_at (by simp))
  have q2 : (((w.alloc (.cells S 26)).alloc (.cells (rowH []) 23)).alloc (.cells C.toArray 59)).heap[w.heap.size + 1 + 1]? = some (.cells C.toArray 59 (0, 0)) := alloc_at (by simp)
  have q3 : (((w.alloc (.cells S 26)).alloc (.cells (rowH []) 23)).alloc (.cells C.toArray 59)).heap.size = w.heap.size + 1 + 1 + 1 := by simp
  have q4 : w.grownBy (((w.alloc (.cells S 26)).alloc (.cells (rowH []) 23)).alloc (.cells C.toArray 59)) none := grown_alloc (grown_alloc (grown_alloc (grown_refl _ _) _) _) _
  change World.grownBy (((w.alloc (.cells S 26)).alloc (.cells (rowH []) 23)).alloc (.cells C.toArray 59)) w6 none at hg6
  generalize ((w.alloc (.cells S 26)).alloc (.cells (rowH []) 23)).alloc (.cells C.toArray 59) = w1 at hg6 q0 q1 q2 q3 q4
  have q5 := grown_same hg6 HW3.2
  obtain ⟨bs, hbs⟩ : ∃ bs : List (Nat × Obj), bs = [(w.heap.size, .cells S 26 (0, 0)), (w.heap.size + 1, .cells (rowH []) 23 (0, 0)), (w6.heap.size, .cells (X.map bv).toArray 23 (0, 0))] := ⟨_, rfl⟩
  have b0 : bs[0]? = some (w.heap.size, .cells S 26 (0, 0)) := by rw [hbs]; rfl
  have b1 : bs[1]? = some (w.heap.size + 1, .cells (rowH []) 23 (0, 0)) := by rw [hbs]; rfl
  have b2 : bs[2]? = some (w6.heap.size, .cells (X.map bv).toArray 23 (0, 0)) := by rw [hbs]; rfl
  have hne : Hid (∀ p ∈ bs, p.1 ≠ w.heap.size + 1 + 1) := by
    show ∀ p ∈ bs, _
    intro p hp
    have := hg6.size
    rw [hbs] at hp
    simp only [List.mem_cons, List.not_mem_nil, or_false] at hp
    rcases hp with rfl | rfl | rfl <;> simp only <;> omega
  have hkn : Kn w bs w3 := ⟨grown_same q4 q5, fun p hp => by
    rw [hbs] at hp
    simp only [List.mem_cons, List.not_mem_nil, or_false] at hp
    rcases hp with rfl | rfl | rfl
    · exact keep_of q0 q5
    · exact keep_of q1 q5
    · exact HW3.1⟩
  have hP : Hid (w3.heap[w.heap.size + 1 + 1]? = some (.cells (rowP (partsF (whoPair m f g) 0)) 59 (0, 0))) := by
    show _ = _
    rw [keep_of q2 q5, HC.out]; rfl
  clear hbs q0 q1 q2 q3 q4 q5 HW3 hg6
  generalize w6.heap.size = g6 at b2 ⊢
  go_loopw [23] (fun i wz => ∃ k : Nat, k ≤ 32 ∧ i = .int .i64 k ∧ Hid (wz.heap[w.heap.size + 1 + 1]? = some (.cells (rowP (partsF (whoPair m f g) k)) 59 (0, 0))) ∧ Kn w bs wz) (fun i _ => 32 - (intOf i).toNat)
  case atStart => exact ⟨0, by omega, rfl, hP, hkn⟩
  case round =>
    clear hP hkn
    obtain ⟨k, hkl, rfl, hP, hkn⟩ := hrel
    by_cases hlt : k < 32
    · have hlt' : (k : Int) < 32 := by omega
      have hbit := fun w' => hbit0 k (by omega) w'
      obtain ⟨b, hb'⟩ : ∃ b, b = bitL m k := ⟨_, rfl⟩
      have hw' : whoPair m f g k = if b = 1 then g k ++ publicL (f k) else publicL (f k) ++ g k := by rw [hb']; rfl
      rw [← hb'] at hbit
      have hb2 : b = 0 ∨ b = 1 := by rw [hb']; exact bitL_lt _ _
      obtain ⟨d, hd'⟩ : ∃ d, d = 1 - b := ⟨_, rfl⟩
      have hbd : b = 0 ∧ d = 1 ∨ b = 1 ∧ d = 0 := by omega
      have hwr : IntKind.i64.wrap (1 - (b : Int)) = (d : Int) := by
        rw [show (1 : Int) - (b : Int) = (d : Int) by omega]
        exact IntWalk.i64_in _ ⟨by omega, by omega⟩
      have hpub := fun w' h => public_any (f k) (hf k) w' h
      have hF := hf k
      have hG := hg32 k
      have hrf := fun w' (h : w.grownBy w' none) => range_part hf (h1.kept h) hlt
      have hrg := fun w' (h : w.grownBy w' none) => range_part hg32 (h2.kept h) hlt
      have hnext := partsF_next (whoPair m f g) k
      rw [hw'] at hnext
      have hlen := partsF_len64 _ (whoPair_len m f g hg32) k
      generalize partsF (whoPair m f g) k = D at hP hnext hlen
      generalize f k = F at hpub hF hrf hnext
      generalize g k = G at hG hrg hnext
      obtain ⟨T, hT⟩ : ∃ T, T = publicL F := ⟨_, rfl⟩
      rw [← hT] at hpub hnext
      have hTl : T.length = 32 := by rw [hT]; exact tagL_len _ _
      have HN := Lib.hid hnext
      have HTl := Lib.hid hTl
      have HGl := Lib.hid hG
      have hsz : (rowP D).size = 2048 := rowP_size _ (by omega)
      have hpo := pair_over D T G (k * 64) b d hlen hTl hG (by omega) hbd
      have hs2 := over_size (rowP D) (k * 64 + b * 32) (T.map bv) (by rw [List.length_map, hTl, hsz]; omega)
      rw [hsz] at hs2
      have HPO := Lib.hid hpo
      have hti : k * 64 + b * 32 + 32 ≤ 2048 := by omega
      have htj : k * 64 + d * 32 + 32 ≤ 2048 := by omega
      have hbi : (b : Int) < 2 := by omega
      have hdi : (d : Int) < 2 := by omega
      clear hT hw' hb' hd' hnext hpo hlen hb2 hbd hTl hG
      go_wp2_with (first
        | (refine wpList_load_row rfl 23 _ rfl g6 rfl _ (X.map bv).toArray (0, 0) _ (hkn.get 2 b2) Tryd.underlying23 rfl (hashV_size X hXl.out) ?_)
        | (go_at_call 36; refine (hbit _).mono ?_; rintro e w7 ⟨rfl, hg7⟩))
      replace hkn := hkn.kept hg7
      replace hP : Hid (w7.heap[w.heap.size + 1 + 1]? = _) := keep_of hP.out hg7
      have hu := Tryd.underlying23
      have hi1 := info_hash F hF
      have hi2 := info_hash T HTl.out
      have hn2 : (T.map bv).length = 32 := by rw [List.length_map, HTl.out]
      have ho2 : ∀ u ∈ T.map bv, u.oneCell' = true := bv_one _
      have hkr := hk.kept (grown_drew hkn.1)
      have lk : ∀ w', Kn w bs w' → w'.there (w.heap.size + 1 + 1) (k * 64 + b * 32) 32 → w'.cell? ⟨w.heap.size, 0, none⟩ = some (.slice (some ⟨a1, 0, none⟩) 32 c1) ∧ w'.rangeAt a1 (k * 32) (F.map bv) ∧ w'.there (w.heap.size + 1 + 1) (k * 64 + b * 32) 32 :=
        fun w' h ht => ⟨cell_of_cells (h.get 0 b0) hS0, hrf w' h.1, ht⟩
      go_region_held3 (fun w' => w'.cell? ⟨w.heap.size, 0, none⟩ = some (.slice (some ⟨a1, 0, none⟩) 32 c1) ∧ w'.rangeAt a1 (k * 32) (F.map bv) ∧ w'.there (w.heap.size + 1 + 1) (k * 64 + b * 32) 32)
        (first
          | exact lk _ (hkn.kept (grown_drew (grown_refl _ _))) (there_of (w := w7.drew) hP.out (by rw [hsz]; exact hti))
          | exact lk _ (hkn.kept hG8) (there_of (keep_of hP.out hG8) (by rw [hsz]; exact hti))
          | exact lk _ ((hkn.kept hG8).set (by omega) hne.out _ _) (World.there_setCells (there_of (keep_of hP.out hG8) (by rw [hsz]; exact hti)) _ _ _))
        ((first
          | (go_simp; go_at_call 37; refine (hpub _ hkr).mono ?_; rintro e w8 ⟨rfl, hg8⟩; have hG8 : w7.grownBy w8 none := grown_same (grown_drew (grown_refl _ _)) hg8)))
      have hP9 := heap_over (keep_of hP.out hG8) (o := k * 64 + b * 32) (vs := T.map bv) (by rw [hn2, hsz]; exact hti)
      have hkn9 := (hkn.kept hG8).set (b := w.heap.size + 1 + 1) (by omega) hne.out (k * 64 + b * 32) (T.map bv)
      generalize w8.setCells (w.heap.size + 1 + 1) (k * 64 + b * 32) (T.map bv) = w9 at hP9 hkn9 ⊢
      clear hu hi1 hi2 hn2 ho2 hkr lk hP hkn hg7
      have HP9 := Lib.hid hP9
      clear hP9
      go_wp2_with fail
      have hu := Tryd.underlying23
      have hi1 := info_hash G HGl.out
      have hn2 : (G.map bv).length = 32 := by rw [List.length_map, HGl.out]
      have ho2 : ∀ u ∈ G.map bv, u.oneCell' = true := bv_one _
      have lk : ∀ w', Kn w bs w' → w'.there (w.heap.size + 1 + 1) (k * 64 + d * 32) 32 → w'.cell? ⟨w.heap.size, 1, none⟩ = some (.slice (some ⟨a2, 0, none⟩) 32 c2) ∧ w'.rangeAt a2 (k * 32) (G.map bv) ∧ w'.there (w.heap.size + 1 + 1) (k * 64 + d * 32) 32 :=
        fun w' h ht => ⟨cell_of_cells (h.get 0 b0) hS1, hrg w' h.1, ht⟩
      go_region_held3 (fun w' => w'.cell? ⟨w.heap.size, 1, none⟩ = some (.slice (some ⟨a2, 0, none⟩) 32 c2) ∧ w'.rangeAt a2 (k * 32) (G.map bv) ∧ w'.there (w.heap.size + 1 + 1) (k * 64 + d * 32) 32)
        (first
          | exact lk _ (hkn9.kept (grown_drew (grown_refl _ _))) (there_of (w := w9.drew) HP9.out (by rw [hs2]; exact htj))
          | exact lk _ ((hkn9.kept (grown_drew (grown_refl _ _))).set (by omega) hne.out _ _) (World.there_setCells (there_of (w := w9.drew) HP9.out (by rw [hs2]; exact htj)) _ _ _))
        (fail)
      have hPA := heap_over (w := w9.drew) HP9.out (o := k * 64 + d * 32) (vs := G.map bv) (by rw [hn2, hs2]; exact htj)
      have hknA := (hkn9.kept (grown_drew (grown_refl _ _))).set (b := w.heap.size + 1 + 1) (by omega) hne.out (k * 64 + d * 32) (G.map bv)
      rw [HPO.out, ← HN.out] at hPA
      generalize w9.drew.setCells (w.heap.size + 1 + 1) (k * 64 + d * 32) (G.map bv) = wA at hPA hknA ⊢
      clear hu hi1 hn2 ho2 lk
      have HPA := Lib.hid hPA
      clear hPA
      go_wp2
      go_roundw
      case rel => exact ⟨k + 1, by omega, by go_num, HPA, hknA⟩
      case measure => simp [intOf]; omega
    · have hkk : k = 32 := by omega
      subst hkk
      rw [show ((32 : Nat) : Int) = 32 from rfl]
      have hWl := whoF_len m f g
      have hPl := partsF_len64 _ (whoPair_len m f g hg32) 32
      have hke := fun L (h : L.length = 2048) => keyOf_any L h wr (hk.kept hkn.1)
      replace hke := hke (partsF (whoPair m f g) 32) hPl
      obtain ⟨L, hL⟩ : ∃ L, L = partsF (whoPair m f g) 32 := ⟨_, rfl⟩
      rw [← hL] at hPl hke hP
      rw [rowP_full hPl] at hP
      obtain ⟨Y, hY⟩ : ∃ Y, Y = tagL 107 L := ⟨_, rfl⟩
      rw [← hY] at hke
      have HY : Hid (whoF m f g = Y) := by show _ = _; rw [hY, hL]; rfl
      have hYl : Hid (Y.length = 32) := by rw [hY]; exact tagL_len _ _
      have hsz : Hid ((Tryd.prog.info? 59).map (·.size) = some (L.map bv).toArray.size) := by show _ = _; rw [List.size_toArray, List.length_map, hPl]; exact size_publics
      have hR := hkn.get 1 b1
      clear hL hY hPl hWl
      go_wp2_with (first
        | (refine wpList_load_row rfl 59 _ rfl (w.heap.size + 1 + 1) rfl _ (L.map bv).toArray (0, 0) _ hP.out Tryd.underlying59 rfl hsz.out ?_)
        | (go_at_call 38; refine hke.mono ?_; rintro e wB ⟨rfl, hgB⟩)
        | (refine wpList_store_row rfl 23 _ _ rfl (w.heap.size + 1) (Y.map bv).toArray rfl rfl 23 _ (keep_of hR hgB) (hashV_size Y hYl.out) (by rw [rowH_size _ (by simp), List.size_toArray, List.length_map, hYl.out]) (bv_all' _) ?_))
      refine bodyPost_ret (results_row_tmp rfl _ _ (w.heap.size + 1) 23 (Y.map bv).toArray (0, 0) _ rfl (setRow_heap _ _ _ _ _ _ (keep_of hR hgB)) Tryd.underlying23 rfl (hashV_size Y hYl.out)) rfl ?_
      exact ⟨by rw [HY.out]; rfl, grown_setRow (grown_same hkn.1 hgB) (.inr (by omega)) _⟩
end Go.Proofs.YtohdifimfhdhoaaDoor

namespace Go.Proofs.YtohdifimfhdhoaaDoor
open Go.RowKit

theorem wpList_wanted {P : Program} {ops : Array Oper} {rest : List Oper} {o : Oper} {a : Act} {w : World} {Q : Exit → Act → World → Prop} (hw : Region.wanted o (yielded ops a.tmps) = true)
    (h : ∀ K : Act → World → Prop, (∀ a w, wpList P ops Q rest a w → K a w) → o.wp P a w K Q) : wpList P ops Q (o :: rest) a w :=
  wpList_step fun K hK => by simp only [hw, if_true]; exact h K hK
theorem wpList_load_row_g {P : Program} {ops : Array Oper} {rest : List Oper} {o : Oper} {a : Act} {w : World} {Q : Exit → Act → World → Prop} (hw : Region.wanted o (yielded ops a.tmps) = true) (ty : TypeId) (x : Operand) (ho : o.op = .load ty x)
    (g : Nat) (hx : a.eval x = .pointer (some ⟨g, 0, none⟩)) (t : TypeId) (cs : Array Value) (fr : Nat × Nat) (d : TypeDesc) (hg : w.heap[g]? = some (.cells cs t fr))
    (hu : P.underlying ty = some d) (hd : (match d with | .struct _ | .array _ _ => true | _ => false) = true) (hi : (P.info? ty).map (·.size) = some cs.size)
    (h : wpList P ops Q rest (a.put o.dst (.agg cs)) w) : wpList P ops Q (o :: rest) a w :=
  wpList_wanted hw fun _ hK => wp_load_row ty x ho g hx t cs fr d hg hu hd hi (hK _ _ h)

def zeroH : List UInt8 := List.replicate 32 0
theorem zeroH_len : zeroH.length = 32 := rfl
theorem rowZ : rowH [] = (zeroH.map bv).toArray := by simp [rowH, zeroH, bv]

set_option maxRecDepth 100000 in
theorem Who_short (A : Option Addr) (n c : Nat) (A1 : Option Addr) (n1 c1 : Nat) (A2 : Option Addr) (n2 c2 : Nat) (w : World) (h : n1 ≠ 32 ∨ n2 ≠ 32) :
    Calls Tryd.prog 18 #[.slice A n c, .agg #[.slice A1 n1 c1, .slice A2 n2 c2]] w fun e w' => e = .returned (.tuple #[.agg (zeroH.map bv).toArray, .bool false]) ∧ w.grownBy w' none := by
  suffices hs : Calls Tryd.prog 18 #[.slice A n c, .agg #[.slice A1 n1 c1, .slice A2 n2 c2]] w fun e w' => e = .returned (.tuple #[.agg (rowH []), .bool false]) ∧ w.grownBy w' none from
    hs.mono fun e w' he => ⟨by rw [he.1, rowZ], he.2⟩
  have hq : ¬ (n1 : Int) = 32 ∨ (n1 : Int) = 32 ∧ ¬ (n2 : Int) = 32 := by omega
  clear h
  go_enter Tryd.func18, Tryd.ntmps18
  have hsz : Hid ((Tryd.prog.info? 23).map (·.size) = some (rowH []).size) := by show _ = _; rw [rowH_size _ (by simp)]; exact size_hash
  have hal : Hid ((rowH []).all (·.oneCell') = true) := by show _ = _; rw [rowZ]; exact bv_all' _
  rcases hq with hq | ⟨hq1, hq2⟩ <;>
    (go_wp2_with (refine wpList_store_row rfl 23 _ _ rfl (w.heap.size + 1) (rowH []) rfl rfl 23 (rowH []) (alloc_at (by simp)) hsz.out rfl hal.out ?_)
     refine bodyPost_ret (results_row_tmp rfl _ _ (w.heap.size + 1) 23 (rowH []) (0, 0) _ rfl (setRow_heap _ _ _ _ _ _ (alloc_at (by simp))) Tryd.underlying23 rfl hsz.out) rfl ?_
     exact ⟨rfl, grown_setRow (grown_alloc (grown_alloc (grown_refl _ _) _) _) (.inr (by omega)) _⟩)

/-! ## As lists -/
theorem partsF_congr (f g : Nat → List UInt8) : ∀ n, (∀ i, i < n → f i = g i) → partsF f n = partsF g n
  | 0, _ => rfl
  | n + 1, h => by rw [partsF_next, partsF_next, partsF_congr f g n fun i hi => h i (by omega), h n (by omega)]
theorem whoF_congr {m n : List UInt8} {f g f' g' : Nat → List UInt8} (h : ∀ i, i < 32 → bitL m i = bitL n i ∧ f i = f' i ∧ g i = g' i) : whoF m f g = whoF n f' g' := by
  unfold whoF
  rw [partsF_congr _ _ 32 fun i hi => by unfold whoPair; rw [(h i hi).1, (h i hi).2.1, (h i hi).2.2]]
  rfl
theorem flat_flatMap (F : Nat → List (List UInt8)) (l : List Nat) : (l.flatMap F).flatten = (l.map fun i => (F i).flatten).flatten := by
  induction l with
  | nil => rfl
  | cons x l ih => rw [List.flatMap_cons, List.flatten_append, ih, List.map_cons, List.flatten_cons]
theorem whoF_list (n : List UInt8) (f g : Nat → List UInt8) : whoL n ((List.range 32).map f) ((List.range 32).map g) = whoF n f g := by
  unfold whoL keyOf whoParts whoF
  rw [flat_flatMap]
  unfold partsF
  congr 2
  refine List.map_congr_left fun i hi => ?_
  have hi' : i < 32 := by simpa using hi
  rw [range_getD _ _ _ _ hi', range_getD _ _ _ _ hi']
  unfold whoPair
  split <;> simp
theorem whoF_sign (s m : List UInt8) : whoF m (openF s m) (shutF s m) = keyL s := by
  rw [← whoF_list, ← who_sign s m]; exact Eq.refl _
theorem other5F : whoF [98] (openF seed5 [97]) (shutF seed5 [97]) ≠ keyL seed5 := by
  rw [← whoF_list]; exact other5
end Go.Proofs.YtohdifimfhdhoaaDoor
