/- One-time signatures, the small functions: a secret, its public part, a message's digest, a bit of it; the program's and the document's own. -/
import Derived.Test.YtmfnncfiaaeknaaDoorLamL
import Derived.Test.YtmfnncfiaaeknaaDoorTag
import Derived.Test.YtmfnncfiaaeknaaDoorBits
import Derived.Deep.MidRow
namespace Go.Proofs.YtmfnncfiaaeknaaDoor
open Go.RowKit

def Laid2 (w : World) : Prop := LaidK w ∧ LaidS w
theorem Laid2.kept {w w' : World} (h : Laid2 w) (hg : w.grownBy w' none) : Laid2 w' := ⟨h.1.kept hg, h.2.kept hg⟩
theorem alloc_at {w : World} {o : Obj} {g : Nat} (h : g = w.heap.size) : (w.alloc o).heap[g]? = some o := by subst h; exact heap_alloc_new _ _
theorem alloc_old {w : World} {o o' : Obj} {g : Nat} (h : w.heap[g]? = some o) : (w.alloc o').heap[g]? = some o := keep_of h (grown_alloc (grown_refl _ _) _)
theorem hashV_size (X : List UInt8) (h : X.length = 32) : (Tryd.prog.info? 23).map (·.size) = some (X.map bv).toArray.size := by rw [List.size_toArray, List.length_map, h]; exact size_hash
theorem rdP_kept1 {w : World} {A : Option Addr} {p : Part} (h1 : RdAt w A [pv p]) (h2 : RdB w p.1 p.2.1) : RdP w A [p] := ⟨h1, fun q hq => by rw [List.mem_singleton] at hq; subst hq; exact h2⟩
theorem tagL_len (t : UInt8) (l : List UInt8) : (tagL t l).length = 32 := sumL_len _

set_option maxRecDepth 100000 in
theorem public_any (s : List UInt8) (h32 : s.length = 32) (w : World) (hk : Laid2 w) :
    Calls Tryd.prog 27 #[.agg (s.map bv).toArray] w fun e w' => e = .returned (.agg ((publicL s).map bv).toArray) ∧ w.grownBy w' none := by
  have htag := fun A w' (h1 : Laid2 w') (h3 : RdP w' A [(some ⟨w.heap.size, 0, none⟩, s, 32)]) => Tagged_any 112 A [(some ⟨w.heap.size, 0, none⟩, s, 32)] 1 w' h1.1 h1.2 h3 (by simp [catP]; omega) (by simp)
  have h32' := Lib.hid h32
  obtain ⟨X, hX⟩ : ∃ X, X = tagL 112 (catP [((some ⟨w.heap.size, 0, none⟩ : Option Addr), s, 32)]) := ⟨_, rfl⟩
  rw [← hX] at htag
  have HX : Hid (X = publicL s) := by show _ = _; rw [hX]; simp [catP, publicL]
  have hXl : Hid (X.length = 32) := by rw [hX]; exact tagL_len _ _
  clear hX
  change ∀ A w', Laid2 w' → RdP w' A _ → Calls Tryd.prog 38 #[.int .u8 112, .slice A 1 1] w' _ at htag
  go_enter Tryd.func27, Tryd.ntmps27
  go_wp2_with (first
    | (go_at_call 38; refine (htag _ _ (hk.kept (by first | exact grown_refl _ _ | exact grown_alloc (grown_refl _ _) _ | exact grown_alloc (grown_alloc (grown_refl _ _) _) _ | exact grown_alloc (grown_alloc (grown_alloc (grown_refl _ _) _) _) _ | exact grown_alloc (grown_alloc (grown_alloc (grown_alloc (grown_refl _ _) _) _) _) _)) (rdP_kept1 (by unfold pv; simp only [h32'.out]; exact rd_row (cs := [_]) (alloc_at (by simp))) (rd_row (alloc_old (alloc_old (alloc_at rfl)))))).mono ?_; rintro e w6 ⟨rfl, hg6⟩)
    | (refine wpList_store_row rfl 23 _ _ rfl (w.heap.size + 1) (X.map bv).toArray rfl rfl 23 _ (keep_of (alloc_old (alloc_at (by simp))) hg6) (hashV_size X hXl.out) (by rw [show (X.map bv).toArray.size = 32 from by rw [List.size_toArray, List.length_map, hXl.out]]; rfl) (bv_all' _) ?_))
  refine bodyPost_ret (results_cell_row rfl _ _ (w.heap.size + 1) 23 (X.map bv).toArray (0, 0) _ rfl (setRow_heap _ _ _ _ _ _ (keep_of (alloc_old (alloc_at (by simp))) hg6)) Tryd.underlying23 rfl (hashV_size X hXl.out)) rfl ?_
  exact ⟨by rw [HX.out], grown_setRow (grown_same (grown_alloc (grown_alloc (grown_alloc (grown_refl _ _) _) _) _) hg6) (.inr (by omega)) _⟩

set_option maxRecDepth 100000 in
theorem Rpublic_any (s : List UInt8) (h32 : s.length = 32) (w : World) :
    Calls Tryd.prog 33 #[.agg (s.map bv).toArray] w fun e w' => e = .returned (.agg ((publicL s).map bv).toArray) ∧ w.grownBy w' none := by
  have htag := fun A w' (h3 : RdP w' A [(some ⟨w.heap.size, 0, none⟩, s, 32)]) => RTagged_any 112 A [(some ⟨w.heap.size, 0, none⟩, s, 32)] 1 w' h3 (by simp [catP]; omega) (by simp)
  have h32' := Lib.hid h32
  obtain ⟨X, hX⟩ : ∃ X, X = tagL 112 (catP [((some ⟨w.heap.size, 0, none⟩ : Option Addr), s, 32)]) := ⟨_, rfl⟩
  rw [← hX] at htag
  have HX : Hid (X = publicL s) := by show _ = _; rw [hX]; simp [catP, publicL]
  have hXl : Hid (X.length = 32) := by rw [hX]; exact tagL_len _ _
  clear hX
  change ∀ A w', RdP w' A _ → Calls Tryd.prog 26 #[.int .u8 112, .slice A 1 1] w' _ at htag
  go_enter Tryd.func33, Tryd.ntmps33
  go_wp2_with (first
    | (go_at_call 26; refine (htag _ _ (rdP_kept1 (by unfold pv; simp only [h32'.out]; exact rd_row (cs := [_]) (alloc_at (by simp))) (rd_row (alloc_old (alloc_old (alloc_at rfl)))))).mono ?_; rintro e w6 ⟨rfl, hg6⟩)
    | (refine wpList_store_row rfl 23 _ _ rfl (w.heap.size + 1) (X.map bv).toArray rfl rfl 23 _ (keep_of (alloc_old (alloc_at (by simp))) hg6) (hashV_size X hXl.out) (by rw [show (X.map bv).toArray.size = 32 from by rw [List.size_toArray, List.length_map, hXl.out]]; rfl) (bv_all' _) ?_))
  refine bodyPost_ret (results_cell_row rfl _ _ (w.heap.size + 1) 23 (X.map bv).toArray (0, 0) _ rfl (setRow_heap _ _ _ _ _ _ (keep_of (alloc_old (alloc_at (by simp))) hg6)) Tryd.underlying23 rfl (hashV_size X hXl.out)) rfl ?_
  exact ⟨by rw [HX.out], grown_setRow (grown_same (grown_alloc (grown_alloc (grown_alloc (grown_refl _ _) _) _) _) hg6) (.inr (by omega)) _⟩

set_option maxRecDepth 100000 in
theorem digest_any (A : Option Addr) (m : List UInt8) (c : Nat) (w : World) (hk : Laid2 w) (hr : RdB w A m) (hb : m.length ≤ 1000) :
    Calls Tryd.prog 30 #[.slice A m.length c] w fun e w' => e = .returned (.agg ((tagL 109 m).map bv).toArray) ∧ w.grownBy w' none := by
  have htag := fun A' w' (h1 : Laid2 w') (h3 : RdP w' A' [(A, m, c)]) => Tagged_any 109 A' [(A, m, c)] 1 w' h1.1 h1.2 h3 (by simp [catP]; omega) (by simp)
  obtain ⟨X, hX⟩ : ∃ X, X = tagL 109 (catP [(A, m, c)]) := ⟨_, rfl⟩
  rw [← hX] at htag
  have HX : Hid (X = tagL 109 m) := by show _ = _; rw [hX]; simp [catP]
  have hXl : Hid (X.length = 32) := by rw [hX]; exact tagL_len _ _
  clear hX
  change ∀ A' w', Laid2 w' → RdP w' A' _ → Calls Tryd.prog 38 #[.int .u8 109, .slice A' 1 1] w' _ at htag
  go_enter Tryd.func30, Tryd.ntmps30
  go_wp2_with (first
    | (go_at_call 38; refine (htag _ _ (hk.kept (by first | exact grown_refl _ _ | exact grown_alloc (grown_refl _ _) _ | exact grown_alloc (grown_alloc (grown_refl _ _) _) _ | exact grown_alloc (grown_alloc (grown_alloc (grown_refl _ _) _) _) _ | exact grown_alloc (grown_alloc (grown_alloc (grown_alloc (grown_refl _ _) _) _) _) _)) (rdP_kept1 (rd_row (cs := [_]) (alloc_at (by simp))) ((hr.alloc _).alloc _))).mono ?_; rintro e w6 ⟨rfl, hg6⟩)
    | (refine wpList_store_row rfl 23 _ _ rfl (w.heap.size) (X.map bv).toArray rfl rfl 23 _ (keep_of (alloc_old (alloc_at rfl)) hg6) (hashV_size X hXl.out) (by rw [show (X.map bv).toArray.size = 32 from by rw [List.size_toArray, List.length_map, hXl.out]]; rfl) (bv_all' _) ?_))
  refine bodyPost_ret (results_cell_row rfl _ _ (w.heap.size) 23 (X.map bv).toArray (0, 0) _ rfl (setRow_heap _ _ _ _ _ _ (keep_of (alloc_old (alloc_at rfl)) hg6)) Tryd.underlying23 rfl (hashV_size X hXl.out)) rfl ?_
  exact ⟨by rw [HX.out], grown_setRow (grown_same (grown_alloc (grown_alloc (grown_refl _ _) _) _) hg6) (.inr (by omega)) _⟩

set_option maxRecDepth 100000 in
theorem secret_any (s : List UInt8) (h32 : s.length = 32) (i v : Nat) (hi : i < 256) (hv : v < 256) (w : World) (hk : Laid2 w) :
    Calls Tryd.prog 28 #[.agg (s.map bv).toArray, .int .i64 i, .int .i64 v] w fun e w' => e = .returned (.agg ((secretL s i v).map bv).toArray) ∧ w.grownBy w' none := by
  obtain ⟨p1, hp1⟩ : ∃ p1 : Part, p1 = (some ⟨w.heap.size, 0, none⟩, s, 32) := ⟨_, rfl⟩
  obtain ⟨p2, hp2⟩ : ∃ p2 : Part, p2 = (some ⟨w.heap.size + 1 + 1, 0, none⟩, [UInt8.ofNat i, UInt8.ofNat v], 2) := ⟨_, rfl⟩
  have htag := fun A w' (h1 : Laid2 w') (h3 : RdP w' A [p1, p2]) => Tagged_any 115 A [p1, p2] 2 w' h1.1 h1.2 h3 (by rw [hp1, hp2]; simp [catP]; omega) (by simp)
  obtain ⟨X, hX⟩ : ∃ X, X = tagL 115 (catP [p1, p2]) := ⟨_, rfl⟩
  rw [← hX] at htag
  have HX : Hid (X = secretL s i v) := by show _ = _; rw [hX, hp1, hp2]; simp [catP, secretL]
  have hXl : Hid (X.length = 32) := by rw [hX]; exact tagL_len _ _
  have e1 : Hid (pv p1 = .slice (some ⟨w.heap.size, 0, none⟩) 32 32) := by show _ = _; rw [hp1, pv, h32]
  have e2 : Hid (pv p2 = .slice (some ⟨w.heap.size + 1 + 1, 0, none⟩) 2 2) := by show _ = _; rw [hp2]; rfl
  have w1 : IntKind.u8.wrap (i : Int) = ((UInt8.ofNat i).toNat : Int) := by rw [ofNat_u8 hi]; exact IntWalk.u8_in _ ⟨by omega, by omega⟩
  have w2 : IntKind.u8.wrap (v : Int) = ((UInt8.ofNat v).toNat : Int) := by rw [ofNat_u8 hv]; exact IntWalk.u8_in _ ⟨by omega, by omega⟩
  have hrd : ∀ w' A (C1 C2 : Array Value), w'.heap[w.heap.size]? = some (.cells C1 23 (0, 0)) → C1 = (s.map bv).toArray → w'.heap[w.heap.size + 1 + 1]? = some (.cells C2 5 (0, 0)) → C2 = ([UInt8.ofNat i, UInt8.ofNat v].map bv).toArray → RdAt w' A [pv p1, pv p2] → RdP w' A [p1, p2] := fun w' A C1 C2 h1 e1 h2 e2 h3 => ⟨h3, fun q hq => by
    subst e1 e2
    simp only [List.mem_cons, List.not_mem_nil, or_false] at hq
    rcases hq with rfl | rfl
    · rw [hp1]; exact rd_row h1
    · rw [hp2]; exact rd_row h2⟩
  clear hX hp1 hp2
  change ∀ A w', Laid2 w' → RdP w' A _ → Calls Tryd.prog 38 #[.int .u8 115, .slice A 2 2] w' _ at htag
  go_enter Tryd.func28, Tryd.ntmps28
  go_wp2_with (first
    | (go_at_call 38; refine (htag _ _ (hk.kept (by first | exact grown_refl _ _ | exact grown_alloc (grown_refl _ _) _ | exact grown_alloc (grown_alloc (grown_refl _ _) _) _ | exact grown_alloc (grown_alloc (grown_alloc (grown_refl _ _) _) _) _ | exact grown_alloc (grown_alloc (grown_alloc (grown_alloc (grown_refl _ _) _) _) _) _)) (hrd _ _ _ _ (alloc_old (alloc_old (alloc_old (alloc_at rfl)))) rfl (alloc_old (alloc_at (by simp))) rfl (by rw [e1.out, e2.out]; exact rd_row (cs := [_, _]) (alloc_at (by simp))))).mono ?_; rintro e w6 ⟨rfl, hg6⟩)
    | (refine wpList_store_row rfl 23 _ _ rfl (w.heap.size + 1) (X.map bv).toArray rfl rfl 23 _ (keep_of (alloc_old (alloc_old (alloc_at (by simp)))) hg6) (hashV_size X hXl.out) (by rw [show (X.map bv).toArray.size = 32 from by rw [List.size_toArray, List.length_map, hXl.out]]; rfl) (bv_all' _) ?_))
  refine bodyPost_ret (results_cell_row rfl _ _ (w.heap.size + 1) 23 (X.map bv).toArray (0, 0) _ rfl (setRow_heap _ _ _ _ _ _ (keep_of (alloc_old (alloc_old (alloc_at (by simp)))) hg6)) Tryd.underlying23 rfl (hashV_size X hXl.out)) rfl ?_
  exact ⟨by rw [HX.out], grown_setRow (grown_same (grown_alloc (grown_alloc (grown_alloc (grown_alloc (grown_refl _ _) _) _) _) _) hg6) (.inr (by omega)) _⟩

end Go.Proofs.YtmfnncfiaaeknaaDoor
