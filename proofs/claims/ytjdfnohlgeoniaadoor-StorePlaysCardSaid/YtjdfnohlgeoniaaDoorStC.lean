/- The document's own bound and root of a store. -/
import Derived.Test.YtjdfnohlgeoniaaDoorStB
namespace Go.Proofs.YtjdfnohlgeoniaaDoor
open Go.RowKit

/-- The root of a store, as a plain function. -/
def boundL (n : Nat) (r : List UInt8) : List UInt8 := tagL 83 (putL n ++ r)
theorem boundL_len (n : Nat) (r : List UInt8) : (boundL n r).length = 32 := tagL_len _ _

set_option maxRecDepth 100000 in
set_option maxHeartbeats 1000000 in
theorem RBound_any (n : Nat) (r : List UInt8) (h32 : r.length = 32) (w : World) :
    Calls Tryd.prog 36 #[.int .i64 (n : Int), .agg (r.map bv).toArray] w fun e w' => e = .returned (.agg ((boundL n r).map bv).toArray) ∧ w.grownBy w' none := by
  have hput : ∀ W, Calls Tryd.prog 48 #[.int .i64 (n : Int)] W fun e w' => ∃ A c, e = .returned (.slice A (putL n).length c) ∧ RdB w' A (putL n) ∧ W.grownBy w' none := fun W => (Put_refN n W).mono (by
    rintro e w' ⟨v, rfl, ho, hg⟩
    obtain ⟨A, c, rfl, -, -, hr⟩ := ho.slice
    exact ⟨A, c, rfl, hr, hg.nil⟩)
  have hpl := putL_len n
  have htag := fun (A1 : Option Addr) (c1 : Nat) A w' (h3 : RdP w' A [(A1, putL n, c1), (some ⟨w.heap.size, 0, none⟩, r, 32)]) => RTagged_any 83 A [(A1, putL n, c1), (some ⟨w.heap.size, 0, none⟩, r, 32)] 2 w' h3 (by simp [catP]; omega) (by simp)
  have hX : ∀ (A1 : Option Addr) (c1 : Nat), tagL 83 (catP [(A1, putL n, c1), (some ⟨w.heap.size, 0, none⟩, r, 32)]) = boundL n r := fun A1 c1 => by simp [catP, boundL]
  simp only [hX] at htag
  have hXl : Hid ((boundL n r).length = 32) := boundL_len _ _
  generalize boundL n r = X at *
  have hrd : ∀ (A1 : Option Addr) (c1 : Nat) w' A (C1 : Array Value), RdB w' A1 (putL n) → w'.heap[w.heap.size]? = some (.cells C1 40 (0, 0)) → C1 = (r.map bv).toArray → RdAt w' A [.slice A1 (putL n).length c1, .slice (some ⟨w.heap.size, 0, none⟩) 32 32] → RdP w' A [(A1, putL n, c1), (some ⟨w.heap.size, 0, none⟩, r, 32)] := fun A1 c1 w' A C1 h0 h1 e1 h3 => ⟨by simpa [pv, h32] using h3, fun q hq => by
    subst e1
    simp only [List.mem_cons, List.not_mem_nil, or_false] at hq
    rcases hq with rfl | rfl
    · exact h0
    · exact rd_row h1⟩
  generalize hL : (putL n).length = L at *
  change ∀ A1 c1 A w', RdP w' A _ → Calls Tryd.prog 47 #[.int .u8 83, .slice A 2 2] w' _ at htag
  clear hX hL
  have hS : Hid (r.length = 32) := h32
  clear h32 hpl
  go_enter Tryd.func36, Tryd.ntmps36
  go_upto_region 1 with (fail)
  generalize hW : World.alloc (World.alloc w _) _ = W
  have hb : W.drew.heap[w.heap.size]? = some (.cells (r.map bv).toArray 40 (0, 0)) := by rw [← hW]; exact alloc_old (alloc_at rfl)
  have hb6 : ∃ C, C.size = 32 ∧ W.drew.heap[w.heap.size + 1]? = some (.cells C 40 (0, 0)) := by rw [← hW]; exact ⟨_, rfl, alloc_at (by simp)⟩
  have hgW : w.grownBy W.drew none := by rw [← hW]; exact grown_drew (grown_alloc (grown_alloc (grown_refl _ _) _) _)
  obtain ⟨C6, hC6, hb6⟩ := hb6
  clear hW
  have hst : ∀ w', w'.heap[w.heap.size + 1]? = some (.cells C6 40 (0, 0)) → Sem.run Tryd.prog (storeCells ⟨w.heap.size + 1, 0, none⟩ (X.map bv)) w' = .ok () (w'.setRow (w.heap.size + 1) (X.map bv).toArray) := fun w' h => by
    have := run_storeCells_from (P := Tryd.prog) (w.heap.size + 1) 40 (X.map bv) 0 C6 w' h (by rw [List.length_map, hXl.out, hC6]) (fun x hx => by obtain ⟨b, -, rfl⟩ := List.mem_map.1 hx; rfl)
    simpa using this
  go_region_with (first
    | (go_at_call 48; refine (hput _).mono ?_; rintro e w5 ⟨A1, c1, rfl, hr1, hg5⟩)
    | (go_at_call 47; refine (htag A1 c1 _ _ (hrd _ _ _ _ _ (hr1.kept (grown_alloc (grown_refl _ _) _)) (alloc_old (keep_of hb hg5)) rfl (rd_row (cs := [_, _]) (alloc_at (by simp))))).mono ?_; rintro e w6 ⟨rfl, hg6⟩; have hb7 := keep_of (alloc_old (o' := .cells #[.slice A1 L c1, .slice (some ⟨w.heap.size, 0, none⟩) 32 32] 51) (keep_of hb6 hg5)) hg6; have hst6 := hst _ hb7))
  all_goals
    clear hst hst6 htag hrd hput
    go_wp2
    refine bodyPost_ret (results_cell_row rfl _ _ (w.heap.size + 1) 40 (X.map bv).toArray (0, 0) _ rfl (setRow_heap _ _ _ _ _ _ hb7) Tryd.underlying40 rfl (hashV_size X hXl.out)) rfl ?_
    exact ⟨rfl, grown_setRow (grown_same hgW (grown_same hg5 (grown_same (grown_alloc (grown_refl _ _) _) hg6))) (.inr (by omega)) _⟩

theorem leaves_len {ps : List Kv} {qs : List Part} (h : leavesOf qs = leavesL ps) : qs.length = ps.length := by
  have := congrArg List.length h
  unfold leavesOf leavesL at this
  simpa using this
theorem leafL_le (p : Kv) : (leafL p).length ≤ p.1.length + p.2.length + 12 := by
  have h1 := putL_len p.1.length
  have h2 := putL_len p.2.length
  rw [leafL_eq, List.length_append]; unfold textL; rw [List.length_append, List.length_append]; omega
theorem leaves_le {ps : List Kv} {qs : List Part} (h : leavesOf qs = leavesL ps) (hs : ∀ p ∈ ps, p.1.length ≤ 100 ∧ p.2.length ≤ 100) : ∀ q ∈ qs, q.2.1.length ≤ 1000 := fun q hq => by
  have h1 : q.2.1 ∈ leavesL ps := by rw [← h]; exact List.mem_map.2 ⟨q, hq, rfl⟩
  obtain ⟨p, hp, e⟩ := List.mem_map.1 h1
  have := leafL_le p
  have := hs p hp
  rw [← e]; omega
/-- The document's root of a store, as a plain function. -/
def storeRootL (ps : List Kv) : List UInt8 := boundL ps.length (rootL (leavesL ps))
set_option maxRecDepth 100000 in
set_option maxHeartbeats 1000000 in
theorem RStoreRoot_any (A : Option Addr) (c : Nat) (ps : List Kv) (w : World) (hr : RdQ w A ps) (hn : ps.length ≤ 100) (hs : ∀ p ∈ ps, p.1.length ≤ 100 ∧ p.2.length ≤ 100) :
    Calls Tryd.prog 21 #[.slice A ps.length c] w fun e w' => e = .returned (.agg ((storeRootL ps).map bv).toArray) ∧ w.grownBy w' none := by
  have hL := fun W (hg : w.grownBy W none) => Rleaves_any A c ps W (hr.kept hg) hn hs
  have hR := fun (A1 : Option Addr) (qs : List Part) (c1 : Nat) (W : World) (h1 : qs.length ≤ c1) (h2 : RdP W A1 qs) (h3 : leavesOf qs = leavesL ps) => RRoot_any _ A1 qs c1 W rfl h1 (by rw [leaves_len h3]; omega) (leaves_le h3 hs) h2
  have hB := fun W => RBound_any ps.length (rootL (leavesL ps)) (rootL_len _) W
  obtain ⟨X, hX⟩ : ∃ X, X = boundL ps.length (rootL (leavesL ps)) := ⟨_, rfl⟩
  have hXl : Hid (X.length = 32) := by rw [hX]; exact boundL_len _ _
  have HX : Hid (X = storeRootL ps) := hX
  rw [← hX] at hB
  clear hX hr hn hs
  go_enter Tryd.func21, Tryd.ntmps21
  go_wp2_with (first
    | (go_at_call 38; refine (hL _ (grown_alloc (grown_refl _ _) _)).mono ?_; rintro e w1 ⟨A1, qs, c1, rfl, hc1, hq1, hq2, hg1⟩)
    | (go_at_call 37; refine (hR _ qs c1 _ hc1 hq1 hq2).mono ?_; rw [hq2]; rintro e w2 ⟨rfl, hg2⟩)
    | (go_at_call 36; refine (hB _).mono ?_; rintro e w3 ⟨rfl, hg3⟩; have hb := keep_of (keep_of (keep_of (alloc_at rfl) hg1) hg2) hg3)
    | (refine wpList_store_row rfl 40 _ _ rfl w.heap.size (X.map bv).toArray rfl rfl 40 _ hb (hashV_size X hXl.out) (by rw [show (X.map bv).toArray.size = 32 from by rw [List.size_toArray, List.length_map, hXl.out]]; rfl) (bv_all' _) ?_))
  refine bodyPost_ret (results_cell_row rfl _ _ w.heap.size 40 (X.map bv).toArray (0, 0) _ rfl (setRow_heap _ _ _ _ _ _ hb) Tryd.underlying40 rfl (hashV_size X hXl.out)) rfl ?_
  exact ⟨by rw [HX.out], grown_setRow (grown_same (grown_alloc (grown_refl _ _) _) (grown_same hg1 (grown_same hg2 hg3))) (.inr (by omega)) _⟩
end Go.Proofs.YtjdfnohlgeoniaaDoor
