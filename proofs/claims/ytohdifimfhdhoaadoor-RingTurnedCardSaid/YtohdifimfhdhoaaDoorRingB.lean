/- Rings: the document's own signature at a height. -/
import Derived.Test.YtohdifimfhdhoaaDoorRingA
namespace Go.Proofs.YtohdifimfhdhoaaDoor
open Go.RowKit

theorem depthN_pow : ∀ d i, i < 2 ^ d → depthN i (2 ^ d) = d
  | 0, i, _ => depthN_1 (by simp)
  | d + 1, i, h => by
    have h0 := Nat.one_le_two_pow (n := d)
    have e : halfN (2 ^ (d + 1)) = 2 ^ d := halfN_eq (by rw [Nat.pow_succ]; omega) (by rw [Nat.pow_succ]; omega)
    have h2 : 2 ≤ 2 ^ (d + 1) := by rw [Nat.pow_succ]; omega
    rw [Nat.pow_succ] at h
    by_cases hk : i < 2 ^ d
    · rw [depthN_l h2 (by rw [e]; exact hk), e, depthN_pow d i hk]; omega
    · rw [depthN_r h2 (by rw [e]; exact hk), e, show 2 ^ (d + 1) - 2 ^ d = 2 ^ d by rw [Nat.pow_succ]; omega, depthN_pow d _ (by omega)]; omega
/-- The path of a height's key. -/
def pathR (s : List UInt8) (i : Nat) : List UInt8 := (pathL (keysR s) i).flatten
theorem pathR_n (s : List UInt8) (i : Nat) (h : i < 16) : (pathL (keysR s) i).length = 4 := by
  rw [pathL_len _ _ (by rw [keysR_len]; exact h), keysR_len]; exact depthN_pow 4 i h
theorem pathR_len (s : List UInt8) (i : Nat) (h : i < 16) : (pathR s i).length = 128 := by
  rw [pathR, flat_len _ (pathL_32 _ _), pathR_n s i h]
theorem keysR_get (s : List UInt8) (i : Nat) (h : i < 16) : (keysR s)[i]? = some (keyL (seedR s (i + 1))) := by
  rw [keysR, List.getElem?_map, List.getElem?_range h]; rfl
/-- What is signed leads up to the identity. -/
theorem up_ident (s : List UInt8) (i : Nat) (h : i < 16) : upL (keyL (seedR s (i + 1))) i 16 (pathR s i) 4 = identR s := by
  have := upL_path (keysR s) i 16 _ (keysR_len s) (keysR_get s i h)
  rwa [show depthN i 16 = 4 from depthN_pow 4 i h] at this

theorem size_sig : (Tryd.prog.info? 28).map (·.size) = some 4 := by kernel_rfl
theorem sig_all (a b c d : Value) (ha : a.oneCell' = true) (hb : b.oneCell' = true) (hc : c.oneCell' = true) (hd : d.oneCell' = true) : #[a, b, c, d].all (·.oneCell') = true := by
  rw [Array.all_eq_true_iff_forall_mem]
  intro x hx
  simp only [List.mem_toArray, List.mem_cons, List.not_mem_nil, or_false] at hx
  rcases hx with rfl | rfl | rfl | rfl <;> assumption

/-- A signature of leaf i; its blocks are of n0 on. -/
def SigV (w : World) (n0 : Nat) (s m : List UInt8) (i : Nat) (v : Value) : Prop := ∃ g1 c1 g2 c2 g3 c3 : Nat,
  v = .agg #[.int .i64 ((i + 1 : Nat) : Int), .slice (some ⟨g1, 0, none⟩) 32 c1, .slice (some ⟨g2, 0, none⟩) 32 c2, .slice (some ⟨g3, 0, none⟩) 4 c3] ∧ 32 ≤ c1 ∧ c1 ≤ maxLen ∧ 32 ≤ c2 ∧ c2 ≤ maxLen ∧ 4 ≤ c3 ∧ c3 ≤ maxLen ∧
  RdB w (some ⟨g1, 0, none⟩) (partsF (openF (seedR s (i + 1)) m) 32) ∧ RdB w (some ⟨g2, 0, none⟩) (partsF (shutF (seedR s (i + 1)) m) 32) ∧ RdB w (some ⟨g3, 0, none⟩) (pathR s i) ∧ n0 ≤ g1 ∧ n0 ≤ g2 ∧ n0 ≤ g3
theorem SigV.kept {w w' : World} {n0 : Nat} {s m : List UInt8} {i : Nat} {v : Value} (h : SigV w n0 s m i v) (hg : w.grownBy w' none) : SigV w' n0 s m i v := by
  obtain ⟨g1, c1, g2, c2, g3, c3, e, a1, a2, a3, a4, a5, a6, r1, r2, r3, n⟩ := h
  exact ⟨g1, c1, g2, c2, g3, c3, e, a1, a2, a3, a4, a5, a6, r1.kept hg, r2.kept hg, r3.kept hg, n⟩
theorem SigV.from {w : World} {n0 n1 : Nat} {s m : List UInt8} {i : Nat} {v : Value} (h : SigV w n1 s m i v) (hn : n0 ≤ n1) : SigV w n0 s m i v := by
  obtain ⟨g1, c1, g2, c2, g3, c3, e, a1, a2, a3, a4, a5, a6, r1, r2, r3, n1, n2, n3⟩ := h
  exact ⟨g1, c1, g2, c2, g3, c3, e, a1, a2, a3, a4, a5, a6, r1, r2, r3, by omega, by omega, by omega⟩
/-- Kept where a row from before is written. -/
theorem SigV.keep {w w' : World} {n0 : Nat} {s m : List UInt8} {i : Nat} {v : Value} (h : SigV w n0 s m i v) {b : Nat} (hg : w.grownBy w' (some b)) (hb : b < n0) : SigV w' n0 s m i v := by
  obtain ⟨g1, c1, g2, c2, g3, c3, e, a1, a2, a3, a4, a5, a6, r1, r2, r3, n1, n2, n3⟩ := h
  have hne : ∀ g, n0 ≤ g → ∀ ad, (some (⟨g, 0, none⟩ : Addr)) = some ad → some ad.block ≠ some b := fun g hg ad e e2 => by
    cases e
    have : g = b := Option.some.inj e2
    omega
  exact ⟨g1, c1, g2, c2, g3, c3, e, a1, a2, a3, a4, a5, a6, r1.keep hg (hne g1 n1), r2.keep hg (hne g2 n2), r3.keep hg (hne g3 n3), n1, n2, n3⟩
theorem SigV.cells {w : World} {n0 : Nat} {s m : List UInt8} {i : Nat} {v : Value} (h : SigV w n0 s m i v) : ∃ C : Array Value, v = .agg C ∧ C.size = 4 ∧ C.all (·.oneCell') = true := by
  obtain ⟨g1, c1, g2, c2, g3, c3, e, _⟩ := h
  exact ⟨_, e, rfl, sig_all _ _ _ _ rfl rfl rfl rfl⟩
/-- A call's answer that is a signature of leaf i, in blocks of its own. -/
def SigR (w0 : World) (s m : List UInt8) (i : Nat) (e : Ending) (w' : World) : Prop := ∃ v, e = .returned v ∧ SigV w' w0.heap.size s m i v ∧ w0.grownBy w' none
set_option maxRecDepth 100000 in
theorem RBy_any (A : Option Addr) (ps : List Part) (c : Nat) (s : List UInt8) (h32 : s.length = 32) (i : Nat) (hi : i < 16) (M : Option Addr) (m : List UInt8) (cm : Nat) (w : World) (hn : ps.length = 16) (hc : 16 ≤ c) (hl : leavesOf ps = keysR s) (hr : RdP w A ps) (hm : RdB w M m) (hb : m.length ≤ 1000) :
    Calls Tryd.prog 28 #[.slice A 16 c, .agg (s.map bv).toArray, .int .i64 ((i + 1 : Nat) : Int), .slice M m.length cm] w fun e w' => SigR w s m i e w' := by
  have hsd := fun w' => RseedOf_any s h32 (i + 1) (by omega) w'
  have hsg := fun w' (hg : w.grownBy w' none) => RSign_any (seedR s (i + 1)) (seedR_len _ _) M m cm w' (hm.kept hg) hb
  have hpa := fun (x : Int) w' (hx : x = (i : Int)) (hg : w.grownBy w' none) => (show Calls Tryd.prog 46 #[.slice A 16 c, .int .i64 x] w' (fun e w'' => ∃ g c3 : Nat, e = .returned (.slice (some ⟨g, 0, none⟩) 4 c3) ∧ 4 ≤ c3 ∧ c3 ≤ maxLen ∧ RdB w'' (some ⟨g, 0, none⟩) (pathR s i) ∧ w'.grownBy w'' none ∧ w'.heap.size ≤ g) from by
    subst hx
    refine (RPath_any 16 A ps c i w' hn hc (by omega) (by omega) (leaf_le hl) (hr.kept hg)).mono ?_
    rintro e w'' ⟨v, rfl, h2, h3, h4, h5⟩
    rw [hl, pathR_n s i hi] at h2
    obtain ⟨g, c3, rfl, e1, e2, e3⟩ := h2.slice (by omega)
    exact ⟨g, c3, rfl, e1, e2, e3, h3, h4 g (by simp [blocksOf])⟩)
  obtain ⟨Y, hY⟩ : ∃ Y, Y = seedR s (i + 1) := ⟨_, rfl⟩
  have HY := Lib.hid hY
  rw [← hY] at hsd hsg
  clear hY hl hr hn
  have hS : Hid (s.length = 32) := h32
  clear h32
  generalize hmn : m.length = N at hsg ⊢
  have hmn' := Lib.hid hmn
  clear hmn hm hb
  go_enter Tryd.func28, Tryd.ntmps28
  go_wp2_with (first
    | (refine wpList_load_row rfl 23 _ rfl w.heap.size rfl _ (s.map bv).toArray (0, 0) _ (alloc_old (alloc_at rfl)) Tryd.underlying23 rfl (hashV_size s hS.out) ?_)
    | (go_at_call 45; refine (hsd _).mono ?_; rintro e w5 ⟨rfl, hg5⟩; have hg5a := hg5; have hb8 : w5.heap[w.heap.size + 1]? = some (.cells #[.int .i64 0, .slice none 0 0, .slice none 0 0, .slice none 0 0] 28 (0, 0)) := keep_of (alloc_at (by simp)) hg5; replace hg5 := grown_same (grown_alloc (grown_alloc (grown_refl w none) _) _) hg5)
    | (go_at_call 44; refine (hsg _ hg5).mono ?_; rintro e w6 ⟨g1, c1, g2, c2, rfl, a1, a2, a3, a4, r1, r2, hg6, n1, n2⟩)
    | (go_at_call 46; refine (hpa _ _ (by omega) (grown_same hg5 hg6)).mono ?_; rintro e w7 ⟨g3, c3, rfl, a5, a6, r3, hg7, n3⟩)
    | (refine wpList_store_row rfl 28 _ _ rfl (w.heap.size + 1) #[.int .i64 ((i : Int) + 1), .slice (some ⟨g1, 0, none⟩) 32 c1, .slice (some ⟨g2, 0, none⟩) 32 c2, .slice (some ⟨g3, 0, none⟩) 4 c3] rfl rfl 28 _ (keep_of (keep_of hb8 hg6) hg7) size_sig rfl (sig_all _ _ _ _ rfl rfl rfl rfl) ?_))
  refine bodyPost_ret (results_cell_row rfl _ _ (w.heap.size + 1) 28 #[.int .i64 ((i : Int) + 1), .slice (some ⟨g1, 0, none⟩) 32 c1, .slice (some ⟨g2, 0, none⟩) 32 c2, .slice (some ⟨g3, 0, none⟩) 4 c3] (0, 0) _ rfl (setRow_heap _ _ _ _ _ _ (keep_of (keep_of hb8 hg6) hg7)) Tryd.underlying28 rfl size_sig) rfl ?_
  have hgS : w7.grownBy (w7.setRow (w.heap.size + 1) #[.int .i64 ((i : Int) + 1), .slice (some ⟨g1, 0, none⟩) 32 c1, .slice (some ⟨g2, 0, none⟩) 32 c2, .slice (some ⟨g3, 0, none⟩) 4 c3]) (some (w.heap.size + 1)) := grown_setRow (grown_refl _ _) (.inl rfl) _
  have hg7' := grown_same (grown_same hg5 hg6) hg7
  have hs5 : w.heap.size + 2 ≤ w5.heap.size := by have := hg5a.size; simpa using this
  have hs6 := hg6.size
  have hne : ∀ g, w5.heap.size ≤ g → ∀ ad, (some (⟨g, 0, none⟩ : Addr)) = some ad → some ad.block ≠ some (w.heap.size + 1) := fun g hg ad e e2 => by
    cases e
    have : g = w.heap.size + 1 := Option.some.inj e2
    omega
  refine ⟨_, rfl, ⟨g1, c1, g2, c2, g3, c3, by go_num, a1, a2, a3, a4, a5, a6, ?_, ?_, ?_, by omega, by omega, by omega⟩, grown_setRow hg7' (.inr (by omega)) _⟩
  · rw [← HY.out]; exact (r1.kept hg7).keep hgS (hne g1 n1)
  · rw [← HY.out]; exact (r2.kept hg7).keep hgS (hne g2 n2)
  · exact r3.keep hgS (hne g3 (by omega))
end Go.Proofs.YtohdifimfhdhoaaDoor
