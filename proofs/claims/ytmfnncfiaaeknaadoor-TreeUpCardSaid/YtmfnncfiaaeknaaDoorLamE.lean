/- A signature; the program's own. -/
import Derived.Test.YtmfnncfiaaeknaaDoorLamD
import Derived.Deep.DeepCutAuto
import Derived.Deep.CutBlock
namespace Go.Proofs.YtmfnncfiaaeknaaDoor
open Go.RowKit

/-- A row of n bytes, the first of them written. -/
def rowN (n : Nat) (l : List UInt8) : Array Value := (l.map bv ++ List.replicate (n - l.length) (Value.int .u8 0)).toArray
theorem rowN_size (n : Nat) (l : List UInt8) (h : l.length ≤ n) : (rowN n l).size = n := by simp [rowN]; omega
theorem rowN_full {n : Nat} {l : List UInt8} (h : l.length = n) : rowN n l = (l.map bv).toArray := by simp [rowN, h]
theorem rowN_put {w : World} {b n m : Nat} {t : TypeId} {l x : List UInt8} (h : w.heap[b]? = some (.cells (rowN m l) t (0, 0))) (hn : l.length = n) (hl : n + x.length ≤ m) : (w.setCells b n (x.map bv)).heap[b]? = some (.cells (rowN m (l ++ x)) t (0, 0)) := by
  subst hn
  have := heap_setCells (b := b) (t := t) (x.map bv) (l.map bv) (List.replicate x.length (Value.int .u8 0)) (List.replicate (m - (l ++ x).length) (Value.int .u8 0)) w (by simp) (by
    rw [h]
    unfold rowN
    rw [List.replicate_append_replicate, List.length_append, show x.length + (m - (l.length + x.length)) = m - l.length from by omega])
  rw [List.length_map] at this
  rw [this]
  unfold rowN
  simp
theorem other_block {w w' : World} {row : Option Nat} {g : Nat} {o : Obj} (h : w.heap[g]? = some o) (hg : w.grownBy w' row) (hne : some g ≠ row) : w'.heap[g]? = some o :=
  (hg.block _ (Array.getElem?_eq_some_iff.1 h).1 hne).trans h
theorem cell_of_cells {w : World} {g i : Nat} {C : Array Value} {t : TypeId} {fr : Nat × Nat} {v : Value} (h : w.heap[g]? = some (.cells C t fr)) (hv : C[i]? = some v) : w.cell? ⟨g, i, none⟩ = some v := by
  rw [cell_of_row w _ _ _ _ _ h]; exact hv

def partsF (f : Nat → List UInt8) (n : Nat) : List UInt8 := ((List.range n).map f).flatten
theorem partsF_next (f : Nat → List UInt8) (n : Nat) : partsF f (n + 1) = partsF f n ++ f n := by
  unfold partsF
  rw [List.range_succ, List.map_append, List.flatten_append]
  simp
theorem partsF_len (f : Nat → List UInt8) (hf : ∀ i, (f i).length = 32) : ∀ n, (partsF f n).length = n * 32
  | 0 => rfl
  | n + 1 => by rw [partsF_next, List.length_append, hf, partsF_len f hf n]; omega
def openF (s m : List UInt8) (i : Nat) : List UInt8 := secretL s i (bitL m i)
def shutF (s m : List UInt8) (i : Nat) : List UInt8 := pubL s i (1 - bitL m i)
theorem openF_len (s m : List UInt8) (i : Nat) : (openF s m i).length = 32 := tagL_len _ _
theorem shutF_len (s m : List UInt8) (i : Nat) : (shutF s m i).length = 32 := tagL_len _ _
theorem openL_flat (s m : List UInt8) : (openL s m).flatten = partsF (openF s m) 32 := by unfold openL partsF openF; exact Eq.refl _
theorem shutL_flat (s m : List UInt8) : (shutL s m).flatten = partsF (shutF s m) 32 := by unfold shutL partsF shutF; exact Eq.refl _

theorem size_one : (Tryd.prog.info? 28).map (·.size) = some 2 := by kernel_rfl
theorem info_hashrow : (Tryd.prog.info? 23).map (fun i => (i.zero, i.size, i.bytes)) = some (some (.agg (List.replicate 32 (Value.int .u8 0)).toArray), 32, 32) := by kernel_rfl
theorem made_hashes (n : Nat) : madeCells (Value.agg (List.replicate 32 (Value.int .u8 0)).toArray).cells n = (List.replicate n (Value.int .u8 0)).toArray := by
  have h : ∀ x, (List.replicate 32 (Value.int .u8 0)).toArray[x % (List.replicate 32 (Value.int .u8 0)).toArray.size]! = Value.int .u8 0 := fun x => by
    rw [List.size_toArray, List.length_replicate]
    have := Nat.mod_lt x (show 0 < 32 by omega)
    rw [getElem!_pos _ _ (by rw [List.size_toArray, List.length_replicate]; exact this), List.getElem_toArray, List.getElem_replicate]
  apply Array.ext'
  apply List.ext_getElem
  · rw [Array.length_toList, size_madeCells, List.length_replicate]
  · intro i h1 h2
    simp only [madeCells, Value.cells, h, Array.getElem_toList, Array.getElem_map, List.getElem_replicate]
theorem make_hashes (w : World) : (Instr.makeSlice 26 (.int .i64 32) (.int .i64 32)).run Tryd.prog w = .ok (.slice (some ⟨w.heap.size, 0, none⟩) 32 32) (w.alloc (.cells (rowN 1024 []) 23)) := by
  obtain ⟨i, hi, hz, hs, hb⟩ := info_parts info_hashrow
  have := run_make (P := Tryd.prog) w 26 23 i _ Tryd.underlying26 hi hz .i64 .i64 32 32 (by omega) (by omega) (by rw [hb]; decide) (by omega)
  rw [hs, show (32 : Int).toNat = 32 from rfl, show 32 * 32 = 1024 from rfl, made_hashes] at this
  exact this

/-- What stands while a signature is made: the seed's box, the result, the signature's struct, the digest. -/
structure SgH (w : World) (s D : List UInt8) (R S : Array Value) (b4 g5 g6 : Nat) (wz : World) : Prop where
  gr : w.grownBy wz none
  seed : wz.heap[w.heap.size]? = some (.cells (s.map bv).toArray 23 (0, 0))
  res : wz.heap[b4]? = some (.cells R 28 (0, 0))
  str : wz.heap[g5]? = some (.cells S 28 (0, 0))
  dig : wz.heap[g6]? = some (.cells (D.map bv).toArray 23 (0, 0))
theorem SgH.to {w : World} {s D : List UInt8} {R S : Array Value} {b4 g5 g6 : Nat} {wz wy : World} (h : SgH w s D R S b4 g5 g6 wz) {row : Option Nat} (hg : wz.grownBy wy row)
    (h0 : ∀ g, row = some g → w.heap.size ≤ g ∧ g ≠ w.heap.size ∧ g ≠ b4 ∧ g ≠ g5 ∧ g ≠ g6) : SgH w s D R S b4 g5 g6 wy := by
  have hne : ∀ x, (∀ g, row = some g → g ≠ x) → some x ≠ row := fun x hx e => hx x e.symm rfl
  exact ⟨grown_trans h.gr hg (.inr fun g e => (h0 g e).1), other_block h.seed hg (hne _ fun g e => (h0 g e).2.1), other_block h.res hg (hne _ fun g e => (h0 g e).2.2.1), other_block h.str hg (hne _ fun g e => (h0 g e).2.2.2.1), other_block h.dig hg (hne _ fun g e => (h0 g e).2.2.2.2)⟩
theorem SgH.set {w : World} {s D : List UInt8} {R S : Array Value} {b4 g5 g6 : Nat} {wz : World} (h : SgH w s D R S b4 g5 g6 wz) {b : Nat} (h0 : w.heap.size ≤ b ∧ b ≠ w.heap.size ∧ b ≠ b4 ∧ b ≠ g5 ∧ b ≠ g6) (o : Nat) (vs : List Value) : SgH w s D R S b4 g5 g6 (wz.setCells b o vs) :=
  h.to (grown_setCells (.inl rfl) vs o _ (grown_refl _ (some b))) fun g e => by cases e; exact h0
theorem SgH.kept {w : World} {s D : List UInt8} {R S : Array Value} {b4 g5 g6 : Nat} {wz wy : World} (h : SgH w s D R S b4 g5 g6 wz) (hg : wz.grownBy wy none) : SgH w s D R S b4 g5 g6 wy := h.to hg fun g e => by cases e
/-- What the regions that write a part look at. -/
theorem sg_look {w : World} {s D : List UInt8} {R S : Array Value} {b4 g5 g6 : Nat} {wz : World} (h : SgH w s D R S b4 g5 g6 wz) {i : Nat} {v : Value} (hv : S[i]? = some v) {b o n : Nat} (ht : wz.there b o n) :
    wz.cell? ⟨g5, i, none⟩ = some v ∧ wz.rangeAt w.heap.size 0 (s.map bv) ∧ wz.there b o n := ⟨cell_of_cells h.str hv, range_of_row h.seed, ht⟩
theorem lt_of_heap {w : World} {g : Nat} {o : Obj} (h : w.heap[g]? = some o) : g < w.heap.size := (Array.getElem?_eq_some_iff.1 h).1

set_option maxRecDepth 100000 in
set_option maxHeartbeats 2000000 in
theorem Sign_any (s : List UInt8) (h32 : s.length = 32) (A : Option Addr) (m : List UInt8) (c : Nat) (w : World) (hk : Laid2 w) (hr : RdB w A m) (hb : m.length ≤ 1000) :
    Calls Tryd.prog 10 #[.agg (s.map bv).toArray, .slice A m.length c] w fun e w' => ∃ g1 c1 g2 c2 : Nat, e = .returned (.agg #[.slice (some ⟨g1, 0, none⟩) 32 c1, .slice (some ⟨g2, 0, none⟩) 32 c2]) ∧ 32 ≤ c1 ∧ c1 ≤ maxLen ∧ 32 ≤ c2 ∧ c2 ≤ maxLen ∧ RdB w' (some ⟨g1, 0, none⟩) (partsF (openF s m) 32) ∧ RdB w' (some ⟨g2, 0, none⟩) (partsF (shutF s m) 32) ∧ w.grownBy w' none ∧ w.heap.size ≤ g1 ∧ w.heap.size ≤ g2 := by
  have hsec := fun i v (hi : i < 256) (hv : v < 256) w' (h : Laid2 w') => secret_any s h32 i v hi hv w' h
  have HL := Lib.hid h32
  clear h32
  have hmk := fun w' => make_hashes w'
  obtain ⟨C, hC⟩ : ∃ C, C = rowN 1024 [] := ⟨_, rfl⟩
  rw [← hC] at hmk
  have HC := Lib.hid hC
  clear hC
  go_enter Tryd.func10, Tryd.ntmps10
  go_upto_region 1 with (fail)
  have hseed0 : Hid (((w.alloc (.cells (s.map bv).toArray 23)).alloc (.cells #[.slice none 0 0, .slice none 0 0] 28)).heap[w.heap.size]? = some (.cells (s.map bv).toArray 23 (0, 0))) := alloc_old (alloc_at rfl)
  have hres0 : Hid (((w.alloc (.cells (s.map bv).toArray 23)).alloc (.cells #[.slice none 0 0, .slice none 0 0] 28)).heap[w.heap.size + 1]? = some (.cells #[.slice none 0 0, .slice none 0 0] 28 (0, 0))) := alloc_at (by simp)
  change Code.wp _ _ _ _ ((w.alloc (.cells (s.map bv).toArray 23)).alloc (.cells #[.slice none 0 0, .slice none 0 0] 28))
  have hg : w.grownBy ((w.alloc (.cells (s.map bv).toArray 23)).alloc (.cells #[.slice none 0 0, .slice none 0 0] 28)) none := grown_alloc (grown_alloc (grown_refl _ _) _) _
  have hs1 : Hid (((w.alloc (.cells (s.map bv).toArray 23)).alloc (.cells #[.slice none 0 0, .slice none 0 0] 28)).heap.size = w.heap.size + 1 + 1) := by show _ = _; simp
  generalize (w.alloc (.cells (s.map bv).toArray 23)).alloc (.cells #[.slice none 0 0, .slice none 0 0] 28) = w1 at hseed0 hres0 hg hs1 ⊢
  go_cut [5, 9, 10, 11] (fun a b c _ w' => ∃ g1 g2 g5 : Nat, a = .pointer (some ⟨g5, 0, none⟩) ∧ b = .slice (some ⟨g1, 0, none⟩) 32 32 ∧ c = .slice (some ⟨g2, 0, none⟩) 32 32 ∧ Hid (w'.heap[g1]? = some (.cells C 23 (0, 0))) ∧ Hid (w'.heap[g2]? = some (.cells C 23 (0, 0)))
    ∧ Hid (w'.heap[g5]? = some (.cells #[.slice (some ⟨g1, 0, none⟩) 32 32, .slice (some ⟨g2, 0, none⟩) 32 32] 28 (0, 0))) ∧ Hid (g1 ≠ g2 ∧ g1 ≠ g5 ∧ g2 ≠ g5 ∧ w1.heap.size ≤ g1 ∧ w1.heap.size ≤ g2 ∧ w1.heap.size ≤ g5) ∧ w1.grownBy w' none)
  case first =>
    go_region
    all_goals
      (go_wp2
       go_meet
       case rel =>
         refine ⟨_, _, _, rfl, rfl, rfl, ?h1, ?h2, ?h3, ?h4, ?h5⟩
         case h3 => first | (refine alloc_at ?_; simp; done) | (refine alloc_old (alloc_at ?_); simp; done) | (refine alloc_old (alloc_old (alloc_at ?_)); simp; done)
         case h1 => first | (refine alloc_at ?_; simp; done) | (refine alloc_old (alloc_at ?_); simp; done) | (refine alloc_old (alloc_old (alloc_at ?_)); simp; done)
         case h2 => first | (refine alloc_at ?_; simp; done) | (refine alloc_old (alloc_at ?_); simp; done) | (refine alloc_old (alloc_old (alloc_at ?_)); simp; done)
         case h4 => show _ ∧ _; omega
         case h5 => exact grown_drew (grown_alloc (grown_alloc (grown_alloc (grown_refl _ _) _) _) _))
  case rest =>
    clear hmk
    obtain ⟨g1, g2, g5, rfl, rfl, rfl, hC1, hC2, hG5, hne, hgc⟩ := hcut
    have hd := digest_any A m c wc (hk.kept (grown_same hg hgc)) (hr.kept (grown_same hg hgc)) hb
    have hbit0 := fun k (h : k < 256) w' => bit_any (tagL 109 m) (tagL_len _ _) k h w'
    obtain ⟨X, hX⟩ : ∃ X, X = tagL 109 m := ⟨_, rfl⟩
    rw [← hX] at hd hbit0
    have hXl : Hid (X.length = 32) := by rw [hX]; exact tagL_len _ _
    have hbl : ∀ k, (X.getD (k / 8) 0).toNat / 2 ^ (7 - k % 8) % 2 = bitL m k := fun k => by rw [hX]; rfl
    simp only [hbl] at hbit0
    clear hX hbl
    go_wp2_with (first
      | (go_at_call 30; refine hd.mono ?_; rintro e w6 ⟨rfl, hg6⟩)
      | (refine wpList_store_row rfl 23 _ _ rfl (w6.heap.size) (X.map bv).toArray rfl rfl 23 _ (alloc_at rfl) (hashV_size X hXl.out) (by rw [show (X.map bv).toArray.size = 32 from by rw [List.size_toArray, List.length_map, hXl.out]]; rfl) (bv_all' _) ?_; generalize hw3 : World.setRow _ _ _ = w3; have HW3 := new_hash hw3; clear hw3))
    have hg36 : wc.grownBy w3 none := grown_same hg6 HW3.2
    have l1 := lt_of_heap hC1.out
    have l2 := lt_of_heap hC2.out
    have l5 := lt_of_heap hG5.out
    have l6 := hg6.size
    obtain ⟨S, hS⟩ : ∃ S : Array Value, S = #[.slice (some ⟨g1, 0, none⟩) 32 32, .slice (some ⟨g2, 0, none⟩) 32 32] := ⟨_, rfl⟩
    rw [← hS] at hG5
    have hS0 : S[0]? = some (.slice (some ⟨g1, 0, none⟩) 32 32) := by rw [hS]; rfl
    have hS1 : S[1]? = some (.slice (some ⟨g2, 0, none⟩) 32 32) := by rw [hS]; rfl
    have HS := Lib.hid hS
    have hsg : SgH w s X #[.slice none 0 0, .slice none 0 0] S (w.heap.size + 1) g5 w6.heap.size w3 :=
      ⟨grown_same hg (grown_same hgc hg36), keep_of (keep_of hseed0.out hgc) hg36, keep_of (keep_of hres0.out hgc) hg36, keep_of hG5.out hg36, HW3.1⟩
    have hr1 : Hid (w3.heap[g1]? = some (.cells (rowN 1024 (partsF (openF s m) 0)) 23 (0, 0))) := by show _ = _; rw [show partsF (openF s m) 0 = [] from rfl, ← HC.out]; exact keep_of hC1.out hg36
    have hr2 : Hid (w3.heap[g2]? = some (.cells (rowN 1024 (partsF (shutF s m) 0)) 23 (0, 0))) := by show _ = _; rw [show partsF (shutF s m) 0 = [] from rfl, ← HC.out]; exact keep_of hC2.out hg36
    obtain ⟨n1, n2, n3, n4, n5, n6⟩ := hne.out
    have hz := hs1.out
    have a1 : Hid (w.heap.size ≤ g1 ∧ g1 ≠ w.heap.size ∧ g1 ≠ w.heap.size + 1 ∧ g1 ≠ g5 ∧ g1 ≠ w6.heap.size) := by show _ ∧ _; omega
    have a2 : Hid (w.heap.size ≤ g2 ∧ g2 ≠ w.heap.size ∧ g2 ≠ w.heap.size + 1 ∧ g2 ≠ g5 ∧ g2 ≠ w6.heap.size) := by show _ ∧ _; omega
    have a3 : Hid (g1 ≠ g2) := n1
    clear hS hC1 hC2 hG5 hne hs1 hz n1 n2 n3 n4 n5 n6 l1 l2 l5 l6 hg36 HW3 hd
    generalize w6.heap.size = g6 at hsg a1 a2 ⊢
    go_loopw [14] (fun i wz => ∃ k : Nat, k ≤ 32 ∧ i = .int .i64 k ∧ Hid (wz.heap[g1]? = some (.cells (rowN 1024 (partsF (openF s m) k)) 23 (0, 0))) ∧ Hid (wz.heap[g2]? = some (.cells (rowN 1024 (partsF (shutF s m) k)) 23 (0, 0)))
      ∧ SgH w s X #[.slice none 0 0, .slice none 0 0] S (w.heap.size + 1) g5 g6 wz) (fun i _ => 32 - (intOf i).toNat)
    case atStart => exact ⟨0, by omega, rfl, hr1, hr2, hsg⟩
    case round =>
      clear hr1 hr2 hsg
      obtain ⟨k, hkl, rfl, hr1, hr2, hsg⟩ := hrel
      by_cases hlt : k < 32
      · have hlt' : (k : Int) < 32 := by omega
        have hbit := fun w' => hbit0 k (by omega) w'
        obtain ⟨b, hb'⟩ : ∃ b, b = bitL m k := ⟨_, rfl⟩
        rw [← hb'] at hbit
        have hb2 : b = 0 ∨ b = 1 := by rw [hb']; exact bitL_lt _ _
        obtain ⟨d, hd'⟩ : ∃ d, d = 1 - b := ⟨_, rfl⟩
        have hwr : IntKind.i64.wrap (1 - (b : Int)) = (d : Int) := by
          rw [show (1 : Int) - (b : Int) = (d : Int) by omega]
          exact IntWalk.i64_in _ ⟨by omega, by omega⟩
        have hsecO := fun w' h => hsec k b (by omega) (by omega) w' h
        have hsecS := fun w' h => hsec k d (by omega) (by omega) w' h
        obtain ⟨Y, hY⟩ : ∃ Y, Y = secretL s k b := ⟨_, rfl⟩
        obtain ⟨Z, hZ⟩ : ∃ Z, Z = secretL s k d := ⟨_, rfl⟩
        have hpub := fun w' h => public_any Z (by rw [hZ]; exact tagL_len _ _) w' h
        obtain ⟨T, hT⟩ : ∃ T, T = publicL Z := ⟨_, rfl⟩
        rw [← hY] at hsecO
        rw [← hZ] at hsecS
        rw [← hT] at hpub
        have hYl : Hid (Y.length = 32) := by rw [hY]; exact tagL_len _ _
        have hTl : Hid (T.length = 32) := by rw [hT]; exact tagL_len _ _
        have HY : Hid (partsF (openF s m) (k + 1) = partsF (openF s m) k ++ Y) := by show _ = _; rw [partsF_next, hY, hb']; rfl
        have HT : Hid (partsF (shutF s m) (k + 1) = partsF (shutF s m) k ++ T) := by show _ = _; rw [partsF_next, hT, hZ, hd', hb']; rfl
        clear hY hZ hT hb' hd'
        have hi0 : ((k : Nat) : Int) < 256 := by omega
        go_wp2_with (first
          | (refine wpList_load_row rfl 23 _ rfl g6 rfl _ (X.map bv).toArray (0, 0) _ hsg.dig Tryd.underlying23 rfl (hashV_size X hXl.out) ?_)
          | (go_at_call 31; refine (hbit _).mono ?_; rintro e w7 ⟨rfl, hg7⟩))
        replace hsg := hsg.kept hg7
        replace hr1 : Hid (w7.heap[g1]? = _) := keep_of hr1.out hg7
        replace hr2 : Hid (w7.heap[g2]? = _) := keep_of hr2.out hg7
        have hu := Tryd.underlying23
        have hi1 := info_hash s HL.out
        have hi2 := info_hash Y hYl.out
        have hn2 : (Y.map bv).length = 32 := by rw [List.length_map, hYl.out]
        have ho2 : ∀ u ∈ Y.map bv, u.oneCell' = true := bv_one _
        have hlen1 := partsF_len (openF s m) (openF_len s m) k
        have hlen2 := partsF_len (shutF s m) (shutF_len s m) k
        have hsz1 : k * 32 + 32 ≤ (rowN 1024 (partsF (openF s m) k)).size := by rw [rowN_size _ _ (by omega)]; omega
        have hsz2 : k * 32 + 32 ≤ (rowN 1024 (partsF (shutF s m) k)).size := by rw [rowN_size _ _ (by omega)]; omega
        have hkr := hk.kept (grown_drew hsg.gr)
        go_region_held3 (fun w' => w'.cell? ⟨g5, 0, none⟩ = some (.slice (some ⟨g1, 0, none⟩) 32 32) ∧ w'.rangeAt w.heap.size 0 (s.map bv) ∧ w'.there g1 (k * 32) 32)
          (first
            | exact sg_look (hsg.kept (grown_drew (grown_refl _ _))) hS0 (there_of (w := w7.drew) hr1.out hsz1)
            | exact sg_look (hsg.kept hG8) hS0 (there_of (keep_of hr1.out hG8) hsz1)
            | exact sg_look ((hsg.kept hG8).set a1.out _ _) hS0 (World.there_setCells (there_of (keep_of hr1.out hG8) hsz1) _ _ _))
          ((first
            | (go_simp; go_at_call 28; refine (hsecO _ hkr).mono ?_; rintro e w8 ⟨rfl, hg8⟩; have hG8 : w7.grownBy w8 none := grown_same (grown_drew (grown_refl _ _)) hg8)))
        have hr1' := rowN_put (keep_of hr1.out hG8) hlen1 (x := Y) (by rw [hYl.out]; omega)
        have hr2' : (w8.setCells g1 (k * 32) (Y.map bv)).heap[g2]? = _ := (other_setCells (Ne.symm a3.out) _ _ _).trans (keep_of hr2.out hG8)
        have hsg' := (hsg.kept hG8).set a1.out (k * 32) (Y.map bv)
        rw [← HY.out] at hr1'
        generalize w8.setCells g1 (k * 32) (Y.map bv) = w9 at hr1' hr2' hsg' ⊢
        clear hu hi1 hi2 hn2 ho2 hkr hsz1 hr1 hr2 hsg hg7
        have HR1 := Lib.hid hr1'
        clear hr1'
        go_wp2_with fail
        have hu := Tryd.underlying23
        have hi1 := info_hash s HL.out
        have hi2 := info_hash T hTl.out
        have hn2 : (T.map bv).length = 32 := by rw [List.length_map, hTl.out]
        have ho2 : ∀ u ∈ T.map bv, u.oneCell' = true := bv_one _
        have hkr := hk.kept (grown_drew hsg'.gr)
        go_region_held3 (fun w' => w'.cell? ⟨g5, 1, none⟩ = some (.slice (some ⟨g2, 0, none⟩) 32 32) ∧ w'.rangeAt w.heap.size 0 (s.map bv) ∧ w'.there g2 (k * 32) 32)
          (first
            | exact sg_look (hsg'.kept (grown_drew (grown_refl _ _))) hS1 (there_of (w := w9.drew) hr2' hsz2)
            | exact sg_look (hsg'.kept hG11) hS1 (there_of (keep_of hr2' hG11) hsz2)
            | exact sg_look (hsg'.kept hG10) hS1 (there_of (keep_of hr2' hG10) hsz2)
            | exact sg_look ((hsg'.kept hG11).set a2.out _ _) hS1 (World.there_setCells (there_of (keep_of hr2' hG11) hsz2) _ _ _))
          ((first
            | (go_simp; go_at_call 28; refine (hsecS _ hkr).mono ?_; rintro e w10 ⟨rfl, hg10⟩; have hG10 : w9.grownBy w10 none := grown_same (grown_drew (grown_refl _ _)) hg10)
            | (go_simp; go_at_call 27; refine (hpub _ (hkr.kept hg10)).mono ?_; rintro e w11 ⟨rfl, hg11⟩; have hG11 : w9.grownBy w11 none := grown_same hG10 hg11)))
        have hr2'' := rowN_put (keep_of hr2' hG11) hlen2 (x := T) (by rw [hTl.out]; omega)
        have hr1'' : (w11.setCells g2 (k * 32) (T.map bv)).heap[g1]? = _ := (other_setCells a3.out _ _ _).trans (keep_of HR1.out hG11)
        have hsg'' := (hsg'.kept hG11).set a2.out (k * 32) (T.map bv)
        rw [← HT.out] at hr2''
        generalize w11.setCells g2 (k * 32) (T.map bv) = w12 at hr1'' hr2'' hsg'' ⊢
        clear hu hi1 hi2 hn2 ho2 hkr hsz2 hr2' hsg'
        have HR2 := Lib.hid hr2''
        have HR11 := Lib.hid hr1''
        clear hr1'' hr2''
        go_wp2
        go_roundw
        case rel => exact ⟨k + 1, by omega, by go_num, HR11, HR2, hsg''⟩
        case measure => simp [intOf]; omega
      · have hkk : k = 32 := by omega
        subst hkk
        rw [show ((32 : Nat) : Int) = 32 from rfl]
        have hL1 : (partsF (openF s m) 32).length = 1024 := partsF_len _ (openF_len s m) 32
        have hL2 : (partsF (shutF s m) 32).length = 1024 := partsF_len _ (shutF_len s m) 32
        rw [rowN_full hL1] at hr1
        rw [rowN_full hL2] at hr2
        have hsS : Hid ((Tryd.prog.info? 28).map (·.size) = some S.size) := by show _ = _; rw [HS.out]; exact size_one
        have hsA : Hid (S.all (·.oneCell') = true) := by show _ = _; rw [HS.out]; simp [Value.oneCell']
        go_wp2_with (first
          | (refine wpList_load_row rfl 28 _ rfl g5 rfl _ S (0, 0) _ hsg.str Tryd.underlying28 rfl hsS.out ?_)
          | (refine wpList_store_row rfl 28 _ _ rfl (w.heap.size + 1) S rfl rfl 28 _ hsg.res hsS.out (by rw [HS.out]; rfl) hsA.out ?_))
        refine bodyPost_ret (results_cell_row rfl _ _ (w.heap.size + 1) 28 S (0, 0) _ rfl (setRow_heap _ _ _ _ _ _ hsg.res) Tryd.underlying28 rfl hsS.out) rfl ?_
        have e1 : (wr.setRow (w.heap.size + 1) S).heap[g1]? = _ := (setRow_other _ _ _ _ a1.out.2.2.1).trans hr1.out
        have e2 : (wr.setRow (w.heap.size + 1) S).heap[g2]? = _ := (setRow_other _ _ _ _ a2.out.2.2.1).trans hr2.out
        exact ⟨_, 32, _, 32, by rw [HS.out], by omega, by unfold maxLen; omega, by omega, by unfold maxLen; omega, rd_row e1, rd_row e2, grown_setRow hsg.gr (.inr (by omega)) _, a1.out.1, a2.out.1⟩
end Go.Proofs.YtmfnncfiaaeknaaDoor
