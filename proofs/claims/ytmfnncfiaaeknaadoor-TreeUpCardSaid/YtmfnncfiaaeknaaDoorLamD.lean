/- A seed's key; the program's own. -/
import Derived.Test.YtmfnncfiaaeknaaDoorLamC
import Derived.Deep.RegionHeld3
namespace Go.Proofs.YtmfnncfiaaeknaaDoor
open Go.RowKit

theorem zero_publics (w : World) : (zeroValue 55).run Tryd.prog w = .ok (.agg (List.replicate 2048 (Value.int .u8 0)).toArray) w := by kernel_rfl
/-- A row of 2048 bytes, the first of them written. -/
def rowP (l : List UInt8) : Array Value := (l.map bv ++ List.replicate (2048 - l.length) (Value.int .u8 0)).toArray
theorem rowP_size (l : List UInt8) (h : l.length ≤ 2048) : (rowP l).size = 2048 := by simp [rowP]; omega
theorem rowP_full {l : List UInt8} (h : l.length = 2048) : rowP l = (l.map bv).toArray := by simp [rowP, h]
theorem rowP_put {w : World} {b n : Nat} {t : TypeId} {l x : List UInt8} (h : w.heap[b]? = some (.cells (rowP l) t (0, 0))) (hn : l.length = n) (hl : n + x.length ≤ 2048) : (w.setCells b n (x.map bv)).heap[b]? = some (.cells (rowP (l ++ x)) t (0, 0)) := by
  subst hn
  have := heap_setCells (b := b) (t := t) (x.map bv) (l.map bv) (List.replicate x.length (Value.int .u8 0)) (List.replicate (2048 - (l ++ x).length) (Value.int .u8 0)) w (by simp) (by
    rw [h]
    unfold rowP
    rw [List.replicate_append_replicate, List.length_append, show x.length + (2048 - (l.length + x.length)) = 2048 - l.length from by omega])
  rw [List.length_map] at this
  rw [this]
  unfold rowP
  simp
def pubF (s : List UInt8) (n : Nat) : List UInt8 := ((List.range n).flatMap fun i => [pubL s i 0, pubL s i 1]).flatten
theorem pubF_next (s : List UInt8) (n : Nat) : pubF s (n + 1) = pubF s n ++ pubL s n 0 ++ pubL s n 1 := by
  unfold pubF
  rw [List.range_succ, List.flatMap_append, List.flatten_append]
  simp
theorem pubL_len (s : List UInt8) (i v : Nat) : (pubL s i v).length = 32 := tagL_len _ _
theorem pubF_len (s : List UInt8) : ∀ n, (pubF s n).length = n * 64
  | 0 => rfl
  | n + 1 => by rw [pubF_next, List.length_append, List.length_append, pubL_len, pubL_len, pubF_len s n]; omega
theorem keyL_pubF (s : List UInt8) : keyL s = tagL 107 (pubF s 32) := by unfold keyL keyOf; exact congrArg (tagL 107) (show (pubs s).flatten = pubF s 32 by unfold pubs pubF; exact congrArg List.flatten (Eq.refl _))
/-- The two parts of a bit, as far as they are written. -/
def pairP (f : Nat → List UInt8) (v : Nat) : List UInt8 := if v = 0 then [] else if v = 1 then f 0 else f 0 ++ f 1
theorem pairP_len (f : Nat → List UInt8) (hf : ∀ v, (f v).length = 32) (v : Nat) (h : v ≤ 2) : (pairP f v).length = v * 32 := by
  unfold pairP
  split
  · subst v; rfl
  · split
    · subst v; rw [hf]
    · rw [List.length_append, hf, hf]; omega
theorem pairP_next (f : Nat → List UInt8) (v : Nat) (h : v < 2) : pairP f (v + 1) = pairP f v ++ f v := by
  unfold pairP
  rcases (show v = 0 ∨ v = 1 by omega) with e | e <;> subst e <;> simp
theorem pairP_0 (f : Nat → List UInt8) : pairP f 0 = [] := rfl
theorem pairP_2 (f : Nat → List UInt8) : pairP f 2 = f 0 ++ f 1 := rfl

set_option maxRecDepth 100000 in
set_option maxHeartbeats 2000000 in
theorem Key_any (s : List UInt8) (h32 : s.length = 32) (w : World) (hk : Laid2 w) :
    Calls Tryd.prog 9 #[.agg (s.map bv).toArray] w fun e w' => e = .returned (.agg ((keyL s).map bv).toArray) ∧ w.grownBy w' none := by
  have hsec := fun i v (hi : i < 256) (hv : v < 256) w' (h : Laid2 w') => secret_any s h32 i v hi hv w' h
  have HL := Lib.hid h32
  clear h32
  obtain ⟨C, hC⟩ : ∃ C, C = (List.replicate 2048 (Value.int .u8 0)) := ⟨_, rfl⟩
  have hz := fun w' => zero_publics w'
  rw [← hC] at hz
  have HC := Lib.hid hC
  clear hC
  go_enter Tryd.func9, Tryd.ntmps9
  go_wp2
  have h0 : (w.alloc (.cells (s.map bv).toArray 23)).heap[w.heap.size]? = some (.cells (s.map bv).toArray 23 (0, 0)) := alloc_at rfl
  have hR : Hid (((w.alloc (.cells (s.map bv).toArray 23)).alloc (.cells (rowH []) 23)).heap[w.heap.size + 1]? = some (.cells (rowH []) 23 (0, 0))) := alloc_at (by simp)
  have hS : Hid (((w.alloc (.cells (s.map bv).toArray 23)).alloc (.cells (rowH []) 23)).heap[w.heap.size]? = some (.cells (s.map bv).toArray 23 (0, 0))) := alloc_old h0
  have hg : w.grownBy ((w.alloc (.cells (s.map bv).toArray 23)).alloc (.cells (rowH []) 23)) none := grown_alloc (grown_alloc (grown_refl _ _) _) _
  have hs1 : ((w.alloc (.cells (s.map bv).toArray 23)).alloc (.cells (rowH []) 23)).heap.size = w.heap.size + 1 + 1 := by simp
  change Code.wp _ _ _ _ (((w.alloc (.cells (s.map bv).toArray 23)).alloc (.cells (rowH []) 23)).alloc (.cells C.toArray 55))
  clear h0
  generalize (w.alloc (.cells (s.map bv).toArray 23)).alloc (.cells (rowH []) 23) = w1 at hR hS hg hs1 ⊢
  have hP : Hid ((w1.alloc (.cells C.toArray 55)).heap[w.heap.size + 1 + 1]? = some (.cells (rowP (pubF s 0)) 55 (0, 0))) := by
    show _ = _
    rw [HC.out]
    exact alloc_at hs1.symm
  have hg2 : w1.grownBy (w1.alloc (.cells C.toArray 55)) none := grown_alloc (grown_refl _ _) _
  have HS1 := Lib.hid hs1
  clear hs1 hz
  generalize w1.alloc (.cells C.toArray 55) = w2 at hP hg2 ⊢
  go_loopw [6] (fun i wz => ∃ k : Nat, k ≤ 32 ∧ i = .int .i64 k ∧ Hid (wz.heap[w.heap.size + 1 + 1]? = some (.cells (rowP (pubF s k)) 55 (0, 0))) ∧ w1.grownBy wz none) (fun i _ => 32 - (intOf i).toNat)
  case atStart => exact ⟨0, by omega, rfl, hP, hg2⟩
  case round =>
    clear hP hg2
    obtain ⟨k, hkl, rfl, hP, hg2⟩ := hrel
    by_cases hlt : k < 32
    · have hlt' : (k : Int) < 32 := by omega
      go_wp2
      replace hP : Hid (wr.heap[w.heap.size + 1 + 1]? = some (.cells (rowP (pubF s k ++ pairP (pubL s k) 0)) 55 (0, 0))) := by
        show _ = _
        rw [pairP_0, List.append_nil]; exact hP.out
      go_loopw [9] (fun i wz => ∃ v : Nat, v ≤ 2 ∧ i = .int .i64 v ∧ Hid (wz.heap[w.heap.size + 1 + 1]? = some (.cells (rowP (pubF s k ++ pairP (pubL s k) v)) 55 (0, 0))) ∧ w1.grownBy wz none) (fun i _ => 2 - (intOf i).toNat)
      case atStart => exact ⟨0, by omega, rfl, hP, hg2⟩
      case round =>
        clear hP hg2
        obtain ⟨v, hvl, rfl, hP, hg2⟩ := hrel
        by_cases hv2 : v < 2
        · have hv2' : (v : Int) < 2 := by omega
          go_wp2_with fail
          have hgw := grown_same hg hg2
          have hkr := hk.kept (grown_drew hgw)
          have hu := Tryd.underlying23
          have hi1 := info_hash s HL.out
          have hsec1 := fun w' h => hsec k v (by omega) (by omega) w' h
          obtain ⟨Y, hY⟩ : ∃ Y, Y = secretL s k v := ⟨_, rfl⟩
          have hpub := fun w' h => public_any Y (by rw [hY]; exact tagL_len _ _) w' h
          obtain ⟨X, hX⟩ : ∃ X, X = publicL Y := ⟨_, rfl⟩
          rw [← hY] at hsec1
          rw [← hX] at hpub
          have hXl : Hid (X.length = 32) := by rw [hX]; exact tagL_len _ _
          have HX : Hid (pairP (pubL s k) (v + 1) = pairP (pubL s k) v ++ X) := by show _ = _; rw [pairP_next _ v hv2, hX, hY]; rfl
          clear hX hY
          have hi2 := info_hash X hXl.out
          have hn2 : (X.map bv).length = 32 := by rw [List.length_map, hXl.out]
          have ho2 : ∀ u ∈ X.map bv, u.oneCell' = true := bv_one _
          have hra : ∀ w', w1.grownBy w' none → w'.rangeAt w.heap.size 0 (s.map bv) := fun w' h => range_of_row (keep_of hS.out h)
          have hth : ∀ (w' : World) (C : Array Value), w'.heap[w.heap.size + 1 + 1]? = some (.cells C 55 (0, 0)) → C.size = 2048 → w'.there (w.heap.size + 1 + 1) (k * 64 + v * 32) 32 := fun w' C h hC => there_of h (by omega)
          have hrow2 : (rowP (pubF s k ++ pairP (pubL s k) v)).size = 2048 := rowP_size _ (by rw [List.length_append, pubF_len, pairP_len _ (pubL_len s k) _ hvl]; omega)
          go_region_held3 (fun w' => wr.grownBy w' (some (w.heap.size + 1 + 1)) ∧ w'.rangeAt w.heap.size 0 (s.map bv) ∧ w'.there (w.heap.size + 1 + 1) (k * 64 + v * 32) 32)
            (first
              | exact ⟨grown_drew (grown_refl _ _), hra _ (grown_drew hg2), hth _ _ hP.out hrow2⟩
              | exact ⟨grown_any hG6 _, hra _ (grown_same hg2 hG6), hth _ _ (keep_of hP.out hG6) hrow2⟩
              | exact ⟨grown_any hG7 _, hra _ (grown_same hg2 hG7), hth _ _ (keep_of hP.out hG7) hrow2⟩
              | exact ⟨grown_setCells (.inl rfl) _ _ _ (grown_any hG7 _), World.rangeAt_setCells_apart (hra _ (grown_same hg2 hG7)) _ _ _ (.inl (by omega)), World.there_setCells (hth _ _ (keep_of hP.out hG7) hrow2) _ _ _⟩)
            ((first
              | (go_simp; go_at_call 28; refine (hsec1 _ hkr).mono ?_; rintro e w6 ⟨rfl, hg6⟩; have hG6 : wr.grownBy w6 none := grown_same (grown_drew (grown_refl _ _)) hg6)
              | (go_simp; go_at_call 27; refine (hpub _ (hkr.kept hg6)).mono ?_; rintro e w7 ⟨rfl, hg7⟩; have hG7 : wr.grownBy w7 none := grown_same hG6 hg7)))
          have hP8 := rowP_put (keep_of hP.out hG7) (n := k * 64 + v * 32) (x := X) (by rw [List.length_append, pubF_len, pairP_len _ (pubL_len s k) _ hvl]) (by rw [hXl.out]; omega)
          have hG8 : w1.grownBy (w7.setCells (w.heap.size + 1 + 1) (k * 64 + v * 32) (X.map bv)) none := grown_setCells (.inr (Nat.le_of_eq HS1.out)) _ _ _ (grown_same hg2 hG7)
          generalize w7.setCells (w.heap.size + 1 + 1) (k * 64 + v * 32) (X.map bv) = w8 at hP8 hG8 ⊢
          clear hu hi1 hi2 hn2 ho2 hra hth hrow2 hsec1 hpub
          go_wp2
          go_roundw
          case rel =>
            refine ⟨v + 1, by omega, by go_num, ?_, hG8⟩
            show _ = _
            rw [HX.out, ← List.append_assoc]
            exact hP8
          case measure => simp [intOf]; omega
        · have hvv : v = 2 := by omega
          subst hvv
          rw [show ((2 : Nat) : Int) = 2 from rfl]
          go_wp2
          go_roundw
          case rel =>
            refine ⟨k + 1, by omega, by go_num, ?_, hg2⟩
            rw [pubF_next, List.append_assoc, ← pairP_2]
            exact hP
          case measure => simp [intOf]; omega
    · have hkk : k = 32 := by omega
      subst hkk
      rw [show ((32 : Nat) : Int) = 32 from rfl]
      obtain ⟨L, hL⟩ : ∃ L, L = pubF s 32 := ⟨_, rfl⟩
      have hLl : L.length = 2048 := by rw [hL, pubF_len]
      rw [← hL, rowP_full hLl] at hP
      have hkey := keyOf_any L hLl wr (hk.kept (grown_same hg hg2))
      obtain ⟨X, hX⟩ : ∃ X, X = tagL 107 L := ⟨_, rfl⟩
      rw [← hX] at hkey
      have HX : Hid (X = keyL s) := by show _ = _; rw [hX, hL, keyL_pubF]
      have hXl : Hid (X.length = 32) := by rw [hX]; exact tagL_len _ _
      have hsz : Hid ((Tryd.prog.info? 55).map (·.size) = some (L.map bv).toArray.size) := by show _ = _; rw [List.size_toArray, List.length_map, hLl]; exact size_publics
      have hR2 := keep_of hR.out hg2
      have hgw := grown_same hg hg2
      clear hX hL hLl
      go_wp2_with (first
        | (refine wpList_load_row rfl 55 _ rfl (w.heap.size + 1 + 1) rfl _ (L.map bv).toArray (0, 0) _ hP.out Tryd.underlying55 rfl hsz.out ?_)
        | (go_at_call 29; refine hkey.mono ?_; rintro e w6 ⟨rfl, hg6⟩)
        | (refine wpList_store_row rfl 23 _ _ rfl (w.heap.size + 1) (X.map bv).toArray rfl rfl 23 _ (keep_of hR2 hg6) (hashV_size X hXl.out) (by rw [rowH_size _ (by simp), List.size_toArray, List.length_map, hXl.out]) (bv_all' _) ?_))
      refine bodyPost_ret (results_cell_row rfl _ _ (w.heap.size + 1) 23 (X.map bv).toArray (0, 0) _ rfl (setRow_heap _ _ _ _ _ _ (keep_of hR2 hg6)) Tryd.underlying23 rfl (hashV_size X hXl.out)) rfl ?_
      exact ⟨by rw [HX.out], grown_setRow (grown_same hgw hg6) (.inr (by omega)) _⟩
end Go.Proofs.YtmfnncfiaaeknaaDoor
