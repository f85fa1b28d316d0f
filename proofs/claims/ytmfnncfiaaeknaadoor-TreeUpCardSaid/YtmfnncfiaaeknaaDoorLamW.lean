/- Whose a signature is: the contract of the program's own function; is it of a key. -/
import Derived.Test.YtmfnncfiaaeknaaDoorLamF
namespace Go.Proofs.YtmfnncfiaaeknaaDoor
open Go.RowKit

/-- The two parts of a bit that a signature tells. -/
def whoPair (m : List UInt8) (f g : Nat → List UInt8) (i : Nat) : List UInt8 := if bitL m i = 1 then g i ++ publicL (f i) else publicL (f i) ++ g i
/-- Whose a signature of these parts is. -/
def whoF (m : List UInt8) (f g : Nat → List UInt8) : List UInt8 := tagL 107 (partsF (whoPair m f g) 32)
theorem publicL_len (s : List UInt8) : (publicL s).length = 32 := tagL_len _ _
theorem whoPair_len (m : List UInt8) (f g : Nat → List UInt8) (hg : ∀ i, (g i).length = 32) (i : Nat) : (whoPair m f g i).length = 64 := by
  unfold whoPair
  split <;> rw [List.length_append, publicL_len, hg]
theorem partsF_len64 (f : Nat → List UInt8) (hf : ∀ i, (f i).length = 64) : ∀ n, (partsF f n).length = n * 64
  | 0 => rfl
  | n + 1 => by rw [partsF_next, List.length_append, hf, partsF_len64 f hf n]; omega
theorem whoF_len (m : List UInt8) (f g : Nat → List UInt8) : (whoF m f g).length = 32 := tagL_len _ _

set_option maxRecDepth 100000 in
set_option maxHeartbeats 2000000 in
theorem Who_any (A : Option Addr) (m : List UInt8) (c : Nat) (a1 c1 a2 c2 : Nat) (f g : Nat → List UInt8) (hf : ∀ i, (f i).length = 32) (hg32 : ∀ i, (g i).length = 32) (w : World) (hk : Laid2 w) (hr : RdB w A m) (hb : m.length ≤ 1000)
    (h1 : RdB w (some ⟨a1, 0, none⟩) (partsF f 32)) (h2 : RdB w (some ⟨a2, 0, none⟩) (partsF g 32)) :
    Calls Tryd.prog 32 #[.slice A m.length c, .agg #[.slice (some ⟨a1, 0, none⟩) 32 c1, .slice (some ⟨a2, 0, none⟩) 32 c2]] w fun e w' => e = .returned (.tuple #[.agg ((whoF m f g).map bv).toArray, .bool true]) ∧ w.grownBy w' none := by
  obtain ⟨C, hC⟩ : ∃ C, C = (List.replicate 2048 (Value.int .u8 0)) := ⟨_, rfl⟩
  have hz := fun w' => zero_publics w'
  rw [← hC] at hz
  have HC := Lib.hid hC
  clear hC
  have hd := fun w' (hg : w.grownBy w' none) => digest_any A m c w' (hk.kept hg) (hr.kept hg) hb
  have hbit0 := fun k (h : k < 256) w' => bit_any (tagL 109 m) (tagL_len _ _) k h w'
  obtain ⟨X, hX⟩ : ∃ X, X = tagL 109 m := ⟨_, rfl⟩
  rw [← hX] at hbit0
  simp only [← hX] at hd
  have hXl : Hid (X.length = 32) := by rw [hX]; exact tagL_len _ _
  have hbl : ∀ k, (X.getD (k / 8) 0).toNat / 2 ^ (7 - k % 8) % 2 = bitL m k := fun k => by rw [hX]; rfl
  simp only [hbl] at hbit0
  clear hX hbl
  go_enter Tryd.func32, Tryd.ntmps32
  go_wp2_with (first
    | (go_at_call 30; refine (hd _ (grown_alloc (grown_alloc (grown_alloc (grown_refl _ _) _) _) _)).mono ?_; rintro e w6 ⟨rfl, hg6⟩)
    | (refine wpList_store_row rfl 23 _ _ rfl (w6.heap.size) (X.map bv).toArray rfl rfl 23 _ (alloc_at rfl) (hashV_size X hXl.out) (by rw [show (X.map bv).toArray.size = 32 from by rw [List.size_toArray, List.length_map, hXl.out]]; rfl) (bv_all' _) ?_; generalize hw3 : World.setRow _ _ _ = w3; have HW3 := new_hash hw3; clear hw3))
  obtain ⟨S, hS⟩ : ∃ S : Array Value, S = #[.slice (some ⟨a1, 0, none⟩) 32 c1, .slice (some ⟨a2, 0, none⟩) 32 c2] := ⟨_, rfl⟩
  rw [← hS] at hg6
  have hS0 : S[0]? = some (.slice (some ⟨a1, 0, none⟩) 32 c1) := by rw [hS]; rfl
  have hS1 : S[1]? = some (.slice (some ⟨a2, 0, none⟩) 32 c2) := by rw [hS]; rfl
  clear hS hd hz
  have q0 : (((w.alloc (.cells S 28)).alloc (.cells (rowH []) 23)).alloc (.cells C.toArray 55)).heap[w.heap.size]? = some (.cells S 28 (0, 0)) := alloc_old (alloc_old (alloc_at rfl))
  have q1 : (((w.alloc (.cells S 28)).alloc (.cells (rowH []) 23)).alloc (.cells C.toArray 55)).heap[w.heap.size + 1]? = some (.cells (rowH []) 23 (0, 0)) := alloc_old (alloc_at (by simp))
  have q2 : (((w.alloc (.cells S 28)).alloc (.cells (rowH []) 23)).alloc (.cells C.toArray 55)).heap[w.heap.size + 1 + 1]? = some (.cells C.toArray 55 (0, 0)) := alloc_at (by simp)
  have q3 : (((w.alloc (.cells S 28)).alloc (.cells (rowH []) 23)).alloc (.cells C.toArray 55)).heap.size = w.heap.size + 1 + 1 + 1 := by simp
  have q4 : w.grownBy (((w.alloc (.cells S 28)).alloc (.cells (rowH []) 23)).alloc (.cells C.toArray 55)) none := grown_alloc (grown_alloc (grown_alloc (grown_refl _ _) _) _) _
  change World.grownBy (((w.alloc (.cells S 28)).alloc (.cells (rowH []) 23)).alloc (.cells C.toArray 55)) w6 none at hg6
  generalize ((w.alloc (.cells S 28)).alloc (.cells (rowH []) 23)).alloc (.cells C.toArray 55) = w1 at hg6 q0 q1 q2 q3 q4
  have q5 := grown_same hg6 HW3.2
  obtain ⟨bs, hbs⟩ : ∃ bs : List (Nat × Obj), bs = [(w.heap.size, .cells S 28 (0, 0)), (w.heap.size + 1, .cells (rowH []) 23 (0, 0)), (w6.heap.size, .cells (X.map bv).toArray 23 (0, 0))] := ⟨_, rfl⟩
  have b0 : bs[0]? = some (w.heap.size, .cells S 28 (0, 0)) := by rw [hbs]; rfl
  have b1 : bs[1]? = some (w.heap.size + 1, .cells (rowH []) 23 (0, 0)) := by rw [hbs]; rfl
  have b2 : bs[2]? = some (w6.heap.size, .cells (X.map bv).toArray 23 (0, 0)) := by rw [hbs]; rfl
  have hne : Hid (∀ p ∈ bs, p.1 ≠ w.heap.size + 1 + 1) := by
    show ∀ p ∈ bs, _
    intro p hp
    have := hg6.size
    rw [hbs] at hp
    simp only [List.mem_cons, List.not_mem_nil, or_false] at hp
    rcases hp with rfl | rfl | rfl <;> simp only <;> omega
  have hkn : Kn w bs w3 := ⟨grown_same q4 q5, fun p hp => by
    rw [hbs] at hp
    simp only [List.mem_cons, List.not_mem_nil, or_false] at hp
    rcases hp with rfl | rfl | rfl
    · exact keep_of q0 q5
    · exact keep_of q1 q5
    · exact HW3.1⟩
  have hP : Hid (w3.heap[w.heap.size + 1 + 1]? = some (.cells (rowP (partsF (whoPair m f g) 0)) 55 (0, 0))) := by
    show _ = _
    rw [keep_of q2 q5, HC.out]; rfl
  clear hbs q0 q1 q2 q3 q4 q5 HW3 hg6
  generalize w6.heap.size = g6 at b2 ⊢
  go_loopw [23] (fun i wz => ∃ k : Nat, k ≤ 32 ∧ i = .int .i64 k ∧ Hid (wz.heap[w.heap.size + 1 + 1]? = some (.cells (rowP (partsF (whoPair m f g) k)) 55 (0, 0))) ∧ Kn w bs wz) (fun i _ => 32 - (intOf i).toNat)
  case atStart => exact ⟨0, by omega, rfl, hP, hkn⟩
  case round =>
    clear hP hkn
    obtain ⟨k, hkl, rfl, hP, hkn⟩ := hrel
    by_cases hlt : k < 32
    · have hlt' : (k : Int) < 32 := by omega
      have hbit := fun w' => hbit0 k (by omega) w'
      obtain ⟨b, hb'⟩ : ∃ b, b = bitL m k := ⟨_, rfl⟩
      have hw' : whoPair m f g k = if b = 1 then g k ++ publicL (f k) else publicL (f k) ++ g k := by rw [hb']; rfl
      rw [← hb'] at hbit
      have hb2 : b = 0 ∨ b = 1 := by rw [hb']; exact bitL_lt _ _
      obtain ⟨d, hd'⟩ : ∃ d, d = 1 - b := ⟨_, rfl⟩
      have hbd : b = 0 ∧ d = 1 ∨ b = 1 ∧ d = 0 := by omega
      have hwr : IntKind.i64.wrap (1 - (b : Int)) = (d : Int) := by
        rw [show (1 : Int) - (b : Int) = (d : Int) by omega]
        exact IntWalk.i64_in _ ⟨by omega, by omega⟩
      have hpub := fun w' h => public_any (f k) (hf k) w' h
      have hF := hf k
      have hG := hg32 k
      have hrf := fun w' (h : w.grownBy w' none) => range_part hf (h1.kept h) hlt
      have hrg := fun w' (h : w.grownBy w' none) => range_part hg32 (h2.kept h) hlt
      have hnext := partsF_next (whoPair m f g) k
      rw [hw'] at hnext
      have hlen := partsF_len64 _ (whoPair_len m f g hg32) k
      generalize partsF (whoPair m f g) k = D at hP hnext hlen
      generalize f k = F at hpub hF hrf hnext
      generalize g k = G at hG hrg hnext
      obtain ⟨T, hT⟩ : ∃ T, T = publicL F := ⟨_, rfl⟩
      rw [← hT] at hpub hnext
      have hTl : T.length = 32 := by rw [hT]; exact tagL_len _ _
      have HN := Lib.hid hnext
      have HTl := Lib.hid hTl
      have HGl := Lib.hid hG
      have hsz : (rowP D).size = 2048 := rowP_size _ (by omega)
      have hpo := pair_over D T G (k * 64) b d hlen hTl hG (by omega) hbd
      have hs2 := over_size (rowP D) (k * 64 + b * 32) (T.map bv) (by rw [List.length_map, hTl, hsz]; omega)
      rw [hsz] at hs2
      have HPO := Lib.hid hpo
      have hti : k * 64 + b * 32 + 32 ≤ 2048 := by omega
      have htj : k * 64 + d * 32 + 32 ≤ 2048 := by omega
      have hbi : (b : Int) < 2 := by omega
      have hdi : (d : Int) < 2 := by omega
      clear hT hw' hb' hd' hnext hpo hlen hb2 hbd hTl hG
      go_wp2_with (first
        | (refine wpList_load_row rfl 23 _ rfl g6 rfl _ (X.map bv).toArray (0, 0) _ (hkn.get 2 b2) Tryd.underlying23 rfl (hashV_size X hXl.out) ?_)
        | (go_at_call 31; refine (hbit _).mono ?_; rintro e w7 ⟨rfl, hg7⟩))
      replace hkn := hkn.kept hg7
      replace hP : Hid (w7.heap[w.heap.size + 1 + 1]? = _) := keep_of hP.out hg7
      have hu := Tryd.underlying23
      have hi1 := info_hash F hF
      have hi2 := info_hash T HTl.out
      have hn2 : (T.map bv).length = 32 := by rw [List.length_map, HTl.out]
      have ho2 : ∀ u ∈ T.map bv, u.oneCell' = true := bv_one _
      have hkr := hk.kept (grown_drew hkn.1)
      have lk : ∀ w', Kn w bs w' → w'.there (w.heap.size + 1 + 1) (k * 64 + b * 32) 32 → w'.cell? ⟨w.heap.size, 0, none⟩ = some (.slice (some ⟨a1, 0, none⟩) 32 c1) ∧ w'.rangeAt a1 (k * 32) (F.map bv) ∧ w'.there (w.heap.size + 1 + 1) (k * 64 + b * 32) 32 :=
        fun w' h ht => ⟨cell_of_cells (h.get 0 b0) hS0, hrf w' h.1, ht⟩
      go_region_held3 (fun w' => w'.cell? ⟨w.heap.size, 0, none⟩ = some (.slice (some ⟨a1, 0, none⟩) 32 c1) ∧ w'.rangeAt a1 (k * 32) (F.map bv) ∧ w'.there (w.heap.size + 1 + 1) (k * 64 + b * 32) 32)
        (first
          | exact lk _ (hkn.kept (grown_drew (grown_refl _ _))) (there_of (w := w7.drew) hP.out (by rw [hsz]; exact hti))
          | exact lk _ (hkn.kept hG8) (there_of (keep_of hP.out hG8) (by rw [hsz]; exact hti))
          | exact lk _ ((hkn.kept hG8).set (by omega) hne.out _ _) (World.there_setCells (there_of (keep_of hP.out hG8) (by rw [hsz]; exact hti)) _ _ _))
        ((first
          | (go_simp; go_at_call 27; refine (hpub _ hkr).mono ?_; rintro e w8 ⟨rfl, hg8⟩; have hG8 : w7.grownBy w8 none := grown_same (grown_drew (grown_refl _ _)) hg8)))
      have hP9 := heap_over (keep_of hP.out hG8) (o := k * 64 + b * 32) (vs := T.map bv) (by rw [hn2, hsz]; exact hti)
      have hkn9 := (hkn.kept hG8).set (b := w.heap.size + 1 + 1) (by omega) hne.out (k * 64 + b * 32) (T.map bv)
      generalize w8.setCells (w.heap.size + 1 + 1) (k * 64 + b * 32) (T.map bv) = w9 at hP9 hkn9 ⊢
      clear hu hi1 hi2 hn2 ho2 hkr lk hP hkn hg7
      have HP9 := Lib.hid hP9
      clear hP9
      go_wp2_with fail
      have hu := Tryd.underlying23
      have hi1 := info_hash G HGl.out
      have hn2 : (G.map bv).length = 32 := by rw [List.length_map, HGl.out]
      have ho2 : ∀ u ∈ G.map bv, u.oneCell' = true := bv_one _
      have lk : ∀ w', Kn w bs w' → w'.there (w.heap.size + 1 + 1) (k * 64 + d * 32) 32 → w'.cell? ⟨w.heap.size, 1, none⟩ = some (.slice (some ⟨a2, 0, none⟩) 32 c2) ∧ w'.rangeAt a2 (k * 32) (G.map bv) ∧ w'.there (w.heap.size + 1 + 1) (k * 64 + d * 32) 32 :=
        fun w' h ht => ⟨cell_of_cells (h.get 0 b0) hS1, hrg w' h.1, ht⟩
      go_region_held3 (fun w' => w'.cell? ⟨w.heap.size, 1, none⟩ = some (.slice (some ⟨a2, 0, none⟩) 32 c2) ∧ w'.rangeAt a2 (k * 32) (G.map bv) ∧ w'.there (w.heap.size + 1 + 1) (k * 64 + d * 32) 32)
        (first
          | exact lk _ (hkn9.kept (grown_drew (grown_refl _ _))) (there_of (w := w9.drew) HP9.out (by rw [hs2]; exact htj))
          | exact lk _ ((hkn9.kept (grown_drew (grown_refl _ _))).set (by omega) hne.out _ _) (World.there_setCells (there_of (w := w9.drew) HP9.out (by rw [hs2]; exact htj)) _ _ _))
        (fail)
      have hPA := heap_over (w := w9.drew) HP9.out (o := k * 64 + d * 32) (vs := G.map bv) (by rw [hn2, hs2]; exact htj)
      have hknA := (hkn9.kept (grown_drew (grown_refl _ _))).set (b := w.heap.size + 1 + 1) (by omega) hne.out (k * 64 + d * 32) (G.map bv)
      rw [HPO.out, ← HN.out] at hPA
      generalize w9.drew.setCells (w.heap.size + 1 + 1) (k * 64 + d * 32) (G.map bv) = wA at hPA hknA ⊢
      clear hu hi1 hn2 ho2 lk
      have HPA := Lib.hid hPA
      clear hPA
      go_wp2
      go_roundw
      case rel => exact ⟨k + 1, by omega, by go_num, HPA, hknA⟩
      case measure => simp [intOf]; omega
    · have hkk : k = 32 := by omega
      subst hkk
      rw [show ((32 : Nat) : Int) = 32 from rfl]
      have hWl := whoF_len m f g
      have hPl := partsF_len64 _ (whoPair_len m f g hg32) 32
      have hke := fun L (h : L.length = 2048) => keyOf_any L h wr (hk.kept hkn.1)
      replace hke := hke (partsF (whoPair m f g) 32) hPl
      obtain ⟨L, hL⟩ : ∃ L, L = partsF (whoPair m f g) 32 := ⟨_, rfl⟩
      rw [← hL] at hPl hke hP
      rw [rowP_full hPl] at hP
      obtain ⟨Y, hY⟩ : ∃ Y, Y = tagL 107 L := ⟨_, rfl⟩
      rw [← hY] at hke
      have HY : Hid (whoF m f g = Y) := by show _ = _; rw [hY, hL]; rfl
      have hYl : Hid (Y.length = 32) := by rw [hY]; exact tagL_len _ _
      have hsz : Hid ((Tryd.prog.info? 55).map (·.size) = some (L.map bv).toArray.size) := by show _ = _; rw [List.size_toArray, List.length_map, hPl]; exact size_publics
      have hR := hkn.get 1 b1
      clear hL hY hPl hWl
      go_wp2_with (first
        | (refine wpList_load_row rfl 55 _ rfl (w.heap.size + 1 + 1) rfl _ (L.map bv).toArray (0, 0) _ hP.out Tryd.underlying55 rfl hsz.out ?_)
        | (go_at_call 29; refine hke.mono ?_; rintro e wB ⟨rfl, hgB⟩)
        | (refine wpList_store_row rfl 23 _ _ rfl (w.heap.size + 1) (Y.map bv).toArray rfl rfl 23 _ (keep_of hR hgB) (hashV_size Y hYl.out) (by rw [rowH_size _ (by simp), List.size_toArray, List.length_map, hYl.out]) (bv_all' _) ?_))
      refine bodyPost_ret (results_row_tmp rfl _ _ (w.heap.size + 1) 23 (Y.map bv).toArray (0, 0) _ rfl (setRow_heap _ _ _ _ _ _ (keep_of hR hgB)) Tryd.underlying23 rfl (hashV_size Y hYl.out)) rfl ?_
      exact ⟨by rw [HY.out]; rfl, grown_setRow (grown_same hkn.1 hgB) (.inr (by omega)) _⟩
end Go.Proofs.YtmfnncfiaaeknaaDoor
