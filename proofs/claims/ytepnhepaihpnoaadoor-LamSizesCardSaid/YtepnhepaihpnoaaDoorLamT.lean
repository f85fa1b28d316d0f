/- A signature; the document's own. -/
import Derived.Test.YtepnhepaihpnoaaDoorLamS
import Derived.RegionTactic
namespace Go.Proofs.YtepnhepaihpnoaaDoor
open Go.RowKit

theorem set_two {w : World} {g : Nat} {t : TypeId} {x y : Value} (h : w.heap[g]? = some (.cells #[x, y] t (0, 0))) (z : Value) :
    (w.setCell ⟨g, 0, none⟩ z).heap[g]? = some (.cells #[z, y] t (0, 0)) ∧ (w.setCell ⟨g, 1, none⟩ z).heap[g]? = some (.cells #[x, z] t (0, 0)) :=
  ⟨heap_setCell_to h rfl, heap_setCell_to h rfl⟩
theorem grown_cell1 (w : World) (g i : Nat) (z : Value) : w.grownBy (w.setCell ⟨g, i, none⟩ z) (some g) := grown_set (grown_refl _ _) (p := ⟨g, i, none⟩) (.inl rfl) z
theorem own_ne {v : Value} {g b : Nat} (h : ∀ k, v.ownBlock = some k → b ≤ k) (hg : g < b) : v.ownBlock = none ∨ v.ownBlock ≠ some g := by
  by_cases e : v.ownBlock = some g
  · have := h g e; omega
  · exact .inr e
theorem ne_own {v : Value} {g b : Nat} (h : ∀ k, v.ownBlock = some k → b ≤ k) (hg : g < b) : some g ≠ v.ownBlock := fun e => by have := h g e.symm; omega
theorem Kn.row {w wz wy : World} {bs : List (Nat × Obj)} (h : Kn w bs wz) {row : Option Nat} (hg : wz.grownBy wy row) (h0 : ∀ g, row = some g → w.heap.size ≤ g) (hne : ∀ p ∈ bs, some p.1 ≠ row) : Kn w bs wy :=
  ⟨grown_trans h.1 hg (.inr h0), fun p hp => other_block (h.2 p hp) hg (hne p hp)⟩
theorem guard_sub (x y : Operand) (xv yv : Value) (w : World) : (eqGuard .sub 3 x y xv yv).run Tryd.prog w = .ok () w := by kernel_rfl
theorem sub1_i64 (b d : Nat) (h : IntKind.i64.wrap (1 - (b : Int)) = (d : Int)) (w : World) : (binOp .sub 3 (.int .i64 1) (.int .i64 b)).run Tryd.prog w = .ok (.int .i64 d) w := by
  have e : (binOp .sub 3 (.int .i64 1) (.int .i64 b)).run Tryd.prog w = .ok (.int .i64 (IntKind.i64.wrap (1 - (b : Int)))) w := by kernel_rfl
  rw [e, h]
theorem FreshT.grew {R : Option Nat} {i1 : Nat} {al own : Nat → Bool} {W : World} {i k : Nat} {w w' : World} {u v : Value} (ha : al i = false) (hk : bk al k u = u.ownBlock) (h : Grew w w' u v) : FreshT R i1 al own W i w (bk al k u) v := by
  have hb : bk al i v = v.ownBlock := by simp [bk, ha]
  rcases h.2 with e | ⟨g, e, hg⟩
  · exact .inr (.inr (.inl (by rw [hb, hk, e])))
  · exact .inr (.inl ⟨g, by rw [hb, e], hg⟩)
theorem LastsK.ownHs {al : Nat → Bool} {q : Bool} {k : Nat} (ha : al k = false) (u : Value) (l : List UInt8) (n : Nat) : LastsK al q k fun v w => v = u ∧ OwnHs w v l n := .of ha fun _ _ _ _ h hg hne => ⟨h.1, h.2.keep hg hne⟩
theorem LastsK.litHs {al : Nat → Bool} {q : Bool} {k : Nat} (ha : al k = false) (l : List UInt8) (n : Nat) : LastsK al q k fun v w => ∃ b, v = .slice (some ⟨b, 0, none⟩) n n ∧ RdB w (some ⟨b, 0, none⟩) l := .of ha (by
  rintro v w w' row ⟨b, rfl, h⟩ hg hne
  refine ⟨b, rfl, h.keep hg fun ad e er => ?_⟩
  cases e
  rcases hne with h1 | h1
  · cases h1
  · exact h1 er)
/-- The row that an append leaves: the old one's block, or a new one. -/
def Grown (R : Option Nat) (W : World) (l : List UInt8) (n : Nat) (v : Value) (w : World) : Prop := OwnHs w v l n ∧ (v.ownBlock = R ∨ ∃ g, v.ownBlock = some g ∧ W.heap.size ≤ g)
theorem LastsK.grown {al : Nat → Bool} {q : Bool} {k : Nat} (ha : al k = false) (R : Option Nat) (W : World) (l : List UInt8) (n : Nat) : LastsK al q k (Grown R W l n) := .of ha fun _ _ _ _ h hg hne => ⟨h.1.keep hg hne, h.2⟩
theorem Grown.grew {R : Option Nat} {W w w' : World} {u v : Value} {l : List UInt8} {n : Nat} (hs : W.heap.size ≤ w.heap.size) (hR : u.ownBlock = R) (h : OwnHs w' v l n) (hg : Grew w w' u v) : Grown R W l n v w' := ⟨h, by
  rcases hg.2 with e | ⟨g, e, h1⟩
  · exact .inl (by rw [e, hR])
  · exact .inr ⟨g, e, Nat.le_trans hs h1⟩⟩
theorem app_apart {W : World} {v v' u : Value} (h : v'.ownBlock = v.ownBlock ∨ ∃ g, v'.ownBlock = some g ∧ W.heap.size ≤ g) (hu : ∀ g, u.ownBlock = some g → g < W.heap.size) (h2 : u.ownBlock = none ∨ u.ownBlock ≠ v.ownBlock) :
    (v'.ownBlock = none ∨ v'.ownBlock ≠ u.ownBlock) ∧ (u.ownBlock = none ∨ u.ownBlock ≠ v'.ownBlock) := by
  have h3 : u.ownBlock = none ∨ u.ownBlock ≠ v'.ownBlock := by
    rcases h with e | ⟨g, e, hg⟩
    · rw [e]; exact h2
    · by_cases e2 : u.ownBlock = some g
      · have := hu g e2; omega
      · rw [e]; exact .inr e2
  refine ⟨?_, h3⟩
  rcases h3 with h | h
  · cases e : v'.ownBlock with
    | none => exact .inl rfl
    | some g => rw [h]; exact .inr (by simp)
  · exact .inr (Ne.symm h)
theorem app_ge {W : World} {v v' : Value} {b : Nat} (hh : v'.ownBlock = v.ownBlock ∨ ∃ g, v'.ownBlock = some g ∧ W.heap.size ≤ g) (h : ∀ g, v.ownBlock = some g → b ≤ g) (hb : b ≤ W.heap.size) : ∀ g, v'.ownBlock = some g → b ≤ g := by
  intro g hg
  rcases hh with e | ⟨g', e, hg'⟩
  · exact h g (by rw [← e]; exact hg)
  · rw [e] at hg; cases hg; omega

def saS (t : Nat) : Bool := t == 14 || t == 15 || t == 16 || t == 17 || t == 18 || t == 19 || t == 20 || t == 21 || t == 22
def saDie (k : Nat) : Nat := if k = 1 then 7 else 99
def saOwn (k : Nat) : Bool := k == 1
def saAl (_ : Nat) : Bool := false
def saF (s : List UInt8) (k b : Nat) (g5 : Nat) (v1 : Value) (D1 Y : List UInt8) (wr : World) : Nat → Value → World → Prop
  | 0 => fun v _ => v = .pointer (some ⟨g5, 0, none⟩)
  | 1 => fun x w => x = v1 ∧ OwnHs w x D1 k
  | 2 => fun v _ => v = (.agg (s.map bv).toArray)
  | 3 => fun v _ => v = (.int .i64 (k : Int))
  | 4 => fun v _ => v = (.int .i64 (b : Int))
  | 5 => fun v _ => v = (.agg (Y.map bv).toArray)
  | 6 => fun x w => ∃ c, x = .slice (some ⟨c, 0, none⟩) 1 1 ∧ RdB w (some ⟨c, 0, none⟩) Y
  | 7 => Grown v1.ownBlock wr (D1 ++ Y) (k + 1)
  | 8 => fun v _ => v = .pointer (some ⟨g5, 0, none⟩)
  | _ => fun _ _ => True
theorem saF_lasts (s : List UInt8) (k b : Nat) (g5 : Nat) (v1 : Value) (D1 Y : List UInt8) (wr : World) : ∀ kq, LastsK saAl false kq (saF s k b g5 v1 D1 Y wr kq)
  | 0 => LastsK.val _
  | 1 => LastsK.ownHs rfl _ _ _
  | 2 => LastsK.val _
  | 3 => LastsK.val _
  | 4 => LastsK.val _
  | 5 => LastsK.val _
  | 6 => LastsK.litHs rfl _ _
  | 7 => LastsK.grown rfl _ _ _ _
  | 8 => LastsK.val _
  | _ + 9 => fun _ _ _ _ _ _ _ _ => trivial
def sbS (t : Nat) : Bool := t == 23 || t == 24 || t == 25 || t == 26 || t == 27 || t == 28 || t == 29 || t == 30 || t == 31 || t == 32 || t == 33
def sbDie (k : Nat) : Nat := if k = 1 then 9 else 99
def sbOwn (k : Nat) : Bool := k == 1
def sbAl (_ : Nat) : Bool := false
def sbF (s : List UInt8) (k b d : Nat) (g5 : Nat) (v2 : Value) (D2 Z T : List UInt8) (wr : World) : Nat → Value → World → Prop
  | 0 => fun v _ => v = .pointer (some ⟨g5, 1, none⟩)
  | 1 => fun x w => x = v2 ∧ OwnHs w x D2 k
  | 2 => fun v _ => v = (.agg (s.map bv).toArray)
  | 3 => fun v _ => v = (.int .i64 (k : Int))
  | 4 => fun v _ => v = (.int .i64 (b : Int))
  | 5 => fun v _ => v = (.int .i64 (d : Int))
  | 6 => fun v _ => v = (.agg (Z.map bv).toArray)
  | 7 => fun v _ => v = (.agg (T.map bv).toArray)
  | 8 => fun x w => ∃ c, x = .slice (some ⟨c, 0, none⟩) 1 1 ∧ RdB w (some ⟨c, 0, none⟩) T
  | 9 => Grown v2.ownBlock wr (D2 ++ T) (k + 1)
  | 10 => fun v _ => v = .pointer (some ⟨g5, 1, none⟩)
  | _ => fun _ _ => True
theorem sbF_lasts (s : List UInt8) (k b d : Nat) (g5 : Nat) (v2 : Value) (D2 Z T : List UInt8) (wr : World) : ∀ kq, LastsK sbAl false kq (sbF s k b d g5 v2 D2 Z T wr kq)
  | 0 => LastsK.val _
  | 1 => LastsK.ownHs rfl _ _ _
  | 2 => LastsK.val _
  | 3 => LastsK.val _
  | 4 => LastsK.val _
  | 5 => LastsK.val _
  | 6 => LastsK.val _
  | 7 => LastsK.val _
  | 8 => LastsK.litHs rfl _ _
  | 9 => LastsK.grown rfl _ _ _ _
  | 10 => LastsK.val _
  | _ + 11 => fun _ _ _ _ _ _ _ _ => trivial

set_option maxRecDepth 100000 in
set_option maxHeartbeats 4000000 in
theorem RSign_any (s : List UInt8) (h32 : s.length = 32) (A : Option Addr) (m : List UInt8) (c : Nat) (w : World) (hr : RdB w A m) (hb : m.length ≤ 1000) :
    Calls Tryd.prog 11 #[.agg (s.map bv).toArray, .slice A m.length c] w fun e w' => ∃ g1 c1 g2 c2 : Nat, e = .returned (.agg #[.slice (some ⟨g1, 0, none⟩) 32 c1, .slice (some ⟨g2, 0, none⟩) 32 c2]) ∧ 32 ≤ c1 ∧ c1 ≤ maxLen ∧ 32 ≤ c2 ∧ c2 ≤ maxLen ∧ RdB w' (some ⟨g1, 0, none⟩) (partsF (openF s m) 32) ∧ RdB w' (some ⟨g2, 0, none⟩) (partsF (shutF s m) 32) ∧ w.grownBy w' none ∧ w.heap.size ≤ g1 ∧ w.heap.size ≤ g2 := by
  have hsec := fun i v (hi : i < 256) (hv : v < 256) w' => Rsecret_any s h32 i v hi hv w'
  have hbit0 := fun k (h : k < 256) w' (hg : w.grownBy w' none) => Rbit_any A m c k w' (hr.kept hg) hb h
  have HL := Lib.hid h32
  clear h32
  go_enter Tryd.func11, Tryd.ntmps11
  go_wp2
  have hS : Hid ((((w.alloc (.cells (s.map bv).toArray 23)).alloc (.cells #[.slice none 0 0, .slice none 0 0] 27)).alloc (.cells #[.slice none 0 0, .slice none 0 0] 27)).heap[w.heap.size]? = some (.cells (s.map bv).toArray 23 (0, 0))) := alloc_old (alloc_old (alloc_at rfl))
  have hR : Hid ((((w.alloc (.cells (s.map bv).toArray 23)).alloc (.cells #[.slice none 0 0, .slice none 0 0] 27)).alloc (.cells #[.slice none 0 0, .slice none 0 0] 27)).heap[w.heap.size + 1]? = some (.cells #[.slice none 0 0, .slice none 0 0] 27 (0, 0))) := alloc_old (alloc_at (by simp))
  have hT : Hid ((((w.alloc (.cells (s.map bv).toArray 23)).alloc (.cells #[.slice none 0 0, .slice none 0 0] 27)).alloc (.cells #[.slice none 0 0, .slice none 0 0] 27)).heap[w.heap.size + 1 + 1]? = some (.cells #[.slice none 0 0, .slice none 0 0] 27 (0, 0))) := alloc_at (by simp)
  have hg : w.grownBy (((w.alloc (.cells (s.map bv).toArray 23)).alloc (.cells #[.slice none 0 0, .slice none 0 0] 27)).alloc (.cells #[.slice none 0 0, .slice none 0 0] 27)) none := grown_alloc (grown_alloc (grown_alloc (grown_refl _ _) _) _) _
  have hs1 : Hid ((((w.alloc (.cells (s.map bv).toArray 23)).alloc (.cells #[.slice none 0 0, .slice none 0 0] 27)).alloc (.cells #[.slice none 0 0, .slice none 0 0] 27)).heap.size = w.heap.size + 1 + 1 + 1) := by show _ = _; simp
  change Code.wp _ _ _ _ (((w.alloc (.cells (s.map bv).toArray 23)).alloc (.cells #[.slice none 0 0, .slice none 0 0] 27)).alloc (.cells #[.slice none 0 0, .slice none 0 0] 27))
  generalize ((w.alloc (.cells (s.map bv).toArray 23)).alloc (.cells #[.slice none 0 0, .slice none 0 0] 27)).alloc (.cells #[.slice none 0 0, .slice none 0 0] 27) = w1 at hS hR hT hg hs1 ⊢
  have hsz := hs1.out
  have hk0 : Kn w [(w.heap.size, .cells (s.map bv).toArray 23 (0, 0)), (w.heap.size + 1, .cells #[.slice none 0 0, .slice none 0 0] 27 (0, 0))] w1 := ⟨hg, fun p hp => by
    simp only [List.mem_cons, List.not_mem_nil, or_false] at hp
    rcases hp with rfl | rfl
    · exact hS.out
    · exact hR.out⟩
  obtain ⟨bs, hbs⟩ : ∃ bs : List (Nat × Obj), bs = [(w.heap.size, .cells (s.map bv).toArray 23 (0, 0)), (w.heap.size + 1, .cells #[.slice none 0 0, .slice none 0 0] 27 (0, 0))] := ⟨_, rfl⟩
  have b0 : bs[0]? = some (w.heap.size, .cells (s.map bv).toArray 23 (0, 0)) := by rw [hbs]; rfl
  have b1 : bs[1]? = some (w.heap.size + 1, .cells #[.slice none 0 0, .slice none 0 0] 27 (0, 0)) := by rw [hbs]; rfl
  have hbl : Hid (∀ p ∈ bs, p.1 < w.heap.size + 1 + 1) := by
    show ∀ p ∈ bs, _
    intro p hp
    rw [hbs] at hp
    simp only [List.mem_cons, List.not_mem_nil, or_false] at hp
    rcases hp with rfl | rfl <;> simp only <;> omega
  rw [← hbs] at hk0
  clear hbs hS hR hsz
  go_loopw [8] (fun i wz => ∃ (k : Nat) (v1 v2 : Value), k ≤ 32 ∧ i = .int .i64 k ∧ Hid (wz.heap[w.heap.size + 1 + 1]? = some (.cells #[v1, v2] 27 (0, 0))) ∧ OwnHs wz v1 (partsF (openF s m) k) k ∧ OwnHs wz v2 (partsF (shutF s m) k) k
    ∧ Hid ((∀ g, v1.ownBlock = some g → w.heap.size + 1 + 1 + 1 ≤ g) ∧ (∀ g, v2.ownBlock = some g → w.heap.size + 1 + 1 + 1 ≤ g) ∧ (v1.ownBlock = none ∨ v1.ownBlock ≠ v2.ownBlock) ∧ (v2.ownBlock = none ∨ v2.ownBlock ≠ v1.ownBlock)) ∧ Kn w bs wz) (fun i _ => 32 - (intOf i).toNat)
  case atStart => exact ⟨0, _, _, by omega, rfl, hT, OwnHs.nil _, OwnHs.nil _, (show _ ∧ _ ∧ _ ∧ _ from ⟨(fun g e => by cases e), (fun g e => by cases e), .inl rfl, .inl rfl⟩), hk0⟩
  case round =>
    clear hk0 hT
    obtain ⟨k, v1, v2, hkl, rfl, hT, ho1, ho2, hap, hkn⟩ := hrel
    by_cases hlt : k < 32
    · have hlt' : (k : Int) < 32 := by omega
      have hbit := fun w' hg => hbit0 k (by omega) w' hg
      obtain ⟨b, hb'⟩ : ∃ b, b = bitL m k := ⟨_, rfl⟩
      rw [← hb'] at hbit
      have hb2 : b = 0 ∨ b = 1 := by rw [hb']; exact bitL_lt _ _
      obtain ⟨d, hd'⟩ : ∃ d, d = 1 - b := ⟨_, rfl⟩
      have hwr : IntKind.i64.wrap (1 - (b : Int)) = (d : Int) := by
        rw [show (1 : Int) - (b : Int) = (d : Int) by omega]
        exact IntWalk.i64_in _ ⟨by omega, by omega⟩
      have hsecO := fun w' => hsec k b (by omega) (by omega) w'
      have hsecS := fun w' => hsec k d (by omega) (by omega) w'
      obtain ⟨Y, hY⟩ : ∃ Y, Y = secretL s k b := ⟨_, rfl⟩
      obtain ⟨Z, hZ⟩ : ∃ Z, Z = secretL s k d := ⟨_, rfl⟩
      have hpub := fun w' => Rpublic_any Z (by rw [hZ]; exact tagL_len _ _) w'
      obtain ⟨T, hT'⟩ : ∃ T, T = publicL Z := ⟨_, rfl⟩
      rw [← hY] at hsecO
      rw [← hZ] at hsecS
      rw [← hT'] at hpub
      have hYl : Hid (Y.length = 1 * 32) := by rw [hY]; exact tagL_len _ _
      have hTl : Hid (T.length = 1 * 32) := by rw [hT']; exact tagL_len _ _
      have HY : Hid (partsF (openF s m) (k + 1) = partsF (openF s m) k ++ Y) := by show _ = _; rw [partsF_next, hY, hb']; rfl
      have HT : Hid (partsF (shutF s m) (k + 1) = partsF (shutF s m) k ++ T) := by show _ = _; rw [partsF_next, hT', hZ, hd', hb']; rfl
      have hlY := fun w' => lit_1h Y hYl.out w'
      have hlT := fun w' => lit_1h T hTl.out w'
      clear hY hZ hT' hb' hd' hb2
      go_upto_region 6 with (first
        | (go_at_call 24; refine (hbit _ hkn.1).mono ?_; rintro e w7 ⟨rfl, hg7⟩))
      obtain ⟨D1, hD1⟩ : ∃ D, D = partsF (openF s m) k := ⟨_, rfl⟩
      obtain ⟨D2, hD2⟩ : ∃ D, D = partsF (shutF s m) k := ⟨_, rfl⟩
      rw [← hD1] at ho1 HY
      rw [← hD2] at ho2 HT
      clear hD1 hD2
      replace hkn := hkn.kept hg7
      replace ho1 := ho1.kept hg7
      replace ho2 := ho2.kept hg7
      replace hT : Hid (w7.heap[w.heap.size + 1 + 1]? = _) := keep_of hT.out hg7
      have hsw7 := lt_of_heap hT.out
      have hneS : some w.heap.size ≠ v1.ownBlock := ne_own hap.out.1 (by omega)
      have hneT : some (w.heap.size + 1 + 1) ≠ v1.ownBlock := ne_own hap.out.1 (by omega)
      refine wp_region_gt (R := v1.ownBlock) (i1 := 1) (q := false) (al := saAl) 9 (N := 36) (S := saS) (die := saDie) (own := saOwn) (F := saF s k b (w.heap.size + 1 + 1) v1 D1 Y w7) (by kernel_rfl) (Nat.le_of_ble_eq_true (by kernel_rfl)) (by kernel_rfl) (by kernel_rfl) (by kernel_rfl) (by kernel_rfl) (Nat.le_of_ble_eq_true (by kernel_rfl)) ho1.lt (saF_lasts s k b (w.heap.size + 1 + 1) v1 D1 Y w7) ?_ ?_
      · intro i o L' a w K hi ho hg hgN hLi hout hpre houter hitem h1 h2
        have hcases : i = 0 ∨ i = 1 ∨ i = 2 ∨ i = 3 ∨ i = 4 ∨ i = 5 ∨ i = 6 ∨ i = 7 ∨ i = 8 := by omega
        rcases hcases with rfl | rfl | rfl | rfl | rfl | rfl | rfl | rfl | rfl
        · cases (show some _ = some o from ho)
          exact ⟨rfl, wp_field rfl (houter _ rfl) (field_O _ 0 (by omega)) (h1 _ _ (grown_refl _ none) rfl (nob rfl) (.inl rfl))⟩
        · cases (show some _ = some o from ho)
          exact ⟨rfl, wp_loadC rfl (hitem 0 (by decide) ⟨hpre 0 rfl, hout _ (by decide)⟩) (load_cell (cell_of_cells (keep_of hT.out (hgN rfl)) rfl) Tryd.underlying25 rfl) (h1 _ _ (grown_refl _ none) ⟨rfl, ho1.kept (hgN rfl)⟩ (fun g e => Nat.lt_of_lt_of_le (ho1.lt g e) hg.size) (.inr (.inr (.inr (.inr ⟨rfl, rfl⟩)))))⟩
        · cases (show some _ = some o from ho)
          exact ⟨rfl, wp_load_row 23 _ rfl _ (houter _ rfl) _ (s.map bv).toArray (0, 0) _ (other_block (hkn.get 0 b0) hg hneS) Tryd.underlying23 rfl (hashV_size s HL.out) (h1 _ _ (grown_refl _ none) rfl (nob rfl) (.inl rfl))⟩
        · cases (show some _ = some o from ho)
          exact ⟨rfl, wp_move rfl (h1 _ _ (grown_refl _ none) (houter _ rfl) (by rw [houter _ rfl]; exact nob rfl) (by rw [houter _ rfl]; exact .inl rfl))⟩
        · cases (show some _ = some o from ho)
          exact ⟨rfl, wp_move rfl (h1 _ _ (grown_refl _ none) (houter _ rfl) (by rw [houter _ rfl]; exact nob rfl) (by rw [houter _ rfl]; exact .inl rfl))⟩
        · cases (show some _ = some o from ho)
          have x16 : a.eval (.tmp 16) = (.agg (s.map bv).toArray) := hitem 2 (by decide) ⟨hpre 2 rfl, hout _ (by decide)⟩
          have x17 : a.eval (.tmp 17) = (.int .i64 (k : Int)) := hitem 3 (by decide) ⟨hpre 3 rfl, hout _ (by decide)⟩
          have x18 : a.eval (.tmp 18) = (.int .i64 (b : Int)) := hitem 4 (by decide) ⟨hpre 4 rfl, hout _ (by decide)⟩
          refine ⟨rfl, wp_call rfl Tryd.func25 (by kernel_rfl) (by kernel_rfl) (args := #[(.agg (s.map bv).toArray), (.int .i64 (k : Int)), (.int .i64 (b : Int))]) (by simp [x16, x17, x18]) ((hsecO w).mono ?_)⟩
          rintro e w' ⟨rfl, hg'⟩
          exact ⟨_, rfl, h1 _ _ hg' rfl (nob rfl) (.inl rfl)⟩
        · cases (show some _ = some o from ho)
          exact ⟨rfl, wp_lit1 rfl (hitem 5 (by decide) ⟨hpre 5 rfl, hout _ (by decide)⟩) (hlY _) (h1 _ _ (grown_alloc (grown_refl _ _) _) ⟨_, rfl, rd_row (heap_alloc_new _ _)⟩ (fun g e => by cases (show some _ = some g from e); simp) (.inr (.inl ⟨_, rfl, Nat.le_refl _⟩)))⟩
        · cases (show some _ = some o from ho)
          obtain ⟨e1, hown⟩ := hitem 1 (by decide) ⟨hpre 1 rfl, hLi⟩
          obtain ⟨c, e2, hrd⟩ := hitem 6 (by decide) ⟨hpre 6 rfl, hout _ (by decide)⟩
          refine ⟨rfl, wp_appH rfl rfl hown e2 hrd hYl.out (by omega) (by omega) fun v' w' hv hw => h2 rfl 1 v' w' (by decide) ⟨hpre 1 rfl, hLi⟩ rfl rfl hw.1 (Grown.grew hg.size (by rw [show a.eval (.tmp 15) = v1 from e1]) hv hw) (fun g e => hv.lt g e) (FreshT.grew rfl rfl hw)⟩
        · cases (show some _ = some o from ho)
          exact ⟨rfl, wp_field rfl (houter _ rfl) (field_O _ 0 (by omega)) (h1 _ _ (grown_refl _ none) rfl (nob rfl) (.inl rfl))⟩
      · intro a wT hgT hend hap ha
        obtain ⟨f, hf⟩ : ∃ f : Nat → Value, f = fun t => a.tmps.getD t undef := ⟨_, rfl⟩
        obtain ⟨hoX, hgX⟩ := (hend 7 (by decide) (by decide)).1
        obtain ⟨u1, hu1⟩ : ∃ u1, u1 = a.eval (.tmp 21) := ⟨_, rfl⟩
        have s21 : f 21 = u1 := by rw [hf, hu1]; rfl
        change OwnHs wT (a.eval (.tmp 21)) _ _ at hoX
        change (a.eval (.tmp 21)).ownBlock = v1.ownBlock ∨ ∃ g, (a.eval (.tmp 21)).ownBlock = some g ∧ w7.heap.size ≤ g at hgX
        rw [← hu1] at hoX hgX
        clear hu1
        obtain ⟨gu, cu, rfl, hcu1, hcu2, -⟩ := hoX.slice (by omega)
        have s22 : f 22 = .pointer (some ⟨w.heap.size + 1 + 1, 0, none⟩) := by rw [hf]; exact (hend 8 (by decide) (by decide)).1
        rw [← hf] at ha
        clear hend hap
        clear hf
        subst ha
        simp only [fill, saS, Nat.reduceAdd, Nat.reduceBEq, Bool.or_false, Bool.or_true, cond_true, cond_false, List.drop_succ_cons, List.drop_zero, s21, s22]
        clear s21 s22

        have hTT := other_block hT.out hgT hneT
        have hcT : wT.cell? ⟨w.heap.size + 1 + 1, 0, none⟩ = some v1 := cell_of_cells hTT rfl
        have hfT : wT.frozen? ⟨w.heap.size + 1 + 1, 0, none⟩ = false := frozen_of_row _ _ _ _ _ hTT
        have hge := app_ge hgX hap.out.1 (by omega)
        have hpp := app_apart hgX ho2.lt hap.out.2.2.2
        have hTB := (set_two hTT (.slice (some ⟨gu, 0, none⟩) (k + 1) cu)).1
        have hoB1 := hoX.keep (grown_cell1 wT (w.heap.size + 1 + 1) 0 (.slice (some ⟨gu, 0, none⟩) (k + 1) cu)) (own_ne hge (by omega))
        have hoB2 := (ho2.keep hgT hap.out.2.2.2).keep (grown_cell1 wT (w.heap.size + 1 + 1) 0 (.slice (some ⟨gu, 0, none⟩) (k + 1) cu)) (own_ne hap.out.2.1 (by omega))
        have hknB := (hkn.row hgT (fun g e => by have := hap.out.1 g e; omega) (fun p hp => ne_own hap.out.1 (by have := hbl.out p hp; omega))).row (grown_cell1 wT (w.heap.size + 1 + 1) 0 (.slice (some ⟨gu, 0, none⟩) (k + 1) cu)) (fun g e => by cases e; omega) (fun p hp => by have := hbl.out p hp; simp; omega)
        have hap2 := hap.out.2.1
        go_wp2_with fail
        generalize wT.setCell ⟨w.heap.size + 1 + 1, 0, none⟩ (.slice (some ⟨gu, 0, none⟩) (k + 1) cu) = wB at hTB hoB1 hoB2 hknB ⊢
        generalize (Value.slice (some ⟨gu, 0, none⟩) (k + 1) cu) = v at hTB hoB1 hge hpp ⊢
        clear hTT hcT hfT hT ho1 ho2 hkn hgT hoX hgX hap hneS hneT hcu1 hcu2
        have hsw7 := lt_of_heap hTB
        have hneS : some w.heap.size ≠ v2.ownBlock := ne_own hap2 (by omega)
        have hneT : some (w.heap.size + 1 + 1) ≠ v2.ownBlock := ne_own hap2 (by omega)
        have hkn := hknB
        go_wp2_with fail
        refine wp_region_gt (R := v2.ownBlock) (i1 := 1) (q := false) (al := sbAl) 11 (N := 36) (S := sbS) (die := sbDie) (own := sbOwn) (F := sbF s k b d (w.heap.size + 1 + 1) v2 D2 Z T wB) (by kernel_rfl) (Nat.le_of_ble_eq_true (by kernel_rfl)) (by kernel_rfl) (by kernel_rfl) (by kernel_rfl) (by kernel_rfl) (Nat.le_of_ble_eq_true (by kernel_rfl)) hoB2.lt (sbF_lasts s k b d (w.heap.size + 1 + 1) v2 D2 Z T wB) ?_ ?_
        · intro i o L' a w K hi ho hg hgN hLi hout hpre houter hitem h1 h2
          have hcases : i = 0 ∨ i = 1 ∨ i = 2 ∨ i = 3 ∨ i = 4 ∨ i = 5 ∨ i = 6 ∨ i = 7 ∨ i = 8 ∨ i = 9 ∨ i = 10 := by omega
          rcases hcases with rfl | rfl | rfl | rfl | rfl | rfl | rfl | rfl | rfl | rfl | rfl
          · cases (show some _ = some o from ho)
            exact ⟨rfl, wp_field rfl (houter _ rfl) (field_O _ 1 (by omega)) (h1 _ _ (grown_refl _ none) rfl (nob rfl) (.inl rfl))⟩
          · cases (show some _ = some o from ho)
            exact ⟨rfl, wp_loadC rfl (hitem 0 (by decide) ⟨hpre 0 rfl, hout _ (by decide)⟩) (load_cell (cell_of_cells (keep_of hTB (hgN rfl)) rfl) Tryd.underlying25 rfl) (h1 _ _ (grown_refl _ none) ⟨rfl, hoB2.kept (hgN rfl)⟩ (fun g e => Nat.lt_of_lt_of_le (hoB2.lt g e) hg.size) (.inr (.inr (.inr (.inr ⟨rfl, rfl⟩)))))⟩
          · cases (show some _ = some o from ho)
            exact ⟨rfl, wp_load_row 23 _ rfl _ (houter _ rfl) _ (s.map bv).toArray (0, 0) _ (other_block (hkn.get 0 b0) hg hneS) Tryd.underlying23 rfl (hashV_size s HL.out) (h1 _ _ (grown_refl _ none) rfl (nob rfl) (.inl rfl))⟩
          · cases (show some _ = some o from ho)
            exact ⟨rfl, wp_move rfl (h1 _ _ (grown_refl _ none) (houter _ rfl) (by rw [houter _ rfl]; exact nob rfl) (by rw [houter _ rfl]; exact .inl rfl))⟩
          · cases (show some _ = some o from ho)
            exact ⟨rfl, wp_move rfl (h1 _ _ (grown_refl _ none) (houter _ rfl) (by rw [houter _ rfl]; exact nob rfl) (by rw [houter _ rfl]; exact .inl rfl))⟩
          · cases (show some _ = some o from ho)
            exact ⟨rfl, wp_bin rfl rfl (hitem 4 (by decide) ⟨hpre 4 rfl, hout _ (by decide)⟩) (guard_sub _ _ _ _ _) (sub1_i64 b d hwr _) (h1 _ _ (grown_refl _ none) rfl (nob rfl) (.inl rfl))⟩
          · cases (show some _ = some o from ho)
            have x25 : a.eval (.tmp 25) = (.agg (s.map bv).toArray) := hitem 2 (by decide) ⟨hpre 2 rfl, hout _ (by decide)⟩
            have x26 : a.eval (.tmp 26) = (.int .i64 (k : Int)) := hitem 3 (by decide) ⟨hpre 3 rfl, hout _ (by decide)⟩
            have x28 : a.eval (.tmp 28) = (.int .i64 (d : Int)) := hitem 5 (by decide) ⟨hpre 5 rfl, hout _ (by decide)⟩
            refine ⟨rfl, wp_call rfl Tryd.func25 (by kernel_rfl) (by kernel_rfl) (args := #[(.agg (s.map bv).toArray), (.int .i64 (k : Int)), (.int .i64 (d : Int))]) (by simp [x25, x26, x28]) ((hsecS w).mono ?_)⟩
            rintro e w' ⟨rfl, hg'⟩
            exact ⟨_, rfl, h1 _ _ hg' rfl (nob rfl) (.inl rfl)⟩
          · cases (show some _ = some o from ho)
            have x29 : a.eval (.tmp 29) = (.agg (Z.map bv).toArray) := hitem 6 (by decide) ⟨hpre 6 rfl, hout _ (by decide)⟩
            refine ⟨rfl, wp_call rfl Tryd.func26 (by kernel_rfl) (by kernel_rfl) (args := #[(.agg (Z.map bv).toArray)]) (by simp [x29]) ((hpub w).mono ?_)⟩
            rintro e w' ⟨rfl, hg'⟩
            exact ⟨_, rfl, h1 _ _ hg' rfl (nob rfl) (.inl rfl)⟩
          · cases (show some _ = some o from ho)
            exact ⟨rfl, wp_lit1 rfl (hitem 7 (by decide) ⟨hpre 7 rfl, hout _ (by decide)⟩) (hlT _) (h1 _ _ (grown_alloc (grown_refl _ _) _) ⟨_, rfl, rd_row (heap_alloc_new _ _)⟩ (fun g e => by cases (show some _ = some g from e); simp) (.inr (.inl ⟨_, rfl, Nat.le_refl _⟩)))⟩
          · cases (show some _ = some o from ho)
            obtain ⟨e1, hown⟩ := hitem 1 (by decide) ⟨hpre 1 rfl, hLi⟩
            obtain ⟨c, e2, hrd⟩ := hitem 8 (by decide) ⟨hpre 8 rfl, hout _ (by decide)⟩
            refine ⟨rfl, wp_appH rfl rfl hown e2 hrd hTl.out (by omega) (by omega) fun v' w' hv hw => h2 rfl 1 v' w' (by decide) ⟨hpre 1 rfl, hLi⟩ rfl rfl hw.1 (Grown.grew hg.size (by rw [show a.eval (.tmp 24) = v2 from e1]) hv hw) (fun g e => hv.lt g e) (FreshT.grew rfl rfl hw)⟩
          · cases (show some _ = some o from ho)
            exact ⟨rfl, wp_field rfl (houter _ rfl) (field_O _ 1 (by omega)) (h1 _ _ (grown_refl _ none) rfl (nob rfl) (.inl rfl))⟩
        · intro a wU hgT hend hap ha
          obtain ⟨f, hf⟩ : ∃ f : Nat → Value, f = fun t => a.tmps.getD t undef := ⟨_, rfl⟩
          obtain ⟨hoX, hgX⟩ := (hend 9 (by decide) (by decide)).1
          obtain ⟨u1, hu1⟩ : ∃ u1, u1 = a.eval (.tmp 32) := ⟨_, rfl⟩
          have s32 : f 32 = u1 := by rw [hf, hu1]; rfl
          change OwnHs wU (a.eval (.tmp 32)) _ _ at hoX
          change (a.eval (.tmp 32)).ownBlock = v2.ownBlock ∨ ∃ g, (a.eval (.tmp 32)).ownBlock = some g ∧ wB.heap.size ≤ g at hgX
          rw [← hu1] at hoX hgX
          clear hu1
          obtain ⟨gv, cv, rfl, hcv1, hcv2, -⟩ := hoX.slice (by omega)
          have s33 : f 33 = .pointer (some ⟨w.heap.size + 1 + 1, 1, none⟩) := by rw [hf]; exact (hend 10 (by decide) (by decide)).1
          rw [← hf] at ha
          clear hend hap
          clear hf
          subst ha
          simp only [fill, sbS, Nat.reduceAdd, Nat.reduceBEq, Bool.or_false, Bool.or_true, cond_true, cond_false, List.drop_succ_cons, List.drop_zero, s32, s33]
          clear s32 s33

          have hUU := other_block hTB hgT hneT
          have hcU : wU.cell? ⟨w.heap.size + 1 + 1, 1, none⟩ = some v2 := cell_of_cells hUU rfl
          have hfU : wU.frozen? ⟨w.heap.size + 1 + 1, 1, none⟩ = false := frozen_of_row _ _ _ _ _ hUU
          have hge2 := app_ge hgX hap2 (by omega)
          have hpp2 := app_apart hgX hoB1.lt hpp.1
          have hTC := (set_two hUU (.slice (some ⟨gv, 0, none⟩) (k + 1) cv)).2
          have hoC2 := hoX.keep (grown_cell1 wU (w.heap.size + 1 + 1) 1 (.slice (some ⟨gv, 0, none⟩) (k + 1) cv)) (own_ne hge2 (by omega))
          have hoC1 := (hoB1.keep hgT hpp.1).keep (grown_cell1 wU (w.heap.size + 1 + 1) 1 (.slice (some ⟨gv, 0, none⟩) (k + 1) cv)) (own_ne hge (by omega))
          have hknC := (hkn.row hgT (fun g e => by have := hap2 g e; omega) (fun p hp => ne_own hap2 (by have := hbl.out p hp; omega))).row (grown_cell1 wU (w.heap.size + 1 + 1) 1 (.slice (some ⟨gv, 0, none⟩) (k + 1) cv)) (fun g e => by cases e; omega) (fun p hp => by have := hbl.out p hp; simp; omega)
          go_wp2_with fail
          generalize wU.setCell ⟨w.heap.size + 1 + 1, 1, none⟩ (.slice (some ⟨gv, 0, none⟩) (k + 1) cv) = wC at hTC hoC1 hoC2 hknC ⊢
          generalize (Value.slice (some ⟨gv, 0, none⟩) (k + 1) cv) = v' at hTC hoC2 hge2 hpp2 ⊢
          clear hUU hcU hfU hoX hgX hcv1 hcv2 hneS hneT
          have HTC := Lib.hid hTC
          clear hTC
          go_roundw
          case rel => exact ⟨k + 1, v, v', by omega, by go_num, HTC, by rw [HY.out]; exact hoC1, by rw [HT.out]; exact hoC2, (show _ ∧ _ ∧ _ ∧ _ from ⟨hge, hge2, hpp2.2, hpp2.1⟩), hknC⟩
          case measure => simp [intOf]; omega
    · have hkk : k = 32 := by omega
      subst hkk
      rw [show ((32 : Nat) : Int) = 32 from rfl]
      obtain ⟨ga, ca, rfl, hca1, hca2, hra⟩ := ho1.slice (by omega)
      obtain ⟨gb, cb, rfl, hcb1, hcb2, hrb⟩ := ho2.slice (by omega)
      obtain ⟨S, hSd⟩ : ∃ S : Array Value, S = #[.slice (some ⟨ga, 0, none⟩) 32 ca, .slice (some ⟨gb, 0, none⟩) 32 cb] := ⟨_, rfl⟩
      have hne1 : some (w.heap.size + 1) ≠ (Value.slice (some ⟨ga, 0, none⟩) 32 ca).ownBlock := ne_own hap.out.1 (by omega)
      have hne2 : some (w.heap.size + 1) ≠ (Value.slice (some ⟨gb, 0, none⟩) 32 cb).ownBlock := ne_own hap.out.2.1 (by omega)
      rw [← hSd] at hT
      have HS := Lib.hid hSd
      clear hSd
      have hsS : Hid ((Tryd.prog.info? 27).map (·.size) = some S.size) := by show _ = _; rw [HS.out]; exact size_one
      have hsA : Hid (S.all (·.oneCell') = true) := by show _ = _; rw [HS.out]; simp [Value.oneCell']
      have hres := hkn.get 1 b1
      go_wp2_with (first
        | (refine wpList_load_row rfl 27 _ rfl (w.heap.size + 1 + 1) rfl _ S (0, 0) _ hT.out Tryd.underlying27 rfl hsS.out ?_)
        | (refine wpList_store_row rfl 27 _ _ rfl (w.heap.size + 1) S rfl rfl 27 _ hres hsS.out (by rw [HS.out]; rfl) hsA.out ?_))
      refine bodyPost_ret (results_cell_row rfl _ _ (w.heap.size + 1) 27 S (0, 0) _ rfl (setRow_heap _ _ _ _ _ _ hres) Tryd.underlying27 rfl hsS.out) rfl ?_
      have hgs : wr.grownBy (wr.setRow (w.heap.size + 1) S) (some (w.heap.size + 1)) := grown_setRow (grown_refl _ _) (.inl rfl) _
      exact ⟨ga, ca, gb, cb, by rw [HS.out], hca1, hca2, hcb1, hcb2, hra.keep hgs (fun ad e => by cases e; exact fun e => hne1 (by rw [← e]; rfl)), hrb.keep hgs (fun ad e => by cases e; exact fun e => hne2 (by rw [← e]; rfl)), grown_setRow hkn.1 (.inr (by omega)) _, (by have := hap.out.1 ga rfl; omega), (by have := hap.out.2.1 gb rfl; omega)⟩
end Go.Proofs.YtepnhepaihpnoaaDoor
