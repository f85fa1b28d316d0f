/- Signatures of other sizes are nobody's; is a signature of a key. -/
import Derived.Test.YtmfnncfiaaeknaaDoorLamW
namespace Go.Proofs.YtmfnncfiaaeknaaDoor
open Go.RowKit

theorem wpList_wanted {P : Program} {ops : Array Oper} {rest : List Oper} {o : Oper} {a : Act} {w : World} {Q : Exit → Act → World → Prop} (hw : Region.wanted o (yielded ops a.tmps) = true)
    (h : ∀ K : Act → World → Prop, (∀ a w, wpList P ops Q rest a w → K a w) → o.wp P a w K Q) : wpList P ops Q (o :: rest) a w :=
  wpList_step fun K hK => by simp only [hw, if_true]; exact h K hK
theorem wpList_load_row_g {P : Program} {ops : Array Oper} {rest : List Oper} {o : Oper} {a : Act} {w : World} {Q : Exit → Act → World → Prop} (hw : Region.wanted o (yielded ops a.tmps) = true) (ty : TypeId) (x : Operand) (ho : o.op = .load ty x)
    (g : Nat) (hx : a.eval x = .pointer (some ⟨g, 0, none⟩)) (t : TypeId) (cs : Array Value) (fr : Nat × Nat) (d : TypeDesc) (hg : w.heap[g]? = some (.cells cs t fr))
    (hu : P.underlying ty = some d) (hd : (match d with | .struct _ | .array _ _ => true | _ => false) = true) (hi : (P.info? ty).map (·.size) = some cs.size)
    (h : wpList P ops Q rest (a.put o.dst (.agg cs)) w) : wpList P ops Q (o :: rest) a w :=
  wpList_wanted hw fun _ hK => wp_load_row ty x ho g hx t cs fr d hg hu hd hi (hK _ _ h)

def zeroH : List UInt8 := List.replicate 32 0
theorem zeroH_len : zeroH.length = 32 := rfl
theorem rowZ : rowH [] = (zeroH.map bv).toArray := by simp [rowH, zeroH, bv]

set_option maxRecDepth 100000 in
theorem Who_short (A : Option Addr) (n c : Nat) (A1 : Option Addr) (n1 c1 : Nat) (A2 : Option Addr) (n2 c2 : Nat) (w : World) (h : n1 ≠ 32 ∨ n2 ≠ 32) :
    Calls Tryd.prog 32 #[.slice A n c, .agg #[.slice A1 n1 c1, .slice A2 n2 c2]] w fun e w' => e = .returned (.tuple #[.agg (zeroH.map bv).toArray, .bool false]) ∧ w.grownBy w' none := by
  suffices hs : Calls Tryd.prog 32 #[.slice A n c, .agg #[.slice A1 n1 c1, .slice A2 n2 c2]] w fun e w' => e = .returned (.tuple #[.agg (rowH []), .bool false]) ∧ w.grownBy w' none from
    hs.mono fun e w' he => ⟨by rw [he.1, rowZ], he.2⟩
  have hq : ¬ (n1 : Int) = 32 ∨ (n1 : Int) = 32 ∧ ¬ (n2 : Int) = 32 := by omega
  clear h
  go_enter Tryd.func32, Tryd.ntmps32
  have hsz : Hid ((Tryd.prog.info? 23).map (·.size) = some (rowH []).size) := by show _ = _; rw [rowH_size _ (by simp)]; exact size_hash
  have hal : Hid ((rowH []).all (·.oneCell') = true) := by show _ = _; rw [rowZ]; exact bv_all' _
  rcases hq with hq | ⟨hq1, hq2⟩ <;>
    (go_wp2_with (refine wpList_store_row rfl 23 _ _ rfl (w.heap.size + 1) (rowH []) rfl rfl 23 (rowH []) (alloc_at (by simp)) hsz.out rfl hal.out ?_)
     refine bodyPost_ret (results_row_tmp rfl _ _ (w.heap.size + 1) 23 (rowH []) (0, 0) _ rfl (setRow_heap _ _ _ _ _ _ (alloc_at (by simp))) Tryd.underlying23 rfl hsz.out) rfl ?_
     exact ⟨rfl, grown_setRow (grown_alloc (grown_alloc (grown_refl _ _) _) _) (.inr (by omega)) _⟩)

set_option maxRecDepth 100000 in
theorem Verify_any (x : List UInt8) (hx : x.length = 32) (A : Option Addr) (m : List UInt8) (c : Nat) (a1 c1 a2 c2 : Nat) (f g : Nat → List UInt8) (hf : ∀ i, (f i).length = 32) (hg32 : ∀ i, (g i).length = 32) (w : World) (hk : Laid2 w) (hr : RdB w A m) (hb : m.length ≤ 1000)
    (h1 : RdB w (some ⟨a1, 0, none⟩) (partsF f 32)) (h2 : RdB w (some ⟨a2, 0, none⟩) (partsF g 32)) :
    Calls Tryd.prog 11 #[.agg (x.map bv).toArray, .slice A m.length c, .agg #[.slice (some ⟨a1, 0, none⟩) 32 c1, .slice (some ⟨a2, 0, none⟩) 32 c2]] w fun e w' => e = .returned (.bool (whoF m f g == x)) ∧ w.grownBy w' none := by
  have hw := fun w' (h : w.grownBy w' none) => Who_any A m c a1 c1 a2 c2 f g hf hg32 w' (hk.kept h) (hr.kept h) hb (h1.kept h) (h2.kept h)
  have hYl : Hid ((whoF m f g).length = 32) := whoF_len m f g
  generalize whoF m f g = Y at hw hYl ⊢
  have HX := Lib.hid hx
  have heq := fun w' => eql_hash Y x hYl.out hx w'
  clear hx
  go_enter Tryd.func11, Tryd.ntmps11
  go_wp2_with (first
    | (go_at_call 32; refine (hw _ (grown_alloc (grown_alloc (grown_refl _ _) _) _)).mono ?_; rintro e w6 ⟨rfl, hg6⟩)
    | (refine wpList_store_row rfl 23 _ _ rfl (w6.heap.size) (Y.map bv).toArray rfl rfl 23 _ (alloc_at rfl) (hashV_size Y hYl.out) (by rw [show (Y.map bv).toArray.size = 32 from by rw [List.size_toArray, List.length_map, hYl.out]]; rfl) (bv_all' _) ?_; generalize hw3 : World.setRow _ _ _ = w3; have HW3 := new_hash hw3; clear hw3; have l0 : w3.heap[w.heap.size]? = some (.cells (x.map bv).toArray 23 (0, 0)) := keep_of (alloc_old (alloc_at rfl)) (grown_same hg6 HW3.2))
    | (refine wpList_load_row_g (by rfl) 23 _ rfl w6.heap.size rfl _ (Y.map bv).toArray (0, 0) _ HW3.1 Tryd.underlying23 rfl (hashV_size Y hYl.out) ?_)
    | (refine wpList_load_row_g (by rfl) 23 _ rfl w.heap.size rfl _ (x.map bv).toArray (0, 0) _ l0 Tryd.underlying23 rfl (hashV_size x HX.out) ?_))
  go_ret
  exact ⟨rfl, grown_same (grown_alloc (grown_alloc (grown_refl _ _) _) _) (grown_same hg6 HW3.2)⟩

set_option maxRecDepth 100000 in
theorem Verify_short (x : List UInt8) (hx : x.length = 32) (A : Option Addr) (n c : Nat) (A1 : Option Addr) (n1 c1 : Nat) (A2 : Option Addr) (n2 c2 : Nat) (w : World) (h : n1 ≠ 32 ∨ n2 ≠ 32) :
    Calls Tryd.prog 11 #[.agg (x.map bv).toArray, .slice A n c, .agg #[.slice A1 n1 c1, .slice A2 n2 c2]] w fun e w' => e = .returned (.bool false) ∧ w.grownBy w' none := by
  have hw := fun w' => Who_short A n c A1 n1 c1 A2 n2 c2 w' h
  have hYl : Hid (zeroH.length = 32) := zeroH_len
  generalize zeroH = Y at hw hYl
  have HX := Lib.hid hx
  clear hx h
  go_enter Tryd.func11, Tryd.ntmps11
  go_wp2_with (first
    | (go_at_call 32; refine (hw _).mono ?_; rintro e w6 ⟨rfl, hg6⟩)
    | (refine wpList_store_row rfl 23 _ _ rfl (w6.heap.size) (Y.map bv).toArray rfl rfl 23 _ (alloc_at rfl) (hashV_size Y hYl.out) (by rw [show (Y.map bv).toArray.size = 32 from by rw [List.size_toArray, List.length_map, hYl.out]]; rfl) (bv_all' _) ?_; generalize hw3 : World.setRow _ _ _ = w3; have HW3 := new_hash hw3; clear hw3))
  go_ret
  exact ⟨rfl, grown_same (grown_alloc (grown_alloc (grown_refl _ _) _) _) (grown_same hg6 HW3.2)⟩

/-! ## As lists -/
theorem partsF_congr (f g : Nat → List UInt8) : ∀ n, (∀ i, i < n → f i = g i) → partsF f n = partsF g n
  | 0, _ => rfl
  | n + 1, h => by rw [partsF_next, partsF_next, partsF_congr f g n fun i hi => h i (by omega), h n (by omega)]
theorem whoF_congr {m n : List UInt8} {f g f' g' : Nat → List UInt8} (h : ∀ i, i < 32 → bitL m i = bitL n i ∧ f i = f' i ∧ g i = g' i) : whoF m f g = whoF n f' g' := by
  unfold whoF
  rw [partsF_congr _ _ 32 fun i hi => by unfold whoPair; rw [(h i hi).1, (h i hi).2.1, (h i hi).2.2]]
  rfl
theorem flat_flatMap (F : Nat → List (List UInt8)) (l : List Nat) : (l.flatMap F).flatten = (l.map fun i => (F i).flatten).flatten := by
  induction l with
  | nil => rfl
  | cons x l ih => rw [List.flatMap_cons, List.flatten_append, ih, List.map_cons, List.flatten_cons]
theorem whoF_list (n : List UInt8) (f g : Nat → List UInt8) : whoL n ((List.range 32).map f) ((List.range 32).map g) = whoF n f g := by
  unfold whoL keyOf whoParts whoF
  rw [flat_flatMap]
  unfold partsF
  congr 2
  refine List.map_congr_left fun i hi => ?_
  have hi' : i < 32 := by simpa using hi
  rw [range_getD _ _ _ _ hi', range_getD _ _ _ _ hi']
  unfold whoPair
  split <;> simp
theorem whoF_sign (s m : List UInt8) : whoF m (openF s m) (shutF s m) = keyL s := by
  rw [← whoF_list, ← who_sign s m]; exact Eq.refl _
theorem other5F : whoF [98] (openF seed5 [97]) (shutF seed5 [97]) ≠ keyL seed5 := by
  rw [← whoF_list]; exact other5
end Go.Proofs.YtmfnncfiaaeknaaDoor
