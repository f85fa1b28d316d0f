/- Rings: what the document's own reckoning says of a signature. -/
import Derived.Test.YtohdifimfhdhoaaDoorRingC
namespace Go.Proofs.YtohdifimfhdhoaaDoor
open Go.RowKit

theorem wp_extr {P : Program} {o : Oper} {a : Act} {w : World} {K : Act → World → Prop} {Q : Exit → Act → World → Prop} {x : Operand} {k : Nat} {vs : Array Value} {v : Value} (ho : o.op = .extract x k) (hx : a.eval x = .tuple vs) (hk : vs[k]? = some v) (h : K (a.put o.dst v) w) : Oper.wp P o a w K Q := by
  unfold Oper.wp execOp
  simp [ho, hx, hk, Instr.extract]
  exact h
theorem field_S2 (g : Nat) (w : World) : (Instr.fieldAt 28 (.pointer (some ⟨g, 0, none⟩)) 2).run Tryd.prog w = .ok (.pointer (some ⟨g, 3, none⟩)) w := by kernel_rfl
theorem cell_at3 {w : World} {g : Nat} {a b c d : Value} {t : TypeId} {fr : Nat × Nat} (h : w.heap[g]? = some (.cells #[a, b, c, d] t fr)) : w.cell? ⟨g, 3, none⟩ = some d := by rw [cell_of_row _ _ _ _ _ _ h]; rfl

def vaS (t : Nat) : Bool := t == 11 || t == 12 || t == 36 || t == 37 || t == 38 || t == 39 || t == 40 || t == 41 || t == 42 || t == 43 || t == 44
def vaDie (k : Nat) : Nat := if k = 9 then 10 else 99
def vaOwn (k : Nat) : Bool := k == 9 || k == 10
def vaAl (k : Nat) : Bool := k == 0 || k == 4 || k == 9 || k == 10
def vaF (i g7 g9 a3 o3 d c3 : Nat) (b : Bool) (U : List UInt8) : Nat → Value → World → Prop
  | 0 => fun v _ => v = .slice (some ⟨g9, 0, none⟩) 32 32
  | 1 => fun v _ => v = .int .i64 ((i : Int) + 1)
  | 2 => fun v _ => v = .int .i64 (i : Int)
  | 3 => fun v _ => v = .pointer (some ⟨g7, 3, none⟩)
  | 4 => fun v _ => v = .slice (some ⟨a3, o3, none⟩) d c3
  | 5 => fun v _ => ∃ Z : List UInt8, (Z.length = 32 ∧ (d = depthN i 16 → Z = U)) ∧ v = .tuple #[.agg (Z.map bv).toArray, .bool b]
  | 6 => fun v _ => ∃ Z : List UInt8, (Z.length = 32 ∧ (d = depthN i 16 → Z = U)) ∧ v = .tuple #[.agg (Z.map bv).toArray, .bool b]
  | 7 => fun v _ => ∃ Z : List UInt8, (Z.length = 32 ∧ (d = depthN i 16 → Z = U)) ∧ v = .agg (Z.map bv).toArray
  | 8 => fun v _ => v = .bool b
  | 9 => Made (rowH []) 23
  | 10 => Stored 23
  | 11 => fun v _ => v = .bool b
  | _ => fun _ _ => True
theorem vaF_lasts (i g7 g9 a3 o3 d c3 : Nat) (b : Bool) (U : List UInt8) : ∀ kq, LastsB vaAl kq (vaF i g7 g9 a3 o3 d c3 b U kq)
  | 0 => LastsB.val _
  | 1 => LastsB.val _
  | 2 => LastsB.val _
  | 3 => LastsB.val _
  | 4 => LastsB.val _
  | 5 => fun _ _ _ _ h _ _ => h
  | 6 => fun _ _ _ _ h _ _ => h
  | 7 => fun _ _ _ _ h _ _ => h
  | 8 => LastsB.val _
  | 9 => LastsB.made rfl _ _
  | 10 => LastsB.stored rfl _
  | 11 => LastsB.val _
  | _ + 12 => fun _ _ _ _ _ _ _ => trivial

/-- Is it a signature at height i + 1, by the identity x? -/
def verR (x : List UInt8) (m : List UInt8) (f g : Nat → List UInt8) (i : Nat) (P : List UInt8) (d : Nat) : Bool := decide (d = 4) && (upL (whoF m f g) i 16 P 4 == x)

set_option maxRecDepth 100000 in
theorem RVerify_in (x : List UInt8) (hx : x.length = 32) (i : Nat) (hi : i < 16) (M : Option Addr) (m : List UInt8) (cm a1 c1 a2 c2 : Nat) (f g : Nat → List UInt8) (hf : ∀ i, (f i).length = 32) (hg32 : ∀ i, (g i).length = 32) (a3 o3 d c3 : Nat) (P : List UInt8) (hd : d ≤ 1000) (hP : P.length = d * 32) (hdc : d ≤ c3) (w : World)
    (hr : RdB w M m) (hb : m.length ≤ 1000) (h1 : RdB w (some ⟨a1, 0, none⟩) (partsF f 32)) (h2 : RdB w (some ⟨a2, 0, none⟩) (partsF g 32)) (h3 : RdB w (some ⟨a3, o3, none⟩) P) :
    Calls Tryd.prog 17 #[.agg (x.map bv).toArray, .int .i64 ((i + 1 : Nat) : Int), .slice M m.length cm, .agg #[.int .i64 ((i + 1 : Nat) : Int), .slice (some ⟨a1, 0, none⟩) 32 c1, .slice (some ⟨a2, 0, none⟩) 32 c2, .slice (some ⟨a3, o3, none⟩) d c3]] w fun e w' => e = .returned (.bool (verR x m f g i P d)) ∧ w.grownBy w' none := by
  have hw := fun w' (h : w.grownBy w' none) => RWho_any M m cm a1 c1 a2 c2 f g hf hg32 w' (hr.kept h) hb (h1.kept h) (h2.kept h)
  have hYl : Hid ((whoF m f g).length = 32) := whoF_len m f g
  obtain ⟨R, hR⟩ : ∃ R, R = verR x m f g i P d := ⟨_, rfl⟩
  have HR : Hid (∀ Z : List UInt8, (d = depthN i 16 → Z = upL (whoF m f g) i 16 P d) → R = (decide (d = depthN i 16) && (Z == x))) := by
    intro Z hZ
    rw [hR, verR]
    rw [show depthN i 16 = 4 from depthN_pow 4 i hi] at hZ ⊢
    by_cases h4 : d = 4
    · rw [hZ h4, h4]
    · rw [decide_eq_false h4]; rfl
  rw [← hR]
  clear hR
  have HX := Lib.hid hx
  have hup := fun (Y : List UInt8) (hY : Y.length = 32) A' c' w' (h : w.grownBy w' none) (hy : RdB w' A' Y) => RUp_off A' Y c' (by omega) 16 i d (some ⟨a3, o3, none⟩) P c3 w' hi (by omega) hd (.inr ⟨a3, o3, rfl⟩) hP hdc hy (h3.kept h)
  generalize whoF m f g = Y at hw hYl HR
  replace hup := fun A' c' w' (h : w.grownBy w' none) (hy : RdB w' A' Y) => hup Y hYl.out A' c' w' h hy
  rw [hYl.out] at hup
  obtain ⟨b, hb4⟩ : ∃ b, b = decide (d = depthN i 16) := ⟨_, rfl⟩
  rw [← hb4] at hup HR
  replace hb4 := Lib.hid hb4
  clear hx hr hb h1 h2 h3 hf hg32 hP hd
  have i1 : ¬ ((i + 1 : Nat) : Int) < 1 := by omega
  have i2 : ¬ (16 : Int) < ((i + 1 : Nat) : Int) := by omega
  go_enter Tryd.func17, Tryd.ntmps17
  go_upto_region 4 with (first
    | (go_at_call 33; refine (hw _ (grown_alloc (grown_alloc (grown_refl _ _) _) _)).mono ?_; rintro e w6 ⟨rfl, hg6⟩)
    | (refine wpList_store_row rfl 23 _ _ rfl (w6.heap.size) (Y.map bv).toArray rfl rfl 23 _ (alloc_at rfl) (hashV_size Y hYl.out) (by rw [show (Y.map bv).toArray.size = 32 from by rw [List.size_toArray, List.length_map, hYl.out]]; rfl) (bv_all' _) ?_; generalize hw3 : World.setRow _ _ _ = w3; have HW3 := new_hash hw3; clear hw3; have l0 : w3.heap[w.heap.size]? = some (.cells (x.map bv).toArray 23 (0, 0)) := keep_of (keep_of (alloc_old (alloc_at rfl)) hg6) HW3.2; have l1 : w3.heap[w.heap.size + 1]? = some (.cells #[.int .i64 ((i : Int) + 1), .slice (some ⟨a1, 0, none⟩) 32 c1, .slice (some ⟨a2, 0, none⟩) 32 c2, .slice (some ⟨a3, o3, none⟩) d c3] 28 (0, 0)) := keep_of (keep_of (alloc_at (by simp)) hg6) HW3.2; have l2 : w3.cell? ⟨w.heap.size + 1, 0, none⟩ = some (.int .i64 ((i : Int) + 1)) := (by rw [cell_of_row _ _ _ _ _ _ l1]; rfl)))
  have hsub1 : ∀ w', (binOp .sub 3 (.int .i64 ((i : Int) + 1)) (.int .i64 1)).run Tryd.prog w' = .ok (.int .i64 (i : Int)) w' := fun w' => by
    have := sub_nat (i + 1) 1 (by omega) (by omega) w'
    exact this
  have hg3 : w.grownBy w3 none := grown_same (grown_alloc (grown_alloc (grown_refl _ _) _) _) (grown_same hg6 HW3.2)
  have l9 := HW3.1
  have hs3 : w.heap.size + 2 ≤ w3.heap.size := Nat.le_trans (by have := hg6.size; simpa using this) HW3.2.size
  replace hup := fun A' c' w' (h : w3.grownBy w' none) (hy : RdB w' A' Y) => hup A' c' w' (grown_same hg3 h) hy
  obtain ⟨U, hU⟩ : ∃ U, U = upL Y i 16 P d := ⟨_, rfl⟩
  rw [← hU] at hup HR
  clear HW3 hg6 hU
  generalize w6.heap.size = g9 at l9 ⊢
  generalize hg7e : w.heap.size + 1 = g7 at l1 l2 ⊢
  refine wp_region_gb (al := vaAl) 12 (N := 51) (S := vaS) (die := vaDie) (own := vaOwn) (F := vaF i g7 g9 a3 o3 d c3 b U) (by kernel_rfl) (Nat.le_of_ble_eq_true (by kernel_rfl)) (fun h => absurd (show 12 < 12 from h) (Nat.lt_irrefl _)) (fun h => absurd (show 12 < 12 from h) (Nat.lt_irrefl _)) (by kernel_rfl) (by kernel_rfl) (Nat.le_of_ble_eq_true (by kernel_rfl)) (vaF_lasts i g7 g9 a3 o3 d c3 b U) ?_ ?_
  · intro i o L' a w K hi ho hg hLi hout hpre houter hitem h1 h2 h3
    have hcases : i = 0 ∨ i = 1 ∨ i = 2 ∨ i = 3 ∨ i = 4 ∨ i = 5 ∨ i = 6 ∨ i = 7 ∨ i = 8 ∨ i = 9 ∨ i = 10 ∨ i = 11 := by omega
    rcases hcases with rfl | rfl | rfl | rfl | rfl | rfl | rfl | rfl | rfl | rfl | rfl | rfl
    · cases (show some _ = some o from ho)
      exact ⟨rfl, wp_slice_all rfl (houter 9 rfl) (sl_arr _ _ _) (h1 ⟨_, rfl⟩ _ _ (grown_refl _ none) rfl (nobl rfl) (FreshB.none rfl))⟩
    · cases (show some _ = some o from ho)
      exact ⟨rfl, wp_move rfl (h1 ⟨_, rfl⟩ _ _ (grown_refl _ none) (houter _ rfl) (by rw [houter _ rfl]; exact nobl rfl) (by rw [houter _ rfl]; exact FreshB.none rfl))⟩
    · cases (show some _ = some o from ho)
      exact ⟨rfl, wp_bin rfl (hitem 1 (by decide) ⟨hpre 1 rfl, hout _ (by decide)⟩) rfl (guard_subI _ _ _ _ _) (hsub1 _) (h1 ⟨_, rfl⟩ _ _ (grown_refl _ none) rfl (nobl rfl) (FreshB.none rfl))⟩
    · cases (show some _ = some o from ho)
      exact ⟨rfl, wp_field rfl (houter 7 rfl) (field_S2 _) (h1 ⟨_, rfl⟩ _ _ (grown_refl _ none) rfl (nobl rfl) (FreshB.none rfl))⟩
    · cases (show some _ = some o from ho)
      exact ⟨rfl, wp_loadC rfl (hitem 3 (by decide) ⟨hpre 3 rfl, hout _ (by decide)⟩) (load_cell (cell_at3 (keep_of l1 hg)) Tryd.underlying24 rfl) (h1 ⟨_, rfl⟩ _ _ (grown_refl _ none) rfl (nobl rfl) (FreshB.none rfl))⟩
    · cases (show some _ = some o from ho)
      have x37 : a.eval (.tmp 37) = .slice (some ⟨g9, 0, none⟩) 32 32 := hitem 0 (by decide) ⟨hpre 0 rfl, hout _ (by decide)⟩
      have x39 : a.eval (.tmp 39) = .int .i64 (i : Int) := hitem 2 (by decide) ⟨hpre 2 rfl, hout _ (by decide)⟩
      have x41 : a.eval (.tmp 41) = .slice (some ⟨a3, o3, none⟩) d c3 := hitem 4 (by decide) ⟨hpre 4 rfl, hout _ (by decide)⟩
      refine ⟨rfl, wp_call rfl Tryd.func34 (by kernel_rfl) (by kernel_rfl) (args := #[.slice (some ⟨g9, 0, none⟩) 32 32, .int .i64 (i : Int), .int .i64 16, .slice (some ⟨a3, o3, none⟩) d c3]) (by simp [eval_const, x37, x39, x41]) ((hup _ _ w hg (rd_row (keep_of l9 hg))).mono ?_)⟩
      rintro e w' ⟨Z, hz1, hz2, rfl, hg'⟩
      exact ⟨_, rfl, h1 ⟨_, rfl⟩ _ _ hg' ⟨Z, ⟨hz1, hz2⟩, rfl⟩ (nobl rfl) (FreshB.none rfl)⟩
    · cases (show some _ = some o from ho)
      obtain ⟨Z, hz, e42⟩ := hitem 5 (by decide) ⟨hpre 5 rfl, hout _ (by decide)⟩
      replace e42 : a.eval (.tmp 42) = _ := e42
      exact ⟨rfl, wp_move rfl (h1 ⟨_, rfl⟩ _ _ (grown_refl _ none) ⟨Z, hz, e42⟩ (by rw [e42]; exact nobl rfl) (by rw [e42]; exact FreshB.none rfl))⟩
    · cases (show some _ = some o from ho)
      obtain ⟨Z, hz, e36⟩ := hitem 6 (by decide) ⟨hpre 6 rfl, hout _ (by decide)⟩
      replace e36 : a.eval (.tmp 36) = _ := e36
      exact ⟨rfl, wp_extr rfl e36 rfl (h1 ⟨_, rfl⟩ _ _ (grown_refl _ none) ⟨Z, hz, rfl⟩ (nobl (blocks_bytes _)) (FreshB.none (blocks_bytes _)))⟩
    · cases (show some _ = some o from ho)
      obtain ⟨Z, hz, e36⟩ := hitem 6 (by decide) ⟨hpre 6 rfl, hout _ (by decide)⟩
      replace e36 : a.eval (.tmp 36) = _ := e36
      exact ⟨rfl, wp_extr rfl e36 rfl (h1 ⟨_, rfl⟩ _ _ (grown_refl _ none) rfl (nobl rfl) (FreshB.none rfl))⟩
    · cases (show some _ = some o from ho)
      exact ⟨rfl, wp_alloc rfl (alloc_H _) (h1 ⟨_, rfl⟩ _ _ (grown_alloc (grown_refl _ _) _) ⟨_, rfl, heap_alloc_new _ _⟩ (new_lt _ _) (FreshB.new (new_ge _)))⟩
    · cases (show some _ = some o from ho)
      obtain ⟨b, e1, hb⟩ := hitem 9 (by decide) ⟨hpre 9 rfl, hLi⟩
      obtain ⟨Z, hz, x2⟩ := hitem 7 (by decide) ⟨hpre 7 rfl, hout _ (by decide)⟩
      replace x2 : a.eval (.tmp 43) = _ := x2
      exact ⟨rfl, wp_store_row 23 _ _ rfl b (Z.map bv).toArray e1 x2 23 _ hb (hashV_size _ hz.1) (by rw [rowH_size _ (by simp), List.size_toArray, List.length_map, hz.1]) (bv_all' _) (h3 rfl 9 _ _ (some b) (by decide) ⟨hpre 9 rfl, hLi⟩ rfl rfl (grown_setRow (grown_refl _ _) (.inl rfl) _) (fun g e => by cases e; rw [show valB _ a 9 = _ from e1]; exact List.mem_singleton.2 rfl) ⟨b, _, (by rw [show valB _ a 10 = .tuple #[a.eval (.tmp 11), a.eval (.tmp 43)] from rfl, show a.eval (.tmp 11) = _ from e1, x2]), setRow_heap _ _ _ _ _ _ hb⟩ (fun g h => by rw [show valB _ a 10 = .tuple #[a.eval (.tmp 11), a.eval (.tmp 43)] from rfl, show a.eval (.tmp 11) = _ from e1] at h; rw [show valB _ a 9 = _ from e1]; exact h))⟩
    · cases (show some _ = some o from ho)
      have hx := hitem 8 (by decide) ⟨hpre 8 rfl, hout _ (by decide)⟩
      exact ⟨rfl, wp_assign rfl (h1 ⟨_, rfl⟩ _ _ (grown_refl _ none) hx (by rw [show a.eval (.tmp 44) = .bool b from hx]; exact nobl rfl) (by rw [show a.eval (.tmp 44) = .bool b from hx]; exact FreshB.none rfl))⟩
  · intro a wT hgT hend hap ha
    obtain ⟨f, hf⟩ : ∃ f : Nat → Value, f = fun t => a.tmps.getD t undef := ⟨_, rfl⟩
    obtain ⟨Z, hz, q43⟩ := (hend 7 (by decide) (by decide)).1
    have s43 := (congrFun hf 43).trans q43
    obtain ⟨⟨b11, C11, q11, hh11⟩, fr11⟩ := hend 10 (by decide) (by decide)
    have f11 : w3.heap.size ≤ b11 := fr11 rfl b11 (by rw [q11]; exact List.mem_singleton.2 rfl)
    have p11 := tuple_two (show Value.tuple #[_, _] = _ from q11)
    have s11 := (congrFun hf 11).trans p11.1
    have v11 : f 43 = .agg C11 := (congrFun hf 43).trans p11.2
    obtain rfl := Value.agg.inj (v11.symm.trans s43)
    clear v11
    have s12 : f 12 = .bool b := by rw [hf]; exact (hend 11 (by decide) (by decide)).1
    rw [← hf] at ha
    clear hend hap
    clear hf
    clear q43 q11 p11 fr11
    subst ha
    simp only [fill, vaS, Nat.reduceAdd, Nat.reduceBEq, Bool.or_false, Bool.or_true, cond_true, cond_false, List.drop_succ_cons, List.drop_zero, s43, s11, s12]
    clear s43
    have heq := fun w' => eql_hash Z x hz.1 HX.out w'
    replace l0 := keep_of l0 hgT
    clear hup hw
    cases b <;>
    go_wp2_with (first
      | (refine wpList_load_row_g (by rfl) 23 _ rfl b11 rfl _ (Z.map bv).toArray (0, 0) _ hh11 Tryd.underlying23 rfl (hashV_size Z hz.1) ?_)
      | (refine wpList_load_row_g (by rfl) 23 _ rfl w.heap.size rfl _ (x.map bv).toArray (0, 0) _ l0 Tryd.underlying23 rfl (hashV_size x HX.out) ?_))
    · go_ret
      exact ⟨by rw [HR.out Z hz.2]; rfl, grown_same hg3 hgT⟩
    · go_ret
      exact ⟨by rw [HR.out Z hz.2]; rfl, grown_same hg3 hgT⟩

set_option maxRecDepth 100000 in
theorem RVerify_no (x : List UInt8) (h H : Int) (hne : ¬ H = h) (M : Option Addr) (m : List UInt8) (cm a1 c1 a2 c2 : Nat) (f g : Nat → List UInt8) (hf : ∀ i, (f i).length = 32) (hg32 : ∀ i, (g i).length = 32) (B : Option Addr) (d c3 : Nat) (w : World)
    (hr : RdB w M m) (hb : m.length ≤ 1000) (h1 : RdB w (some ⟨a1, 0, none⟩) (partsF f 32)) (h2 : RdB w (some ⟨a2, 0, none⟩) (partsF g 32)) :
    Calls Tryd.prog 17 #[.agg (x.map bv).toArray, .int .i64 h, .slice M m.length cm, .agg #[.int .i64 H, .slice (some ⟨a1, 0, none⟩) 32 c1, .slice (some ⟨a2, 0, none⟩) 32 c2, .slice B d c3]] w fun e w' => e = .returned (.bool false) ∧ w.grownBy w' none := by
  have hw := fun w' (h : w.grownBy w' none) => RWho_any M m cm a1 c1 a2 c2 f g hf hg32 w' (hr.kept h) hb (h1.kept h) (h2.kept h)
  have hYl : Hid ((whoF m f g).length = 32) := whoF_len m f g
  generalize whoF m f g = Y at hw hYl
  clear hr hb h1 h2 hf hg32
  go_enter Tryd.func17, Tryd.ntmps17
  go_wp2_with (first
    | (go_at_call 33; refine (hw _ (grown_alloc (grown_alloc (grown_refl _ _) _) _)).mono ?_; rintro e w6 ⟨rfl, hg6⟩)
    | (refine wpList_store_row rfl 23 _ _ rfl (w6.heap.size) (Y.map bv).toArray rfl rfl 23 _ (alloc_at rfl) (hashV_size Y hYl.out) (by rw [show (Y.map bv).toArray.size = 32 from by rw [List.size_toArray, List.length_map, hYl.out]]; rfl) (bv_all' _) ?_; generalize hw3 : World.setRow _ _ _ = w3; have HW3 := new_hash hw3; clear hw3; have l1 : w3.heap[w.heap.size + 1]? = some (.cells #[.int .i64 H, .slice (some ⟨a1, 0, none⟩) 32 c1, .slice (some ⟨a2, 0, none⟩) 32 c2, .slice B d c3] 28 (0, 0)) := keep_of (keep_of (alloc_at (by simp)) hg6) HW3.2; have l2 : w3.cell? ⟨w.heap.size + 1, 0, none⟩ = some (.int .i64 H) := (by rw [cell_of_row _ _ _ _ _ _ l1]; rfl)))
  go_ret
  exact ⟨rfl, grown_same (grown_alloc (grown_alloc (grown_refl _ _) _) _) (grown_same hg6 HW3.2)⟩
end Go.Proofs.YtohdifimfhdhoaaDoor
