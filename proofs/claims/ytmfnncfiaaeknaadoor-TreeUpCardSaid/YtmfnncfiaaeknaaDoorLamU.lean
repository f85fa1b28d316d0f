/- Whose a signature is; the document's own. -/
import Derived.Test.YtmfnncfiaaeknaaDoorLamK
namespace Go.Proofs.YtmfnncfiaaeknaaDoor
open Go.RowKit

theorem wpList_lit2 {P : Program} {ops : Array Oper} {rest : List Oper} {o : Oper} {a : Act} {w w' : World} {Q : Exit → Act → World → Prop} (hgd : o.guard = none) {t : TypeId} {x y : Operand} {u1 u2 v : Value} (ho : o.op = .buildSlice t 2 #[(0, x), (1, y)]) (hx : a.eval x = u1) (hy : a.eval y = u2)
    (hrun : (Instr.buildSlice t 2 #[(0, u1), (1, u2)]).run P w = .ok v w') (h : wpList P ops Q rest (a.put o.dst v) w') : wpList P ops Q (o :: rest) a w :=
  wpList_plain hgd fun _ hK => wp_lit2 ho hx hy hrun (hK _ _ h)

def ruS (t : Nat) : Bool := t == 8 || t == 9 || t == 24 || t == 25 || t == 26 || t == 27 || t == 28 || t == 29 || t == 30 || t == 31 || t == 32 || t == 33 || t == 34
def ruDie (k : Nat) : Nat := if k = 11 then 13 else 99
def ruOwn (k : Nat) : Bool := k == 11 || k == 12 || k == 13
def ruAl (k : Nat) : Bool := k == 1 || k == 7 || k == 11 || k == 12 || k == 13
def ruF (k a1 c1 a2 c2 gb : Nat) (F G T : List UInt8) : Nat → Value → World → Prop
  | 0 => fun v _ => v = .pointer (some ⟨gb, 0, none⟩)
  | 1 => fun v _ => v = .slice (some ⟨a1, 0, none⟩) 32 c1
  | 2 => fun v _ => v = .int .i64 (k : Int)
  | 3 => fun v _ => v = .pointer (some ⟨a1, k * 32, none⟩)
  | 4 => fun v _ => v = (.agg (F.map bv).toArray)
  | 5 => fun v _ => v = (.agg (T.map bv).toArray)
  | 6 => fun v _ => v = .pointer (some ⟨gb, 1, none⟩)
  | 7 => fun v _ => v = .slice (some ⟨a2, 0, none⟩) 32 c2
  | 8 => fun v _ => v = .int .i64 (k : Int)
  | 9 => fun v _ => v = .pointer (some ⟨a2, k * 32, none⟩)
  | 10 => fun v _ => v = (.agg (G.map bv).toArray)
  | 11 => Made (rowH []) 23
  | 12 => Made (rowH []) 23
  | 13 => Stored 23
  | _ => fun _ _ => True
theorem ruF_lasts (k a1 c1 a2 c2 gb : Nat) (F G T : List UInt8) : ∀ kq, LastsB ruAl kq (ruF k a1 c1 a2 c2 gb F G T kq)
  | 0 => LastsB.val _
  | 1 => LastsB.val _
  | 2 => LastsB.val _
  | 3 => LastsB.val _
  | 4 => LastsB.val _
  | 5 => LastsB.val _
  | 6 => LastsB.val _
  | 7 => LastsB.val _
  | 8 => LastsB.val _
  | 9 => LastsB.val _
  | 10 => LastsB.val _
  | 11 => LastsB.made rfl _ _
  | 12 => LastsB.made rfl _ _
  | 13 => LastsB.stored rfl _
  | _ + 14 => fun _ _ _ _ _ _ _ => trivial

set_option maxRecDepth 100000 in
set_option maxHeartbeats 4000000 in
theorem RWho_any (A : Option Addr) (m : List UInt8) (c : Nat) (a1 c1 a2 c2 : Nat) (f g : Nat → List UInt8) (hf : ∀ i, (f i).length = 32) (hg32 : ∀ i, (g i).length = 32) (w : World) (hr : RdB w A m) (hb : m.length ≤ 1000)
    (h1 : RdB w (some ⟨a1, 0, none⟩) (partsF f 32)) (h2 : RdB w (some ⟨a2, 0, none⟩) (partsF g 32)) :
    Calls Tryd.prog 13 #[.slice A m.length c, .agg #[.slice (some ⟨a1, 0, none⟩) 32 c1, .slice (some ⟨a2, 0, none⟩) 32 c2]] w fun e w' => e = .returned (.tuple #[.agg ((whoF m f g).map bv).toArray, .bool true]) ∧ w.grownBy w' none := by
  have hbit0 := fun k (h : k < 256) w' (hg : w.grownBy w' none) => Rbit_any A m c k w' (hr.kept hg) hb h
  go_enter Tryd.func13, Tryd.ntmps13
  go_wp2_with fail
  obtain ⟨S, hS⟩ : ∃ S : Array Value, S = #[.slice (some ⟨a1, 0, none⟩) 32 c1, .slice (some ⟨a2, 0, none⟩) 32 c2] := ⟨_, rfl⟩
  change Code.wp _ _ _ _ ((w.alloc (.cells #[.slice (some ⟨a1, 0, none⟩) 32 c1, .slice (some ⟨a2, 0, none⟩) 32 c2] 28)).alloc (.cells (rowH []) 23))
  rw [← hS]
  have hS0 : S[0]? = some (.slice (some ⟨a1, 0, none⟩) 32 c1) := by rw [hS]; rfl
  have hS1 : S[1]? = some (.slice (some ⟨a2, 0, none⟩) 32 c2) := by rw [hS]; rfl
  clear hS
  obtain ⟨bs, hbs⟩ : ∃ bs : List (Nat × Obj), bs = [(w.heap.size, .cells S 28 (0, 0)), (w.heap.size + 1, .cells (rowH []) 23 (0, 0))] := ⟨_, rfl⟩
  have b0 : bs[0]? = some (w.heap.size, .cells S 28 (0, 0)) := by rw [hbs]; rfl
  have b1 : bs[1]? = some (w.heap.size + 1, .cells (rowH []) 23 (0, 0)) := by rw [hbs]; rfl
  have hk0 : Kn w bs ((w.alloc (.cells S 28)).alloc (.cells (rowH []) 23)) := ⟨grown_alloc (grown_alloc (grown_refl _ _) _) _, fun p hp => by
    rw [hbs] at hp
    simp only [List.mem_cons, List.not_mem_nil, or_false] at hp
    rcases hp with rfl | rfl
    · exact alloc_old (alloc_at rfl)
    · exact alloc_at (by simp)⟩
  clear hbs
  generalize (w.alloc (.cells S 28)).alloc (.cells (rowH []) 23) = w1 at hk0 ⊢
  go_loopw [6, 21] (fun x i wz => ∃ k : Nat, k ≤ 32 ∧ i = .int .i64 k ∧ OwnHs wz x (partsF (whoPair m f g) k) (k * 2) ∧ Grew w1 wz (.slice none 0 0) x) (fun _ i _ => 32 - (intOf i).toNat)
  case atStart => exact ⟨0, by omega, rfl, OwnHs.nil _, Grew.refl _ _⟩
  case round =>
    obtain ⟨k, hkl, rfl, ho, hgr⟩ := hrel
    have hkn := hk0.kept hgr.nil
    by_cases hlt : k < 32
    · have hlt' : (k : Int) < 32 := by omega
      have hbit := fun w' hg => hbit0 k (by omega) w' hg
      obtain ⟨b, hb'⟩ : ∃ b, b = bitL m k := ⟨_, rfl⟩
      have hw' : whoPair m f g k = if b = 1 then g k ++ publicL (f k) else publicL (f k) ++ g k := by rw [hb']; rfl
      rw [← hb'] at hbit
      have hb2 : b = 0 ∨ b = 1 := by rw [hb']; exact bitL_lt _ _
      have hpub := fun w' => Rpublic_any (f k) (hf k) w'
      have hF := hf k
      have hG := hg32 k
      have hrf := fun w' (h : w.grownBy w' none) => range_part hf (h1.kept h) hlt
      have hrg := fun w' (h : w.grownBy w' none) => range_part hg32 (h2.kept h) hlt
      have hnext := partsF_next (whoPair m f g) k
      rw [hw'] at hnext
      generalize partsF (whoPair m f g) k = D at ho hnext
      generalize f k = F at hpub hF hrf hnext
      generalize g k = G at hG hrg hnext
      obtain ⟨T, hT⟩ : ∃ T, T = publicL F := ⟨_, rfl⟩
      rw [← hT] at hpub hnext
      have hTl : Hid (T.length = 32) := by rw [hT]; exact tagL_len _ _
      have HN := Lib.hid hnext
      have hFl := Lib.hid hF
      have hGl := Lib.hid hG
      have hbox := hkn.get 0 b0
      clear hT hw' hb' hnext hF hG
      go_wp2_with fail
      refine wp_region_gb (al := ruAl) 14 (N := 49) (S := ruS) (die := ruDie) (own := ruOwn) (F := ruF k a1 c1 a2 c2 w.heap.size F G T) (by kernel_rfl) (Nat.le_of_ble_eq_true (by kernel_rfl)) (fun _ => by kernel_rfl) (fun _ => by kernel_rfl) (by kernel_rfl) (by kernel_rfl) (Nat.le_of_ble_eq_true (by kernel_rfl)) (ruF_lasts k a1 c1 a2 c2 w.heap.size F G T) ?_ ?_
      · intro i o L' a w K hi ho hg hLi hout hpre houter hitem h1 h2 h3
        have hcases : i = 0 ∨ i = 1 ∨ i = 2 ∨ i = 3 ∨ i = 4 ∨ i = 5 ∨ i = 6 ∨ i = 7 ∨ i = 8 ∨ i = 9 ∨ i = 10 ∨ i = 11 ∨ i = 12 ∨ i = 13 := by omega
        rcases hcases with rfl | rfl | rfl | rfl | rfl | rfl | rfl | rfl | rfl | rfl | rfl | rfl | rfl | rfl
        · cases (show some _ = some o from ho)
          exact ⟨rfl, wp_field rfl (houter _ rfl) (field_O _ 0 (by omega)) (h1 ⟨_, rfl⟩ _ _ (grown_refl _ none) rfl (nobl rfl) (FreshB.none rfl))⟩
        · cases (show some _ = some o from ho)
          exact ⟨rfl, wp_loadC rfl (hitem 0 (by decide) ⟨hpre 0 rfl, hout _ (by decide)⟩) (load_cell (cell_of_cells (keep_of hbox hg) hS0) Tryd.underlying26 rfl) (h1 ⟨_, rfl⟩ _ _ (grown_refl _ none) rfl (nobl rfl) (FreshB.none rfl))⟩
        · cases (show some _ = some o from ho)
          exact ⟨rfl, wp_move rfl (h1 ⟨_, rfl⟩ _ _ (grown_refl _ none) (houter _ rfl) (by rw [houter _ rfl]; exact nobl rfl) (by rw [houter _ rfl]; exact FreshB.none rfl))⟩
        · cases (show some _ = some o from ho)
          exact ⟨rfl, wp_index rfl (hitem 1 (by decide) ⟨hpre 1 rfl, hout _ (by decide)⟩) (hitem 2 (by decide) ⟨hpre 2 rfl, hout _ (by decide)⟩) (index_hs _ _ _ _ hlt _) (h1 ⟨_, rfl⟩ _ _ (grown_refl _ none) rfl (nobl rfl) (FreshB.none rfl))⟩
        · cases (show some _ = some o from ho)
          exact ⟨rfl, wp_load_mid 23 _ rfl a1 (k * 32) (hitem 3 (by decide) ⟨hpre 3 rfl, hout _ (by decide)⟩) (F.map bv) _ (hrf _ (grown_same hkn.1 hg)) Tryd.underlying23 rfl (info_hash _ hFl.out) (h1 ⟨_, rfl⟩ _ _ (grown_refl _ none) rfl (nobl (blocks_bytes _)) (FreshB.none (blocks_bytes _)))⟩
        · cases (show some _ = some o from ho)
          have x28 : a.eval (.tmp 28) = (.agg (F.map bv).toArray) := hitem 4 (by decide) ⟨hpre 4 rfl, hout _ (by decide)⟩
          refine ⟨rfl, wp_call rfl Tryd.func33 (by kernel_rfl) (by kernel_rfl) (args := #[(.agg (F.map bv).toArray)]) (by simp [x28]) ((hpub w).mono ?_)⟩
          rintro e w' ⟨rfl, hg'⟩
          exact ⟨_, rfl, h1 ⟨_, rfl⟩ _ _ hg' rfl (nobl (blocks_bytes _)) (FreshB.none (blocks_bytes _))⟩
        · cases (show some _ = some o from ho)
          exact ⟨rfl, wp_field rfl (houter _ rfl) (field_O _ 1 (by omega)) (h1 ⟨_, rfl⟩ _ _ (grown_refl _ none) rfl (nobl rfl) (FreshB.none rfl))⟩
        · cases (show some _ = some o from ho)
          exact ⟨rfl, wp_loadC rfl (hitem 6 (by decide) ⟨hpre 6 rfl, hout _ (by decide)⟩) (load_cell (cell_of_cells (keep_of hbox hg) hS1) Tryd.underlying26 rfl) (h1 ⟨_, rfl⟩ _ _ (grown_refl _ none) rfl (nobl rfl) (FreshB.none rfl))⟩
        · cases (show some _ = some o from ho)
          exact ⟨rfl, wp_move rfl (h1 ⟨_, rfl⟩ _ _ (grown_refl _ none) (houter _ rfl) (by rw [houter _ rfl]; exact nobl rfl) (by rw [houter _ rfl]; exact FreshB.none rfl))⟩
        · cases (show some _ = some o from ho)
          exact ⟨rfl, wp_index rfl (hitem 7 (by decide) ⟨hpre 7 rfl, hout _ (by decide)⟩) (hitem 8 (by decide) ⟨hpre 8 rfl, hout _ (by decide)⟩) (index_hs _ _ _ _ hlt _) (h1 ⟨_, rfl⟩ _ _ (grown_refl _ none) rfl (nobl rfl) (FreshB.none rfl))⟩
        · cases (show some _ = some o from ho)
          exact ⟨rfl, wp_load_mid 23 _ rfl a2 (k * 32) (hitem 9 (by decide) ⟨hpre 9 rfl, hout _ (by decide)⟩) (G.map bv) _ (hrg _ (grown_same hkn.1 hg)) Tryd.underlying23 rfl (info_hash _ hGl.out) (h1 ⟨_, rfl⟩ _ _ (grown_refl _ none) rfl (nobl (blocks_bytes _)) (FreshB.none (blocks_bytes _)))⟩
        · cases (show some _ = some o from ho)
          exact ⟨rfl, wp_alloc rfl (alloc_H _) (h1 ⟨_, rfl⟩ _ _ (grown_alloc (grown_refl _ _) _) ⟨_, rfl, heap_alloc_new _ _⟩ (new_lt _ _) (FreshB.new (new_ge _)))⟩
        · cases (show some _ = some o from ho)
          exact ⟨rfl, wp_alloc rfl (alloc_H _) (h1 ⟨_, rfl⟩ _ _ (grown_alloc (grown_refl _ _) _) ⟨_, rfl, heap_alloc_new _ _⟩ (new_lt _ _) (FreshB.new (new_ge _)))⟩
        · cases (show some _ = some o from ho)
          obtain ⟨b, e1, hb⟩ := hitem 11 (by decide) ⟨hpre 11 rfl, hLi⟩
          have x2 : a.eval (.tmp 29) = .agg (T.map bv).toArray := hitem 5 (by decide) ⟨hpre 5 rfl, hout _ (by decide)⟩
          exact ⟨rfl, wp_store_row 23 _ _ rfl b (T.map bv).toArray e1 x2 23 _ hb (hashV_size _ hTl.out) (by rw [rowH_size _ (by simp), List.size_toArray, List.length_map, hTl.out]) (bv_all' _) (h3 rfl 11 _ _ (some b) (by decide) ⟨hpre 11 rfl, hLi⟩ rfl rfl (grown_setRow (grown_refl _ _) (.inl rfl) _) (fun g e => by cases e; rw [show valB _ a 11 = _ from e1]; exact List.mem_singleton.2 rfl) ⟨b, _, (by rw [show valB _ a 13 = .tuple #[a.eval (.tmp 8), a.eval (.tmp 29)] from rfl, show a.eval (.tmp 8) = _ from e1, x2]), setRow_heap _ _ _ _ _ _ hb⟩ (fun g h => by rw [show valB _ a 13 = .tuple #[a.eval (.tmp 8), a.eval (.tmp 29)] from rfl, show a.eval (.tmp 8) = _ from e1] at h; rw [show valB _ a 11 = _ from e1]; exact h))⟩
      · intro a wT hgT hend hap ha
        obtain ⟨f, hf⟩ : ∃ f : Nat → Value, f = fun t => a.tmps.getD t undef := ⟨_, rfl⟩
        have s29 : f 29 = (.agg (T.map bv).toArray) := by rw [hf]; exact (hend 5 (by decide) (by decide)).1
        have s34 : f 34 = (.agg (G.map bv).toArray) := by rw [hf]; exact (hend 10 (by decide) (by decide)).1
        obtain ⟨⟨b8, C8, q8, hh8⟩, fr8⟩ := hend 13 (by decide) (by decide)
        have f8 : wr.heap.size ≤ b8 := fr8 rfl b8 (by rw [q8]; exact List.mem_singleton.2 rfl)
        have p8 := tuple_two (show Value.tuple #[_, _] = _ from q8)
        have s8 := (congrFun hf 8).trans p8.1
        have v8 : f 29 = .agg C8 := (congrFun hf 29).trans p8.2
        obtain rfl := Value.agg.inj (v8.symm.trans s29)
        clear v8
        obtain ⟨⟨b9, q9, hh9⟩, fr9⟩ := hend 12 (by decide) (by decide)
        have f9 : wr.heap.size ≤ b9 := fr9 rfl b9 (by rw [q9]; exact List.mem_singleton.2 rfl)
        have s9 := (congrFun hf 9).trans q9
        have n8_9 : b8 ≠ b9 := fun e => hap 13 12 (by decide) (by decide) (by decide) (by decide) (by decide) rfl b9 (by rw [q9]; exact List.mem_singleton.2 rfl) (by rw [q8, e]; exact List.mem_singleton.2 rfl)
        rw [← hf] at ha
        clear hend hap
        clear hf
        clear q8 p8 fr8 q9 fr9
        subst ha
        simp only [fill, ruS, Nat.reduceAdd, Nat.reduceBEq, Bool.or_false, Bool.or_true, cond_true, cond_false, List.drop_succ_cons, List.drop_zero, s29, s34, s8, s9]
        clear s29 s34 s8 s9
        have hgs : wT.grownBy (wT.setRow b9 (G.map bv).toArray) (some b9) := grown_setRow (grown_refl _ _) (.inl rfl) _
        have h9 : (wT.setRow b9 (G.map bv).toArray).heap[b9]? = some (.cells (G.map bv).toArray 23 (0, 0)) := setRow_heap _ _ _ _ _ _ hh9
        have h8 : (wT.setRow b9 (G.map bv).toArray).heap[b8]? = some (.cells (T.map bv).toArray 23 (0, 0)) := (setRow_other _ _ _ _ n8_9).trans hh8
        have gE : wr.grownBy (wT.setRow b9 (G.map bv).toArray) none := grown_trans hgT hgs (.inr fun g e => by cases e; exact f9)
        have hsz9 : (rowH []).size = (G.map bv).toArray.size := by rw [rowH_size _ (by simp), List.size_toArray, List.length_map, hGl.out]
        clear hgs hrf hrg
        rcases hb2 with rfl | rfl
        · rw [if_neg (by omega)] at HN
          have hlit := fun w' => lit_2h T G hTl.out hGl.out w'
          have hl2 : (T ++ G).length = 2 * 32 := by rw [List.length_append, hTl.out, hGl.out]
          obtain ⟨Z, hZ⟩ : ∃ Z, Z = T ++ G := ⟨_, rfl⟩
          rw [← hZ] at hlit hl2 HN
          have hl2 := Lib.hid hl2
          rw [show ((0 : Nat) : Int) = 0 from rfl] at hbit
          clear hZ
          go_wp2_with (first
            | (refine wpList_store_row rfl 23 _ _ rfl b9 (G.map bv).toArray rfl rfl 23 _ hh9 (hashV_size G hGl.out) hsz9 (bv_all' _) ?_; generalize wT.setRow b9 _ = wE at h8 h9 gE ⊢)
            | (go_at_call 34; refine (hbit _ (grown_same hkn.1 gE)).mono ?_; rintro e wB ⟨rfl, hgB⟩; have h8B := keep_of h8 hgB; have h9B := keep_of h9 hgB)
            | (refine wpList_load_row rfl 23 _ rfl b8 rfl _ (T.map bv).toArray (0, 0) _ h8B Tryd.underlying23 rfl (hashV_size _ hTl.out) ?_)
            | (refine wpList_load_row rfl 23 _ rfl b9 rfl _ (G.map bv).toArray (0, 0) _ h9B Tryd.underlying23 rfl (hashV_size _ hGl.out) ?_)
            | (refine wpList_lit2 (t := 26) (u1 := .agg (T.map bv).toArray) (u2 := .agg (G.map bv).toArray) rfl rfl rfl rfl (hlit _) ?_)
            | (at_builtin; refine wpList_appH rfl _ _ rfl rfl (ho.kept (grown_same gE (grown_alloc hgB (.cells (Z.map bv).toArray 23)))) rfl (rd_row (heap_alloc_new _ _)) hl2.out (by omega) (by omega) ?_; intro v9 w9 ho9 hgr9))
          go_roundw
          case rel =>
            refine ⟨k + 1, by omega, by go_num, ?_, hgr.trans (Grew.pre (grown_same gE (grown_alloc hgB _)) hgr9)⟩
            rw [HN.out, Nat.add_mul]
            exact ho9
          case measure => simp [intOf]; omega
        · rw [if_pos rfl] at HN
          have hlit := fun w' => lit_2h G T hGl.out hTl.out w'
          have hl2 : (G ++ T).length = 2 * 32 := by rw [List.length_append, hTl.out, hGl.out]
          obtain ⟨Z, hZ⟩ : ∃ Z, Z = G ++ T := ⟨_, rfl⟩
          rw [← hZ] at hlit hl2 HN
          have hl2 := Lib.hid hl2
          rw [show ((1 : Nat) : Int) = 1 from rfl] at hbit
          have hTG : (T.map bv).toArray.size = (G.map bv).toArray.size := by rw [List.size_toArray, List.length_map, List.size_toArray, List.length_map, hTl.out, hGl.out]
          clear hZ
          go_wp2_with (first
            | (refine wpList_store_row rfl 23 _ _ rfl b9 (G.map bv).toArray rfl rfl 23 _ hh9 (hashV_size G hGl.out) hsz9 (bv_all' _) ?_; generalize wT.setRow b9 _ = wE at h8 h9 gE ⊢)
            | (go_at_call 34; refine (hbit _ (grown_same hkn.1 gE)).mono ?_; rintro e wB ⟨rfl, hgB⟩; have h8B := keep_of h8 hgB; have h9B := keep_of h9 hgB)
            | (refine wpList_load_row rfl 23 _ rfl b8 rfl _ (T.map bv).toArray (0, 0) _ h8B Tryd.underlying23 rfl (hashV_size _ hTl.out) ?_)
            | (refine wpList_load_row rfl 23 _ rfl b9 rfl _ (G.map bv).toArray (0, 0) _ h9B Tryd.underlying23 rfl (hashV_size _ hGl.out) ?_)
            | (refine wpList_store_row rfl 23 _ _ rfl b8 (G.map bv).toArray rfl rfl 23 _ h8B (hashV_size G hGl.out) hTG (bv_all' _) ?_; have h8S : (wB.setRow b8 (G.map bv).toArray).heap[b8]? = some (.cells (G.map bv).toArray 23 (0, 0)) := setRow_heap _ _ _ _ _ _ h8B; have h9S : (wB.setRow b8 (G.map bv).toArray).heap[b9]? = some (.cells (G.map bv).toArray 23 (0, 0)) := (setRow_other _ _ _ _ (Ne.symm n8_9)).trans h9B; have gS : wr.grownBy (wB.setRow b8 (G.map bv).toArray) none := grown_setRow (grown_same gE hgB) (.inr f8) _; generalize wB.setRow b8 _ = wS at h8S h9S gS ⊢)
            | (refine wpList_store_row rfl 23 _ _ rfl b9 (T.map bv).toArray rfl rfl 23 _ h9S (hashV_size T hTl.out) hTG.symm (bv_all' _) ?_; have h9U : (wS.setRow b9 (T.map bv).toArray).heap[b9]? = some (.cells (T.map bv).toArray 23 (0, 0)) := setRow_heap _ _ _ _ _ _ h9S; have h8U : (wS.setRow b9 (T.map bv).toArray).heap[b8]? = some (.cells (G.map bv).toArray 23 (0, 0)) := (setRow_other _ _ _ _ n8_9).trans h8S; have gU : wr.grownBy (wS.setRow b9 (T.map bv).toArray) none := grown_setRow gS (.inr f9) _; generalize wS.setRow b9 _ = wU at h8U h9U gU ⊢)
            | (refine wpList_load_row rfl 23 _ rfl b8 rfl _ (G.map bv).toArray (0, 0) _ h8U Tryd.underlying23 rfl (hashV_size _ hGl.out) ?_)
            | (refine wpList_load_row rfl 23 _ rfl b9 rfl _ (T.map bv).toArray (0, 0) _ h9U Tryd.underlying23 rfl (hashV_size _ hTl.out) ?_)
            | (refine wpList_lit2 (t := 26) (u1 := .agg (G.map bv).toArray) (u2 := .agg (T.map bv).toArray) rfl rfl rfl rfl (hlit _) ?_)
            | (at_builtin; refine wpList_appH rfl _ _ rfl rfl (ho.kept (grown_alloc gU (.cells (Z.map bv).toArray 23))) rfl (rd_row (heap_alloc_new _ _)) hl2.out (by omega) (by omega) ?_; intro v9 w9 ho9 hgr9))
          go_roundw
          case rel =>
            refine ⟨k + 1, by omega, by go_num, ?_, hgr.trans (Grew.pre (grown_alloc gU _) hgr9)⟩
            rw [HN.out, Nat.add_mul]
            exact ho9
          case measure => simp [intOf]; omega
    · have hkk : k = 32 := by omega
      subst hkk
      rw [show ((32 : Nat) : Int) = 32 from rfl]
      obtain ⟨gk, ck, rfl, hc1, hc2, hrk⟩ := ho.slice (by omega)
      have hlk := partsF_len64 _ (whoPair_len m f g hg32) 32
      have hke := fun L (h : L.length = 64 * 32) (h2 : RdB wr (some ⟨gk, 0, none⟩) L) => Rkey_any (some ⟨gk, 0, none⟩) L 64 ck h (by omega) wr h2
      replace hke := hke _ hlk hrk
      obtain ⟨X, hX⟩ : ∃ X, X = tagL 107 (partsF (whoPair m f g) 32) := ⟨_, rfl⟩
      rw [← hX] at hke
      have HX : Hid (whoF m f g = X) := by show _ = _; rw [hX]; rfl
      have hXl : Hid (X.length = 32) := by rw [hX]; exact tagL_len _ _
      have hR2 := hkn.get 1 b1
      clear hX hlk hrk
      go_wp2_with (first
        | (go_at_call 35; refine hke.mono ?_; rintro e w6 ⟨rfl, hg6⟩)
        | (refine wpList_store_row rfl 23 _ _ rfl (w.heap.size + 1) (X.map bv).toArray rfl rfl 23 _ (keep_of hR2 hg6) (hashV_size X hXl.out) (by rw [rowH_size _ (by simp), List.size_toArray, List.length_map, hXl.out]) (bv_all' _) ?_))
      refine bodyPost_ret (results_row_tmp rfl _ _ (w.heap.size + 1) 23 (X.map bv).toArray (0, 0) _ rfl (setRow_heap _ _ _ _ _ _ (keep_of hR2 hg6)) Tryd.underlying23 rfl (hashV_size X hXl.out)) rfl ?_
      exact ⟨by rw [HX.out]; rfl, grown_setRow (grown_same hkn.1 hg6) (.inr (by omega)) _⟩
end Go.Proofs.YtmfnncfiaaeknaaDoor
