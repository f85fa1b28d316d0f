/- Texts as leaves: the statements' rows; two rows of hashes compared. -/
import Derived.Test.YtmfnncfiaaeknaaDoorTreeD
import Derived.Laws.IdiomStrings
namespace Go.Proofs.YtmfnncfiaaeknaaDoor
open Go.RowKit

theorem extract_takeT (z : List UInt8) (m : Nat) : (⟨z.toArray⟩ : ByteArray).extract 0 m = ⟨(z.take m).toArray⟩ := by
  have h : ((⟨z.toArray⟩ : ByteArray).extract 0 m).data = (z.take m).toArray := by simp
  generalize (⟨z.toArray⟩ : ByteArray).extract 0 m = b at h ⊢
  cases b
  simp only at h
  rw [h]
theorem wp_lenS {P : Program} {o : Oper} {a : Act} {w : World} {K : Act → World → Prop} {Q : Exit → Act → World → Prop} {x : Operand} {t : TypeId} (ho : o.op = .call { callee := .builtin .len, args := #[x], argTypes := #[t] }) (ht : P.underlying t = some .string) {s : ByteArray} (hx : a.eval x = .string s)
    (h : K (a.put o.dst (.int .i64 (s.size : Int))) w) : Oper.wp P o a w K Q := by
  unfold Oper.wp execOp
  simp [ho, resolve, invoke, builtin, hx, run_len_string (h := ht)]
  exact h
theorem idx_str (ad : Addr) (n c k : Nat) (hk : k < n) (w : World) : (Instr.indexAt 44 (.slice (some ad) n c) (.int .i64 (k : Int))).run Tryd.prog w = .ok (.pointer (some (ad.add k))) w := by
  rw [run_indexAt_slice (P := Tryd.prog) (h := by kernel_rfl), if_pos ⟨by omega, by omega⟩]
  rw [show (sizeOf (Tryd.prog.elem 44)).run Tryd.prog w = .ok 1 w from by kernel_rfl, Result.andThen_ok]
  simp
theorem sl_str (z : List UInt8) (m : Nat) (h : m ≤ z.length) (w : World) : (Instr.sliceAt 9 (.string ⟨z.toArray⟩) none (some (.int .i64 (m : Int))) none).run Tryd.prog w = .ok (.string ⟨(z.take m).toArray⟩) w := by
  rw [run_sliceAt_string (P := Tryd.prog) (h := by kernel_rfl), run_slice_string_h (P := Tryd.prog) (w := w) (ht := by kernel_rfl) (h0 := by omega) (h2 := by simp [ByteArray.size]; exact h)]
  rw [Int.toNat_natCast, extract_takeT]
theorem info_listT : (Tryd.prog.info? 24).map (fun i => (i.zero, i.size, i.bytes)) = some (some (.slice none 0 0), 1, 24) := by kernel_rfl

/-- A part in a block of bytes. -/
def PartB (w : World) (p : Part) : Prop := ∃ b C fr, p.1 = some ⟨b, 0, none⟩ ∧ w.heap[b]? = some (.cells C 5 fr) ∧ C.toList.take p.2.1.length = p.2.1.map bv
theorem PartB.rd {w : World} {p : Part} (h : PartB w p) : RdB w p.1 p.2.1 := by
  obtain ⟨b, C, fr, e, hb, hC⟩ := h
  rw [e]
  refine .inr ⟨_, rfl, fun j u hu => ?_⟩
  have e1 : (⟨b, 0, none⟩ : Addr).add j = ⟨b, j, none⟩ := by unfold Addr.add; split <;> simp_all
  rw [e1, cell_of_row w b j _ _ fr hb]
  rw [← hC] at hu
  rw [List.getElem?_take] at hu
  split at hu
  · simpa using hu
  · cases hu
theorem PartB.kept {w w' : World} {p : Part} (h : PartB w p) (hg : w.grownBy w' none) : PartB w' p := by
  obtain ⟨b, C, fr, e, hb, hC⟩ := h
  exact ⟨b, C, fr, e, keep_of hb hg, hC⟩
/-- Kept where a row of lists grows. -/
theorem PartB.keep {w w' : World} {p : Part} {v : Value} {xs : List Value} (h : PartB w p) (ho : OwnV 24 w v xs) (hg : w.grownBy w' v.ownBlock) : PartB w' p := by
  obtain ⟨b, C, fr, e, hb, hC⟩ := h
  refine ⟨b, C, fr, e, other_block hb hg fun e2 => ?_, hC⟩
  obtain ⟨cs, fr', h2⟩ := ho.block b e2.symm
  rw [hb] at h2
  cases h2
theorem conv_str (T : List UInt8) (w : World) : ∃ c w', (convert 9 24 (.string ⟨T.toArray⟩)).run Tryd.prog w = .ok (.slice (some ⟨w.heap.size, 0, none⟩) T.length c) w' ∧ w.grownBy w' none ∧ w.heap.size < w'.heap.size ∧ PartB w' (some ⟨w.heap.size, 0, none⟩, T, c) := by
  have h := run_bytes_of_string (P := Tryd.prog) w 9 24 5 ⟨T.toArray⟩ (by kernel_rfl) (by kernel_rfl) (by kernel_rfl)
  have hs : (⟨T.toArray⟩ : ByteArray).size = T.length := by simp [ByteArray.size]
  refine ⟨_, _, by rw [hs] at h; exact h, grown_alloc (grown_drew (grown_refl _ _)) _, lt_of_heap (heap_alloc_new w.drew _), w.heap.size, _, _, rfl, heap_alloc_new w.drew _, ?_⟩
  simp [bytesRow, bv]

def faS (t : Nat) : Bool := t == 18 || t == 19 || t == 20 || t == 21 || t == 22 || t == 23 || t == 24 || t == 25 || t == 26 || t == 27 || t == 28 || t == 29 || t == 30 || t == 31
def faDie (_ : Nat) : Nat := 99
def faOwn (_ : Nat) : Bool := false
def faAl (_ : Nat) : Bool := false
def faF (u5 : Value) (ad : Addr) (n c k m : Nat) (z T : List UInt8) : Nat → Value → World → Prop
  | 0 => fun v _ => v = u5
  | 1 => fun v _ => v = .slice (some ad) n c
  | 2 => fun v _ => v = .int .i64 (k : Int)
  | 3 => fun v _ => v = .pointer (some (ad.add k))
  | 4 => fun v _ => v = .string ⟨z.toArray⟩
  | 5 => fun v _ => v = .slice (some ad) n c
  | 6 => fun v _ => v = .int .i64 (k : Int)
  | 7 => fun v _ => v = .pointer (some (ad.add k))
  | 8 => fun v _ => v = .string ⟨z.toArray⟩
  | 9 => fun v _ => v = .int .i64 ((⟨z.toArray⟩ : ByteArray).size : Int)
  | 10 => fun v _ => v = .int .i64 (m : Int)
  | 11 => fun v _ => v = .string ⟨T.toArray⟩
  | 12 => fun v w => ∃ p : Part, v = pv p ∧ p.2.1 = T ∧ PartB w p
  | 13 => fun v w => ∃ (p : Part) (b : Nat), v = .slice (some ⟨b, 0, none⟩) 1 1 ∧ p.2.1 = T ∧ PartB w p ∧ RdAt w (some ⟨b, 0, none⟩) [pv p]
  | _ => fun _ _ => True
theorem faF_lasts (u5 : Value) (ad : Addr) (n c k m : Nat) (z T : List UInt8) : ∀ kq, LastsK faAl true kq (faF u5 ad n c k m z T kq)
  | 0 => LastsK.val _
  | 1 => LastsK.val _
  | 2 => LastsK.val _
  | 3 => LastsK.val _
  | 4 => LastsK.val _
  | 5 => LastsK.val _
  | 6 => LastsK.val _
  | 7 => LastsK.val _
  | 8 => LastsK.val _
  | 9 => LastsK.val _
  | 10 => LastsK.val _
  | 11 => LastsK.val _
  | 12 => LastsK.calm fun _ _ _ ⟨p, h1, h2, h3⟩ hg => ⟨p, h1, h2, h3.kept hg⟩
  | 13 => LastsK.calm fun _ _ _ ⟨p, b, h1, h2, h3, h4⟩ hg => ⟨p, b, h1, h2, h3.kept hg, h4.kept hg⟩
  | _ + 14 => fun _ _ _ _ _ _ _ _ => trivial

set_option maxRecDepth 100000 in
set_option maxHeartbeats 2000000 in
theorem rows_any (A0 : Option Addr) (L : List (List UInt8)) (c0 M : Nat) (hM : M ≤ 20) (w : World) (hr : RdS w A0 L) :
    Calls Tryd.prog 21 #[.slice A0 L.length c0, .int .i64 (M : Int)] w fun e w' => ∃ (A : Option Addr) (ps : List Part) (c : Nat), e = .returned (.slice A ps.length c) ∧ ps.length ≤ c ∧ RdP w' A ps ∧ leavesOf ps = (L.take M).map (fun s => s.take 20) ∧ w.grownBy w' none := by
  go_enter Tryd.func21, Tryd.ntmps21
  go_wp2
  go_loopw [5, 6] (fun x i wz => ∃ (k : Nat) (ps : List Part), k ≤ L.length ∧ k ≤ M ∧ i = .int .i64 (k : Int) ∧ OwnV 24 wz x (ps.map pv) ∧ Hid (leavesOf ps = (L.take k).map (fun s => s.take 20)) ∧ (∀ p ∈ ps, PartB wz p) ∧ Grew w wz (.slice none 0 0) x) (fun _ i _ => M - (intOf i).toNat)
  case atStart => exact ⟨0, [], by omega, by omega, rfl, OwnV.nil w, rfl, by simp, Grew.refl _ _⟩
  case round =>
    obtain ⟨k, ps, hkl, hkM, rfl, ho, hps, hpb, hgr⟩ := hrel
    have hgn := hgr.nil
    have hpk : ps.length = k := by
      have := congrArg List.length hps.out
      rw [leavesOf_len, List.length_map, List.length_take] at this
      omega
    by_cases hk1 : k < L.length
    · have hk1' : (k : Int) < (L.length : Int) := by omega
      by_cases hk2 : k < M
      · have hk2' : (k : Int) < (M : Int) := by omega
        obtain ⟨ad, rfl, hcz0⟩ := RdS.get hr hk1
        have hcz := fun w' (h : wr.grownBy w' none) => (grown_same hgn h).cell hcz0 (by simp)
        obtain ⟨z, hz⟩ : ∃ z, z = L[k] := ⟨_, rfl⟩
        rw [← hz] at hcz
        obtain ⟨m, hmin0, hm1, hm2⟩ := min_some z.length 20
        have hmin : (if ((20 : Int) < ((⟨z.toArray⟩ : ByteArray).size : Int)) then (20 : Int) else ((⟨z.toArray⟩ : ByteArray).size : Int)) = (m : Int) := by
          rw [show (⟨z.toArray⟩ : ByteArray).size = z.length by simp [ByteArray.size]]
          exact hmin0
        obtain ⟨T, hT⟩ : ∃ T, T = z.take m := ⟨_, rfl⟩
        have hst := fun w' => sl_str z m hm1 w'
        rw [← hT] at hst
        have HT : Hid (T = z.take 20) := by
          show _ = _
          rw [hT]
          by_cases h20 : z.length ≤ 20
          · have : m = z.length := by split at hmin0 <;> omega
            rw [this, List.take_length, List.take_of_length_le h20]
          · have : m = 20 := by split at hmin0 <;> omega
            rw [this]
        have HN : Hid (∀ p : Part, p.2.1 = T → leavesOf (ps ++ [p]) = (L.take (k + 1)).map (fun s => s.take 20)) := by
          intro p hp
          unfold leavesOf
          rw [List.map_append, List.take_succ_eq_append_getElem hk1, List.map_append]
          have := hps.out
          unfold leavesOf at this
          rw [this, List.map_singleton, List.map_singleton, hp, HT.out, hz]
        have hltu : ∀ g, u5.ownBlock = some g → g < wr.heap.size := ho.lt
        have hlta : ∀ g, (Value.slice (some ad) L.length c0).ownBlock = some g → g < wr.heap.size := fun g e => by
          have e' : ad.block = g := by simpa [Value.ownBlock] using e
          rw [← e']
          have := World.block_lt_of_cell? w _ hcz0
          rw [add_block] at this
          exact Nat.lt_of_lt_of_le this hgn.size
        clear hmin0 hT hcz0 hz hps
        generalize hn : L.length = n at hk1 hk1' hlta ⊢
        have hkn := hk1
        clear hn hr
        go_wp2_with fail
        refine wp_region_gt (R := none) (i1 := 999) (q := true) (al := faAl) 14 (N := 34) (S := faS) (die := faDie) (own := faOwn) (F := faF u5 ad n c0 k m z T) (by kernel_rfl) (Nat.le_of_ble_eq_true (by kernel_rfl)) (by kernel_rfl) (by kernel_rfl) (by kernel_rfl) (by kernel_rfl) (Nat.le_of_ble_eq_true (by kernel_rfl)) (fun g e => by cases e) (faF_lasts u5 ad n c0 k m z T) ?_ ?_
        · intro i o L' a w K hi ho hg hgN hLi hout hpre houter hitem h1 h2
          have hcases : i = 0 ∨ i = 1 ∨ i = 2 ∨ i = 3 ∨ i = 4 ∨ i = 5 ∨ i = 6 ∨ i = 7 ∨ i = 8 ∨ i = 9 ∨ i = 10 ∨ i = 11 ∨ i = 12 ∨ i = 13 := by omega
          rcases hcases with rfl | rfl | rfl | rfl | rfl | rfl | rfl | rfl | rfl | rfl | rfl | rfl | rfl | rfl
          · cases (show some _ = some o from ho)
            exact ⟨rfl, wp_move rfl (h1 _ _ (grown_refl _ none) (houter _ rfl) (by rw [houter _ rfl]; exact fun g e => Nat.lt_of_lt_of_le (hltu g e) hg.size) (by rw [houter _ rfl]; exact FreshT.old rfl hltu))⟩
          · cases (show some _ = some o from ho)
            exact ⟨rfl, wp_move rfl (h1 _ _ (grown_refl _ none) (houter _ rfl) (by rw [houter _ rfl]; exact fun g e => Nat.lt_of_lt_of_le (hlta g e) hg.size) (by rw [houter _ rfl]; exact FreshT.old rfl hlta))⟩
          · cases (show some _ = some o from ho)
            exact ⟨rfl, wp_move rfl (h1 _ _ (grown_refl _ none) (houter _ rfl) (by rw [houter _ rfl]; exact nob rfl) (by rw [houter _ rfl]; exact .inl rfl))⟩
          · cases (show some _ = some o from ho)
            exact ⟨rfl, wp_index rfl (hitem 1 (by decide) ⟨hpre 1 rfl, hout _ (by decide)⟩) (hitem 2 (by decide) ⟨hpre 2 rfl, hout _ (by decide)⟩) (idx_str ad _ _ k hkn _) (h1 _ _ (grown_refl _ none) rfl (nob rfl) (.inl rfl))⟩
          · cases (show some _ = some o from ho)
            exact ⟨rfl, wp_loadC rfl (hitem 3 (by decide) ⟨hpre 3 rfl, hout _ (by decide)⟩) (load_cell (hcz w hg) Tryd.underlying9 rfl) (h1 _ _ (grown_refl _ none) rfl (nob rfl) (.inl rfl))⟩
          · cases (show some _ = some o from ho)
            exact ⟨rfl, wp_move rfl (h1 _ _ (grown_refl _ none) (houter _ rfl) (by rw [houter _ rfl]; exact fun g e => Nat.lt_of_lt_of_le (hlta g e) hg.size) (by rw [houter _ rfl]; exact FreshT.old rfl hlta))⟩
          · cases (show some _ = some o from ho)
            exact ⟨rfl, wp_move rfl (h1 _ _ (grown_refl _ none) (houter _ rfl) (by rw [houter _ rfl]; exact nob rfl) (by rw [houter _ rfl]; exact .inl rfl))⟩
          · cases (show some _ = some o from ho)
            exact ⟨rfl, wp_index rfl (hitem 5 (by decide) ⟨hpre 5 rfl, hout _ (by decide)⟩) (hitem 6 (by decide) ⟨hpre 6 rfl, hout _ (by decide)⟩) (idx_str ad _ _ k hkn _) (h1 _ _ (grown_refl _ none) rfl (nob rfl) (.inl rfl))⟩
          · cases (show some _ = some o from ho)
            exact ⟨rfl, wp_loadC rfl (hitem 7 (by decide) ⟨hpre 7 rfl, hout _ (by decide)⟩) (load_cell (hcz w hg) Tryd.underlying9 rfl) (h1 _ _ (grown_refl _ none) rfl (nob rfl) (.inl rfl))⟩
          · cases (show some _ = some o from ho)
            exact ⟨rfl, wp_lenS rfl (by kernel_rfl) (hitem 8 (by decide) ⟨hpre 8 rfl, hout _ (by decide)⟩) (h1 _ _ (grown_refl _ none) rfl (nob rfl) (.inl rfl))⟩
          · cases (show some _ = some o from ho)
            exact ⟨rfl, wp_min rfl (hitem 9 (by decide) ⟨hpre 9 rfl, hout _ (by decide)⟩) rfl hmin (h1 _ _ (grown_refl _ none) rfl (nob rfl) (.inl rfl))⟩
          · cases (show some _ = some o from ho)
            exact ⟨rfl, wp_slice_hi rfl (hitem 4 (by decide) ⟨hpre 4 rfl, hout _ (by decide)⟩) (hitem 10 (by decide) ⟨hpre 10 rfl, hout _ (by decide)⟩) (hst _) (h1 _ _ (grown_refl _ none) rfl (nob rfl) (.inl rfl))⟩
          · cases (show some _ = some o from ho)
            obtain ⟨c', w', hrun, hg', hlt', hb'⟩ := conv_str T w
            exact ⟨rfl, wp_conv rfl (hitem 11 (by decide) ⟨hpre 11 rfl, hout _ (by decide)⟩) hrun (h1 _ _ hg' ⟨(some ⟨w.heap.size, 0, none⟩, T, c'), rfl, rfl, hb'⟩ (fun g e => by cases (show some _ = some g from e); exact hlt') (.inr (.inl ⟨_, rfl, Nat.le_refl _⟩)))⟩
          · cases (show some _ = some o from ho)
            obtain ⟨p, e1, e2, hp⟩ := hitem 12 (by decide) ⟨hpre 12 rfl, hout _ (by decide)⟩
            exact ⟨rfl, wp_lit1 rfl e1 (lit_p1 p _) (h1 _ _ (grown_alloc (grown_refl _ _) _) ⟨p, _, rfl, e2, hp.kept (grown_alloc (grown_refl _ _) _), rd_row (cs := [_]) (heap_alloc_new _ _)⟩ (fun g e => by cases (show some _ = some g from e); simp) (.inr (.inl ⟨_, rfl, Nat.le_refl _⟩)))⟩
        · intro a wT hgT hend hap ha
          obtain ⟨f, hf⟩ : ∃ f : Nat → Value, f = fun t => a.tmps.getD t undef := ⟨_, rfl⟩
          have s18 : f 18 = u5 := by rw [hf]; exact (hend 0 (by decide) (by decide)).1
          obtain ⟨p, b31, q31, hpT, hp31, hrp⟩ := (hend 13 (by decide) (by decide)).1
          have s31 := (congrFun hf 31).trans q31
          clear q31
          rw [← hf] at ha
          clear hend hap
          clear hf
          subst ha
          simp only [fill, faS, Nat.reduceAdd, Nat.reduceBEq, Bool.or_false, Bool.or_true, cond_true, cond_false, List.drop_succ_cons, List.drop_zero, s18, s31]
          clear s18 s31
          go_wp2_with (at_builtin; refine wpList_appV _ rfl _ _ 38 rfl Tryd.underlying38 info_listT rfl rfl (ho.kept hgT) (news := [pv p]) rfl rfl hrp (by intro u hu; rw [List.mem_singleton] at hu; subst hu; rfl) (by rw [List.length_map, hpk]; simp; omega) (by rw [List.length_map, hpk]; unfold maxLen; simp; omega) ?_; intro v6 w6 ho6 hgr6)
          go_roundw
          case rel =>
            refine ⟨k + 1, ps ++ [p], by omega, by omega, by go_num, by rw [List.map_append]; exact ho6, HN.out p hpT, ?_, hgr.trans (Grew.pre hgT hgr6)⟩
            intro q hq
            rcases List.mem_append.1 hq with hq | hq
            · exact ((hpb q hq).kept hgT).keep (ho.kept hgT) hgr6.1
            · rw [List.mem_singleton] at hq
              subst hq
              exact hp31.keep (ho.kept hgT) hgr6.1
          case measure => simp [intOf]; omega

      · have hk2' : ¬ (k : Int) < (M : Int) := by omega
        have hkk : k = M := by omega
        obtain ⟨A, c, rfl, hc, hcm, hrA⟩ := ho.slice
        rw [List.length_map] at hc ⊢
        go_wp2_with fail
        go_ret
        exact ⟨A, ps, c, by rw [hpk, hkk]; rfl, hc, ⟨hrA, fun p hp => (hpb p hp).rd⟩, hps.out.trans (by rw [hkk, List.map_take]), hgn⟩
    · have hk1' : ¬ (k : Int) < (L.length : Int) := by omega
      have hkk : L.take k = L.take M := by rw [List.take_of_length_le (by omega), List.take_of_length_le (by omega)]
      have HK := Lib.hid hkk
      clear hkk
      obtain ⟨A, c, rfl, hc, hcm, hrA⟩ := ho.slice
      rw [List.length_map] at hc ⊢
      go_wp2_with fail
      go_ret
      exact ⟨A, ps, c, by rw [hpk]; rfl, hc, ⟨hrA, fun p hp => (hpb p hp).rd⟩, hps.out.trans (by rw [HK.out, List.map_take]), hgn⟩

def fbS (t : Nat) : Bool := t == 17 || t == 18 || t == 19 || t == 20 || t == 21 || t == 22 || t == 23 || t == 24
def fbDie (_ : Nat) : Nat := 99
def fbOwn (_ : Nat) : Bool := false
def fbAl (k : Nat) : Bool := k == 0 || k == 4
def fbF (k n g1 c1 g2 c2 : Nat) (X : List UInt8) : Nat → Value → World → Prop
  | 0 => fun v _ => v = .slice (some ⟨g1, 0, none⟩) n c1
  | 1 => fun v _ => v = .int .i64 (k : Int)
  | 2 => fun v _ => v = .pointer (some ⟨g1, k * 32, none⟩)
  | 3 => fun v _ => v = (.agg (X.map bv).toArray)
  | 4 => fun v _ => v = .slice (some ⟨g2, 0, none⟩) n c2
  | 5 => fun v _ => v = .int .i64 (k : Int)
  | 6 => fun v _ => v = .pointer (some ⟨g2, k * 32, none⟩)
  | 7 => fun v _ => v = (.agg (X.map bv).toArray)
  | _ => fun _ _ => True
theorem fbF_lasts (k n g1 c1 g2 c2 : Nat) (X : List UInt8) : ∀ kq, LastsB fbAl kq (fbF k n g1 c1 g2 c2 X kq)
  | 0 => LastsB.val _
  | 1 => LastsB.val _
  | 2 => LastsB.val _
  | 3 => LastsB.val _
  | 4 => LastsB.val _
  | 5 => LastsB.val _
  | 6 => LastsB.val _
  | 7 => LastsB.val _
  | _ + 8 => fun _ _ _ _ _ _ _ => trivial

set_option maxRecDepth 100000 in
/-- Same of two rows of hashes that read the same. -/
theorem SameP_any (A1 A2 : Option Addr) (n c1 c2 : Nat) (P : List UInt8) (hn : n ≤ 1000000) (hP : P.length = n * 32) (w : World) (h1 : RdB w A1 P) (h2 : RdB w A2 P) (hg1 : 0 < n → ∃ g, A1 = some ⟨g, 0, none⟩) (hg2 : 0 < n → ∃ g, A2 = some ⟨g, 0, none⟩) :
    Calls Tryd.prog 25 #[.slice A1 n c1, .slice A2 n c2] w fun e w' => e = .returned (.bool true) ∧ w.grownBy w' none := by
  have HP := Lib.hid hP
  clear hP
  go_enter Tryd.func25, Tryd.ntmps25
  go_wp2
  go_loopw [5] (fun i wz => ∃ k : Nat, k ≤ n ∧ i = .int .i64 (k : Int) ∧ w.grownBy wz none) (fun i _ => n - (intOf i).toNat)
  case atStart => exact ⟨0, by omega, rfl, grown_refl _ _⟩
  case round =>
    obtain ⟨k, hkl, rfl, hgz⟩ := hrel
    by_cases hlt : k < n
    · have hlt' : (k : Int) < (n : Int) := by omega
      obtain ⟨g1, rfl⟩ := hg1 (by omega)
      obtain ⟨g2, rfl⟩ := hg2 (by omega)
      have hra := fun w' (h : wr.grownBy w' none) => range_at (h1.kept (grown_same hgz h)) HP.out hlt
      have hrb := fun w' (h : wr.grownBy w' none) => range_at (h2.kept (grown_same hgz h)) HP.out hlt
      obtain ⟨X, hX⟩ : ∃ X, X = (P.drop (k * 32)).take 32 := ⟨_, rfl⟩
      have hXl : Hid (X.length = 32) := by show _ = _; rw [hX, List.length_take, List.length_drop, HP.out]; omega
      rw [← hX] at hra hrb
      have hne : ∀ w, (binOp .neq 23 (.agg (X.map bv).toArray) (.agg (X.map bv).toArray)).run Tryd.prog w = .ok (.bool false) w := fun w => by
        rw [neq_hash X X hXl.out hXl.out w, beq_self_eq_true]; rfl
      clear hX hg1 hg2 h1 h2
      go_wp2_with fail
      refine wp_region_gb (al := fbAl) 8 (N := 26) (S := fbS) (die := fbDie) (own := fbOwn) (F := fbF k n g1 c1 g2 c2 X) (by kernel_rfl) (Nat.le_of_ble_eq_true (by kernel_rfl)) (fun _ => by kernel_rfl) (fun _ => by kernel_rfl) (by kernel_rfl) (by kernel_rfl) (Nat.le_of_ble_eq_true (by kernel_rfl)) (fbF_lasts k n g1 c1 g2 c2 X) ?_ ?_
      · intro i o L' a w K hi ho hg hLi hout hpre houter hitem h1 h2 h3
        have hcases : i = 0 ∨ i = 1 ∨ i = 2 ∨ i = 3 ∨ i = 4 ∨ i = 5 ∨ i = 6 ∨ i = 7 := by omega
        rcases hcases with rfl | rfl | rfl | rfl | rfl | rfl | rfl | rfl
        · cases (show some _ = some o from ho)
          exact ⟨rfl, wp_move rfl (h1 ⟨_, rfl⟩ _ _ (grown_refl _ none) (houter _ rfl) (by rw [houter _ rfl]; exact nobl rfl) (by rw [houter _ rfl]; exact FreshB.none rfl))⟩
        · cases (show some _ = some o from ho)
          exact ⟨rfl, wp_move rfl (h1 ⟨_, rfl⟩ _ _ (grown_refl _ none) (houter _ rfl) (by rw [houter _ rfl]; exact nobl rfl) (by rw [houter _ rfl]; exact FreshB.none rfl))⟩
        · cases (show some _ = some o from ho)
          exact ⟨rfl, wp_index rfl (hitem 0 (by decide) ⟨hpre 0 rfl, hout _ (by decide)⟩) (hitem 1 (by decide) ⟨hpre 1 rfl, hout _ (by decide)⟩) (index_hs _ _ _ _ hlt _) (h1 ⟨_, rfl⟩ _ _ (grown_refl _ none) rfl (nobl rfl) (FreshB.none rfl))⟩
        · cases (show some _ = some o from ho)
          exact ⟨rfl, wp_load_mid 23 _ rfl g1 (k * 32) (hitem 2 (by decide) ⟨hpre 2 rfl, hout _ (by decide)⟩) (X.map bv) _ (hra w hg) Tryd.underlying23 rfl (info_hash _ hXl.out) (h1 ⟨_, rfl⟩ _ _ (grown_refl _ none) rfl (nobl (blocks_bytes _)) (FreshB.none (blocks_bytes _)))⟩
        · cases (show some _ = some o from ho)
          exact ⟨rfl, wp_move rfl (h1 ⟨_, rfl⟩ _ _ (grown_refl _ none) (houter _ rfl) (by rw [houter _ rfl]; exact nobl rfl) (by rw [houter _ rfl]; exact FreshB.none rfl))⟩
        · cases (show some _ = some o from ho)
          exact ⟨rfl, wp_move rfl (h1 ⟨_, rfl⟩ _ _ (grown_refl _ none) (houter _ rfl) (by rw [houter _ rfl]; exact nobl rfl) (by rw [houter _ rfl]; exact FreshB.none rfl))⟩
        · cases (show some _ = some o from ho)
          exact ⟨rfl, wp_index rfl (hitem 4 (by decide) ⟨hpre 4 rfl, hout _ (by decide)⟩) (hitem 5 (by decide) ⟨hpre 5 rfl, hout _ (by decide)⟩) (index_hs _ _ _ _ hlt _) (h1 ⟨_, rfl⟩ _ _ (grown_refl _ none) rfl (nobl rfl) (FreshB.none rfl))⟩
        · cases (show some _ = some o from ho)
          exact ⟨rfl, wp_load_mid 23 _ rfl g2 (k * 32) (hitem 6 (by decide) ⟨hpre 6 rfl, hout _ (by decide)⟩) (X.map bv) _ (hrb w hg) Tryd.underlying23 rfl (info_hash _ hXl.out) (h1 ⟨_, rfl⟩ _ _ (grown_refl _ none) rfl (nobl (blocks_bytes _)) (FreshB.none (blocks_bytes _)))⟩
      · intro a wT hgT hend hap ha
        obtain ⟨f, hf⟩ : ∃ f : Nat → Value, f = fun t => a.tmps.getD t undef := ⟨_, rfl⟩
        have s20 : f 20 = (.agg (X.map bv).toArray) := by rw [hf]; exact (hend 3 (by decide) (by decide)).1
        have s24 : f 24 = (.agg (X.map bv).toArray) := by rw [hf]; exact (hend 7 (by decide) (by decide)).1
        rw [← hf] at ha
        clear hend hap
        clear hf
        subst ha
        simp only [fill, fbS, Nat.reduceAdd, Nat.reduceBEq, Bool.or_false, Bool.or_true, cond_true, cond_false, List.drop_succ_cons, List.drop_zero, s20, s24]
        clear s20 s24
        go_wp2
        go_roundw
        case rel => exact ⟨k + 1, by omega, by go_num, grown_same hgz hgT⟩
        case measure => simp [intOf]; omega
    · have hlt' : ¬ (k : Int) < (n : Int) := by omega
      go_wp2
      go_ret
      exact ⟨rfl, hgz⟩
end Go.Proofs.YtmfnncfiaaeknaaDoor
