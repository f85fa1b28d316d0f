/- Rows of hashes of the call's own: made, appended to; the document's own key of public parts. -/
import Derived.Test.YtmfnncfiaaeknaaDoorLamV
import Derived.Deep.AppendLies
namespace Go.Proofs.YtmfnncfiaaeknaaDoor
open Go.RowKit

theorem lit_1h32 (b0 b1 b2 b3 b4 b5 b6 b7 b8 b9 b10 b11 b12 b13 b14 b15 b16 b17 b18 b19 b20 b21 b22 b23 b24 b25 b26 b27 b28 b29 b30 b31 : UInt8) (w : World) : (Instr.buildSlice 26 1 #[(0, .agg ([b0, b1, b2, b3, b4, b5, b6, b7, b8, b9, b10, b11, b12, b13, b14, b15, b16, b17, b18, b19, b20, b21, b22, b23, b24, b25, b26, b27, b28, b29, b30, b31].map bv).toArray)]).run Tryd.prog w = .ok (.slice (some ⟨w.heap.size, 0, none⟩) 1 1) (w.alloc (.cells ([b0, b1, b2, b3, b4, b5, b6, b7, b8, b9, b10, b11, b12, b13, b14, b15, b16, b17, b18, b19, b20, b21, b22, b23, b24, b25, b26, b27, b28, b29, b30, b31].map bv).toArray 23)) := by kernel_rfl
theorem lit_1h (x : List UInt8) (hx : x.length = 32) (w : World) : (Instr.buildSlice 26 1 #[(0, .agg (x.map bv).toArray)]).run Tryd.prog w = .ok (.slice (some ⟨w.heap.size, 0, none⟩) 1 1) (w.alloc (.cells (x.map bv).toArray 23)) :=
  match x, hx with
  | [b0, b1, b2, b3, b4, b5, b6, b7, b8, b9, b10, b11, b12, b13, b14, b15, b16, b17, b18, b19, b20, b21, b22, b23, b24, b25, b26, b27, b28, b29, b30, b31], _ => lit_1h32 b0 b1 b2 b3 b4 b5 b6 b7 b8 b9 b10 b11 b12 b13 b14 b15 b16 b17 b18 b19 b20 b21 b22 b23 b24 b25 b26 b27 b28 b29 b30 b31 w
theorem lit_2h32 (b0 b1 b2 b3 b4 b5 b6 b7 b8 b9 b10 b11 b12 b13 b14 b15 b16 b17 b18 b19 b20 b21 b22 b23 b24 b25 b26 b27 b28 b29 b30 b31 c0 c1 c2 c3 c4 c5 c6 c7 c8 c9 c10 c11 c12 c13 c14 c15 c16 c17 c18 c19 c20 c21 c22 c23 c24 c25 c26 c27 c28 c29 c30 c31 : UInt8) (w : World) : (Instr.buildSlice 26 2 #[(0, .agg ([b0, b1, b2, b3, b4, b5, b6, b7, b8, b9, b10, b11, b12, b13, b14, b15, b16, b17, b18, b19, b20, b21, b22, b23, b24, b25, b26, b27, b28, b29, b30, b31].map bv).toArray), (1, .agg ([c0, c1, c2, c3, c4, c5, c6, c7, c8, c9, c10, c11, c12, c13, c14, c15, c16, c17, c18, c19, c20, c21, c22, c23, c24, c25, c26, c27, c28, c29, c30, c31].map bv).toArray)]).run Tryd.prog w = .ok (.slice (some ⟨w.heap.size, 0, none⟩) 2 2) (w.alloc (.cells (([b0, b1, b2, b3, b4, b5, b6, b7, b8, b9, b10, b11, b12, b13, b14, b15, b16, b17, b18, b19, b20, b21, b22, b23, b24, b25, b26, b27, b28, b29, b30, b31] ++ [c0, c1, c2, c3, c4, c5, c6, c7, c8, c9, c10, c11, c12, c13, c14, c15, c16, c17, c18, c19, c20, c21, c22, c23, c24, c25, c26, c27, c28, c29, c30, c31]).map bv).toArray 23)) := by kernel_rfl
theorem lit_2h (x y : List UInt8) (hx : x.length = 32) (hy : y.length = 32) (w : World) : (Instr.buildSlice 26 2 #[(0, .agg (x.map bv).toArray), (1, .agg (y.map bv).toArray)]).run Tryd.prog w = .ok (.slice (some ⟨w.heap.size, 0, none⟩) 2 2) (w.alloc (.cells ((x ++ y).map bv).toArray 23)) :=
  match x, hx, y, hy with
  | [b0, b1, b2, b3, b4, b5, b6, b7, b8, b9, b10, b11, b12, b13, b14, b15, b16, b17, b18, b19, b20, b21, b22, b23, b24, b25, b26, b27, b28, b29, b30, b31], _, [c0, c1, c2, c3, c4, c5, c6, c7, c8, c9, c10, c11, c12, c13, c14, c15, c16, c17, c18, c19, c20, c21, c22, c23, c24, c25, c26, c27, c28, c29, c30, c31], _ => lit_2h32 b0 b1 b2 b3 b4 b5 b6 b7 b8 b9 b10 b11 b12 b13 b14 b15 b16 b17 b18 b19 b20 b21 b22 b23 b24 b25 b26 b27 b28 b29 b30 b31 c0 c1 c2 c3 c4 c5 c6 c7 c8 c9 c10 c11 c12 c13 c14 c15 c16 c17 c18 c19 c20 c21 c22 c23 c24 c25 c26 c27 c28 c29 c30 c31 w

/-- A row of n hashes of the call's own. -/
def OwnHs (w : World) (v : Value) (l : List UInt8) (n : Nat) : Prop := ∃ base, base ≤ w.heap.size ∧ w.ownsRow base 23 32 v n (l.map bv)
section
variable {w w' : World} {v : Value} {l : List UInt8} {n : Nat}
theorem OwnHs.nil (w : World) : OwnHs w (.slice none 0 0) [] 0 := ⟨0, Nat.zero_le _, by simp, .inl ⟨rfl, rfl⟩⟩
theorem OwnHs.len (h : OwnHs w v l n) : l.length = n * 32 := by
  obtain ⟨_, _, h, _⟩ := h
  rwa [List.length_map] at h
theorem OwnHs.keep (h : OwnHs w v l n) {row : Option Nat} (hg : w.grownBy w' row) (hne : v.ownBlock = none ∨ v.ownBlock ≠ row) : OwnHs w' v l n := by
  obtain ⟨base, hb, h⟩ := h
  exact ⟨base, Nat.le_trans hb hg.size, h.kept hg hne⟩
theorem OwnHs.kept (h : OwnHs w v l n) (hg : w.grownBy w' none) : OwnHs w' v l n := h.keep hg (by cases v.ownBlock <;> simp)
theorem OwnHs.lt (h : OwnHs w v l n) : ∀ k, v.ownBlock = some k → k < w.heap.size := by
  obtain ⟨base, hb, _, h⟩ := h
  rcases h with ⟨rfl, _⟩ | ⟨g, cap, cur, rfl, _, hg, _⟩
  · intro k e; cases e
  · intro k e
    simp only [Value.ownBlock, Option.some.injEq] at e
    subst e
    exact lt_of_heap hg
/-- At least one: where it lies. -/
theorem OwnHs.slice (h : OwnHs w v l n) (hn : 0 < n) : ∃ g c, v = .slice (some ⟨g, 0, none⟩) n c ∧ n ≤ c ∧ c ≤ maxLen ∧ RdB w (some ⟨g, 0, none⟩) l := by
  obtain ⟨base, hb, hl, h⟩ := h
  rcases h with ⟨_, h0⟩ | ⟨g, cap, cur, rfl, h1, hg, h2, h3, h4, h5⟩
  · omega
  · exact ⟨g, cap, rfl, h2, h3, RdAt.ofOwn (base := base) (size := 32) ⟨hl, .inr ⟨g, cap, cur, rfl, h1, hg, h2, h3, h4, h5⟩⟩⟩
end
theorem wp_appH {o : Oper} {a : Act} {w : World} {K : Act → World → Prop} {Q : Exit → Act → World → Prop} {s x : Operand}
    (ho : o.op = .call { callee := .builtin .append, args := #[s, x], argTypes := #[26, 26] })
    {v : Value} {l : List UInt8} {n : Nat} (hv : a.eval s = v) (hown : OwnHs w v l n) {ad : Addr} {m c : Nat} {news : List UInt8} (hx : a.eval x = .slice (some ad) m c) (hr : RdB w (some ad) news) (hl : news.length = m * 32) (hm : 0 < m) (hb : n + m ≤ 1000000)
    (h : ∀ v' w', OwnHs w' v' (l ++ news) (n + m) → Grew w w' v v' → K (a.put o.dst v') w') : Oper.wp Tryd.prog o a w K Q := by
  obtain ⟨i, hi, hz, hs, hby⟩ := info_parts info_hashrow
  obtain ⟨base, hbase, hown⟩ := hown
  refine wp_append_lies w s x 26 ho base 23 i _ 32 32 Tryd.underlying26 hi hz hs hby (by simp [Value.cells]) (by omega) v n (l.map bv) hv hown ad m c (news.map bv) hx (by rw [List.length_map, hl]) ?_ (bv_one _) hm (by unfold maxLen; omega) (by omega) hbase _ rfl ?_
  · rcases hr with e | ⟨ad', e, hc⟩
    · have := congrArg List.length e
      rw [List.length_map, hl] at this
      simp at this; omega
    · injection e with e
      subst e
      exact hc
  · intro g cap w' h1 h2 h3 _
    refine h _ w' ⟨base, Nat.le_trans hbase h2.size, by rw [List.map_append]; exact h1⟩ ⟨h2, ?_⟩
    rcases h3 with h3 | h3
    · exact .inl h3.symm
    · exact .inr ⟨g, rfl, by omega⟩
theorem step_appH {ops : Array Oper} {o : Oper} {a : Act} {w : World} {K : Act → World → Prop} {Q : Exit → Act → World → Prop} {E : Prop} (hgd : o.guard = none) (s x : Operand)
    (ho : o.op = .call { callee := .builtin .append, args := #[s, x], argTypes := #[26, 26] })
    {v : Value} {l : List UInt8} {n : Nat} (hv : a.eval s = v) (hown : OwnHs w v l n) {ad : Addr} {m c : Nat} {news : List UInt8} (hx : a.eval x = .slice (some ad) m c) (hr : RdB w (some ad) news) (hl : news.length = m * 32) (hm : 0 < m) (hb : n + m ≤ 1000000)
    (h : ∀ v' w', OwnHs w' v' (l ++ news) (n + m) → Grew w w' v v' → K (a.put o.dst v') w') : if Region.wanted o (yielded ops a.tmps) = true then Oper.wp Tryd.prog o a w K Q else E := by
  have hw : Region.wanted o (yielded ops a.tmps) = true := by simp [Region.wanted, hgd]
  rw [if_pos hw]
  exact wp_appH ho hv hown hx hr hl hm hb h
theorem wpList_appH {ops : Array Oper} {rest : List Oper} {o : Oper} {a : Act} {w : World} {Q : Exit → Act → World → Prop} (hgd : o.guard = none) (s x : Operand)
    (ho : o.op = .call { callee := .builtin .append, args := #[s, x], argTypes := #[26, 26] })
    {v : Value} {l : List UInt8} {n : Nat} (hv : a.eval s = v) (hown : OwnHs w v l n) {ad : Addr} {m c : Nat} {news : List UInt8} (hx : a.eval x = .slice (some ad) m c) (hr : RdB w (some ad) news) (hl : news.length = m * 32) (hm : 0 < m) (hb : n + m ≤ 1000000)
    (h : ∀ v' w', OwnHs w' v' (l ++ news) (n + m) → Grew w w' v v' → wpList Tryd.prog ops Q rest (a.put o.dst v') w') : wpList Tryd.prog ops Q (o :: rest) a w :=
  wpList_plain hgd fun _ hK => wp_appH ho hv hown hx hr hl hm hb fun v' w' h1 h2 => hK _ _ (h v' w' h1 h2)

/-- A hash of a row, as its load wants it. -/
theorem hash_at {w : World} {A : Option Addr} {L : List UInt8} (h : RdB w A L) {k n : Nat} (hl : L.length = n * 32) (hk : k < n) : ∃ ad, A = some ad ∧ ∀ j u, (((L.drop (k * 32)).take 32).map bv)[j]? = some u → w.cell? ((ad.add (k * 32)).add j) = some u := by
  rcases h with e | ⟨ad, rfl, hc⟩
  · have := congrArg List.length e
    rw [List.length_map, hl] at this
    simp at this; omega
  · refine ⟨ad, rfl, fun j u hu => ?_⟩
    have hj : j < 32 := by
      have := (List.getElem?_eq_some_iff.1 hu).1
      rw [List.length_map, List.length_take] at this; omega
    rw [add_add]
    refine hc (k * 32 + j) u ?_
    rw [← hu, List.getElem?_map, List.getElem?_map, List.getElem?_take_of_lt hj, List.getElem?_drop]

set_option maxRecDepth 100000 in
set_option maxHeartbeats 2000000 in
theorem Rkey_any (A : Option Addr) (L : List UInt8) (n c : Nat) (hL : L.length = n * 32) (hn : n ≤ 1000) (w : World) (hr : RdB w A L) :
    Calls Tryd.prog 35 #[.slice A n c] w fun e w' => e = .returned (.agg ((tagL 107 L).map bv).toArray) ∧ w.grownBy w' none := by
  go_enter Tryd.func35, Tryd.ntmps35
  go_wp2
  have hR : Hid ((w.alloc (.cells (rowH []) 23)).heap[w.heap.size]? = some (.cells (rowH []) 23 (0, 0))) := heap_alloc_new _ _
  have hg : w.grownBy (w.alloc (.cells (rowH []) 23)) none := grown_alloc (grown_refl _ _) _
  change Code.wp _ _ _ _ (w.alloc (.cells (rowH []) 23))
  generalize w.alloc (.cells (rowH []) 23) = w1 at hR hg ⊢
  go_loopw [3, 8] (fun x i wz => ∃ k : Nat, k ≤ n ∧ i = .int .i64 k ∧ OwnB wz x (L.take (k * 32)) ∧ Grew w1 wz (.slice none 0 0) x) (fun _ i _ => n - (intOf i).toNat)
  case atStart => exact ⟨0, by omega, rfl, by simpa using OwnB.nil w1, Grew.refl _ _⟩
  case round =>
    obtain ⟨k, hkl, rfl, ho, hgr⟩ := hrel
    have hgn := hgr.nil
    have hgw := grown_same hg hgn
    by_cases hlt : k < n
    · have hlt' : (k : Int) < (n : Int) := by omega
      obtain ⟨ad, rfl, hc⟩ := hash_at (hr.kept hgw) hL hlt
      obtain ⟨y, hy⟩ : ∃ y, y = (L.drop (k * 32)).take 32 := ⟨_, rfl⟩
      rw [← hy] at hc
      have hyl : Hid (y.length = 32) := by show _ = _; rw [hy, List.length_take, List.length_drop]; omega
      have hyc : Hid (L.take ((k + 1) * 32) = L.take (k * 32) ++ y) := by show _ = _; rw [hy, Nat.add_mul, Nat.one_mul, List.take_add]
      have hb : Hid ((L.take (k * 32)).length + y.length ≤ 140737488355328) := by
        show _ ≤ _
        rw [List.length_take, hyl.out]; omega
      have hyi := info_hash y hyl.out
      have HYI := Lib.hid hyi
      clear hy hyi
      go_wp2_with (first
        | (refine wpList_load_agg rfl 23 _ rfl (ad.add (k * 32)) rfl (y.map bv) _ hc Tryd.underlying23 rfl HYI.out ?_)
        | (refine wpList_store_row rfl 23 _ _ rfl (wr.heap.size) (y.map bv).toArray rfl rfl 23 _ (alloc_at rfl) (hashV_size y hyl.out) (by rw [show (y.map bv).toArray.size = 32 from by rw [List.size_toArray, List.length_map, hyl.out]]; rfl) (bv_all' _) ?_; generalize hw4 : World.setRow _ _ _ = w4; have HW4 := new_hash hw4; clear hw4; have ho4 := ho.kept HW4.2; have hry := rd_row HW4.1)
        | (at_builtin; refine wpList_appB (v := u3) _ rfl _ _ rfl rfl ho4 (news := y) rfl hyl.out.symm hry hb.out ?_; intro v6 w6 ho6 hgr6))
      go_roundw
      case rel =>
        refine ⟨k + 1, by omega, by go_num, ?_, (hgr.post HW4.2).trans hgr6⟩
        rw [hyc.out]
        exact ho6
      case measure => simp [intOf]; omega
    · have hkk : k = n := by omega
      subst hkk
      rw [List.take_of_length_le (by omega)] at ho
      obtain ⟨A5, c5, rfl, hc5, hm5, hr5⟩ := ho.slice
      have htag := fun A w' (h3 : RdP w' A [(A5, L, c5)]) => RTagged_any 107 A [(A5, L, c5)] 1 w' h3 (by simp [catP]; omega) (by simp)
      obtain ⟨X, hX⟩ : ∃ X, X = tagL 107 (catP [(A5, L, c5)]) := ⟨_, rfl⟩
      rw [← hX] at htag
      have HX : Hid (X = tagL 107 L) := by show _ = _; rw [hX]; simp [catP]
      have hXl : Hid (X.length = 32) := by rw [hX]; exact tagL_len _ _
      clear hX
      change ∀ A w', RdP w' A _ → Calls Tryd.prog 26 #[.int .u8 107, .slice A 1 1] w' _ at htag
      have hR2 := keep_of hR.out (grown_alloc hgn (.cells #[.slice A5 L.length c5] 24))
      clear hL
      go_wp2_with (first
        | (go_at_call 26; refine (htag _ _ (rdP_kept1 (rd_row (cs := [_]) (alloc_at rfl)) (hr5.alloc _))).mono ?_; rintro e w6 ⟨rfl, hg6⟩)
        | (refine wpList_store_row rfl 23 _ _ rfl (w.heap.size) (X.map bv).toArray rfl rfl 23 _ (keep_of hR2 hg6) (hashV_size X hXl.out) (by rw [rowH_size _ (by simp), List.size_toArray, List.length_map, hXl.out]) (bv_all' _) ?_))
      refine bodyPost_ret (results_cell_row rfl _ _ (w.heap.size) 23 (X.map bv).toArray (0, 0) _ rfl (setRow_heap _ _ _ _ _ _ (keep_of hR2 hg6)) Tryd.underlying23 rfl (hashV_size X hXl.out)) rfl ?_
      exact ⟨by rw [HX.out], grown_setRow (grown_same (grown_alloc hgw _) hg6) (.inr (by omega)) _⟩
end Go.Proofs.YtmfnncfiaaeknaaDoor
