/- What stage 4's great laws share: rows of hashes appended in order, a constant leaf, a number brought into bounds from -1 on, forms of paths. -/
import Derived.Test.YtmfnncfiaaeknaaDoorTreeG
import Derived.Test.YtmfnncfiaaeknaaDoorTreeE
namespace Go.Proofs.YtmfnncfiaaeknaaDoor
open Go.RowKit

/-- 'append(v, x...)': v a row of hashes of the call's own, x whatever reads so. -/
theorem wpList_appHr {ops : Array Oper} {rest : List Oper} {o : Oper} {a : Act} {w : World} {Q : Exit → Act → World → Prop} (hgd : o.guard = none) (s x : Operand)
    (ho : o.op = .call { callee := .builtin .append, args := #[s, x], argTypes := #[26, 26] })
    {v : Value} {l : List UInt8} {n : Nat} (hv : a.eval s = v) (hown : OwnHs w v l n) {A : Option Addr} {m c : Nat} {news : List UInt8} (hx : a.eval x = .slice A m c) (hr : RdB w A news) (hl : news.length = m * 32) (hb : n + m ≤ 1000000)
    (h : ∀ v' w', OwnHs w' v' (l ++ news) (n + m) → Grew w w' v v' → wpList Tryd.prog ops Q rest (a.put o.dst v') w') : wpList Tryd.prog ops Q (o :: rest) a w := by
  refine wpList_plain hgd fun K hK => ?_
  rcases Nat.eq_zero_or_pos m with rfl | hm
  · have hP0 : news = [] := List.eq_nil_of_length_eq_zero (by omega)
    subst hP0
    obtain ⟨i, hi, -, -, -⟩ := info_parts info_hashrow
    obtain ⟨base1, hb1, hown1⟩ := hown
    have hrun := run_append_empty (P := Tryd.prog) w (ty := o.type) Tryd.underlying26 hi hown1 A c
    unfold Oper.wp execOp
    simp only [ho, resolve, invoke, builtin, Sem.run_bind, Sem.run_pure, Result.andThen_ok, List.map_toArray, List.map_cons, List.map_nil, hv, hx, hrun]
    exact hK _ _ (h v w (by rw [List.append_nil]; exact ⟨base1, hb1, hown1⟩) (Grew.refl w v))
  · obtain ⟨ad, rfl, -⟩ := RdB.get hr (k := 0) (by omega)
    exact wp_appH ho hv hown hx hr hl hm hb fun v' w' h1 h2 => hK _ _ (h v' w' h1 h2)
/-- A row of hashes of the call's own as a slice. -/
theorem OwnHs.form {w : World} {v : Value} {P : List UInt8} {d : Nat} (h : OwnHs w v P d) : ∃ A c, v = .slice A d c ∧ d ≤ c ∧ RdB w A P ∧ (d = 0 ∨ ∃ g, A = some ⟨g, 0, none⟩) ∧ (0 < d → ∃ g, A = some ⟨g, 0, none⟩) := by
  rcases Nat.eq_zero_or_pos d with rfl | hd
  · have hP0 : P = [] := List.eq_nil_of_length_eq_zero (by have := h.len; omega)
    subst hP0
    obtain ⟨base, hb, h⟩ := h
    obtain ⟨A, c, rfl, h1, _⟩ := own_slice h
    exact ⟨A, c, rfl, h1, RdAt.nil, .inl rfl, fun h => absurd h (by omega)⟩
  · obtain ⟨g, c, rfl, h1, _, hr⟩ := h.slice hd
    exact ⟨_, c, rfl, h1, hr, .inr ⟨g, rfl⟩, fun _ => ⟨g, rfl⟩⟩
theorem Within_m1 (n hi : Int) (h1 : -1 ≤ hi) (h2 : hi ≤ 1000000) : ∃ x : Int, -1 ≤ x ∧ x ≤ hi ∧ ∀ w, Calls Tryd.prog 12 #[.int .i64 n, .int .i64 (-1), .int .i64 hi] w fun e w' => e = .returned (.int .i64 x) ∧ w = w' := by
  have hb := within_le (n := n) (lo := -1) (hi := hi) h1
  refine ⟨within n (-1) hi, hb.1, hb.2, fun w => ?_⟩
  obtain ⟨e1, e2, e3, e4⟩ := tmod_emod n (hi - (-1) + 1) (by omega)
  rw [show hi - (-1) + 1 = hi + 2 by omega] at e1 e2 e3 e4
  have hw : within n (-1) hi = -1 + n % (hi + 2) := by unfold within; rw [show hi - (-1) + 1 = hi + 2 by omega]
  have HW := Lib.hid hw
  clear hb hw
  by_cases hneg : n.tmod (hi + 2) < 0
  · have hE := Lib.hid (e2 hneg)
    clear e1 e2
    have e5 : hi - -1 + 1 = hi + 2 := by omega
    have e6 : hi - -1 = hi + 1 := by omega
    have e7 : hi + 1 + 1 = hi + 2 := by omega
    go_enter Tryd.func12, Tryd.ntmps12
    go_wp2
    go_ret
    exact ⟨ret_int (by rw [HW.out, hE.out]; omega), rfl⟩
  · have hE := Lib.hid (e1 (by omega))
    clear e1 e2
    have e5 : hi - -1 + 1 = hi + 2 := by omega
    have e6 : hi - -1 = hi + 1 := by omega
    have e7 : hi + 1 + 1 = hi + 2 := by omega
    go_enter Tryd.func12, Tryd.ntmps12
    go_wp2
    go_ret
    exact ⟨ret_int (by rw [HW.out, hE.out]), rfl⟩
/-- '[]byte(const)', a leaf of four bytes. -/
theorem wpList_leaf {ops : Array Oper} {rest : List Oper} {o : Oper} {a : Act} {w : World} {Q : Exit → Act → World → Prop} (hgd : o.guard = none) (x : Operand) (ho : o.op = .convert 24 24 x) (hx : a.eval x = .slice (some ⟨w.heap.size, 0, none⟩) 4 4)
    (h : ∀ w', w.grownBy w' none → RdB w' (some ⟨w.heap.size, 0, none⟩) [108, 101, 97, 102] → wpList Tryd.prog ops Q rest (a.put o.dst (.slice (some ⟨w.heap.size, 0, none⟩) 4 4)) w') : wpList Tryd.prog ops Q (o :: rest) a (w.alloc (.cells #[.int .u8 108, .int .u8 101, .int .u8 97, .int .u8 102] 5)) := by
  refine wpList_plain hgd fun K hK => ?_
  obtain ⟨w', hrun, hg, hb⟩ := run_conv (w.alloc (.cells #[.int .u8 108, .int .u8 101, .int .u8 97, .int .u8 102] 5)) w.heap.size _ 4 4 (heap_alloc_new _ _)
  refine wp_conv ho hx hrun (hK _ _ (h w' (grown_trans (grown_alloc (grown_refl _ _) _) hg (.inr fun g e => by cases e; exact Nat.le_refl _)) ?_))
  exact rd_row (cs := [_, _, _, _]) hb
end Go.Proofs.YtmfnncfiaaeknaaDoor
