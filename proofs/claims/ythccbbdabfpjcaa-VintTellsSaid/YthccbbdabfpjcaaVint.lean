/- The contracts of package vint's functions. -/
import Derived.Test.YthccbbdabfpjcaaRows
import Derived.Test.YthccbbdabfpjcaaMem
import Derived.Test.YthccbbdabfpjcaaBook
namespace Go.Proofs.Ythccbbdabfpjcaa
open Go.RowKit

/-- The lowest seven bits, with 128 more. -/
def lowB (n : Nat) : UInt8 := UInt8.ofNat (n % 128 + 128)
/-- A number's bytes: sevens of bits, the lowest first, 128 more on all but the last. -/
def putN (n : Nat) : List UInt8 := if n < 128 then [UInt8.ofNat n] else lowB n :: putN (n / 128)
  termination_by n
  decreasing_by omega

/-- .. of those that may be. -/
def putL (n : Int) : List UInt8 := if n < 0 ∨ 1099511627775 < n then [] else putN n.toNat

theorem info_u8 : (Try.prog.info? 5).map (fun i => (i.zero, i.size, i.bytes)) = some (some (.int .u8 0), 1, 1) := by kernel_rfl

/-- A row of bytes of the call's own. -/
def OwnB (w : World) (v : Value) (l : List UInt8) : Prop := ∃ base, base ≤ w.heap.size ∧ w.ownsRow base 5 1 v (l.map bv).length (l.map bv)

theorem OwnB.nil (w : World) : OwnB w (.slice none 0 0) [] := ⟨0, Nat.zero_le _, World.ownsRow_nil _ _ _ _⟩
theorem OwnB.slice {w : World} {v : Value} {l : List UInt8} (h : OwnB w v l) : ∃ A c, v = .slice A l.length c ∧ l.length ≤ c ∧ c ≤ maxLen ∧ RdB w A l := by
  obtain ⟨base, hb, h⟩ := h
  obtain ⟨A, c, rfl, h1, h2⟩ := own_slice h
  have hr := RdAt.ofOwn h
  rw [List.length_map] at *
  exact ⟨A, c, rfl, h1, h2, hr⟩
theorem OwnB.keep {w w' : World} {v : Value} {l : List UInt8} (h : OwnB w v l) {row : Option Nat} (hg : w.grownBy w' row) (hne : v.ownBlock = none ∨ v.ownBlock ≠ row) : OwnB w' v l := by
  obtain ⟨base, hb, h⟩ := h
  exact ⟨base, Nat.le_trans hb hg.size, h.kept hg hne⟩
theorem OwnB.kept {w w' : World} {v : Value} {l : List UInt8} (h : OwnB w v l) (hg : w.grownBy w' none) : OwnB w' v l := h.keep hg (by cases v.ownBlock <;> simp)
theorem OwnB.alloc {w : World} {v : Value} {l : List UInt8} (h : OwnB w v l) (o : Obj) : OwnB (w.alloc o) v l := h.kept (grown_alloc (grown_refl w none) o)
theorem OwnB.lt {w : World} {v : Value} {l : List UInt8} (h : OwnB w v l) : ∀ k, v.ownBlock = some k → k < w.heap.size := by
  obtain ⟨base, hb, h⟩ := h
  exact fun k hk => (h.lt k hk).2
/-- A literal slice of bytes: it reads so, and it is the call's own. -/
theorem rdB_new (w : World) (cs : Array Value) (t : TypeId) (l : List UInt8) (h : cs.toList = l.map bv) : RdB (w.alloc (.cells cs t)) (some ⟨w.heap.size, 0, none⟩) l := by
  refine .inr ⟨_, rfl, fun j u hu => ?_⟩
  have e : (⟨w.heap.size, 0, none⟩ : Addr).add j = ⟨w.heap.size, j, none⟩ := by
    unfold Addr.add; split <;> simp_all
  rw [e, cell_of_row _ _ j cs t (0, 0) (heap_alloc_new w _), ← Array.getElem?_toList, h]
  exact hu
theorem ownB_new (w : World) (cs : Array Value) (l : List UInt8) (n : Nat) (h : cs.toList = l.map bv) (hn : l.length = n) (hm : n ≤ maxLen) : OwnB (w.alloc (.cells cs 5)) (.slice (some ⟨w.heap.size, 0, none⟩) n n) l := by
  have hs : cs.size = n := by rw [← Array.length_toList, h, List.length_map, hn]
  refine ⟨w.heap.size, by simp, by simp, .inr ⟨w.heap.size, n, cs, by rw [List.length_map, hn], Nat.le_refl _, heap_alloc_new w _, by rw [List.length_map]; omega, hm, by omega, ?_⟩⟩
  rw [Nat.mul_one, List.take_of_length_le (by rw [h]; exact Nat.le_refl _), h]

/-- 'append(v, x...)' on bytes, v the call's own, x whatever reads so. -/
theorem wpList_appB (w : World) {ops : Array Oper} {rest : List Oper} {o : Oper} {a : Act} {Q : Exit → Act → World → Prop} (hgd : o.guard = none) (s x : Operand)
    (ho : o.op = .call { callee := .builtin .append, args := #[s, x], argTypes := #[24, 24] })
    {v : Value} {l : List UInt8} (hv : a.eval s = v) (hown : OwnB w v l) {A : Option Addr} {m c : Nat} {news : List UInt8} (hx : a.eval x = .slice A m c) (hm : m = news.length) (hr : RdB w A news)
    (hb : l.length + news.length ≤ 140737488355328)
    (h : ∀ v' w', OwnB w' v' (l ++ news) → Grew w w' v v' → wpList Try.prog ops Q rest (a.put o.dst v') w') : wpList Try.prog ops Q (o :: rest) a w := by
  obtain ⟨i, hi, hz, hs, hby⟩ := info_parts info_u8
  obtain ⟨base, hbase, hown⟩ := hown
  subst hm
  refine wpList_append_rd (P := Try.prog) w hgd s x 24 ho Try.underlying24 hi hz hs hby rfl hv hown (c := c) (news := news.map bv) (by rw [List.length_map]; exact hx) hr (bv_one _) (by simpa using hb) (by unfold maxLen; simp; omega) hbase ?_
  intro v' w' h1 h2
  refine h v' w' ⟨base, Nat.le_trans hbase h2.1.size, ?_⟩ h2
  rw [List.map_append]
  exact h1

theorem strCells_bv (s : ByteArray) : Lib.strCells s = s.data.toList.map bv := rfl
theorem run_append_str {P : Program} (w : World) {t u ty e : TypeId} {i : TypeInfo} {base : Nat} (ht : P.underlying t = some (.slice e)) (hu : P.underlying u = some .string) (hi : P.info? e = some i) (hz : i.zero = some (.int .u8 0))
    (hs : i.size = 1) (hb : i.bytes = 1) {v : Value} {l : List UInt8} (hown : w.ownsRow base e 1 v (l.map bv).length (l.map bv)) (s : ByteArray)
    (hle : l.length + s.size ≤ 140737488355328) (hbase : base ≤ w.heap.size) :
    ∃ v' w', (Builtin.append_ #[t, u] ty #[v, .string s]).run P w = .ok v' w' ∧ w'.ownsRow base e 1 v' ((l ++ s.data.toList).map bv).length ((l ++ s.data.toList).map bv) ∧ Grew w w' v v' := by
  have hsz : s.data.toList.length = s.size := Array.length_toList
  have hlen : (l.map bv).length = l.length := List.length_map _
  obtain ⟨v', w', hrun, ho, hg, _⟩ := Lib.run_append_own_string (P := P) w base t u ty e i ht hu hi hz hs hb v _ _ hown s (by rw [hlen]; unfold maxLen; omega) (by rw [hlen]; omega) hbase
  have ho' : w'.ownsRow base e 1 v' ((l ++ s.data.toList).map bv).length ((l ++ s.data.toList).map bv) := by
    have e1 : ((l ++ s.data.toList).map bv).length = (l.map bv).length + s.size := by simp
    rw [e1, List.map_append]; exact ho
  refine ⟨v', w', hrun, ho', hg, ?_⟩
  rcases hown.2 with ⟨rfl, hn⟩ | ⟨g, cap, cur, rfl, _, hgg, hnc, _, hcs, _⟩
  · by_cases hm : s.size = 0
    · have hr : (Builtin.append_ #[t, u] ty #[.slice none 0 0, .string s]).run P w = .ok (.slice none 0 0) w := by
        have hf := Lib.run_firstCells_string (P := P) w 1 s
        rw [hm] at hf
        simp [Builtin.append_, run_underlying ht, run_underlying hu, sizeOf, typeInfo, hi, hs, Builtin.lenOf, hm, hf]
      rw [hr] at hrun
      injection hrun with h1 _
      exact .inl (by rw [← h1])
    · have hr := run_append_nil_string (P := P) w t u ty e i (.int .u8 0) ht hu hi hz s (by omega) (by omega) (by rw [hb]; omega)
      rw [hr] at hrun
      injection hrun with h1 _
      exact .inr ⟨w.heap.size, by rw [← h1]; rfl, Nat.le_refl _⟩
  · by_cases hroom : (l.map bv).length + s.size ≤ cap
    · have hr := Lib.run_append_room_string (P := P) w t u ty e i ht hu hi hs g _ cap cur hgg s hroom (by omega)
      rw [hr] at hrun
      injection hrun with h1 _
      exact .inl (by rw [← h1]; rfl)
    · have hr := Lib.run_append_grow_string (P := P) w t u ty e i (.int .u8 0) ht hu hi hz ⟨g, 0, none⟩ _ cap _ (by rw [hs, Nat.mul_one]) (hown.cells (g := g) rfl) s (by omega) (by omega) (by rw [hb]; exact growslice_fits (by omega) (by omega))
      rw [hr] at hrun
      injection hrun with h1 _
      exact .inr ⟨w.heap.size, by rw [← h1]; rfl, Nat.le_refl _⟩

/-- 'append(v, s...)', s a text. -/
theorem wpList_appS (w : World) {ops : Array Oper} {rest : List Oper} {o : Oper} {a : Act} {Q : Exit → Act → World → Prop} (hgd : o.guard = none) (x y : Operand)
    (ho : o.op = .call { callee := .builtin .append, args := #[x, y], argTypes := #[24, 9] })
    {v : Value} {l : List UInt8} (hv : a.eval x = v) (hown : OwnB w v l) {s : ByteArray} (hy : a.eval y = .string s)
    (hb : l.length + s.size ≤ 140737488355328)
    (h : ∀ v' w', OwnB w' v' (l ++ s.data.toList) → Grew w w' v v' → wpList Try.prog ops Q rest (a.put o.dst v') w') : wpList Try.prog ops Q (o :: rest) a w := by
  obtain ⟨i, hi, hz, hs, hby⟩ := info_parts info_u8
  obtain ⟨base, hbase, hown⟩ := hown
  refine wpList_plain hgd fun K hK => ?_
  obtain ⟨v', w', hrun, h2, h3⟩ := run_append_str (P := Try.prog) w (ty := o.type) Try.underlying24 Try.underlying9 hi hz hs hby hown s hb hbase
  unfold Oper.wp execOp
  simp only [ho, resolve, invoke, builtin, Sem.run_bind, Sem.run_pure, Result.andThen_ok, List.map_toArray, List.map_cons, List.map_nil, hv, hy, hrun]
  exact hK _ _ (h v' w' ⟨base, Nat.le_trans hbase h3.1.size, h2⟩ h3)

theorem ofNat_u8 {n : Nat} (h : n < 256) : ((UInt8.ofNat n).toNat : Int) = n := by rw [UInt8.toNat_ofNat']; omega
theorem or128 : ∀ x : Fin 256, bits .or .u8 (x.val : Int) 128 = ((x.val % 128 + 128 : Nat) : Int) := by decide +kernel
theorem lowB_val (m : Nat) : bits .or .u8 ((m : Int) % 256) 128 = ((lowB m).toNat : Int) := by
  have h : bits .or .u8 ((m % 256 : Nat) : Int) 128 = ((m % 256 % 128 + 128 : Nat) : Int) := or128 ⟨m % 256, Nat.mod_lt _ (by omega)⟩
  have e : ((m : Int) % 256) = ((m % 256 : Nat) : Int) := by omega
  rw [e, h, lowB, UInt8.toNat_ofNat']
  have : m % 256 % 128 = m % 128 := by omega
  omega
theorem putN_small {n : Nat} (h : n < 128) : putN n = [UInt8.ofNat n] := by rw [putN]; simp [h]
theorem putN_great {n : Nat} (h : ¬ n < 128) : putN n = lowB n :: putN (n / 128) := by rw [putN]; simp [h]

theorem putN_lt (k : Nat) : ∀ n, n < 128 ^ (k + 1) → (putN n).length ≤ k + 1 := by
  induction k with
  | zero => intro n h; rw [putN_small (by simpa using h)]; simp
  | succ k ih =>
    intro n h
    by_cases hn : n < 128
    · rw [putN_small hn]; simp
    · rw [putN_great hn, List.length_cons]
      have := ih (n / 128) (by rw [Nat.pow_succ] at h; exact Nat.div_lt_of_lt_mul (by omega))
      omega
theorem putN_len (n : Nat) (h : n ≤ 1099511627775) : (putN n).length ≤ 6 := putN_lt 5 n (by show n < 4398046511104; omega)

set_option maxHeartbeats 400000 in
theorem vput_none (v : Value) (n : Int) (w : World) (h : n < 0 ∨ 1099511627775 < n) :
    Calls Try.prog 28 #[v, .int .i64 n] w fun e w' => e = .returned v ∧ w = w' := by
  rcases h with h | h
  · go_enter Try.func28, Try.ntmps28
    go_wp2
    go_ret
    exact ⟨rfl, rfl⟩
  · have h0 : ¬ n < 0 := by omega
    go_enter Try.func28, Try.ntmps28
    go_wp2
    go_ret
    exact ⟨rfl, rfl⟩

set_option maxHeartbeats 400000 in
theorem vput_some (v : Value) (l : List UInt8) (n : Nat) (w : World) (h1 : n ≤ 1099511627775) (ho : OwnB w v l) (hb : l.length ≤ 100000000000) :
    Calls Try.prog 28 #[v, .int .i64 n] w fun e w' => ∃ v', e = .returned v' ∧ OwnB w' v' (l ++ putN n) ∧ Grew w w' v v' := by
  have h3 : ¬ 1099511627775 < (n : Int) := by omega
  go_enter Try.func28, Try.ntmps28
  go_wp2
  go_loopw [0, 1] (fun x i wr => ∃ (m : Nat) (p : List UInt8), i = .int .i64 m ∧ m ≤ 1099511627775 ∧ OwnB wr x p ∧ p ++ putN m = l ++ putN n ∧ Grew w wr v x) (fun _ i _ => (intOf i).toNat)
  case atStart => exact ⟨n, l, rfl, h1, ho, rfl, Grew.refl _ _⟩
  case round =>
    obtain ⟨m, p, rfl, hm, hop, heq, hg⟩ := hrel
    have HE := Lib.hid heq
    clear heq
    have hpl : p.length ≤ l.length + 6 := by
      have h := congrArg List.length HE.out
      have h6 := putN_len n h1
      simp only [List.length_append] at h
      omega
    by_cases hlt : 127 < m
    · go_wp2_with (at_builtin; refine wpList_appB _ rfl _ _ rfl rfl (hop.alloc _) (news := [lowB m]) rfl rfl (rdB_new _ _ _ _ ?c1) ?c2 ?_)
      case c1 => simp only [bv]; rw [lowB_val]
      case c2 => simp; omega
      intro v' w' ho' hg'
      go_wp2
      go_roundw
      case rel => exact ⟨m / 128, p ++ [lowB m], by go_num, by omega, ho', by rw [← HE.out, putN_great (n := m) (by omega)]; simp, hg.trans (Grew.pre (grown_alloc (grown_refl _ _) _) hg')⟩
      case measure => simp [intOf]; omega
    · go_wp2_with (at_builtin; refine wpList_appB _ rfl _ _ rfl rfl (hop.alloc _) (news := [UInt8.ofNat m]) rfl rfl (rdB_new _ _ _ _ ?d1) ?d2 ?_)
      case d1 => simp only [bv]; rw [ofNat_u8 (by omega)]
      case d2 => simp; omega
      intro v' w' ho' hg'
      go_wp2
      go_ret
      exact ⟨v', rfl, by rw [← HE.out, putN_small (by omega)]; exact ho', hg.trans (Grew.pre (grown_alloc (grown_refl _ _) _) hg')⟩

theorem putL_none {n : Int} (h : n < 0 ∨ 1099511627775 < n) : putL n = [] := by rw [putL, if_pos h]
theorem putL_some {n : Nat} (h : n ≤ 1099511627775) : putL n = putN n := by rw [putL, if_neg (by omega)]; simp
theorem putL_len (n : Int) : (putL n).length ≤ 6 := by
  unfold putL
  split
  · simp
  · exact putN_len _ (by omega)

theorem vput_any (v : Value) (l : List UInt8) (n : Int) (w : World) (ho : OwnB w v l) (hb : l.length ≤ 100000000000) :
    Calls Try.prog 28 #[v, .int .i64 n] w fun e w' => ∃ v', e = .returned v' ∧ OwnB w' v' (l ++ putL n) ∧ Grew w w' v v' := by
  by_cases h : n < 0 ∨ 1099511627775 < n
  · refine (vput_none v n w h).mono ?_
    rintro e w' ⟨rfl, rfl⟩
    exact ⟨v, rfl, by rw [putL_none h, List.append_nil]; exact ho, Grew.refl _ _⟩
  · obtain ⟨m, rfl⟩ := Int.eq_ofNat_of_zero_le (show 0 ≤ n by omega)
    refine (vput_some v l m w (by omega) ho hb).mono ?_
    rintro e w' ⟨v', rfl, h1, h2⟩
    exact ⟨v', rfl, by rw [putL_some (by omega)]; exact h1, h2⟩

/-- The bytes of many numbers. -/
def putsL (ns : List Int) : List UInt8 := ns.flatMap putL
theorem putsL_len (ns : List Int) : (putsL ns).length ≤ 6 * ns.length := by
  induction ns with
  | nil => simp [putsL]
  | cons n r ih =>
    have := putL_len n
    simp only [putsL, List.flatMap_cons, List.length_append, List.length_cons] at ih ⊢
    omega
theorem putsL_next {ns : List Int} {k : Nat} (h : k < ns.length) : putsL (ns.take (k + 1)) = putsL (ns.take k) ++ putL ns[k] := by
  rw [List.take_succ_eq_append_getElem h, putsL, List.flatMap_append]; simp [putsL]

set_option maxHeartbeats 400000 in
theorem Put_any (A : Option Addr) (c : Nat) (ns : List Int) (w : World) (hr : RdI w A ns) (hb : ns.length ≤ 1000000000) :
    Calls Try.prog 12 #[.slice A ns.length c] w fun e w' => ∃ v', e = .returned v' ∧ OwnB w' v' (putsL ns) ∧ Grew w w' (.slice none 0 0) v' := by
  go_enter Try.func12, Try.ntmps12
  go_wp2
  go_loopw [3, 8] (fun x i wr => ∃ k : Nat, k ≤ ns.length ∧ i = .int .i64 k ∧ OwnB wr x (putsL (ns.take k)) ∧ Grew w wr (.slice none 0 0) x) (fun _ i _ => ns.length - (intOf i).toNat)
  case atStart => exact ⟨0, Nat.zero_le _, rfl, OwnB.nil _, Grew.refl _ _⟩
  case round =>
    obtain ⟨k, hk, rfl, ho, hg⟩ := hrel
    have hle := putsL_len (ns.take k)
    rw [List.length_take] at hle
    by_cases hlt : k < ns.length
    · have hr' : RdI wr A ns := hr.kept hg.nil
      obtain ⟨ad, rfl, hc⟩ := hr'.get hlt
      go_wp2_with (go_at_call 28; refine (vput_any _ _ _ _ ho (by omega)).mono ?_; rintro e w1 ⟨v1, rfl, ho1, hg1⟩)
      go_roundw
      case rel => exact ⟨k + 1, by omega, by go_num, by rw [putsL_next hlt]; exact ho1, hg.trans hg1⟩
      case measure => simp [intOf]; omega
    · go_wp2
      go_ret
      exact ⟨_, rfl, by rw [List.take_of_length_le (by omega)] at ho; exact ho, hg⟩

/-- A text's bytes: its length, and they. -/
def textL (s : List UInt8) : List UInt8 := putL s.length ++ s
def textsL (ss : List (List UInt8)) : List UInt8 := ss.flatMap textL
theorem textsL_next {ss : List (List UInt8)} {k : Nat} (h : k < ss.length) : textsL (ss.take (k + 1)) = textsL (ss.take k) ++ textL ss[k] := by
  rw [List.take_succ_eq_append_getElem h, textsL, List.flatMap_append]; simp [textsL]
theorem textsL_len (ss : List (List UInt8)) (M : Nat) (h : ∀ s ∈ ss, s.length ≤ M) : (textsL ss).length ≤ ss.length * (M + 6) := by
  induction ss with
  | nil => simp [textsL]
  | cons s r ih =>
    have h1 := putL_len s.length
    have h2 := h s (by simp)
    have h3 := ih fun x hx => h x (by simp [hx])
    simp only [textsL, List.flatMap_cons, textL, List.length_append, List.length_cons] at h3 ⊢
    rw [Nat.add_mul, Nat.one_mul]
    omega

set_option maxHeartbeats 400000 in
theorem Text_any (A : Option Addr) (c : Nat) (ss : List (List UInt8)) (w : World) (hr : RdS w A ss) (hb : ss.length ≤ 10000) (hs : ∀ s ∈ ss, s.length ≤ 100000) :
    Calls Try.prog 14 #[.slice A ss.length c] w fun e w' => ∃ v', e = .returned v' ∧ OwnB w' v' (textsL ss) ∧ Grew w w' (.slice none 0 0) v' := by
  go_enter Try.func14, Try.ntmps14
  go_wp2
  go_loopw [3, 8] (fun x i wr => ∃ k : Nat, k ≤ ss.length ∧ i = .int .i64 k ∧ OwnB wr x (textsL (ss.take k)) ∧ Grew w wr (.slice none 0 0) x) (fun _ i _ => ss.length - (intOf i).toNat)
  case atStart => exact ⟨0, Nat.zero_le _, rfl, OwnB.nil _, Grew.refl _ _⟩
  case round =>
    obtain ⟨k, hk, rfl, ho, hg⟩ := hrel
    have hle := textsL_len (ss.take k) 100000 fun s h => hs s (List.mem_of_mem_take h)
    have hle : (textsL (ss.take k)).length ≤ 1000060000 := by
      have h1 : (ss.take k).length ≤ 10000 := by rw [List.length_take]; omega
      have h2 := Nat.mul_le_mul_right (100000 + 6) h1
      omega
    by_cases hlt : k < ss.length
    · have hr' : RdS wr A ss := hr.kept hg.nil
      obtain ⟨ad, rfl, hc⟩ := hr'.get hlt
      have hsl := hs _ (List.getElem_mem hlt)
      obtain ⟨s, hS⟩ : ∃ s, s = ss[k] := ⟨_, rfl⟩
      rw [← hS] at hc hsl
      have HS := Lib.hid hS
      clear hS
      have hpl := putL_len s.length
      go_wp2_with (first | (go_at_call 28; refine (vput_any _ _ _ _ ho (by omega)).mono ?_; rintro e w1 ⟨v1, rfl, ho1, hg1⟩) | (at_builtin; refine wpList_appS _ rfl _ _ rfl rfl ho1 rfl ?c1 ?_))
      case c1 => simp; show _ + s.length ≤ _; omega
      intro v' w' ho' hg'
      go_wp2
      go_roundw
      case rel => exact ⟨k + 1, by omega, by go_num, by rw [textsL_next hlt, ← HS.out]; simpa [textL] using ho', (hg.trans hg1).trans hg'⟩
      case measure => simp [intOf]; omega
    · go_wp2
      go_ret
      exact ⟨_, rfl, by rw [List.take_of_length_le (by omega)] at ho; exact ho, hg⟩

theorem size_hash : (Try.prog.info? 33).map (·.size) = some 32 := by kernel_rfl
def hashesL (hs : List (List UInt8)) : List UInt8 := hs.flatten
theorem hashesL_next {hs : List (List UInt8)} {k : Nat} (h : k < hs.length) : hashesL (hs.take (k + 1)) = hashesL (hs.take k) ++ hs[k] := by
  rw [List.take_succ_eq_append_getElem h, hashesL, List.flatten_append]; simp [hashesL]
theorem hashesL_len (hs : List (List UInt8)) (h : ∀ x ∈ hs, x.length = 32) : (hashesL hs).length = 32 * hs.length := by
  induction hs with
  | nil => simp [hashesL]
  | cons x r ih =>
    have h1 := h x (by simp)
    have h2 := ih fun y hy => h y (by simp [hy])
    simp only [hashesL, List.flatten_cons, List.length_append, List.length_cons] at h2 ⊢
    omega

set_option maxHeartbeats 400000 in
theorem Hash_any (A : Option Addr) (c : Nat) (hs : List (List UInt8)) (w : World) (hr : RdH w A hs) (hb : hs.length ≤ 10000000) (h32 : ∀ x ∈ hs, x.length = 32) :
    Calls Try.prog 19 #[.slice A hs.length c] w fun e w' => ∃ v', e = .returned v' ∧ OwnB w' v' (hashesL hs) ∧ Grew w w' (.slice none 0 0) v' := by
  go_enter Try.func19, Try.ntmps19
  go_wp2
  go_loopw [3, 8] (fun x i wr => ∃ k : Nat, k ≤ hs.length ∧ i = .int .i64 k ∧ OwnB wr x (hashesL (hs.take k)) ∧ Grew w wr (.slice none 0 0) x) (fun _ i _ => hs.length - (intOf i).toNat)
  case atStart => exact ⟨0, Nat.zero_le _, rfl, OwnB.nil _, Grew.refl _ _⟩
  case round =>
    obtain ⟨k, hk, rfl, ho, hg⟩ := hrel
    have hle := hashesL_len (hs.take k) fun s h => h32 s (List.mem_of_mem_take h)
    rw [List.length_take] at hle
    by_cases hlt : k < hs.length
    · have hr' : RdH wr A hs := hr.kept hg.nil
      obtain ⟨ad, rfl, hc⟩ := hr'.get hlt
      have hsl := h32 _ (List.getElem_mem hlt)
      obtain ⟨s, hS⟩ : ∃ s, s = hs[k] := ⟨_, rfl⟩
      rw [← hS] at hc hsl
      have HS := Lib.hid hS
      have HL := Lib.hid hsl
      clear hS hsl
      have hsm : (s.map bv).toArray.all (·.oneCell') = true := by rw [Array.all_eq_true_iff_forall_mem]; intro x hx; exact bv_one s x (by simpa using hx)
      go_wp2_with (first | (refine wpList_load_agg rfl 33 _ rfl (ad.add (k * 32)) rfl (s.map bv) _ hc Try.underlying33 rfl (by rw [List.length_map, HL.out]; exact size_hash) ?_) | (refine wpList_store_row rfl 33 _ _ rfl wr.heap.size (s.map bv).toArray rfl rfl 33 _ (heap_alloc_new _ _) (by simpa [HL.out] using size_hash) (by simp [HL.out]) hsm ?_) | (at_builtin; refine wpList_appB _ rfl _ _ rfl rfl (ho.kept (grown_setRow (grown_alloc (grown_refl _ _) _) (.inr (Nat.le_refl _)) _)) (news := s) rfl HL.out.symm (rd_row (setRow_heap _ _ _ _ _ _ (heap_alloc_new _ _))) ?c1 ?_))
      case c1 => rw [HL.out]; omega
      intro v' w' ho' hg'
      go_wp2
      go_roundw
      case rel => exact ⟨k + 1, by omega, by go_num, by rw [hashesL_next hlt, ← HS.out]; exact ho', hg.trans (Grew.pre (grown_setRow (grown_alloc (grown_refl _ _) _) (.inr (Nat.le_refl _)) _) hg')⟩
      case measure => simp [intOf]; omega
    · go_wp2
      go_ret
      exact ⟨_, rfl, by rw [List.take_of_length_le (by omega)] at ho; exact ho, hg⟩
end Go.Proofs.Ythccbbdabfpjcaa
