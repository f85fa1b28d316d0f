/- Texts as leaves: the statements' rows; two rows of hashes compared. Chapter 4's runs; kinds of comparisons in a law's return. What stage 4's great laws share: rows of hashes appended in order, a constant leaf, a number brought into bounds from -1 on, forms of paths. -/
import Derived.Test.YtpeepiboocdnaaaDoorKI
import Derived.Laws.IdiomStrings
import Derived.Test.YtpeepiboocdnaaaDoorKG
namespace Go.Proofs.YtpeepiboocdnaaaDoor
open Go.RowKit

theorem extract_takeT (z : List UInt8) (m : Nat) : (⟨z.toArray⟩ : ByteArray).extract 0 m = ⟨(z.take m).toArray⟩ := by
  have h : ((⟨z.toArray⟩ : ByteArray).extract 0 m).data = (z.take m).toArray := by simp
  generalize (⟨z.toArray⟩ : ByteArray).extract 0 m = b at h ⊢
  cases b
  simp only at h
  rw [h]
theorem wp_lenS {P : Program} {o : Oper} {a : Act} {w : World} {K : Act → World → Prop} {Q : Exit → Act → World → Prop} {x : Operand} {t : TypeId} (ho : o.op = .call { callee := .builtin .len, args := #[x], argTypes := #[t] }) (ht : P.underlying t = some .string) {s : ByteArray} (hx : a.eval x = .string s)
    (h : K (a.put o.dst (.int .i64 (s.size : Int))) w) : Oper.wp P o a w K Q := by
  unfold Oper.wp execOp
  simp [ho, resolve, invoke, builtin, hx, run_len_string (h := ht)]
  exact h
theorem idx_str (ad : Addr) (n c k : Nat) (hk : k < n) (w : World) : (Instr.indexAt 52 (.slice (some ad) n c) (.int .i64 (k : Int))).run Tryd.prog w = .ok (.pointer (some (ad.add k))) w := by
  rw [run_indexAt_slice (P := Tryd.prog) (h := by kernel_rfl), if_pos ⟨by omega, by omega⟩]
  rw [show (sizeOf (Tryd.prog.elem 52)).run Tryd.prog w = .ok 1 w from by kernel_rfl, Result.andThen_ok]
  simp
theorem sl_str (z : List UInt8) (m : Nat) (h : m ≤ z.length) (w : World) : (Instr.sliceAt 9 (.string ⟨z.toArray⟩) none (some (.int .i64 (m : Int))) none).run Tryd.prog w = .ok (.string ⟨(z.take m).toArray⟩) w := by
  rw [run_sliceAt_string (P := Tryd.prog) (h := by kernel_rfl), run_slice_string_h (P := Tryd.prog) (w := w) (ht := by kernel_rfl) (h0 := by omega) (h2 := by simp [ByteArray.size]; exact h)]
  rw [Int.toNat_natCast, extract_takeT]
theorem info_listT : (Tryd.prog.info? 61).map (fun i => (i.zero, i.size, i.bytes)) = some (some (.slice none 0 0), 1, 24) := by kernel_rfl

/-- A part in a block of bytes. -/
def PartB (w : World) (p : Part) : Prop := ∃ b C fr, p.1 = some ⟨b, 0, none⟩ ∧ w.heap[b]? = some (.cells C 5 fr) ∧ C.toList.take p.2.1.length = p.2.1.map bv
theorem PartB.rd {w : World} {p : Part} (h : PartB w p) : RdB w p.1 p.2.1 := by
  obtain ⟨b, C, fr, e, hb, hC⟩ := h
  rw [e]
  refine .inr ⟨_, rfl, fun j u hu => ?_⟩
  have e1 : (⟨b, 0, none⟩ : Addr).add j = ⟨b, j, none⟩ := by unfold Addr.add; split <;> simp_all
  rw [e1, cell_of_row w b j _ _ fr hb]
  rw [← hC] at hu
  rw [List.getElem?_take] at hu
  split at hu
  · simpa using hu
  · cases hu
theorem PartB.kept {w w' : World} {p : Part} (h : PartB w p) (hg : w.grownBy w' none) : PartB w' p := by
  obtain ⟨b, C, fr, e, hb, hC⟩ := h
  exact ⟨b, C, fr, e, keep_of hb hg, hC⟩
/-- Kept where a row of lists grows. -/
theorem PartB.keep {w w' : World} {p : Part} {v : Value} {xs : List Value} (h : PartB w p) (ho : OwnV 61 w v xs) (hg : w.grownBy w' v.ownBlock) : PartB w' p := by
  obtain ⟨b, C, fr, e, hb, hC⟩ := h
  refine ⟨b, C, fr, e, other_block hb hg fun e2 => ?_, hC⟩
  obtain ⟨cs, fr', h2⟩ := ho.block b e2.symm
  rw [hb] at h2
  cases h2
theorem conv_str (T : List UInt8) (w : World) : ∃ c w', (convert 9 61 (.string ⟨T.toArray⟩)).run Tryd.prog w = .ok (.slice (some ⟨w.heap.size, 0, none⟩) T.length c) w' ∧ w.grownBy w' none ∧ w.heap.size < w'.heap.size ∧ PartB w' (some ⟨w.heap.size, 0, none⟩, T, c) := by
  have h := run_bytes_of_string (P := Tryd.prog) w 9 61 5 ⟨T.toArray⟩ (by kernel_rfl) (by kernel_rfl) (by kernel_rfl)
  have hs : (⟨T.toArray⟩ : ByteArray).size = T.length := by simp [ByteArray.size]
  refine ⟨_, _, by rw [hs] at h; exact h, grown_alloc (grown_drew (grown_refl _ _)) _, lt_of_heap (heap_alloc_new w.drew _), w.heap.size, _, _, rfl, heap_alloc_new w.drew _, ?_⟩
  simp [bytesRow, bv]

def faS (t : Nat) : Bool := t == 18 || t == 19 || t == 20 || t == 21 || t == 22 || t == 23 || t == 24 || t == 25 || t == 26 || t == 27 || t == 28 || t == 29 || t == 30 || t == 31
def faDie (_ : Nat) : Nat := 99
def faOwn (_ : Nat) : Bool := false
def faAl (_ : Nat) : Bool := false
def faF (u5 : Value) (ad : Addr) (n c k m : Nat) (z T : List UInt8) : Nat → Value → World → Prop
  | 0 => fun v _ => v = u5
  | 1 => fun v _ => v = .slice (some ad) n c
  | 2 => fun v _ => v = .int .i64 (k : Int)
  | 3 => fun v _ => v = .pointer (some (ad.add k))
  | 4 => fun v _ => v = .string ⟨z.toArray⟩
  | 5 => fun v _ => v = .slice (some ad) n c
  | 6 => fun v _ => v = .int .i64 (k : Int)
  | 7 => fun v _ => v = .pointer (some (ad.add k))
  | 8 => fun v _ => v = .string ⟨z.toArray⟩
  | 9 => fun v _ => v = .int .i64 ((⟨z.toArray⟩ : ByteArray).size : Int)
  | 10 => fun v _ => v = .int .i64 (m : Int)
  | 11 => fun v _ => v = .string ⟨T.toArray⟩
  | 12 => fun v w => ∃ p : Part, v = pv p ∧ p.2.1 = T ∧ PartB w p
  | 13 => fun v w => ∃ (p : Part) (b : Nat), v = .slice (some ⟨b, 0, none⟩) 1 1 ∧ p.2.1 = T ∧ PartB w p ∧ RdAt w (some ⟨b, 0, none⟩) [pv p]
  | _ => fun _ _ => True
theorem faF_lasts (u5 : Value) (ad : Addr) (n c k m : Nat) (z T : List UInt8) : ∀ kq, LastsK faAl true kq (faF u5 ad n c k m z T kq)
  | 0 => LastsK.val _
  | 1 => LastsK.val _
  | 2 => LastsK.val _
  | 3 => LastsK.val _
  | 4 => LastsK.val _
  | 5 => LastsK.val _
  | 6 => LastsK.val _
  | 7 => LastsK.val _
  | 8 => LastsK.val _
  | 9 => LastsK.val _
  | 10 => LastsK.val _
  | 11 => LastsK.val _
  | 12 => LastsK.calm fun _ _ _ ⟨p, h1, h2, h3⟩ hg => ⟨p, h1, h2, h3.kept hg⟩
  | 13 => LastsK.calm fun _ _ _ ⟨p, b, h1, h2, h3, h4⟩ hg => ⟨p, b, h1, h2, h3.kept hg, h4.kept hg⟩
  | _ + 14 => fun _ _ _ _ _ _ _ _ => trivial

def fbS (t : Nat) : Bool := t == 17 || t == 18 || t == 19 || t == 20 || t == 21 || t == 22 || t == 23 || t == 24
def fbDie (_ : Nat) : Nat := 99
def fbOwn (_ : Nat) : Bool := false
def fbAl (k : Nat) : Bool := k == 0 || k == 4
def fbF (k n g1 c1 g2 c2 : Nat) (X : List UInt8) : Nat → Value → World → Prop
  | 0 => fun v _ => v = .slice (some ⟨g1, 0, none⟩) n c1
  | 1 => fun v _ => v = .int .i64 (k : Int)
  | 2 => fun v _ => v = .pointer (some ⟨g1, k * 32, none⟩)
  | 3 => fun v _ => v = (.agg (X.map bv).toArray)
  | 4 => fun v _ => v = .slice (some ⟨g2, 0, none⟩) n c2
  | 5 => fun v _ => v = .int .i64 (k : Int)
  | 6 => fun v _ => v = .pointer (some ⟨g2, k * 32, none⟩)
  | 7 => fun v _ => v = (.agg (X.map bv).toArray)
  | _ => fun _ _ => True
theorem fbF_lasts (k n g1 c1 g2 c2 : Nat) (X : List UInt8) : ∀ kq, LastsB fbAl kq (fbF k n g1 c1 g2 c2 X kq)
  | 0 => LastsB.val _
  | 1 => LastsB.val _
  | 2 => LastsB.val _
  | 3 => LastsB.val _
  | 4 => LastsB.val _
  | 5 => LastsB.val _
  | 6 => LastsB.val _
  | 7 => LastsB.val _
  | _ + 8 => fun _ _ _ _ _ _ _ => trivial

set_option maxRecDepth 100000 in
/-- Same of two rows of hashes that read the same. -/
theorem SameP_any (A1 A2 : Option Addr) (n c1 c2 : Nat) (P : List UInt8) (hn : n ≤ 1000000) (hP : P.length = n * 32) (w : World) (h1 : RdB w A1 P) (h2 : RdB w A2 P) (hg1 : 0 < n → ∃ g, A1 = some ⟨g, 0, none⟩) (hg2 : 0 < n → ∃ g, A2 = some ⟨g, 0, none⟩) :
    Calls Tryd.prog 20 #[.slice A1 n c1, .slice A2 n c2] w fun e w' => e = .returned (.bool true) ∧ w.grownBy w' none := by
  have HP := Lib.hid hP
  clear hP
  go_enter Tryd.func20, Tryd.ntmps20
  go_wp2
  go_loopw [5] (fun i wz => ∃ k : Nat, k ≤ n ∧ i = .int .i64 (k : Int) ∧ w.grownBy wz none) (fun i _ => n - (intOf i).toNat)
  case atStart => exact ⟨0, by omega, rfl, grown_refl _ _⟩
  case round =>
    obtain ⟨k, hkl, rfl, hgz⟩ := hrel
    by_cases hlt : k < n
    · have hlt' : (k : Int) < (n : Int) := by omega
      obtain ⟨g1, rfl⟩ := hg1 (by omega)
      obtain ⟨g2, rfl⟩ := hg2 (by omega)
      have hra := fun w' (h : wr.grownBy w' none) => range_at (h1.kept (grown_same hgz h)) HP.out hlt
      have hrb := fun w' (h : wr.grownBy w' none) => range_at (h2.kept (grown_same hgz h)) HP.out hlt
      obtain ⟨X, hX⟩ : ∃ X, X = (P.drop (k * 32)).take 32 := ⟨_, rfl⟩
      have hXl : Hid (X.length = 32) := by show _ = _; rw [hX, List.length_take, List.length_drop, HP.out]; omega
      rw [← hX] at hra hrb
      have hne : ∀ w, (binOp .neq 44 (.agg (X.map bv).toArray) (.agg (X.map bv).toArray)).run Tryd.prog w = .ok (.bool false) w := fun w => by
        rw [neq_hash X X hXl.out hXl.out w, beq_self_eq_true]; rfl
      clear hX hg1 hg2 h1 h2
      go_wp2_with fail
      refine wp_region_gb (al := fbAl) 8 (N := 26) (S := fbS) (die := fbDie) (own := fbOwn) (F := fbF k n g1 c1 g2 c2 X) (by kernel_rfl) (Nat.le_of_ble_eq_true (by kernel_rfl)) (fun _ => by kernel_rfl) (fun _ => by kernel_rfl) (by kernel_rfl) (by kernel_rfl) (Nat.le_of_ble_eq_true (by kernel_rfl)) (fbF_lasts k n g1 c1 g2 c2 X) ?_ ?_
      · intro i o L' a w K hi ho hg hLi hout hpre houter hitem h1 h2 h3
        have hcases : i = 0 ∨ i = 1 ∨ i = 2 ∨ i = 3 ∨ i = 4 ∨ i = 5 ∨ i = 6 ∨ i = 7 := by omega
        rcases hcases with rfl | rfl | rfl | rfl | rfl | rfl | rfl | rfl
        · cases (show some _ = some o from ho)
          exact ⟨rfl, wp_move rfl (h1 ⟨_, rfl⟩ _ _ (grown_refl _ none) (houter _ rfl) (by rw [houter _ rfl]; exact nobl rfl) (by rw [houter _ rfl]; exact FreshB.none rfl))⟩
        · cases (show some _ = some o from ho)
          exact ⟨rfl, wp_move rfl (h1 ⟨_, rfl⟩ _ _ (grown_refl _ none) (houter _ rfl) (by rw [houter _ rfl]; exact nobl rfl) (by rw [houter _ rfl]; exact FreshB.none rfl))⟩
        · cases (show some _ = some o from ho)
          exact ⟨rfl, wp_index rfl (hitem 0 (by decide) ⟨hpre 0 rfl, hout _ (by decide)⟩) (hitem 1 (by decide) ⟨hpre 1 rfl, hout _ (by decide)⟩) (index_hs _ _ _ _ hlt _) (h1 ⟨_, rfl⟩ _ _ (grown_refl _ none) rfl (nobl rfl) (FreshB.none rfl))⟩
        · cases (show some _ = some o from ho)
          exact ⟨rfl, wp_load_mid 44 _ rfl g1 (k * 32) (hitem 2 (by decide) ⟨hpre 2 rfl, hout _ (by decide)⟩) (X.map bv) _ (hra w hg) Tryd.underlying44 rfl (info_hash _ hXl.out) (h1 ⟨_, rfl⟩ _ _ (grown_refl _ none) rfl (nobl (blocks_bytes _)) (FreshB.none (blocks_bytes _)))⟩
        · cases (show some _ = some o from ho)
          exact ⟨rfl, wp_move rfl (h1 ⟨_, rfl⟩ _ _ (grown_refl _ none) (houter _ rfl) (by rw [houter _ rfl]; exact nobl rfl) (by rw [houter _ rfl]; exact FreshB.none rfl))⟩
        · cases (show some _ = some o from ho)
          exact ⟨rfl, wp_move rfl (h1 ⟨_, rfl⟩ _ _ (grown_refl _ none) (houter _ rfl) (by rw [houter _ rfl]; exact nobl rfl) (by rw [houter _ rfl]; exact FreshB.none rfl))⟩
        · cases (show some _ = some o from ho)
          exact ⟨rfl, wp_index rfl (hitem 4 (by decide) ⟨hpre 4 rfl, hout _ (by decide)⟩) (hitem 5 (by decide) ⟨hpre 5 rfl, hout _ (by decide)⟩) (index_hs _ _ _ _ hlt _) (h1 ⟨_, rfl⟩ _ _ (grown_refl _ none) rfl (nobl rfl) (FreshB.none rfl))⟩
        · cases (show some _ = some o from ho)
          exact ⟨rfl, wp_load_mid 44 _ rfl g2 (k * 32) (hitem 6 (by decide) ⟨hpre 6 rfl, hout _ (by decide)⟩) (X.map bv) _ (hrb w hg) Tryd.underlying44 rfl (info_hash _ hXl.out) (h1 ⟨_, rfl⟩ _ _ (grown_refl _ none) rfl (nobl (blocks_bytes _)) (FreshB.none (blocks_bytes _)))⟩
      · intro a wT hgT hend hap ha
        obtain ⟨f, hf⟩ : ∃ f : Nat → Value, f = fun t => a.tmps.getD t undef := ⟨_, rfl⟩
        have s20 : f 20 = (.agg (X.map bv).toArray) := by rw [hf]; exact (hend 3 (by decide) (by decide)).1
        have s24 : f 24 = (.agg (X.map bv).toArray) := by rw [hf]; exact (hend 7 (by decide) (by decide)).1
        rw [← hf] at ha
        clear hend hap
        clear hf
        subst ha
        simp only [fill, fbS, Nat.reduceAdd, Nat.reduceBEq, Bool.or_false, Bool.or_true, cond_true, cond_false, List.drop_succ_cons, List.drop_zero, s20, s24]
        clear s20 s24
        go_wp2
        go_roundw
        case rel => exact ⟨k + 1, by omega, by go_num, grown_same hgz hgT⟩
        case measure => simp [intOf]; omega
    · have hlt' : ¬ (k : Int) < (n : Int) := by omega
      go_wp2
      go_ret
      exact ⟨rfl, hgz⟩
end Go.Proofs.YtpeepiboocdnaaaDoor

namespace Go.Proofs.YtpeepiboocdnaaaDoor
open Go.RowKit

theorem geq_i64 (x y : Int) (h : y ≤ x) (w : World) : (binOp .geq 3 (.int .i64 x) (.int .i64 y)).run Tryd.prog w = .ok (.bool true) w := by
  have e : (binOp .geq 3 (.int .i64 x) (.int .i64 y)).run Tryd.prog w = .ok (.bool (decide (x ≥ y))) w := by kernel_rfl
  rw [e, decide_eq_true h]
theorem leq_i64 (x y : Int) (h : x ≤ y) (w : World) : (binOp .leq 3 (.int .i64 x) (.int .i64 y)).run Tryd.prog w = .ok (.bool true) w := by
  have e : (binOp .leq 3 (.int .i64 x) (.int .i64 y)).run Tryd.prog w = .ok (.bool (decide (x ≤ y))) w := by kernel_rfl
  rw [e, decide_eq_true h]
theorem eqlI_true (x y : Int) (h : x = y) (w : World) : (binOp .eql 3 (.int .i64 x) (.int .i64 y)).run Tryd.prog w = .ok (.bool true) w := eql_i64 x y w h
theorem guard_geq (x y : Operand) (xv yv : Value) (w : World) : (eqGuard .geq 3 x y xv yv).run Tryd.prog w = .ok () w := by kernel_rfl
theorem guard_leq (x y : Operand) (xv yv : Value) (w : World) : (eqGuard .leq 3 x y xv yv).run Tryd.prog w = .ok () w := by kernel_rfl
theorem guard_boolL (x y : Operand) (b d : Bool) (w : World) : (eqGuard .eql 4 x y (.bool b) (.bool d)).run Tryd.prog w = .ok () w := by cases b <;> cases d <;> kernel_rfl
theorem eqB_same (b : Bool) (w : World) : (binOp .eql 4 (.bool b) (.bool b)).run Tryd.prog w = .ok (.bool true) w := by cases b <;> kernel_rfl
theorem eqlH_same (X : List UInt8) (h : X.length = 32) (w : World) : (binOp .eql 44 (.agg (X.map bv).toArray) (.agg (X.map bv).toArray)).run Tryd.prog w = .ok (.bool true) w := eqlH_true X h w
theorem calls_grown {f : FuncId} {args : Array Value} {w : World} {r : Value} (h : Calls Tryd.prog f args w fun e w' => e = .returned r ∧ w' = w) : Calls Tryd.prog f args w fun e w' => e = .returned r ∧ w.grownBy w' none :=
  h.mono fun e w' h => ⟨h.1, by rw [h.2]; exact grown_refl _ _⟩

theorem halfN_2 : halfN 2 = 1 := halfN_eq (m := 0) (by decide) (by decide)
theorem halfN_3 : halfN 3 = 2 := halfN_eq (m := 1) (by decide) (by decide)
theorem depthN_0_2 : depthN 0 2 = 1 := by rw [depthN_l (by decide) (by rw [halfN_2]; decide), halfN_2, depthN_1 (by decide)]
theorem depthN_0_3 : depthN 0 3 = 2 := by rw [depthN_l (by decide) (by rw [halfN_3]; decide), halfN_3, depthN_0_2]
theorem depthN_2_3 : depthN 2 3 = 1 := by rw [depthN_r (by decide) (by rw [halfN_3]; decide), halfN_3, depthN_1 (by decide)]

def gaS (t : Nat) : Bool := t == 0 || t == 17 || t == 18 || t == 19 || t == 20 || t == 21 || t == 22 || t == 23 || t == 24 || t == 25 || t == 26 || t == 27 || t == 28 || t == 29 || t == 30 || t == 31 || t == 32 || t == 33 || t == 34 || t == 35 || t == 36 || t == 37 || t == 38 || t == 39 || t == 40 || t == 41 || t == 42
def gaDie (_ : Nat) : Nat := 99
def gaOwn (k : Nat) : Bool := k == 5
def gaAl (k : Nat) : Bool := k == 0 || k == 4 || k == 18
def gaF (gl gp cp : Nat) (X P0 : List UInt8) : Nat → Value → World → Prop
  | 0 => fun v _ => v = .slice (some ⟨gp, 0, none⟩) 1 cp
  | 1 => fun v _ => v = .int .i64 ((1 : Nat) : Int)
  | 2 => fun v _ => v = .bool true
  | 3 => fun v _ => v = .bool true
  | 4 => fun v _ => v = .slice (some ⟨gl, 0, none⟩) 3 3
  | 5 => fun v w => OwnHs w v P0 2
  | 6 => fun v _ => v = .int .i64 ((2 : Nat) : Int)
  | 7 => fun v _ => v = .bool true
  | 8 => fun v _ => v = .bool true
  | 9 => fun v _ => v = .bool true
  | 10 => fun v _ => v = .int .i64 5
  | 11 => fun v _ => v = .bool true
  | 12 => fun v _ => v = .bool true
  | 13 => fun v _ => v = .bool true
  | 14 => fun v _ => v = .bool true
  | 15 => fun v _ => v = .bool true
  | 16 => fun v _ => v = .bool true
  | 17 => fun v _ => v = (.agg (X.map bv).toArray)
  | 18 => fun v _ => v = .slice (some ⟨gl, 0, none⟩) 3 3
  | 19 => fun v _ => v = (.agg (X.map bv).toArray)
  | 20 => fun v _ => v = .bool true
  | 21 => fun v _ => v = .bool true
  | 22 => fun v _ => v = .bool true
  | 23 => fun v _ => v = .int .i64 2
  | 24 => fun v _ => v = .bool true
  | 25 => fun v _ => v = .bool true
  | 26 => fun v _ => v = .bool true
  | _ => fun _ _ => True
theorem gaF_lasts (gl gp cp : Nat) (X P0 : List UInt8) : ∀ kq, LastsB gaAl kq (gaF gl gp cp X P0 kq)
  | 0 => LastsB.val _
  | 1 => LastsB.val _
  | 2 => LastsB.val _
  | 3 => LastsB.val _
  | 4 => LastsB.val _
  | 5 => LastsB.ownH rfl _ _
  | 6 => LastsB.val _
  | 7 => LastsB.val _
  | 8 => LastsB.val _
  | 9 => LastsB.val _
  | 10 => LastsB.val _
  | 11 => LastsB.val _
  | 12 => LastsB.val _
  | 13 => LastsB.val _
  | 14 => LastsB.val _
  | 15 => LastsB.val _
  | 16 => LastsB.val _
  | 17 => LastsB.val _
  | 18 => LastsB.val _
  | 19 => LastsB.val _
  | 20 => LastsB.val _
  | 21 => LastsB.val _
  | 22 => LastsB.val _
  | 23 => LastsB.val _
  | 24 => LastsB.val _
  | 25 => LastsB.val _
  | 26 => LastsB.val _
  | _ + 27 => fun _ _ _ _ _ _ _ => trivial

end Go.Proofs.YtpeepiboocdnaaaDoor

namespace Go.Proofs.YtpeepiboocdnaaaDoor
open Go.RowKit

/-- 'append(v, x...)': v a row of hashes of the call's own, x whatever reads so. -/
theorem wpList_appHr {ops : Array Oper} {rest : List Oper} {o : Oper} {a : Act} {w : World} {Q : Exit → Act → World → Prop} (hgd : o.guard = none) (s x : Operand)
    (ho : o.op = .call { callee := .builtin .append, args := #[s, x], argTypes := #[39, 39] })
    {v : Value} {l : List UInt8} {n : Nat} (hv : a.eval s = v) (hown : OwnHs w v l n) {A : Option Addr} {m c : Nat} {news : List UInt8} (hx : a.eval x = .slice A m c) (hr : RdB w A news) (hl : news.length = m * 32) (hb : n + m ≤ 1000000)
    (h : ∀ v' w', OwnHs w' v' (l ++ news) (n + m) → Grew w w' v v' → wpList Tryd.prog ops Q rest (a.put o.dst v') w') : wpList Tryd.prog ops Q (o :: rest) a w := by
  refine wpList_plain hgd fun K hK => ?_
  rcases Nat.eq_zero_or_pos m with rfl | hm
  · have hP0 : news = [] := List.eq_nil_of_length_eq_zero (by omega)
    subst hP0
    obtain ⟨i, hi, -, -, -⟩ := info_parts info_hashrow
    obtain ⟨base1, hb1, hown1⟩ := hown
    have hrun := run_append_empty (P := Tryd.prog) w (ty := o.type) Tryd.underlying39 hi hown1 A c
    unfold Oper.wp execOp
    simp only [ho, resolve, invoke, builtin, Sem.run_bind, Sem.run_pure, Result.andThen_ok, List.map_toArray, List.map_cons, List.map_nil, hv, hx, hrun]
    exact hK _ _ (h v w (by rw [List.append_nil]; exact ⟨base1, hb1, hown1⟩) (Grew.refl w v))
  · obtain ⟨ad, rfl, -⟩ := RdB.get hr (k := 0) (by omega)
    exact wp_appH ho hv hown hx hr hl hm hb fun v' w' h1 h2 => hK _ _ (h v' w' h1 h2)
/-- A row of hashes of the call's own as a slice. -/
theorem OwnHs.form {w : World} {v : Value} {P : List UInt8} {d : Nat} (h : OwnHs w v P d) : ∃ A c, v = .slice A d c ∧ d ≤ c ∧ RdB w A P ∧ (d = 0 ∨ ∃ g, A = some ⟨g, 0, none⟩) ∧ (0 < d → ∃ g, A = some ⟨g, 0, none⟩) := by
  rcases Nat.eq_zero_or_pos d with rfl | hd
  · have hP0 : P = [] := List.eq_nil_of_length_eq_zero (by have := h.len; omega)
    subst hP0
    obtain ⟨base, hb, h⟩ := h
    obtain ⟨A, c, rfl, h1, _⟩ := own_slice h
    exact ⟨A, c, rfl, h1, RdAt.nil, .inl rfl, fun h => absurd h (by omega)⟩
  · obtain ⟨g, c, rfl, h1, _, hr⟩ := h.slice hd
    exact ⟨_, c, rfl, h1, hr, .inr ⟨g, rfl⟩, fun _ => ⟨g, rfl⟩⟩
theorem Within_m1 (n hi : Int) (h1 : -1 ≤ hi) (h2 : hi ≤ 1000000) : ∃ x : Int, -1 ≤ x ∧ x ≤ hi ∧ ∀ w, Calls Tryd.prog 13 #[.int .i64 n, .int .i64 (-1), .int .i64 hi] w fun e w' => e = .returned (.int .i64 x) ∧ w = w' := by
  have hb := within_le (n := n) (lo := -1) (hi := hi) h1
  refine ⟨within n (-1) hi, hb.1, hb.2, fun w => ?_⟩
  obtain ⟨e1, e2, e3, e4⟩ := tmod_emod n (hi - (-1) + 1) (by omega)
  rw [show hi - (-1) + 1 = hi + 2 by omega] at e1 e2 e3 e4
  have hw : within n (-1) hi = -1 + n % (hi + 2) := by unfold within; rw [show hi - (-1) + 1 = hi + 2 by omega]
  have HW := Lib.hid hw
  clear hb hw
  by_cases hneg : n.tmod (hi + 2) < 0
  · have hE := Lib.hid (e2 hneg)
    clear e1 e2
    have e5 : hi - -1 + 1 = hi + 2 := by omega
    have e6 : hi - -1 = hi + 1 := by omega
    have e7 : hi + 1 + 1 = hi + 2 := by omega
    go_enter Tryd.func13, Tryd.ntmps13
    go_wp2
    go_ret
    exact ⟨ret_int (by rw [HW.out, hE.out]; omega), rfl⟩
  · have hE := Lib.hid (e1 (by omega))
    clear e1 e2
    have e5 : hi - -1 + 1 = hi + 2 := by omega
    have e6 : hi - -1 = hi + 1 := by omega
    have e7 : hi + 1 + 1 = hi + 2 := by omega
    go_enter Tryd.func13, Tryd.ntmps13
    go_wp2
    go_ret
    exact ⟨ret_int (by rw [HW.out, hE.out]), rfl⟩
/-- '[]byte(const)', a leaf of four bytes. -/
theorem wpList_leaf {ops : Array Oper} {rest : List Oper} {o : Oper} {a : Act} {w : World} {Q : Exit → Act → World → Prop} (hgd : o.guard = none) (x : Operand) (ho : o.op = .convert 61 61 x) (hx : a.eval x = .slice (some ⟨w.heap.size, 0, none⟩) 4 4)
    (h : ∀ w', w.grownBy w' none → RdB w' (some ⟨w.heap.size, 0, none⟩) [108, 101, 97, 102] → wpList Tryd.prog ops Q rest (a.put o.dst (.slice (some ⟨w.heap.size, 0, none⟩) 4 4)) w') : wpList Tryd.prog ops Q (o :: rest) a (w.alloc (.cells #[.int .u8 108, .int .u8 101, .int .u8 97, .int .u8 102] 5)) := by
  refine wpList_plain hgd fun K hK => ?_
  obtain ⟨w', hrun, hg, hb⟩ := run_conv (w.alloc (.cells #[.int .u8 108, .int .u8 101, .int .u8 97, .int .u8 102] 5)) w.heap.size _ 4 4 (heap_alloc_new _ _)
  refine wp_conv ho hx hrun (hK _ _ (h w' (grown_trans (grown_alloc (grown_refl _ _) _) hg (.inr fun g e => by cases e; exact Nat.le_refl _)) ?_))
  exact rd_row (cs := [_, _, _, _]) hb
end Go.Proofs.YtpeepiboocdnaaaDoor
