/- KvPlays. KvRanges. KvOrder. -/
import Derived.Test.YtpeepiboocdnaaaDoorKO
import Derived.Test.YtpeepiboocdnaaaDoorKN
import Derived.Deep.DeepCutAuto
import Derived.Test.YtpeepiboocdnaaaDoorKG
namespace Go.Proofs.YtpeepiboocdnaaaDoor
open Go.RowKit

theorem rises_set {ps : List Kv} (h : Rises ps) (p : Kv) : Rises (setL ps p) := by
  refine List.pairwise_append.2 ⟨List.Pairwise.filter _ h, List.pairwise_cons.2 ⟨fun q hq => (List.mem_filter.1 hq).2, List.Pairwise.filter _ h⟩, fun a ha b hb => ?_⟩
  have h1 := (List.mem_filter.1 ha).2
  rcases List.mem_cons.1 hb with rfl | hb
  · exact h1
  · exact kl_trans h1 (List.mem_filter.1 hb).2
theorem rises_del {ps : List Kv} (h : Rises ps) (k : List UInt8) : Rises (delL ps k) := by
  rw [← notL_del h]
  exact List.Pairwise.filter _ h
theorem right_set {ps : List Kv} (h : rightL ps = true) {p : Kv} (hp : okL ps p = true) : rightL (setL ps p) = true := by
  obtain ⟨h1, h2, h3⟩ := (right_iff ps).1 h
  unfold okL at hp
  simp only [Bool.and_eq_true, decide_eq_true_eq] at hp
  refine (right_iff _).2 ⟨hp.2, fun q hq => ?_, rises_set h3 p⟩
  rcases List.mem_append.1 hq with hq | hq
  · exact h2 q (List.mem_filter.1 hq).1
  · rcases List.mem_cons.1 hq with rfl | hq
    · exact hp.1
    · exact h2 q (List.mem_filter.1 hq).1
theorem right_del {ps : List Kv} (h : rightL ps = true) (k : List UInt8) : rightL (delL ps k) = true := by
  obtain ⟨h1, h2, h3⟩ := (right_iff ps).1 h
  rw [← notL_del h3]
  exact (right_iff _).2 ⟨Nat.le_trans (List.length_filter_le ..) h1, fun q hq => h2 q (List.mem_filter.1 hq).1, List.Pairwise.filter _ h3⟩
theorem getV_none {ps : List Kv} {k : List UInt8} (h : hasK ps k = false) : getV ps k = [] := by
  unfold hasK at h
  unfold getV
  cases hq : atL ps k with
  | nil => rfl
  | cons a l => rw [hq] at h; cases h
theorem getV_at {ps : List Kv} (h : Rises ps) {k : List UInt8} (hl : lowN ps k < ps.length) (hz : (ps[lowN ps k]).1 = k) : getV ps k = (ps[lowN ps k]).2 := by
  have hh : hasK ps k = true := by rw [has_at h k hl, hz]; simp
  have e := drop_low h k
  rw [List.drop_eq_getElem_cons hl] at e
  unfold hasK at hh
  unfold getV
  cases hq : atL ps k with
  | nil => rw [hq] at hh; cases hh
  | cons a l => rw [hq, List.cons_append] at e; rw [(List.cons.inj e).1]
theorem all_kv (z : Kv) : (#[Value.string ⟨z.1.toArray⟩, Value.string ⟨z.2.toArray⟩] : Array Value).all (·.oneCell') = true := by simp [Value.oneCell']
theorem at_setRow {w : World} {g : Nat} {z : Kv} {t : TypeId} {old : Array Value} (h : w.heap[g]? = some (.cells old t (0, 0))) : AtQ (w.setRow g #[Value.string ⟨z.1.toArray⟩, Value.string ⟨z.2.toArray⟩]) ⟨g, 0, none⟩ z := by
  have h2 := setRow_heap w g old #[Value.string ⟨z.1.toArray⟩, Value.string ⟨z.2.toArray⟩] t (0, 0) h
  exact ⟨by rw [cell_of_row _ _ 0 _ _ _ h2]; rfl, by show World.cell? _ ⟨g, 0 + 1, none⟩ = _; rw [cell_of_row _ _ _ _ _ _ h2]; rfl⟩

end Go.Proofs.YtpeepiboocdnaaaDoor

namespace Go.Proofs.YtpeepiboocdnaaaDoor
open Go.RowKit

theorem guard_neB (x y : Operand) (xv yv : Bool) (w : World) : (eqGuard .neq 4 x y (.bool xv) (.bool yv)).run Tryd.prog w = .ok () w := by kernel_rfl
theorem neB_same (b : Bool) (w : World) : (binOp .neq 4 (.bool b) (.bool b)).run Tryd.prog w = .ok (.bool false) w := by
  have h : (binOp .neq 4 (.bool b) (.bool b)).run Tryd.prog w = .ok (.bool (b != b)) w := by cases b <;> kernel_rfl
  rw [h]; simp
theorem eqI_nat (i j : Nat) (w : World) : (binOp .eql 3 (.int .i64 (i : Int)) (.int .i64 (j : Int))).run Tryd.prog w = .ok (.bool (decide (i = j))) w := by
  have h : (binOp .eql 3 (.int .i64 (i : Int)) (.int .i64 (j : Int))).run Tryd.prog w = .ok (.bool ((i : Int) == (j : Int))) w := by kernel_rfl
  rw [h]
  congr 2
  by_cases e : i = j
  · subst e; simp
  · have : ¬ (i : Int) = (j : Int) := by omega
    simp [e, this]
theorem Leaf_new (p : Kv) (w : World) (h1 : p.1.length ≤ 100000) (h2 : p.2.length ≤ 100000) : Calls Tryd.prog 35 #[.agg #[.string ⟨p.1.toArray⟩, .string ⟨p.2.toArray⟩]] w fun e w' => ∃ v', e = .returned v' ∧ OwnB w' v' (leafL p) ∧ w.grownBy w' none ∧ (∀ g ∈ blocksOf v', w.heap.size ≤ g) ∧ (∀ g ∈ blocksOf v', g < w'.heap.size) := by
  refine (Leaf_any p w h1 h2).mono ?_
  rintro e w' ⟨v', rfl, ho, hg, hn⟩
  exact ⟨v', rfl, ho, hg, fun g hgm => hn g (mem_own ho g hgm), own_lt ho⟩
theorem wpList_appQ_g {ops : Array Oper} {rest : List Oper} {o : Oper} {a : Act} {w : World} {Q : Exit → Act → World → Prop} (hw : Region.wanted o (yielded ops a.tmps) = true) (s x : Operand)
    (ho : o.op = .call { callee := .builtin .append, args := #[s, x], argTypes := #[24, 24] })
    {v : Value} {ps : List Kv} (hv : a.eval s = v) (hown : OwnQ w v ps) {A : Option Addr} {m c : Nat} {qs : List Kv} (hx : a.eval x = .slice A m c) (hm : m = qs.length) (hr : RdQ w A qs) (hb : ps.length + m ≤ 1000000000)
    (h : ∀ v' w', OwnQ w' v' (ps ++ qs) → Grew w w' v v' → wpList Tryd.prog ops Q rest (a.put o.dst v') w') : wpList Tryd.prog ops Q (o :: rest) a w := by
  refine wpList_step fun K hK => ?_
  simp only [hw, if_true]
  exact wp_appQ ho hv hown hx hm hr hb fun v' w' h1 h2 => hK _ _ (h v' w' h1 h2)
/-- A row of the call's own since that world. -/
def Since (w0 w : World) (v : Value) : Prop := w0.grownBy w none ∧ ∀ g, v.ownBlock = some g → w0.heap.size ≤ g
theorem Since.lit (w : World) (o : Obj) (n c : Nat) : Since w (w.alloc o) (.slice (some ⟨w.heap.size, 0, none⟩) n c) := ⟨grown_alloc (grown_refl _ _) _, fun g e => by cases e; exact Nat.le_refl _⟩
theorem Since.kept {w0 w w' : World} {v : Value} (h : Since w0 w v) (hg : w.grownBy w' none) : Since w0 w' v := ⟨grown_none h.1 hg, h.2⟩
theorem Since.app {w0 w w' : World} {v v' : Value} (h : Since w0 w v) (hg : Grew w w' v v') : Since w0 w' v' := by
  refine ⟨grown_trans h.1 hg.1 (.inr h.2), fun g e => ?_⟩
  rcases hg.2 with e' | ⟨g', e', hle⟩
  · exact h.2 g (by rw [← e', e])
  · rw [e] at e'; injection e' with e'; exact Nat.le_trans h.1.size (by omega)
theorem SameQ_n (A1 A2 : Option Addr) (l1 l2 : List Kv) (n1 n2 c1 c2 : Nat) (w : World) (h1 : RdQ w A1 l1) (h2 : RdQ w A2 l2) (hm1 : l1.length ≤ 1000) (hm2 : l2.length ≤ 1000) (e1 : n1 = l1.length) (e2 : n2 = l2.length) (he : l1 = l2) :
    Calls Tryd.prog 32 #[.slice A1 n1 c1, .slice A2 n2 c2] w fun e w' => e = .returned (.bool true) ∧ w.grownBy w' none := by
  subst e1 e2 he
  refine (SameQ_any A1 A2 l1 l1 c1 c2 w h1 h2 (by omega) (by omega)).mono ?_
  rintro e w' ⟨rfl, hg⟩
  exact ⟨by simp, hg⟩
def kxS (t : Nat) : Bool := t == 108 || t == 109 || t == 110 || t == 111 || t == 112 || t == 113 || t == 114 || t == 115 || t == 116 || t == 117 || t == 118 || t == 119 || t == 120 || t == 121 || t == 122
def kxDie (_ : Nat) : Nat := 99
def kxOwn (k : Nat) : Bool := k == 4 || k == 9
def kxAl (k : Nat) : Bool := k == 0 || k == 5
def kxF (ad : Addr) (n cl i1 j1 : Nat) (y1 y2 : Kv) (bij : Bool) : Nat → Value → World → Prop
  | 0 => fun v _ => v = .slice (some ad) n cl
  | 1 => fun v _ => v = .int .i64 (i1 : Nat)
  | 2 => fun v _ => v = .pointer (some (ad.add (i1 * 2)))
  | 3 => fun v _ => v = (.agg #[.string ⟨(y1).1.toArray⟩, .string ⟨(y1).2.toArray⟩])
  | 4 => fun v w => OwnB w v (leafL y1)
  | 5 => fun v _ => v = .slice (some ad) n cl
  | 6 => fun v _ => v = .int .i64 (j1 : Nat)
  | 7 => fun v _ => v = .pointer (some (ad.add (j1 * 2)))
  | 8 => fun v _ => v = (.agg #[.string ⟨(y2).1.toArray⟩, .string ⟨(y2).2.toArray⟩])
  | 9 => fun v w => OwnB w v (leafL y2)
  | 10 => fun v _ => v = .bool bij
  | 11 => fun v _ => v = .int .i64 (i1 : Nat)
  | 12 => fun v _ => v = .int .i64 (j1 : Nat)
  | 13 => fun v _ => v = .bool bij
  | 14 => fun v _ => v = .bool false
  | _ => fun _ _ => True
theorem kxF_lasts (ad : Addr) (n cl i1 j1 : Nat) (y1 y2 : Kv) (bij : Bool) : ∀ kq, LastsB kxAl kq (kxF ad n cl i1 j1 y1 y2 bij kq)
  | 0 => LastsB.val _
  | 1 => LastsB.val _
  | 2 => LastsB.val _
  | 3 => LastsB.val _
  | 4 => LastsB.ownB rfl _
  | 5 => LastsB.val _
  | 6 => LastsB.val _
  | 7 => LastsB.val _
  | 8 => LastsB.val _
  | 9 => LastsB.ownB rfl _
  | 10 => LastsB.val _
  | 11 => LastsB.val _
  | 12 => LastsB.val _
  | 13 => LastsB.val _
  | 14 => LastsB.val _
  | _ + 15 => fun _ _ _ _ _ _ _ => trivial

end Go.Proofs.YtpeepiboocdnaaaDoor

namespace Go.Proofs.YtpeepiboocdnaaaDoor
open Go.RowKit

/-! ## The full row -/
def keyF (i : Nat) : List UInt8 := [107, UInt8.ofNat (97 + i / 26), UInt8.ofNat (97 + i % 26)]
def fullL (j : Nat) : List Kv := (List.range j).map fun i => (keyF i, [])
theorem full_step : ∀ i : Fin 30, okL (fullL i.val) (keyF i.val, []) = true ∧ setL (fullL i.val) (keyF i.val, []) = fullL (i.val + 1) := by decide +kernel
theorem full_no : ∀ i : Fin 32, 30 ≤ i.val → okL (fullL 30) (keyF i.val, []) = false := by decide +kernel
theorem full_rises : ∀ j : Fin 31, rightL (fullL j.val) = true := by decide +kernel
theorem full_new : ∀ i : Fin 30, okL (fullL 30) (keyF i.val, [110, 101, 119]) = true ∧ (setL (fullL 30) (keyF i.val, [110, 101, 119])).length = 30 := by decide +kernel
theorem fullL_len (j : Nat) : (fullL j).length = j := by simp [fullL]
theorem okL_of {ps : List Kv} {p : Kv} (h1 : 1 ≤ p.1.length) (h2 : p.1.length ≤ 16) (h3 : p.2.length ≤ 24) (h4 : (setL ps p).length ≤ 30) : okL ps p = true := by
  unfold okL mayQ
  simp [h1, h2, h3, h4]
theorem SameQ_m (A1 A2 : Option Addr) (l1 l2 : List Kv) (n1 n2 c1 c2 : Nat) (w : World) (h1 : RdQ w A1 l1) (h2 : RdQ w A2 l2) (hm1 : l1.length ≤ 1000) (hm2 : l2.length ≤ 1000) (e1 : n1 = l1.length) (e2 : n2 = l2.length) (he : l1 = l2) :
    Calls Tryd.prog 32 #[.slice A1 n1 c1, .slice A2 n2 c2] w fun e w' => e = .returned (.bool true) ∧ w.grownBy w' none := by
  subst e1 e2 he
  refine (SameQ_any A1 A2 l1 l1 c1 c2 w h1 h2 (by omega) (by omega)).mono ?_
  rintro e w' ⟨rfl, hg⟩
  exact ⟨by simp, hg⟩
def keyT (i : Nat) : List UInt8 := [UInt8.ofNat (97 + i / 26), UInt8.ofNat (97 + i % 26)]
theorem keyT_bv {i : Nat} (h : i < 32) : (#[Value.int .u8 (97 + (i : Int) / 26), Value.int .u8 (97 + (i : Int) % 26)] : Array Value).toList = (keyT i).map bv := by
  have h1 : (97 + (i : Int) / 26) = ((UInt8.ofNat (97 + i / 26)).toNat : Int) := by rw [UInt8.toNat_ofNat']; omega
  have h2 : (97 + (i : Int) % 26) = ((UInt8.ofNat (97 + i % 26)).toNat : Int) := by rw [UInt8.toNat_ofNat']; omega
  show [Value.int .u8 (97 + (i : Int) / 26), Value.int .u8 (97 + (i : Int) % 26)] = [bv _, bv _]
  unfold bv
  rw [← h1, ← h2]
theorem key_conv {i : Nat} (h : i < 32) (w : World) : (convert 61 9 (.slice (some ⟨w.heap.size, 0, none⟩) 2 2)).run Tryd.prog (w.alloc (.cells #[.int .u8 (97 + (i : Int) / 26), .int .u8 (97 + (i : Int) % 26)] 5)) = .ok (.string ⟨(keyT i).toArray⟩) (w.alloc (.cells #[.int .u8 (97 + (i : Int) / 26), .int .u8 (97 + (i : Int) % 26)] 5)) :=
  run_text (l := keyT i) _ 61 9 5 2 Tryd.underlying61 Tryd.underlying5 Tryd.underlying9 (rdB_new w _ _ _ (keyT_bv h))
theorem key_cat (i : Nat) : (⟨#[107]⟩ : ByteArray) ++ ⟨(keyT i).toArray⟩ = ⟨(keyF i).toArray⟩ := by
  apply ByteArray.ext
  simp [keyT, keyF]
def kvtS (t : Nat) : Bool := t == 46 || t == 47 || t == 48 || t == 49 || t == 50 || t == 51 || t == 52 || t == 53 || t == 54 || t == 55 || t == 56 || t == 57 || t == 58 || t == 59 || t == 60 || t == 61
def kvtDie (k : Nat) : Nat := if k = 0 then 6 else if k = 6 then 10 else if k = 10 then 15 else 99
def kvtOwn (k : Nat) : Bool := k == 0 || k == 5 || k == 6 || k == 10 || k == 15
def kvtAl (k : Nat) : Bool := k == 1 || k == 7 || k == 9 || k == 11 || k == 14
def kvtF (A B : Option Addr) (ad : Addr) (n c q n2 c2 : Nat) (tk dr : List Kv) (p : Kv) : Nat → Value → World → Prop
  | 0 => fun v w => OwnQ w v []
  | 1 => fun v _ => v = .slice A n c
  | 2 => fun v _ => v = .int .i64 (q : Nat)
  | 3 => fun v _ => v = .pointer (some (ad.add (q * 2)))
  | 4 => fun v _ => v = (.agg #[.string ⟨(p).1.toArray⟩, .string ⟨(p).2.toArray⟩])
  | 5 => QOne p
  | 6 => fun v w => OwnQ w v (([]) ++ ([p]))
  | 7 => fun v _ => v = .slice A n c
  | 8 => fun v _ => v = .int .i64 (q : Nat)
  | 9 => fun v _ => v = .slice A q c
  | 10 => fun v w => OwnQ w v ((([]) ++ ([p])) ++ (tk))
  | 11 => fun v _ => v = .slice A n c
  | 12 => fun v _ => v = .int .i64 (q : Nat)
  | 13 => fun v _ => v = .int .i64 ((q : Int) + 1)
  | 14 => fun v _ => v = .slice B n2 c2
  | 15 => fun v w => OwnQ w v (((([]) ++ ([p])) ++ (tk)) ++ (dr))
  | _ => fun _ _ => True
theorem kvtF_lasts (A B : Option Addr) (ad : Addr) (n c q n2 c2 : Nat) (tk dr : List Kv) (p : Kv) : ∀ kq, LastsB kvtAl kq (kvtF A B ad n c q n2 c2 tk dr p kq)
  | 0 => LastsB.ownQ rfl _
  | 1 => LastsB.val _
  | 2 => LastsB.val _
  | 3 => LastsB.val _
  | 4 => LastsB.val _
  | 5 => LastsB.qone rfl _
  | 6 => LastsB.ownQ rfl _
  | 7 => LastsB.val _
  | 8 => LastsB.val _
  | 9 => LastsB.val _
  | 10 => LastsB.ownQ rfl _
  | 11 => LastsB.val _
  | 12 => LastsB.val _
  | 13 => LastsB.val _
  | 14 => LastsB.val _
  | 15 => LastsB.ownQ rfl _
  | _ + 16 => fun _ _ _ _ _ _ _ => trivial

end Go.Proofs.YtpeepiboocdnaaaDoor
