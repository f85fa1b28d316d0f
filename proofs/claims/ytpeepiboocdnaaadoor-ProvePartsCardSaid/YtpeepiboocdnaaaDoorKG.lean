/- Chapter 3's runs. Two rows of hashes that are alike. Kinds of operations in a region whose order is drawn: bytes and hashes appended, slices of hashes, parts, structs built (what stage 3's laws share). Whose a signature is; the document's own. A region that draws its order, with operations left out by a guard, and values made of several that end there. Small laws for turned signatures: bits of a byte turned, rows of parts, operations left out. A region that draws its order: a head in any order, one store into a row from before, which late moves may come behind, and a tail in order. -/
import Derived.Test.YtpeepiboocdnaaaDoorKF
import Derived.Test.YtpeepiboocdnaaaDoorKA
import Derived.Deep.RegionHeld3
import Derived.Deep.Cut
namespace Go.Proofs.YtpeepiboocdnaaaDoor
open Go.RowKit

/-- A constant text as bytes: the block is marked, nothing else. -/
theorem run_conv (w : World) (g : Nat) (C : Array Value) (n c : Nat) (h : w.heap[g]? = some (.cells C 5 (0, 0))) :
    ∃ w', (convert 61 61 (.slice (some ⟨g, 0, none⟩) n c)).run Tryd.prog w = .ok (.slice (some ⟨g, 0, none⟩) n c) w' ∧ w.grownBy w' (some g) ∧ w'.heap[g]? = some (.cells C 5 (C.size, C.size + 1)) := by
  have hsh : w.shape? g = some (5, C.size) := by unfold World.shape?; rw [h]
  have hl : g < w.heap.size := (Array.getElem?_eq_some_iff.1 h).1
  refine ⟨w.freeze ⟨g, C.size, none⟩ 1, ?_, ?_, ?_⟩
  · simp [convert, run_underlying Tryd.underlying61, run_underlying Tryd.underlying5, markStringish, hsh]
  · unfold World.freeze
    rw [if_neg (by decide)]
    exact ⟨rfl, rfl, rfl, by simp, fun k hk hne => by
      show (w.heap.modify g _)[k]? = _
      have : g ≠ k := fun e => hne (by rw [e])
      rw [Array.getElem?_modify, if_neg this]⟩
  · unfold World.freeze
    rw [if_neg (by decide)]
    show (w.heap.modify g _)[g]? = _
    rw [Array.getElem?_modify, if_pos rfl, h]
    rfl
theorem wp_conv {P : Program} {o : Oper} {a : Act} {w w' : World} {K : Act → World → Prop} {Q : Exit → Act → World → Prop} {t u : TypeId} {x : Operand} {xv v : Value} (ho : o.op = .convert t u x) (hx : a.eval x = xv) (hrun : (convert t u xv).run P w = .ok v w') (h : K (a.put o.dst v) w') : Oper.wp P o a w K Q := by
  unfold Oper.wp execOp
  simp only [ho, hx, Sem.run_bind, hrun, Result.andThen_ok, Sem.run_pure]
  exact h
/-- A block of bytes of the call's own. -/
def LitB (l : List UInt8) (n : Nat) (v : Value) (w : World) : Prop := ∃ b, v = .slice (some ⟨b, 0, none⟩) n n ∧ w.heap[b]? = some (.cells (l.map bv).toArray 5 (0, 0))
def ConB (l : List UInt8) (n : Nat) (v : Value) (w : World) : Prop := ∃ b, v = .slice (some ⟨b, 0, none⟩) n n ∧ RdB w (some ⟨b, 0, none⟩) l
theorem LastsB.litB {al : Nat → Bool} {k : Nat} (ha : al k = false) (l : List UInt8) (n : Nat) : LastsB al k (LitB l n) := by
  rintro v w w' row ⟨b, rfl, h⟩ hg hne
  exact ⟨b, rfl, other_block h hg (hne b (by simp [bl, ha, blocksOf]))⟩
theorem LastsB.conB {al : Nat → Bool} {k : Nat} (ha : al k = false) (l : List UInt8) (n : Nat) : LastsB al k (ConB l n) := by
  rintro v w w' row ⟨b, rfl, h⟩ hg hne
  exact ⟨b, rfl, h.keep hg (fun ad e => by cases e; exact hne b (by simp [bl, ha, blocksOf]))⟩

def yaS (t : Nat) : Bool := t == 2 || t == 3 || t == 5 || t == 6 || t == 7 || t == 8 || t == 9 || t == 10
def yaDie (k : Nat) : Nat := if k = 3 then 4 else if k = 6 then 8 else 99
def yaOwn (k : Nat) : Bool := k == 3 || k == 4 || k == 6 || k == 7 || k == 8
def yaAl (k : Nat) : Bool := k == 6 || k == 7 || k == 8
end Go.Proofs.YtpeepiboocdnaaaDoor

namespace Go.Proofs.YtpeepiboocdnaaaDoor
open Go.RowKit

def shS (t : Nat) : Bool := t == 17 || t == 18 || t == 19 || t == 20 || t == 21 || t == 22 || t == 23 || t == 24
def shDie (_ : Nat) : Nat := 99
def shOwn (_ : Nat) : Bool := false
def shAl (_ : Nat) : Bool := false
def shF (k g1 c1 g2 c2 : Nat) (F : List UInt8) : Nat → Value → World → Prop
  | 0 => fun v _ => v = .slice (some ⟨g1, 0, none⟩) 32 c1
  | 1 => fun v _ => v = (.int .i64 (k : Int))
  | 2 => fun v _ => v = .pointer (some ⟨g1, k * 32, none⟩)
  | 3 => fun v _ => v = (.agg (F.map bv).toArray)
  | 4 => fun v _ => v = .slice (some ⟨g2, 0, none⟩) 32 c2
  | 5 => fun v _ => v = (.int .i64 (k : Int))
  | 6 => fun v _ => v = .pointer (some ⟨g2, k * 32, none⟩)
  | 7 => fun v _ => v = (.agg (F.map bv).toArray)
  | _ => fun _ _ => True
theorem shF_lasts (k g1 c1 g2 c2 : Nat) (F : List UInt8) : ∀ kq, LastsB shAl kq (shF k g1 c1 g2 c2 F kq)
  | 0 => LastsB.val _
  | 1 => LastsB.val _
  | 2 => LastsB.val _
  | 3 => LastsB.val _
  | 4 => LastsB.val _
  | 5 => LastsB.val _
  | 6 => LastsB.val _
  | 7 => LastsB.val _
  | _ + 8 => fun _ _ _ _ _ _ _ => trivial

set_option maxRecDepth 100000 in
set_option maxHeartbeats 1000000 in
theorem SameH_any (g1 c1 g2 c2 : Nat) (f : Nat → List UInt8) (hf : ∀ i, (f i).length = 32) (w : World) (h1 : RdB w (some ⟨g1, 0, none⟩) (partsF f 32)) (h2 : RdB w (some ⟨g2, 0, none⟩) (partsF f 32)) :
    Calls Tryd.prog 20 #[.slice (some ⟨g1, 0, none⟩) 32 c1, .slice (some ⟨g2, 0, none⟩) 32 c2] w fun e w' => e = .returned (.bool true) ∧ w.grownBy w' none := by
  have la1 := lt_of_part hf h1
  have la2 := lt_of_part hf h2
  go_enter Tryd.func20, Tryd.ntmps20
  go_wp2
  go_loopw [5] (fun i wz => ∃ k : Nat, k ≤ 32 ∧ i = .int .i64 k ∧ w.grownBy wz none) (fun i _ => 32 - (intOf i).toNat)
  case atStart => exact ⟨0, by omega, rfl, grown_refl _ _⟩
  case round =>
    obtain ⟨k, hkl, rfl, hgz⟩ := hrel
    by_cases hlt : k < 32
    · have hlt' : (k : Int) < 32 := by omega
      have hra := fun w' (h : wr.grownBy w' none) => range_part hf (h1.kept (grown_same hgz h)) hlt
      have hrb := fun w' (h : wr.grownBy w' none) => range_part hf (h2.kept (grown_same hgz h)) hlt
      have hF := hf k
      generalize f k = F at hra hrb hF
      have hFl := Lib.hid hF
      have hne : ∀ w, (binOp .neq 44 (.agg (F.map bv).toArray) (.agg (F.map bv).toArray)).run Tryd.prog w = .ok (.bool false) w := fun w => by
        rw [neq_hash F F hF hF w, beq_self_eq_true]; rfl
      clear hF
      have hlt1 : ∀ x ∈ blocksOf (.slice (some ⟨g1, 0, none⟩) 32 c1), x < wr.heap.size := fun x e => by have e' : x ∈ [g1] := e; rw [List.mem_singleton] at e'; subst e'; exact Nat.lt_of_lt_of_le la1 hgz.size
      have hlt2 : ∀ x ∈ blocksOf (.slice (some ⟨g2, 0, none⟩) 32 c2), x < wr.heap.size := fun x e => by have e' : x ∈ [g2] := e; rw [List.mem_singleton] at e'; subst e'; exact Nat.lt_of_lt_of_le la2 hgz.size
      go_wp2_with fail
      refine wp_region_gb (al := shAl) 8 (N := 26) (S := shS) (die := shDie) (own := shOwn) (F := shF k g1 c1 g2 c2 F) (by kernel_rfl) (Nat.le_of_ble_eq_true (by kernel_rfl)) (fun _ => by kernel_rfl) (fun _ => by kernel_rfl) (by kernel_rfl) (by kernel_rfl) (Nat.le_of_ble_eq_true (by kernel_rfl)) (shF_lasts k g1 c1 g2 c2 F) ?_ ?_
      · intro i o L' a w K hi ho hg hLi hout hpre houter hitem h1 h2 h3
        have hcases : i = 0 ∨ i = 1 ∨ i = 2 ∨ i = 3 ∨ i = 4 ∨ i = 5 ∨ i = 6 ∨ i = 7 := by omega
        rcases hcases with rfl | rfl | rfl | rfl | rfl | rfl | rfl | rfl
        · cases (show some _ = some o from ho)
          exact ⟨rfl, wp_move rfl (h1 ⟨_, rfl⟩ _ _ (grown_refl _ none) (houter _ rfl) (by rw [houter _ rfl]; exact fun g e => Nat.lt_of_lt_of_le (hlt1 g e) hg.size) (by rw [houter _ rfl]; exact FreshB.old rfl hlt1))⟩
        · cases (show some _ = some o from ho)
          exact ⟨rfl, wp_move rfl (h1 ⟨_, rfl⟩ _ _ (grown_refl _ none) (houter _ rfl) (by rw [houter _ rfl]; exact nobl rfl) (by rw [houter _ rfl]; exact FreshB.none rfl))⟩
        · cases (show some _ = some o from ho)
          exact ⟨rfl, wp_index rfl (hitem 0 (by decide) ⟨hpre 0 rfl, hout _ (by decide)⟩) (hitem 1 (by decide) ⟨hpre 1 rfl, hout _ (by decide)⟩) (index_hs _ _ _ _ hlt _) (h1 ⟨_, rfl⟩ _ _ (grown_refl _ none) rfl (nobl rfl) (FreshB.none rfl))⟩
        · cases (show some _ = some o from ho)
          exact ⟨rfl, wp_load_mid 44 _ rfl g1 (k * 32) (hitem 2 (by decide) ⟨hpre 2 rfl, hout _ (by decide)⟩) (F.map bv) _ (hra _ hg) Tryd.underlying44 rfl (info_hash _ hFl.out) (h1 ⟨_, rfl⟩ _ _ (grown_refl _ none) rfl (nobl (blocks_bytes _)) (FreshB.none (blocks_bytes _)))⟩
        · cases (show some _ = some o from ho)
          exact ⟨rfl, wp_move rfl (h1 ⟨_, rfl⟩ _ _ (grown_refl _ none) (houter _ rfl) (by rw [houter _ rfl]; exact fun g e => Nat.lt_of_lt_of_le (hlt2 g e) hg.size) (by rw [houter _ rfl]; exact FreshB.old rfl hlt2))⟩
        · cases (show some _ = some o from ho)
          exact ⟨rfl, wp_move rfl (h1 ⟨_, rfl⟩ _ _ (grown_refl _ none) (houter _ rfl) (by rw [houter _ rfl]; exact nobl rfl) (by rw [houter _ rfl]; exact FreshB.none rfl))⟩
        · cases (show some _ = some o from ho)
          exact ⟨rfl, wp_index rfl (hitem 4 (by decide) ⟨hpre 4 rfl, hout _ (by decide)⟩) (hitem 5 (by decide) ⟨hpre 5 rfl, hout _ (by decide)⟩) (index_hs _ _ _ _ hlt _) (h1 ⟨_, rfl⟩ _ _ (grown_refl _ none) rfl (nobl rfl) (FreshB.none rfl))⟩
        · cases (show some _ = some o from ho)
          exact ⟨rfl, wp_load_mid 44 _ rfl g2 (k * 32) (hitem 6 (by decide) ⟨hpre 6 rfl, hout _ (by decide)⟩) (F.map bv) _ (hrb _ hg) Tryd.underlying44 rfl (info_hash _ hFl.out) (h1 ⟨_, rfl⟩ _ _ (grown_refl _ none) rfl (nobl (blocks_bytes _)) (FreshB.none (blocks_bytes _)))⟩
      · intro a wT hgT hend hap ha
        obtain ⟨f, hf⟩ : ∃ f : Nat → Value, f = fun t => a.tmps.getD t undef := ⟨_, rfl⟩
        have s20 : f 20 = (.agg (F.map bv).toArray) := by rw [hf]; exact (hend 3 (by decide) (by decide)).1
        have s24 : f 24 = (.agg (F.map bv).toArray) := by rw [hf]; exact (hend 7 (by decide) (by decide)).1
        rw [← hf] at ha
        clear hend hap
        clear hf
        subst ha
        simp only [fill, shS, Nat.reduceAdd, Nat.reduceBEq, Bool.or_false, Bool.or_true, cond_true, cond_false, List.drop_succ_cons, List.drop_zero, s20, s24]
        clear s20 s24
        go_wp2
        go_roundw
        case rel => exact ⟨k + 1, by omega, by go_num, grown_same hgz hgT⟩
        case measure => simp [intOf]; omega
    · have hkk : k = 32 := by omega
      subst hkk
      rw [show ((32 : Nat) : Int) = 32 from rfl]
      go_wp2
      go_ret
      exact ⟨rfl, hgz⟩
end Go.Proofs.YtpeepiboocdnaaaDoor

namespace Go.Proofs.YtpeepiboocdnaaaDoor
open Go.RowKit

theorem wp_not {P : Program} {o : Oper} {a : Act} {w : World} {K : Act → World → Prop} {Q : Exit → Act → World → Prop} {t : TypeId} {x : Operand} {b : Bool} (ho : o.op = .unOp .not t x) (hx : a.eval x = .bool b) (h : K (a.put o.dst (.bool (!b))) w) : Oper.wp P o a w K Q := by
  unfold Oper.wp execOp
  simp [ho, hx, Op.unary]
  exact h
theorem blocks_two {g h n m c d W : Nat} (h1 : g < W) (h2 : h < W) : ∀ x ∈ blocksOf (.agg #[.slice (some ⟨g, 0, none⟩) n c, .slice (some ⟨h, 0, none⟩) m d]), x < W := by
  intro x e
  have e' : x ∈ [g, h] := e
  simp only [List.mem_cons, List.not_mem_nil, or_false] at e'
  rcases e' with rfl | rfl <;> assumption
theorem blocks_one {g n c W : Nat} (h1 : g < W) : ∀ x ∈ blocksOf (.slice (some ⟨g, 0, none⟩) n c), x < W := by
  intro x e
  have e' : x ∈ [g] := e
  rw [List.mem_singleton] at e'
  subst e'; exact h1
theorem blocks_own {w : World} {A : Option Addr} {n c : Nat} {l : List UInt8} (h : OwnB w (.slice A n c) l) : ∀ x ∈ blocksOf (.slice A n c), x < w.heap.size := by
  intro x e
  cases A with
  | none => cases e
  | some ad =>
    have e' : x ∈ [ad.block] := e
    rw [List.mem_singleton] at e'
    exact h.lt x (by rw [e']; rfl)
theorem wp_min {P : Program} {o : Oper} {a : Act} {w : World} {K : Act → World → Prop} {Q : Exit → Act → World → Prop} {x y : Operand} {ts : Array TypeId} {p q m : Int} (ho : o.op = .call { callee := .builtin .min, args := #[x, y], argTypes := ts }) (hx : a.eval x = .int .i64 p) (hy : a.eval y = .int .i64 q)
    (hm : (if q < p then q else p) = m) (h : K (a.put o.dst (.int .i64 m)) w) : Oper.wp P o a w K Q := by
  unfold Oper.wp execOp
  simp [ho, resolve, invoke, builtin, hx, hy, run_min_int2, hm]
  exact h
theorem own_mem {w : World} {u : Value} {l : List UInt8} (h : OwnB w u l) : ∀ g, u.ownBlock = some g → g ∈ blocksOf u := by
  obtain ⟨A, c, rfl, _⟩ := h.slice
  intro g e
  cases A with
  | none => cases e
  | some ad =>
    have e' : ad.block = g := by simpa [Value.ownBlock] using e
    rw [← e']; exact List.mem_singleton.2 rfl
theorem mem_own {w : World} {u : Value} {l : List UInt8} (h : OwnB w u l) : ∀ g ∈ blocksOf u, u.ownBlock = some g := by
  obtain ⟨A, c, rfl, _⟩ := h.slice
  intro g e
  cases A with
  | none => cases e
  | some ad =>
    have e' : g ∈ [ad.block] := e
    rw [List.mem_singleton] at e'
    rw [e']; rfl
theorem own_lt {w : World} {u : Value} {l : List UInt8} (h : OwnB w u l) : ∀ g ∈ blocksOf u, g < w.heap.size := fun g e => h.lt g (mem_own h g e)
theorem grew_blocks {w w' : World} {u v : Value} {l l' : List UInt8} {p : Nat → Prop} (hu : OwnB w u l) (hv : OwnB w' v l') (hw : Grew w w' u v) : ∀ g ∈ blocksOf v, w.heap.size ≤ g ∨ g ∈ blocksOf u ∨ p g := by
  intro g e
  have e1 := mem_own hv g e
  rcases hw.2 with e2 | ⟨g', e2, h⟩
  · exact .inr (.inl (own_mem hu g (by rw [← e2, e1])))
  · rw [e1] at e2; cases e2; exact .inl h
theorem LastsB.ownB {al : Nat → Bool} {k : Nat} (ha : al k = false) (l : List UInt8) : LastsB al k fun v w => OwnB w v l := LastsB.of ha (lasts_own l)
theorem sl_arr (g o : Nat) (w : World) : (Instr.sliceAt 44 (.pointer (some ⟨g, o, none⟩)) none none none).run Tryd.prog w = .ok (.slice (some ⟨g, o, none⟩) 32 32) w := by kernel_rfl
theorem rd_range {w : World} {g o : Nat} {l : List UInt8} (h : w.rangeAt g o (l.map bv)) : RdB w (some ⟨g, o, none⟩) l := .inr ⟨_, rfl, fun j u hu => by rw [Addr.add_mid]; exact h j u hu⟩
/-- A row of parts of one. -/
def Part1 (p : Part) (v : Value) (w : World) : Prop := ∃ b, v = .slice (some ⟨b, 0, none⟩) 1 1 ∧ RdAt w (some ⟨b, 0, none⟩) [pv p]
theorem LastsB.part1 {al : Nat → Bool} {k : Nat} (ha : al k = false) (p : Part) : LastsB al k (Part1 p) := by
  rintro v w w' row ⟨b, rfl, h⟩ hg hne
  exact ⟨b, rfl, h.keep hg (fun ad e => by cases e; exact hne b (by simp [bl, ha, blocksOf]))⟩
theorem pubL_tag (s : List UInt8) (i v : Nat) : pubL s i v = tagL 112 (secretL s i v) := by unfold pubL publicL; exact Eq.refl _
theorem blocks_off {g o n c W : Nat} (h1 : g < W) : ∀ x ∈ blocksOf (.slice (some ⟨g, o, none⟩) n c), x < W := by
  intro x e
  have e' : x ∈ [g] := e
  rw [List.mem_singleton] at e'
  subst e'; exact h1
theorem guard_hneq (x y : Operand) (cs ds : Array Value) (w : World) : (eqGuard .neq 44 x y (.agg cs) (.agg ds)).run Tryd.prog w = .ok () w := by kernel_rfl
theorem neqH_false (x : List UInt8) (hx : x.length = 32) (w : World) : (binOp .neq 44 (.agg (x.map bv).toArray) (.agg (x.map bv).toArray)).run Tryd.prog w = .ok (.bool false) w := by
  rw [neq_hash x x hx hx w, beq_self_eq_true]; rfl
theorem LastsB.ownH {al : Nat → Bool} {k : Nat} (ha : al k = false) (l : List UInt8) (n : Nat) : LastsB al k fun v w => OwnHs w v l n := LastsB.of ha fun _ _ _ _ h hg hne => h.keep hg hne
theorem ownH_block {w : World} {u : Value} {l : List UInt8} {n : Nat} (h : OwnHs w u l n) : u = .slice none 0 0 ∨ ∃ g c, u = .slice (some ⟨g, 0, none⟩) n c := by
  obtain ⟨base, hb, _, h⟩ := h
  rcases h with ⟨rfl, _⟩ | ⟨g, cap, cur, rfl, _⟩
  · exact .inl rfl
  · exact .inr ⟨g, cap, rfl⟩
theorem ownH_mem {w : World} {u : Value} {l : List UInt8} {n : Nat} (h : OwnHs w u l n) : ∀ g, u.ownBlock = some g → g ∈ blocksOf u := by
  intro g e
  rcases ownH_block h with rfl | ⟨g', c, rfl⟩
  · cases e
  · have e' : g' = g := by simpa [Value.ownBlock] using e
    rw [← e']; exact List.mem_singleton.2 rfl
theorem memH_own {w : World} {u : Value} {l : List UInt8} {n : Nat} (h : OwnHs w u l n) : ∀ g ∈ blocksOf u, u.ownBlock = some g := by
  intro g e
  rcases ownH_block h with rfl | ⟨g', c, rfl⟩
  · cases e
  · have e' : g ∈ [g'] := e
    rw [List.mem_singleton] at e'
    rw [e']; rfl
theorem ownH_lt {w : World} {u : Value} {l : List UInt8} {n : Nat} (h : OwnHs w u l n) : ∀ g ∈ blocksOf u, g < w.heap.size := fun g e => h.lt g (memH_own h g e)
theorem grewH_blocks {w w' : World} {u v : Value} {l l' : List UInt8} {n n' : Nat} {p : Nat → Prop} (hu : OwnHs w u l n) (hv : OwnHs w' v l' n') (hw : Grew w w' u v) : ∀ g ∈ blocksOf v, w.heap.size ≤ g ∨ g ∈ blocksOf u ∨ p g := by
  intro g e
  have e1 := memH_own hv g e
  rcases hw.2 with e2 | ⟨g', e2, h⟩
  · exact .inr (.inl (ownH_mem hu g (by rw [← e2, e1])))
  · rw [e1] at e2; cases e2; exact .inl h
theorem lit_noneH (w : World) : (Instr.buildSlice 39 0 #[]).run Tryd.prog w = .ok (.slice (some ⟨w.heap.size, 0, none⟩) 0 0) (w.alloc (.cells #[] 44)) := by kernel_rfl
theorem ownH_new (w : World) : OwnHs (w.alloc (.cells #[] 44)) (.slice (some ⟨w.heap.size, 0, none⟩) 0 0) [] 0 :=
  ⟨0, Nat.zero_le _, by simp, .inr ⟨w.heap.size, 0, #[], rfl, Nat.zero_le _, heap_alloc_new _ _, Nat.le_refl _, Nat.zero_le _, rfl, rfl⟩⟩
theorem sl_hiH (A : Option Addr) (n c k : Nat) (hk : k ≤ c) (w : World) : (Instr.sliceAt 39 (.slice A n c) none (some (.int .i64 (k : Int))) none).run Tryd.prog w = .ok (.slice A k c) w := by
  rw [run_sliceAt_slice (P := Tryd.prog) (w := w) (t := 39) (h := by kernel_rfl), run_slice_h (P := Tryd.prog) (w := w) (ht := by kernel_rfl) (h0 := by omega) (h2 := by omega)]
  rw [show (sizeOf (Tryd.prog.elem 39)).run Tryd.prog w = .ok 32 w from by kernel_rfl, Result.andThen_ok]
  cases A with
  | none => simp [sliced]
  | some ad =>
    have e : ad.add 0 = ad := by unfold Addr.add; split <;> simp_all
    simp [sliced, e]
theorem wp_build2 {P : Program} {o : Oper} {a : Act} {w : World} {K : Act → World → Prop} {Q : Exit → Act → World → Prop} {t : TypeId} {x y : Operand} {u1 u2 v : Value} (ho : o.op = .build t #[(0, x), (1, y)]) (hx : a.eval x = u1) (hy : a.eval y = u2)
    (hrun : (Instr.build t #[(0, u1), (1, u2)]).run P w = .ok v w) (h : K (a.put o.dst v) w) : Oper.wp P o a w K Q := by
  unfold Oper.wp execOp
  simp only [ho, List.map_toArray, List.map_cons, List.map_nil, hx, hy, Sem.run_bind, hrun, Result.andThen_ok, Sem.run_pure]
  exact h
theorem wp_build0 {P : Program} {o : Oper} {a : Act} {w : World} {K : Act → World → Prop} {Q : Exit → Act → World → Prop} {t : TypeId} {v : Value} (ho : o.op = .build t #[])
    (hrun : (Instr.build t #[]).run P w = .ok v w) (h : K (a.put o.dst v) w) : Oper.wp P o a w K Q := by
  unfold Oper.wp execOp
  simp only [ho, List.map_toArray, List.map_nil, Sem.run_bind, hrun, Result.andThen_ok, Sem.run_pure]
  exact h
theorem neqZ (w : World) : (binOp .neq 44 (.agg (zeroH.map bv).toArray) (.agg #[.int .u8 0, .int .u8 0, .int .u8 0, .int .u8 0, .int .u8 0, .int .u8 0, .int .u8 0, .int .u8 0, .int .u8 0, .int .u8 0, .int .u8 0, .int .u8 0, .int .u8 0, .int .u8 0, .int .u8 0, .int .u8 0, .int .u8 0, .int .u8 0, .int .u8 0, .int .u8 0, .int .u8 0, .int .u8 0, .int .u8 0, .int .u8 0, .int .u8 0, .int .u8 0, .int .u8 0, .int .u8 0, .int .u8 0, .int .u8 0, .int .u8 0, .int .u8 0])).run Tryd.prog w = .ok (.bool false) w := by
  have h := neq_hash zeroH zeroH rfl rfl w
  rw [beq_self_eq_true] at h
  exact h
end Go.Proofs.YtpeepiboocdnaaaDoor

namespace Go.Proofs.YtpeepiboocdnaaaDoor
open Go.RowKit

theorem wpList_lit2 {P : Program} {ops : Array Oper} {rest : List Oper} {o : Oper} {a : Act} {w w' : World} {Q : Exit → Act → World → Prop} (hgd : o.guard = none) {t : TypeId} {x y : Operand} {u1 u2 v : Value} (ho : o.op = .buildSlice t 2 #[(0, x), (1, y)]) (hx : a.eval x = u1) (hy : a.eval y = u2)
    (hrun : (Instr.buildSlice t 2 #[(0, u1), (1, u2)]).run P w = .ok v w') (h : wpList P ops Q rest (a.put o.dst v) w') : wpList P ops Q (o :: rest) a w :=
  wpList_plain hgd fun _ hK => wp_lit2 ho hx hy hrun (hK _ _ h)

def ruS (t : Nat) : Bool := t == 8 || t == 9 || t == 24 || t == 25 || t == 26 || t == 27 || t == 28 || t == 29 || t == 30 || t == 31 || t == 32 || t == 33 || t == 34
def ruDie (k : Nat) : Nat := if k = 11 then 13 else 99
def ruOwn (k : Nat) : Bool := k == 11 || k == 12 || k == 13
def ruAl (k : Nat) : Bool := k == 1 || k == 7 || k == 11 || k == 12 || k == 13
def ruF (k a1 c1 a2 c2 gb : Nat) (F G T : List UInt8) : Nat → Value → World → Prop
  | 0 => fun v _ => v = .pointer (some ⟨gb, 0, none⟩)
  | 1 => fun v _ => v = .slice (some ⟨a1, 0, none⟩) 32 c1
  | 2 => fun v _ => v = .int .i64 (k : Int)
  | 3 => fun v _ => v = .pointer (some ⟨a1, k * 32, none⟩)
  | 4 => fun v _ => v = (.agg (F.map bv).toArray)
  | 5 => fun v _ => v = (.agg (T.map bv).toArray)
  | 6 => fun v _ => v = .pointer (some ⟨gb, 1, none⟩)
  | 7 => fun v _ => v = .slice (some ⟨a2, 0, none⟩) 32 c2
  | 8 => fun v _ => v = .int .i64 (k : Int)
  | 9 => fun v _ => v = .pointer (some ⟨a2, k * 32, none⟩)
  | 10 => fun v _ => v = (.agg (G.map bv).toArray)
  | 11 => Made (rowH []) 44
  | 12 => Made (rowH []) 44
  | 13 => Stored 44
  | _ => fun _ _ => True
theorem ruF_lasts (k a1 c1 a2 c2 gb : Nat) (F G T : List UInt8) : ∀ kq, LastsB ruAl kq (ruF k a1 c1 a2 c2 gb F G T kq)
  | 0 => LastsB.val _
  | 1 => LastsB.val _
  | 2 => LastsB.val _
  | 3 => LastsB.val _
  | 4 => LastsB.val _
  | 5 => LastsB.val _
  | 6 => LastsB.val _
  | 7 => LastsB.val _
  | 8 => LastsB.val _
  | 9 => LastsB.val _
  | 10 => LastsB.val _
  | 11 => LastsB.made rfl _ _
  | 12 => LastsB.made rfl _ _
  | 13 => LastsB.stored rfl _
  | _ + 14 => fun _ _ _ _ _ _ _ => trivial

end Go.Proofs.YtpeepiboocdnaaaDoor

namespace Go.Proofs.YtpeepiboocdnaaaDoor
open Go.RowKit

section
variable {al : Nat → Bool} {ops : Array Oper} {die : Nat → Nat} {own : Nat → Bool} {F : Nat → Value → World → Prop} {a0 : Act} {W : World} {P : Program}
/-- As wp_region_inv, and an operation may be left out by its guard: its slot then holds undef. -/
theorem wp_region_invC {I : Array Bool → Act → World → Prop} {l : List Oper} (n : Nat) {id : Nat} {Q : Exit → Act → World → Prop} (hm : P.follows .mixedOrders = true) (hn : n ≤ l.length)
    (hs : n < l.length → Region.sinkB .any l.toArray n = true) (hc : n < l.length → Region.chainB .any l.toArray n = true) (hq : Region.seqB .any l.toArray (l.length - n) n (Array.replicate n true ++ Array.replicate (l.length - n) false) = true)
    (hb : ∀ (k : Nat) (o : Oper), (l.take n).toArray[k]? = some o → ∀ e ∈ o.after, Region.binds .any e = true → e.on < k)
    (hsize : ∀ L a w, I L a w → L.size = n) (hstart : I (Array.replicate n false) a0 { W with drawn := W.drawn + 1 })
    (hstep : ∀ (i : Nat) (o : Oper) (L : Array Bool) (a : Act) (w : World) (K : Act → World → Prop), i < n → (l.take n).toArray[i]? = some o → I L a w → L.getD i false = false →
      (∀ e ∈ o.after, Region.binds .any e = true → L.getD e.on false = true) → (∀ a' w', I (L.setIfInBounds i true) a' w' → K a' w') →
      (Region.wanted o (yielded l.toArray a.tmps) = true ∧ Oper.wp P o a w K Q) ∨ (Region.wanted o (yielded l.toArray a.tmps) = false ∧ K (a.put o.dst undef) w))
    (hend : ∀ (L : Array Bool) (a : Act) (w : World), (∀ k, k < n → L.getD k false = true) → I L a w → wpList P l.toArray Q (l.drop n) a w) :
    (Code.region id l.toArray true).wp P Q a0 W := by
  refine wp_region_any hm ?_
  obtain ⟨m, hm'⟩ : ∃ m, m = l.length - n := ⟨_, rfl⟩
  have hsz : (l.take n).toArray.size = n := by simp; omega
  have hget : ∀ k, k < n → l.toArray[k]? = (l.take n).toArray[k]? := fun k hk => by
    rw [List.getElem?_toArray, List.getElem?_toArray, List.getElem?_take_of_lt hk]
  have main : ∀ (c : Nat) (L : Array Bool) (a : Act) (w : World), L.toList.count false = c → I L a w →
      (∀ j o, (l.take n).toArray[j]? = some o → L.getD j false = true → ∀ e ∈ o.after, Region.binds .any e = true → L.getD e.on false = true) → wpAny P .any l.toArray Q (c + m) (L ++ Array.replicate m false) a w := by
    intro c
    induction c with
    | zero =>
      intro L a w hcn hrep _
      have hLs : L.size = n := hsize L a w hrep
      have hall : ∀ k, k < n → L.getD k false = true := by
        intro k hk
        have hk' : k < L.size := by omega
        rw [List.count_eq_zero] at hcn
        cases hb : L.getD k false with
        | true => rfl
        | false =>
          exfalso
          apply hcn
          have : L[k] = false := by simpa [Array.getD, hk'] using hb
          rw [← this]
          exact Array.getElem_mem_toList hk'
      have hL : L = Array.replicate n true := by
        apply Array.ext (by simpa using hLs)
        intro i h1 h2
        have := hall i (by omega)
        simp only [Array.getD, h1, dif_pos] at this
        simpa using this
      have hw := wpAny_of_seq (P := P) (md := .any) (ops := l.toArray) (Q' := Q) (l.drop n) n (L ++ Array.replicate m false) a w (fun j => by simp [List.getElem?_drop]) (by rw [List.length_drop, hL, hm']; exact hq) (hend L a w hall hrep)
      rw [List.length_drop, ← hm'] at hw
      simpa using hw
    | succ c ih =>
      intro L a w hcn hrep hcl
      have hLs : L.size = n := hsize L a w hrep
      have hNs : n + m = l.length := by omega
      -- one is not listed yet
      obtain ⟨k0, hk0, hk0f⟩ : ∃ k, k < n ∧ L.getD k false = false := by
        have : 0 < L.toList.count false := by omega
        rw [List.count_pos_iff] at this
        obtain ⟨k, hk, e⟩ := List.getElem_of_mem this
        have hk' : k < L.size := by simpa using hk
        exact ⟨k, by omega, by simpa [Array.getD, hk'] using e⟩
      have inv : HeadInv .any l.toArray n (L ++ Array.replicate m false) := by
        refine ⟨by simp; omega, fun j oj hj hlj e he hbe => ?_, fun t ht htl => padded_hi hLs ht (by simp at htl; omega) _⟩
        have hjl : j < l.length := by simpa using (Array.getElem?_eq_some_iff.1 hj).1
        by_cases hjn : j < n
        · rw [padded_lo hLs hjn] at hlj
          rw [hget j hjn] at hj
          have h1 := hcl j oj hj hlj e he hbe
          have h2 := hb j oj hj e he hbe
          rw [padded_lo hLs (by omega)]
          exact h1
        · rw [padded_hi hLs (by omega) (by omega)] at hlj; cases hlj
      have hwait : ∀ t, n ≤ t → t ∉ Region.ready .any l.toArray (L ++ Array.replicate m false) := by
        rcases Nat.lt_or_eq_of_le hn with hlt | heq
        · exact tail_waits (hs hlt) (hc hlt) (by simpa using hlt) inv _ k0 rfl hk0 (by rw [padded_lo hLs hk0, getD_in (by omega) true false]; exact hk0f)
        · intro t ht hm
          have h1 := (mem_ready_iff.1 hm).1
          have h2 : t < l.length := by simpa using h1
          omega
      have hmem : ∀ i, i ∈ Region.ready .any l.toArray (L ++ Array.replicate m false) → i < n ∧ L.getD i false = false ∧ ∃ o, (l.take n).toArray[i]? = some o ∧ ∀ e ∈ o.after, Region.binds .any e = true → L.getD e.on false = true := by
        intro i hi
        have hin : i < n := by
          by_cases h : i < n
          · exact h
          · exact absurd hi (hwait i (by omega))
        obtain ⟨_, h2, o, ho, h3⟩ := mem_ready_iff.1 hi
        rw [padded_lo hLs hin, getD_in (by omega) true false] at h2
        rw [hget i hin] at ho
        refine ⟨hin, h2, o, ho, fun e he hbe => ?_⟩
        have h4 := h3 e he hbe
        have h5 := hb i o ho e he hbe
        rwa [padded_lo hLs (by omega)] at h4
      rw [show c + 1 + m = (c + m) + 1 by omega]
      refine ⟨fun hr => ?_, fun i hi => ?_⟩
      · exfalso
        -- the first one that is not listed may come up
        have hex : ∀ k, k < n → L.getD k false = true := by
          intro k
          induction k using Nat.strongRecOn with
          | ind k ihk =>
            intro hk
            cases hbk : L.getD k false with
            | true => rfl
            | false =>
              exfalso
              have hk2 : k < (l.take n).toArray.size := by omega
              have hko : l.toArray[k]? = some (l.take n).toArray[k] := by rw [hget k hk]; exact Array.getElem?_eq_getElem hk2
              have : k ∈ Region.ready .any l.toArray (L ++ Array.replicate m false) := mem_ready_iff.2 ⟨by simp; omega, by rw [padded_lo hLs hk, getD_in (by omega) true false]; exact hbk, (l.take n).toArray[k], hko, fun e he hbe => by
                have h5 := hb k _ (Array.getElem?_eq_getElem hk2) e he hbe
                rw [padded_lo hLs (by omega)]
                exact ihk e.on h5 (by omega)⟩
              rw [hr] at this
              cases this
        have := hex k0 hk0
        rw [hk0f] at this
        cases this
      · obtain ⟨hin, h2, o, ho, h3⟩ := hmem i hi
        have hiL : i < L.size := by omega
        refine wpOp_step (by rw [hget i hin]; exact ho) fun K hK => ?_
        have hst := hstep i o L a w K hin ho hrep h2 h3 (fun a' w' hr => hK a' w' (by
          rw [padded_set hLs hin]
          refine ih _ _ _ ?_ hr ?_
          · have hLi : L[i] = false := by simpa [Array.getD, hiL] using h2
            have := List.count_set (l := L.toList) (i := i) (a := true) (b := false) (by simpa using hiL)
            simp only [Array.toList_setIfInBounds]
            have e : L.toList[i]'(by simpa using hiL) = false := by simpa using hLi
            rw [this, e, if_pos (show (false == false) = true from rfl), if_neg (show ¬ ((true == false) = true) by decide)]
            omega
          · intro j oj hj hlj e he hbe
            by_cases hji : j = i
            · subst hji
              rw [ho] at hj
              cases hj
              have h5 := hb j o ho e he hbe
              rw [getD_set_other (by omega)]
              exact h3 e he hbe
            · rw [getD_set_other hji] at hlj
              have h6 := hcl j oj hj hlj e he hbe
              by_cases hei : e.on = i
              · rw [hei]; exact getD_set_same hiL false
              · rw [getD_set_other hei]; exact h6))
        rcases hst with ⟨hw, hwp⟩ | ⟨hw, hk⟩
        · rw [if_pos hw]; exact hwp
        · rw [if_neg (by rw [hw]; simp)]; exact hk
  have := main n (Array.replicate n false) a0 { W with drawn := W.drawn + 1 } (by simp) hstart (fun j o _ hl => by
    rw [getD_replicate_false] at hl; cases hl)
  rw [show n + m = l.toArray.size by simp; omega] at this
  rw [show Array.replicate l.toArray.size false = Array.replicate n false ++ Array.replicate m false by rw [Array.replicate_append_replicate]; congr 1; simp; omega]
  exact this


theorem wp_region_gc {l : List Oper} (n : Nat) {N : Nat} {S : Nat → Bool} {id : Nat} {Q : Exit → Act → World → Prop} (hm : P.follows .mixedOrders = true) (hn : n ≤ l.length)
    (hs : n < l.length → Region.sinkB .any l.toArray n = true) (hc : n < l.length → Region.chainB .any l.toArray n = true) (hsq : Region.seqB .any l.toArray (l.length - n) n (Array.replicate n true ++ Array.replicate (l.length - n) false) = true)
    (hok : regionOkB (l.take n).toArray N S = true) (hN : N ≤ a0.tmps.size) (hF : ∀ k, LastsB al k (F k))
    (hstep : ∀ (i : Nat) (o : Oper) (L : Array Bool) (a : Act) (w : World) (K : Act → World → Prop), i < n → (l.take n).toArray[i]? = some o → W.grownBy w none → L.getD i false = false → (∀ k, n ≤ k → L.getD k false = false) →
      (∀ j, (o.after.toList.any fun e => Region.binds .any e && e.on == j) = true → L.getD j false = true) →
      (∀ t, S t = false → a.eval (.tmp t) = a0.eval (.tmp t)) →
      (∀ k, k < n → liveAt die L k → F k (valB (l.take n).toArray a k) w) →
      (∀ k j, k < n → j < n → k ≠ j → liveAt die L k → liveAt die L j → own k = true → ∀ g ∈ bl al j (valB (l.take n).toArray a j), g ∉ bl al k (valB (l.take n).toArray a k)) →
      ((∃ d, o.dst = some d) → ∀ (v : Value) (w' : World), w.grownBy w' none → F i v w' → (∀ g ∈ bl al i v, g < w'.heap.size) → FreshB al own W i w (fun _ => False) v → K (a.put o.dst v) w') →
      ((∃ d, o.dst = some d) → ∀ (k : Nat) (v : Value) (w' : World) (row : Option Nat), k < n → liveAt die L k → own k = true → die k = i → w.grownBy w' row → (∀ g, row = some g → g ∈ bl al k (valB (l.take n).toArray a k)) →
        F i v w' → (∀ g ∈ bl al i v, g < w'.heap.size) → FreshB al own W i w (fun g => g ∈ bl al k (valB (l.take n).toArray a k)) v → K (a.put o.dst v) w') →
      (o.dst = none → ∀ (k : Nat) (u : Value) (w' : World) (row : Option Nat), k < n → liveAt die L k → own k = true → die k = i → w.grownBy w' row → (∀ g, row = some g → g ∈ bl al k (valB (l.take n).toArray a k)) →
        F i (valB (l.take n).toArray a i) w' → (∀ g ∈ bl al i (valB (l.take n).toArray a i), g ∈ bl al k (valB (l.take n).toArray a k)) → K (a.put o.dst u) w') →
      ((∃ d, o.dst = some d) → ∀ (v : Value) (w' : World), w.grownBy w' none → F i v w' → (∀ g ∈ bl al i v, g < w'.heap.size) → FreshB al own W i w (fun g => ∃ k, k < n ∧ liveAt die L k ∧ own k = true ∧ die k = i ∧ g ∈ bl al k (valB (l.take n).toArray a k)) v → K (a.put o.dst v) w') →
      (Region.wanted o (yielded l.toArray a.tmps) = true ∧ Oper.wp P o a w K Q) ∨ (Region.wanted o (yielded l.toArray a.tmps) = false ∧ K (a.put o.dst undef) w))
    (hend : ∀ (a : Act) (w : World), W.grownBy w none →
      (∀ k, k < n → n ≤ die k → F k (valB (l.take n).toArray a k) w ∧ (own k = true → ∀ g ∈ bl al k (valB (l.take n).toArray a k), W.heap.size ≤ g)) →
      (∀ k j, k < n → j < n → k ≠ j → n ≤ die k → n ≤ die j → own k = true → ∀ g ∈ bl al j (valB (l.take n).toArray a j), g ∉ bl al k (valB (l.take n).toArray a k)) →
      a = { tmps := (fill S (fun t => a.tmps.getD t undef) 0 a0.tmps.toList).toArray, defers := a0.defers } → wpList P l.toArray Q (l.drop n) a w) :
    (Code.region id l.toArray true).wp P Q a0 W := by
  have hsz : (l.take n).toArray.size = n := by simp; omega
  refine wp_region_invC (I := RepB al (l.take n).toArray die own F a0 W) n hm hn hs hc hsq (regionOkB_back hok) (fun L a w h => by rw [h.size, hsz]) (by have := repb_start (al := al) (ops := (l.take n).toArray) (die := die) (own := own) (F := F) (a0 := a0) (W := W); rwa [hsz] at this) ?_ ?_
  · intro i o L a w K hi ho hrep hLi hpre hK
    have hout : ∀ k : Nat, n ≤ k → L.getD k false = false := by
      intro k hk
      have hk' : ¬ k < L.size := by rw [hrep.size]; omega
      simp [Array.getD, hk']
    refine hstep i o L a w K hi ho hrep.old hLi hout ?_ ?_ ?_ ?_ ?_ ?_ ?_ ?_
    · intro j hj
      obtain ⟨n', hn', hb, rfl⟩ : ∃ (n : Nat) (h : n < o.after.size), Region.binds Region.Mode.any o.after[n] = true ∧ o.after[n].on = j := by simpa using hj
      exact hpre _ (Array.getElem_mem hn') hb
    · intro t ht
      exact hrep.frame t fun k _ o' ho' e => by
        have := (regionOkB_dst hok ho' e).2.1
        rw [ht] at this
        cases this
    · intro k hk hl
      exact (hrep.item k (by omega) hl).1
    · exact fun k j hk hj => hrep.apart k j (by omega) (by omega)
    · intro hd v w' hg hv hlt hnew
      exact hK _ _ (repb_step hok hN hF hrep (by omega) hLi ho hpre hg (.inl hd) (fun g e => by cases e) hv hlt (fun g hgm => (hnew g hgm).imp (fun x => x) fun h => .inr (h.resolve_left (fun x => x))) v (fun _ => rfl))
    · intro hd k v w' row hk hl hok' hdk hg hrow hv hlt hnew
      exact hK _ _ (repb_step hok hN hF hrep (by omega) hLi ho hpre hg (.inl hd) (fun g e => ⟨k, by omega, hl, hok', hdk, hrow g e⟩) hv hlt (fun g hgm => (hnew g hgm).imp (fun x => x) fun h => h.imp (fun h => ⟨k, by omega, hl, hok', hdk, h⟩) (fun x => x)) v (fun _ => rfl))
    · intro hd k u w' row hk hl hok' hdk hg hrow hv hsub
      exact hK _ _ (repb_step hok hN hF hrep (by omega) hLi ho hpre hg (.inr ⟨hd, rfl⟩) (fun g e => ⟨k, by omega, hl, hok', hdk, hrow g e⟩) hv (fun g hgm => Nat.lt_of_lt_of_le ((hrep.item k (by omega) hl).2.1 g (hsub g hgm)) hg.size) (fun g hgm => .inr (.inl ⟨k, by omega, hl, hok', hdk, hsub g hgm⟩)) u (fun h => by obtain ⟨d, h⟩ := h; rw [hd] at h; cases h))
    · intro hd v w' hg hv hlt hnew
      exact hK _ _ (repb_step hok hN hF hrep (by omega) hLi ho hpre hg (.inl hd) (fun g e => by cases e) hv hlt (fun g hgm => (hnew g hgm).imp (fun x => x) fun h => h.imp (fun ⟨k, hk, hl, hok', hdk, h⟩ => ⟨k, by omega, hl, hok', hdk, h⟩) (fun x => x)) v (fun _ => rfl))
  · intro L a w hl hrep
    have hlive : ∀ k, k < n → n ≤ die k → liveAt die L k := fun k hk hd => ⟨hl k hk, by
      have : ¬ die k < L.size := by rw [hrep.size]; omega
      simp [Array.getD, this]⟩
    exact hend a w hrep.old (fun k hk hd => ⟨(hrep.item k (by omega) (hlive k hk hd)).1, (hrep.item k (by omega) (hlive k hk hd)).2.2⟩)
      (fun k j hk hj hkj hdk hdj hok => hrep.apart k j (by omega) (by omega) hkj (hlive k hk hdk) (hlive j hj hdj) hok) (repb_frame hok hrep)
end
end Go.Proofs.YtpeepiboocdnaaaDoor

namespace Go.Proofs.YtpeepiboocdnaaaDoor
open Go.RowKit
theorem quo8 (j : Nat) (h : j ≤ 255) (w : World) : (binOp .quo 3 (.int .i64 (j : Int)) (.int .i64 8)).run Tryd.prog w = .ok (.int .i64 ((j / 8 : Nat) : Int)) w := by
  simp [binOp, Op.intDiv]
  rw [show ((j : Int) / 8) = ((j / 8 : Nat) : Int) by omega]
  have : j / 8 ≤ 255 := by omega
  generalize j / 8 = q at this
  exact IntWalk.i64_in _ ⟨by omega, by omega⟩
theorem rem8 (j : Nat) (w : World) : (binOp .rem 3 (.int .i64 (j : Int)) (.int .i64 8)).run Tryd.prog w = .ok (.int .i64 ((j % 8 : Nat) : Int)) w := by
  simp [binOp, Op.intDiv]
  rw [Int.tmod_eq_emod_of_nonneg (by omega)]
theorem conv8 (j : Nat) (h : j < 8) (w : World) : (convert 3 68 (.int .i64 (j : Int))).run Tryd.prog w = .ok (.int .u64 (j : Int)) w :=
  match j, h with
  | 0, _ => by kernel_rfl
  | 1, _ => by kernel_rfl
  | 2, _ => by kernel_rfl
  | 3, _ => by kernel_rfl
  | 4, _ => by kernel_rfl
  | 5, _ => by kernel_rfl
  | 6, _ => by kernel_rfl
  | 7, _ => by kernel_rfl
  | _ + 8, h => by omega
theorem shl8 (j : Nat) (h : j < 8) (w : World) : (binOp .shl 5 (.int .u8 1) (.int .u64 (j : Int))).run Tryd.prog w = .ok (.int .u8 ((2 ^ j : Nat) : Int)) w :=
  match j, h with
  | 0, _ => by kernel_rfl
  | 1, _ => by kernel_rfl
  | 2, _ => by kernel_rfl
  | 3, _ => by kernel_rfl
  | 4, _ => by kernel_rfl
  | 5, _ => by kernel_rfl
  | 6, _ => by kernel_rfl
  | 7, _ => by kernel_rfl
  | _ + 8, h => by omega
theorem xor8 (x : UInt8) (y : Nat) (w : World) : (binOp .xor 5 (bv x) (.int .u8 (y : Int))).run Tryd.prog w = .ok (bv (x ^^^ UInt8.ofNat y)) w := by
  simp [binOp, bv, Op.intBits]
  have h1 : x.toNat % 256 = x.toNat := Nat.mod_eq_of_lt x.toNat_lt
  have h2 : x.toNat ^^^ y % 256 < 2 ^ 8 := Nat.xor_lt_two_pow x.toNat_lt (Nat.mod_lt _ (by decide))
  show IntKind.u8.wrap (↑(x.toNat % 256 ^^^ y % 256) : Int) = _
  rw [h1]
  exact IntWalk.u8_in _ ⟨by omega, by omega⟩
theorem idx8 (g o k : Nat) (hk : k < 32) (w : World) : (Instr.indexAt 44 (.pointer (some ⟨g, o, none⟩)) (.int .i64 (k : Int))).run Tryd.prog w = .ok (.pointer (some ⟨g, o + k, none⟩)) w := by
  simp [Instr.indexAt, asIntOf, Instr.sureAddr, Addr.add]
  rw [if_pos hk]
  by_cases h : k = 0
  · rw [if_pos h, h]; rfl
  · rw [if_neg h]
theorem cell_of_take {cu : Array Value} {l : List UInt8} {n o : Nat} (h : cu.toList.take n = l.map bv) (hl : l.length = n) (ho : o < n) : ∃ z, cu[o]? = some (bv z) := by
  have h1 : (cu.toList.take n)[o]? = (l.map bv)[o]? := by rw [h]
  have hlo : o < l.length := by omega
  have h2 : l[o]? = some l[o] := List.getElem?_eq_getElem hlo
  rw [List.getElem?_take_of_lt ho, List.getElem?_map, h2] at h1
  exact ⟨l[o], by rw [← Array.getElem?_toList]; exact h1⟩
theorem set_take {cu : Array Value} {l : List UInt8} {n : Nat} (h : cu.toList.take n = l.map bv) (o : Nat) (z : UInt8) : (cu.setIfInBounds o (bv z)).toList.take n = (l.set o z).map bv := by
  rw [Array.toList_setIfInBounds, List.take_set, h, List.map_set]
theorem parts_upto (l : List UInt8) (h : l.length = 32 * 32) : ∀ n, n ≤ 32 → partsF (fun i => if i < 32 then (l.drop (i * 32)).take 32 else zeroH) n = l.take (n * 32)
  | 0, _ => by simp [partsF]
  | n + 1, hn => by
    rw [partsF_next, parts_upto l h n (by omega), if_pos (by omega), Nat.add_mul, List.take_add, Nat.one_mul]
theorem parts_of (l : List UInt8) (h : l.length = 32 * 32) : ∃ f : Nat → List UInt8, (∀ i, (f i).length = 32) ∧ l = partsF f 32 := by
  refine ⟨fun i => if i < 32 then (l.drop (i * 32)).take 32 else zeroH, fun i => ?_, ?_⟩
  · show (if i < 32 then (l.drop (i * 32)).take 32 else zeroH).length = 32
    split
    · rw [List.length_take, List.length_drop]; omega
    · exact zeroH_len
  · rw [parts_upto l h 32 (Nat.le_refl _), List.take_of_length_le (by omega)]
theorem rd_of_row {w : World} {g c n : Nat} {cur : Array Value} {l : List UInt8} (hg : w.heap[g]? = some (.cells cur 44 (0, 0))) (h2 : n ≤ c) (h3 : c ≤ maxLen) (h4 : cur.size = c * 32) (h5 : cur.toList.take (n * 32) = l.map bv) (hl : l.length = n * 32) : RdB w (some ⟨g, 0, none⟩) l :=
  RdAt.ofOwn (base := 0) (size := 32) (n := n) (c := c) (e := 44) ⟨by simpa using hl, .inr ⟨g, c, cur, rfl, Nat.zero_le _, hg, h2, h3, h4, h5⟩⟩
theorem unwanted_false {ops : Array Oper} {o : Oper} {a : Act} {j s : Nat} (hg : o.guard = some (j, false)) (hd : (ops[j]?).bind (·.dst) = some s) (hv : a.eval (.tmp s) = .bool true) : Region.wanted o (yielded ops a.tmps) = false := by
  have h : a.tmps.getD s undef = .bool true := hv
  have h' : a.tmps[s]? = some (.bool true) := by
    by_cases hs : s < a.tmps.size
    · simp [Array.getD, hs] at h
      rw [Array.getElem?_eq_getElem hs, h]
    · simp [Array.getD, hs] at h
      cases h
  simp [Region.wanted, hg, yielded, hd, h']
theorem OwnHs.row {w : World} {g c n : Nat} {l : List UInt8} (h : OwnHs w (.slice (some ⟨g, 0, none⟩) n c) l n) : ∃ cur, w.heap[g]? = some (.cells cur 44 (0, 0)) ∧ n ≤ c ∧ c ≤ maxLen ∧ cur.size = c * 32 ∧ cur.toList.take (n * 32) = l.map bv := by
  obtain ⟨base, hb, hl, h⟩ := h
  rcases h with ⟨h, _⟩ | ⟨g', cap, cur, e, h1, hg, h2, h3, h4, h5⟩
  · cases h
  · cases e
    exact ⟨cur, hg, h2, h3, h4, h5⟩
def OwnTwo (P Q : List UInt8) (v : Value) (w : World) : Prop := ∃ g c g' c' : Nat, v = .agg #[.slice (some ⟨g, 0, none⟩) 32 c, .slice (some ⟨g', 0, none⟩) 32 c'] ∧ g ≠ g' ∧ OwnHs w (.slice (some ⟨g, 0, none⟩) 32 c) P 32 ∧ OwnHs w (.slice (some ⟨g', 0, none⟩) 32 c') Q 32
theorem LastsB.ownTwo {al : Nat → Bool} {k : Nat} (ha : al k = false) (P Q : List UInt8) : LastsB al k (OwnTwo P Q) := by
  rintro v w w' row ⟨g, c, g', c', rfl, hn, h, h'⟩ hg hne
  have hb : ∀ x ∈ [g, g'], some x ≠ row := fun x hx => hne x (by simp only [bl, ha, cond_false]; exact hx)
  exact ⟨g, c, g', c', rfl, hn, h.keep hg (.inr (hb g (by simp))), h'.keep hg (.inr (hb g' (by simp)))⟩
end Go.Proofs.YtpeepiboocdnaaaDoor

namespace Go.Proofs.YtpeepiboocdnaaaDoor
open Go.RowKit

section
variable {al : Nat → Bool} {die : Nat → Nat} {own : Nat → Bool} {F : Nat → Value → World → Prop} {a0 : Act} {W : World} {P : Program}
/-- What stands at each moment: the head's items, and behind the store the world that it makes. -/
def RepS (al : Nat → Bool) (ops : Array Oper) (die : Nat → Nat) (own : Nat → Bool) (F : Nat → Value → World → Prop) (a0 : Act) (W : World) (n : Nat) (late : Nat → Bool) (up : World → World) (L : Array Bool) (a : Act) (w : World) : Prop :=
  L.size = n + 1 ∧ ∃ L5 : Array Bool, L5.size = n ∧ (∀ k, k < n → L5.getD k false = L.getD k false) ∧
    ((L.getD n false = false ∧ RepB al ops die own F a0 W L5 a w) ∨ (L.getD n false = true ∧ (∀ j, j < n → late j = false → L5.getD j false = true) ∧ ∃ w1, RepB al ops die own F a0 W L5 a w1 ∧ w = up w1))
theorem size_setT {L : Array Bool} {n i : Nat} (h : L.size = n) : (L.setIfInBounds i true).size = n := by rw [Array.size_setIfInBounds]; exact h
theorem set_agree {L5 L : Array Bool} {n m i : Nat} (hs5 : L5.size = n) (hs : L.size = m) (hm : n ≤ m) (h : ∀ k, k < n → L5.getD k false = L.getD k false) (hi : i < n) : ∀ k, k < n → (L5.setIfInBounds i true).getD k false = (L.setIfInBounds i true).getD k false := by
  intro k hk
  by_cases e : k = i
  · subst e; rw [getD_set_same (by omega), getD_set_same (by omega)]
  · rw [getD_set_other e, getD_set_other e]; exact h k hk

theorem wp_region_gs {l : List Oper} (n : Nat) {N : Nat} {S : Nat → Bool} (late : Nat → Bool) (up : World → World) {id : Nat} {Q : Exit → Act → World → Prop} (st : Oper) (hst : l[n]? = some st) (hd : st.dst = none) (hm : P.follows .mixedOrders = true) (hn : n + 1 ≤ l.length)
    (hs : n + 1 < l.length → Region.sinkB .any l.toArray (n + 1) = true) (hc : n + 1 < l.length → Region.chainB .any l.toArray (n + 1) = true) (hsq : Region.seqB .any l.toArray (l.length - (n + 1)) (n + 1) (Array.replicate (n + 1) true ++ Array.replicate (l.length - (n + 1)) false) = true)
    (hok : regionOkB (l.take n).toArray N S = true) (hsb : (st.after.all fun e => !(Region.binds .any e) || decide (e.on < n)) = true) (hso : ((List.range n).all fun j => late j || st.after.any fun e => Region.binds .any e && e.on == j) = true)
    (hN : N ≤ a0.tmps.size) (hF : ∀ k, LastsB al k (F k))
    (hlate : ∀ i, i < n → late i = true → ∃ (o : Oper) (x : Operand) (c : Value), (l.take n).toArray[i]? = some o ∧ o.op = .move x ∧ o.guard = none ∧ (∃ d, o.dst = some d) ∧ (∀ a : Act, (∀ t, S t = false → a.eval (.tmp t) = a0.eval (.tmp t)) → a.eval x = c) ∧ (∀ w, F i c w) ∧ bl al i c = [])
    (hstep : ∀ (i : Nat) (o : Oper) (L : Array Bool) (a : Act) (w : World) (K : Act → World → Prop), i < n → (l.take n).toArray[i]? = some o → W.grownBy w none → L.getD i false = false → (∀ k, n ≤ k → L.getD k false = false) →
      (∀ j, (o.after.toList.any fun e => Region.binds .any e && e.on == j) = true → L.getD j false = true) →
      (∀ t, S t = false → a.eval (.tmp t) = a0.eval (.tmp t)) →
      (∀ k, k < n → liveAt die L k → F k (valB (l.take n).toArray a k) w) →
      ((∃ d, o.dst = some d) → ∀ (v : Value) (w' : World), w.grownBy w' none → F i v w' → (∀ g ∈ bl al i v, g < w'.heap.size) → FreshB al own W i w (fun _ => False) v → K (a.put o.dst v) w') →
      ((∃ d, o.dst = some d) → ∀ (k : Nat) (v : Value) (w' : World) (row : Option Nat), k < n → liveAt die L k → own k = true → die k = i → w.grownBy w' row → (∀ g, row = some g → g ∈ bl al k (valB (l.take n).toArray a k)) →
        F i v w' → (∀ g ∈ bl al i v, g < w'.heap.size) → FreshB al own W i w (fun g => g ∈ bl al k (valB (l.take n).toArray a k)) v → K (a.put o.dst v) w') →
      (o.dst = none → ∀ (k : Nat) (u : Value) (w' : World) (row : Option Nat), k < n → liveAt die L k → own k = true → die k = i → w.grownBy w' row → (∀ g, row = some g → g ∈ bl al k (valB (l.take n).toArray a k)) →
        F i (valB (l.take n).toArray a i) w' → (∀ g ∈ bl al i (valB (l.take n).toArray a i), g ∈ bl al k (valB (l.take n).toArray a k)) → K (a.put o.dst u) w') →
      Region.wanted o (yielded l.toArray a.tmps) = true ∧ Oper.wp P o a w K Q)
    (hstore : ∀ (a : Act) (w : World) (K : Act → World → Prop), W.grownBy w none → (∀ t, S t = false → a.eval (.tmp t) = a0.eval (.tmp t)) → (∀ k, k < n → late k = false → n ≤ die k → F k (valB (l.take n).toArray a k) w) →
      (∀ u, K (a.put st.dst u) (up w)) → Region.wanted st (yielded l.toArray a.tmps) = true ∧ Oper.wp P st a w K Q)
    (hend : ∀ (a : Act) (w : World), W.grownBy w none →
      (∀ k, k < n → n ≤ die k → F k (valB (l.take n).toArray a k) w ∧ (own k = true → ∀ g ∈ bl al k (valB (l.take n).toArray a k), W.heap.size ≤ g)) →
      (∀ k j, k < n → j < n → k ≠ j → n ≤ die k → n ≤ die j → own k = true → ∀ g ∈ bl al j (valB (l.take n).toArray a j), g ∉ bl al k (valB (l.take n).toArray a k)) →
      a = { tmps := (fill S (fun t => a.tmps.getD t undef) 0 a0.tmps.toList).toArray, defers := a0.defers } → wpList P l.toArray Q (l.drop (n + 1)) a (up w)) :
    (Code.region id l.toArray true).wp P Q a0 W := by
  have hsz : (l.take n).toArray.size = n := by simp; omega
  have hget : ∀ k, k < n → (l.take (n + 1)).toArray[k]? = (l.take n).toArray[k]? := fun k hk => by
    rw [List.getElem?_toArray, List.getElem?_toArray, List.getElem?_take_of_lt (by omega), List.getElem?_take_of_lt hk]
  have hgetn : (l.take (n + 1)).toArray[n]? = some st := by rw [List.getElem?_toArray, List.getElem?_take_of_lt (by omega)]; exact hst
  have hframe : ∀ {L : Array Bool} {a : Act} {w : World}, RepB al (l.take n).toArray die own F a0 W L a w → ∀ t, S t = false → a.eval (.tmp t) = a0.eval (.tmp t) := fun hrep t ht =>
    hrep.frame t fun k _ o' ho' e => by
      have := (regionOkB_dst hok ho' e).2.1
      rw [ht] at this
      cases this
  have hstb : ∀ e ∈ st.after, Region.binds .any e = true → e.on < n := fun e he hb => by
    have := (Array.all_eq_true_iff_forall_mem.1 hsb) e he
    simpa [hb] using this
  refine wp_region_inv (I := RepS al (l.take n).toArray die own F a0 W n late up) (n + 1) hm hn hs hc hsq ?_ (fun L a w h => h.1) ?_ ?_ ?_
  · intro k o ho e he hb
    have hk : k < n + 1 := by have := (Array.getElem?_eq_some_iff.1 ho).1; simp at this; omega
    by_cases hkn : k < n
    · rw [hget k hkn] at ho; exact regionOkB_back hok k o ho e he hb
    · obtain rfl : k = n := by omega
      rw [hgetn] at ho; cases ho
      exact hstb e he hb
  · refine ⟨by simp, Array.replicate n false, by simp, fun k _ => ?_, .inl ⟨?_, ?_⟩⟩
    · simp only [Array.getD, Array.size_replicate]; split <;> split <;> simp
    · simp [Array.getD]
    · have := repb_start (al := al) (ops := (l.take n).toArray) (die := die) (own := own) (F := F) (a0 := a0) (W := W); rwa [hsz] at this
  · intro i o L a w K hi ho hI hLi hpre hK
    obtain ⟨hLs, L5, hs5, hag, hI⟩ := hI
    by_cases hin : i < n
    · rw [hget i hin] at ho
      have hLf : L5.getD i false = false := by rw [hag i hin]; exact hLi
      have hpre5 : ∀ e ∈ o.after, Region.binds .any e = true → L5.getD e.on false = true := fun e he hb => by
        have h5 := regionOkB_back hok i o ho e he hb
        rw [hag _ (by omega)]; exact hpre e he hb
      have hset := set_agree (i := i) hs5 hLs (Nat.le_succ n) hag hin
      have hne : n ≠ i := by omega
      rcases hI with ⟨hLn, hrep⟩ | ⟨hLn, hall, w1, hrep, rfl⟩
      · have hK' : ∀ a' w', RepB al (l.take n).toArray die own F a0 W (L5.setIfInBounds i true) a' w' → K a' w' := fun a' w' h =>
          hK a' w' ⟨size_setT hLs, _, size_setT hs5, hset, .inl ⟨by rw [getD_set_other hne]; exact hLn, h⟩⟩
        have hout : ∀ k : Nat, n ≤ k → L5.getD k false = false := by
          intro k hk
          have hk' : ¬ k < L5.size := by omega
          simp [Array.getD, hk']
        refine hstep i o L5 a w K hin ho hrep.old hLf hout ?_ (hframe hrep) ?_ ?_ ?_ ?_
        · intro j hj
          obtain ⟨n', hn', hb, rfl⟩ : ∃ (n : Nat) (h : n < o.after.size), Region.binds Region.Mode.any o.after[n] = true ∧ o.after[n].on = j := by simpa using hj
          exact hpre5 _ (Array.getElem_mem hn') hb
        · intro k hk hl
          exact (hrep.item k (by omega) hl).1
        · intro hd v w' hg hv hlt hnew
          exact hK' _ _ (repb_step hok hN hF hrep (by omega) hLf ho hpre5 hg (.inl hd) (fun g e => by cases e) hv hlt (fun g hgm => (hnew g hgm).imp (fun x => x) fun h => .inr (h.resolve_left (fun x => x))) v (fun _ => rfl))
        · intro hd k v w' row hk hl hok' hdk hg hrow hv hlt hnew
          exact hK' _ _ (repb_step hok hN hF hrep (by omega) hLf ho hpre5 hg (.inl hd) (fun g e => ⟨k, by omega, hl, hok', hdk, hrow g e⟩) hv hlt (fun g hgm => (hnew g hgm).imp (fun x => x) fun h => h.imp (fun h => ⟨k, by omega, hl, hok', hdk, h⟩) (fun x => x)) v (fun _ => rfl))
        · intro hd k u w' row hk hl hok' hdk hg hrow hv hsub
          exact hK' _ _ (repb_step hok hN hF hrep (by omega) hLf ho hpre5 hg (.inr ⟨hd, rfl⟩) (fun g e => ⟨k, by omega, hl, hok', hdk, hrow g e⟩) hv (fun g hgm => Nat.lt_of_lt_of_le ((hrep.item k (by omega) hl).2.1 g (hsub g hgm)) hg.size) (fun g hgm => .inr (.inl ⟨k, by omega, hl, hok', hdk, hsub g hgm⟩)) u (fun h => by obtain ⟨d, h⟩ := h; rw [hd] at h; cases h))
      · have hl : late i = true := by
          cases h : late i with
          | true => rfl
          | false => rw [hall i hin h] at hLf; cases hLf
        obtain ⟨o', x, c, ho', hop, hgd, hdst, hev, hFc, hbl⟩ := hlate i hin hl
        rw [ho] at ho'; cases ho'
        refine ⟨by simp [Region.wanted, hgd], wp_move hop ?_⟩
        rw [hev a (hframe hrep)]
        refine hK _ _ ⟨size_setT hLs, _, size_setT hs5, hset, .inr ⟨by rw [getD_set_other hne]; exact hLn, fun j hj hlj => ?_, w1, ?_, rfl⟩⟩
        · have hji : j ≠ i := fun e => by rw [e, hl] at hlj; cases hlj
          rw [getD_set_other hji]; exact hall j hj hlj
        · exact repb_step hok hN hF hrep (by omega) hLf ho hpre5 (grown_refl w1 none) (.inl hdst) (fun g e => by cases e) (hFc w1) (nobl hbl) (nobl hbl) c (fun _ => rfl)
    · obtain rfl : i = n := by omega
      rw [hgetn] at ho; cases ho
      rcases hI with ⟨hLn, hrep⟩ | ⟨hLn, _⟩
      · have hdone : ∀ j, j < i → late j = false → L5.getD j false = true := by
          intro j hj hlj
          have h1 := List.all_eq_true.1 hso j (by simpa using hj)
          rw [hlj, Bool.false_or] at h1
          obtain ⟨m, hm', h2⟩ := Array.any_eq_true.1 h1
          simp only [Bool.and_eq_true, beq_iff_eq] at h2
          rw [hag j hj, ← h2.2]
          exact hpre _ (Array.getElem_mem hm') h2.1
        refine hstore a w K hrep.old (hframe hrep) (fun k hk hlk hdk => (hrep.item k (by omega) ⟨hdone k hk hlk, ?_⟩).1) fun u => ?_
        · have : ¬ die k < L5.size := by omega
          simp [Array.getD, this]
        · refine hK _ _ ⟨size_setT hLs, L5, hs5, fun k hk => ?_, .inr ⟨getD_set_same (by omega) _, hdone, w, ?_, rfl⟩⟩
          · rw [getD_set_other (by omega)]; exact hag k hk
          · rw [hd]; exact hrep
      · rw [hLi] at hLn; cases hLn
  · intro L a w hl hI
    obtain ⟨hLs, L5, hs5, hag, hI⟩ := hI
    rcases hI with ⟨hLn, _⟩ | ⟨_, _, w1, hrep, rfl⟩
    · rw [hl n (by omega)] at hLn; cases hLn
    · have hlive : ∀ k, k < n → n ≤ die k → liveAt die L5 k := fun k hk hd => ⟨by rw [hag k hk]; exact hl k (by omega), by
        have : ¬ die k < L5.size := by omega
        simp [Array.getD, this]⟩
      exact hend a w1 hrep.old (fun k hk hd => ⟨(hrep.item k (by omega) (hlive k hk hd)).1, (hrep.item k (by omega) (hlive k hk hd)).2.2⟩)
        (fun k j hk hj hkj hdk hdj hok => hrep.apart k j (by omega) (by omega) hkj (hlive k hk hdk) (hlive j hj hdj) hok) (repb_frame hok hrep)
end
end Go.Proofs.YtpeepiboocdnaaaDoor
