/- Plain facts on memory that the proofs of this seat share: a slice that reads as a list, a row of the call's own that grows, a block that is known whole. No program. -/
import Derived.WalkKit
import Derived.WalkSpells
import Derived.WalkLawsBesides
import Derived.Deep.QuietTactic
import Derived.BigQuiet
import Derived.Lib.Hide
import Derived.Lib.AppendStr
import Derived.Maps.AppendAt
import Derived.Laws.CopyOwn
import Derived.Deep.RegionWith
import Derived.Outline
namespace Go.Proofs.YtmfnncfiaaeknaaDoor
open Go.RowKit

/-- A byte as a value. -/
def bv (b : UInt8) : Value := .int .u8 (b.toNat : Int)
/-- An int as a value. -/
def iv (n : Int) : Value := .int .i64 n
/-- A text as a value. -/
def sv (l : List UInt8) : Value := .string ⟨l.toArray⟩

/-! ## What may have changed -/

theorem grown_refl (w : World) (row : Option Nat) : w.grownBy w row := ⟨rfl, rfl, rfl, Nat.le_refl _, fun _ _ _ => rfl⟩
theorem grown_drewN {w w' : World} {row : Option Nat} (h : w.grownBy w' row) (n : Nat) : w.grownBy (w'.drewN n) row := ⟨h.os, h.tape, h.output, h.size, h.block⟩
theorem grown_drew {w w' : World} {row : Option Nat} (h : w.grownBy w' row) : w.grownBy w'.drew row := ⟨h.os, h.tape, h.output, h.size, h.block⟩
theorem grown_alloc {w w' : World} {row : Option Nat} (h : w.grownBy w' row) (o : Obj) : w.grownBy (w'.alloc o) row :=
  ⟨h.os, h.tape, h.output, Nat.le_trans h.size (by simp), fun k hk hne => (Below.heap_alloc w' o k (Nat.lt_of_lt_of_le hk h.size)).trans (h.block k hk hne)⟩
theorem grown_set {w w' : World} {row : Option Nat} (h : w.grownBy w' row) {p : Addr} (hp : some p.block = row ∨ w.heap.size ≤ p.block) (u : Value) : w.grownBy (w'.setCell p u) row :=
  ⟨h.os, h.tape, h.output, by simpa [World.setCell] using h.size, fun k hk hne => (Below.heap_setCell w' p u k (by
    rintro rfl
    rcases hp with hp | hp
    · exact hne hp
    · omega)).trans (h.block k hk hne)⟩
theorem grown_trans {a b c : World} {r r' : Option Nat} (h : a.grownBy b r) (k : b.grownBy c r') (hr : r' = r ∨ ∀ g, r' = some g → a.heap.size ≤ g) : a.grownBy c r :=
  ⟨k.os.trans h.os, k.tape.trans h.tape, k.output.trans h.output, Nat.le_trans h.size k.size, fun i hi hne => (k.block i (Nat.lt_of_lt_of_le hi h.size) (fun e => by
    rcases hr with rfl | hr
    · exact hne e
    · have := hr _ e.symm; omega)).trans (h.block i hi hne)⟩
theorem grown_none {a b c : World} {r : Option Nat} (h : a.grownBy b r) (k : b.grownBy c none) : a.grownBy c r := grown_trans h k (.inr fun _ e => by cases e)
theorem grown_same {a b c : World} {r : Option Nat} (h : a.grownBy b r) (k : b.grownBy c r) : a.grownBy c r := grown_trans h k (.inl rfl)
theorem grown_any {a b : World} (h : a.grownBy b none) (r : Option Nat) : a.grownBy b r := ⟨h.os, h.tape, h.output, h.size, fun k hk _ => h.block k hk (by simp)⟩
theorem grown_below {a b : World} (h : a.grownBy b none) : Below a.heap.size a b := ⟨h.os, h.tape, h.output, h.size, fun k hk => h.block k hk (by simp)⟩
theorem grown_of_below {a b : World} (h : Below a.heap.size a b) : a.grownBy b none := ⟨h.os, h.tape, h.output, h.size, fun k hk _ => h.block k hk⟩
theorem grown_cell {w w' : World} {row : Option Nat} (h : w.grownBy w' row) {a : Addr} (hb : a.block < w.heap.size) (hne : some a.block ≠ row) : w'.cell? a = w.cell? a :=
  World.cell?_of_block (h.block a.block hb hne)
theorem grown_frozen {w w' : World} {row : Option Nat} (h : w.grownBy w' row) {a : Addr} (hb : a.block < w.heap.size) (hne : some a.block ≠ row) : w'.frozen? a = w.frozen? a :=
  World.frozen?_of_block (h.block a.block hb hne)

/-! ## A slice that reads as a list -/

/-- From the address A on the cells xs are there (of no cells nothing is asked). -/
def RdAt (w : World) (A : Option Addr) (xs : List Value) : Prop :=
  xs = [] ∨ ∃ ad, A = some ad ∧ ∀ j u, xs[j]? = some u → w.cell? (ad.add j) = some u

theorem add_block (a : Addr) (n : Nat) : (a.add n).block = a.block := by unfold Addr.add; split <;> rfl
theorem add_add (a : Addr) (i j : Nat) : (a.add i).add j = a.add (i + j) := by
  rcases Nat.eq_zero_or_pos i with rfl | hi
  · simp [Addr.add]
  · rcases Nat.eq_zero_or_pos j with rfl | hj
    · simp [Addr.add]
    · have e1 : ¬ i = 0 := by omega
      have e2 : ¬ j = 0 := by omega
      simp [Addr.add, e1, e2, Nat.add_assoc]

section
variable {w w' : World} {A : Option Addr} {xs : List Value}
theorem RdAt.nil : RdAt w A [] := .inl rfl
theorem RdAt.get (h : RdAt w A xs) {k : Nat} (hk : k < xs.length) : ∃ ad, A = some ad ∧ w.cell? (ad.add k) = some xs[k] := by
  rcases h with rfl | ⟨ad, hA, hc⟩
  · simp at hk
  · exact ⟨ad, hA, hc k _ (List.getElem?_eq_getElem hk)⟩
/-- Kept where no block of it has changed. -/
theorem RdAt.keep (h : RdAt w A xs) {row : Option Nat} (hg : w.grownBy w' row) (hne : ∀ ad, A = some ad → some ad.block ≠ row) : RdAt w' A xs := by
  rcases h with h | ⟨ad, rfl, hc⟩
  · exact .inl h
  · exact .inr ⟨ad, rfl, fun j u hu => hg.cell (hc j u hu) (by rw [add_block]; exact hne ad rfl)⟩
theorem RdAt.kept (h : RdAt w A xs) (hg : w.grownBy w' none) : RdAt w' A xs := h.keep hg fun _ _ => by simp
theorem RdAt.drewN (h : RdAt w A xs) (k : Nat) : RdAt (w.drewN k) A xs := h
theorem RdAt.alloc (h : RdAt w A xs) (o : Obj) : RdAt (w.alloc o) A xs := h.kept (grown_alloc (grown_refl w none) o)
theorem RdAt.lt (h : RdAt w A xs) (hx : xs ≠ []) : ∀ ad, A = some ad → ad.block < w.heap.size := by
  intro ad hA
  rcases h with h | ⟨ad', hA', hc⟩
  · exact absurd h hx
  · rw [hA] at hA'
    injection hA' with e
    subst e
    obtain ⟨x, rest, rfl⟩ := List.exists_cons_of_ne_nil hx
    have := World.block_lt_of_cell? w _ (hc 0 x rfl)
    rwa [add_block] at this
/-- The first k of them. -/
theorem RdAt.take (h : RdAt w A xs) (k : Nat) : RdAt w A (xs.take k) := by
  rcases h with rfl | ⟨ad, hA, hc⟩
  · exact .inl (by simp)
  · exact .inr ⟨ad, hA, fun j u hu => by
      rw [List.getElem?_take] at hu
      split at hu
      · exact hc j u hu
      · cases hu⟩
/-- Behind the first k of them. -/
theorem RdAt.drop (h : RdAt w A xs) (k : Nat) : RdAt w (A.map (·.add k)) (xs.drop k) := by
  rcases h with rfl | ⟨ad, rfl, hc⟩
  · exact .inl (by simp)
  · exact .inr ⟨ad.add k, rfl, fun j u hu => by
      rw [add_add]; rw [List.getElem?_drop] at hu; exact hc _ u hu⟩
/-- 's[k:]' as the model has it: at k = cap the old address stays. -/
theorem RdAt.cut (h : RdAt w A xs) {k c : Nat} (hc : xs.length ≤ c) : RdAt w (if c = k then A else A.map (·.add k)) (xs.drop k) := by
  by_cases e : c = k
  · rw [if_pos e]; exact .inl (List.drop_eq_nil_of_le (by omega))
  · rw [if_neg e]; exact h.drop k
end

theorem RdAt.ofOwn {w : World} {base e size n c : Nat} {A : Option Addr} {xs : List Value} (h : w.ownsRow base e size (.slice A n c) n xs) : RdAt w A xs := by
  rcases h.2 with ⟨_, hn⟩ | ⟨g, cap, cur, hv, _, hg, _⟩
  · have hl := h.1
    rw [hn, Nat.zero_mul] at hl
    exact .inl (List.eq_nil_of_length_eq_zero hl)
  · injection hv with hA
    subst hA
    exact .inr ⟨_, rfl, h.cells (g := g) rfl⟩
theorem RdAt.ofOwn1 {w : World} {base e n c : Nat} {A : Option Addr} {xs : List Value} (h : w.ownsRow base e 1 (.slice A n c) n xs) : xs.length = n := by simpa using h.1

/-- What owns a row is a slice of so many. -/
theorem own_slice {w : World} {base e size n : Nat} {v : Value} {xs : List Value} (h : w.ownsRow base e size v n xs) : ∃ A c, v = .slice A n c ∧ n ≤ c ∧ c ≤ maxLen := by
  rcases h.2 with ⟨rfl, rfl⟩ | ⟨g, cap, cur, rfl, _, _, h1, h2, _⟩
  · exact ⟨none, 0, rfl, Nat.le_refl _, Nat.zero_le _⟩
  · exact ⟨_, cap, rfl, h1, h2⟩

abbrev RdB (w : World) (A : Option Addr) (l : List UInt8) : Prop := RdAt w A (l.map bv)
abbrev RdI (w : World) (A : Option Addr) (l : List Int) : Prop := RdAt w A (l.map iv)
abbrev RdS (w : World) (A : Option Addr) (l : List (List UInt8)) : Prop := RdAt w A (l.map sv)

theorem RdB.get {w : World} {A : Option Addr} {l : List UInt8} (h : RdB w A l) {k : Nat} (hk : k < l.length) :
    ∃ ad, A = some ad ∧ w.cell? (ad.add k) = some (.int .u8 (l[k].toNat : Int)) := by
  obtain ⟨ad, hA, hc⟩ := RdAt.get h (k := k) (by simpa using hk)
  exact ⟨ad, hA, by simpa [bv] using hc⟩
theorem RdI.get {w : World} {A : Option Addr} {l : List Int} (h : RdI w A l) {k : Nat} (hk : k < l.length) :
    ∃ ad, A = some ad ∧ w.cell? (ad.add k) = some (.int .i64 l[k]) := by
  obtain ⟨ad, hA, hc⟩ := RdAt.get h (k := k) (by simpa using hk)
  exact ⟨ad, hA, by simpa [iv] using hc⟩
theorem RdS.get {w : World} {A : Option Addr} {l : List (List UInt8)} (h : RdS w A l) {k : Nat} (hk : k < l.length) :
    ∃ ad, A = some ad ∧ w.cell? (ad.add k) = some (.string ⟨l[k].toArray⟩) := by
  obtain ⟨ad, hA, hc⟩ := RdAt.get h (k := k) (by simpa using hk)
  exact ⟨ad, hA, by simpa [sv] using hc⟩

theorem bv_one (l : List UInt8) : ∀ u ∈ l.map bv, u.oneCell' = true := by
  intro u hu; simp only [List.mem_map] at hu; obtain ⟨b, _, rfl⟩ := hu; rfl
theorem iv_one (l : List Int) : ∀ u ∈ l.map iv, u.oneCell' = true := by
  intro u hu; simp only [List.mem_map] at hu; obtain ⟨b, _, rfl⟩ := hu; rfl
theorem sv_one (l : List (List UInt8)) : ∀ u ∈ l.map sv, u.oneCell' = true := by
  intro u hu; simp only [List.mem_map] at hu; obtain ⟨b, _, rfl⟩ := hu; rfl

theorem foldl_bytes (l : List UInt8) : ∀ s : ByteArray, ((l.map fun b => (b.toNat : Int)).foldl (fun r n => r.push (UInt8.ofNat n.toNat)) s).data.toList = s.data.toList ++ l := by
  induction l with
  | nil => intro s; simp
  | cons b r ih => intro s; simp only [List.map_cons, List.foldl_cons]; rw [ih]; simp [ByteArray.push]
/-- 'string(b)'. -/
theorem run_text {P : Program} (w : World) (src dst e : TypeId) {A : Option Addr} (c : Nat) {l : List UInt8} (hs : P.underlying src = some (.slice e)) (he : P.underlying e = some (.int .u8)) (hd : P.underlying dst = some .string)
    (hr : RdB w A l) : (convert src dst (.slice A l.length c)).run P w = .ok (.string ⟨l.toArray⟩) w := by
  rw [run_convert_bytes_string w src dst e A l.length c hs he hd]
  rcases hr with h | ⟨ad, rfl, hc⟩
  · have : l = [] := by simpa using h
    subst this
    cases A with
    | none => rfl
    | some ad => rfl
  · have hl := run_loadCells_list (P := P) w ad (l.map bv) hc
    rw [List.length_map] at hl
    have hl' : (loadCells ad l.length).run P w = .ok ((l.map fun b => (b.toNat : Int)).map (Value.int .u8)).toArray w := by rw [hl]; simp [bv, Function.comp_def]
    rw [run_bytesToString w ad l.length c _ hl']
    congr 2
    have h := foldl_bytes l ByteArray.empty
    generalize ((l.map fun b => (b.toNat : Int)).foldl (fun r n => r.push (UInt8.ofNat n.toNat)) ByteArray.empty) = z at h ⊢
    cases z with
    | mk d =>
      congr 1
      apply Array.ext'
      simpa using h

/-- Hashes (rows of 32 bytes) from the address A on. -/
def RdH (w : World) (A : Option Addr) (hs : List (List UInt8)) : Prop :=
  hs = [] ∨ ∃ ad, A = some ad ∧ ∀ k h, hs[k]? = some h → ∀ j u, (h.map bv)[j]? = some u → w.cell? ((ad.add (k * 32)).add j) = some u
theorem RdH.keep {w w' : World} {A : Option Addr} {hs : List (List UInt8)} (h : RdH w A hs) {row : Option Nat} (hg : w.grownBy w' row) (hne : ∀ ad, A = some ad → some ad.block ≠ row) : RdH w' A hs := by
  rcases h with h | ⟨ad, rfl, hc⟩
  · exact .inl h
  · exact .inr ⟨ad, rfl, fun k x hx j u hu => hg.cell (hc k x hx j u hu) (by rw [add_block, add_block]; exact hne ad rfl)⟩
theorem RdH.kept {w w' : World} {A : Option Addr} {hs : List (List UInt8)} (h : RdH w A hs) (hg : w.grownBy w' none) : RdH w' A hs := h.keep hg fun _ _ => by simp
theorem RdH.get {w : World} {A : Option Addr} {hs : List (List UInt8)} (h : RdH w A hs) {k : Nat} (hk : k < hs.length) :
    ∃ ad, A = some ad ∧ ∀ j u, (hs[k].map bv)[j]? = some u → w.cell? ((ad.add (k * 32)).add j) = some u := by
  rcases h with rfl | ⟨ad, rfl, hc⟩
  · simp at hk
  · exact ⟨ad, rfl, hc k _ (List.getElem?_eq_getElem hk)⟩

/-- A whole array, loaded from wherever its cells lie. -/
theorem run_loadVar_cells {P : Program} (w : World) (ad : Addr) (ty : TypeId) (cs : List Value) (d : TypeDesc) (hc : ∀ j u, cs[j]? = some u → w.cell? (ad.add j) = some u)
    (hu : P.underlying ty = some d) (hd : (match d with | .struct _ | .array _ _ => true | _ => false) = true) (hi : (P.info? ty).map (·.size) = some cs.length) :
    (loadVar ty ad).run P w = .ok (.agg cs.toArray) w := by
  have hl := run_loadCells_list (P := P) w ad cs hc
  obtain ⟨i, hq, hs⟩ := Option.map_eq_some_iff.1 hi
  have hagg : (isAgg ty).run P w = .ok true w := by
    unfold isAgg
    rw [Sem.run_bind, run_underlying hu w]
    cases d <;> simp_all
  simp [loadVar, Sem.run_bind, hagg, sizeOf, typeInfo, hq, hs, hl]
theorem wpList_load_agg {P : Program} {ops : Array Oper} {rest : List Oper} {o : Oper} {a : Act} {w : World} {Q : Exit → Act → World → Prop} (hgd : o.guard = none) (ty : TypeId) (x : Operand) (ho : o.op = .load ty x)
    (ad : Addr) (hx : a.eval x = .pointer (some ad)) (cs : List Value) (d : TypeDesc) (hc : ∀ j u, cs[j]? = some u → w.cell? (ad.add j) = some u)
    (hu : P.underlying ty = some d) (hd : (match d with | .struct _ | .array _ _ => true | _ => false) = true) (hi : (P.info? ty).map (·.size) = some cs.length)
    (h : wpList P ops Q rest (a.put o.dst (.agg cs.toArray)) w) : wpList P ops Q (o :: rest) a w := by
  refine wpList_plain hgd fun K hK => ?_
  unfold Oper.wp execOp
  simp only [ho, hx, Instr.loadAt, Instr.sureAddr, Sem.run_bind, Sem.run_pure, Result.andThen_ok, run_loadVar_cells w ad ty cs d hc hu hd hi]
  exact hK _ _ h
theorem grown_setRow {w w' : World} {row : Option Nat} (h : w.grownBy w' row) {g : Nat} (hg : some g = row ∨ w.heap.size ≤ g) (cs : Array Value) : w.grownBy (w'.setRow g cs) row :=
  ⟨h.os, h.tape, h.output, by simpa using h.size, fun k hk hne => (setRow_other w' g k cs (by
    rintro rfl
    rcases hg with hg | hg
    · exact hne hg
    · omega)).trans (h.block k hk hne)⟩
/-- The cells of a known block. -/
theorem rd_row {w : World} {g : Nat} {cs : List Value} {t : TypeId} {fr : Nat × Nat} (h : w.heap[g]? = some (.cells cs.toArray t fr)) : RdAt w (some ⟨g, 0, none⟩) cs := by
  refine .inr ⟨_, rfl, fun j u hu => ?_⟩
  have e : (⟨g, 0, none⟩ : Addr).add j = ⟨g, j, none⟩ := by
    unfold Addr.add; split <;> simp_all
  rw [e, cell_of_row w g j _ t fr h]
  simpa using hu

/-! ## A row of the call's own, that grows -/

/-- w' is w but for v's own row (and new blocks), and v' lies in v's row or in a new one. -/
def Grew (w w' : World) (v v' : Value) : Prop := w.grownBy w' v.ownBlock ∧ (v'.ownBlock = v.ownBlock ∨ ∃ g, v'.ownBlock = some g ∧ w.heap.size ≤ g)
theorem Grew.refl (w : World) (v : Value) : Grew w w v v := ⟨grown_refl _ _, .inl rfl⟩
theorem Grew.trans {a b c : World} {u v x : Value} (h : Grew a b u v) (k : Grew b c v x) : Grew a c u x := by
  refine ⟨grown_trans h.1 k.1 ?_, ?_⟩
  · rcases h.2 with e | ⟨g, e, hg⟩
    · exact .inl e
    · exact .inr fun g' e' => by rw [e] at e'; injection e' with e'; omega
  · rcases k.2 with e | ⟨g, e, hg⟩
    · rcases h.2 with e' | ⟨g', e', hg'⟩
      · exact .inl (e.trans e')
      · exact .inr ⟨g', e.trans e', hg'⟩
    · exact .inr ⟨g, e, Nat.le_trans h.1.size hg⟩
theorem Grew.pre {a b c : World} {u v : Value} (h : a.grownBy b none) (k : Grew b c u v) : Grew a c u v :=
  ⟨grown_same (grown_any h _) k.1, k.2.imp id fun ⟨g, e, hg⟩ => ⟨g, e, Nat.le_trans h.size hg⟩⟩
theorem Grew.post {a b c : World} {u v : Value} (h : Grew a b u v) (k : b.grownBy c none) : Grew a c u v := ⟨grown_none h.1 k, h.2⟩
theorem Grew.nil {a b : World} {v : Value} (h : Grew a b (.slice none 0 0) v) : a.grownBy b none := h.1
/-- From a literal of the call's own on: as from nothing. -/
theorem Grew.fresh {a b : World} {o : Obj} {n c : Nat} {v : Value} (h : Grew (a.alloc o) b (.slice (some ⟨a.heap.size, 0, none⟩) n c) v) : Grew a b (.slice none 0 0) v := by
  have h2 := Grew.pre (grown_alloc (grown_refl a none) _) h
  refine ⟨grown_trans (grown_refl a _) h2.1 (.inr fun g e => by simp [Value.ownBlock] at e; omega), .inr ?_⟩
  rcases h2.2 with e | ⟨g, e, h⟩
  · exact ⟨_, e, Nat.le_refl _⟩
  · exact ⟨g, e, h⟩
theorem Grew.new {a b : World} {v : Value} (h : Grew a b (.slice none 0 0) v) : ∀ g, v.ownBlock = some g → a.heap.size ≤ g := by
  intro g hg
  rcases h.2 with e | ⟨g', e, h'⟩
  · rw [e] at hg; cases hg
  · rw [e] at hg; injection hg with hg; omega
/-- Behind it another row, that is not its, is as it was. -/
theorem Grew.own {a b : World} {u v x : Value} {base e size n : Nat} {xs : List Value} (h : Grew a b u v) (k : a.ownsRow base e size x n xs) (hne : x.ownBlock = none ∨ x.ownBlock ≠ u.ownBlock) : b.ownsRow base e size x n xs :=
  k.kept h.1 hne

section
variable {P : Program} (w : World)
theorem run_append_empty {t ty e : TypeId} {i : TypeInfo} {base size : Nat} (ht : P.underlying t = some (.slice e)) (hi : P.info? e = some i)
    {v : Value} {n : Nat} {xs : List Value} (hown : w.ownsRow base e size v n xs) (A : Option Addr) (c : Nat) : (Builtin.append_ #[t, t] ty #[v, .slice A 0 c]).run P w = .ok v w := by
  rcases hown.2 with ⟨rfl, rfl⟩ | ⟨g, cap, cur, rfl, _, _, hn, _⟩ <;> cases A <;>
    simp [Builtin.append_, run_underlying ht, sizeOf, typeInfo, Builtin.lenOf, Builtin.firstCells, storeCells, loadCells, loadCellsFrom, *]

/-- 'append(v, x...)', one cell an element, x whatever reads as 'news'. -/
theorem run_append_rd {t ty e : TypeId} {i : TypeInfo} {z : Value} {base bytes : Nat} (ht : P.underlying t = some (.slice e)) (hi : P.info? e = some i) (hz : i.zero = some z) (hs : i.size = 1) (hb : i.bytes = bytes) (hz1 : z.cells.size = 1)
    {v : Value} {xs : List Value} (hown : w.ownsRow base e 1 v xs.length xs) {A : Option Addr} {c : Nat} {news : List Value} (hr : RdAt w A news) (h1 : ∀ u ∈ news, u.oneCell' = true)
    (hbytes : (xs.length + news.length) * bytes ≤ 140737488355328) (h63 : xs.length + news.length ≤ maxLen) (hbase : base ≤ w.heap.size) :
    ∃ v' w', (Builtin.append_ #[t, t] ty #[v, .slice A news.length c]).run P w = .ok v' w' ∧ w'.ownsRow base e 1 v' (xs ++ news).length (xs ++ news) ∧ Grew w w' v v' := by
  rcases hr with rfl | ⟨ad, rfl, hc⟩
  · exact ⟨v, w, run_append_empty w ht hi hown A c, by simpa using hown, Grew.refl w v⟩
  · obtain ⟨v', w', hrun, ho, hg, _, hat'⟩ := run_append_own_at (P := P) w base t ty e i z 1 bytes ht hi hz hs hb hz1 (by decide) v xs.length xs hown ad news.length c news (by simp) hc h1 h63 hbytes hbase
    refine ⟨v', w', hrun, by rw [List.length_append]; exact ho, hg, ?_⟩
    rcases hat' with e | e
    · exact .inl e
    · exact .inr ⟨_, e, Nat.le_refl _⟩

theorem wpList_append_rd {ops : Array Oper} {rest : List Oper} {o : Oper} {a : Act} {Q : Exit → Act → World → Prop} (hgd : o.guard = none) (s x : Operand) (t : TypeId)
    (ho : o.op = .call { callee := .builtin .append, args := #[s, x], argTypes := #[t, t] })
    {e : TypeId} {i : TypeInfo} {z : Value} {base bytes : Nat} (ht : P.underlying t = some (.slice e)) (hi : P.info? e = some i) (hz : i.zero = some z) (hs : i.size = 1) (hb : i.bytes = bytes) (hz1 : z.cells.size = 1)
    {v : Value} {xs : List Value} (hv : a.eval s = v) (hown : w.ownsRow base e 1 v xs.length xs) {A : Option Addr} {c : Nat} {news : List Value} (hx : a.eval x = .slice A news.length c) (hr : RdAt w A news) (h1 : ∀ u ∈ news, u.oneCell' = true)
    (hbytes : (xs.length + news.length) * bytes ≤ 140737488355328) (h63 : xs.length + news.length ≤ maxLen) (hbase : base ≤ w.heap.size)
    (h : ∀ v' w', w'.ownsRow base e 1 v' (xs ++ news).length (xs ++ news) → Grew w w' v v' → wpList P ops Q rest (a.put o.dst v') w') : wpList P ops Q (o :: rest) a w := by
  refine wpList_plain hgd fun K hK => ?_
  obtain ⟨v', w', hrun, h2, h3⟩ := run_append_rd (P := P) w (ty := o.type) (c := c) ht hi hz hs hb hz1 hown hr h1 hbytes h63 hbase
  unfold Oper.wp execOp
  simp only [ho, resolve, invoke, builtin, Sem.run_bind, Sem.run_pure, Result.andThen_ok, List.map_toArray, List.map_cons, List.map_nil, hv, hx, hrun]
  exact hK _ _ (h v' w' h2 h3)
end

end Go.Proofs.YtmfnncfiaaeknaaDoor
