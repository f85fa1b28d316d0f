/- Plain facts on memory that the proofs of this seat share: a slice that reads as a list, a row of the call's own that grows, a block that is known whole. No program. Rows of the call's own (of bytes, of any one-celled values), appended to; a hash's comparison: facts that need no function of the project. A number brought into bounds: the contract of the book's Within. The row's frame, once for every law of this seat: a walk that ends in true and changes nothing that was there gives the given statement; and each kind of argument opened to what the contracts ask. A region that draws its order and holds calls, literals and appends: walked once an operation, not once an order. Each operation leaves an item (its slot's value, with a fact that lasts) until the operation that uses it up; the order of what is apart does not matter. -/
import Derived.WalkKit
import Derived.WalkSpells
import Derived.WalkLawsBesides
import Derived.Deep.QuietTactic
import Derived.BigQuiet
import Derived.Lib.Hide
import Derived.Lib.AppendStr
import Derived.Maps.AppendAt
import Derived.Laws.CopyOwn
import Derived.Deep.RegionWith
import Derived.Outline
import Derived.Test.YtpeepiboocdnaaaDoorRows
import Derived.Stop.BytesEq
import Derived.ProofKit
import Derived.OpenShut
import Derived.RegionTactic
namespace Go.Proofs.YtpeepiboocdnaaaDoor
open Go.RowKit

/-- A byte as a value. -/
def bv (b : UInt8) : Value := .int .u8 (b.toNat : Int)
/-- An int as a value. -/
def iv (n : Int) : Value := .int .i64 n
/-- A text as a value. -/
def sv (l : List UInt8) : Value := .string ⟨l.toArray⟩

/-! ## What may have changed -/

theorem grown_refl (w : World) (row : Option Nat) : w.grownBy w row := ⟨rfl, rfl, rfl, Nat.le_refl _, fun _ _ _ => rfl⟩
theorem grown_drewN {w w' : World} {row : Option Nat} (h : w.grownBy w' row) (n : Nat) : w.grownBy (w'.drewN n) row := ⟨h.os, h.tape, h.output, h.size, h.block⟩
theorem grown_drew {w w' : World} {row : Option Nat} (h : w.grownBy w' row) : w.grownBy w'.drew row := ⟨h.os, h.tape, h.output, h.size, h.block⟩
theorem grown_alloc {w w' : World} {row : Option Nat} (h : w.grownBy w' row) (o : Obj) : w.grownBy (w'.alloc o) row :=
  ⟨h.os, h.tape, h.output, Nat.le_trans h.size (by simp), fun k hk hne => (Below.heap_alloc w' o k (Nat.lt_of_lt_of_le hk h.size)).trans (h.block k hk hne)⟩
theorem grown_set {w w' : World} {row : Option Nat} (h : w.grownBy w' row) {p : Addr} (hp : some p.block = row ∨ w.heap.size ≤ p.block) (u : Value) : w.grownBy (w'.setCell p u) row :=
  ⟨h.os, h.tape, h.output, by simpa [World.setCell] using h.size, fun k hk hne => (Below.heap_setCell w' p u k (by
    rintro rfl
    rcases hp with hp | hp
    · exact hne hp
    · omega)).trans (h.block k hk hne)⟩
theorem grown_trans {a b c : World} {r r' : Option Nat} (h : a.grownBy b r) (k : b.grownBy c r') (hr : r' = r ∨ ∀ g, r' = some g → a.heap.size ≤ g) : a.grownBy c r :=
  ⟨k.os.trans h.os, k.tape.trans h.tape, k.output.trans h.output, Nat.le_trans h.size k.size, fun i hi hne => (k.block i (Nat.lt_of_lt_of_le hi h.size) (fun e => by
    rcases hr with rfl | hr
    · exact hne e
    · have := hr _ e.symm; omega)).trans (h.block i hi hne)⟩
theorem grown_none {a b c : World} {r : Option Nat} (h : a.grownBy b r) (k : b.grownBy c none) : a.grownBy c r := grown_trans h k (.inr fun _ e => by cases e)
theorem grown_same {a b c : World} {r : Option Nat} (h : a.grownBy b r) (k : b.grownBy c r) : a.grownBy c r := grown_trans h k (.inl rfl)
theorem grown_any {a b : World} (h : a.grownBy b none) (r : Option Nat) : a.grownBy b r := ⟨h.os, h.tape, h.output, h.size, fun k hk _ => h.block k hk (by simp)⟩
theorem grown_below {a b : World} (h : a.grownBy b none) : Below a.heap.size a b := ⟨h.os, h.tape, h.output, h.size, fun k hk => h.block k hk (by simp)⟩
theorem grown_of_below {a b : World} (h : Below a.heap.size a b) : a.grownBy b none := ⟨h.os, h.tape, h.output, h.size, fun k hk _ => h.block k hk⟩
theorem grown_cell {w w' : World} {row : Option Nat} (h : w.grownBy w' row) {a : Addr} (hb : a.block < w.heap.size) (hne : some a.block ≠ row) : w'.cell? a = w.cell? a :=
  World.cell?_of_block (h.block a.block hb hne)
theorem grown_frozen {w w' : World} {row : Option Nat} (h : w.grownBy w' row) {a : Addr} (hb : a.block < w.heap.size) (hne : some a.block ≠ row) : w'.frozen? a = w.frozen? a :=
  World.frozen?_of_block (h.block a.block hb hne)

/-! ## A slice that reads as a list -/

/-- From the address A on the cells xs are there (of no cells nothing is asked). -/
def RdAt (w : World) (A : Option Addr) (xs : List Value) : Prop :=
  xs = [] ∨ ∃ ad, A = some ad ∧ ∀ j u, xs[j]? = some u → w.cell? (ad.add j) = some u

theorem add_block (a : Addr) (n : Nat) : (a.add n).block = a.block := by unfold Addr.add; split <;> rfl
theorem add_add (a : Addr) (i j : Nat) : (a.add i).add j = a.add (i + j) := by
  rcases Nat.eq_zero_or_pos i with rfl | hi
  · simp [Addr.add]
  · rcases Nat.eq_zero_or_pos j with rfl | hj
    · simp [Addr.add]
    · have e1 : ¬ i = 0 := by omega
      have e2 : ¬ j = 0 := by omega
      simp [Addr.add, e1, e2, Nat.add_assoc]

section
variable {w w' : World} {A : Option Addr} {xs : List Value}
theorem RdAt.nil : RdAt w A [] := .inl rfl
theorem RdAt.get (h : RdAt w A xs) {k : Nat} (hk : k < xs.length) : ∃ ad, A = some ad ∧ w.cell? (ad.add k) = some xs[k] := by
  rcases h with rfl | ⟨ad, hA, hc⟩
  · simp at hk
  · exact ⟨ad, hA, hc k _ (List.getElem?_eq_getElem hk)⟩
/-- Kept where no block of it has changed. -/
theorem RdAt.keep (h : RdAt w A xs) {row : Option Nat} (hg : w.grownBy w' row) (hne : ∀ ad, A = some ad → some ad.block ≠ row) : RdAt w' A xs := by
  rcases h with h | ⟨ad, rfl, hc⟩
  · exact .inl h
  · exact .inr ⟨ad, rfl, fun j u hu => hg.cell (hc j u hu) (by rw [add_block]; exact hne ad rfl)⟩
theorem RdAt.kept (h : RdAt w A xs) (hg : w.grownBy w' none) : RdAt w' A xs := h.keep hg fun _ _ => by simp
theorem RdAt.drewN (h : RdAt w A xs) (k : Nat) : RdAt (w.drewN k) A xs := h
theorem RdAt.alloc (h : RdAt w A xs) (o : Obj) : RdAt (w.alloc o) A xs := h.kept (grown_alloc (grown_refl w none) o)
theorem RdAt.lt (h : RdAt w A xs) (hx : xs ≠ []) : ∀ ad, A = some ad → ad.block < w.heap.size := by
  intro ad hA
  rcases h with h | ⟨ad', hA', hc⟩
  · exact absurd h hx
  · rw [hA] at hA'
    injection hA' with e
    subst e
    obtain ⟨x, rest, rfl⟩ := List.exists_cons_of_ne_nil hx
    have := World.block_lt_of_cell? w _ (hc 0 x rfl)
    rwa [add_block] at this
/-- The first k of them. -/
theorem RdAt.take (h : RdAt w A xs) (k : Nat) : RdAt w A (xs.take k) := by
  rcases h with rfl | ⟨ad, hA, hc⟩
  · exact .inl (by simp)
  · exact .inr ⟨ad, hA, fun j u hu => by
      rw [List.getElem?_take] at hu
      split at hu
      · exact hc j u hu
      · cases hu⟩
/-- Behind the first k of them. -/
theorem RdAt.drop (h : RdAt w A xs) (k : Nat) : RdAt w (A.map (·.add k)) (xs.drop k) := by
  rcases h with rfl | ⟨ad, rfl, hc⟩
  · exact .inl (by simp)
  · exact .inr ⟨ad.add k, rfl, fun j u hu => by
      rw [add_add]; rw [List.getElem?_drop] at hu; exact hc _ u hu⟩
/-- 's[k:]' as the model has it: at k = cap the old address stays. -/
theorem RdAt.cut (h : RdAt w A xs) {k c : Nat} (hc : xs.length ≤ c) : RdAt w (if c = k then A else A.map (·.add k)) (xs.drop k) := by
  by_cases e : c = k
  · rw [if_pos e]; exact .inl (List.drop_eq_nil_of_le (by omega))
  · rw [if_neg e]; exact h.drop k
end

theorem RdAt.ofOwn {w : World} {base e size n c : Nat} {A : Option Addr} {xs : List Value} (h : w.ownsRow base e size (.slice A n c) n xs) : RdAt w A xs := by
  rcases h.2 with ⟨_, hn⟩ | ⟨g, cap, cur, hv, _, hg, _⟩
  · have hl := h.1
    rw [hn, Nat.zero_mul] at hl
    exact .inl (List.eq_nil_of_length_eq_zero hl)
  · injection hv with hA
    subst hA
    exact .inr ⟨_, rfl, h.cells (g := g) rfl⟩
theorem RdAt.ofOwn1 {w : World} {base e n c : Nat} {A : Option Addr} {xs : List Value} (h : w.ownsRow base e 1 (.slice A n c) n xs) : xs.length = n := by simpa using h.1

/-- What owns a row is a slice of so many. -/
theorem own_slice {w : World} {base e size n : Nat} {v : Value} {xs : List Value} (h : w.ownsRow base e size v n xs) : ∃ A c, v = .slice A n c ∧ n ≤ c ∧ c ≤ maxLen := by
  rcases h.2 with ⟨rfl, rfl⟩ | ⟨g, cap, cur, rfl, _, _, h1, h2, _⟩
  · exact ⟨none, 0, rfl, Nat.le_refl _, Nat.zero_le _⟩
  · exact ⟨_, cap, rfl, h1, h2⟩

abbrev RdB (w : World) (A : Option Addr) (l : List UInt8) : Prop := RdAt w A (l.map bv)
abbrev RdI (w : World) (A : Option Addr) (l : List Int) : Prop := RdAt w A (l.map iv)
abbrev RdS (w : World) (A : Option Addr) (l : List (List UInt8)) : Prop := RdAt w A (l.map sv)

theorem RdB.get {w : World} {A : Option Addr} {l : List UInt8} (h : RdB w A l) {k : Nat} (hk : k < l.length) :
    ∃ ad, A = some ad ∧ w.cell? (ad.add k) = some (.int .u8 (l[k].toNat : Int)) := by
  obtain ⟨ad, hA, hc⟩ := RdAt.get h (k := k) (by simpa using hk)
  exact ⟨ad, hA, by simpa [bv] using hc⟩
theorem RdI.get {w : World} {A : Option Addr} {l : List Int} (h : RdI w A l) {k : Nat} (hk : k < l.length) :
    ∃ ad, A = some ad ∧ w.cell? (ad.add k) = some (.int .i64 l[k]) := by
  obtain ⟨ad, hA, hc⟩ := RdAt.get h (k := k) (by simpa using hk)
  exact ⟨ad, hA, by simpa [iv] using hc⟩
theorem RdS.get {w : World} {A : Option Addr} {l : List (List UInt8)} (h : RdS w A l) {k : Nat} (hk : k < l.length) :
    ∃ ad, A = some ad ∧ w.cell? (ad.add k) = some (.string ⟨l[k].toArray⟩) := by
  obtain ⟨ad, hA, hc⟩ := RdAt.get h (k := k) (by simpa using hk)
  exact ⟨ad, hA, by simpa [sv] using hc⟩

theorem bv_one (l : List UInt8) : ∀ u ∈ l.map bv, u.oneCell' = true := by
  intro u hu; simp only [List.mem_map] at hu; obtain ⟨b, _, rfl⟩ := hu; rfl
theorem iv_one (l : List Int) : ∀ u ∈ l.map iv, u.oneCell' = true := by
  intro u hu; simp only [List.mem_map] at hu; obtain ⟨b, _, rfl⟩ := hu; rfl
theorem sv_one (l : List (List UInt8)) : ∀ u ∈ l.map sv, u.oneCell' = true := by
  intro u hu; simp only [List.mem_map] at hu; obtain ⟨b, _, rfl⟩ := hu; rfl

theorem foldl_bytes (l : List UInt8) : ∀ s : ByteArray, ((l.map fun b => (b.toNat : Int)).foldl (fun r n => r.push (UInt8.ofNat n.toNat)) s).data.toList = s.data.toList ++ l := by
  induction l with
  | nil => intro s; simp
  | cons b r ih => intro s; simp only [List.map_cons, List.foldl_cons]; rw [ih]; simp [ByteArray.push]
/-- 'string(b)'. -/
theorem run_text {P : Program} (w : World) (src dst e : TypeId) {A : Option Addr} (c : Nat) {l : List UInt8} (hs : P.underlying src = some (.slice e)) (he : P.underlying e = some (.int .u8)) (hd : P.underlying dst = some .string)
    (hr : RdB w A l) : (convert src dst (.slice A l.length c)).run P w = .ok (.string ⟨l.toArray⟩) w := by
  rw [run_convert_bytes_string w src dst e A l.length c hs he hd]
  rcases hr with h | ⟨ad, rfl, hc⟩
  · have : l = [] := by simpa using h
    subst this
    cases A with
    | none => rfl
    | some ad => rfl
  · have hl := run_loadCells_list (P := P) w ad (l.map bv) hc
    rw [List.length_map] at hl
    have hl' : (loadCells ad l.length).run P w = .ok ((l.map fun b => (b.toNat : Int)).map (Value.int .u8)).toArray w := by rw [hl]; simp [bv, Function.comp_def]
    rw [run_bytesToString w ad l.length c _ hl']
    congr 2
    have h := foldl_bytes l ByteArray.empty
    generalize ((l.map fun b => (b.toNat : Int)).foldl (fun r n => r.push (UInt8.ofNat n.toNat)) ByteArray.empty) = z at h ⊢
    cases z with
    | mk d =>
      congr 1
      apply Array.ext'
      simpa using h

/-- Hashes (rows of 32 bytes) from the address A on. -/
def RdH (w : World) (A : Option Addr) (hs : List (List UInt8)) : Prop :=
  hs = [] ∨ ∃ ad, A = some ad ∧ ∀ k h, hs[k]? = some h → ∀ j u, (h.map bv)[j]? = some u → w.cell? ((ad.add (k * 32)).add j) = some u
theorem RdH.keep {w w' : World} {A : Option Addr} {hs : List (List UInt8)} (h : RdH w A hs) {row : Option Nat} (hg : w.grownBy w' row) (hne : ∀ ad, A = some ad → some ad.block ≠ row) : RdH w' A hs := by
  rcases h with h | ⟨ad, rfl, hc⟩
  · exact .inl h
  · exact .inr ⟨ad, rfl, fun k x hx j u hu => hg.cell (hc k x hx j u hu) (by rw [add_block, add_block]; exact hne ad rfl)⟩
theorem RdH.kept {w w' : World} {A : Option Addr} {hs : List (List UInt8)} (h : RdH w A hs) (hg : w.grownBy w' none) : RdH w' A hs := h.keep hg fun _ _ => by simp
theorem RdH.get {w : World} {A : Option Addr} {hs : List (List UInt8)} (h : RdH w A hs) {k : Nat} (hk : k < hs.length) :
    ∃ ad, A = some ad ∧ ∀ j u, (hs[k].map bv)[j]? = some u → w.cell? ((ad.add (k * 32)).add j) = some u := by
  rcases h with rfl | ⟨ad, rfl, hc⟩
  · simp at hk
  · exact ⟨ad, rfl, hc k _ (List.getElem?_eq_getElem hk)⟩

/-- A whole array, loaded from wherever its cells lie. -/
theorem run_loadVar_cells {P : Program} (w : World) (ad : Addr) (ty : TypeId) (cs : List Value) (d : TypeDesc) (hc : ∀ j u, cs[j]? = some u → w.cell? (ad.add j) = some u)
    (hu : P.underlying ty = some d) (hd : (match d with | .struct _ | .array _ _ => true | _ => false) = true) (hi : (P.info? ty).map (·.size) = some cs.length) :
    (loadVar ty ad).run P w = .ok (.agg cs.toArray) w := by
  have hl := run_loadCells_list (P := P) w ad cs hc
  obtain ⟨i, hq, hs⟩ := Option.map_eq_some_iff.1 hi
  have hagg : (isAgg ty).run P w = .ok true w := by
    unfold isAgg
    rw [Sem.run_bind, run_underlying hu w]
    cases d <;> simp_all
  simp [loadVar, Sem.run_bind, hagg, sizeOf, typeInfo, hq, hs, hl]
theorem wpList_load_agg {P : Program} {ops : Array Oper} {rest : List Oper} {o : Oper} {a : Act} {w : World} {Q : Exit → Act → World → Prop} (hgd : o.guard = none) (ty : TypeId) (x : Operand) (ho : o.op = .load ty x)
    (ad : Addr) (hx : a.eval x = .pointer (some ad)) (cs : List Value) (d : TypeDesc) (hc : ∀ j u, cs[j]? = some u → w.cell? (ad.add j) = some u)
    (hu : P.underlying ty = some d) (hd : (match d with | .struct _ | .array _ _ => true | _ => false) = true) (hi : (P.info? ty).map (·.size) = some cs.length)
    (h : wpList P ops Q rest (a.put o.dst (.agg cs.toArray)) w) : wpList P ops Q (o :: rest) a w := by
  refine wpList_plain hgd fun K hK => ?_
  unfold Oper.wp execOp
  simp only [ho, hx, Instr.loadAt, Instr.sureAddr, Sem.run_bind, Sem.run_pure, Result.andThen_ok, run_loadVar_cells w ad ty cs d hc hu hd hi]
  exact hK _ _ h
theorem grown_setRow {w w' : World} {row : Option Nat} (h : w.grownBy w' row) {g : Nat} (hg : some g = row ∨ w.heap.size ≤ g) (cs : Array Value) : w.grownBy (w'.setRow g cs) row :=
  ⟨h.os, h.tape, h.output, by simpa using h.size, fun k hk hne => (setRow_other w' g k cs (by
    rintro rfl
    rcases hg with hg | hg
    · exact hne hg
    · omega)).trans (h.block k hk hne)⟩
/-- The cells of a known block. -/
theorem rd_row {w : World} {g : Nat} {cs : List Value} {t : TypeId} {fr : Nat × Nat} (h : w.heap[g]? = some (.cells cs.toArray t fr)) : RdAt w (some ⟨g, 0, none⟩) cs := by
  refine .inr ⟨_, rfl, fun j u hu => ?_⟩
  have e : (⟨g, 0, none⟩ : Addr).add j = ⟨g, j, none⟩ := by
    unfold Addr.add; split <;> simp_all
  rw [e, cell_of_row w g j _ t fr h]
  simpa using hu

/-! ## A row of the call's own, that grows -/

/-- w' is w but for v's own row (and new blocks), and v' lies in v's row or in a new one. -/
def Grew (w w' : World) (v v' : Value) : Prop := w.grownBy w' v.ownBlock ∧ (v'.ownBlock = v.ownBlock ∨ ∃ g, v'.ownBlock = some g ∧ w.heap.size ≤ g)
theorem Grew.refl (w : World) (v : Value) : Grew w w v v := ⟨grown_refl _ _, .inl rfl⟩
theorem Grew.trans {a b c : World} {u v x : Value} (h : Grew a b u v) (k : Grew b c v x) : Grew a c u x := by
  refine ⟨grown_trans h.1 k.1 ?_, ?_⟩
  · rcases h.2 with e | ⟨g, e, hg⟩
    · exact .inl e
    · exact .inr fun g' e' => by rw [e] at e'; injection e' with e'; omega
  · rcases k.2 with e | ⟨g, e, hg⟩
    · rcases h.2 with e' | ⟨g', e', hg'⟩
      · exact .inl (e.trans e')
      · exact .inr ⟨g', e.trans e', hg'⟩
    · exact .inr ⟨g, e, Nat.le_trans h.1.size hg⟩
theorem Grew.pre {a b c : World} {u v : Value} (h : a.grownBy b none) (k : Grew b c u v) : Grew a c u v :=
  ⟨grown_same (grown_any h _) k.1, k.2.imp id fun ⟨g, e, hg⟩ => ⟨g, e, Nat.le_trans h.size hg⟩⟩
theorem Grew.post {a b c : World} {u v : Value} (h : Grew a b u v) (k : b.grownBy c none) : Grew a c u v := ⟨grown_none h.1 k, h.2⟩
theorem Grew.nil {a b : World} {v : Value} (h : Grew a b (.slice none 0 0) v) : a.grownBy b none := h.1
/-- From a literal of the call's own on: as from nothing. -/
theorem Grew.fresh {a b : World} {o : Obj} {n c : Nat} {v : Value} (h : Grew (a.alloc o) b (.slice (some ⟨a.heap.size, 0, none⟩) n c) v) : Grew a b (.slice none 0 0) v := by
  have h2 := Grew.pre (grown_alloc (grown_refl a none) _) h
  refine ⟨grown_trans (grown_refl a _) h2.1 (.inr fun g e => by simp [Value.ownBlock] at e; omega), .inr ?_⟩
  rcases h2.2 with e | ⟨g, e, h⟩
  · exact ⟨_, e, Nat.le_refl _⟩
  · exact ⟨g, e, h⟩
theorem Grew.new {a b : World} {v : Value} (h : Grew a b (.slice none 0 0) v) : ∀ g, v.ownBlock = some g → a.heap.size ≤ g := by
  intro g hg
  rcases h.2 with e | ⟨g', e, h'⟩
  · rw [e] at hg; cases hg
  · rw [e] at hg; injection hg with hg; omega
/-- Behind it another row, that is not its, is as it was. -/
theorem Grew.own {a b : World} {u v x : Value} {base e size n : Nat} {xs : List Value} (h : Grew a b u v) (k : a.ownsRow base e size x n xs) (hne : x.ownBlock = none ∨ x.ownBlock ≠ u.ownBlock) : b.ownsRow base e size x n xs :=
  k.kept h.1 hne

section
variable {P : Program} (w : World)
theorem run_append_empty {t ty e : TypeId} {i : TypeInfo} {base size : Nat} (ht : P.underlying t = some (.slice e)) (hi : P.info? e = some i)
    {v : Value} {n : Nat} {xs : List Value} (hown : w.ownsRow base e size v n xs) (A : Option Addr) (c : Nat) : (Builtin.append_ #[t, t] ty #[v, .slice A 0 c]).run P w = .ok v w := by
  rcases hown.2 with ⟨rfl, rfl⟩ | ⟨g, cap, cur, rfl, _, _, hn, _⟩ <;> cases A <;>
    simp [Builtin.append_, run_underlying ht, sizeOf, typeInfo, Builtin.lenOf, Builtin.firstCells, storeCells, loadCells, loadCellsFrom, *]

/-- 'append(v, x...)', one cell an element, x whatever reads as 'news'. -/
theorem run_append_rd {t ty e : TypeId} {i : TypeInfo} {z : Value} {base bytes : Nat} (ht : P.underlying t = some (.slice e)) (hi : P.info? e = some i) (hz : i.zero = some z) (hs : i.size = 1) (hb : i.bytes = bytes) (hz1 : z.cells.size = 1)
    {v : Value} {xs : List Value} (hown : w.ownsRow base e 1 v xs.length xs) {A : Option Addr} {c : Nat} {news : List Value} (hr : RdAt w A news) (h1 : ∀ u ∈ news, u.oneCell' = true)
    (hbytes : (xs.length + news.length) * bytes ≤ 140737488355328) (h63 : xs.length + news.length ≤ maxLen) (hbase : base ≤ w.heap.size) :
    ∃ v' w', (Builtin.append_ #[t, t] ty #[v, .slice A news.length c]).run P w = .ok v' w' ∧ w'.ownsRow base e 1 v' (xs ++ news).length (xs ++ news) ∧ Grew w w' v v' := by
  rcases hr with rfl | ⟨ad, rfl, hc⟩
  · exact ⟨v, w, run_append_empty w ht hi hown A c, by simpa using hown, Grew.refl w v⟩
  · obtain ⟨v', w', hrun, ho, hg, _, hat'⟩ := run_append_own_at (P := P) w base t ty e i z 1 bytes ht hi hz hs hb hz1 (by decide) v xs.length xs hown ad news.length c news (by simp) hc h1 h63 hbytes hbase
    refine ⟨v', w', hrun, by rw [List.length_append]; exact ho, hg, ?_⟩
    rcases hat' with e | e
    · exact .inl e
    · exact .inr ⟨_, e, Nat.le_refl _⟩

theorem wpList_append_rd {ops : Array Oper} {rest : List Oper} {o : Oper} {a : Act} {Q : Exit → Act → World → Prop} (hgd : o.guard = none) (s x : Operand) (t : TypeId)
    (ho : o.op = .call { callee := .builtin .append, args := #[s, x], argTypes := #[t, t] })
    {e : TypeId} {i : TypeInfo} {z : Value} {base bytes : Nat} (ht : P.underlying t = some (.slice e)) (hi : P.info? e = some i) (hz : i.zero = some z) (hs : i.size = 1) (hb : i.bytes = bytes) (hz1 : z.cells.size = 1)
    {v : Value} {xs : List Value} (hv : a.eval s = v) (hown : w.ownsRow base e 1 v xs.length xs) {A : Option Addr} {c : Nat} {news : List Value} (hx : a.eval x = .slice A news.length c) (hr : RdAt w A news) (h1 : ∀ u ∈ news, u.oneCell' = true)
    (hbytes : (xs.length + news.length) * bytes ≤ 140737488355328) (h63 : xs.length + news.length ≤ maxLen) (hbase : base ≤ w.heap.size)
    (h : ∀ v' w', w'.ownsRow base e 1 v' (xs ++ news).length (xs ++ news) → Grew w w' v v' → wpList P ops Q rest (a.put o.dst v') w') : wpList P ops Q (o :: rest) a w := by
  refine wpList_plain hgd fun K hK => ?_
  obtain ⟨v', w', hrun, h2, h3⟩ := run_append_rd (P := P) w (ty := o.type) (c := c) ht hi hz hs hb hz1 hown hr h1 hbytes h63 hbase
  unfold Oper.wp execOp
  simp only [ho, resolve, invoke, builtin, Sem.run_bind, Sem.run_pure, Result.andThen_ok, List.map_toArray, List.map_cons, List.map_nil, hv, hx, hrun]
  exact hK _ _ (h v' w' h2 h3)
end

end Go.Proofs.YtpeepiboocdnaaaDoor

namespace Go.Proofs.YtpeepiboocdnaaaDoor
open Go.RowKit

theorem info_u8 : (Tryd.prog.info? 5).map (fun i => (i.zero, i.size, i.bytes)) = some (some (.int .u8 0), 1, 1) := by kernel_rfl

/-- A row of bytes of the call's own. -/
def OwnB (w : World) (v : Value) (l : List UInt8) : Prop := ∃ base, base ≤ w.heap.size ∧ w.ownsRow base 5 1 v (l.map bv).length (l.map bv)

theorem OwnB.nil (w : World) : OwnB w (.slice none 0 0) [] := ⟨0, Nat.zero_le _, World.ownsRow_nil _ _ _ _⟩
theorem OwnB.slice {w : World} {v : Value} {l : List UInt8} (h : OwnB w v l) : ∃ A c, v = .slice A l.length c ∧ l.length ≤ c ∧ c ≤ maxLen ∧ RdB w A l := by
  obtain ⟨base, hb, h⟩ := h
  obtain ⟨A, c, rfl, h1, h2⟩ := own_slice h
  have hr := RdAt.ofOwn h
  rw [List.length_map] at *
  exact ⟨A, c, rfl, h1, h2, hr⟩
theorem OwnB.keep {w w' : World} {v : Value} {l : List UInt8} (h : OwnB w v l) {row : Option Nat} (hg : w.grownBy w' row) (hne : v.ownBlock = none ∨ v.ownBlock ≠ row) : OwnB w' v l := by
  obtain ⟨base, hb, h⟩ := h
  exact ⟨base, Nat.le_trans hb hg.size, h.kept hg hne⟩
theorem OwnB.kept {w w' : World} {v : Value} {l : List UInt8} (h : OwnB w v l) (hg : w.grownBy w' none) : OwnB w' v l := h.keep hg (by cases v.ownBlock <;> simp)
theorem OwnB.alloc {w : World} {v : Value} {l : List UInt8} (h : OwnB w v l) (o : Obj) : OwnB (w.alloc o) v l := h.kept (grown_alloc (grown_refl w none) o)
theorem OwnB.lt {w : World} {v : Value} {l : List UInt8} (h : OwnB w v l) : ∀ k, v.ownBlock = some k → k < w.heap.size := by
  obtain ⟨base, hb, h⟩ := h
  exact fun k hk => (h.lt k hk).2
/-- A literal slice of bytes: it reads so, and it is the call's own. -/
theorem rdB_new (w : World) (cs : Array Value) (t : TypeId) (l : List UInt8) (h : cs.toList = l.map bv) : RdB (w.alloc (.cells cs t)) (some ⟨w.heap.size, 0, none⟩) l := by
  refine .inr ⟨_, rfl, fun j u hu => ?_⟩
  have e : (⟨w.heap.size, 0, none⟩ : Addr).add j = ⟨w.heap.size, j, none⟩ := by
    unfold Addr.add; split <;> simp_all
  rw [e, cell_of_row _ _ j cs t (0, 0) (heap_alloc_new w _), ← Array.getElem?_toList, h]
  exact hu
theorem ownB_new (w : World) (cs : Array Value) (l : List UInt8) (n : Nat) (h : cs.toList = l.map bv) (hn : l.length = n) (hm : n ≤ maxLen) : OwnB (w.alloc (.cells cs 5)) (.slice (some ⟨w.heap.size, 0, none⟩) n n) l := by
  have hs : cs.size = n := by rw [← Array.length_toList, h, List.length_map, hn]
  refine ⟨w.heap.size, by simp, by simp, .inr ⟨w.heap.size, n, cs, by rw [List.length_map, hn], Nat.le_refl _, heap_alloc_new w _, by rw [List.length_map]; omega, hm, by omega, ?_⟩⟩
  rw [Nat.mul_one, List.take_of_length_le (by rw [h]; exact Nat.le_refl _), h]

/-- 'append(v, x...)' on bytes, v the call's own, x whatever reads so. -/
theorem wpList_appB (w : World) {ops : Array Oper} {rest : List Oper} {o : Oper} {a : Act} {Q : Exit → Act → World → Prop} (hgd : o.guard = none) (s x : Operand)
    (ho : o.op = .call { callee := .builtin .append, args := #[s, x], argTypes := #[61, 61] })
    {v : Value} {l : List UInt8} (hv : a.eval s = v) (hown : OwnB w v l) {A : Option Addr} {m c : Nat} {news : List UInt8} (hx : a.eval x = .slice A m c) (hm : m = news.length) (hr : RdB w A news)
    (hb : l.length + news.length ≤ 140737488355328)
    (h : ∀ v' w', OwnB w' v' (l ++ news) → Grew w w' v v' → wpList Tryd.prog ops Q rest (a.put o.dst v') w') : wpList Tryd.prog ops Q (o :: rest) a w := by
  obtain ⟨i, hi, hz, hs, hby⟩ := info_parts info_u8
  obtain ⟨base, hbase, hown⟩ := hown
  subst hm
  refine wpList_append_rd (P := Tryd.prog) w hgd s x 61 ho Tryd.underlying61 hi hz hs hby rfl hv hown (c := c) (news := news.map bv) (by rw [List.length_map]; exact hx) hr (bv_one _) (by simpa using hb) (by unfold maxLen; simp; omega) hbase ?_
  intro v' w' h1 h2
  refine h v' w' ⟨base, Nat.le_trans hbase h2.1.size, ?_⟩ h2
  rw [List.map_append]
  exact h1

theorem strCells_bv (s : ByteArray) : Lib.strCells s = s.data.toList.map bv := rfl
theorem run_append_str {P : Program} (w : World) {t u ty e : TypeId} {i : TypeInfo} {base : Nat} (ht : P.underlying t = some (.slice e)) (hu : P.underlying u = some .string) (hi : P.info? e = some i) (hz : i.zero = some (.int .u8 0))
    (hs : i.size = 1) (hb : i.bytes = 1) {v : Value} {l : List UInt8} (hown : w.ownsRow base e 1 v (l.map bv).length (l.map bv)) (s : ByteArray)
    (hle : l.length + s.size ≤ 140737488355328) (hbase : base ≤ w.heap.size) :
    ∃ v' w', (Builtin.append_ #[t, u] ty #[v, .string s]).run P w = .ok v' w' ∧ w'.ownsRow base e 1 v' ((l ++ s.data.toList).map bv).length ((l ++ s.data.toList).map bv) ∧ Grew w w' v v' := by
  have hsz : s.data.toList.length = s.size := Array.length_toList
  have hlen : (l.map bv).length = l.length := List.length_map _
  obtain ⟨v', w', hrun, ho, hg, _⟩ := Lib.run_append_own_string (P := P) w base t u ty e i ht hu hi hz hs hb v _ _ hown s (by rw [hlen]; unfold maxLen; omega) (by rw [hlen]; omega) hbase
  have ho' : w'.ownsRow base e 1 v' ((l ++ s.data.toList).map bv).length ((l ++ s.data.toList).map bv) := by
    have e1 : ((l ++ s.data.toList).map bv).length = (l.map bv).length + s.size := by simp
    rw [e1, List.map_append]; exact ho
  refine ⟨v', w', hrun, ho', hg, ?_⟩
  rcases hown.2 with ⟨rfl, hn⟩ | ⟨g, cap, cur, rfl, _, hgg, hnc, _, hcs, _⟩
  · by_cases hm : s.size = 0
    · have hr : (Builtin.append_ #[t, u] ty #[.slice none 0 0, .string s]).run P w = .ok (.slice none 0 0) w := by
        have hf := Lib.run_firstCells_string (P := P) w 1 s
        rw [hm] at hf
        simp [Builtin.append_, run_underlying ht, run_underlying hu, sizeOf, typeInfo, hi, hs, Builtin.lenOf, hm, hf]
      rw [hr] at hrun
      injection hrun with h1 _
      exact .inl (by rw [← h1])
    · have hr := run_append_nil_string (P := P) w t u ty e i (.int .u8 0) ht hu hi hz s (by omega) (by omega) (by rw [hb]; omega)
      rw [hr] at hrun
      injection hrun with h1 _
      exact .inr ⟨w.heap.size, by rw [← h1]; rfl, Nat.le_refl _⟩
  · by_cases hroom : (l.map bv).length + s.size ≤ cap
    · have hr := Lib.run_append_room_string (P := P) w t u ty e i ht hu hi hs g _ cap cur hgg s hroom (by omega)
      rw [hr] at hrun
      injection hrun with h1 _
      exact .inl (by rw [← h1]; rfl)
    · have hr := Lib.run_append_grow_string (P := P) w t u ty e i (.int .u8 0) ht hu hi hz ⟨g, 0, none⟩ _ cap _ (by rw [hs, Nat.mul_one]) (hown.cells (g := g) rfl) s (by omega) (by omega) (by rw [hb]; exact growslice_fits (by omega) (by omega))
      rw [hr] at hrun
      injection hrun with h1 _
      exact .inr ⟨w.heap.size, by rw [← h1]; rfl, Nat.le_refl _⟩

theorem ofNat_u8 {n : Nat} (h : n < 256) : ((UInt8.ofNat n).toNat : Int) = n := by rw [UInt8.toNat_ofNat']; omega
theorem size_hash : (Tryd.prog.info? 44).map (·.size) = some 32 := by kernel_rfl
/-- 'append(v, x...)' on bytes as a step of a region that draws. -/
theorem step_appB {ops : Array Oper} {o : Oper} {a : Act} {w : World} {K : Act → World → Prop} {Q : Exit → Act → World → Prop} {E : Prop} (hgd : o.guard = none) (s x : Operand)
    (ho : o.op = .call { callee := .builtin .append, args := #[s, x], argTypes := #[61, 61] })
    {v : Value} {l : List UInt8} (hv : a.eval s = v) (hown : OwnB w v l) {A : Option Addr} {m c : Nat} {news : List UInt8} (hx : a.eval x = .slice A m c) (hm : m = news.length) (hr : RdB w A news)
    (hb : l.length + news.length ≤ 140737488355328)
    (h : ∀ v' w', OwnB w' v' (l ++ news) → Grew w w' v v' → K (a.put o.dst v') w') :
    if Region.wanted o (yielded ops a.tmps) = true then Oper.wp Tryd.prog o a w K Q else E := by
  have hw : Region.wanted o (yielded ops a.tmps) = true := by simp [Region.wanted, hgd]
  rw [if_pos hw]
  obtain ⟨i, hi, hz, hs, hby⟩ := info_parts info_u8
  obtain ⟨base, hbase, hown⟩ := hown
  subst hm
  obtain ⟨v', w', hrun, h2, h3⟩ := run_append_rd (P := Tryd.prog) w (ty := o.type) (c := c) (news := news.map bv) Tryd.underlying61 hi hz hs hby rfl hown hr (bv_one _) (by simpa using hb) (by unfold maxLen; simp; omega) hbase
  rw [List.length_map] at hrun
  unfold Oper.wp execOp
  simp only [ho, resolve, invoke, builtin, Sem.run_bind, Sem.run_pure, Result.andThen_ok, List.map_toArray, List.map_cons, List.map_nil, hv, hx, hrun]
  refine h v' w' ⟨base, Nat.le_trans hbase h3.1.size, ?_⟩ h3
  rw [List.map_append]
  exact h2

/-- A hash's variable, loaded whole. -/
theorem load_hash (w : World) (g : Nat) (x : List UInt8) (t : TypeId) (fr : Nat × Nat) (hx : x.length = 32) (hg : w.heap[g]? = some (.cells (x.map bv).toArray t fr)) :
    (Instr.loadAt 44 (.pointer (some ⟨g, 0, none⟩))).run Tryd.prog w = .ok (.agg (x.map bv).toArray) w := by
  have h := run_loadVar_row (P := Tryd.prog) w g t 44 (x.map bv).toArray fr _ hg Tryd.underlying44 rfl (by rw [List.size_toArray, List.length_map, hx]; exact size_hash)
  simp only [Instr.loadAt, Instr.sureAddr, Sem.run_bind, Sem.run_pure, Result.andThen_ok, h]

theorem sizeOf_u8 (w : World) : (sizeOf 5).run Tryd.prog w = .ok 1 w := by kernel_rfl
/-- Two hashes compared. -/
theorem eql_hash (x y : List UInt8) (hx : x.length = 32) (hy : y.length = 32) (w : World) :
    (binOp .eql 44 (.agg (x.map bv).toArray) (.agg (y.map bv).toArray)).run Tryd.prog w = .ok (.bool (x == y)) w :=
  run_eql_bytes w 44 5 32 Tryd.underlying44 Tryd.underlying5 sizeOf_u8 x y hx hy
theorem neq_hash (x y : List UInt8) (hx : x.length = 32) (hy : y.length = 32) (w : World) :
    (binOp .neq 44 (.agg (x.map bv).toArray) (.agg (y.map bv).toArray)).run Tryd.prog w = .ok (.bool (!(x == y))) w := by
  rw [run_neq_struct]
  have h := run_equalIn_bytes (P := Tryd.prog) w 9998 44 5 32 Tryd.underlying44 Tryd.underlying5 sizeOf_u8 x y hx hy
  have h' : (Op.equalIn 10000 44 (.agg (x.map bv).toArray) (.agg (y.map bv).toArray)).run Tryd.prog w = .ok (x == y) w := h
  rw [h']
  rfl
/-- A row of the call's own, its cells as values, of element type e. -/
def OwnV (e : TypeId) (w : World) (v : Value) (xs : List Value) : Prop := ∃ base, base ≤ w.heap.size ∧ w.ownsRow base e 1 v xs.length xs

section
variable {e : TypeId} {w w' : World} {v : Value} {xs : List Value}
theorem OwnV.nil (w : World) : OwnV e w (.slice none 0 0) [] := ⟨0, Nat.zero_le _, World.ownsRow_nil _ _ _ _⟩
theorem OwnV.slice (h : OwnV e w v xs) : ∃ A c, v = .slice A xs.length c ∧ xs.length ≤ c ∧ c ≤ maxLen ∧ RdAt w A xs := by
  obtain ⟨base, hb, h⟩ := h
  obtain ⟨A, c, rfl, h1, h2⟩ := own_slice h
  exact ⟨A, c, rfl, h1, h2, RdAt.ofOwn h⟩
theorem OwnV.keep (h : OwnV e w v xs) {row : Option Nat} (hg : w.grownBy w' row) (hne : v.ownBlock = none ∨ v.ownBlock ≠ row) : OwnV e w' v xs := by
  obtain ⟨base, hb, h⟩ := h
  exact ⟨base, Nat.le_trans hb hg.size, h.kept hg hne⟩
theorem OwnV.kept (h : OwnV e w v xs) (hg : w.grownBy w' none) : OwnV e w' v xs := h.keep hg (by cases v.ownBlock <;> simp)
theorem OwnV.alloc (h : OwnV e w v xs) (o : Obj) : OwnV e (w.alloc o) v xs := h.kept (grown_alloc (grown_refl w none) o)
theorem OwnV.lt (h : OwnV e w v xs) : ∀ k, v.ownBlock = some k → k < w.heap.size := by
  obtain ⟨base, hb, h⟩ := h
  exact fun k hk => (h.lt k hk).2
/-- The block that a row lies in has its element type. -/
theorem OwnV.block (h : OwnV e w v xs) : ∀ k, v.ownBlock = some k → ∃ cs fr, w.heap[k]? = some (.cells cs e fr) := by
  obtain ⟨base, hb, h⟩ := h
  intro k hk
  rcases h.2 with ⟨rfl, _⟩ | ⟨g, cap, cur, rfl, _, hg, _⟩
  · simp [Value.ownBlock] at hk
  · simp [Value.ownBlock] at hk
    subst hk
    exact ⟨_, _, hg⟩
/-- Rows of unlike types lie apart. -/
theorem OwnV.apart {e' : TypeId} {v' : Value} {xs' : List Value} (h : OwnV e w v xs) (h' : OwnV e' w v' xs') (hne : e ≠ e') : v.ownBlock = none ∨ v.ownBlock ≠ v'.ownBlock := by
  cases hb : v.ownBlock with
  | none => exact .inl rfl
  | some k =>
    refine .inr fun e1 => ?_
    obtain ⟨cs, fr, h1⟩ := h.block k hb
    obtain ⟨cs', fr', h2⟩ := h'.block k e1.symm
    rw [h1] at h2
    injection h2 with h2
    injection h2 with _ h2
    exact hne h2
theorem ownV_new (w : World) (e : TypeId) (cs : Array Value) (xs : List Value) (n : Nat) (h : cs.toList = xs) (hn : xs.length = n) (hm : n ≤ maxLen) : OwnV e (w.alloc (.cells cs e)) (.slice (some ⟨w.heap.size, 0, none⟩) n n) xs := by
  have hs : cs.size = n := by rw [← Array.length_toList, h, hn]
  refine ⟨w.heap.size, by simp, by simp [hn], .inr ⟨w.heap.size, n, cs, by rw [hn], Nat.le_refl _, heap_alloc_new w _, by omega, hm, by omega, ?_⟩⟩
  rw [Nat.mul_one, List.take_of_length_le (by rw [h]; exact Nat.le_refl _), h]
end

theorem OwnB.toV {w : World} {v : Value} {l : List UInt8} (h : OwnB w v l) : OwnV 5 w v (l.map bv) := h
theorem Grew.keepNew {a b c : World} {u v : Value} (h : Grew a b u v) (k : a.grownBy c u.ownBlock) : Grew a c u v := ⟨k, h.2⟩

/-- 'append(v, x...)', v the call's own. -/
theorem wpList_appV (w : World) {ops : Array Oper} {rest : List Oper} {o : Oper} {a : Act} {Q : Exit → Act → World → Prop} (hgd : o.guard = none) (s x : Operand) (t : TypeId)
    (ho : o.op = .call { callee := .builtin .append, args := #[s, x], argTypes := #[t, t] }) {e : TypeId} {z : Value} {bytes : Nat} (ht : Tryd.prog.underlying t = some (.slice e))
    (hinfo : (Tryd.prog.info? e).map (fun i => (i.zero, i.size, i.bytes)) = some (some z, 1, bytes)) (hz : z.cells.size = 1)
    {v : Value} {l : List Value} (hv : a.eval s = v) (hown : OwnV e w v l) {A : Option Addr} {m c : Nat} {news : List Value} (hx : a.eval x = .slice A m c) (hm : m = news.length) (hr : RdAt w A news) (h1 : ∀ u ∈ news, u.oneCell' = true)
    (hb : (l.length + news.length) * bytes ≤ 140737488355328) (hl : l.length + news.length ≤ maxLen)
    (h : ∀ v' w', OwnV e w' v' (l ++ news) → Grew w w' v v' → wpList Tryd.prog ops Q rest (a.put o.dst v') w') : wpList Tryd.prog ops Q (o :: rest) a w := by
  obtain ⟨i, hi, hz', hs, hby⟩ := info_parts hinfo
  obtain ⟨base, hbase, hown⟩ := hown
  subst hm
  refine wpList_append_rd (P := Tryd.prog) w hgd s x t ho ht hi hz' hs hby hz hv hown (c := c) hx hr h1 hb hl hbase ?_
  intro v' w' h2 h3
  exact h v' w' ⟨base, Nat.le_trans hbase h3.1.size, h2⟩ h3

theorem step_appV {ops : Array Oper} {o : Oper} {a : Act} {w : World} {K : Act → World → Prop} {Q : Exit → Act → World → Prop} {E : Prop} (hgd : o.guard = none) (s x : Operand) (t : TypeId)
    (ho : o.op = .call { callee := .builtin .append, args := #[s, x], argTypes := #[t, t] }) {e : TypeId} {z : Value} {bytes : Nat} (ht : Tryd.prog.underlying t = some (.slice e))
    (hinfo : (Tryd.prog.info? e).map (fun i => (i.zero, i.size, i.bytes)) = some (some z, 1, bytes)) (hz : z.cells.size = 1)
    {v : Value} {l : List Value} (hv : a.eval s = v) (hown : OwnV e w v l) {A : Option Addr} {m c : Nat} {news : List Value} (hx : a.eval x = .slice A m c) (hm : m = news.length) (hr : RdAt w A news) (h1 : ∀ u ∈ news, u.oneCell' = true)
    (hb : (l.length + news.length) * bytes ≤ 140737488355328) (hl : l.length + news.length ≤ maxLen)
    (h : ∀ v' w', OwnV e w' v' (l ++ news) → Grew w w' v v' → K (a.put o.dst v') w') :
    if Region.wanted o (yielded ops a.tmps) = true then Oper.wp Tryd.prog o a w K Q else E := by
  have hw : Region.wanted o (yielded ops a.tmps) = true := by simp [Region.wanted, hgd]
  rw [if_pos hw]
  obtain ⟨i, hi, hz', hs, hby⟩ := info_parts hinfo
  obtain ⟨base, hbase, hown⟩ := hown
  subst hm
  obtain ⟨v', w', hrun, h2, h3⟩ := run_append_rd (P := Tryd.prog) w (ty := o.type) (c := c) ht hi hz' hs hby hz hown hr h1 hb hl hbase
  unfold Oper.wp execOp
  simp only [ho, resolve, invoke, builtin, Sem.run_bind, Sem.run_pure, Result.andThen_ok, List.map_toArray, List.map_cons, List.map_nil, hv, hx, hrun]
  exact h v' w' ⟨base, Nat.le_trans hbase h3.1.size, h2⟩ h3

theorem heap_setCell_to {w : World} {g i : Nat} {cs cs' : Array Value} {t : TypeId} {v : Value} (hg : w.heap[g]? = some (.cells cs t (0, 0))) (hcs : cs.setIfInBounds i v = cs') :
    (w.setCell ⟨g, i, none⟩ v).heap[g]? = some (.cells cs' t (0, 0)) := by rw [← hcs]; exact heap_setCell_same w g i cs t v hg
theorem rd_takeB {w : World} {A : Option Addr} {l : List UInt8} (h : RdB w A l) (n : Nat) : RdB w A (l.take n) := by
  have := RdAt.take h n
  rw [← List.map_take] at this
  exact this

theorem min_some (n k : Nat) : ∃ m : Nat, (if (k : Int) < (n : Int) then (k : Int) else (n : Int)) = (m : Int) ∧ m ≤ n ∧ m ≤ k := by
  by_cases h : (k : Int) < (n : Int)
  · exact ⟨k, by rw [if_pos h], by omega, Nat.le_refl _⟩
  · exact ⟨n, by rw [if_neg h], Nat.le_refl _, by omega⟩

end Go.Proofs.YtpeepiboocdnaaaDoor

namespace Go.Proofs.YtpeepiboocdnaaaDoor
open Go.RowKit

theorem ret_bool {a b : Bool} (h : a = b) : Ending.returned (.bool a) = .returned (.bool b) := by rw [h]
theorem ret_int {k : IntKind} {a b : Int} (h : a = b) : Ending.returned (.int k a) = .returned (.int k b) := by rw [h]

/-- A number brought into bounds. -/
def within (n lo hi : Int) : Int := lo + n % (hi - lo + 1)
theorem within_le {n lo hi : Int} (h : lo ≤ hi) : lo ≤ within n lo hi ∧ within n lo hi ≤ hi := by
  have h1 := Int.emod_nonneg n (b := hi - lo + 1) (by omega)
  have h2 := Int.emod_lt_of_pos n (b := hi - lo + 1) (by omega)
  unfold within
  omega

theorem tmod_emod (n m : Int) (hm : 0 < m) : (0 ≤ n.tmod m → n % m = n.tmod m) ∧ (n.tmod m < 0 → n % m = n.tmod m + m) ∧ -m < n.tmod m ∧ n.tmod m < m := by
  have hlt := Int.tmod_lt_of_pos n hm
  have hgt : -m < n.tmod m := by
    have := Int.tmod_lt_of_pos (-n) hm
    rw [Int.neg_tmod] at this
    omega
  have hd := Int.mul_tdiv_add_tmod n m
  have hn : n = n.tmod m + m * n.tdiv m := by omega
  refine ⟨fun h => ?_, fun h => ?_, hgt, hlt⟩
  · have : n % m = (n.tmod m) % m := by conv => { lhs; rw [hn]; rw [Int.add_mul_emod_self_left] }
    rw [this, Int.emod_eq_of_lt h hlt]
  · have : n % m = (n.tmod m + m) % m := by conv => { lhs; rw [hn]; rw [Int.add_mul_emod_self_left] }; rw [Int.add_emod_right]
    rw [this, Int.emod_eq_of_lt (by omega) (by omega)]

set_option maxHeartbeats 400000 in
theorem Within_any (n lo hi : Int) (w : World) (h0 : 0 ≤ lo) (h1 : lo ≤ hi) (h2 : hi ≤ 1099511627775) :
    Calls Tryd.prog 13 #[.int .i64 n, .int .i64 lo, .int .i64 hi] w fun e w' => e = .returned (.int .i64 (within n lo hi)) ∧ w = w' := by
  obtain ⟨e1, e2, e3, e4⟩ := tmod_emod n (hi - lo + 1) (by omega)
  by_cases hneg : n.tmod (hi - lo + 1) < 0
  · have hE := Lib.hid (e2 hneg)
    clear e1 e2
    go_enter Tryd.func13, Tryd.ntmps13
    go_wp2
    go_ret
    exact ⟨ret_int (by unfold within; rw [hE.out]; omega), rfl⟩
  · have hE := Lib.hid (e1 (by omega))
    clear e1 e2
    go_enter Tryd.func13, Tryd.ntmps13
    go_wp2
    go_ret
    exact ⟨ret_int (by unfold within; rw [hE.out]), rfl⟩

/-- .. the number as a natural one, for bounds from 0 on. -/
theorem Within_nat (n : Int) (hi : Nat) (h2 : hi ≤ 1099511627775) : ∃ x : Nat, x ≤ hi ∧ ∀ w : World,
    Calls Tryd.prog 13 #[.int .i64 n, .int .i64 0, .int .i64 hi] w fun e w' => e = .returned (.int .i64 x) ∧ w = w' := by
  have hb := within_le (n := n) (lo := 0) (hi := hi) (by omega)
  refine ⟨(within n 0 hi).toNat, by omega, fun w => ?_⟩
  refine (Within_any n 0 hi w (by omega) (by omega) (by omega)).mono ?_
  rintro e w' ⟨rfl, rfl⟩
  exact ⟨ret_int (by omega), rfl⟩
end Go.Proofs.YtpeepiboocdnaaaDoor

namespace Go.Proofs.YtpeepiboocdnaaaDoor
open Go.ChangeShapes Go.WideShapes Go.ChangeAt Go.RowKit
open Go.WideMaps Go.WideElems
open Go.ChangeMaps (open_string)

section
variable {H : Type} {enc : TypeId × Value → H} {P : Program}

/-- Arguments read behind the call as before it, all at once. -/
theorem args_kept (hl : laidOutB P = true) {W W' : World} (hb : Below W.heap.size W W') :
    ∀ (ts : List TypeId) (vs : List Value) (ds : List (DataW H)) (p : List MemPlace), (ts.all fun t => P.readableRec t && decide (t < P.types.size)) = true →
      DataW.TrodAll enc P W 0 (fun _ => true) true ts vs ds p → (∀ x ∈ p, x.block < W.heap.size) → DataW.TrodAll enc P W' 0 (fun b => decide (b < W.heap.size)) true ts vs ds p := by
  intro ts
  induction ts with
  | nil =>
    intro vs ds p _ h _
    cases vs <;> cases ds <;> simp_all [DataW.TrodAll]
  | cons t ts ih =>
    intro vs ds p hr h hlt
    obtain ⟨v, vs', d, ds', p1, p2, rfl, rfl, rfl, h1, h2⟩ := trodAll_cons h
    simp only [List.all_cons, Bool.and_eq_true, decide_eq_true_eq] at hr
    exact ⟨p1, p2, Below.trod hl hr.1.1 hr.1.2 h1 hb (fun x hx => hlt x (List.mem_append_left _ hx)),
      ih vs' ds' p2 (by simpa using hr.2) h2 (fun x hx => hlt x (List.mem_append_right _ hx)), rfl⟩

/-- The row's end. -/
theorem law_post {f : Func} {s : ChangeSpec} {W W' : World} {args : Array Value} {ds gs : List (DataW H)} {before : List MemPlace} {tb : TypeId}
    (hl : laidOutB P = true) (hp : (f.params.toList.all fun t => P.readableRec t && decide (t < P.types.size)) = true) (hres : f.resultTypes = #[tb]) (htb : P.underlying tb = some .bool)
    (hvars : s.vars = []) (hfn : s.fn H (ds ++ gs) = { results := [.lit (.bool true)], args := ds })
    (hW : DataW.Whole enc P f.params.toList s.vars false W args.toList ds gs before) (hg : W.grownBy W' none) :
    s.post enc P f false true false false W args (.bool true) W' := by
  have hlt : ∀ x ∈ before, x.block < W.heap.size := fun x hx => hW.lt x hx
  have hb := grown_below hg
  have hW0 := hW
  obtain ⟨p, q, hA, hV, rfl, _, _⟩ := hW0
  rw [hvars] at hV
  obtain ⟨rfl, rfl⟩ := trodVars_none hV
  refine ⟨ds, [], p ++ [], [], p, [], hW, ?_, ?_, ?_, hb.frame _, fun h => by cases h⟩
  · rw [hfn, hres]
    exact trodAll_mk1 (shut_bool htb true)
  · rw [hfn]
    exact args_kept hl hb _ _ _ _ hp hA (fun x hx => hlt x (by simpa using hx))
  · rw [hfn, hvars]
    rfl

variable {W : World} {base : Nat} {v : Value} {d : DataW H} {p : List MemPlace}

theorem arg_int {t : TypeId} (ht : P.underlying t = some (.int .i64)) (hv : Value.okWide P W .any base t v) (hd : DataW.Trod enc P W 0 (fun _ => true) true t v d p) :
    ∃ n : Int, v = .int .i64 n ∧ -9223372036854775808 ≤ n ∧ n ≤ 9223372036854775807 := by
  obtain ⟨n, rfl, _, _, hw⟩ := open_int ht hv hd
  exact ⟨n, rfl, bounds_i64 hw⟩

theorem bytes_of : ∀ cs : List Value, (∀ v ∈ cs, ∃ n : Int, v = .int .u8 n ∧ 0 ≤ n ∧ n ≤ 255) → ∃ l : List UInt8, cs = l.map bv := by
  intro cs
  induction cs with
  | nil => intro _; exact ⟨[], rfl⟩
  | cons c r ih =>
    intro h
    obtain ⟨n, rfl, h0, h1⟩ := h c (by simp)
    obtain ⟨l, rfl⟩ := ih fun v hv => h v (by simp [hv])
    refine ⟨UInt8.ofNat n.toNat :: l, ?_⟩
    have e : ((UInt8.ofNat n.toNat).toNat : Int) = n := by rw [UInt8.toNat_ofNat']; omega
    simp only [List.map_cons, bv, e]

theorem arg_text {t : TypeId} (ht : P.underlying t = some .string) (hv : Value.okWide P W .any base t v) (hd : DataW.Trod enc P W 0 (fun _ => true) true t v d p) :
    ∃ l : List UInt8, v = .string ⟨l.toArray⟩ ∧ l.length ≤ maxLen := by
  obtain ⟨s, rfl, _, _, hs⟩ := open_string ht hv hd
  exact ⟨s.data.toList, by simp, by simpa using hs⟩

theorem arg_hash {t e : TypeId} (ht : P.underlying t = some (.array 32 e)) (he : P.underlying e = some (.int .u8)) (hc : P.cellsOf t = 32) (hce : P.cellsOf e = 1)
    (hv : Value.okWide P W .any base t v) (hd : DataW.Trod enc P W 0 (fun _ => true) true t v d p) :
    ∃ l : List UInt8, v = .agg (l.map bv).toArray ∧ l.length = 32 := by
  have hv' := hv
  unfold Value.okWide at hv'
  rw [ht] at hv'
  obtain ⟨cs, rfl, hsz, _⟩ := hv'
  obtain ⟨fuel, hf⟩ := hd
  obtain ⟨xs, m, _, _, _, hxl, hx⟩ := DataW.trod_array ht hf
  have hcs : cs.toList.length = 32 := by rw [Array.length_toList, hsz, hc]
  have hall : ∀ v ∈ cs.toList, ∃ n : Int, v = .int .u8 n ∧ 0 ≤ n ∧ n ≤ 255 := by
    intro v hv
    obtain ⟨i, hi, rfl⟩ := List.getElem_of_mem hv
    have h1 := hx i (by omega)
    rw [hce, Nat.mul_one, List.getElem?_eq_getElem (by omega)] at h1
    obtain ⟨n, e1, _, hw⟩ := DataW.trod_int he h1
    have e2 : (cs.toList.drop i).take 1 = [cs.toList[i]] := by rw [List.drop_eq_getElem_cons hi]; rfl
    have e3 : Value.cells (.agg cs) = cs := rfl
    rw [e3, e2] at e1
    injection e1 with e1
    exact ⟨n, e1, bounds_u8 hw⟩
  obtain ⟨l, hl⟩ := bytes_of _ hall
  refine ⟨l, by rw [← hl], ?_⟩
  rw [hl, List.length_map] at hcs
  exact hcs

theorem arg_bytes {t e : TypeId} (ht : P.underlying t = some (.slice e)) (he : P.underlying e = some (.int .u8)) (hc : P.cellsOf e = 1)
    (hv : Value.okWide P W .any base t v) (hd : DataW.Trod enc P W 0 (fun _ => true) true t v d p) :
    ∃ (A : Option Addr) (l : List UInt8) (c : Nat), v = .slice A l.length c ∧ l.length ≤ c ∧ c ≤ maxLen ∧ RdB W A l := by
  obtain ⟨a0, len, cap, rfl⟩ := okWide_slice ht hv
  obtain ⟨fuel, hf⟩ := hd
  rcases open_ints ht he hc hf with ⟨hcs, _⟩ | ⟨a, len', cap', zs, hcs, _, hl, hm, hz, _, hcell, hwz⟩
  · simp [Value.cells] at hcs
    obtain ⟨rfl, rfl, rfl⟩ := hcs
    exact ⟨none, [], 0, rfl, Nat.le_refl _, Nat.zero_le _, RdAt.nil⟩
  · simp [Value.cells] at hcs
    obtain ⟨rfl, rfl, rfl⟩ := hcs
    simp only [if_true] at hz
    have hcl : ∀ i (hi : i < zs.length), W.cell? (a.add i) = some (.int .u8 zs[i]) := fun i hi => by
      have := hcell i hi
      rwa [show zs.getD i 0 = zs[i] from by simp [List.getD, hi]] at this
    have hall : ∀ v ∈ (zs.take len).map (Value.int .u8), ∃ n : Int, v = .int .u8 n ∧ 0 ≤ n ∧ n ≤ 255 := by
      intro v hv
      simp only [List.mem_map] at hv
      obtain ⟨n, hn, rfl⟩ := hv
      exact ⟨n, rfl, bounds_u8 (hwz n (List.mem_of_mem_take hn))⟩
    obtain ⟨l, hl'⟩ := bytes_of _ hall
    have hll : l.length = len := by
      have := congrArg List.length hl'
      simp only [List.length_map, List.length_take] at this
      omega
    refine ⟨some a, l, cap, by rw [hll], by omega, hm, .inr ⟨a, rfl, fun j u hu => ?_⟩⟩
    rw [← hl'] at hu
    simp only [List.getElem?_map, Option.map_eq_some_iff] at hu
    obtain ⟨n, hn, rfl⟩ := hu
    rw [List.getElem?_take] at hn
    split at hn
    · obtain ⟨hj, rfl⟩ := List.getElem?_eq_some_iff.1 hn
      exact hcl j hj
    · cases hn

theorem arg_ints {t e : TypeId} (ht : P.underlying t = some (.slice e)) (he : P.underlying e = some (.int .i64)) (hc : P.cellsOf e = 1)
    (hv : Value.okWide P W .any base t v) (hd : DataW.Trod enc P W 0 (fun _ => true) true t v d p) :
    ∃ (A : Option Addr) (l : List Int) (c : Nat), v = .slice A l.length c ∧ l.length ≤ c ∧ c ≤ maxLen ∧ RdI W A l ∧ ∀ n ∈ l, -9223372036854775808 ≤ n ∧ n ≤ 9223372036854775807 := by
  obtain ⟨a0, len, cap, rfl⟩ := okWide_slice ht hv
  obtain ⟨fuel, hf⟩ := hd
  rcases open_ints ht he hc hf with ⟨hcs, _⟩ | ⟨a, len', cap', zs, hcs, _, hl, hm, hz, _, hcell, hwz⟩
  · simp [Value.cells] at hcs
    obtain ⟨rfl, rfl, rfl⟩ := hcs
    exact ⟨none, [], 0, rfl, Nat.le_refl _, Nat.zero_le _, RdAt.nil, by simp⟩
  · simp [Value.cells] at hcs
    obtain ⟨rfl, rfl, rfl⟩ := hcs
    simp only [if_true] at hz
    have hll : (zs.take len).length = len := by rw [List.length_take]; omega
    refine ⟨some a, zs.take len, cap, by rw [hll], by omega, hm, .inr ⟨a, rfl, fun j u hu => ?_⟩, fun n hn => bounds_i64 (hwz n (List.mem_of_mem_take hn))⟩
    simp only [List.getElem?_map, Option.map_eq_some_iff] at hu
    obtain ⟨n, hn, rfl⟩ := hu
    rw [List.getElem?_take] at hn
    split at hn
    · obtain ⟨hj, rfl⟩ := List.getElem?_eq_some_iff.1 hn
      have := hcell j hj
      rwa [show zs.getD j 0 = zs[j] from by simp [List.getD, hj]] at this
    · cases hn

theorem arg_texts {t e : TypeId} (ht : P.underlying t = some (.slice e)) (he : P.underlying e = some .string) (hc : P.cellsOf e = 1)
    (hv : Value.okWide P W .any base t v) (hd : DataW.Trod enc P W 0 (fun _ => true) true t v d p) :
    ∃ (A : Option Addr) (l : List (List UInt8)) (c : Nat), v = .slice A l.length c ∧ l.length ≤ c ∧ c ≤ maxLen ∧ RdS W A l ∧ ∀ s ∈ l, s.length ≤ maxLen := by
  obtain ⟨a0, len, cap, rfl⟩ := okWide_slice ht hv
  obtain ⟨fuel, hf⟩ := hd
  rcases open_strings ht he hc hf with ⟨hcs, _⟩ | ⟨a, len', cap', ss, hcs, _, hl, hm, hz, _, hcell, hwz⟩
  · simp [Value.cells] at hcs
    obtain ⟨rfl, rfl, rfl⟩ := hcs
    exact ⟨none, [], 0, rfl, Nat.le_refl _, Nat.zero_le _, RdAt.nil, by simp⟩
  · simp [Value.cells] at hcs
    obtain ⟨rfl, rfl, rfl⟩ := hcs
    simp only [if_true] at hz
    refine ⟨some a, (ss.take len).map (·.data.toList), cap, by rw [List.length_map, List.length_take, Nat.min_eq_left (by omega)], by rw [List.length_map, List.length_take]; omega, hm, .inr ⟨a, rfl, fun j u hu => ?_⟩, fun s hs => ?_⟩
    · simp only [List.getElem?_map, Option.map_eq_some_iff] at hu
      obtain ⟨l0, ⟨n, hn, rfl⟩, rfl⟩ := hu
      rw [List.getElem?_take] at hn
      split at hn
      · obtain ⟨hj, rfl⟩ := List.getElem?_eq_some_iff.1 hn
        have := hcell j hj
        rw [show ss.getD j ByteArray.empty = ss[j] from by simp [List.getD, hj]] at this
        rw [this]
        simp [sv]
      · cases hn
    · simp only [List.mem_map] at hs
      obtain ⟨x, hx, rfl⟩ := hs
      simpa using hwz x (List.mem_of_mem_take hx)
end
end Go.Proofs.YtpeepiboocdnaaaDoor

namespace Go.Proofs.YtpeepiboocdnaaaDoor
open Go.RowKit

/-- A fact on a value that lasts wherever the block in which the value lies has not changed. -/
def Lasts (F : Value → World → Prop) : Prop := ∀ v w w' row, F v w → w.grownBy w' row → (v.ownBlock = none ∨ v.ownBlock ≠ row) → F v w'

section
variable (ops : Array Oper) (die : Nat → Nat) (own : Nat → Bool) (F : Nat → Value → World → Prop) (a0 : Act) (W : World)

def slotOf (k : Nat) : Nat := ((ops[k]?).bind (·.dst)).getD 0
def valOf (a : Act) (k : Nat) : Value := a.tmps.getD (slotOf ops k) undef
def liveAt (L : Array Bool) (k : Nat) : Prop := L.getD k false = true ∧ L.getD (die k) false = false

/-- What stands at every moment of the region: L says which operations have been done. -/
structure Rep (L : Array Bool) (a : Act) (w : World) : Prop where
  size : L.size = ops.size
  defers : a.defers = a0.defers
  tmps : a.tmps.size = a0.tmps.size
  frame : ∀ t, (∀ k, k < ops.size → slotOf ops k ≠ t) → a.tmps.getD t undef = a0.tmps.getD t undef
  old : W.grownBy w none
  item : ∀ k, k < ops.size → liveAt die L k → F k (valOf ops a k) w ∧ (∀ g, (valOf ops a k).ownBlock = some g → g < w.heap.size) ∧ (own k = true → ∀ g, (valOf ops a k).ownBlock = some g → W.heap.size ≤ g)
  apart : ∀ k j, k < ops.size → j < ops.size → k ≠ j → liveAt die L k → liveAt die L j → own k = true → (valOf ops a j).ownBlock = none ∨ (valOf ops a j).ownBlock ≠ (valOf ops a k).ownBlock

theorem getD_set_same {L : Array Bool} {i : Nat} (h : i < L.size) (d : Bool) : (L.setIfInBounds i true).getD i d = true := by
  simp [Array.getD, h]
theorem getD_set_other {L : Array Bool} {i k : Nat} (h : k ≠ i) (d : Bool) : (L.setIfInBounds i true).getD k d = L.getD k d := by
  simp only [Array.getD_eq_getD_getElem?, Array.getElem?_setIfInBounds_ne (Ne.symm h)]
theorem tmps_put_same {a : Act} {d : Nat} {v : Value} (h : d < a.tmps.size) : (a.put (some d) v).tmps.getD d undef = v := by
  simp [Act.put, Array.getD, h]
theorem tmps_put_other {a : Act} {d t : Nat} {v : Value} (h : t ≠ d) : (a.put (some d) v).tmps.getD t undef = a.tmps.getD t undef := by
  simp only [Act.put, Array.getD_eq_getD_getElem?, Array.getElem?_setIfInBounds_ne (Ne.symm h)]

variable {ops die own F a0 W}
theorem rep_step (hF : ∀ k, Lasts (F k)) {L : Array Bool} {a : Act} {w : World} (h : Rep ops die own F a0 W L a w) {i : Nat} (hi : i < ops.size) {o : Oper} (ho : ops[i]? = some o) {d : Nat} (hd : o.dst = some d)
    (hinj : ∀ k, k < ops.size → k ≠ i → slotOf ops k ≠ d) (hdn : d < a0.tmps.size) {v : Value} {w' : World} {row : Option Nat} (hg : w.grownBy w' row)
    (hrow : row = none ∨ ∃ k, k < ops.size ∧ liveAt die L k ∧ own k = true ∧ die k = i ∧ row = (valOf ops a k).ownBlock)
    (hv : F i v w') (hlt : ∀ g, v.ownBlock = some g → g < w'.heap.size)
    (hnew : v.ownBlock = none ∨ (∃ g, v.ownBlock = some g ∧ w.heap.size ≤ g) ∨ v.ownBlock = row ∨ (own i = false ∧ ∃ g, v.ownBlock = some g ∧ g < W.heap.size)) :
    Rep ops die own F a0 W (L.setIfInBounds i true) (a.put o.dst v) w' := by
  have hsi : slotOf ops i = d := by simp [slotOf, ho, hd]
  rw [hd]
  have hLi : i < L.size := by rw [h.size]; exact hi
  have hval : ∀ k, k < ops.size → k ≠ i → valOf ops (a.put (some d) v) k = valOf ops a k := fun k hk hki => tmps_put_other (hinj k hk hki)
  have hvi : valOf ops (a.put (some d) v) i = v := by
    unfold valOf; rw [hsi]; exact tmps_put_same (by rw [h.tmps]; exact hdn)
  have hlive : ∀ k, k ≠ i → liveAt die (L.setIfInBounds i true) k → liveAt die L k ∧ die k ≠ i := by
    intro k hki hl
    have h1 : die k ≠ i := by
      intro e
      have := hl.2
      rw [e, getD_set_same hLi] at this
      cases this
    exact ⟨⟨by have := hl.1; rwa [getD_set_other hki] at this, by have := hl.2; rwa [getD_set_other h1] at this⟩, h1⟩
  have hfar : ∀ k, k < ops.size → liveAt die L k → die k ≠ i → (valOf ops a k).ownBlock = none ∨ (valOf ops a k).ownBlock ≠ row := by
    intro k hk hl hdk
    rcases hrow with rfl | ⟨k0, hk0, hl0, ho0, hd0, rfl⟩
    · cases (valOf ops a k).ownBlock <;> simp
    · exact h.apart k0 k hk0 hk (fun e => hdk (by rw [← e]; exact hd0)) hl0 hl ho0
  have hold : W.grownBy w' none := by
    refine grown_trans h.old hg ?_
    rcases hrow with rfl | ⟨k0, hk0, hl0, ho0, hd0, rfl⟩
    · exact .inl rfl
    · exact .inr fun g e => (h.item k0 hk0 hl0).2.2 ho0 g e
  have hvW : own i = true → ∀ g, v.ownBlock = some g → W.heap.size ≤ g := by
    intro hoi g e
    rcases hnew with e1 | ⟨g', e1, hg'⟩ | e1 | ⟨e1, _⟩
    · rw [e1] at e; cases e
    · rw [e1] at e; injection e with e; have := h.old.size; omega
    · rcases hrow with rfl | ⟨k0, hk0, hl0, ho0, hd0, rfl⟩
      · rw [e1] at e; cases e
      · exact (h.item k0 hk0 hl0).2.2 ho0 g (by rw [← e1]; exact e)
    · rw [e1] at hoi; cases hoi
  refine ⟨by rw [Array.size_setIfInBounds]; exact h.size, h.defers, by simp [Act.put, h.tmps], fun t ht => ?_, hold, fun k hk hl => ?_, fun k j hk hj hkj hlk hlj hok => ?_⟩
  · rw [tmps_put_other (fun e => ht i hi (by rw [hsi, e]))]
    exact h.frame t ht
  · by_cases hki : k = i
    · subst hki
      rw [hvi]
      exact ⟨hv, hlt, hvW⟩
    · obtain ⟨hl', hdk⟩ := hlive k hki hl
      rw [hval k hk hki]
      obtain ⟨h1, h2, h3⟩ := h.item k hk hl'
      exact ⟨hF k _ _ _ _ h1 hg (hfar k hk hl' hdk), fun g e => Nat.lt_of_lt_of_le (h2 g e) hg.size, h3⟩
  · by_cases hki : k = i
    · subst hki
      have hji : j ≠ k := Ne.symm hkj
      obtain ⟨hlj', hdj⟩ := hlive j hji hlj
      rw [hvi, hval j hj hji]
      rcases hnew with e1 | ⟨g', e1, hg'⟩ | e1 | ⟨e1, _⟩
      · rw [e1]; cases (valOf ops a j).ownBlock <;> simp
      · rw [e1]
        cases hb : (valOf ops a j).ownBlock with
        | none => exact .inl rfl
        | some b => exact .inr fun e => by injection e with e; have := (h.item j hj hlj').2.1 b hb; omega
      · rw [e1]; exact hfar j hj hlj' hdj
      · rw [e1] at hok; cases hok
    · obtain ⟨hlk', hdk⟩ := hlive k hki hlk
      rw [hval k hk hki]
      by_cases hji : j = i
      · subst hji
        rw [hvi]
        rcases hnew with e1 | ⟨g', e1, hg'⟩ | e1 | ⟨_, g', e1, hg'⟩
        · exact .inl e1
        · refine .inr fun e => ?_
          rw [e1] at e
          have := (h.item k hk hlk').2.1 g' e.symm
          omega
        · rcases hfar k hk hlk' hdk with h1 | h1
          · cases hb : v.ownBlock with
            | none => exact .inl rfl
            | some b => exact .inr fun e => by rw [h1] at e; cases e
          · exact .inr fun e => h1 (by rw [← e, e1])
        · refine .inr fun e => ?_
          rw [e1] at e
          have := (h.item k hk hlk').2.2 hok g' e.symm
          omega
      · obtain ⟨hlj', hdj⟩ := hlive j hji hlj
        rw [hval j hj hji]
        exact h.apart k j hk hj hkj hlk' hlj' hok

theorem mem_ready_iff {md : Region.Mode} {ops : Array Oper} {L : Array Bool} {i : Nat} : i ∈ Region.ready md ops L ↔ i < ops.size ∧ L.getD i true = false ∧ ∃ o, ops[i]? = some o ∧ ∀ e ∈ o.after, Region.binds md e = true → L.getD e.on false = true := by
  unfold Region.ready
  rw [List.mem_filter, List.mem_range]
  constructor
  · rintro ⟨h1, h2⟩
    simp only [Bool.and_eq_true, Bool.not_eq_true'] at h2
    obtain ⟨o, ho⟩ : ∃ o, ops[i]? = some o := ⟨ops[i], Array.getElem?_eq_getElem h1⟩
    refine ⟨h1, h2.1, o, ho, fun e he hb => ?_⟩
    have h3 := h2.2
    rw [ho] at h3
    simp only [Option.map_some, Option.getD_some, Array.all_eq_true_iff_forall_mem] at h3
    have := h3 e he
    simpa [hb] using this
  · rintro ⟨h1, h2, o, ho, h3⟩
    refine ⟨h1, ?_⟩
    simp only [Bool.and_eq_true, Bool.not_eq_true']
    refine ⟨h2, ?_⟩
    rw [ho]
    simp only [Option.map_some, Option.getD_some, Array.all_eq_true_iff_forall_mem]
    intro e he
    cases hb : Region.binds md e
    · simp
    · simpa using h3 e he hb

theorem getD_in {L : Array Bool} {i : Nat} (h : i < L.size) (a b : Bool) : L.getD i a = L.getD i b := by simp [Array.getD, h]

/-- What the kernel can see of a region's text: edges go back; every operation has a slot of its own, below N, all of them in S. -/
def regionOk (ops : Array Oper) (N : Nat) (S : Nat → Bool) : Bool :=
  (List.range ops.size).all fun k => ((ops[k]?).map fun o => (o.after.all fun e => decide (e.on < k)) && o.dst.isSome).getD false && decide (slotOf ops k < N) && S (slotOf ops k) && (List.range ops.size).all fun j => k == j || slotOf ops k != slotOf ops j
theorem regionOk_back {ops : Array Oper} {N : Nat} {S : Nat → Bool} (h : regionOk ops N S = true) : ∀ (k : Nat) (o : Oper), ops[k]? = some o → ∀ e ∈ o.after, e.on < k := by
  intro k o ho e he
  have hk : k < ops.size := (Array.getElem?_eq_some_iff.1 ho).1
  simp only [regionOk, List.all_eq_true, List.mem_range] at h
  have h1 := h k hk
  simp only [ho, Option.map_some, Option.getD_some, Bool.and_eq_true, Array.all_eq_true_iff_forall_mem, decide_eq_true_eq] at h1
  exact h1.1.1.1.1 e he
theorem regionOk_slot {ops : Array Oper} {N : Nat} {S : Nat → Bool} (h : regionOk ops N S = true) {k : Nat} (hk : k < ops.size) : slotOf ops k < N ∧ S (slotOf ops k) = true ∧ (∀ j, j < ops.size → j ≠ k → slotOf ops j ≠ slotOf ops k) ∧ ∀ o, ops[k]? = some o → o.dst = some (slotOf ops k) := by
  simp only [regionOk, List.all_eq_true, List.mem_range] at h
  have h1 := h k hk
  simp only [Bool.and_eq_true, decide_eq_true_eq] at h1
  refine ⟨h1.1.1.2, h1.1.2, fun j hj hjk e => ?_, fun o ho => ?_⟩
  · have := h1.2
    simp only [List.all_eq_true, List.mem_range] at this
    have h2 := this j hj
    simp only [Bool.or_eq_true, beq_iff_eq, bne_iff_ne] at h2
    rcases h2 with h2 | h2
    · exact hjk h2.symm
    · exact h2 e.symm
  · have h2 := h1.1.1.1
    simp only [ho, Option.map_some, Option.getD_some, Bool.and_eq_true] at h2
    cases hd : o.dst with
    | none => rw [hd] at h2; simp at h2
    | some d => simp [slotOf, ho, hd]

/-- One step, the region's text seen by the kernel. -/
theorem rep_go {N : Nat} {S : Nat → Bool} (hok : regionOk ops N S = true) (hN : N ≤ a0.tmps.size) (hF : ∀ k, Lasts (F k)) {L : Array Bool} {a : Act} {w : World} (h : Rep ops die own F a0 W L a w) {i : Nat} (hi : i < ops.size) {o : Oper} (ho : ops[i]? = some o)
    {v : Value} {w' : World} {row : Option Nat} (hg : w.grownBy w' row)
    (hrow : row = none ∨ ∃ k, k < ops.size ∧ liveAt die L k ∧ own k = true ∧ die k = i ∧ row = (valOf ops a k).ownBlock)
    (hv : F i v w') (hlt : ∀ g, v.ownBlock = some g → g < w'.heap.size)
    (hnew : v.ownBlock = none ∨ (∃ g, v.ownBlock = some g ∧ w.heap.size ≤ g) ∨ v.ownBlock = row ∨ (own i = false ∧ ∃ g, v.ownBlock = some g ∧ g < W.heap.size)) :
    Rep ops die own F a0 W (L.setIfInBounds i true) (a.put o.dst v) w' := by
  obtain ⟨h1, _, h3, h4⟩ := regionOk_slot hok hi
  exact rep_step hF h hi ho (h4 o ho) h3 (Nat.lt_of_lt_of_le h1 hN) hg hrow hv hlt hnew

/-! The frame behind it, written out. -/
def fill (S : Nat → Bool) (u : Nat → Value) : Nat → List Value → List Value
  | _, [] => []
  | i, x :: r => (bif S i then u i else x) :: fill S u (i + 1) r
theorem fill_get (S : Nat → Bool) (u : Nat → Value) : ∀ (r : List Value) (i j : Nat), (fill S u i r)[j]? = r[j]?.map fun x => bif S (i + j) then u (i + j) else x := by
  intro r
  induction r with
  | nil => intro i j; simp [fill]
  | cons x r ih =>
    intro i j
    cases j with
    | zero => simp [fill]
    | succ j =>
      simp only [fill, List.getElem?_cons_succ, ih]
      rw [show i + 1 + j = i + (j + 1) from by omega]
theorem frame_fill {a a1 : Act} (S : Nat → Bool) (hd : a.defers = a1.defers) (hs : a.tmps.size = a1.tmps.size) (hf : ∀ t, S t = false → a.tmps.getD t undef = a1.tmps.getD t undef) :
    a = { tmps := (fill S (fun t => a.tmps.getD t undef) 0 a1.tmps.toList).toArray, defers := a1.defers } := by
  obtain ⟨tmps, defers⟩ := a
  simp only at hd hs hf ⊢
  subst hd
  congr 1
  apply Array.ext'
  apply List.ext_getElem?
  intro j
  rw [fill_get, Nat.zero_add]
  by_cases hj : j < tmps.size
  · have hj' : j < a1.tmps.size := by omega
    rw [List.getElem?_eq_getElem (by simpa using hj), List.getElem?_eq_getElem (by simpa using hj')]
    simp only [Option.map_some, Option.some.injEq, Array.getElem_toList]
    cases hS : S j
    · have := hf j hS
      simp only [Array.getD, hj, hj', dif_pos] at this
      simpa using this
    · simp [Array.getD, hj]
  · rw [List.getElem?_eq_none (by simpa using hj), List.getElem?_eq_none (by simp; omega)]
    rfl
theorem rep_frame {N : Nat} {S : Nat → Bool} (hok : regionOk ops N S = true) {L : Array Bool} {a : Act} {w : World} (h : Rep ops die own F a0 W L a w) :
    a = { tmps := (fill S (fun t => a.tmps.getD t undef) 0 a0.tmps.toList).toArray, defers := a0.defers } :=
  frame_fill S h.defers h.tmps fun t ht => h.frame t fun k hk e => by
    have := (regionOk_slot hok hk).2.1
    rw [e, ht] at this
    cases this
theorem rep_start : Rep ops die own F a0 W (Array.replicate ops.size false) a0 { W with drawn := W.drawn + 1 } := by
  have hno : ∀ k, ¬ liveAt die (Array.replicate ops.size false) k := fun k hk => by
    have := hk.1
    simp only [Array.getD, Array.size_replicate] at this
    split at this
    · simp at this
    · cases this
  exact ⟨by simp, rfl, rfl, fun _ _ => rfl, grown_drew (grown_refl _ _), fun k _ hl => absurd hl (hno k), fun k j _ _ _ hl => absurd hl (hno k)⟩

variable {P : Program}
/-- The region, walked once an operation. -/
theorem wp_region_rep {id : Nat} {Q : Exit → Act → World → Prop} (hm : P.follows .mixedOrders = true) (hn : ∀ (k : Nat) (o : Oper), ops[k]? = some o → ∀ e ∈ o.after, e.on < k)
    (hstart : Rep ops die own F a0 W (Array.replicate ops.size false) a0 { W with drawn := W.drawn + 1 })
    (hstep : ∀ (i : Nat) (o : Oper) (L : Array Bool) (a : Act) (w : World) (K : Act → World → Prop), i < ops.size → ops[i]? = some o → Rep ops die own F a0 W L a w → L.getD i false = false →
      (∀ e ∈ o.after, Region.binds .any e = true → L.getD e.on false = true) → (∀ a' w', Rep ops die own F a0 W (L.setIfInBounds i true) a' w' → K a' w') →
      Region.wanted o (yielded ops a.tmps) = true ∧ Oper.wp P o a w K Q)
    (hend : ∀ (L : Array Bool) (a : Act) (w : World), (∀ k, k < ops.size → L.getD k false = true) → Rep ops die own F a0 W L a w → Q .normal a w) :
    (Code.region id ops true).wp P Q a0 W := by
  refine wp_region_any hm ?_
  have hall : ∀ (L : Array Bool), L.size = ops.size → Region.ready .any ops L = [] → ∀ k, k < ops.size → L.getD k false = true := by
    intro L hs hr k
    induction k using Nat.strongRecOn with
    | ind k ih =>
      intro hk
      cases hb : L.getD k false with
      | true => rfl
      | false =>
        exfalso
        have : k ∈ Region.ready .any ops L := mem_ready_iff.2 ⟨hk, by rw [getD_in (by omega) true false]; exact hb, ops[k], Array.getElem?_eq_getElem hk, fun e he _ => ih e.on (hn k _ (Array.getElem?_eq_getElem hk) e he) (by have := hn k _ (Array.getElem?_eq_getElem hk) e he; omega)⟩
        rw [hr] at this
        cases this
  have main : ∀ (fuel : Nat) (L : Array Bool) (a : Act) (w : World), L.toList.count false ≤ fuel → Rep ops die own F a0 W L a w → wpAny P .any ops Q fuel L a w := by
    intro fuel
    induction fuel with
    | zero =>
      intro L a w hc hrep
      have hl : ∀ k, k < ops.size → L.getD k false = true := by
        intro k hk
        have hk' : k < L.size := by rw [hrep.size]; exact hk
        have h0 : L.toList.count false = 0 := by omega
        rw [List.count_eq_zero] at h0
        cases hb : L.getD k false with
        | true => rfl
        | false =>
          exfalso
          apply h0
          have : L[k] = false := by simpa [Array.getD, hk'] using hb
          rw [← this]
          exact Array.getElem_mem_toList hk'
      refine ⟨?_, hend L a w hl hrep⟩
      rw [List.eq_nil_iff_forall_not_mem]
      intro i hi
      obtain ⟨h1, h2, _⟩ := mem_ready_iff.1 hi
      rw [getD_in (by rw [hrep.size]; exact h1) true false, hl i h1] at h2
      cases h2
    | succ fuel ih =>
      intro L a w hc hrep
      refine ⟨fun hr => hend L a w (hall L hrep.size hr) hrep, fun i hi => ?_⟩
      obtain ⟨h1, h2, o, ho, h3⟩ := mem_ready_iff.1 hi
      have hiL : i < L.size := by rw [hrep.size]; exact h1
      have h2' : L.getD i false = false := by rw [getD_in hiL false true]; exact h2
      refine wpOp_step ho fun K hK => ?_
      obtain ⟨hw, hwp⟩ := hstep i o L a w K h1 ho hrep h2' h3 (fun a' w' hr => hK a' w' (ih _ _ _ (by
        have hLi : L[i] = false := by simpa [Array.getD, hiL] using h2'
        have := List.count_set (l := L.toList) (i := i) (a := true) (b := false) (by simpa using hiL)
        simp only [Array.toList_setIfInBounds]
        have hpos : 0 < L.toList.count false := List.count_pos_iff.2 (by rw [← hLi]; exact Array.getElem_mem_toList hiL)
        have e : L.toList[i]'(by simpa using hiL) = false := by simpa using hLi
        rw [this, e, if_pos (show (false == false) = true from rfl), if_neg (show ¬ ((true == false) = true) by decide)]
        omega) hr))
      rw [if_pos hw]
      exact hwp
  refine main _ _ _ _ ?_ hstart
  simp

/-- Where a step's new value may lie. -/
def Fresh (own : Nat → Bool) (W : World) (i : Nat) (w : World) (row : Option Nat) (v : Value) : Prop :=
  v.ownBlock = none ∨ (∃ g, v.ownBlock = some g ∧ w.heap.size ≤ g) ∨ v.ownBlock = row ∨ (own i = false ∧ ∃ g, v.ownBlock = some g ∧ g < W.heap.size)
theorem Fresh.ofGrew {own : Nat → Bool} {W : World} {i : Nat} {w w' : World} {u v : Value} (h : Grew w w' u v) : Fresh own W i w u.ownBlock v := by
  rcases h.2 with e | ⟨g, e, hg⟩
  · exact .inr (.inr (.inl e))
  · exact .inr (.inl ⟨g, e, hg⟩)
theorem Fresh.ofNil {own : Nat → Bool} {W : World} {i : Nat} {w w' : World} {v : Value} (h : Grew w w' (.slice none 0 0) v) : Fresh own W i w none v := Fresh.ofGrew h
theorem Fresh.lit {own : Nat → Bool} {W : World} {i : Nat} {w : World} {n c : Nat} : Fresh own W i w none (.slice (some ⟨w.heap.size, 0, none⟩) n c) := .inr (.inl ⟨_, rfl, Nat.le_refl _⟩)

/-- The same, each step's end told by what it leaves. -/
theorem wp_region_go {N : Nat} {S : Nat → Bool} {id : Nat} {Q : Exit → Act → World → Prop} (hm : P.follows .mixedOrders = true) (hok : regionOk ops N S = true) (hN : N ≤ a0.tmps.size) (hF : ∀ k, Lasts (F k))
    (hstep : ∀ (i : Nat) (o : Oper) (L : Array Bool) (a : Act) (w : World) (K : Act → World → Prop), i < ops.size → ops[i]? = some o → W.grownBy w none → L.getD i false = false →
      (∀ j, (o.after.toList.any fun e => Region.binds .any e && e.on == j) = true → L.getD j false = true) →
      (∀ t, S t = false → a.eval (.tmp t) = a0.eval (.tmp t)) →
      (∀ k, k < ops.size → liveAt die L k → F k (a.eval (.tmp (slotOf ops k))) w) →
      (∀ (v : Value) (w' : World), w.grownBy w' none → F i v w' → (∀ g, v.ownBlock = some g → g < w'.heap.size) → Fresh own W i w none v → K (a.put o.dst v) w') →
      (∀ (k : Nat) (v : Value) (w' : World), k < ops.size → liveAt die L k → own k = true → die k = i → w.grownBy w' (a.eval (.tmp (slotOf ops k))).ownBlock →
        F i v w' → (∀ g, v.ownBlock = some g → g < w'.heap.size) → Fresh own W i w (a.eval (.tmp (slotOf ops k))).ownBlock v → K (a.put o.dst v) w') →
      Region.wanted o (yielded ops a.tmps) = true ∧ Oper.wp P o a w K Q)
    (hend : ∀ (a : Act) (w : World), W.grownBy w none → (∀ k, k < ops.size → ops.size ≤ die k → F k (a.eval (.tmp (slotOf ops k))) w ∧ (own k = true → ∀ g, (a.eval (.tmp (slotOf ops k))).ownBlock = some g → W.heap.size ≤ g)) →
      a = { tmps := (fill S (fun t => a.tmps.getD t undef) 0 a0.tmps.toList).toArray, defers := a0.defers } → Q .normal a w) :
    (Code.region id ops true).wp P Q a0 W := by
  refine wp_region_rep (die := die) (own := own) (F := F) hm (regionOk_back hok) rep_start ?_ ?_
  · intro i o L a w K hi ho hrep hLi hpre hK
    refine hstep i o L a w K hi ho hrep.old hLi ?_ ?_ ?_ ?_ ?_
    · intro j hj
      obtain ⟨n, hn, hb, rfl⟩ : ∃ (n : Nat) (h : n < o.after.size), Region.binds Region.Mode.any o.after[n] = true ∧ o.after[n].on = j := by simpa using hj
      exact hpre _ (Array.getElem_mem hn) hb
    · intro t ht
      exact hrep.frame t fun k hk e => by
        have := (regionOk_slot hok hk).2.1
        rw [e, ht] at this
        cases this
    · intro k hk hl
      exact (hrep.item k hk hl).1
    · intro v w' hg hv hlt hnew
      exact hK _ _ (rep_go hok hN hF hrep hi ho hg (.inl rfl) hv hlt hnew)
    · intro k v w' hk hl hok' hd hg hv hlt hnew
      exact hK _ _ (rep_go hok hN hF hrep hi ho hg (.inr ⟨k, hk, hl, hok', hd, rfl⟩) hv hlt hnew)
  · intro L a w hl hrep
    refine hend a w hrep.old (fun k hk hd => ?_) (rep_frame hok hrep)
    have hlive : liveAt die L k := ⟨hl k hk, by
      have : ¬ die k < L.size := by rw [hrep.size]; omega
      simp [Array.getD, this]⟩
    exact ⟨(hrep.item k hk hlive).1, (hrep.item k hk hlive).2.2⟩
end
end Go.Proofs.YtpeepiboocdnaaaDoor
