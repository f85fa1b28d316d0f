/- What a store's calls come to, told without its form: the road of the laws of package store (without roots). -/
import Derived.Test.YtjdfnohlgeoniaaDoorKP
namespace Go.Proofs.YtjdfnohlgeoniaaDoor
open Go.RowKit

/-- What may have changed: blocks of C, and what is new. -/
structure GrewIn (w w' : World) (C : Nat → Prop) : Prop where
  os : w'.os = w.os
  tape : w'.tape = w.tape
  output : w'.output = w.output
  size : w.heap.size ≤ w'.heap.size
  block : ∀ k, k < w.heap.size → ¬ C k → w'.heap[k]? = w.heap[k]?
theorem GrewIn.ofNone {w w' : World} (h : w.grownBy w' none) (C : Nat → Prop) : GrewIn w w' C := ⟨h.os, h.tape, h.output, h.size, fun k hk _ => h.block k hk (by simp)⟩
theorem GrewIn.refl (w : World) (C : Nat → Prop) : GrewIn w w C := .ofNone (grown_refl _ _) C
theorem GrewIn.toNone {w w' : World} (h : GrewIn w w' fun _ => False) : w.grownBy w' none := ⟨h.os, h.tape, h.output, h.size, fun k hk _ => h.block k hk (fun e => e)⟩
theorem GrewIn.trans {a b c : World} {C D : Nat → Prop} (h : GrewIn a b C) (k : GrewIn b c D) (hd : ∀ x, D x → C x ∨ a.heap.size ≤ x) : GrewIn a c C :=
  ⟨k.os.trans h.os, k.tape.trans h.tape, k.output.trans h.output, Nat.le_trans h.size k.size, fun i hi hc => (k.block i (Nat.lt_of_lt_of_le hi h.size) (fun e => by
    rcases hd i e with e | e
    · exact hc e
    · omega)).trans (h.block i hi hc)⟩
theorem GrewIn.then {a b c : World} {C : Nat → Prop} (h : GrewIn a b C) (k : b.grownBy c none) : GrewIn a c C := h.trans (.ofNone k fun _ => False) fun _ e => e.elim
theorem GrewIn.cell {w w' : World} {C : Nat → Prop} (h : GrewIn w w' C) {a : Addr} (hb : a.block < w.heap.size) (hc : ¬ C a.block) : w'.cell? a = w.cell? a := World.cell?_of_block (h.block a.block hb hc)
theorem GrewIn.keep {w w' : World} {C : Nat → Prop} {A : Option Addr} {xs : List Value} (h : GrewIn w w' C) (hr : RdAt w A xs) (hlt : ∀ ad, A = some ad → ad.block < w.heap.size) (hc : ∀ ad, A = some ad → ¬ C ad.block) : RdAt w' A xs := by
  rcases hr with hr | ⟨ad, rfl, hr⟩
  · exact .inl hr
  · exact .inr ⟨ad, rfl, fun j u hu => (h.cell (by rw [add_block]; exact hlt ad rfl) (by rw [add_block]; exact hc ad rfl)).trans (hr j u hu)⟩
theorem GrewIn.pb {w w' : World} {C : Nat → Prop} {v : Value} {ps : List Kv} (h : GrewIn w w' C) (hr : PB w v ps) (hc : ∀ g, v.ownBlock = some g → ¬ C g) : PB w' v ps := by
  obtain ⟨⟨A, c, rfl, hl, hr⟩, hb⟩ := hr
  have hb' : ∀ ad, A = some ad → ad.block < w.heap.size ∧ ¬ C ad.block := fun ad e => by subst e; exact ⟨hb _ rfl, hc _ rfl⟩
  exact ⟨⟨A, c, rfl, hl, h.keep hr (fun ad e => (hb' ad e).1) (fun ad e => (hb' ad e).2)⟩, fun g e => Nat.lt_of_lt_of_le (hb g e) h.size⟩

/-- A store's state, by what can be asked of it: what is now, and what was at each height (oldest first). -/
structure Vers where
  now : List Kv
  all : List (List Kv)
def Vers.set (s : Vers) (p : Kv) : Vers := if okL s.now p then ⟨setL s.now p, s.all⟩ else s
def Vers.del (s : Vers) (k : List UInt8) : Vers := ⟨delL s.now k, s.all⟩
def Vers.commit (s : Vers) : Vers := if s.all.length < 16 then ⟨s.now, s.all ++ [s.now]⟩ else s
def Vers.commits (s : Vers) : Nat := if s.all.length < 16 then s.all.length + 1 else 0
/-- What is kept of a height. -/
def Vers.at? (s : Vers) (h : Int) : Option (List Kv) := if 1 ≤ h ∧ (s.all.length : Int) < h + 6 then s.all[(h - 1).toNat]? else none
/-- The heights that are kept. -/
def Vers.kept (s : Vers) : List Int := (List.range (min s.all.length 6)).map fun (i : Nat) => ((s.all.length - min s.all.length 6 + 1 + i : Nat) : Int)

def sptr (g : Nat) : Value := .pointer (some ⟨g, 0, none⟩)
/-- What a call on a store may do: it writes what was the store's own to write, and makes new things. -/
structure Did (w w' : World) (B R B' R' : Nat → Prop) : Prop where
  grew : GrewIn w w' B
  b : ∀ x, B' x → B x ∨ w.heap.size ≤ x
  r : ∀ x, R' x → R x ∨ w.heap.size ≤ x

/-- From a world on all that was written is a store's own, and newer than that world. -/
structure Road (w w' : World) (B R : Nat → Prop) : Prop where
  grew : w.grownBy w' none
  b : ∀ x, B x → w.heap.size ≤ x
  r : ∀ x, R x → w.heap.size ≤ x
theorem GrewIn.from {w w' w'' : World} {C : Nat → Prop} (h : w.grownBy w' none) (k : GrewIn w' w'' C) (hC : ∀ x, C x → w.heap.size ≤ x) : w.grownBy w'' none :=
  ⟨k.os.trans h.os, k.tape.trans h.tape, k.output.trans h.output, Nat.le_trans h.size k.size, fun i hi hn => (k.block i (Nat.lt_of_lt_of_le hi h.size) (fun e => by have := hC i e; omega)).trans (h.block i hi hn)⟩
theorem Road.did {w w' w'' : World} {B R B' R' : Nat → Prop} (h : Road w w' B R) (k : Did w' w'' B R B' R') : Road w w'' B' R' :=
  ⟨GrewIn.from h.grew k.grew h.b, fun x hx => (k.b x hx).elim (h.b x) (fun e => Nat.le_trans h.grew.size e), fun x hx => (k.r x hx).elim (h.r x) (fun e => Nat.le_trans h.grew.size e)⟩
theorem Road.then {w w' w'' : World} {B R : Nat → Prop} (h : Road w w' B R) (k : w'.grownBy w'' none) : Road w w'' B R := ⟨grown_none h.grew k, h.b, h.r⟩

/-- A row of pairs as one cell: where it lies, what it reads as, its room. -/
abbrev Rq := Option Addr × List Kv × Nat
def rv (r : Rq) : Value := .slice r.1 r.2.1.length r.2.2
/-- What a store's functions must come to (SA w g B R s: at g a store is that is s; its calls write blocks of B alone; it stands on blocks of R). -/
structure StoreJ (SA : World → Nat → (Nat → Prop) → (Nat → Prop) → Vers → Prop) : Prop where
  keep : ∀ {w w' g B R s C}, SA w g B R s → GrewIn w w' C → (∀ x, C x → ¬ R x) → SA w' g B R s
  sub : ∀ {w g B R s}, SA w g B R s → (∀ x, B x → R x) ∧ ∀ x, R x → x < w.heap.size
  right : ∀ {w g B R s}, SA w g B R s → rightL s.now = true ∧ s.all.length ≤ 16 ∧ ∀ r ∈ s.all, rightL r = true
  new : ∀ w, Calls Tryd.prog 7 #[] w fun e w' => ∃ g B R, e = .returned (sptr g) ∧ SA w' g B R ⟨[], []⟩ ∧ (∀ x, R x → w.heap.size ≤ x) ∧ w.grownBy w' none
  set : ∀ {w g B R s} (p : Kv), SA w g B R s → Calls Tryd.prog 14 #[sptr g, .agg #[.string ⟨p.1.toArray⟩, .string ⟨p.2.toArray⟩]] w fun e w' => ∃ B' R', e = .returned (.bool (okL s.now p)) ∧ SA w' g B' R' (s.set p) ∧ Did w w' B R B' R'
  del : ∀ {w g B R s} (k : List UInt8), SA w g B R s → Calls Tryd.prog 12 #[sptr g, .string ⟨k.toArray⟩] w fun e w' => ∃ B' R' v, e = .returned v ∧ SA w' g B' R' (s.del k) ∧ Did w w' B R B' R'
  commit : ∀ {w g B R s}, SA w g B R s → Calls Tryd.prog 11 #[sptr g] w fun e w' => ∃ B' R', e = .returned (.int .i64 (s.commits : Nat)) ∧ SA w' g B' R' s.commit ∧ Did w w' B R B' R'
  height : ∀ {w g B R s}, SA w g B R s → Calls Tryd.prog 16 #[sptr g] w fun e w' => e = .returned (.int .i64 (s.all.length : Nat)) ∧ w.grownBy w' none
  at_ : ∀ {w g B R s} (h : Int), SA w g B R s → (-1000 ≤ h ∧ h ≤ 1000) → Calls Tryd.prog 19 #[sptr g, .int .i64 h] w fun e w' => ∃ v, e = .returned (.tuple #[v, .bool (s.at? h).isSome]) ∧ PB w' v ((s.at? h).getD []) ∧ (∀ x, v.ownBlock = some x → ¬ B x) ∧ w.grownBy w' none
end Go.Proofs.YtjdfnohlgeoniaaDoor
