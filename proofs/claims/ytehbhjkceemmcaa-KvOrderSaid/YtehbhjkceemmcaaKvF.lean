/- Package kv: Set, Del, Range. -/
import Derived.Test.YtehbhjkceemmcaaKvE
namespace Go.Proofs.Ytehbhjkceemmcaa
open Go.RowKit

def setL (ps : List Kv) (p : Kv) : List Kv := loL ps p.1 ++ p :: hiL ps p.1
def delL (ps : List Kv) (k : List UInt8) : List Kv := loL ps k ++ hiL ps k
theorem alloc_atQ {w : World} {o : Obj} {g : Nat} (hg : w.heap.size = g) : (w.alloc o).heap[g]? = some o := by subst hg; exact heap_alloc_new w o
theorem alloc_oldQ {w : World} {o o' : Obj} {g : Nat} (h : w.heap[g]? = some o) : (w.alloc o').heap[g]? = some o := by
  have hlt := (Array.getElem?_eq_some_iff.1 h).1
  show (w.heap.push o')[g]? = _
  rw [Array.getElem?_push_lt hlt, ← Array.getElem?_eq_getElem hlt]
  exact h
/-- Concat of two, of three. -/
theorem cat2 (W : World) (g : Nat) (v1 v2 : Value) (t : TypeId) (fr : Nat × Nat) (l1 l2 : List Kv) (hW : W.heap[g]? = some (.cells #[v1, v2] t fr)) (h1 : PS W v1 l1) (h2 : PS W v2 l2) (hb : (l1 ++ l2).length ≤ 1000000) :
    Calls Try.prog 28 #[.slice (some ⟨g, 0, none⟩) 2 2] W fun e w' => ∃ v', e = .returned v' ∧ OwnQ w' v' (l1 ++ l2) ∧ W.grownBy w' none := by
  have e : catQ [(v1, l1), (v2, l2)] = l1 ++ l2 := by simp [catQ]
  refine (Concat_any (some ⟨g, 0, none⟩) 2 [(v1, l1), (v2, l2)] W (rd_row hW) (by simp [h1, h2]) (by rw [e]; exact hb) (by simp)).mono ?_
  rintro _ w' ⟨v', rfl, ho, hg⟩
  exact ⟨v', rfl, by rw [e] at ho; exact ho, hg.nil⟩
theorem cat3 (W : World) (g : Nat) (v1 v2 v3 : Value) (t : TypeId) (fr : Nat × Nat) (l1 l2 l3 : List Kv) (hW : W.heap[g]? = some (.cells #[v1, v2, v3] t fr)) (h1 : PS W v1 l1) (h2 : PS W v2 l2) (h3 : PS W v3 l3) (hb : (l1 ++ (l2 ++ l3)).length ≤ 1000000) :
    Calls Try.prog 28 #[.slice (some ⟨g, 0, none⟩) 3 3] W fun e w' => ∃ v', e = .returned v' ∧ OwnQ w' v' (l1 ++ (l2 ++ l3)) ∧ W.grownBy w' none := by
  have e : catQ [(v1, l1), (v2, l2), (v3, l3)] = l1 ++ (l2 ++ l3) := by simp [catQ]
  refine (Concat_any (some ⟨g, 0, none⟩) 3 [(v1, l1), (v2, l2), (v3, l3)] W (rd_row hW) (by simp [h1, h2, h3]) (by rw [e]; exact hb) (by simp)).mono ?_
  rintro _ w' ⟨v', rfl, ho, hg⟩
  exact ⟨v', rfl, by rw [e] at ho; exact ho, hg.nil⟩
theorem lit_1q (a b : ByteArray) (w : World) : (Instr.buildSlice 22 1 #[(0, .agg #[.string a, .string b])]).run Try.prog w = .ok (.slice (some ⟨w.heap.size, 0, none⟩) 1 1) (w.alloc (.cells #[.string a, .string b] 26)) := by kernel_rfl
theorem lit_2p (v1 v2 : Value) (A1 A2 : Option Addr) (n1 c1 n2 c2 : Nat) (h1 : v1 = .slice A1 n1 c1) (h2 : v2 = .slice A2 n2 c2) (w : World) : (Instr.buildSlice 58 2 #[(0, v1), (1, v2)]).run Try.prog w = .ok (.slice (some ⟨w.heap.size, 0, none⟩) 2 2) (w.alloc (.cells #[v1, v2] 22)) := by subst h1 h2; kernel_rfl
theorem lit_3p (v1 v2 v3 : Value) (A1 A2 A3 : Option Addr) (n1 c1 n2 c2 n3 c3 : Nat) (h1 : v1 = .slice A1 n1 c1) (h2 : v2 = .slice A2 n2 c2) (h3 : v3 = .slice A3 n3 c3) (w : World) : (Instr.buildSlice 58 3 #[(0, v1), (1, v2), (2, v3)]).run Try.prog w = .ok (.slice (some ⟨w.heap.size, 0, none⟩) 3 3) (w.alloc (.cells #[v1, v2, v3] 22)) := by subst h1 h2 h3; kernel_rfl
/-- The one pair of a literal. -/
theorem ps_one {w : World} {g : Nat} (p : Kv) {t : TypeId} {fr : Nat × Nat} (h : w.heap[g]? = some (.cells #[.string ⟨p.1.toArray⟩, .string ⟨p.2.toArray⟩] t fr)) : PS w (.slice (some ⟨g, 0, none⟩) 1 1) [p] :=
  ⟨_, 1, rfl, Nat.le_refl _, rd_row h⟩

set_option maxRecDepth 100000 in
set_option maxHeartbeats 400000 in
theorem Del_any (A : Option Addr) (c : Nat) (ps : List Kv) (k : List UInt8) (w : World) (hr : RdQ w A ps) (hc : ps.length ≤ c) (hn : ps.length ≤ 1000) (hs : Rises ps) :
    Calls Try.prog 9 #[.slice A ps.length c, .string ⟨k.toArray⟩] w fun e w' => ∃ v', e = .returned v' ∧ PB w' v' (delL ps k) ∧ w.grownBy w' none := by
  have hS := place_any A c ps k w hr (by omega) hs
  have hl := len_parts hs k
  have hlo := hr.take (lowN ps k)
  have hhi := RdQ.cut hr (k := lowN ps k + (atL ps k).length) hc
  rw [take_low hs] at hlo
  rw [drop_past hs] at hhi
  have hN : (loL ps k).length = lowN ps k := rfl
  have hcat : delL ps k = loL ps k ++ hiL ps k := rfl
  rw [hcat]
  clear hcat hr hs
  generalize lowN ps k = N at *
  generalize (atL ps k).length = M at *
  generalize loL ps k = lo at *
  generalize hiL ps k = hi at *
  have hlen : N + M + hi.length = ps.length := by omega
  have hTN : N ≤ N + M := by omega
  generalize N + M = T at *
  clear hl
  have H1 : ∀ W : World, w.grownBy W none → PS W (.slice A N c) lo := fun W hg => ⟨A, c, by rw [hN], by omega, hlo.kept hg⟩
  have H2 : ∀ W : World, w.grownBy W none → PS W (.slice (if c = T then A else A.map (·.add (T * 2))) (ps.length - T) (c - T)) hi := fun W hg => ⟨_, _, by rw [show ps.length - T = hi.length by omega], by omega, hhi.kept hg⟩
  have hb : (lo ++ hi).length ≤ 1000000 := by rw [List.length_append]; omega
  have s1 := sl_hiQ A ps.length c N (by omega)
  have s2 := sl_loQ A ps.length c T (by omega)
  have s3 := fun (A2 : Option Addr) (n2 c2 : Nat) (W : World) => lit_2p _ _ A A2 N c n2 c2 rfl rfl W
  clear hlo hhi
  generalize (if c = T then A else A.map (·.add (T * 2))) = B at *
  generalize ps.length - T = n2 at *
  generalize c - T = c2 at *
  go_enter Try.func9, Try.ntmps9
  go_wp2_with (go_at_call 25; refine hS.mono ?_; rintro e w1 ⟨rfl, hg⟩)
  have hcat := cat2 (w1.alloc (.cells #[.slice A N c, .slice B n2 c2] 22)).drew w1.heap.size (.slice A N c) (.slice B n2 c2) 22 (0, 0) lo hi (alloc_atQ rfl) (H1 _ (grown_drew (grown_alloc hg _))) (H2 _ (grown_drew (grown_alloc hg _))) hb
  go_region_with (go_at_call 28; refine hcat.mono ?_; rintro e w2 ⟨v2, rfl, ho, hg2⟩)
  all_goals
    go_wp2
    go_ret
    exact ⟨_, rfl, ho.toPB, grown_none (grown_drew (grown_alloc hg _)) hg2⟩
end Go.Proofs.Ytehbhjkceemmcaa
