/- Two rows of pairs compared; the document's own Set. -/
import Derived.Test.YtehbhjkceemmcaaKvK
import Derived.Test.YtehbhjkceemmcaaKC
import Derived.Laws.StructEq
namespace Go.Proofs.Ytehbhjkceemmcaa
open Go.RowKit

theorem neq_kv (x y : Kv) (w : World) : (binOp .neq 26 (.agg #[.string ⟨x.1.toArray⟩, .string ⟨x.2.toArray⟩]) (.agg #[.string ⟨y.1.toArray⟩, .string ⟨y.2.toArray⟩])).run Try.prog w = .ok (.bool (!(x == y))) w := by
  rw [run_neq_struct, run_equalIn_struct (P := Try.prog) w 9999 26 _ _ (by kernel_rfl) (by kernel_rfl)]
  have h : (Op.eqFields 9999 #[.string ⟨x.1.toArray⟩, .string ⟨x.2.toArray⟩] #[.string ⟨y.1.toArray⟩, .string ⟨y.2.toArray⟩] (Try.prog.fieldsOf 26).toList).run Try.prog w = .ok (x == y) w := by
    have hm : ((Try.prog.fieldsOf 26).toList.map fun f => (f.name, f.offset, f.type)) = [("Key", 0, 9), ("Value", 1, 9)] := by kernel_rfl
    have hz : ∀ w, (sizeOf 9).run Try.prog w = .ok 1 w := fun w => by kernel_rfl
    have he := fun (a b : ByteArray) (w : World) => run_equalIn_string (P := Try.prog) w 9998 9 a b Try.underlying9
    generalize (Try.prog.fieldsOf 26).toList = L at *
    obtain ⟨f0, L0, rfl, h0, hm⟩ := List.map_eq_cons_iff.1 hm
    obtain ⟨f1, L1, rfl, h1, hm⟩ := List.map_eq_cons_iff.1 hm
    obtain rfl := List.map_eq_nil_iff.1 hm
    simp only [Prod.mk.injEq] at h0 h1
    obtain ⟨n0, o0, t0⟩ := h0
    obtain ⟨n1, o1, t1⟩ := h1
    simp [Op.eqFields, n0, o0, t0, n1, o1, t1, part, hz, he]
    show _ = Result.ok (x.1 == y.1 && x.2 == y.2) w
    by_cases e1 : x.1 = y.1 <;> by_cases e2 : x.2 = y.2 <;> simp [e1, e2]
  rw [h]
  rfl
theorem kv_of {x y : Kv} (h : (!(x == y)) = false) : x = y := by simpa using h
theorem kv_ne {x y : Kv} (h : (!(x == y)) = true) : x ≠ y := by simpa using h

set_option maxHeartbeats 1000000 in
theorem SameQ_any (A1 A2 : Option Addr) (l1 l2 : List Kv) (c1 c2 : Nat) (w : World) (h1 : RdQ w A1 l1) (h2 : RdQ w A2 l2) (hm1 : l1.length ≤ 1000000000) (hm2 : l2.length ≤ 1000000000) :
    Calls Try.prog 19 #[.slice A1 l1.length c1, .slice A2 l2.length c2] w fun e w' => e = .returned (.bool (decide (l1 = l2))) ∧ w.grownBy w' none := by
  by_cases hl : l1.length = l2.length
  · have hlb : ((l1.length : Int) != (l2.length : Int)) = false := by simp [hl]
    have HL := Lib.hid hl
    clear hl
    go_enter Try.func19, Try.ntmps19
    go_wp2
    go_loopw [5] (fun i wr => ∃ k n : Nat, k ≤ l1.length ∧ i = .int .i64 k ∧ Hid (l1.take k = l2.take k) ∧ wr = w.drewN n) (fun i _ => l1.length - (intOf i).toNat)
    case atStart => exact ⟨0, 0, Nat.zero_le _, rfl, (rfl : l1.take 0 = l2.take 0), rfl⟩
    case round =>
      obtain ⟨k, n, hk, rfl, HT, rfl⟩ := hrel
      by_cases hlt : k < l1.length
      · obtain ⟨a1, rfl, hc1⟩ := RdQ.at h1 hlt
        have hlt2 : k < l2.length := by rw [← HL.out]; exact hlt
        obtain ⟨a2, rfl, hc2⟩ := RdQ.at h2 hlt2
        have hE : Hid (l1[k] = l2[k] → l1.take (k + 1) = l2.take (k + 1)) := fun e => take_next hlt hlt2 HT.out e
        have hN : Hid (l1[k] ≠ l2[k] → decide (l1 = l2) = false) := fun e => take_parts hlt hlt2 e
        generalize l1[k] = x at *
        generalize l2[k] = y at *
        have q1 : w.cell? (a1.add (k * 2)) = some (.string ⟨x.1.toArray⟩) := hc1.1
        have q2 : w.cell? ⟨(a1.add (k * 2)).block, (a1.add (k * 2)).off + 1, none⟩ = some (.string ⟨x.2.toArray⟩) := hc1.2
        have q3 : w.cell? (a2.add (k * 2)) = some (.string ⟨y.1.toArray⟩) := hc2.1
        have q4 : w.cell? ⟨(a2.add (k * 2)).block, (a2.add (k * 2)).off + 1, none⟩ = some (.string ⟨y.2.toArray⟩) := hc2.2
        have hq := neq_kv x y
        clear hc1 hc2
        cases hxy : !(x == y)
        · rw [hxy] at hq
          have hEq := hE.out (kv_of hxy)
          have HEq := Lib.hid hEq
          clear hEq hE hN hxy
          go_wp2
          go_quiet (fail)
          go_wp2
          go_roundw
          case rel => exact ⟨k + 1, n + nq, by omega, by go_num, HEq, rfl⟩
          case measure => simp [intOf]; omega
        · rw [hxy] at hq
          have HNe := Lib.hid (hN.out (kv_ne hxy))
          clear hE hN hxy
          go_wp2
          go_quiet (fail)
          go_wp2
          go_ret
          exact ⟨ret_bool HNe.out.symm, grown_drewN (grown_drewN (grown_refl _ _) _) _⟩
      · go_wp2
        go_ret
        exact ⟨ret_bool (by symm; rw [decide_eq_true_iff]; exact take_all HL.out hlt HT.out), grown_drewN (grown_refl _ _) _⟩
  · have hlb : ((l1.length : Int) != (l2.length : Int)) = true := by rw [bne_iff_ne]; omega
    go_enter Try.func19, Try.ntmps19
    go_wp2
    go_ret
    exact ⟨ret_bool (by symm; rw [decide_eq_false_iff_not]; rintro rfl; exact hl rfl), grown_refl _ _⟩
end Go.Proofs.Ytehbhjkceemmcaa
