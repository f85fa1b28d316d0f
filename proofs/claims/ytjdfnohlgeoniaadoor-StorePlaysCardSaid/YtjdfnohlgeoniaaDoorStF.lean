/- Laws of package store: StoreFull. -/
import Derived.Test.YtjdfnohlgeoniaaDoorStD
import Derived.Test.YtjdfnohlgeoniaaDoorStE
import Derived.Deep.WholeRow
namespace Go.Proofs.YtjdfnohlgeoniaaDoor
open Go.RowKit

/-- The i-th key that the statement sets. -/
def keyG (i : Nat) : List UInt8 := [107, UInt8.ofNat (97 + i / 26), UInt8.ofNat (97 + i % 26)]
def fullV (j : Nat) : List Kv := (List.range j).map fun i => (keyG i, [])
theorem fullV_set : ∀ j, j < 30 → Vers.set ⟨fullV j, []⟩ (keyG j, []) = ⟨fullV (j + 1), []⟩ ∧ okL (fullV j) (keyG j, []) = true := by
  have h : ∀ j, j < 30 → setL (fullV j) (keyG j, []) = fullV (j + 1) ∧ okL (fullV j) (keyG j, []) = true := by decide +kernel
  exact fun j hj => ⟨by unfold Vers.set; rw [if_pos (h j hj).2, (h j hj).1], (h j hj).2⟩
theorem keyG_bv {i : Nat} (h : i < 31) : (#[Value.int .u8 107, Value.int .u8 (97 + (i : Int) / 26), Value.int .u8 (97 + (i : Int) % 26)] : Array Value).toList = (keyG i).map bv := by
  have h1 : (97 + (i : Int) / 26) = ((UInt8.ofNat (97 + i / 26)).toNat : Int) := by rw [UInt8.toNat_ofNat']; omega
  have h2 : (97 + (i : Int) % 26) = ((UInt8.ofNat (97 + i % 26)).toNat : Int) := by rw [UInt8.toNat_ofNat']; omega
  show [Value.int .u8 107, Value.int .u8 (97 + (i : Int) / 26), Value.int .u8 (97 + (i : Int) % 26)] = [bv _, bv _, bv _]
  unfold bv
  rw [← h1, ← h2]; rfl
theorem keyG_conv {i : Nat} (h : i < 31) (w : World) : (convert 51 9 (.slice (some ⟨w.heap.size, 0, none⟩) 3 3)).run Tryd.prog (w.alloc (.cells #[.int .u8 107, .int .u8 (97 + (i : Int) / 26), .int .u8 (97 + (i : Int) % 26)] 5)) = .ok (.string ⟨(keyG i).toArray⟩) (w.alloc (.cells #[.int .u8 107, .int .u8 (97 + (i : Int) / 26), .int .u8 (97 + (i : Int) % 26)] 5)) :=
  run_text (l := keyG i) _ 51 9 5 3 Tryd.underlying51 Tryd.underlying5 Tryd.underlying9 (rdB_new w _ _ _ (keyG_bv h))
theorem fullV_no : okL (fullV 30) (keyG 30, []) = false := by decide +kernel

def fullA : List Kv := setL (fullV 30) ([107, 97, 97], [110, 101, 119])
theorem fullA_set : Vers.set ⟨fullV 30, []⟩ ([107, 97, 97], [110, 101, 119]) = ⟨fullA, []⟩ ∧ okL (fullV 30) ([107, 97, 97], [110, 101, 119]) = true := by
  have h : okL (fullV 30) ([107, 97, 97], [110, 101, 119]) = true := by decide +kernel
  exact ⟨by unfold Vers.set; rw [if_pos h]; rfl, h⟩
theorem fullA_no1 : okL fullA ([], []) = false := by decide +kernel
theorem fullA_no2 : okL fullA ([107, 97, 98], List.replicate 25 0) = false := by decide +kernel
theorem fullA_len : fullA.length = 30 := by decide +kernel
theorem Vers.no {s : Vers} {p : Kv} (h : okL s.now p = false) : s.set p = s := by unfold Vers.set; rw [if_neg (by rw [h]; decide)]

def z25 : Array Value := (List.replicate 25 (.int .u8 0)).toArray
theorem make25 (W : World) : (Instr.makeSlice 51 (.int .i64 25) (.int .i64 25)).run Tryd.prog W = .ok (.slice (some ⟨W.heap.size, 0, none⟩) 25 25) (W.alloc (.cells z25 5)) := by kernel_rfl
theorem conv25 (W : World) : (convert 51 9 (.slice (some ⟨W.heap.size, 0, none⟩) 25 25)).run Tryd.prog (W.alloc (.cells z25 5)) = .ok (.string ⟨(List.replicate 25 (0 : UInt8)).toArray⟩) (W.alloc (.cells z25 5)) :=
  run_text (l := List.replicate 25 0) _ 51 9 5 25 Tryd.underlying51 Tryd.underlying5 Tryd.underlying9 (rdB_new W _ _ _ (by kernel_rfl))

def emptyV (k : Nat) : Vers := ⟨[], List.replicate k []⟩
theorem empty_com (j : Nat) : (emptyV (min j 16)).commit = emptyV (min (j + 1) 16) := by
  unfold Vers.commit emptyV
  simp only [List.length_replicate]
  by_cases h : min j 16 < 16
  · rw [if_pos h, show min (j + 1) 16 = min j 16 + 1 by omega, List.replicate_succ']
  · rw [if_neg h, show min (j + 1) 16 = min j 16 by omega]
theorem empty_coms (j : Nat) : (emptyV (min j 16)).commits = if j < 16 then j + 1 else 0 := by
  unfold Vers.commits emptyV
  simp only [List.length_replicate]
  by_cases h : j < 16
  · rw [if_pos (by omega), if_pos h]; omega
  · rw [if_neg (by omega), if_neg h]

theorem store_new (X : List UInt8) (hX : X.length = 32) (W : World) : Sem.run Tryd.prog (storeCells ⟨W.heap.size, 0, none⟩ (X.map bv)) (W.alloc (.cells #[.int .u8 0, .int .u8 0, .int .u8 0, .int .u8 0, .int .u8 0, .int .u8 0, .int .u8 0, .int .u8 0, .int .u8 0, .int .u8 0, .int .u8 0, .int .u8 0, .int .u8 0, .int .u8 0, .int .u8 0, .int .u8 0, .int .u8 0, .int .u8 0, .int .u8 0, .int .u8 0, .int .u8 0, .int .u8 0, .int .u8 0, .int .u8 0, .int .u8 0, .int .u8 0, .int .u8 0, .int .u8 0, .int .u8 0, .int .u8 0, .int .u8 0, .int .u8 0] 40)) = .ok () (W.alloc (.cells (X.map bv).toArray 40)) := by
  have := run_storeCells_new (P := Tryd.prog) W 40 #[.int .u8 0, .int .u8 0, .int .u8 0, .int .u8 0, .int .u8 0, .int .u8 0, .int .u8 0, .int .u8 0, .int .u8 0, .int .u8 0, .int .u8 0, .int .u8 0, .int .u8 0, .int .u8 0, .int .u8 0, .int .u8 0, .int .u8 0, .int .u8 0, .int .u8 0, .int .u8 0, .int .u8 0, .int .u8 0, .int .u8 0, .int .u8 0, .int .u8 0, .int .u8 0, .int .u8 0, .int .u8 0, .int .u8 0, .int .u8 0, .int .u8 0, .int .u8 0] (X.map bv).toArray (hashV_size X hX) (by rw [show (X.map bv).toArray.size = 32 from by rw [List.size_toArray, List.length_map, hX]]; rfl) (bv_all' _)
  simpa using this
theorem eqIn_hash (X : List UInt8) (hX : X.length = 32) (w : World) : (Op.equalIn 10000 40 (.agg (X.map bv).toArray) (.agg (X.map bv).toArray)).run Tryd.prog w = .ok true w := by
  have h := eqlH_true X hX w
  have e : (binOp .eql 40 (.agg (X.map bv).toArray) (.agg (X.map bv).toArray)).run Tryd.prog w = ((Op.equalIn 10000 40 (.agg (X.map bv).toArray) (.agg (X.map bv).toArray)).run Tryd.prog w).andThen fun b w' => .ok (.bool b) w' := by simp only [binOp, Op.equal, Op.maxDepth, Sem.run_bind, Sem.run_pure]
  rw [e] at h
  cases hq : (Op.equalIn 10000 40 (.agg (X.map bv).toArray) (.agg (X.map bv).toArray)).run Tryd.prog w with
  | ok b w' =>
    rw [hq] at h
    simp only [Result.andThen_ok, Result.ok.injEq, Value.bool.injEq] at h
    rw [h.1, h.2]
  | _ => rw [hq] at h; simp [Result.andThen] at h
theorem quiet_load_row {P : Program} {o : Oper} {a : Act} {C : World → Prop} {K : Act → Prop} (ty : TypeId) (x : Operand) (ho : o.op = .load ty x)
    (g : Nat) (hx : a.eval x = .pointer (some ⟨g, 0, none⟩)) (t : TypeId) (cs : Array Value) (fr : Nat × Nat) (d : TypeDesc) (hg : ∀ w, C w → w.heap[g]? = some (.cells cs t fr))
    (hu : P.underlying ty = some d) (hd : (match d with | .struct _ | .array _ _ => true | _ => false) = true) (hi : (P.info? ty).map (·.size) = some cs.size)
    (h : K (a.put o.dst (.agg cs))) : o.quiet P a C K := ⟨.agg cs, fun w hw => by
  unfold Oper.quietAt execOp
  simp only [ho, hx, Instr.loadAt, Instr.sureAddr, Sem.run_bind, Sem.run_pure, Result.andThen_ok, run_loadVar_row w g t ty cs fr d (hg w hw) hu hd hi]
  exact ⟨rfl, rfl⟩, h⟩
theorem quiet_bin {P : Program} {o : Oper} {a : Act} {C : World → Prop} {K : Act → Prop} {op : BinOp} {t m : TypeId} {x y : Operand} {xv yv v : Value} (ho : o.op = .binOp op t x y m) (hx : a.eval x = xv) (hy : a.eval y = yv)
    (hg : ∀ w, (eqGuard op t x y xv yv).run P w = .ok () w) (hrun : ∀ w, (binOp op t xv yv).run P w = .ok v w) (h : K (a.put o.dst v)) : o.quiet P a C K := ⟨v, fun w _ => by
  subst hx
  subst hy
  unfold Oper.quietAt execOp
  simp [ho, hrun, hg]
  exact ⟨rfl, rfl⟩, h⟩
theorem empty_at (x : Nat) (hx : x ≤ 5) : (emptyV 16).at? (16 - (x : Int)) = some [] := by
  unfold Vers.at? emptyV
  rw [if_pos ⟨by omega, by rw [List.length_replicate]; omega⟩]
  rw [List.getElem?_replicate_of_lt (by omega)]
theorem empty_root (x : Nat) (hx : x ≤ 5) : (emptyV 16).rootAt (16 - (x : Int)) = storeRootL [] := by
  unfold Vers.rootAt
  rw [empty_at x hx]

set_option maxRecDepth 100000 in
theorem StoreFull_any (SA : World → Nat → (Nat → Prop) → (Nat → Prop) → Vers → Prop) (K' : StoreK SA) (n : Int) (w : World) (hk : Laid2 w) : Calls Tryd.prog 6 #[.int .i64 n] w fun e w' => e = .returned (.bool true) ∧ w.grownBy w' none := by
  have kn := K'.new
  have ks := fun w g B R s p h => K'.set (w := w) (g := g) (B := B) (R := R) (s := s) p h
  have ksA := fun w g B R h => K'.set (w := w) (g := g) (B := B) (R := R) (s := ⟨fullV 30, []⟩) ([107, 97, 97], [110, 101, 119]) h
  have ksB := fun w g B R h => K'.set (w := w) (g := g) (B := B) (R := R) (s := ⟨fullA, []⟩) ([], []) h
  have ksC := fun w g B R h => K'.set (w := w) (g := g) (B := B) (R := R) (s := ⟨fullA, []⟩) ([107, 97, 98], List.replicate 25 0) h
  rw [fullA_set.1] at ksA
  rw [Vers.no fullA_no1] at ksB
  rw [Vers.no fullA_no2] at ksC
  dsimp only at ksA ksB ksC
  obtain ⟨S25, hS25⟩ : ∃ S, S = (List.replicate 25 (0 : UInt8)).toArray := ⟨_, rfl⟩
  have hc25 := conv25
  rw [← hS25] at ksC hc25
  clear hS25
  rw [fullA_set.2] at ksA
  rw [fullA_no1] at ksB
  rw [fullA_no2] at ksC
  go_enter Tryd.func6, Tryd.ntmps6
  go_wp2_with (go_at_call 7; refine (kn _).mono ?_; rintro e w1 ⟨g, B1, R1, rfl, h1, hr1, hg1⟩; unfold sptr)
  have r1 : Road w w1 B1 R1 := ⟨hg1, fun x hx => hr1 x ((K'.sub h1).1 x hx), hr1⟩
  go_loopw [14] (fun i wr => ∃ (j : Nat) (B R : Nat → Prop), j ≤ 31 ∧ i = .int .i64 j ∧ SA wr g B R ⟨fullV (min j 30), []⟩ ∧ Road w wr B R) (fun i _ => 31 - (intOf i).toNat)
  case atStart => exact ⟨0, B1, R1, by omega, rfl, h1, r1⟩
  case round =>
    obtain ⟨j, B, R, hj, rfl, hs, hro⟩ := hrel
    by_cases hlt : j < 31
    · have hcv := keyG_conv hlt wr
      have HJ : Hid (okL (fullV (min j 30)) (keyG j, []) = decide ((j : Int) < 30)) := by
        show _ = _
        by_cases h : j < 30
        · rw [show min j 30 = j by omega, (fullV_set j h).2, decide_eq_true (show (j : Int) < 30 by omega)]
        · obtain rfl : j = 30 := by omega
          exact fullV_no
      have HS : Hid (Vers.set ⟨fullV (min j 30), []⟩ (keyG j, []) = ⟨fullV (min (j + 1) 30), []⟩) := by
        show _ = _
        by_cases h : j < 30
        · rw [show min j 30 = j by omega, (fullV_set j h).1, show min (j + 1) 30 = j + 1 by omega]
        · obtain rfl : j = 30 := by omega
          unfold Vers.set
          rw [if_neg (by rw [show okL (fullV (min 30 30)) (keyG 30, []) = _ from fullV_no]; decide)]; rfl
      have ks1 := fun W (hW : SA W g B R ⟨fullV (min j 30), []⟩) => ks W g B R _ (keyG j, []) hW
      rw [HS.out] at ks1
      dsimp only at ks1
      rw [HJ.out] at ks1
      have hs' := K'.keep hs (.ofNone (grown_alloc (grown_refl wr none) (.cells #[.int .u8 107, .int .u8 (97 + (j : Int) / 26), .int .u8 (97 + (j : Int) % 26)] 5)) (fun _ => False)) (fun _ e => e.elim)
      have hro' := hro.then (grown_alloc (grown_refl wr none) (.cells #[.int .u8 107, .int .u8 (97 + (j : Int) / 26), .int .u8 (97 + (j : Int) % 26)] 5))
      clear hs hro
      go_wp2_with (go_at_call 14; refine (ks1 _ hs').mono ?_; rintro e w2 ⟨B2, R2, rfl, h2, hd2⟩)
      go_roundw
      case rel => exact ⟨j + 1, B2, R2, by omega, by go_num, h2, hro'.did hd2⟩
      case measure => simp [intOf]; omega
    · obtain rfl : j = 31 := by omega
      go_wp2_with (first
        | (go_at_call 14; refine (ksA _ _ _ _ hs).mono ?_; clear ksA; rintro e w2 ⟨B2, R2, rfl, h2, hd2⟩)
        | (go_at_call 14; refine (ksB _ _ _ _ h2).mono ?_; clear ksB; rintro e w3 ⟨B3, R3, rfl, h3, hd3⟩; have hm25 := make25 w3; have hv25 := hc25 w3; have h4 := K'.keep h3 (.ofNone (grown_alloc (grown_refl w3 none) (.cells z25 5)) (fun _ => False)) (fun _ e => e.elim); have hr4 := ((hro.did hd2).did hd3).then (grown_alloc (grown_refl w3 none) (.cells z25 5)))
        | (go_at_call 14; refine (ksC _ _ _ _ h4).mono ?_; clear ksC; rintro e w5 ⟨B5, R5, rfl, h5, hd5⟩)
        | (go_at_call 18; refine (K'.now_ h5).mono ?_; rintro e w6 ⟨v6, rfl, hp6, hb6, hg6⟩; obtain ⟨A6, c6, e6, hc6, hr6, hl6⟩ := hp6.form; rw [fullA_len] at e6; subst e6)
        | (go_at_call 7; refine (kn _).mono ?_; rintro e w7 ⟨g7, B7, R7, rfl, h7, hr7, hg7⟩; unfold sptr))
      have r7 : Road w w7 B7 R7 := by
        have hW : w.grownBy w6 none := (((hr4.did hd5).then hg6)).grew
        exact ⟨grown_none hW hg7, fun x hx => Nat.le_trans hW.size (hr7 x ((K'.sub h7).1 x hx)), fun x hx => Nat.le_trans hW.size (hr7 x hx)⟩
      clear hc25 ks kn
      go_loopw [7] (fun i wr => ∃ (j : Nat) (B R : Nat → Prop), j ≤ 17 ∧ i = .int .i64 ((j : Int) + 1) ∧ SA wr g7 B R (emptyV (min j 16)) ∧ Road w wr B R) (fun i _ => 18 - (intOf i).toNat)
      case atStart => exact ⟨0, B7, R7, by omega, rfl, h7, r7⟩
      case round =>
        obtain ⟨j, B8, R8, hj8, rfl, hs8, hro8⟩ := hrel
        by_cases hlt8 : j < 17
        · have kc : ∀ W, SA W g7 B8 R8 (emptyV (min j 16)) → Calls Tryd.prog 11 #[sptr g7] W fun e w' => ∃ B' R', e = .returned (.int .i64 (if j < 16 then (j : Int) + 1 else 0)) ∧ SA w' g7 B' R' (emptyV (min (j + 1) 16)) ∧ Did W w' B8 R8 B' R' := fun W h => by
            have := K'.commit h
            rw [empty_com, empty_coms] at this
            rwa [show ((if j < 16 then j + 1 else 0 : Nat) : Int) = if j < 16 then (j : Int) + 1 else 0 by split <;> simp] at this
          by_cases h16 : j < 16
          · rw [if_pos h16] at kc
            go_wp2_with (go_at_call 11; refine (kc _ hs8).mono ?_; rintro e w9 ⟨B9, R9, rfl, h9, hd9⟩)
            go_roundw
            case rel => exact ⟨j + 1, B9, R9, by omega, by go_num, h9, hro8.did hd9⟩
            case measure => simp [intOf]; omega
          · rw [if_neg h16] at kc
            obtain rfl : j = 16 := by omega
            go_wp2_with (go_at_call 11; refine (kc _ hs8).mono ?_; rintro e w9 ⟨B9, R9, rfl, h9, hd9⟩)
            go_roundw
            case rel => exact ⟨17, B9, R9, by omega, by rfl, h9, hro8.did hd9⟩
            case measure => simp [intOf]
        · obtain rfl : j = 17 := by omega
          obtain ⟨x, hx, hwi⟩ := Within_nat n 5 (by omega)
          have hrt := fun W (h : SA W g7 B8 R8 (emptyV 16)) (hk : Laid2 W) => K'.root (16 - (x : Int)) h hk (by omega)
          rw [empty_root x hx, empty_at x hx] at hrt
          have hsr := fun W (hk : Laid2 W) => K'.sroot (w := W) (A := none) (c := 0) (ps := []) RdAt.nil (Nat.le_refl _) (by kernel_rfl) hk
          have hhe := fun W (h : SA W g7 B8 R8 (emptyV 16)) => K'.height h
          rw [show (emptyV 16).all.length = 16 from rfl] at hhe
          obtain ⟨X, hX⟩ : ∃ X, X = storeRootL [] := ⟨_, rfl⟩
          have hXl : Hid (X.length = 32) := by rw [hX]; exact boundL_len _ _
          rw [← hX] at hrt hsr
          rw [List.length_nil] at hsr
          clear hX
          have heq := eqlH_true X hXl.out
          have hk8 := hk.kept hro8.grew
          have keep := fun w w' g B R s (h : SA w g B R s) (hg : w.grownBy w' none) => K'.keep h (.ofNone hg (fun _ => False)) (fun _ e => e.elim)
          go_wp2_with (first
            | (go_at_call 26; refine (hwi _).mono ?_; rintro e w9 ⟨rfl, rfl⟩)
            | (go_at_call 20; refine (hrt _ hs8 hk8).mono ?_; rintro e wa ⟨rfl, hga⟩; have hst := store_new X hXl.out wa; have hbr := alloc_at (w := wa) (o := .cells (X.map bv).toArray 40) rfl; have hga' := grown_alloc hga (.cells (X.map bv).toArray 40)))

          have hbr' : (wa.alloc (.cells (X.map bv).toArray 40)).heap[wa.heap.size]? = some (.cells (X.map bv).toArray 40 (0, 0)) := hbr
          replace hbr' := Lib.hid hbr'
          clear hbr hst
          have hVs := hashV_size X hXl.out
          generalize (X.map bv).toArray = V at *
          clear hXl
          replace hVs := Lib.hid hVs
          generalize hw0 : (wa.alloc (.cells V 40)) = w0 at *
          refine wp_region_grow (by kernel_rfl) (by kernel_rfl) ?_
          iterate 2
            with_reducible refine wpQuiet_step (fun K hK => ?_)
            go_simp
            first
              | (refine hK _ ?_; clear hK K)
              | (refine ⟨_, fun _ _ => rfl, hK _ ?_⟩; clear hK K)
          with_reducible refine wpQuiet_step (fun K hK => ?_)
          rw [if_pos (by rfl)]
          refine quiet_load_row 40 _ rfl wa.heap.size rfl 40 V (0, 0) _ (fun wq hq => keep_of hbr'.out hq) Tryd.underlying40 rfl hVs.out (hK _ ?_)
          clear hK K
          iterate 1
            with_reducible refine wpQuiet_step (fun K hK => ?_)
            go_simp
            first
              | (refine hK _ ?_; clear hK K)
              | (refine ⟨_, fun _ _ => rfl, hK _ ?_⟩; clear hK K)
              | (apply Exists.intro
                 refine ⟨fun wq hq => ?_, hK _ ?_⟩
                 (first
                   | (go_at_call 27; exact (hsr wq (hk8.kept (grown_none hga' hq))).mono fun _ _ h => ⟨h.1, grown_none hq h.2⟩))
                 clear hK K)
          with_reducible refine wpQuiet_step (fun K hK => ?_)
          rw [if_pos (by rfl)]
          refine quiet_bin rfl rfl rfl (fun _ => guard_hash _ _ _ _ _) heq (hK _ ?_)
          clear hK K
          iterate 10
            with_reducible refine wpQuiet_step (fun K hK => ?_)
            go_simp
            first
              | (refine hK _ ?_; clear hK K)
              | (refine ⟨_, fun _ _ => rfl, hK _ ?_⟩; clear hK K)
              | (apply Exists.intro
                 refine ⟨fun wq hq => ?_, hK _ ?_⟩
                 (first
                   | (go_at_call 16; exact (hhe wq (keep _ _ _ _ _ _ hs8 (grown_none hga' hq))).mono fun _ _ h => ⟨h.1, grown_none hq h.2⟩)
                   | (go_at_call 24; exact (StoreRuns_any SA K'.toStoreJ wq).mono fun _ _ h => ⟨h.1, grown_none hq h.2⟩))
                 clear hK K)
          with_reducible refine wpQuiet_nil ?_
          intro wq hq
          go_wp2
          go_ret
          exact ⟨rfl, grown_none (grown_none hro8.grew hga') hq⟩
end Go.Proofs.YtjdfnohlgeoniaaDoor
