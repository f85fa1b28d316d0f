/- The law on paths that lead up to the root: its contract. -/
import Derived.Test.YtmfnncfiaaeknaaDoorTrKit
import Derived.Test.YtmfnncfiaaeknaaDoorLamG
namespace Go.Proofs.YtmfnncfiaaeknaaDoor
open Go.RowKit

/-- '[]byte(s)' in order. -/
theorem wpList_convS {ops : Array Oper} {rest : List Oper} {o : Oper} {a : Act} {w : World} {Q : Exit → Act → World → Prop} (hgd : o.guard = none) (x : Operand) (ho : o.op = .convert 9 24 x) {s : ByteArray} {T : List UInt8} (hx : a.eval x = .string s) (hs : s = ⟨T.toArray⟩)
    (h : ∀ c w', w.grownBy w' none → RdB w' (some ⟨w.heap.size, 0, none⟩) T → wpList Tryd.prog ops Q rest (a.put o.dst (.slice (some ⟨w.heap.size, 0, none⟩) T.length c)) w') : wpList Tryd.prog ops Q (o :: rest) a w := by
  subst hs
  refine wpList_plain hgd fun K hK => ?_
  obtain ⟨c, w', hrun, hg, -, hp⟩ := conv_str T w
  exact wp_conv ho hx hrun (hK _ _ (h c w' hg hp.rd))
/-- What both say that leaf x at place j leads up to. -/
theorem upBoth (x : List UInt8) (hx : x.length ≤ 1000) (j N d : Nat) (hj : j < N) (hN : N ≤ 16) (hd : d ≤ 500) (P : List UInt8) (hP : P.length = d * 32) :
    ∃ (U : List UInt8) (ok : Bool), U.length = 32 ∧ (d = depthN j N → ok = true ∧ U = upL x j N P d) ∧ (d ≠ depthN j N → ok = false) ∧
      (∀ A' c' B cq w', RdB w' A' x → RdB w' B P → (d = 0 ∨ ∃ g, B = some ⟨g, 0, none⟩) → d ≤ cq → Laid2 w' → Calls Tryd.prog 17 #[.slice A' x.length c', .int .i64 (j : Int), .int .i64 (N : Int), .slice B d cq] w' fun e w'' => e = .returned (.tuple #[.agg (U.map bv).toArray, .bool ok]) ∧ w'.grownBy w'' none) ∧
      (∀ A' c' B cq w', RdB w' A' x → RdB w' B P → (d = 0 ∨ ∃ g, B = some ⟨g, 0, none⟩) → d ≤ cq → Calls Tryd.prog 23 #[.slice A' x.length c', .int .i64 (j : Int), .int .i64 (N : Int), .slice B d cq] w' fun e w'' => ∃ Z : List UInt8, Z.length = 32 ∧ (ok = true → Z = U) ∧ e = .returned (.tuple #[.agg (Z.map bv).toArray, .bool ok]) ∧ w'.grownBy w'' none) := by
  by_cases h : d = depthN j N
  · refine ⟨upL x j N P d, true, upL_len _ _ _ _ _, fun _ => ⟨rfl, rfl⟩, fun h' => absurd h h', fun A' c' B cq w' h1 h2 h3 h4 h5 => Up_any A' x c' hx j N d B P cq w' hj (by omega) h h3 hP h4 h1 h2 h5, fun A' c' B cq w' h1 h2 h3 h4 => ?_⟩
    refine (RUp_any A' x c' hx N j d B P cq w' hj (by omega) (by omega) h3 hP h4 h1 h2).mono ?_
    rintro e w'' ⟨Z, hZ, hZu, rfl, hg⟩
    exact ⟨Z, hZ, fun _ => hZu h, by rw [decide_eq_true h], hg⟩
  · refine ⟨zeroH, false, zeroH_len, fun h' => absurd h' h, fun _ => rfl, fun A' c' B cq w' h1 h2 h3 h4 h5 => Up_no A' x.length c' j N B d cq (depthN j N) (fun w => Depth_any j N hj (by omega) w) (by omega) w', fun A' c' B cq w' h1 h2 h3 h4 => ?_⟩
    refine (RUp_any A' x c' hx N j d B P cq w' hj (by omega) (by omega) h3 hP h4 h1 h2).mono ?_
    rintro e w'' ⟨Z, hZ, hZu, rfl, hg⟩
    exact ⟨Z, hZ, (fun h => by cases h), by rw [decide_eq_false h], hg⟩


theorem wp_extract {P : Program} {o : Oper} {a : Act} {w : World} {K : Act → World → Prop} {Q : Exit → Act → World → Prop} {x : Operand} {k : Nat} {vs : Array Value} {v : Value} (ho : o.op = .extract x k) (hx : a.eval x = .tuple vs) (hk : vs[k]? = some v) (h : K (a.put o.dst v) w) : Oper.wp P o a w K Q := by
  unfold Oper.wp execOp
  simp [ho, hx, hk, Instr.extract]
  exact h
theorem neqH_same (x : List UInt8) (hx : x.length = 32) (w : World) : (binOp .neq 23 (.agg (x.map bv).toArray) (.agg (x.map bv).toArray)).run Tryd.prog w = .ok (.bool false) w := by
  rw [neq_hash x x hx hx w, beq_self_eq_true]; rfl
theorem guard_hneqU (x y : Operand) (cs ds : Array Value) (w : World) : (eqGuard .neq 23 x y (.agg cs) (.agg ds)).run Tryd.prog w = .ok () w := by kernel_rfl
theorem guard_bneq (x y : Operand) (b d : Bool) (w : World) : (eqGuard .neq 4 x y (.bool b) (.bool d)).run Tryd.prog w = .ok () w := by cases b <;> cases d <;> kernel_rfl
theorem neqB_same (b : Bool) (w : World) : (binOp .neq 4 (.bool b) (.bool b)).run Tryd.prog w = .ok (.bool false) w := by cases b <;> kernel_rfl
theorem guard_str (x y : Operand) (s t : ByteArray) (w : World) : (eqGuard .eql 9 x y (.string s) (.string t)).run Tryd.prog w = .ok () w := by kernel_rfl
theorem eqlS (T S : List UInt8) (w : World) : (binOp .eql 9 (.string ⟨T.toArray⟩) (.string ⟨S.toArray⟩)).run Tryd.prog w = .ok (.bool (T == S)) w := by
  rw [binOp_string_eql, ByteArray.toList_eq, ByteArray.toList_eq]
  rfl
theorem wp_pickNo {P : Program} {o : Oper} {a : Act} {w : World} {K : Act → World → Prop} {Q : Exit → Act → World → Prop} {c x y : Operand} (ho : o.op = .pick c x y) (hc : a.eval c = .bool false) (h : K (a.put o.dst (a.eval y)) w) : Oper.wp P o a w K Q := by
  unfold Oper.wp execOp
  simp [ho, hc, asBool]
  exact h
theorem unwanted_true {ops : Array Oper} {o : Oper} {a : Act} {j s : Nat} (hg : o.guard = some (j, true)) (hd : (ops[j]?).bind (·.dst) = some s) (hv : a.eval (.tmp s) = .bool false) : Region.wanted o (yielded ops a.tmps) = false := by
  have h : a.tmps.getD s undef = .bool false := hv
  have h' : a.tmps[s]? = some (.bool false) := by
    by_cases hs : s < a.tmps.size
    · simp [Array.getD, hs] at h
      rw [Array.getElem?_eq_getElem hs, h]
    · simp [Array.getD, hs] at h
      cases h
  simp [Region.wanted, hg, yielded, hd, h']
theorem idx_listU (ad : Addr) (n c k : Nat) (hk : k < n) (w : World) : (Instr.indexAt 38 (.slice (some ad) n c) (.int .i64 (k : Int))).run Tryd.prog w = .ok (.pointer (some (ad.add k))) w := by
  rw [run_indexAt_slice (P := Tryd.prog) (h := by kernel_rfl), if_pos ⟨by omega, by omega⟩]
  rw [show (sizeOf (Tryd.prog.elem 38)).run Tryd.prog w = .ok 1 w from by kernel_rfl, Result.andThen_ok]
  simp
theorem quo256 (j : Nat) (h : j ≤ 1000000) (w : World) : (binOp .quo 3 (.int .i64 (j : Int)) (.int .i64 256)).run Tryd.prog w = .ok (.int .i64 ((j / 256 : Nat) : Int)) w := by
  simp [binOp, Op.intDiv]
  rw [show ((j : Int) / 256) = ((j / 256 : Nat) : Int) by omega]
  have : j / 256 ≤ 1000000 := by omega
  generalize j / 256 = q at this
  exact IntWalk.i64_in _ ⟨by omega, by omega⟩
theorem rem256 (j : Nat) (w : World) : (binOp .rem 3 (.int .i64 (j : Int)) (.int .i64 256)).run Tryd.prog w = .ok (.int .i64 ((j % 256 : Nat) : Int)) w := by
  simp [binOp, Op.intDiv]
  rw [Int.tmod_eq_emod_of_nonneg (by omega)]
theorem guard_rem (x y : Operand) (xv yv : Value) (w : World) : (eqGuard .rem 3 x y xv yv).run Tryd.prog w = .ok () w := by kernel_rfl
theorem sl_loH (A : Option Addr) (n c k : Nat) (hk : k ≤ n) : ∃ A', ∀ w, (Instr.sliceAt 26 (.slice A n c) (some (.int .i64 (k : Int))) none none).run Tryd.prog w = .ok (.slice A' (n - k) (c - k)) w := by
  refine ⟨if c = k then A else A.map (·.add (k * 32)), fun w => ?_⟩
  rw [run_sliceAt_slice (P := Tryd.prog) (w := w) (t := 26) (h := by kernel_rfl), run_slice_l (P := Tryd.prog) (w := w) (ht := by kernel_rfl) (h0 := by omega) (h1 := by omega)]
  rw [show (sizeOf (Tryd.prog.elem 26)).run Tryd.prog w = .ok 32 w from by kernel_rfl, Result.andThen_ok]
  simp [sliced]
def uaS (t : Nat) : Bool := t == 131 || t == 132 || t == 133 || t == 134 || t == 135 || t == 136 || t == 137 || t == 138 || t == 139 || t == 140 || t == 141 || t == 142 || t == 143 || t == 144 || t == 145 || t == 146 || t == 147 || t == 148 || t == 149 || t == 150 || t == 151 || t == 152 || t == 153 || t == 154 || t == 155 || t == 156 || t == 157 || t == 158 || t == 159 || t == 160 || t == 161 || t == 162 || t == 163 || t == 164 || t == 165
def uaDie (_ : Nat) : Nat := 99
def uaOwn (_ : Nat) : Bool := false
def uaAl (k : Nat) : Bool := k == 21 || k == 23 || k == 26
def uaF (ad : Addr) (N c i bo co pc : Nat) (pA : Option Addr) (T Yo Zj : List UInt8) : Nat → Value → World → Prop
  | 0 => fun v _ => v = .bool true
  | 1 => fun v _ => v = .bool false
  | 2 => fun v _ => v = .bool false
  | 3 => fun v _ => v = (.agg (Yo.map bv).toArray)
  | 4 => fun v _ => v = (.agg (Yo.map bv).toArray)
  | 5 => fun v _ => v = .bool false
  | 6 => fun v _ => v = .bool false
  | 7 => fun v _ => v = .bool false
  | 8 => fun v _ => v = .bool true
  | 9 => fun v _ => v = .bool true
  | 10 => fun v _ => v = .bool false
  | 11 => fun v _ => v = .bool false
  | 12 => fun v _ => v = .bool false
  | 13 => fun v _ => v = .bool true
  | 14 => fun v _ => v = .bool true
  | 15 => fun v _ => v = (.agg (Zj.map bv).toArray)
  | 16 => fun v _ => v = (.agg (Zj.map bv).toArray)
  | 17 => fun v _ => v = .bool false
  | 18 => fun v _ => v = .bool false
  | 19 => fun v _ => v = .bool false
  | 20 => fun v _ => v = .bool false
  | 21 => fun v _ => v = .slice (some ⟨bo, 0, none⟩) T.length co
  | 22 => fun v _ => v = .string ⟨T.toArray⟩
  | 23 => fun v _ => v = .slice (some ad) N c
  | 24 => fun v _ => v = .int .i64 (i : Int)
  | 25 => fun v _ => v = .pointer (some (ad.add i))
  | 26 => fun v _ => v = .slice pA T.length pc
  | 27 => fun v _ => v = .string ⟨T.toArray⟩
  | 28 => fun v _ => v = .bool true
  | 29 => fun v _ => v = .bool true
  | 30 => fun v _ => v = (.agg (Yo.map bv).toArray)
  | 31 => fun v _ => v = (.agg (Yo.map bv).toArray)
  | 32 => fun v _ => v = .bool false
  | 33 => fun v _ => v = .bool false
  | 34 => fun v _ => v = .bool false
  | _ => fun _ _ => True
theorem uaF_lasts (ad : Addr) (N c i bo co pc : Nat) (pA : Option Addr) (T Yo Zj : List UInt8) : ∀ kq, LastsB uaAl kq (uaF ad N c i bo co pc pA T Yo Zj kq)
  | 0 => LastsB.val _
  | 1 => LastsB.val _
  | 2 => LastsB.val _
  | 3 => LastsB.val _
  | 4 => LastsB.val _
  | 5 => LastsB.val _
  | 6 => LastsB.val _
  | 7 => LastsB.val _
  | 8 => LastsB.val _
  | 9 => LastsB.val _
  | 10 => LastsB.val _
  | 11 => LastsB.val _
  | 12 => LastsB.val _
  | 13 => LastsB.val _
  | 14 => LastsB.val _
  | 15 => LastsB.val _
  | 16 => LastsB.val _
  | 17 => LastsB.val _
  | 18 => LastsB.val _
  | 19 => LastsB.val _
  | 20 => LastsB.val _
  | 21 => LastsB.val _
  | 22 => LastsB.val _
  | 23 => LastsB.val _
  | 24 => LastsB.val _
  | 25 => LastsB.val _
  | 26 => LastsB.val _
  | 27 => LastsB.val _
  | 28 => LastsB.val _
  | 29 => LastsB.val _
  | 30 => LastsB.val _
  | 31 => LastsB.val _
  | 32 => LastsB.val _
  | 33 => LastsB.val _
  | 34 => LastsB.val _
  | _ + 35 => fun _ _ _ _ _ _ _ => trivial
def ubS (t : Nat) : Bool := t == 131 || t == 132 || t == 133 || t == 134 || t == 135 || t == 136 || t == 137 || t == 138 || t == 139 || t == 140 || t == 141 || t == 142 || t == 143 || t == 144 || t == 145 || t == 146 || t == 147 || t == 148 || t == 149 || t == 150 || t == 151 || t == 152 || t == 153 || t == 154 || t == 155 || t == 156 || t == 157 || t == 158 || t == 159 || t == 160 || t == 161 || t == 162 || t == 163 || t == 164 || t == 165
def ubDie (_ : Nat) : Nat := 99
def ubOwn (_ : Nat) : Bool := false
def ubAl (k : Nat) : Bool := k == 21 || k == 23 || k == 26
def ubF (ad : Addr) (N c i bo co pc : Nat) (pA : Option Addr) (T pl Yo Zj : List UInt8) : Nat → Value → World → Prop
  | 0 => fun v _ => v = .bool true
  | 1 => fun v _ => v = .bool false
  | 2 => fun v _ => v = .bool false
  | 3 => fun v _ => v = (.agg (Yo.map bv).toArray)
  | 4 => fun v _ => v = (.agg (Yo.map bv).toArray)
  | 5 => fun v _ => v = .bool false
  | 6 => fun v _ => v = .bool false
  | 7 => fun v _ => v = .bool false
  | 8 => fun v _ => v = .bool true
  | 9 => fun v _ => v = .bool true
  | 10 => fun v _ => v = .bool false
  | 11 => fun v _ => v = .bool false
  | 12 => fun v _ => v = .bool false
  | 13 => fun v _ => v = .bool true
  | 14 => fun v _ => v = .bool true
  | 15 => fun v _ => v = (.agg (Zj.map bv).toArray)
  | 16 => fun v _ => v = (.agg (Zj.map bv).toArray)
  | 17 => fun v _ => v = .bool false
  | 18 => fun v _ => v = .bool false
  | 19 => fun v _ => v = .bool false
  | 20 => fun v _ => v = .bool false
  | 21 => fun v _ => v = .slice (some ⟨bo, 0, none⟩) T.length co
  | 22 => fun v _ => v = .string ⟨T.toArray⟩
  | 23 => fun v _ => v = .slice (some ad) N c
  | 24 => fun v _ => v = .int .i64 (i : Int)
  | 25 => fun v _ => v = .pointer (some (ad.add i))
  | 26 => fun v _ => v = .slice pA pl.length pc
  | 27 => fun v _ => v = .string ⟨pl.toArray⟩
  | 28 => fun v _ => v = .bool false
  | 29 => fun v _ => v = .bool false
  | 30 => fun v _ => v = undef
  | 31 => fun v _ => v = undef
  | 32 => fun v _ => v = undef
  | 33 => fun v _ => v = .bool false
  | 34 => fun v _ => v = .bool false
  | _ => fun _ _ => True
theorem ubF_lasts (ad : Addr) (N c i bo co pc : Nat) (pA : Option Addr) (T pl Yo Zj : List UInt8) : ∀ kq, LastsB ubAl kq (ubF ad N c i bo co pc pA T pl Yo Zj kq)
  | 0 => LastsB.val _
  | 1 => LastsB.val _
  | 2 => LastsB.val _
  | 3 => LastsB.val _
  | 4 => LastsB.val _
  | 5 => LastsB.val _
  | 6 => LastsB.val _
  | 7 => LastsB.val _
  | 8 => LastsB.val _
  | 9 => LastsB.val _
  | 10 => LastsB.val _
  | 11 => LastsB.val _
  | 12 => LastsB.val _
  | 13 => LastsB.val _
  | 14 => LastsB.val _
  | 15 => LastsB.val _
  | 16 => LastsB.val _
  | 17 => LastsB.val _
  | 18 => LastsB.val _
  | 19 => LastsB.val _
  | 20 => LastsB.val _
  | 21 => LastsB.val _
  | 22 => LastsB.val _
  | 23 => LastsB.val _
  | 24 => LastsB.val _
  | 25 => LastsB.val _
  | 26 => LastsB.val _
  | 27 => LastsB.val _
  | 28 => LastsB.val _
  | 29 => LastsB.val _
  | 30 => LastsB.val _
  | 31 => LastsB.val _
  | 32 => LastsB.val _
  | 33 => LastsB.val _
  | 34 => LastsB.val _
  | _ + 35 => fun _ _ _ _ _ _ _ => trivial
def ucS (t : Nat) : Bool := t == 131 || t == 132 || t == 133 || t == 134 || t == 135 || t == 136 || t == 137 || t == 138 || t == 139 || t == 140 || t == 141 || t == 142 || t == 143 || t == 144 || t == 145 || t == 146 || t == 147 || t == 148 || t == 149 || t == 150 || t == 151 || t == 152 || t == 153 || t == 154 || t == 155 || t == 156 || t == 157 || t == 158 || t == 159 || t == 160 || t == 161 || t == 162 || t == 163 || t == 164 || t == 165
def ucDie (_ : Nat) : Nat := 99
def ucOwn (_ : Nat) : Bool := false
def ucAl (k : Nat) : Bool := k == 21 || k == 23 || k == 26
def ucF (ad : Addr) (N c i bo co pc : Nat) (pA : Option Addr) (T Yo : List UInt8) : Nat → Value → World → Prop
  | 0 => fun v _ => v = .bool true
  | 1 => fun v _ => v = .bool false
  | 2 => fun v _ => v = .bool false
  | 3 => fun v _ => v = (.agg (Yo.map bv).toArray)
  | 4 => fun v _ => v = (.agg (Yo.map bv).toArray)
  | 5 => fun v _ => v = .bool false
  | 6 => fun v _ => v = .bool false
  | 7 => fun v _ => v = .bool false
  | 8 => fun v _ => v = .bool false
  | 9 => fun v _ => v = .bool false
  | 10 => fun v _ => v = .bool false
  | 11 => fun v _ => v = .bool false
  | 12 => fun v _ => v = .bool false
  | 13 => fun v _ => v = .bool false
  | 14 => fun v _ => v = .bool false
  | 15 => fun v _ => v = undef
  | 16 => fun v _ => v = undef
  | 17 => fun v _ => v = undef
  | 18 => fun v _ => v = .bool false
  | 19 => fun v _ => v = .bool false
  | 20 => fun v _ => v = .bool false
  | 21 => fun v _ => v = .slice (some ⟨bo, 0, none⟩) T.length co
  | 22 => fun v _ => v = .string ⟨T.toArray⟩
  | 23 => fun v _ => v = .slice (some ad) N c
  | 24 => fun v _ => v = .int .i64 (i : Int)
  | 25 => fun v _ => v = .pointer (some (ad.add i))
  | 26 => fun v _ => v = .slice pA T.length pc
  | 27 => fun v _ => v = .string ⟨T.toArray⟩
  | 28 => fun v _ => v = .bool true
  | 29 => fun v _ => v = .bool true
  | 30 => fun v _ => v = (.agg (Yo.map bv).toArray)
  | 31 => fun v _ => v = (.agg (Yo.map bv).toArray)
  | 32 => fun v _ => v = .bool false
  | 33 => fun v _ => v = .bool false
  | 34 => fun v _ => v = .bool false
  | _ => fun _ _ => True
theorem ucF_lasts (ad : Addr) (N c i bo co pc : Nat) (pA : Option Addr) (T Yo : List UInt8) : ∀ kq, LastsB ucAl kq (ucF ad N c i bo co pc pA T Yo kq)
  | 0 => LastsB.val _
  | 1 => LastsB.val _
  | 2 => LastsB.val _
  | 3 => LastsB.val _
  | 4 => LastsB.val _
  | 5 => LastsB.val _
  | 6 => LastsB.val _
  | 7 => LastsB.val _
  | 8 => LastsB.val _
  | 9 => LastsB.val _
  | 10 => LastsB.val _
  | 11 => LastsB.val _
  | 12 => LastsB.val _
  | 13 => LastsB.val _
  | 14 => LastsB.val _
  | 15 => LastsB.val _
  | 16 => LastsB.val _
  | 17 => LastsB.val _
  | 18 => LastsB.val _
  | 19 => LastsB.val _
  | 20 => LastsB.val _
  | 21 => LastsB.val _
  | 22 => LastsB.val _
  | 23 => LastsB.val _
  | 24 => LastsB.val _
  | 25 => LastsB.val _
  | 26 => LastsB.val _
  | 27 => LastsB.val _
  | 28 => LastsB.val _
  | 29 => LastsB.val _
  | 30 => LastsB.val _
  | 31 => LastsB.val _
  | 32 => LastsB.val _
  | 33 => LastsB.val _
  | 34 => LastsB.val _
  | _ + 35 => fun _ _ _ _ _ _ _ => trivial
def udS (t : Nat) : Bool := t == 131 || t == 132 || t == 133 || t == 134 || t == 135 || t == 136 || t == 137 || t == 138 || t == 139 || t == 140 || t == 141 || t == 142 || t == 143 || t == 144 || t == 145 || t == 146 || t == 147 || t == 148 || t == 149 || t == 150 || t == 151 || t == 152 || t == 153 || t == 154 || t == 155 || t == 156 || t == 157 || t == 158 || t == 159 || t == 160 || t == 161 || t == 162 || t == 163 || t == 164 || t == 165
def udDie (_ : Nat) : Nat := 99
def udOwn (_ : Nat) : Bool := false
def udAl (k : Nat) : Bool := k == 21 || k == 23 || k == 26
def udF (ad : Addr) (N c i bo co pc : Nat) (pA : Option Addr) (T pl Yo : List UInt8) : Nat → Value → World → Prop
  | 0 => fun v _ => v = .bool true
  | 1 => fun v _ => v = .bool false
  | 2 => fun v _ => v = .bool false
  | 3 => fun v _ => v = (.agg (Yo.map bv).toArray)
  | 4 => fun v _ => v = (.agg (Yo.map bv).toArray)
  | 5 => fun v _ => v = .bool false
  | 6 => fun v _ => v = .bool false
  | 7 => fun v _ => v = .bool false
  | 8 => fun v _ => v = .bool false
  | 9 => fun v _ => v = .bool false
  | 10 => fun v _ => v = .bool false
  | 11 => fun v _ => v = .bool false
  | 12 => fun v _ => v = .bool false
  | 13 => fun v _ => v = .bool false
  | 14 => fun v _ => v = .bool false
  | 15 => fun v _ => v = undef
  | 16 => fun v _ => v = undef
  | 17 => fun v _ => v = undef
  | 18 => fun v _ => v = .bool false
  | 19 => fun v _ => v = .bool false
  | 20 => fun v _ => v = .bool false
  | 21 => fun v _ => v = .slice (some ⟨bo, 0, none⟩) T.length co
  | 22 => fun v _ => v = .string ⟨T.toArray⟩
  | 23 => fun v _ => v = .slice (some ad) N c
  | 24 => fun v _ => v = .int .i64 (i : Int)
  | 25 => fun v _ => v = .pointer (some (ad.add i))
  | 26 => fun v _ => v = .slice pA pl.length pc
  | 27 => fun v _ => v = .string ⟨pl.toArray⟩
  | 28 => fun v _ => v = .bool false
  | 29 => fun v _ => v = .bool false
  | 30 => fun v _ => v = undef
  | 31 => fun v _ => v = undef
  | 32 => fun v _ => v = undef
  | 33 => fun v _ => v = .bool false
  | 34 => fun v _ => v = .bool false
  | _ => fun _ _ => True
theorem udF_lasts (ad : Addr) (N c i bo co pc : Nat) (pA : Option Addr) (T pl Yo : List UInt8) : ∀ kq, LastsB udAl kq (udF ad N c i bo co pc pA T pl Yo kq)
  | 0 => LastsB.val _
  | 1 => LastsB.val _
  | 2 => LastsB.val _
  | 3 => LastsB.val _
  | 4 => LastsB.val _
  | 5 => LastsB.val _
  | 6 => LastsB.val _
  | 7 => LastsB.val _
  | 8 => LastsB.val _
  | 9 => LastsB.val _
  | 10 => LastsB.val _
  | 11 => LastsB.val _
  | 12 => LastsB.val _
  | 13 => LastsB.val _
  | 14 => LastsB.val _
  | 15 => LastsB.val _
  | 16 => LastsB.val _
  | 17 => LastsB.val _
  | 18 => LastsB.val _
  | 19 => LastsB.val _
  | 20 => LastsB.val _
  | 21 => LastsB.val _
  | 22 => LastsB.val _
  | 23 => LastsB.val _
  | 24 => LastsB.val _
  | 25 => LastsB.val _
  | 26 => LastsB.val _
  | 27 => LastsB.val _
  | 28 => LastsB.val _
  | 29 => LastsB.val _
  | 30 => LastsB.val _
  | 31 => LastsB.val _
  | 32 => LastsB.val _
  | 33 => LastsB.val _
  | 34 => LastsB.val _
  | _ + 35 => fun _ _ _ _ _ _ _ => trivial
def ueS (t : Nat) : Bool := t == 179 || t == 180 || t == 181 || t == 182 || t == 183 || t == 184 || t == 185 || t == 186 || t == 187 || t == 188 || t == 189 || t == 190 || t == 191 || t == 192 || t == 193 || t == 194
def ueDie (_ : Nat) : Nat := 99
def ueOwn (_ : Nat) : Bool := false
def ueAl (k : Nat) : Bool := k == 0
def ueF (gq d cq b : Nat) (z : UInt8) : Nat → Value → World → Prop
  | 0 => fun v _ => v = .slice (some ⟨gq, 0, none⟩) d cq
  | 1 => fun v _ => v = .int .i64 (b : Int)
  | 2 => fun v _ => v = .int .i64 ((b / 256 : Nat) : Int)
  | 3 => fun v _ => v = .int .i64 (b : Int)
  | 4 => fun v _ => v = .int .i64 ((b % 256 : Nat) : Int)
  | 5 => fun v _ => v = .int .i64 ((b % 256 / 8 : Nat) : Int)
  | 6 => fun v _ => v = .pointer (some ⟨gq, b / 256 * 32, none⟩)
  | 7 => fun v _ => v = .pointer (some ⟨gq, b / 256 * 32 + b % 256 / 8, none⟩)
  | 8 => fun v _ => v = bv z
  | 9 => fun v _ => v = .int .i64 (b : Int)
  | 10 => fun v _ => v = .int .i64 ((b % 8 : Nat) : Int)
  | 11 => fun v _ => v = .int .u64 ((b % 8 : Nat) : Int)
  | 12 => fun v _ => v = .int .u8 ((2 ^ (b % 8) : Nat) : Int)
  | 13 => fun v _ => v = .int .u8 (((z ^^^ UInt8.ofNat (2 ^ (b % 8))).toNat : Nat) : Int)
  | 14 => fun v _ => v = .pointer (some ⟨gq, b / 256 * 32, none⟩)
  | 15 => fun v _ => v = .pointer (some ⟨gq, b / 256 * 32 + b % 256 / 8, none⟩)
  | _ => fun _ _ => True
theorem ueF_lasts (gq d cq b : Nat) (z : UInt8) : ∀ kq, LastsB ueAl kq (ueF gq d cq b z kq)
  | 0 => LastsB.val _
  | 1 => LastsB.val _
  | 2 => LastsB.val _
  | 3 => LastsB.val _
  | 4 => LastsB.val _
  | 5 => LastsB.val _
  | 6 => LastsB.val _
  | 7 => LastsB.val _
  | 8 => LastsB.val _
  | 9 => LastsB.val _
  | 10 => LastsB.val _
  | 11 => LastsB.val _
  | 12 => LastsB.val _
  | 13 => LastsB.val _
  | 14 => LastsB.val _
  | 15 => LastsB.val _
  | _ + 16 => fun _ _ _ _ _ _ _ => trivial
def uhS (t : Nat) : Bool := t == 32 || t == 219 || t == 220 || t == 221 || t == 222 || t == 223 || t == 224 || t == 225 || t == 226 || t == 227 || t == 228 || t == 229 || t == 230 || t == 231
def uhDie (k : Nat) : Nat := if k = 13 then 14 else 99
def uhOwn (k : Nat) : Bool := k == 13 || k == 14
def uhAl (k : Nat) : Bool := k == 0 || k == 3 || k == 5 || k == 7 || k == 8 || k == 13 || k == 14
def uhF (ad : Addr) (N c i gp d cp pc n1 c1 : Nat) (pA A1 : Option Addr) (pl : List UInt8) : Nat → Value → World → Prop
  | 0 => fun v _ => v = .slice (some ad) N c
  | 1 => fun v _ => v = .int .i64 (i : Int)
  | 2 => fun v _ => v = .pointer (some (ad.add i))
  | 3 => fun v _ => v = .slice pA pl.length pc
  | 4 => fun v _ => v = .int .i64 (i : Int)
  | 5 => fun v _ => v = .slice (some ad) N c
  | 6 => fun v _ => v = .int .i64 ((N : Nat) : Int)
  | 7 => fun v _ => v = .slice (some ⟨gp, 0, none⟩) d cp
  | 8 => fun v _ => v = .slice A1 n1 c1
  | 9 => fun v _ => v = .tuple #[.agg (zeroH.map bv).toArray, .bool false]
  | 10 => fun v _ => v = .tuple #[.agg (zeroH.map bv).toArray, .bool false]
  | 11 => fun v _ => v = (.agg (zeroH.map bv).toArray)
  | 12 => fun v _ => v = .bool false
  | 13 => Made (rowH []) 23
  | 14 => Stored 23
  | _ => fun _ _ => True
theorem uhF_lasts (ad : Addr) (N c i gp d cp pc n1 c1 : Nat) (pA A1 : Option Addr) (pl : List UInt8) : ∀ kq, LastsB uhAl kq (uhF ad N c i gp d cp pc n1 c1 pA A1 pl kq)
  | 0 => LastsB.val _
  | 1 => LastsB.val _
  | 2 => LastsB.val _
  | 3 => LastsB.val _
  | 4 => LastsB.val _
  | 5 => LastsB.val _
  | 6 => LastsB.val _
  | 7 => LastsB.val _
  | 8 => LastsB.val _
  | 9 => LastsB.val _
  | 10 => LastsB.val _
  | 11 => LastsB.val _
  | 12 => LastsB.val _
  | 13 => LastsB.made rfl _ _
  | 14 => LastsB.stored rfl _
  | _ + 15 => fun _ _ _ _ _ _ _ => trivial

set_option maxRecDepth 100000 in
set_option maxHeartbeats 4000000 in
theorem TreeUp_any (A0 : Option Addr) (L0 : List (List UInt8)) (c0 : Nat) (n1 n2 n3 : Int) (s4 : List UInt8) (W0 : World) (hk : Laid2 W0) (hr : RdS W0 A0 L0) :
    Calls Tryd.prog 6 #[.slice A0 L0.length c0, .int .i64 n1, .int .i64 n2, .int .i64 n3, .string ⟨s4.toArray⟩] W0 fun e w' => e = .returned (.bool true) ∧ W0.grownBy w' none := by
  have hrow : ∀ w', RdS w' A0 L0 → Calls Tryd.prog 21 #[.slice A0 L0.length c0, .int .i64 16] w' _ := fun w' h => rows_any A0 L0 c0 16 (by decide) w' h
  obtain ⟨m, hmin0, hm1, hm20⟩ := min_some s4.length 20
  have hmin : (if (20 : Int) < (s4.length : Int) then (20 : Int) else (s4.length : Int)) = (m : Int) := hmin0
  clear hmin0
  obtain ⟨T, hT⟩ : ∃ T, T = s4.take m := ⟨_, rfl⟩
  have hTl : T.length ≤ 1000 := by rw [hT, List.length_take]; omega
  have hTv : Hid ((⟨s4.toArray⟩ : ByteArray).extract 0 m = ⟨T.toArray⟩) := by show _ = _; rw [hT, extract_takeT]
  clear hT
  go_enter Tryd.func6, Tryd.ntmps6
  go_upto_region 2 with (go_at_call 21; refine (hrow _ hr).mono ?_; rintro e W ⟨A, ps, c, rfl, hc, hrP, hL, hgW⟩)
  have hps := congrArg List.length hL
  rw [leavesOf_len, List.length_map, List.length_take] at hps
  have hN16 : ps.length ≤ 16 := by omega
  have hpl : ∀ p ∈ ps, p.2.1.length ≤ 1000 := by
    intro p hp
    have h2 : p.2.1 ∈ leavesOf ps := List.mem_map.2 ⟨p, hp, rfl⟩
    rw [hL] at h2
    obtain ⟨s, _, e⟩ := List.mem_map.1 h2
    rw [← e, List.length_take]; omega
  replace hk := hk.kept hgW
  clear hps hL hrow hr
  by_cases h0 : ps.length = 0
  · have htr := TreeRuns_any _ hk
    have h0' : (ps.length : Int) = 0 := by omega
    go_wp2_with (go_at_call 4; refine htr.mono ?_; rintro e w2 ⟨rfl, hg2⟩)
    go_ret
    exact ⟨rfl, grown_same hgW hg2⟩
  have h0' : ¬ (ps.length : Int) = 0 := by omega
  obtain ⟨i, hi, hWi⟩ := Within_nat n1 (ps.length - 1) (by omega)
  obtain ⟨j, hj, hWj⟩ := Within_nat n2 (ps.length - 1) (by omega)
  rw [show ((ps.length - 1 : Nat) : Int) = (ps.length : Int) - 1 by omega] at hWi hWj
  have hin : i < ps.length := by omega
  have hjn : j < ps.length := by omega
  have hroT := fun w' (h : W.grownBy w' none) => Root_any ps.length A ps c w' rfl hc (by omega) hpl (hk.kept h) (hrP.kept h)
  have hpaT := fun w' (h : W.grownBy w' none) => Path_any ps.length A ps c i w' rfl hc (by omega) (by omega) hpl (hk.kept h) (hrP.kept h)
  have hdT := fun w' => Depth_any i ps.length hin (by omega) w'
  have hdl : (pathL (leavesOf ps) i).length = depthN i ps.length := by rw [pathL_len _ _ (by rw [leavesOf_len]; exact hin), leavesOf_len]
  obtain ⟨ad, rfl, hcz0, hrz0⟩ := hrP.get hin
  have hlx := hpl ps[i] (List.getElem_mem _)
  have hxi : (leavesOf ps)[i]? = some ps[i].2.1 := by unfold leavesOf; rw [List.getElem?_map, List.getElem?_eq_getElem hin]; rfl
  have hupP := upL_path (leavesOf ps) i ps.length ps[i].2.1 (leavesOf_len ps) hxi
  obtain ⟨p0, hp0⟩ : ∃ p, p = ps[i] := ⟨_, rfl⟩
  rw [← hp0] at hcz0 hrz0 hlx hupP
  obtain ⟨pA, pl, pc⟩ := p0
  obtain ⟨R, hR⟩ : ∃ R, R = rootL (leavesOf ps) := ⟨_, rfl⟩
  have hRl : Hid (R.length = 32) := by rw [hR]; exact rootL_len _
  obtain ⟨P, hP⟩ : ∃ P, P = (pathL (leavesOf ps) i).flatten := ⟨_, rfl⟩
  rw [hdl, ← hP] at hpaT
  rw [← hP, ← hR] at hupP
  rw [← hR] at hroT
  obtain ⟨N, hNN⟩ : ∃ N, N = ps.length := ⟨_, rfl⟩
  rw [← hNN] at hWi hWj hroT hpaT hdT hc h0' hupP hin hjn hN16 ⊢
  obtain ⟨d, hd⟩ : ∃ d, d = depthN i N := ⟨_, rfl⟩
  rw [← hd] at hpaT hdT hupP
  have hdN : d ≤ 16 := by rw [hd]; exact Nat.le_trans (depthN_lt N i) hN16
  have hPl : P.length = d * 32 := by rw [hP, flat_len _ (pathL_32 _ _), hdl, hd, hNN]
  simp only at hlx hrz0 hupP
  obtain ⟨Yo, oko, hYol, hYo1, -, hupO, hruO⟩ := upBoth T hTl i N d hin hN16 (by omega) P hPl
  obtain ⟨Zj, okj, hZjl, -, -, hupJ, hruJ⟩ := upBoth pl hlx j N d hjn hN16 (by omega) P hPl
  obtain ⟨rfl, hYoU⟩ := hYo1 hd
  have HYR : Hid (T = pl → Yo = R) := by intro e; rw [hYoU, e]; exact hupP
  have hupI := fun A' c' B cq w' h1 h2 h3 h4 h5 => Up_any A' pl c' hlx i N d B P cq w' hin (by omega) hd h3 hPl h4 h1 h2 h5
  rw [hupP] at hupI
  have hYl := Lib.hid hYol
  have hZl := Lib.hid hZjl
  have hcz := fun w' (h : W.grownBy w' none) => (h.cell hcz0 (by simp) : w'.cell? (ad.add i) = some (.slice pA pl.length pc))
  have HD := Lib.hid hd
  have hri := hrz0
  have hGW : W.grownBy W none := grown_refl _ _
  have eNd : ∀ Q : List UInt8, Q.length = d * 32 → ∃ (U : List UInt8), U.length = 32 ∧ (∀ A' c' B cq w', RdB w' A' pl → RdB w' B Q → (d = 0 ∨ ∃ g, B = some ⟨g, 0, none⟩) → d ≤ cq → Laid2 w' → Calls Tryd.prog 17 #[.slice A' pl.length c', .int .i64 (i : Int), .int .i64 (N : Int), .slice B d cq] w' fun e w'' => e = .returned (.tuple #[.agg (U.map bv).toArray, .bool true]) ∧ w'.grownBy w'' none) ∧
      (∀ A' c' B cq w', RdB w' A' pl → RdB w' B Q → (d = 0 ∨ ∃ g, B = some ⟨g, 0, none⟩) → d ≤ cq → Calls Tryd.prog 23 #[.slice A' pl.length c', .int .i64 (i : Int), .int .i64 (N : Int), .slice B d cq] w' fun e w'' => ∃ Z : List UInt8, Z.length = 32 ∧ Z = U ∧ e = .returned (.tuple #[.agg (Z.map bv).toArray, .bool true]) ∧ w'.grownBy w'' none) := by
    intro Q hQ
    obtain ⟨U, ok, h1, h2, -, h3, h4⟩ := upBoth pl hlx i N d hin hN16 (by omega) Q hQ
    obtain ⟨rfl, -⟩ := h2 HD.out
    exact ⟨U, h1, h3, fun A' c' B cq w' a1 a2 a3 a4 => (h4 A' c' B cq w' a1 a2 a3 a4).mono fun e w'' ⟨Z, z1, z2, z3, z4⟩ => ⟨Z, z1, z2 rfl, z3, z4⟩⟩
  have hshort := fun A' c' B (d' : Nat) cq w' (h : ¬ (d' : Int) = (d : Int)) => Up_no A' pl.length c' i N B d' cq d hdT h w'
  clear hR hP hNN hd hdl hxi hp0 hpl hrP hlx hupP hYo1 hYoU hcz0 hrz0 hYol hZjl h0
  go_upto_region 8 with (first
    | (go_at_call 19; refine (hroT _ (grown_refl _ _)).mono ?_; clear hroT; rintro e w1 ⟨rfl, hg1⟩)
    | (refine wpList_store_row rfl 23 _ _ rfl (w1.heap.size) (R.map bv).toArray rfl rfl 23 _ (alloc_at rfl) (hashV_size R hRl.out) (by rw [show (R.map bv).toArray.size = 32 from by rw [List.size_toArray, List.length_map, hRl.out]]; rfl) (bv_all' _) ?_; generalize hw9 : World.setRow _ _ _ = V1; have HV1 := new_hash hw9; clear hw9)
    | (go_at_call 12; refine (hWi _).mono ?_; clear hWi; rintro e w2 ⟨rfl, rfl⟩)
    | (go_at_call 12; refine (hWj _).mono ?_; clear hWj; rintro e w2 ⟨rfl, rfl⟩)
    | (go_at_call 16; have hg1V := grown_same hg1 HV1.2; refine (hpaT _ hg1V).mono ?_; clear hpaT; rintro e w3 ⟨vp, rfl, hop, hg3, hn3, hl3⟩; obtain ⟨Ap, cp, rfl, hcp, hrp, hB1, hgp⟩ := hop.form; have hGW := grown_same hg1V hg3; have hci := hcz _ hGW; have hri := hri.kept hGW; have hk := hk.kept hGW; clear hop hn3 hl3)
    | (go_at_call 17; refine (hupI _ _ _ _ _ hri hrp hB1 hcp hk).mono ?_; clear hupI; rintro e w4 ⟨rfl, hg4⟩)
    | (refine wpList_store_row rfl 23 _ _ rfl (w4.heap.size) (R.map bv).toArray rfl rfl 23 _ (alloc_at rfl) (hashV_size R hRl.out) (by rw [show (R.map bv).toArray.size = 32 from by rw [List.size_toArray, List.length_map, hRl.out]]; rfl) (bv_all' _) ?_; generalize hw9 : World.setRow _ _ _ = V2; have HV2 := new_hash hw9; clear hw9))
  have hgx := grown_same hg4 HV2.2
  have h12 := keep_of (keep_of HV1.1 hg3) hgx
  have h16 := HV2.1
  replace hrp := hrp.kept hgx
  replace hri := hri.kept hgx
  replace hk := hk.kept hgx
  replace hGW := grown_same hGW hgx
  replace hci := hcz _ hGW
  clear HV1 HV2 hg1 hg3 hg4 hg1V hgx
  generalize w1.heap.size = b12 at h12 ⊢
  generalize w4.heap.size = b16 at h16 ⊢
  have hneR := fun w => neqH_same R hRl.out w
  go_upto_region 11 with (first
    | (refine wpList_load_row_g (by rfl) 23 _ rfl b16 rfl _ (R.map bv).toArray (0, 0) _ h16 Tryd.underlying23 rfl (hashV_size R hRl.out) ?_)
    | (refine wpList_load_row_g (by rfl) 23 _ rfl b12 rfl _ (R.map bv).toArray (0, 0) _ h12 Tryd.underlying23 rfl (hashV_size R hRl.out) ?_)
    | (go_at_call 20; refine (hdT _).mono ?_; clear hdT; rintro e w5 ⟨rfl, h5w⟩; obtain rfl : V2 = w5 := h5w.symm)
    | (refine wpList_convS rfl _ rfl rfl hTv.out ?_; intro co w6 hg6 hro))
  replace h12 := keep_of h12 hg6
  replace hrp := hrp.kept hg6
  replace hri := hri.kept hg6
  replace hk := hk.kept hg6
  replace hGW := grown_same hGW hg6
  replace hci := hcz _ hGW
  clear hg6 h16 hneR hmin hTv
  generalize V2.heap.size = bo at hro ⊢
  go_upto_region 12 with (first
    | (go_at_call 17; refine (hupO _ _ _ _ _ hro hrp hB1 hcp hk).mono ?_; clear hupO; rintro e w7 ⟨rfl, hg7⟩)
    | (refine wpList_store_row rfl 23 _ _ rfl (w7.heap.size) (Yo.map bv).toArray rfl rfl 23 _ (alloc_at rfl) (hashV_size Yo hYl.out) (by rw [show (Yo.map bv).toArray.size = 32 from by rw [List.size_toArray, List.length_map, hYl.out]]; rfl) (bv_all' _) ?_; generalize hw9 : World.setRow _ _ _ = V3; have HV3 := new_hash hw9; clear hw9))
  have hgx := grown_same hg7 HV3.2
  have h19 := HV3.1
  replace h12 := keep_of h12 hgx
  replace hrp := hrp.kept hgx
  replace hri := hri.kept hgx
  replace hro := hro.kept hgx
  replace hk := hk.kept hgx
  replace hGW := grown_same hGW hgx
  replace hci := hcz _ hGW
  clear HV3 hg7 hgx
  generalize w7.heap.size = b19 at h19 ⊢
  go_upto_region 13 with (first
    | (go_at_call 17; refine (hupJ _ _ _ _ _ hri hrp hB1 hcp hk).mono ?_; clear hupJ; rintro e w7 ⟨rfl, hg7⟩)
    | (refine wpList_store_row rfl 23 _ _ rfl (w7.heap.size) (Zj.map bv).toArray rfl rfl 23 _ (alloc_at rfl) (hashV_size Zj hZl.out) (by rw [show (Zj.map bv).toArray.size = 32 from by rw [List.size_toArray, List.length_map, hZl.out]]; rfl) (bv_all' _) ?_; generalize hw9 : World.setRow _ _ _ = V4; have HV4 := new_hash hw9; clear hw9))
  have hgx := grown_same hg7 HV4.2
  have h21 := HV4.1
  replace h12 := keep_of h12 hgx
  replace h19 := keep_of h19 hgx
  replace hrp := hrp.kept hgx
  replace hri := hri.kept hgx
  replace hro := hro.kept hgx
  replace hk := hk.kept hgx
  replace hGW := grown_same hGW hgx
  replace hci := hcz _ hGW
  clear HV4 hg7 hgx
  generalize w7.heap.size = b21 at h21 ⊢
  go_upto_region 14 with (first
    | (go_at_call 23; refine (hruO _ _ _ _ _ hro hrp hB1 hcp).mono ?_; clear hruO; rintro e w7 ⟨Z1, hz0, hzu, rfl, hg7⟩; have hZ1l := Lib.hid hz0; have HZU := Lib.hid hzu; clear hz0 hzu)
    | (refine wpList_store_row rfl 23 _ _ rfl (w7.heap.size) (Z1.map bv).toArray rfl rfl 23 _ (alloc_at rfl) (hashV_size Z1 hZ1l.out) (by rw [show (Z1.map bv).toArray.size = 32 from by rw [List.size_toArray, List.length_map, hZ1l.out]]; rfl) (bv_all' _) ?_; generalize hw9 : World.setRow _ _ _ = V5; have HV5 := new_hash hw9; clear hw9))
  have hgx := grown_same hg7 HV5.2
  have h23 := HV5.1
  replace h12 := keep_of h12 hgx
  replace h19 := keep_of h19 hgx
  replace h21 := keep_of h21 hgx
  replace hrp := hrp.kept hgx
  replace hri := hri.kept hgx
  replace hro := hro.kept hgx
  replace hk := hk.kept hgx
  replace hGW := grown_same hGW hgx
  replace hci := hcz _ hGW
  clear HV5 hg7 hgx
  generalize w7.heap.size = b23 at h23 ⊢
  obtain rfl : Yo = Z1 := (HZU.out (by trivial)).symm
  clear HZU hZ1l
  go_upto_region 15 with (first
    | (go_at_call 23; refine (hruJ _ _ _ _ _ hri hrp hB1 hcp).mono ?_; clear hruJ; rintro e w7 ⟨Z2, hz0, hzu, rfl, hg7⟩; have hZ2l := Lib.hid hz0; have HZU := Lib.hid hzu; clear hz0 hzu)
    | (refine wpList_store_row rfl 23 _ _ rfl (w7.heap.size) (Z2.map bv).toArray rfl rfl 23 _ (alloc_at rfl) (hashV_size Z2 hZ2l.out) (by rw [show (Z2.map bv).toArray.size = 32 from by rw [List.size_toArray, List.length_map, hZ2l.out]]; rfl) (bv_all' _) ?_; generalize hw9 : World.setRow _ _ _ = V6; have HV6 := new_hash hw9; clear hw9))
  have hgx := grown_same hg7 HV6.2
  have h25 := HV6.1
  replace h12 := keep_of h12 hgx
  replace h19 := keep_of h19 hgx
  replace h21 := keep_of h21 hgx
  replace h23 := keep_of h23 hgx
  replace hrp := hrp.kept hgx
  replace hri := hri.kept hgx
  replace hro := hro.kept hgx
  replace hk := hk.kept hgx
  replace hGW := grown_same hGW hgx
  replace hci := hcz _ hGW
  clear HV6 hg7 hgx
  generalize w7.heap.size = b25 at h25 ⊢
  have HZJ := HZU
  clear HZU
  have hneY := fun w => neqH_same Yo hYl.out w
  go_cut [165] (fun v wx => v = .bool false ∧ V6.grownBy wx none)
  case first =>
    cases okj
    · by_cases hTp : T = pl
      · obtain rfl := hTp
        obtain rfl : Yo = R := HYR.out rfl
        clear HYR HZJ
        refine wp_region_gc (al := ucAl) 35 (N := 245) (S := ucS) (die := ucDie) (own := ucOwn) (F := ucF ad N c i bo co pc pA T Yo) (by kernel_rfl) (Nat.le_of_ble_eq_true (by kernel_rfl)) (fun h => absurd (show 35 < 35 from h) (Nat.lt_irrefl _)) (fun h => absurd (show 35 < 35 from h) (Nat.lt_irrefl _)) (by kernel_rfl) (by kernel_rfl) (Nat.le_of_ble_eq_true (by kernel_rfl)) (ucF_lasts ad N c i bo co pc pA T Yo) ?_ ?_
        · intro i o L' a w K hi ho hg hLi hout hpre houter hitem hap' h1 h2 h3 h4
          have hcases : i = 0 ∨ i = 1 ∨ i = 2 ∨ i = 3 ∨ i = 4 ∨ i = 5 ∨ i = 6 ∨ i = 7 ∨ i = 8 ∨ i = 9 ∨ i = 10 ∨ i = 11 ∨ i = 12 ∨ i = 13 ∨ i = 14 ∨ i = 15 ∨ i = 16 ∨ i = 17 ∨ i = 18 ∨ i = 19 ∨ i = 20 ∨ i = 21 ∨ i = 22 ∨ i = 23 ∨ i = 24 ∨ i = 25 ∨ i = 26 ∨ i = 27 ∨ i = 28 ∨ i = 29 ∨ i = 30 ∨ i = 31 ∨ i = 32 ∨ i = 33 ∨ i = 34 := by omega
          rcases hcases with rfl | rfl | rfl | rfl | rfl | rfl | rfl | rfl | rfl | rfl | rfl | rfl | rfl | rfl | rfl | rfl | rfl | rfl | rfl | rfl | rfl | rfl | rfl | rfl | rfl | rfl | rfl | rfl | rfl | rfl | rfl | rfl | rfl | rfl | rfl
          · cases (show some _ = some o from ho)
            refine .inl ?_
            exact ⟨rfl, wp_move rfl (h1 ⟨_, rfl⟩ _ _ (grown_refl _ none) (houter _ rfl) (by rw [houter _ rfl]; exact nobl rfl) (by rw [houter _ rfl]; exact FreshB.none rfl))⟩
          · cases (show some _ = some o from ho)
            refine .inl ?_
            exact ⟨rfl, wp_not rfl (hitem 0 (by decide) ⟨hpre 0 rfl, hout _ (by decide)⟩) (h1 ⟨_, rfl⟩ _ _ (grown_refl _ none) rfl (nobl rfl) (FreshB.none rfl))⟩
          · cases (show some _ = some o from ho)
            refine .inl ?_
            have hx := hitem 1 (by decide) ⟨hpre 1 rfl, hout _ (by decide)⟩
            exact ⟨rfl, wp_move rfl (h1 ⟨_, rfl⟩ _ _ (grown_refl _ none) hx (by rw [show a.eval (.tmp 132) = .bool false from hx]; exact nobl rfl) (by rw [show a.eval (.tmp 132) = .bool false from hx]; exact FreshB.none rfl))⟩
          · cases (show some _ = some o from ho)
            refine .inl ?_
            exact ⟨wanted_not (j := 2) rfl rfl (hitem 2 (by decide) ⟨hpre 2 rfl, hout _ (by decide)⟩), wp_load_row 23 _ rfl _ (houter _ rfl) _ (Yo.map bv).toArray (0, 0) _ (keep_of h19 hg) Tryd.underlying23 rfl (hashV_size _ (hYl.out)) (h1 ⟨_, rfl⟩ _ _ (grown_refl _ none) rfl (nobl (blocks_bytes _)) (FreshB.none (blocks_bytes _)))⟩
          · cases (show some _ = some o from ho)
            refine .inl ?_
            exact ⟨wanted_not (j := 2) rfl rfl (hitem 2 (by decide) ⟨hpre 2 rfl, hout _ (by decide)⟩), wp_load_row 23 _ rfl _ (houter _ rfl) _ (Yo.map bv).toArray (0, 0) _ (keep_of h23 hg) Tryd.underlying23 rfl (hashV_size _ (hYl.out)) (h1 ⟨_, rfl⟩ _ _ (grown_refl _ none) rfl (nobl (blocks_bytes _)) (FreshB.none (blocks_bytes _)))⟩
          · cases (show some _ = some o from ho)
            refine .inl ?_
            exact ⟨wanted_not (j := 2) rfl rfl (hitem 2 (by decide) ⟨hpre 2 rfl, hout _ (by decide)⟩), wp_bin rfl (hitem 3 (by decide) ⟨hpre 3 rfl, hout _ (by decide)⟩) (hitem 4 (by decide) ⟨hpre 4 rfl, hout _ (by decide)⟩) (guard_hneqU _ _ _ _ _) (neqH_same Yo hYl.out _) (h1 ⟨_, rfl⟩ _ _ (grown_refl _ none) rfl (nobl rfl) (FreshB.none rfl))⟩
          · cases (show some _ = some o from ho)
            refine .inl ?_
            have hc := hitem 2 (by decide) ⟨hpre 2 rfl, hout _ (by decide)⟩
            have hx := hitem 5 (by decide) ⟨hpre 5 rfl, hout _ (by decide)⟩
            exact ⟨rfl, wp_pickNo rfl hc (h1 ⟨_, rfl⟩ _ _ (grown_refl _ none) hx (by rw [show a.eval (.tmp 136) = .bool false from hx]; exact nobl rfl) (by rw [show a.eval (.tmp 136) = .bool false from hx]; exact FreshB.none rfl))⟩
          · cases (show some _ = some o from ho)
            refine .inl ?_
            have hx := hitem 6 (by decide) ⟨hpre 6 rfl, hout _ (by decide)⟩
            exact ⟨rfl, wp_move rfl (h1 ⟨_, rfl⟩ _ _ (grown_refl _ none) hx (by rw [show a.eval (.tmp 137) = .bool false from hx]; exact nobl rfl) (by rw [show a.eval (.tmp 137) = .bool false from hx]; exact FreshB.none rfl))⟩
          · cases (show some _ = some o from ho)
            refine .inl ?_
            exact ⟨wanted_not (j := 7) rfl rfl (hitem 7 (by decide) ⟨hpre 7 rfl, hout _ (by decide)⟩), wp_move rfl (h1 ⟨_, rfl⟩ _ _ (grown_refl _ none) (houter _ rfl) (by rw [houter _ rfl]; exact nobl rfl) (by rw [houter _ rfl]; exact FreshB.none rfl))⟩
          · cases (show some _ = some o from ho)
            refine .inl ?_
            exact ⟨wanted_not (j := 7) rfl rfl (hitem 7 (by decide) ⟨hpre 7 rfl, hout _ (by decide)⟩), wp_move rfl (h1 ⟨_, rfl⟩ _ _ (grown_refl _ none) (houter _ rfl) (by rw [houter _ rfl]; exact nobl rfl) (by rw [houter _ rfl]; exact FreshB.none rfl))⟩
          · cases (show some _ = some o from ho)
            refine .inl ?_
            exact ⟨wanted_not (j := 7) rfl rfl (hitem 7 (by decide) ⟨hpre 7 rfl, hout _ (by decide)⟩), wp_bin rfl (hitem 8 (by decide) ⟨hpre 8 rfl, hout _ (by decide)⟩) (hitem 9 (by decide) ⟨hpre 9 rfl, hout _ (by decide)⟩) (guard_bneq _ _ _ _ _) (neqB_same _ _) (h1 ⟨_, rfl⟩ _ _ (grown_refl _ none) rfl (nobl rfl) (FreshB.none rfl))⟩
          · cases (show some _ = some o from ho)
            refine .inl ?_
            have hc := hitem 7 (by decide) ⟨hpre 7 rfl, hout _ (by decide)⟩
            have hx := hitem 10 (by decide) ⟨hpre 10 rfl, hout _ (by decide)⟩
            exact ⟨rfl, wp_pickNo rfl hc (h1 ⟨_, rfl⟩ _ _ (grown_refl _ none) hx (by rw [show a.eval (.tmp 141) = .bool false from hx]; exact nobl rfl) (by rw [show a.eval (.tmp 141) = .bool false from hx]; exact FreshB.none rfl))⟩
          · cases (show some _ = some o from ho)
            refine .inl ?_
            have hx := hitem 11 (by decide) ⟨hpre 11 rfl, hout _ (by decide)⟩
            exact ⟨rfl, wp_move rfl (h1 ⟨_, rfl⟩ _ _ (grown_refl _ none) hx (by rw [show a.eval (.tmp 142) = .bool false from hx]; exact nobl rfl) (by rw [show a.eval (.tmp 142) = .bool false from hx]; exact FreshB.none rfl))⟩
          · cases (show some _ = some o from ho)
            refine .inl ?_
            exact ⟨wanted_not (j := 12) rfl rfl (hitem 12 (by decide) ⟨hpre 12 rfl, hout _ (by decide)⟩), wp_move rfl (h1 ⟨_, rfl⟩ _ _ (grown_refl _ none) (houter _ rfl) (by rw [houter _ rfl]; exact nobl rfl) (by rw [houter _ rfl]; exact FreshB.none rfl))⟩
          · cases (show some _ = some o from ho)
            refine .inl ?_
            have hx := hitem 13 (by decide) ⟨hpre 13 rfl, hout _ (by decide)⟩
            exact ⟨wanted_not (j := 12) rfl rfl (hitem 12 (by decide) ⟨hpre 12 rfl, hout _ (by decide)⟩), wp_move rfl (h1 ⟨_, rfl⟩ _ _ (grown_refl _ none) hx (by rw [show a.eval (.tmp 144) = .bool false from hx]; exact nobl rfl) (by rw [show a.eval (.tmp 144) = .bool false from hx]; exact FreshB.none rfl))⟩
          · cases (show some _ = some o from ho)
            exact .inr ⟨unwanted_true (j := 14) rfl rfl (hitem 14 (by decide) ⟨hpre 14 rfl, hout _ (by decide)⟩), h1 ⟨_, rfl⟩ _ _ (grown_refl _ none) rfl (nobl rfl) (FreshB.none rfl)⟩
          · cases (show some _ = some o from ho)
            exact .inr ⟨unwanted_true (j := 14) rfl rfl (hitem 14 (by decide) ⟨hpre 14 rfl, hout _ (by decide)⟩), h1 ⟨_, rfl⟩ _ _ (grown_refl _ none) rfl (nobl rfl) (FreshB.none rfl)⟩
          · cases (show some _ = some o from ho)
            exact .inr ⟨unwanted_true (j := 14) rfl rfl (hitem 14 (by decide) ⟨hpre 14 rfl, hout _ (by decide)⟩), h1 ⟨_, rfl⟩ _ _ (grown_refl _ none) rfl (nobl rfl) (FreshB.none rfl)⟩
          · cases (show some _ = some o from ho)
            refine .inl ?_
            have hc := hitem 14 (by decide) ⟨hpre 14 rfl, hout _ (by decide)⟩
            exact ⟨wanted_not (j := 12) rfl rfl (hitem 12 (by decide) ⟨hpre 12 rfl, hout _ (by decide)⟩), wp_pickNo rfl hc (h1 ⟨_, rfl⟩ _ _ (grown_refl _ none) rfl (nobl rfl) (FreshB.none rfl))⟩
          · cases (show some _ = some o from ho)
            refine .inl ?_
            have hc := hitem 12 (by decide) ⟨hpre 12 rfl, hout _ (by decide)⟩
            have hx := hitem 18 (by decide) ⟨hpre 18 rfl, hout _ (by decide)⟩
            exact ⟨rfl, wp_pickNo rfl hc (h1 ⟨_, rfl⟩ _ _ (grown_refl _ none) hx (by rw [show a.eval (.tmp 149) = .bool false from hx]; exact nobl rfl) (by rw [show a.eval (.tmp 149) = .bool false from hx]; exact FreshB.none rfl))⟩
          · cases (show some _ = some o from ho)
            refine .inl ?_
            have hx := hitem 19 (by decide) ⟨hpre 19 rfl, hout _ (by decide)⟩
            exact ⟨rfl, wp_move rfl (h1 ⟨_, rfl⟩ _ _ (grown_refl _ none) hx (by rw [show a.eval (.tmp 150) = .bool false from hx]; exact nobl rfl) (by rw [show a.eval (.tmp 150) = .bool false from hx]; exact FreshB.none rfl))⟩
          · cases (show some _ = some o from ho)
            refine .inl ?_
            exact ⟨wanted_not (j := 20) rfl rfl (hitem 20 (by decide) ⟨hpre 20 rfl, hout _ (by decide)⟩), wp_move rfl (h1 ⟨_, rfl⟩ _ _ (grown_refl _ none) (houter _ rfl) (by rw [houter _ rfl]; exact nobl rfl) (by rw [houter _ rfl]; exact FreshB.none rfl))⟩
          · cases (show some _ = some o from ho)
            refine .inl ?_
            exact ⟨wanted_not (j := 20) rfl rfl (hitem 20 (by decide) ⟨hpre 20 rfl, hout _ (by decide)⟩), wp_conv rfl (hitem 21 (by decide) ⟨hpre 21 rfl, hout _ (by decide)⟩) (run_text _ _ _ 5 _ (by kernel_rfl) (by kernel_rfl) (by kernel_rfl) (hro.kept hg)) (h1 ⟨_, rfl⟩ _ _ (grown_refl _ none) rfl (nobl rfl) (FreshB.none rfl))⟩
          · cases (show some _ = some o from ho)
            refine .inl ?_
            exact ⟨wanted_not (j := 20) rfl rfl (hitem 20 (by decide) ⟨hpre 20 rfl, hout _ (by decide)⟩), wp_move rfl (h1 ⟨_, rfl⟩ _ _ (grown_refl _ none) (houter _ rfl) (by rw [houter _ rfl]; exact nobl rfl) (by rw [houter _ rfl]; exact FreshB.none rfl))⟩
          · cases (show some _ = some o from ho)
            refine .inl ?_
            exact ⟨wanted_not (j := 20) rfl rfl (hitem 20 (by decide) ⟨hpre 20 rfl, hout _ (by decide)⟩), wp_move rfl (h1 ⟨_, rfl⟩ _ _ (grown_refl _ none) (houter _ rfl) (by rw [houter _ rfl]; exact nobl rfl) (by rw [houter _ rfl]; exact FreshB.none rfl))⟩
          · cases (show some _ = some o from ho)
            refine .inl ?_
            exact ⟨wanted_not (j := 20) rfl rfl (hitem 20 (by decide) ⟨hpre 20 rfl, hout _ (by decide)⟩), wp_index rfl (hitem 23 (by decide) ⟨hpre 23 rfl, hout _ (by decide)⟩) (hitem 24 (by decide) ⟨hpre 24 rfl, hout _ (by decide)⟩) (idx_listU ad _ _ i hin _) (h1 ⟨_, rfl⟩ _ _ (grown_refl _ none) rfl (nobl rfl) (FreshB.none rfl))⟩
          · cases (show some _ = some o from ho)
            refine .inl ?_
            exact ⟨wanted_not (j := 20) rfl rfl (hitem 20 (by decide) ⟨hpre 20 rfl, hout _ (by decide)⟩), wp_loadC rfl (hitem 25 (by decide) ⟨hpre 25 rfl, hout _ (by decide)⟩) (load_cell (hcz w (grown_same hGW hg)) Tryd.underlying24 rfl) (h1 ⟨_, rfl⟩ _ _ (grown_refl _ none) rfl (nobl rfl) (FreshB.none rfl))⟩
          · cases (show some _ = some o from ho)
            refine .inl ?_
            exact ⟨wanted_not (j := 20) rfl rfl (hitem 20 (by decide) ⟨hpre 20 rfl, hout _ (by decide)⟩), wp_conv rfl (hitem 26 (by decide) ⟨hpre 26 rfl, hout _ (by decide)⟩) (run_text _ _ _ 5 _ (by kernel_rfl) (by kernel_rfl) (by kernel_rfl) (hri.kept hg)) (h1 ⟨_, rfl⟩ _ _ (grown_refl _ none) rfl (nobl rfl) (FreshB.none rfl))⟩
          · cases (show some _ = some o from ho)
            refine .inl ?_
            exact ⟨wanted_not (j := 20) rfl rfl (hitem 20 (by decide) ⟨hpre 20 rfl, hout _ (by decide)⟩), wp_bin rfl (hitem 22 (by decide) ⟨hpre 22 rfl, hout _ (by decide)⟩) (hitem 27 (by decide) ⟨hpre 27 rfl, hout _ (by decide)⟩) (guard_str _ _ _ _ _) (by rw [eqlS, beq_self_eq_true]) (h1 ⟨_, rfl⟩ _ _ (grown_refl _ none) rfl (nobl rfl) (FreshB.none rfl))⟩
          · cases (show some _ = some o from ho)
            refine .inl ?_
            have hx := hitem 28 (by decide) ⟨hpre 28 rfl, hout _ (by decide)⟩
            exact ⟨wanted_not (j := 20) rfl rfl (hitem 20 (by decide) ⟨hpre 20 rfl, hout _ (by decide)⟩), wp_move rfl (h1 ⟨_, rfl⟩ _ _ (grown_refl _ none) hx (by rw [show a.eval (.tmp 159) = .bool true from hx]; exact nobl rfl) (by rw [show a.eval (.tmp 159) = .bool true from hx]; exact FreshB.none rfl))⟩
          · cases (show some _ = some o from ho)
            refine .inl ?_
            exact ⟨wanted_of (j := 29) rfl rfl (hitem 29 (by decide) ⟨hpre 29 rfl, hout _ (by decide)⟩), wp_load_row 23 _ rfl _ (houter _ rfl) _ (Yo.map bv).toArray (0, 0) _ (keep_of h19 hg) Tryd.underlying23 rfl (hashV_size _ (hYl.out)) (h1 ⟨_, rfl⟩ _ _ (grown_refl _ none) rfl (nobl (blocks_bytes _)) (FreshB.none (blocks_bytes _)))⟩
          · cases (show some _ = some o from ho)
            refine .inl ?_
            exact ⟨wanted_of (j := 29) rfl rfl (hitem 29 (by decide) ⟨hpre 29 rfl, hout _ (by decide)⟩), wp_load_row 23 _ rfl _ (houter _ rfl) _ (Yo.map bv).toArray (0, 0) _ (keep_of h12 hg) Tryd.underlying23 rfl (hashV_size _ (hYl.out)) (h1 ⟨_, rfl⟩ _ _ (grown_refl _ none) rfl (nobl (blocks_bytes _)) (FreshB.none (blocks_bytes _)))⟩
          · cases (show some _ = some o from ho)
            refine .inl ?_
            exact ⟨wanted_of (j := 29) rfl rfl (hitem 29 (by decide) ⟨hpre 29 rfl, hout _ (by decide)⟩), wp_bin rfl (hitem 30 (by decide) ⟨hpre 30 rfl, hout _ (by decide)⟩) (hitem 31 (by decide) ⟨hpre 31 rfl, hout _ (by decide)⟩) (guard_hneqU _ _ _ _ _) (neqH_same Yo hYl.out _) (h1 ⟨_, rfl⟩ _ _ (grown_refl _ none) rfl (nobl rfl) (FreshB.none rfl))⟩
          · cases (show some _ = some o from ho)
            refine .inl ?_
            have hc := hitem 29 (by decide) ⟨hpre 29 rfl, hout _ (by decide)⟩
            have hx := hitem 32 (by decide) ⟨hpre 32 rfl, hout _ (by decide)⟩
            exact ⟨wanted_not (j := 20) rfl rfl (hitem 20 (by decide) ⟨hpre 20 rfl, hout _ (by decide)⟩), wp_pick rfl hc (h1 ⟨_, rfl⟩ _ _ (grown_refl _ none) hx (by rw [show a.eval (.tmp 163) = .bool false from hx]; exact nobl rfl) (by rw [show a.eval (.tmp 163) = .bool false from hx]; exact FreshB.none rfl))⟩
          · cases (show some _ = some o from ho)
            refine .inl ?_
            have hc := hitem 20 (by decide) ⟨hpre 20 rfl, hout _ (by decide)⟩
            have hx := hitem 33 (by decide) ⟨hpre 33 rfl, hout _ (by decide)⟩
            exact ⟨rfl, wp_pickNo rfl hc (h1 ⟨_, rfl⟩ _ _ (grown_refl _ none) hx (by rw [show a.eval (.tmp 164) = .bool false from hx]; exact nobl rfl) (by rw [show a.eval (.tmp 164) = .bool false from hx]; exact FreshB.none rfl))⟩
        · intro a wT hgT hend hap ha
          obtain ⟨f, hf⟩ : ∃ f : Nat → Value, f = fun t => a.tmps.getD t undef := ⟨_, rfl⟩
          have s165 : f 165 = .bool false := by rw [hf]; exact (hend 34 (by decide) (by decide)).1
          rw [← hf] at ha
          clear hend hap
          clear hf
          subst ha
          simp only [fill, ucS, Nat.reduceAdd, Nat.reduceBEq, Bool.or_false, Bool.or_true, cond_true, cond_false, List.drop_succ_cons, List.drop_zero, s165]
          clear s165
          go_wp2_with fail
          go_meet
          exact ⟨rfl, hgT⟩
      · have hne : Hid ((T == pl) = false) := by show _ = _; rw [beq_eq_false_iff_ne]; exact hTp
        clear HYR HZJ hTp
        refine wp_region_gc (al := udAl) 35 (N := 245) (S := udS) (die := udDie) (own := udOwn) (F := udF ad N c i bo co pc pA T pl Yo) (by kernel_rfl) (Nat.le_of_ble_eq_true (by kernel_rfl)) (fun h => absurd (show 35 < 35 from h) (Nat.lt_irrefl _)) (fun h => absurd (show 35 < 35 from h) (Nat.lt_irrefl _)) (by kernel_rfl) (by kernel_rfl) (Nat.le_of_ble_eq_true (by kernel_rfl)) (udF_lasts ad N c i bo co pc pA T pl Yo) ?_ ?_
        · intro i o L' a w K hi ho hg hLi hout hpre houter hitem hap' h1 h2 h3 h4
          have hcases : i = 0 ∨ i = 1 ∨ i = 2 ∨ i = 3 ∨ i = 4 ∨ i = 5 ∨ i = 6 ∨ i = 7 ∨ i = 8 ∨ i = 9 ∨ i = 10 ∨ i = 11 ∨ i = 12 ∨ i = 13 ∨ i = 14 ∨ i = 15 ∨ i = 16 ∨ i = 17 ∨ i = 18 ∨ i = 19 ∨ i = 20 ∨ i = 21 ∨ i = 22 ∨ i = 23 ∨ i = 24 ∨ i = 25 ∨ i = 26 ∨ i = 27 ∨ i = 28 ∨ i = 29 ∨ i = 30 ∨ i = 31 ∨ i = 32 ∨ i = 33 ∨ i = 34 := by omega
          rcases hcases with rfl | rfl | rfl | rfl | rfl | rfl | rfl | rfl | rfl | rfl | rfl | rfl | rfl | rfl | rfl | rfl | rfl | rfl | rfl | rfl | rfl | rfl | rfl | rfl | rfl | rfl | rfl | rfl | rfl | rfl | rfl | rfl | rfl | rfl | rfl
          · cases (show some _ = some o from ho)
            refine .inl ?_
            exact ⟨rfl, wp_move rfl (h1 ⟨_, rfl⟩ _ _ (grown_refl _ none) (houter _ rfl) (by rw [houter _ rfl]; exact nobl rfl) (by rw [houter _ rfl]; exact FreshB.none rfl))⟩
          · cases (show some _ = some o from ho)
            refine .inl ?_
            exact ⟨rfl, wp_not rfl (hitem 0 (by decide) ⟨hpre 0 rfl, hout _ (by decide)⟩) (h1 ⟨_, rfl⟩ _ _ (grown_refl _ none) rfl (nobl rfl) (FreshB.none rfl))⟩
          · cases (show some _ = some o from ho)
            refine .inl ?_
            have hx := hitem 1 (by decide) ⟨hpre 1 rfl, hout _ (by decide)⟩
            exact ⟨rfl, wp_move rfl (h1 ⟨_, rfl⟩ _ _ (grown_refl _ none) hx (by rw [show a.eval (.tmp 132) = .bool false from hx]; exact nobl rfl) (by rw [show a.eval (.tmp 132) = .bool false from hx]; exact FreshB.none rfl))⟩
          · cases (show some _ = some o from ho)
            refine .inl ?_
            exact ⟨wanted_not (j := 2) rfl rfl (hitem 2 (by decide) ⟨hpre 2 rfl, hout _ (by decide)⟩), wp_load_row 23 _ rfl _ (houter _ rfl) _ (Yo.map bv).toArray (0, 0) _ (keep_of h19 hg) Tryd.underlying23 rfl (hashV_size _ (hYl.out)) (h1 ⟨_, rfl⟩ _ _ (grown_refl _ none) rfl (nobl (blocks_bytes _)) (FreshB.none (blocks_bytes _)))⟩
          · cases (show some _ = some o from ho)
            refine .inl ?_
            exact ⟨wanted_not (j := 2) rfl rfl (hitem 2 (by decide) ⟨hpre 2 rfl, hout _ (by decide)⟩), wp_load_row 23 _ rfl _ (houter _ rfl) _ (Yo.map bv).toArray (0, 0) _ (keep_of h23 hg) Tryd.underlying23 rfl (hashV_size _ (hYl.out)) (h1 ⟨_, rfl⟩ _ _ (grown_refl _ none) rfl (nobl (blocks_bytes _)) (FreshB.none (blocks_bytes _)))⟩
          · cases (show some _ = some o from ho)
            refine .inl ?_
            exact ⟨wanted_not (j := 2) rfl rfl (hitem 2 (by decide) ⟨hpre 2 rfl, hout _ (by decide)⟩), wp_bin rfl (hitem 3 (by decide) ⟨hpre 3 rfl, hout _ (by decide)⟩) (hitem 4 (by decide) ⟨hpre 4 rfl, hout _ (by decide)⟩) (guard_hneqU _ _ _ _ _) (neqH_same Yo hYl.out _) (h1 ⟨_, rfl⟩ _ _ (grown_refl _ none) rfl (nobl rfl) (FreshB.none rfl))⟩
          · cases (show some _ = some o from ho)
            refine .inl ?_
            have hc := hitem 2 (by decide) ⟨hpre 2 rfl, hout _ (by decide)⟩
            have hx := hitem 5 (by decide) ⟨hpre 5 rfl, hout _ (by decide)⟩
            exact ⟨rfl, wp_pickNo rfl hc (h1 ⟨_, rfl⟩ _ _ (grown_refl _ none) hx (by rw [show a.eval (.tmp 136) = .bool false from hx]; exact nobl rfl) (by rw [show a.eval (.tmp 136) = .bool false from hx]; exact FreshB.none rfl))⟩
          · cases (show some _ = some o from ho)
            refine .inl ?_
            have hx := hitem 6 (by decide) ⟨hpre 6 rfl, hout _ (by decide)⟩
            exact ⟨rfl, wp_move rfl (h1 ⟨_, rfl⟩ _ _ (grown_refl _ none) hx (by rw [show a.eval (.tmp 137) = .bool false from hx]; exact nobl rfl) (by rw [show a.eval (.tmp 137) = .bool false from hx]; exact FreshB.none rfl))⟩
          · cases (show some _ = some o from ho)
            refine .inl ?_
            exact ⟨wanted_not (j := 7) rfl rfl (hitem 7 (by decide) ⟨hpre 7 rfl, hout _ (by decide)⟩), wp_move rfl (h1 ⟨_, rfl⟩ _ _ (grown_refl _ none) (houter _ rfl) (by rw [houter _ rfl]; exact nobl rfl) (by rw [houter _ rfl]; exact FreshB.none rfl))⟩
          · cases (show some _ = some o from ho)
            refine .inl ?_
            exact ⟨wanted_not (j := 7) rfl rfl (hitem 7 (by decide) ⟨hpre 7 rfl, hout _ (by decide)⟩), wp_move rfl (h1 ⟨_, rfl⟩ _ _ (grown_refl _ none) (houter _ rfl) (by rw [houter _ rfl]; exact nobl rfl) (by rw [houter _ rfl]; exact FreshB.none rfl))⟩
          · cases (show some _ = some o from ho)
            refine .inl ?_
            exact ⟨wanted_not (j := 7) rfl rfl (hitem 7 (by decide) ⟨hpre 7 rfl, hout _ (by decide)⟩), wp_bin rfl (hitem 8 (by decide) ⟨hpre 8 rfl, hout _ (by decide)⟩) (hitem 9 (by decide) ⟨hpre 9 rfl, hout _ (by decide)⟩) (guard_bneq _ _ _ _ _) (neqB_same _ _) (h1 ⟨_, rfl⟩ _ _ (grown_refl _ none) rfl (nobl rfl) (FreshB.none rfl))⟩
          · cases (show some _ = some o from ho)
            refine .inl ?_
            have hc := hitem 7 (by decide) ⟨hpre 7 rfl, hout _ (by decide)⟩
            have hx := hitem 10 (by decide) ⟨hpre 10 rfl, hout _ (by decide)⟩
            exact ⟨rfl, wp_pickNo rfl hc (h1 ⟨_, rfl⟩ _ _ (grown_refl _ none) hx (by rw [show a.eval (.tmp 141) = .bool false from hx]; exact nobl rfl) (by rw [show a.eval (.tmp 141) = .bool false from hx]; exact FreshB.none rfl))⟩
          · cases (show some _ = some o from ho)
            refine .inl ?_
            have hx := hitem 11 (by decide) ⟨hpre 11 rfl, hout _ (by decide)⟩
            exact ⟨rfl, wp_move rfl (h1 ⟨_, rfl⟩ _ _ (grown_refl _ none) hx (by rw [show a.eval (.tmp 142) = .bool false from hx]; exact nobl rfl) (by rw [show a.eval (.tmp 142) = .bool false from hx]; exact FreshB.none rfl))⟩
          · cases (show some _ = some o from ho)
            refine .inl ?_
            exact ⟨wanted_not (j := 12) rfl rfl (hitem 12 (by decide) ⟨hpre 12 rfl, hout _ (by decide)⟩), wp_move rfl (h1 ⟨_, rfl⟩ _ _ (grown_refl _ none) (houter _ rfl) (by rw [houter _ rfl]; exact nobl rfl) (by rw [houter _ rfl]; exact FreshB.none rfl))⟩
          · cases (show some _ = some o from ho)
            refine .inl ?_
            have hx := hitem 13 (by decide) ⟨hpre 13 rfl, hout _ (by decide)⟩
            exact ⟨wanted_not (j := 12) rfl rfl (hitem 12 (by decide) ⟨hpre 12 rfl, hout _ (by decide)⟩), wp_move rfl (h1 ⟨_, rfl⟩ _ _ (grown_refl _ none) hx (by rw [show a.eval (.tmp 144) = .bool false from hx]; exact nobl rfl) (by rw [show a.eval (.tmp 144) = .bool false from hx]; exact FreshB.none rfl))⟩
          · cases (show some _ = some o from ho)
            exact .inr ⟨unwanted_true (j := 14) rfl rfl (hitem 14 (by decide) ⟨hpre 14 rfl, hout _ (by decide)⟩), h1 ⟨_, rfl⟩ _ _ (grown_refl _ none) rfl (nobl rfl) (FreshB.none rfl)⟩
          · cases (show some _ = some o from ho)
            exact .inr ⟨unwanted_true (j := 14) rfl rfl (hitem 14 (by decide) ⟨hpre 14 rfl, hout _ (by decide)⟩), h1 ⟨_, rfl⟩ _ _ (grown_refl _ none) rfl (nobl rfl) (FreshB.none rfl)⟩
          · cases (show some _ = some o from ho)
            exact .inr ⟨unwanted_true (j := 14) rfl rfl (hitem 14 (by decide) ⟨hpre 14 rfl, hout _ (by decide)⟩), h1 ⟨_, rfl⟩ _ _ (grown_refl _ none) rfl (nobl rfl) (FreshB.none rfl)⟩
          · cases (show some _ = some o from ho)
            refine .inl ?_
            have hc := hitem 14 (by decide) ⟨hpre 14 rfl, hout _ (by decide)⟩
            exact ⟨wanted_not (j := 12) rfl rfl (hitem 12 (by decide) ⟨hpre 12 rfl, hout _ (by decide)⟩), wp_pickNo rfl hc (h1 ⟨_, rfl⟩ _ _ (grown_refl _ none) rfl (nobl rfl) (FreshB.none rfl))⟩
          · cases (show some _ = some o from ho)
            refine .inl ?_
            have hc := hitem 12 (by decide) ⟨hpre 12 rfl, hout _ (by decide)⟩
            have hx := hitem 18 (by decide) ⟨hpre 18 rfl, hout _ (by decide)⟩
            exact ⟨rfl, wp_pickNo rfl hc (h1 ⟨_, rfl⟩ _ _ (grown_refl _ none) hx (by rw [show a.eval (.tmp 149) = .bool false from hx]; exact nobl rfl) (by rw [show a.eval (.tmp 149) = .bool false from hx]; exact FreshB.none rfl))⟩
          · cases (show some _ = some o from ho)
            refine .inl ?_
            have hx := hitem 19 (by decide) ⟨hpre 19 rfl, hout _ (by decide)⟩
            exact ⟨rfl, wp_move rfl (h1 ⟨_, rfl⟩ _ _ (grown_refl _ none) hx (by rw [show a.eval (.tmp 150) = .bool false from hx]; exact nobl rfl) (by rw [show a.eval (.tmp 150) = .bool false from hx]; exact FreshB.none rfl))⟩
          · cases (show some _ = some o from ho)
            refine .inl ?_
            exact ⟨wanted_not (j := 20) rfl rfl (hitem 20 (by decide) ⟨hpre 20 rfl, hout _ (by decide)⟩), wp_move rfl (h1 ⟨_, rfl⟩ _ _ (grown_refl _ none) (houter _ rfl) (by rw [houter _ rfl]; exact nobl rfl) (by rw [houter _ rfl]; exact FreshB.none rfl))⟩
          · cases (show some _ = some o from ho)
            refine .inl ?_
            exact ⟨wanted_not (j := 20) rfl rfl (hitem 20 (by decide) ⟨hpre 20 rfl, hout _ (by decide)⟩), wp_conv rfl (hitem 21 (by decide) ⟨hpre 21 rfl, hout _ (by decide)⟩) (run_text _ _ _ 5 _ (by kernel_rfl) (by kernel_rfl) (by kernel_rfl) (hro.kept hg)) (h1 ⟨_, rfl⟩ _ _ (grown_refl _ none) rfl (nobl rfl) (FreshB.none rfl))⟩
          · cases (show some _ = some o from ho)
            refine .inl ?_
            exact ⟨wanted_not (j := 20) rfl rfl (hitem 20 (by decide) ⟨hpre 20 rfl, hout _ (by decide)⟩), wp_move rfl (h1 ⟨_, rfl⟩ _ _ (grown_refl _ none) (houter _ rfl) (by rw [houter _ rfl]; exact nobl rfl) (by rw [houter _ rfl]; exact FreshB.none rfl))⟩
          · cases (show some _ = some o from ho)
            refine .inl ?_
            exact ⟨wanted_not (j := 20) rfl rfl (hitem 20 (by decide) ⟨hpre 20 rfl, hout _ (by decide)⟩), wp_move rfl (h1 ⟨_, rfl⟩ _ _ (grown_refl _ none) (houter _ rfl) (by rw [houter _ rfl]; exact nobl rfl) (by rw [houter _ rfl]; exact FreshB.none rfl))⟩
          · cases (show some _ = some o from ho)
            refine .inl ?_
            exact ⟨wanted_not (j := 20) rfl rfl (hitem 20 (by decide) ⟨hpre 20 rfl, hout _ (by decide)⟩), wp_index rfl (hitem 23 (by decide) ⟨hpre 23 rfl, hout _ (by decide)⟩) (hitem 24 (by decide) ⟨hpre 24 rfl, hout _ (by decide)⟩) (idx_listU ad _ _ i hin _) (h1 ⟨_, rfl⟩ _ _ (grown_refl _ none) rfl (nobl rfl) (FreshB.none rfl))⟩
          · cases (show some _ = some o from ho)
            refine .inl ?_
            exact ⟨wanted_not (j := 20) rfl rfl (hitem 20 (by decide) ⟨hpre 20 rfl, hout _ (by decide)⟩), wp_loadC rfl (hitem 25 (by decide) ⟨hpre 25 rfl, hout _ (by decide)⟩) (load_cell (hcz w (grown_same hGW hg)) Tryd.underlying24 rfl) (h1 ⟨_, rfl⟩ _ _ (grown_refl _ none) rfl (nobl rfl) (FreshB.none rfl))⟩
          · cases (show some _ = some o from ho)
            refine .inl ?_
            exact ⟨wanted_not (j := 20) rfl rfl (hitem 20 (by decide) ⟨hpre 20 rfl, hout _ (by decide)⟩), wp_conv rfl (hitem 26 (by decide) ⟨hpre 26 rfl, hout _ (by decide)⟩) (run_text _ _ _ 5 _ (by kernel_rfl) (by kernel_rfl) (by kernel_rfl) (hri.kept hg)) (h1 ⟨_, rfl⟩ _ _ (grown_refl _ none) rfl (nobl rfl) (FreshB.none rfl))⟩
          · cases (show some _ = some o from ho)
            refine .inl ?_
            exact ⟨wanted_not (j := 20) rfl rfl (hitem 20 (by decide) ⟨hpre 20 rfl, hout _ (by decide)⟩), wp_bin rfl (hitem 22 (by decide) ⟨hpre 22 rfl, hout _ (by decide)⟩) (hitem 27 (by decide) ⟨hpre 27 rfl, hout _ (by decide)⟩) (guard_str _ _ _ _ _) (by rw [eqlS, hne.out]) (h1 ⟨_, rfl⟩ _ _ (grown_refl _ none) rfl (nobl rfl) (FreshB.none rfl))⟩
          · cases (show some _ = some o from ho)
            refine .inl ?_
            have hx := hitem 28 (by decide) ⟨hpre 28 rfl, hout _ (by decide)⟩
            exact ⟨wanted_not (j := 20) rfl rfl (hitem 20 (by decide) ⟨hpre 20 rfl, hout _ (by decide)⟩), wp_move rfl (h1 ⟨_, rfl⟩ _ _ (grown_refl _ none) hx (by rw [show a.eval (.tmp 159) = .bool false from hx]; exact nobl rfl) (by rw [show a.eval (.tmp 159) = .bool false from hx]; exact FreshB.none rfl))⟩
          · cases (show some _ = some o from ho)
            exact .inr ⟨unwanted_true (j := 29) rfl rfl (hitem 29 (by decide) ⟨hpre 29 rfl, hout _ (by decide)⟩), h1 ⟨_, rfl⟩ _ _ (grown_refl _ none) rfl (nobl rfl) (FreshB.none rfl)⟩
          · cases (show some _ = some o from ho)
            exact .inr ⟨unwanted_true (j := 29) rfl rfl (hitem 29 (by decide) ⟨hpre 29 rfl, hout _ (by decide)⟩), h1 ⟨_, rfl⟩ _ _ (grown_refl _ none) rfl (nobl rfl) (FreshB.none rfl)⟩
          · cases (show some _ = some o from ho)
            exact .inr ⟨unwanted_true (j := 29) rfl rfl (hitem 29 (by decide) ⟨hpre 29 rfl, hout _ (by decide)⟩), h1 ⟨_, rfl⟩ _ _ (grown_refl _ none) rfl (nobl rfl) (FreshB.none rfl)⟩
          · cases (show some _ = some o from ho)
            refine .inl ?_
            have hc := hitem 29 (by decide) ⟨hpre 29 rfl, hout _ (by decide)⟩
            exact ⟨wanted_not (j := 20) rfl rfl (hitem 20 (by decide) ⟨hpre 20 rfl, hout _ (by decide)⟩), wp_pickNo rfl hc (h1 ⟨_, rfl⟩ _ _ (grown_refl _ none) rfl (nobl rfl) (FreshB.none rfl))⟩
          · cases (show some _ = some o from ho)
            refine .inl ?_
            have hc := hitem 20 (by decide) ⟨hpre 20 rfl, hout _ (by decide)⟩
            have hx := hitem 33 (by decide) ⟨hpre 33 rfl, hout _ (by decide)⟩
            exact ⟨rfl, wp_pickNo rfl hc (h1 ⟨_, rfl⟩ _ _ (grown_refl _ none) hx (by rw [show a.eval (.tmp 164) = .bool false from hx]; exact nobl rfl) (by rw [show a.eval (.tmp 164) = .bool false from hx]; exact FreshB.none rfl))⟩
        · intro a wT hgT hend hap ha
          obtain ⟨f, hf⟩ : ∃ f : Nat → Value, f = fun t => a.tmps.getD t undef := ⟨_, rfl⟩
          have s165 : f 165 = .bool false := by rw [hf]; exact (hend 34 (by decide) (by decide)).1
          rw [← hf] at ha
          clear hend hap
          clear hf
          subst ha
          simp only [fill, udS, Nat.reduceAdd, Nat.reduceBEq, Bool.or_false, Bool.or_true, cond_true, cond_false, List.drop_succ_cons, List.drop_zero, s165]
          clear s165
          go_wp2_with fail
          go_meet
          exact ⟨rfl, hgT⟩
    · obtain rfl : Zj = Z2 := (HZJ.out (by trivial)).symm
      clear HZJ
      by_cases hTp : T = pl
      · obtain rfl := hTp
        obtain rfl : Yo = R := HYR.out rfl
        clear HYR
        refine wp_region_gc (al := uaAl) 35 (N := 245) (S := uaS) (die := uaDie) (own := uaOwn) (F := uaF ad N c i bo co pc pA T Yo Zj) (by kernel_rfl) (Nat.le_of_ble_eq_true (by kernel_rfl)) (fun h => absurd (show 35 < 35 from h) (Nat.lt_irrefl _)) (fun h => absurd (show 35 < 35 from h) (Nat.lt_irrefl _)) (by kernel_rfl) (by kernel_rfl) (Nat.le_of_ble_eq_true (by kernel_rfl)) (uaF_lasts ad N c i bo co pc pA T Yo Zj) ?_ ?_
        · intro i o L' a w K hi ho hg hLi hout hpre houter hitem hap' h1 h2 h3 h4
          have hcases : i = 0 ∨ i = 1 ∨ i = 2 ∨ i = 3 ∨ i = 4 ∨ i = 5 ∨ i = 6 ∨ i = 7 ∨ i = 8 ∨ i = 9 ∨ i = 10 ∨ i = 11 ∨ i = 12 ∨ i = 13 ∨ i = 14 ∨ i = 15 ∨ i = 16 ∨ i = 17 ∨ i = 18 ∨ i = 19 ∨ i = 20 ∨ i = 21 ∨ i = 22 ∨ i = 23 ∨ i = 24 ∨ i = 25 ∨ i = 26 ∨ i = 27 ∨ i = 28 ∨ i = 29 ∨ i = 30 ∨ i = 31 ∨ i = 32 ∨ i = 33 ∨ i = 34 := by omega
          rcases hcases with rfl | rfl | rfl | rfl | rfl | rfl | rfl | rfl | rfl | rfl | rfl | rfl | rfl | rfl | rfl | rfl | rfl | rfl | rfl | rfl | rfl | rfl | rfl | rfl | rfl | rfl | rfl | rfl | rfl | rfl | rfl | rfl | rfl | rfl | rfl
          · cases (show some _ = some o from ho)
            refine .inl ?_
            exact ⟨rfl, wp_move rfl (h1 ⟨_, rfl⟩ _ _ (grown_refl _ none) (houter _ rfl) (by rw [houter _ rfl]; exact nobl rfl) (by rw [houter _ rfl]; exact FreshB.none rfl))⟩
          · cases (show some _ = some o from ho)
            refine .inl ?_
            exact ⟨rfl, wp_not rfl (hitem 0 (by decide) ⟨hpre 0 rfl, hout _ (by decide)⟩) (h1 ⟨_, rfl⟩ _ _ (grown_refl _ none) rfl (nobl rfl) (FreshB.none rfl))⟩
          · cases (show some _ = some o from ho)
            refine .inl ?_
            have hx := hitem 1 (by decide) ⟨hpre 1 rfl, hout _ (by decide)⟩
            exact ⟨rfl, wp_move rfl (h1 ⟨_, rfl⟩ _ _ (grown_refl _ none) hx (by rw [show a.eval (.tmp 132) = .bool false from hx]; exact nobl rfl) (by rw [show a.eval (.tmp 132) = .bool false from hx]; exact FreshB.none rfl))⟩
          · cases (show some _ = some o from ho)
            refine .inl ?_
            exact ⟨wanted_not (j := 2) rfl rfl (hitem 2 (by decide) ⟨hpre 2 rfl, hout _ (by decide)⟩), wp_load_row 23 _ rfl _ (houter _ rfl) _ (Yo.map bv).toArray (0, 0) _ (keep_of h19 hg) Tryd.underlying23 rfl (hashV_size _ (hYl.out)) (h1 ⟨_, rfl⟩ _ _ (grown_refl _ none) rfl (nobl (blocks_bytes _)) (FreshB.none (blocks_bytes _)))⟩
          · cases (show some _ = some o from ho)
            refine .inl ?_
            exact ⟨wanted_not (j := 2) rfl rfl (hitem 2 (by decide) ⟨hpre 2 rfl, hout _ (by decide)⟩), wp_load_row 23 _ rfl _ (houter _ rfl) _ (Yo.map bv).toArray (0, 0) _ (keep_of h23 hg) Tryd.underlying23 rfl (hashV_size _ (hYl.out)) (h1 ⟨_, rfl⟩ _ _ (grown_refl _ none) rfl (nobl (blocks_bytes _)) (FreshB.none (blocks_bytes _)))⟩
          · cases (show some _ = some o from ho)
            refine .inl ?_
            exact ⟨wanted_not (j := 2) rfl rfl (hitem 2 (by decide) ⟨hpre 2 rfl, hout _ (by decide)⟩), wp_bin rfl (hitem 3 (by decide) ⟨hpre 3 rfl, hout _ (by decide)⟩) (hitem 4 (by decide) ⟨hpre 4 rfl, hout _ (by decide)⟩) (guard_hneqU _ _ _ _ _) (neqH_same Yo hYl.out _) (h1 ⟨_, rfl⟩ _ _ (grown_refl _ none) rfl (nobl rfl) (FreshB.none rfl))⟩
          · cases (show some _ = some o from ho)
            refine .inl ?_
            have hc := hitem 2 (by decide) ⟨hpre 2 rfl, hout _ (by decide)⟩
            have hx := hitem 5 (by decide) ⟨hpre 5 rfl, hout _ (by decide)⟩
            exact ⟨rfl, wp_pickNo rfl hc (h1 ⟨_, rfl⟩ _ _ (grown_refl _ none) hx (by rw [show a.eval (.tmp 136) = .bool false from hx]; exact nobl rfl) (by rw [show a.eval (.tmp 136) = .bool false from hx]; exact FreshB.none rfl))⟩
          · cases (show some _ = some o from ho)
            refine .inl ?_
            have hx := hitem 6 (by decide) ⟨hpre 6 rfl, hout _ (by decide)⟩
            exact ⟨rfl, wp_move rfl (h1 ⟨_, rfl⟩ _ _ (grown_refl _ none) hx (by rw [show a.eval (.tmp 137) = .bool false from hx]; exact nobl rfl) (by rw [show a.eval (.tmp 137) = .bool false from hx]; exact FreshB.none rfl))⟩
          · cases (show some _ = some o from ho)
            refine .inl ?_
            exact ⟨wanted_not (j := 7) rfl rfl (hitem 7 (by decide) ⟨hpre 7 rfl, hout _ (by decide)⟩), wp_move rfl (h1 ⟨_, rfl⟩ _ _ (grown_refl _ none) (houter _ rfl) (by rw [houter _ rfl]; exact nobl rfl) (by rw [houter _ rfl]; exact FreshB.none rfl))⟩
          · cases (show some _ = some o from ho)
            refine .inl ?_
            exact ⟨wanted_not (j := 7) rfl rfl (hitem 7 (by decide) ⟨hpre 7 rfl, hout _ (by decide)⟩), wp_move rfl (h1 ⟨_, rfl⟩ _ _ (grown_refl _ none) (houter _ rfl) (by rw [houter _ rfl]; exact nobl rfl) (by rw [houter _ rfl]; exact FreshB.none rfl))⟩
          · cases (show some _ = some o from ho)
            refine .inl ?_
            exact ⟨wanted_not (j := 7) rfl rfl (hitem 7 (by decide) ⟨hpre 7 rfl, hout _ (by decide)⟩), wp_bin rfl (hitem 8 (by decide) ⟨hpre 8 rfl, hout _ (by decide)⟩) (hitem 9 (by decide) ⟨hpre 9 rfl, hout _ (by decide)⟩) (guard_bneq _ _ _ _ _) (neqB_same _ _) (h1 ⟨_, rfl⟩ _ _ (grown_refl _ none) rfl (nobl rfl) (FreshB.none rfl))⟩
          · cases (show some _ = some o from ho)
            refine .inl ?_
            have hc := hitem 7 (by decide) ⟨hpre 7 rfl, hout _ (by decide)⟩
            have hx := hitem 10 (by decide) ⟨hpre 10 rfl, hout _ (by decide)⟩
            exact ⟨rfl, wp_pickNo rfl hc (h1 ⟨_, rfl⟩ _ _ (grown_refl _ none) hx (by rw [show a.eval (.tmp 141) = .bool false from hx]; exact nobl rfl) (by rw [show a.eval (.tmp 141) = .bool false from hx]; exact FreshB.none rfl))⟩
          · cases (show some _ = some o from ho)
            refine .inl ?_
            have hx := hitem 11 (by decide) ⟨hpre 11 rfl, hout _ (by decide)⟩
            exact ⟨rfl, wp_move rfl (h1 ⟨_, rfl⟩ _ _ (grown_refl _ none) hx (by rw [show a.eval (.tmp 142) = .bool false from hx]; exact nobl rfl) (by rw [show a.eval (.tmp 142) = .bool false from hx]; exact FreshB.none rfl))⟩
          · cases (show some _ = some o from ho)
            refine .inl ?_
            exact ⟨wanted_not (j := 12) rfl rfl (hitem 12 (by decide) ⟨hpre 12 rfl, hout _ (by decide)⟩), wp_move rfl (h1 ⟨_, rfl⟩ _ _ (grown_refl _ none) (houter _ rfl) (by rw [houter _ rfl]; exact nobl rfl) (by rw [houter _ rfl]; exact FreshB.none rfl))⟩
          · cases (show some _ = some o from ho)
            refine .inl ?_
            have hx := hitem 13 (by decide) ⟨hpre 13 rfl, hout _ (by decide)⟩
            exact ⟨wanted_not (j := 12) rfl rfl (hitem 12 (by decide) ⟨hpre 12 rfl, hout _ (by decide)⟩), wp_move rfl (h1 ⟨_, rfl⟩ _ _ (grown_refl _ none) hx (by rw [show a.eval (.tmp 144) = .bool true from hx]; exact nobl rfl) (by rw [show a.eval (.tmp 144) = .bool true from hx]; exact FreshB.none rfl))⟩
          · cases (show some _ = some o from ho)
            refine .inl ?_
            exact ⟨wanted_of (j := 14) rfl rfl (hitem 14 (by decide) ⟨hpre 14 rfl, hout _ (by decide)⟩), wp_load_row 23 _ rfl _ (houter _ rfl) _ (Zj.map bv).toArray (0, 0) _ (keep_of h21 hg) Tryd.underlying23 rfl (hashV_size _ (hZl.out)) (h1 ⟨_, rfl⟩ _ _ (grown_refl _ none) rfl (nobl (blocks_bytes _)) (FreshB.none (blocks_bytes _)))⟩
          · cases (show some _ = some o from ho)
            refine .inl ?_
            exact ⟨wanted_of (j := 14) rfl rfl (hitem 14 (by decide) ⟨hpre 14 rfl, hout _ (by decide)⟩), wp_load_row 23 _ rfl _ (houter _ rfl) _ (Zj.map bv).toArray (0, 0) _ (keep_of h25 hg) Tryd.underlying23 rfl (hashV_size _ (hZl.out)) (h1 ⟨_, rfl⟩ _ _ (grown_refl _ none) rfl (nobl (blocks_bytes _)) (FreshB.none (blocks_bytes _)))⟩
          · cases (show some _ = some o from ho)
            refine .inl ?_
            exact ⟨wanted_of (j := 14) rfl rfl (hitem 14 (by decide) ⟨hpre 14 rfl, hout _ (by decide)⟩), wp_bin rfl (hitem 15 (by decide) ⟨hpre 15 rfl, hout _ (by decide)⟩) (hitem 16 (by decide) ⟨hpre 16 rfl, hout _ (by decide)⟩) (guard_hneqU _ _ _ _ _) (neqH_same Zj hZl.out _) (h1 ⟨_, rfl⟩ _ _ (grown_refl _ none) rfl (nobl rfl) (FreshB.none rfl))⟩
          · cases (show some _ = some o from ho)
            refine .inl ?_
            have hc := hitem 14 (by decide) ⟨hpre 14 rfl, hout _ (by decide)⟩
            have hx := hitem 17 (by decide) ⟨hpre 17 rfl, hout _ (by decide)⟩
            exact ⟨wanted_not (j := 12) rfl rfl (hitem 12 (by decide) ⟨hpre 12 rfl, hout _ (by decide)⟩), wp_pick rfl hc (h1 ⟨_, rfl⟩ _ _ (grown_refl _ none) hx (by rw [show a.eval (.tmp 148) = .bool false from hx]; exact nobl rfl) (by rw [show a.eval (.tmp 148) = .bool false from hx]; exact FreshB.none rfl))⟩
          · cases (show some _ = some o from ho)
            refine .inl ?_
            have hc := hitem 12 (by decide) ⟨hpre 12 rfl, hout _ (by decide)⟩
            have hx := hitem 18 (by decide) ⟨hpre 18 rfl, hout _ (by decide)⟩
            exact ⟨rfl, wp_pickNo rfl hc (h1 ⟨_, rfl⟩ _ _ (grown_refl _ none) hx (by rw [show a.eval (.tmp 149) = .bool false from hx]; exact nobl rfl) (by rw [show a.eval (.tmp 149) = .bool false from hx]; exact FreshB.none rfl))⟩
          · cases (show some _ = some o from ho)
            refine .inl ?_
            have hx := hitem 19 (by decide) ⟨hpre 19 rfl, hout _ (by decide)⟩
            exact ⟨rfl, wp_move rfl (h1 ⟨_, rfl⟩ _ _ (grown_refl _ none) hx (by rw [show a.eval (.tmp 150) = .bool false from hx]; exact nobl rfl) (by rw [show a.eval (.tmp 150) = .bool false from hx]; exact FreshB.none rfl))⟩
          · cases (show some _ = some o from ho)
            refine .inl ?_
            exact ⟨wanted_not (j := 20) rfl rfl (hitem 20 (by decide) ⟨hpre 20 rfl, hout _ (by decide)⟩), wp_move rfl (h1 ⟨_, rfl⟩ _ _ (grown_refl _ none) (houter _ rfl) (by rw [houter _ rfl]; exact nobl rfl) (by rw [houter _ rfl]; exact FreshB.none rfl))⟩
          · cases (show some _ = some o from ho)
            refine .inl ?_
            exact ⟨wanted_not (j := 20) rfl rfl (hitem 20 (by decide) ⟨hpre 20 rfl, hout _ (by decide)⟩), wp_conv rfl (hitem 21 (by decide) ⟨hpre 21 rfl, hout _ (by decide)⟩) (run_text _ _ _ 5 _ (by kernel_rfl) (by kernel_rfl) (by kernel_rfl) (hro.kept hg)) (h1 ⟨_, rfl⟩ _ _ (grown_refl _ none) rfl (nobl rfl) (FreshB.none rfl))⟩
          · cases (show some _ = some o from ho)
            refine .inl ?_
            exact ⟨wanted_not (j := 20) rfl rfl (hitem 20 (by decide) ⟨hpre 20 rfl, hout _ (by decide)⟩), wp_move rfl (h1 ⟨_, rfl⟩ _ _ (grown_refl _ none) (houter _ rfl) (by rw [houter _ rfl]; exact nobl rfl) (by rw [houter _ rfl]; exact FreshB.none rfl))⟩
          · cases (show some _ = some o from ho)
            refine .inl ?_
            exact ⟨wanted_not (j := 20) rfl rfl (hitem 20 (by decide) ⟨hpre 20 rfl, hout _ (by decide)⟩), wp_move rfl (h1 ⟨_, rfl⟩ _ _ (grown_refl _ none) (houter _ rfl) (by rw [houter _ rfl]; exact nobl rfl) (by rw [houter _ rfl]; exact FreshB.none rfl))⟩
          · cases (show some _ = some o from ho)
            refine .inl ?_
            exact ⟨wanted_not (j := 20) rfl rfl (hitem 20 (by decide) ⟨hpre 20 rfl, hout _ (by decide)⟩), wp_index rfl (hitem 23 (by decide) ⟨hpre 23 rfl, hout _ (by decide)⟩) (hitem 24 (by decide) ⟨hpre 24 rfl, hout _ (by decide)⟩) (idx_listU ad _ _ i hin _) (h1 ⟨_, rfl⟩ _ _ (grown_refl _ none) rfl (nobl rfl) (FreshB.none rfl))⟩
          · cases (show some _ = some o from ho)
            refine .inl ?_
            exact ⟨wanted_not (j := 20) rfl rfl (hitem 20 (by decide) ⟨hpre 20 rfl, hout _ (by decide)⟩), wp_loadC rfl (hitem 25 (by decide) ⟨hpre 25 rfl, hout _ (by decide)⟩) (load_cell (hcz w (grown_same hGW hg)) Tryd.underlying24 rfl) (h1 ⟨_, rfl⟩ _ _ (grown_refl _ none) rfl (nobl rfl) (FreshB.none rfl))⟩
          · cases (show some _ = some o from ho)
            refine .inl ?_
            exact ⟨wanted_not (j := 20) rfl rfl (hitem 20 (by decide) ⟨hpre 20 rfl, hout _ (by decide)⟩), wp_conv rfl (hitem 26 (by decide) ⟨hpre 26 rfl, hout _ (by decide)⟩) (run_text _ _ _ 5 _ (by kernel_rfl) (by kernel_rfl) (by kernel_rfl) (hri.kept hg)) (h1 ⟨_, rfl⟩ _ _ (grown_refl _ none) rfl (nobl rfl) (FreshB.none rfl))⟩
          · cases (show some _ = some o from ho)
            refine .inl ?_
            exact ⟨wanted_not (j := 20) rfl rfl (hitem 20 (by decide) ⟨hpre 20 rfl, hout _ (by decide)⟩), wp_bin rfl (hitem 22 (by decide) ⟨hpre 22 rfl, hout _ (by decide)⟩) (hitem 27 (by decide) ⟨hpre 27 rfl, hout _ (by decide)⟩) (guard_str _ _ _ _ _) (by rw [eqlS, beq_self_eq_true]) (h1 ⟨_, rfl⟩ _ _ (grown_refl _ none) rfl (nobl rfl) (FreshB.none rfl))⟩
          · cases (show some _ = some o from ho)
            refine .inl ?_
            have hx := hitem 28 (by decide) ⟨hpre 28 rfl, hout _ (by decide)⟩
            exact ⟨wanted_not (j := 20) rfl rfl (hitem 20 (by decide) ⟨hpre 20 rfl, hout _ (by decide)⟩), wp_move rfl (h1 ⟨_, rfl⟩ _ _ (grown_refl _ none) hx (by rw [show a.eval (.tmp 159) = .bool true from hx]; exact nobl rfl) (by rw [show a.eval (.tmp 159) = .bool true from hx]; exact FreshB.none rfl))⟩
          · cases (show some _ = some o from ho)
            refine .inl ?_
            exact ⟨wanted_of (j := 29) rfl rfl (hitem 29 (by decide) ⟨hpre 29 rfl, hout _ (by decide)⟩), wp_load_row 23 _ rfl _ (houter _ rfl) _ (Yo.map bv).toArray (0, 0) _ (keep_of h19 hg) Tryd.underlying23 rfl (hashV_size _ (hYl.out)) (h1 ⟨_, rfl⟩ _ _ (grown_refl _ none) rfl (nobl (blocks_bytes _)) (FreshB.none (blocks_bytes _)))⟩
          · cases (show some _ = some o from ho)
            refine .inl ?_
            exact ⟨wanted_of (j := 29) rfl rfl (hitem 29 (by decide) ⟨hpre 29 rfl, hout _ (by decide)⟩), wp_load_row 23 _ rfl _ (houter _ rfl) _ (Yo.map bv).toArray (0, 0) _ (keep_of h12 hg) Tryd.underlying23 rfl (hashV_size _ (hYl.out)) (h1 ⟨_, rfl⟩ _ _ (grown_refl _ none) rfl (nobl (blocks_bytes _)) (FreshB.none (blocks_bytes _)))⟩
          · cases (show some _ = some o from ho)
            refine .inl ?_
            exact ⟨wanted_of (j := 29) rfl rfl (hitem 29 (by decide) ⟨hpre 29 rfl, hout _ (by decide)⟩), wp_bin rfl (hitem 30 (by decide) ⟨hpre 30 rfl, hout _ (by decide)⟩) (hitem 31 (by decide) ⟨hpre 31 rfl, hout _ (by decide)⟩) (guard_hneqU _ _ _ _ _) (neqH_same Yo hYl.out _) (h1 ⟨_, rfl⟩ _ _ (grown_refl _ none) rfl (nobl rfl) (FreshB.none rfl))⟩
          · cases (show some _ = some o from ho)
            refine .inl ?_
            have hc := hitem 29 (by decide) ⟨hpre 29 rfl, hout _ (by decide)⟩
            have hx := hitem 32 (by decide) ⟨hpre 32 rfl, hout _ (by decide)⟩
            exact ⟨wanted_not (j := 20) rfl rfl (hitem 20 (by decide) ⟨hpre 20 rfl, hout _ (by decide)⟩), wp_pick rfl hc (h1 ⟨_, rfl⟩ _ _ (grown_refl _ none) hx (by rw [show a.eval (.tmp 163) = .bool false from hx]; exact nobl rfl) (by rw [show a.eval (.tmp 163) = .bool false from hx]; exact FreshB.none rfl))⟩
          · cases (show some _ = some o from ho)
            refine .inl ?_
            have hc := hitem 20 (by decide) ⟨hpre 20 rfl, hout _ (by decide)⟩
            have hx := hitem 33 (by decide) ⟨hpre 33 rfl, hout _ (by decide)⟩
            exact ⟨rfl, wp_pickNo rfl hc (h1 ⟨_, rfl⟩ _ _ (grown_refl _ none) hx (by rw [show a.eval (.tmp 164) = .bool false from hx]; exact nobl rfl) (by rw [show a.eval (.tmp 164) = .bool false from hx]; exact FreshB.none rfl))⟩
        · intro a wT hgT hend hap ha
          obtain ⟨f, hf⟩ : ∃ f : Nat → Value, f = fun t => a.tmps.getD t undef := ⟨_, rfl⟩
          have s165 : f 165 = .bool false := by rw [hf]; exact (hend 34 (by decide) (by decide)).1
          rw [← hf] at ha
          clear hend hap
          clear hf
          subst ha
          simp only [fill, uaS, Nat.reduceAdd, Nat.reduceBEq, Bool.or_false, Bool.or_true, cond_true, cond_false, List.drop_succ_cons, List.drop_zero, s165]
          clear s165
          go_wp2_with fail
          go_meet
          exact ⟨rfl, hgT⟩
      · have hne : Hid ((T == pl) = false) := by show _ = _; rw [beq_eq_false_iff_ne]; exact hTp
        clear HYR hTp
        refine wp_region_gc (al := ubAl) 35 (N := 245) (S := ubS) (die := ubDie) (own := ubOwn) (F := ubF ad N c i bo co pc pA T pl Yo Zj) (by kernel_rfl) (Nat.le_of_ble_eq_true (by kernel_rfl)) (fun h => absurd (show 35 < 35 from h) (Nat.lt_irrefl _)) (fun h => absurd (show 35 < 35 from h) (Nat.lt_irrefl _)) (by kernel_rfl) (by kernel_rfl) (Nat.le_of_ble_eq_true (by kernel_rfl)) (ubF_lasts ad N c i bo co pc pA T pl Yo Zj) ?_ ?_
        · intro i o L' a w K hi ho hg hLi hout hpre houter hitem hap' h1 h2 h3 h4
          have hcases : i = 0 ∨ i = 1 ∨ i = 2 ∨ i = 3 ∨ i = 4 ∨ i = 5 ∨ i = 6 ∨ i = 7 ∨ i = 8 ∨ i = 9 ∨ i = 10 ∨ i = 11 ∨ i = 12 ∨ i = 13 ∨ i = 14 ∨ i = 15 ∨ i = 16 ∨ i = 17 ∨ i = 18 ∨ i = 19 ∨ i = 20 ∨ i = 21 ∨ i = 22 ∨ i = 23 ∨ i = 24 ∨ i = 25 ∨ i = 26 ∨ i = 27 ∨ i = 28 ∨ i = 29 ∨ i = 30 ∨ i = 31 ∨ i = 32 ∨ i = 33 ∨ i = 34 := by omega
          rcases hcases with rfl | rfl | rfl | rfl | rfl | rfl | rfl | rfl | rfl | rfl | rfl | rfl | rfl | rfl | rfl | rfl | rfl | rfl | rfl | rfl | rfl | rfl | rfl | rfl | rfl | rfl | rfl | rfl | rfl | rfl | rfl | rfl | rfl | rfl | rfl
          · cases (show some _ = some o from ho)
            refine .inl ?_
            exact ⟨rfl, wp_move rfl (h1 ⟨_, rfl⟩ _ _ (grown_refl _ none) (houter _ rfl) (by rw [houter _ rfl]; exact nobl rfl) (by rw [houter _ rfl]; exact FreshB.none rfl))⟩
          · cases (show some _ = some o from ho)
            refine .inl ?_
            exact ⟨rfl, wp_not rfl (hitem 0 (by decide) ⟨hpre 0 rfl, hout _ (by decide)⟩) (h1 ⟨_, rfl⟩ _ _ (grown_refl _ none) rfl (nobl rfl) (FreshB.none rfl))⟩
          · cases (show some _ = some o from ho)
            refine .inl ?_
            have hx := hitem 1 (by decide) ⟨hpre 1 rfl, hout _ (by decide)⟩
            exact ⟨rfl, wp_move rfl (h1 ⟨_, rfl⟩ _ _ (grown_refl _ none) hx (by rw [show a.eval (.tmp 132) = .bool false from hx]; exact nobl rfl) (by rw [show a.eval (.tmp 132) = .bool false from hx]; exact FreshB.none rfl))⟩
          · cases (show some _ = some o from ho)
            refine .inl ?_
            exact ⟨wanted_not (j := 2) rfl rfl (hitem 2 (by decide) ⟨hpre 2 rfl, hout _ (by decide)⟩), wp_load_row 23 _ rfl _ (houter _ rfl) _ (Yo.map bv).toArray (0, 0) _ (keep_of h19 hg) Tryd.underlying23 rfl (hashV_size _ (hYl.out)) (h1 ⟨_, rfl⟩ _ _ (grown_refl _ none) rfl (nobl (blocks_bytes _)) (FreshB.none (blocks_bytes _)))⟩
          · cases (show some _ = some o from ho)
            refine .inl ?_
            exact ⟨wanted_not (j := 2) rfl rfl (hitem 2 (by decide) ⟨hpre 2 rfl, hout _ (by decide)⟩), wp_load_row 23 _ rfl _ (houter _ rfl) _ (Yo.map bv).toArray (0, 0) _ (keep_of h23 hg) Tryd.underlying23 rfl (hashV_size _ (hYl.out)) (h1 ⟨_, rfl⟩ _ _ (grown_refl _ none) rfl (nobl (blocks_bytes _)) (FreshB.none (blocks_bytes _)))⟩
          · cases (show some _ = some o from ho)
            refine .inl ?_
            exact ⟨wanted_not (j := 2) rfl rfl (hitem 2 (by decide) ⟨hpre 2 rfl, hout _ (by decide)⟩), wp_bin rfl (hitem 3 (by decide) ⟨hpre 3 rfl, hout _ (by decide)⟩) (hitem 4 (by decide) ⟨hpre 4 rfl, hout _ (by decide)⟩) (guard_hneqU _ _ _ _ _) (neqH_same Yo hYl.out _) (h1 ⟨_, rfl⟩ _ _ (grown_refl _ none) rfl (nobl rfl) (FreshB.none rfl))⟩
          · cases (show some _ = some o from ho)
            refine .inl ?_
            have hc := hitem 2 (by decide) ⟨hpre 2 rfl, hout _ (by decide)⟩
            have hx := hitem 5 (by decide) ⟨hpre 5 rfl, hout _ (by decide)⟩
            exact ⟨rfl, wp_pickNo rfl hc (h1 ⟨_, rfl⟩ _ _ (grown_refl _ none) hx (by rw [show a.eval (.tmp 136) = .bool false from hx]; exact nobl rfl) (by rw [show a.eval (.tmp 136) = .bool false from hx]; exact FreshB.none rfl))⟩
          · cases (show some _ = some o from ho)
            refine .inl ?_
            have hx := hitem 6 (by decide) ⟨hpre 6 rfl, hout _ (by decide)⟩
            exact ⟨rfl, wp_move rfl (h1 ⟨_, rfl⟩ _ _ (grown_refl _ none) hx (by rw [show a.eval (.tmp 137) = .bool false from hx]; exact nobl rfl) (by rw [show a.eval (.tmp 137) = .bool false from hx]; exact FreshB.none rfl))⟩
          · cases (show some _ = some o from ho)
            refine .inl ?_
            exact ⟨wanted_not (j := 7) rfl rfl (hitem 7 (by decide) ⟨hpre 7 rfl, hout _ (by decide)⟩), wp_move rfl (h1 ⟨_, rfl⟩ _ _ (grown_refl _ none) (houter _ rfl) (by rw [houter _ rfl]; exact nobl rfl) (by rw [houter _ rfl]; exact FreshB.none rfl))⟩
          · cases (show some _ = some o from ho)
            refine .inl ?_
            exact ⟨wanted_not (j := 7) rfl rfl (hitem 7 (by decide) ⟨hpre 7 rfl, hout _ (by decide)⟩), wp_move rfl (h1 ⟨_, rfl⟩ _ _ (grown_refl _ none) (houter _ rfl) (by rw [houter _ rfl]; exact nobl rfl) (by rw [houter _ rfl]; exact FreshB.none rfl))⟩
          · cases (show some _ = some o from ho)
            refine .inl ?_
            exact ⟨wanted_not (j := 7) rfl rfl (hitem 7 (by decide) ⟨hpre 7 rfl, hout _ (by decide)⟩), wp_bin rfl (hitem 8 (by decide) ⟨hpre 8 rfl, hout _ (by decide)⟩) (hitem 9 (by decide) ⟨hpre 9 rfl, hout _ (by decide)⟩) (guard_bneq _ _ _ _ _) (neqB_same _ _) (h1 ⟨_, rfl⟩ _ _ (grown_refl _ none) rfl (nobl rfl) (FreshB.none rfl))⟩
          · cases (show some _ = some o from ho)
            refine .inl ?_
            have hc := hitem 7 (by decide) ⟨hpre 7 rfl, hout _ (by decide)⟩
            have hx := hitem 10 (by decide) ⟨hpre 10 rfl, hout _ (by decide)⟩
            exact ⟨rfl, wp_pickNo rfl hc (h1 ⟨_, rfl⟩ _ _ (grown_refl _ none) hx (by rw [show a.eval (.tmp 141) = .bool false from hx]; exact nobl rfl) (by rw [show a.eval (.tmp 141) = .bool false from hx]; exact FreshB.none rfl))⟩
          · cases (show some _ = some o from ho)
            refine .inl ?_
            have hx := hitem 11 (by decide) ⟨hpre 11 rfl, hout _ (by decide)⟩
            exact ⟨rfl, wp_move rfl (h1 ⟨_, rfl⟩ _ _ (grown_refl _ none) hx (by rw [show a.eval (.tmp 142) = .bool false from hx]; exact nobl rfl) (by rw [show a.eval (.tmp 142) = .bool false from hx]; exact FreshB.none rfl))⟩
          · cases (show some _ = some o from ho)
            refine .inl ?_
            exact ⟨wanted_not (j := 12) rfl rfl (hitem 12 (by decide) ⟨hpre 12 rfl, hout _ (by decide)⟩), wp_move rfl (h1 ⟨_, rfl⟩ _ _ (grown_refl _ none) (houter _ rfl) (by rw [houter _ rfl]; exact nobl rfl) (by rw [houter _ rfl]; exact FreshB.none rfl))⟩
          · cases (show some _ = some o from ho)
            refine .inl ?_
            have hx := hitem 13 (by decide) ⟨hpre 13 rfl, hout _ (by decide)⟩
            exact ⟨wanted_not (j := 12) rfl rfl (hitem 12 (by decide) ⟨hpre 12 rfl, hout _ (by decide)⟩), wp_move rfl (h1 ⟨_, rfl⟩ _ _ (grown_refl _ none) hx (by rw [show a.eval (.tmp 144) = .bool true from hx]; exact nobl rfl) (by rw [show a.eval (.tmp 144) = .bool true from hx]; exact FreshB.none rfl))⟩
          · cases (show some _ = some o from ho)
            refine .inl ?_
            exact ⟨wanted_of (j := 14) rfl rfl (hitem 14 (by decide) ⟨hpre 14 rfl, hout _ (by decide)⟩), wp_load_row 23 _ rfl _ (houter _ rfl) _ (Zj.map bv).toArray (0, 0) _ (keep_of h21 hg) Tryd.underlying23 rfl (hashV_size _ (hZl.out)) (h1 ⟨_, rfl⟩ _ _ (grown_refl _ none) rfl (nobl (blocks_bytes _)) (FreshB.none (blocks_bytes _)))⟩
          · cases (show some _ = some o from ho)
            refine .inl ?_
            exact ⟨wanted_of (j := 14) rfl rfl (hitem 14 (by decide) ⟨hpre 14 rfl, hout _ (by decide)⟩), wp_load_row 23 _ rfl _ (houter _ rfl) _ (Zj.map bv).toArray (0, 0) _ (keep_of h25 hg) Tryd.underlying23 rfl (hashV_size _ (hZl.out)) (h1 ⟨_, rfl⟩ _ _ (grown_refl _ none) rfl (nobl (blocks_bytes _)) (FreshB.none (blocks_bytes _)))⟩
          · cases (show some _ = some o from ho)
            refine .inl ?_
            exact ⟨wanted_of (j := 14) rfl rfl (hitem 14 (by decide) ⟨hpre 14 rfl, hout _ (by decide)⟩), wp_bin rfl (hitem 15 (by decide) ⟨hpre 15 rfl, hout _ (by decide)⟩) (hitem 16 (by decide) ⟨hpre 16 rfl, hout _ (by decide)⟩) (guard_hneqU _ _ _ _ _) (neqH_same Zj hZl.out _) (h1 ⟨_, rfl⟩ _ _ (grown_refl _ none) rfl (nobl rfl) (FreshB.none rfl))⟩
          · cases (show some _ = some o from ho)
            refine .inl ?_
            have hc := hitem 14 (by decide) ⟨hpre 14 rfl, hout _ (by decide)⟩
            have hx := hitem 17 (by decide) ⟨hpre 17 rfl, hout _ (by decide)⟩
            exact ⟨wanted_not (j := 12) rfl rfl (hitem 12 (by decide) ⟨hpre 12 rfl, hout _ (by decide)⟩), wp_pick rfl hc (h1 ⟨_, rfl⟩ _ _ (grown_refl _ none) hx (by rw [show a.eval (.tmp 148) = .bool false from hx]; exact nobl rfl) (by rw [show a.eval (.tmp 148) = .bool false from hx]; exact FreshB.none rfl))⟩
          · cases (show some _ = some o from ho)
            refine .inl ?_
            have hc := hitem 12 (by decide) ⟨hpre 12 rfl, hout _ (by decide)⟩
            have hx := hitem 18 (by decide) ⟨hpre 18 rfl, hout _ (by decide)⟩
            exact ⟨rfl, wp_pickNo rfl hc (h1 ⟨_, rfl⟩ _ _ (grown_refl _ none) hx (by rw [show a.eval (.tmp 149) = .bool false from hx]; exact nobl rfl) (by rw [show a.eval (.tmp 149) = .bool false from hx]; exact FreshB.none rfl))⟩
          · cases (show some _ = some o from ho)
            refine .inl ?_
            have hx := hitem 19 (by decide) ⟨hpre 19 rfl, hout _ (by decide)⟩
            exact ⟨rfl, wp_move rfl (h1 ⟨_, rfl⟩ _ _ (grown_refl _ none) hx (by rw [show a.eval (.tmp 150) = .bool false from hx]; exact nobl rfl) (by rw [show a.eval (.tmp 150) = .bool false from hx]; exact FreshB.none rfl))⟩
          · cases (show some _ = some o from ho)
            refine .inl ?_
            exact ⟨wanted_not (j := 20) rfl rfl (hitem 20 (by decide) ⟨hpre 20 rfl, hout _ (by decide)⟩), wp_move rfl (h1 ⟨_, rfl⟩ _ _ (grown_refl _ none) (houter _ rfl) (by rw [houter _ rfl]; exact nobl rfl) (by rw [houter _ rfl]; exact FreshB.none rfl))⟩
          · cases (show some _ = some o from ho)
            refine .inl ?_
            exact ⟨wanted_not (j := 20) rfl rfl (hitem 20 (by decide) ⟨hpre 20 rfl, hout _ (by decide)⟩), wp_conv rfl (hitem 21 (by decide) ⟨hpre 21 rfl, hout _ (by decide)⟩) (run_text _ _ _ 5 _ (by kernel_rfl) (by kernel_rfl) (by kernel_rfl) (hro.kept hg)) (h1 ⟨_, rfl⟩ _ _ (grown_refl _ none) rfl (nobl rfl) (FreshB.none rfl))⟩
          · cases (show some _ = some o from ho)
            refine .inl ?_
            exact ⟨wanted_not (j := 20) rfl rfl (hitem 20 (by decide) ⟨hpre 20 rfl, hout _ (by decide)⟩), wp_move rfl (h1 ⟨_, rfl⟩ _ _ (grown_refl _ none) (houter _ rfl) (by rw [houter _ rfl]; exact nobl rfl) (by rw [houter _ rfl]; exact FreshB.none rfl))⟩
          · cases (show some _ = some o from ho)
            refine .inl ?_
            exact ⟨wanted_not (j := 20) rfl rfl (hitem 20 (by decide) ⟨hpre 20 rfl, hout _ (by decide)⟩), wp_move rfl (h1 ⟨_, rfl⟩ _ _ (grown_refl _ none) (houter _ rfl) (by rw [houter _ rfl]; exact nobl rfl) (by rw [houter _ rfl]; exact FreshB.none rfl))⟩
          · cases (show some _ = some o from ho)
            refine .inl ?_
            exact ⟨wanted_not (j := 20) rfl rfl (hitem 20 (by decide) ⟨hpre 20 rfl, hout _ (by decide)⟩), wp_index rfl (hitem 23 (by decide) ⟨hpre 23 rfl, hout _ (by decide)⟩) (hitem 24 (by decide) ⟨hpre 24 rfl, hout _ (by decide)⟩) (idx_listU ad _ _ i hin _) (h1 ⟨_, rfl⟩ _ _ (grown_refl _ none) rfl (nobl rfl) (FreshB.none rfl))⟩
          · cases (show some _ = some o from ho)
            refine .inl ?_
            exact ⟨wanted_not (j := 20) rfl rfl (hitem 20 (by decide) ⟨hpre 20 rfl, hout _ (by decide)⟩), wp_loadC rfl (hitem 25 (by decide) ⟨hpre 25 rfl, hout _ (by decide)⟩) (load_cell (hcz w (grown_same hGW hg)) Tryd.underlying24 rfl) (h1 ⟨_, rfl⟩ _ _ (grown_refl _ none) rfl (nobl rfl) (FreshB.none rfl))⟩
          · cases (show some _ = some o from ho)
            refine .inl ?_
            exact ⟨wanted_not (j := 20) rfl rfl (hitem 20 (by decide) ⟨hpre 20 rfl, hout _ (by decide)⟩), wp_conv rfl (hitem 26 (by decide) ⟨hpre 26 rfl, hout _ (by decide)⟩) (run_text _ _ _ 5 _ (by kernel_rfl) (by kernel_rfl) (by kernel_rfl) (hri.kept hg)) (h1 ⟨_, rfl⟩ _ _ (grown_refl _ none) rfl (nobl rfl) (FreshB.none rfl))⟩
          · cases (show some _ = some o from ho)
            refine .inl ?_
            exact ⟨wanted_not (j := 20) rfl rfl (hitem 20 (by decide) ⟨hpre 20 rfl, hout _ (by decide)⟩), wp_bin rfl (hitem 22 (by decide) ⟨hpre 22 rfl, hout _ (by decide)⟩) (hitem 27 (by decide) ⟨hpre 27 rfl, hout _ (by decide)⟩) (guard_str _ _ _ _ _) (by rw [eqlS, hne.out]) (h1 ⟨_, rfl⟩ _ _ (grown_refl _ none) rfl (nobl rfl) (FreshB.none rfl))⟩
          · cases (show some _ = some o from ho)
            refine .inl ?_
            have hx := hitem 28 (by decide) ⟨hpre 28 rfl, hout _ (by decide)⟩
            exact ⟨wanted_not (j := 20) rfl rfl (hitem 20 (by decide) ⟨hpre 20 rfl, hout _ (by decide)⟩), wp_move rfl (h1 ⟨_, rfl⟩ _ _ (grown_refl _ none) hx (by rw [show a.eval (.tmp 159) = .bool false from hx]; exact nobl rfl) (by rw [show a.eval (.tmp 159) = .bool false from hx]; exact FreshB.none rfl))⟩
          · cases (show some _ = some o from ho)
            exact .inr ⟨unwanted_true (j := 29) rfl rfl (hitem 29 (by decide) ⟨hpre 29 rfl, hout _ (by decide)⟩), h1 ⟨_, rfl⟩ _ _ (grown_refl _ none) rfl (nobl rfl) (FreshB.none rfl)⟩
          · cases (show some _ = some o from ho)
            exact .inr ⟨unwanted_true (j := 29) rfl rfl (hitem 29 (by decide) ⟨hpre 29 rfl, hout _ (by decide)⟩), h1 ⟨_, rfl⟩ _ _ (grown_refl _ none) rfl (nobl rfl) (FreshB.none rfl)⟩
          · cases (show some _ = some o from ho)
            exact .inr ⟨unwanted_true (j := 29) rfl rfl (hitem 29 (by decide) ⟨hpre 29 rfl, hout _ (by decide)⟩), h1 ⟨_, rfl⟩ _ _ (grown_refl _ none) rfl (nobl rfl) (FreshB.none rfl)⟩
          · cases (show some _ = some o from ho)
            refine .inl ?_
            have hc := hitem 29 (by decide) ⟨hpre 29 rfl, hout _ (by decide)⟩
            exact ⟨wanted_not (j := 20) rfl rfl (hitem 20 (by decide) ⟨hpre 20 rfl, hout _ (by decide)⟩), wp_pickNo rfl hc (h1 ⟨_, rfl⟩ _ _ (grown_refl _ none) rfl (nobl rfl) (FreshB.none rfl))⟩
          · cases (show some _ = some o from ho)
            refine .inl ?_
            have hc := hitem 20 (by decide) ⟨hpre 20 rfl, hout _ (by decide)⟩
            have hx := hitem 33 (by decide) ⟨hpre 33 rfl, hout _ (by decide)⟩
            exact ⟨rfl, wp_pickNo rfl hc (h1 ⟨_, rfl⟩ _ _ (grown_refl _ none) hx (by rw [show a.eval (.tmp 164) = .bool false from hx]; exact nobl rfl) (by rw [show a.eval (.tmp 164) = .bool false from hx]; exact FreshB.none rfl))⟩
        · intro a wT hgT hend hap ha
          obtain ⟨f, hf⟩ : ∃ f : Nat → Value, f = fun t => a.tmps.getD t undef := ⟨_, rfl⟩
          have s165 : f 165 = .bool false := by rw [hf]; exact (hend 34 (by decide) (by decide)).1
          rw [← hf] at ha
          clear hend hap
          clear hf
          subst ha
          simp only [fill, ubS, Nat.reduceAdd, Nat.reduceBEq, Bool.or_false, Bool.or_true, cond_true, cond_false, List.drop_succ_cons, List.drop_zero, s165]
          clear s165
          go_wp2_with fail
          go_meet
          exact ⟨rfl, hgT⟩
  case rest =>
    obtain ⟨rfl, hgT⟩ := hcut
    replace hrp := hrp.kept hgT
    replace hri := hri.kept hgT
    replace hk := hk.kept hgT
    replace hGW := grown_same hGW hgT
    replace hci := hcz _ hGW
    clear h12 h19 h21 h23 h25 hro hneY hZl hgT HYR HZJ hZ2l hYl hRl
    by_cases hd0 : d = 0
    · have hd0' : (d : Int) = 0 := by omega
      have htr := TreeRuns_any _ hk
      clear hci
      go_wp2_with (go_at_call 4; refine htr.mono ?_; rintro e w8 ⟨rfl, hg8⟩)
      go_ret
      exact ⟨rfl, grown_same hgW (grown_same hGW hg8)⟩
    have hd0' : ¬ (d : Int) = 0 := by omega
    obtain ⟨gp, rfl⟩ := hgp (by omega)
    obtain ⟨b, hb, hWb⟩ := Within_nat n3 (256 * d - 1) (by omega)
    rw [show ((256 * d - 1 : Nat) : Int) = 256 * (d : Int) - 1 by omega] at hWb
    clear hgp
    go_upto_region 21 with (first
    | (go_at_call 12; refine (hWb _).mono ?_; clear hWb; rintro e w8 ⟨rfl, rfl⟩)
    | (at_builtin; refine wpList_appHr rfl _ _ rfl rfl (ownH_new _) rfl (hrp.alloc _) hPl (by omega) ?_; intro vq w9 hoq hgrq; rw [List.nil_append, Nat.zero_add] at hoq; obtain ⟨gq, cq, rfl, hcq, -, -⟩ := hoq.slice (by omega); have hg9 := (Grew.fresh hgrq).nil; have hnew := (Grew.fresh hgrq).new gq rfl; clear hgrq))
    obtain ⟨cu, hu, hz3, hM, hsz, ht⟩ := OwnHs.row hoq
    obtain ⟨z, hz⟩ := cell_of_take (o := b / 256 * 32 + b % 256 / 8) ht hPl (by omega)
    have hbh : b / 256 < d := by omega
    have hb6 : b ≤ 1000000 := by omega
    clear hoq
    refine wp_region_gb (al := ueAl) 16 (N := 245) (S := ueS) (die := ueDie) (own := ueOwn) (F := ueF gq d cq b z) (by kernel_rfl) (Nat.le_of_ble_eq_true (by kernel_rfl)) (fun _ => by kernel_rfl) (fun _ => by kernel_rfl) (by kernel_rfl) (by kernel_rfl) (Nat.le_of_ble_eq_true (by kernel_rfl)) (ueF_lasts gq d cq b z) ?_ ?_
    · intro i o L' a w K hi ho hg hLi hout hpre houter hitem h1 h2 h3
      have hcases : i = 0 ∨ i = 1 ∨ i = 2 ∨ i = 3 ∨ i = 4 ∨ i = 5 ∨ i = 6 ∨ i = 7 ∨ i = 8 ∨ i = 9 ∨ i = 10 ∨ i = 11 ∨ i = 12 ∨ i = 13 ∨ i = 14 ∨ i = 15 := by omega
      rcases hcases with rfl | rfl | rfl | rfl | rfl | rfl | rfl | rfl | rfl | rfl | rfl | rfl | rfl | rfl | rfl | rfl
      · cases (show some _ = some o from ho)
        exact ⟨rfl, wp_move rfl (h1 ⟨_, rfl⟩ _ _ (grown_refl _ none) (houter _ rfl) (by rw [houter _ rfl]; exact nobl rfl) (by rw [houter _ rfl]; exact FreshB.none rfl))⟩
      · cases (show some _ = some o from ho)
        exact ⟨rfl, wp_move rfl (h1 ⟨_, rfl⟩ _ _ (grown_refl _ none) (houter _ rfl) (by rw [houter _ rfl]; exact nobl rfl) (by rw [houter _ rfl]; exact FreshB.none rfl))⟩
      · cases (show some _ = some o from ho)
        exact ⟨rfl, wp_bin rfl (hitem 1 (by decide) ⟨hpre 1 rfl, hout _ (by decide)⟩) rfl (by kernel_rfl) (quo256 _ hb6 _) (h1 ⟨_, rfl⟩ _ _ (grown_refl _ none) rfl (nobl rfl) (FreshB.none rfl))⟩
      · cases (show some _ = some o from ho)
        exact ⟨rfl, wp_move rfl (h1 ⟨_, rfl⟩ _ _ (grown_refl _ none) (houter _ rfl) (by rw [houter _ rfl]; exact nobl rfl) (by rw [houter _ rfl]; exact FreshB.none rfl))⟩
      · cases (show some _ = some o from ho)
        exact ⟨rfl, wp_bin rfl (hitem 3 (by decide) ⟨hpre 3 rfl, hout _ (by decide)⟩) rfl (by kernel_rfl) (rem256 _ _) (h1 ⟨_, rfl⟩ _ _ (grown_refl _ none) rfl (nobl rfl) (FreshB.none rfl))⟩
      · cases (show some _ = some o from ho)
        exact ⟨rfl, wp_bin rfl (hitem 4 (by decide) ⟨hpre 4 rfl, hout _ (by decide)⟩) rfl (by kernel_rfl) (quo8 _ (by omega) _) (h1 ⟨_, rfl⟩ _ _ (grown_refl _ none) rfl (nobl rfl) (FreshB.none rfl))⟩
      · cases (show some _ = some o from ho)
        exact ⟨rfl, wp_index rfl (hitem 0 (by decide) ⟨hpre 0 rfl, hout _ (by decide)⟩) (hitem 2 (by decide) ⟨hpre 2 rfl, hout _ (by decide)⟩) (index_hs _ _ _ _ hbh _) (h1 ⟨_, rfl⟩ _ _ (grown_refl _ none) rfl (nobl rfl) (FreshB.none rfl))⟩
      · cases (show some _ = some o from ho)
        exact ⟨rfl, wp_index rfl (hitem 6 (by decide) ⟨hpre 6 rfl, hout _ (by decide)⟩) (hitem 5 (by decide) ⟨hpre 5 rfl, hout _ (by decide)⟩) (idx8 _ _ _ (by omega) _) (h1 ⟨_, rfl⟩ _ _ (grown_refl _ none) rfl (nobl rfl) (FreshB.none rfl))⟩
      · cases (show some _ = some o from ho)
        exact ⟨rfl, wp_loadC rfl (hitem 7 (by decide) ⟨hpre 7 rfl, hout _ (by decide)⟩) (load_cell (cell_of_cells (keep_of hu hg) hz) Tryd.underlying5 rfl) (h1 ⟨_, rfl⟩ _ _ (grown_refl _ none) rfl (nobl rfl) (FreshB.none rfl))⟩
      · cases (show some _ = some o from ho)
        exact ⟨rfl, wp_move rfl (h1 ⟨_, rfl⟩ _ _ (grown_refl _ none) (houter _ rfl) (by rw [houter _ rfl]; exact nobl rfl) (by rw [houter _ rfl]; exact FreshB.none rfl))⟩
      · cases (show some _ = some o from ho)
        exact ⟨rfl, wp_bin rfl (hitem 9 (by decide) ⟨hpre 9 rfl, hout _ (by decide)⟩) rfl (by kernel_rfl) (rem8 _ _) (h1 ⟨_, rfl⟩ _ _ (grown_refl _ none) rfl (nobl rfl) (FreshB.none rfl))⟩
      · cases (show some _ = some o from ho)
        exact ⟨rfl, wp_conv rfl (hitem 10 (by decide) ⟨hpre 10 rfl, hout _ (by decide)⟩) (conv8 _ (Nat.mod_lt _ (by decide)) _) (h1 ⟨_, rfl⟩ _ _ (grown_refl _ none) rfl (nobl rfl) (FreshB.none rfl))⟩
      · cases (show some _ = some o from ho)
        exact ⟨rfl, wp_bin rfl rfl (hitem 11 (by decide) ⟨hpre 11 rfl, hout _ (by decide)⟩) (by kernel_rfl) (shl8 _ (Nat.mod_lt _ (by decide)) _) (h1 ⟨_, rfl⟩ _ _ (grown_refl _ none) rfl (nobl rfl) (FreshB.none rfl))⟩
      · cases (show some _ = some o from ho)
        exact ⟨rfl, wp_bin rfl (hitem 8 (by decide) ⟨hpre 8 rfl, hout _ (by decide)⟩) (hitem 12 (by decide) ⟨hpre 12 rfl, hout _ (by decide)⟩) (by kernel_rfl) (xor8 _ _ _) (h1 ⟨_, rfl⟩ _ _ (grown_refl _ none) rfl (nobl rfl) (FreshB.none rfl))⟩
      · cases (show some _ = some o from ho)
        exact ⟨rfl, wp_index rfl (hitem 0 (by decide) ⟨hpre 0 rfl, hout _ (by decide)⟩) (hitem 2 (by decide) ⟨hpre 2 rfl, hout _ (by decide)⟩) (index_hs _ _ _ _ hbh _) (h1 ⟨_, rfl⟩ _ _ (grown_refl _ none) rfl (nobl rfl) (FreshB.none rfl))⟩
      · cases (show some _ = some o from ho)
        exact ⟨rfl, wp_index rfl (hitem 14 (by decide) ⟨hpre 14 rfl, hout _ (by decide)⟩) (hitem 5 (by decide) ⟨hpre 5 rfl, hout _ (by decide)⟩) (idx8 _ _ _ (by omega) _) (h1 ⟨_, rfl⟩ _ _ (grown_refl _ none) rfl (nobl rfl) (FreshB.none rfl))⟩
    · intro a wT hgT hend hap ha
      obtain ⟨f, hf⟩ : ∃ f : Nat → Value, f = fun t => a.tmps.getD t undef := ⟨_, rfl⟩
      have s192 : f 192 = .int .u8 (((z ^^^ UInt8.ofNat (2 ^ (b % 8))).toNat : Nat) : Int) := by rw [hf]; exact (hend 13 (by decide) (by decide)).1
      have s194 : f 194 = .pointer (some ⟨gq, b / 256 * 32 + b % 256 / 8, none⟩) := by rw [hf]; exact (hend 15 (by decide) (by decide)).1
      rw [← hf] at ha
      clear hend hap
      clear hf
      subst ha
      simp only [fill, ueS, Nat.reduceAdd, Nat.reduceBEq, Bool.or_false, Bool.or_true, cond_true, cond_false, List.drop_succ_cons, List.drop_zero, s192, s194]
      clear s192 s194
      have hcz2 : wT.cell? ⟨gq, b / 256 * 32 + b % 256 / 8, none⟩ = some (.int .u8 (z.toNat : Int)) := cell_of_cells (keep_of hu hgT) hz
      have hfz : wT.frozen? ⟨gq, b / 256 * 32 + b % 256 / 8, none⟩ = false := frozen_of_row wT _ _ _ _ (keep_of hu hgT)
      generalize z ^^^ UInt8.ofNat (2 ^ (b % 8)) = z'
      go_upto_region 22 with fail
      have hwN : (wT.setCell ⟨gq, b / 256 * 32 + b % 256 / 8, none⟩ (.int .u8 (z'.toNat : Int))).heap[gq]? = some (.cells (cu.setIfInBounds (b / 256 * 32 + b % 256 / 8) (bv z')) 23 (0, 0)) := heap_setCell_to (keep_of hu hgT) rfl
      have hgD : wc.grownBy (wT.setCell ⟨gq, b / 256 * 32 + b % 256 / 8, none⟩ (.int .u8 (z'.toNat : Int))) none := grown_set (grown_same hg9 hgT) (.inr hnew) _
      obtain ⟨Q, hQ⟩ : ∃ Q, Q = P.set (b / 256 * 32 + b % 256 / 8) z' := ⟨_, rfl⟩
      have hQl : Q.length = d * 32 := by rw [hQ, List.length_set]; exact hPl
      have hrq : RdB (wT.setCell ⟨gq, b / 256 * 32 + b % 256 / 8, none⟩ (.int .u8 (z'.toNat : Int))) (some ⟨gq, 0, none⟩) Q := by rw [hQ]; exact rd_of_row hwN hz3 hM (by rw [Array.size_setIfInBounds]; exact hsz) (set_take ht _ z') (by rw [List.length_set]; exact hPl)
      generalize (wT.setCell ⟨gq, b / 256 * 32 + b % 256 / 8, none⟩ (.int .u8 (z'.toNat : Int))) = D at hgD hrq ⊢
      clear hwN hcz2 hfz hQ hz hu hz3 hM hsz ht hg9 hgT hnew
      obtain ⟨U, hUl0, hupQ, hruQ⟩ := eNd Q hQl
      have hUl := Lib.hid hUl0
      clear hUl0 eNd
      replace hrp := hrp.kept hgD
      replace hri := hri.kept hgD
      replace hk := hk.kept hgD
      replace hGW := grown_same hGW hgD
      replace hci := hcz _ hGW
      clear hgD
      go_upto_region 23 with (first
          | (go_at_call 17; refine (hupQ _ _ _ _ _ hri hrq (.inr ⟨gq, rfl⟩) hcq hk).mono ?_; clear hupQ; rintro e w7 ⟨rfl, hg7⟩)
          | (refine wpList_store_row rfl 23 _ _ rfl (w7.heap.size) (U.map bv).toArray rfl rfl 23 _ (alloc_at rfl) (hashV_size U hUl.out) (by rw [show (U.map bv).toArray.size = 32 from by rw [List.size_toArray, List.length_map, hUl.out]]; rfl) (bv_all' _) ?_; generalize hw9 : World.setRow _ _ _ = V7; have HV7 := new_hash hw9; clear hw9))
      have hgx := grown_same hg7 HV7.2
      have h29 := HV7.1
      replace hrp := hrp.kept hgx
      replace hri := hri.kept hgx
      replace hrq := hrq.kept hgx
      replace hk := hk.kept hgx
      replace hGW := grown_same hGW hgx
      replace hci := hcz _ hGW
      clear HV7 hg7 hgx
      generalize w7.heap.size = b29 at h29 ⊢
      go_upto_region 24 with (first
          | (go_at_call 23; refine (hruQ _ _ _ _ _ hri hrq (.inr ⟨gq, rfl⟩) hcq).mono ?_; clear hruQ; rintro e w7 ⟨Z3, hz0, hzu, rfl, hg7⟩; obtain rfl : U = Z3 := hzu.symm; clear hz0)
          | (refine wpList_store_row rfl 23 _ _ rfl (w7.heap.size) (U.map bv).toArray rfl rfl 23 _ (alloc_at rfl) (hashV_size U hUl.out) (by rw [show (U.map bv).toArray.size = 32 from by rw [List.size_toArray, List.length_map, hUl.out]]; rfl) (bv_all' _) ?_; generalize hw9 : World.setRow _ _ _ = V8; have HV8 := new_hash hw9; clear hw9))
      have hgx := grown_same hg7 HV8.2
      have h30 := HV8.1
      replace h29 := keep_of h29 hgx
      replace hrp := hrp.kept hgx
      replace hri := hri.kept hgx
      replace hrq := hrq.kept hgx
      replace hk := hk.kept hgx
      replace hGW := grown_same hGW hgx
      replace hci := hcz _ hGW
      clear HV8 hg7 hgx
      generalize w7.heap.size = b30 at h30 ⊢
      obtain ⟨A1, hsl1⟩ := sl_loH (some ⟨gp, 0, none⟩) d cp 1 (by omega)
      obtain ⟨n1, hn1'⟩ : ∃ n1, n1 = d - 1 := ⟨_, rfl⟩
      obtain ⟨c1, hc1'⟩ : ∃ c1, c1 = cp - 1 := ⟨_, rfl⟩
      rw [← hn1', ← hc1'] at hsl1
      have hn1 : ¬ (n1 : Int) = (d : Int) := by omega
      clear hn1' hc1'
      refine wp_region_gc (al := uhAl) 15 (N := 245) (S := uhS) (die := uhDie) (own := uhOwn) (F := uhF ad N c i gp d cp pc n1 c1 pA A1 pl) (by kernel_rfl) (Nat.le_of_ble_eq_true (by kernel_rfl)) (fun _ => by kernel_rfl) (fun _ => by kernel_rfl) (by kernel_rfl) (by kernel_rfl) (Nat.le_of_ble_eq_true (by kernel_rfl)) (uhF_lasts ad N c i gp d cp pc n1 c1 pA A1 pl) ?_ ?_
      · intro i o L' a w K hi ho hg hLi hout hpre houter hitem hap' h1 h2 h3 h4
        have hcases : i = 0 ∨ i = 1 ∨ i = 2 ∨ i = 3 ∨ i = 4 ∨ i = 5 ∨ i = 6 ∨ i = 7 ∨ i = 8 ∨ i = 9 ∨ i = 10 ∨ i = 11 ∨ i = 12 ∨ i = 13 ∨ i = 14 := by omega
        rcases hcases with rfl | rfl | rfl | rfl | rfl | rfl | rfl | rfl | rfl | rfl | rfl | rfl | rfl | rfl | rfl
        · cases (show some _ = some o from ho)
          refine .inl ?_
          exact ⟨rfl, wp_move rfl (h1 ⟨_, rfl⟩ _ _ (grown_refl _ none) (houter _ rfl) (by rw [houter _ rfl]; exact nobl rfl) (by rw [houter _ rfl]; exact FreshB.none rfl))⟩
        · cases (show some _ = some o from ho)
          refine .inl ?_
          exact ⟨rfl, wp_move rfl (h1 ⟨_, rfl⟩ _ _ (grown_refl _ none) (houter _ rfl) (by rw [houter _ rfl]; exact nobl rfl) (by rw [houter _ rfl]; exact FreshB.none rfl))⟩
        · cases (show some _ = some o from ho)
          refine .inl ?_
          exact ⟨rfl, wp_index rfl (hitem 0 (by decide) ⟨hpre 0 rfl, hout _ (by decide)⟩) (hitem 1 (by decide) ⟨hpre 1 rfl, hout _ (by decide)⟩) (idx_listU ad _ _ i hin _) (h1 ⟨_, rfl⟩ _ _ (grown_refl _ none) rfl (nobl rfl) (FreshB.none rfl))⟩
        · cases (show some _ = some o from ho)
          refine .inl ?_
          exact ⟨rfl, wp_loadC rfl (hitem 2 (by decide) ⟨hpre 2 rfl, hout _ (by decide)⟩) (load_cell (hcz w (grown_same hGW hg)) Tryd.underlying24 rfl) (h1 ⟨_, rfl⟩ _ _ (grown_refl _ none) rfl (nobl rfl) (FreshB.none rfl))⟩
        · cases (show some _ = some o from ho)
          refine .inl ?_
          exact ⟨rfl, wp_move rfl (h1 ⟨_, rfl⟩ _ _ (grown_refl _ none) (houter _ rfl) (by rw [houter _ rfl]; exact nobl rfl) (by rw [houter _ rfl]; exact FreshB.none rfl))⟩
        · cases (show some _ = some o from ho)
          refine .inl ?_
          exact ⟨rfl, wp_move rfl (h1 ⟨_, rfl⟩ _ _ (grown_refl _ none) (houter _ rfl) (by rw [houter _ rfl]; exact nobl rfl) (by rw [houter _ rfl]; exact FreshB.none rfl))⟩
        · cases (show some _ = some o from ho)
          refine .inl ?_
          exact ⟨rfl, wp_len rfl (by kernel_rfl) (hitem 5 (by decide) ⟨hpre 5 rfl, hout _ (by decide)⟩) (h1 ⟨_, rfl⟩ _ _ (grown_refl _ none) rfl (nobl rfl) (FreshB.none rfl))⟩
        · cases (show some _ = some o from ho)
          refine .inl ?_
          exact ⟨rfl, wp_move rfl (h1 ⟨_, rfl⟩ _ _ (grown_refl _ none) (houter _ rfl) (by rw [houter _ rfl]; exact nobl rfl) (by rw [houter _ rfl]; exact FreshB.none rfl))⟩
        · cases (show some _ = some o from ho)
          refine .inl ?_
          exact ⟨rfl, wp_slice_lo rfl (hitem 7 (by decide) ⟨hpre 7 rfl, hout _ (by decide)⟩) rfl (hsl1 _) (h1 ⟨_, rfl⟩ _ _ (grown_refl _ none) rfl (nobl rfl) (FreshB.none rfl))⟩
        · cases (show some _ = some o from ho)
          refine .inl ?_
          have x223 : a.eval (.tmp 223) = .slice pA pl.length pc := hitem 3 (by decide) ⟨hpre 3 rfl, hout _ (by decide)⟩
          have x224 : a.eval (.tmp 224) = .int .i64 (i : Int) := hitem 4 (by decide) ⟨hpre 4 rfl, hout _ (by decide)⟩
          have x226 : a.eval (.tmp 226) = .int .i64 ((N : Nat) : Int) := hitem 6 (by decide) ⟨hpre 6 rfl, hout _ (by decide)⟩
          have x228 : a.eval (.tmp 228) = .slice A1 n1 c1 := hitem 8 (by decide) ⟨hpre 8 rfl, hout _ (by decide)⟩
          refine ⟨rfl, wp_call rfl Tryd.func17 (by kernel_rfl) (by kernel_rfl) (args := #[.slice pA pl.length pc, .int .i64 (i : Int), .int .i64 ((N : Nat) : Int), .slice A1 n1 c1]) (by simp [x223, x224, x226, x228]) ((hshort _ _ _ _ _ w hn1).mono ?_)⟩
          rintro e w' ⟨rfl, hg'⟩
          exact ⟨_, rfl, h1 ⟨_, rfl⟩ _ _ hg' rfl (nobl rfl) (FreshB.none rfl)⟩
        · cases (show some _ = some o from ho)
          refine .inl ?_
          have hx := hitem 9 (by decide) ⟨hpre 9 rfl, hout _ (by decide)⟩
          exact ⟨rfl, wp_move rfl (h1 ⟨_, rfl⟩ _ _ (grown_refl _ none) hx (by rw [show a.eval (.tmp 229) = .tuple #[.agg (zeroH.map bv).toArray, .bool false] from hx]; exact nobl rfl) (by rw [show a.eval (.tmp 229) = .tuple #[.agg (zeroH.map bv).toArray, .bool false] from hx]; exact FreshB.none rfl))⟩
        · cases (show some _ = some o from ho)
          refine .inl ?_
          exact ⟨rfl, wp_extract rfl (hitem 10 (by decide) ⟨hpre 10 rfl, hout _ (by decide)⟩) rfl (h1 ⟨_, rfl⟩ _ _ (grown_refl _ none) rfl (nobl (blocks_bytes _)) (FreshB.none (blocks_bytes _)))⟩
        · cases (show some _ = some o from ho)
          refine .inl ?_
          exact ⟨rfl, wp_extract rfl (hitem 10 (by decide) ⟨hpre 10 rfl, hout _ (by decide)⟩) rfl (h1 ⟨_, rfl⟩ _ _ (grown_refl _ none) rfl (nobl rfl) (FreshB.none rfl))⟩
        · cases (show some _ = some o from ho)
          refine .inl ?_
          exact ⟨rfl, wp_alloc rfl (alloc_H _) (h1 ⟨_, rfl⟩ _ _ (grown_alloc (grown_refl _ _) _) ⟨_, rfl, heap_alloc_new _ _⟩ (new_lt _ _) (FreshB.new (new_ge _)))⟩
        · cases (show some _ = some o from ho)
          refine .inl ?_
          obtain ⟨b, e1, hb⟩ := hitem 13 (by decide) ⟨hpre 13 rfl, hLi⟩
          have x2 : a.eval (.tmp 230) = .agg (zeroH.map bv).toArray := hitem 11 (by decide) ⟨hpre 11 rfl, hout _ (by decide)⟩
          exact ⟨rfl, wp_store_row 23 _ _ rfl b (zeroH.map bv).toArray e1 x2 23 _ hb (hashV_size _ zeroH_len) (by rw [rowH_size _ (by simp), List.size_toArray, List.length_map, zeroH_len]) (bv_all' _) (h3 rfl 13 _ _ (some b) (by decide) ⟨hpre 13 rfl, hLi⟩ rfl rfl (grown_setRow (grown_refl _ _) (.inl rfl) _) (fun g e => by cases e; rw [show valB _ a 13 = _ from e1]; exact List.mem_singleton.2 rfl) ⟨b, _, (by rw [show valB _ a 14 = .tuple #[a.eval (.tmp 32), a.eval (.tmp 230)] from rfl, show a.eval (.tmp 32) = _ from e1, x2]), setRow_heap _ _ _ _ _ _ hb⟩ (fun g h => by rw [show valB _ a 14 = .tuple #[a.eval (.tmp 32), a.eval (.tmp 230)] from rfl, show a.eval (.tmp 32) = _ from e1] at h; rw [show valB _ a 13 = _ from e1]; exact h))⟩
      · intro a wT hgT hend hap ha
        obtain ⟨f, hf⟩ : ∃ f : Nat → Value, f = fun t => a.tmps.getD t undef := ⟨_, rfl⟩
        have s230 : f 230 = (.agg (zeroH.map bv).toArray) := by rw [hf]; exact (hend 11 (by decide) (by decide)).1
        have s231 : f 231 = .bool false := by rw [hf]; exact (hend 12 (by decide) (by decide)).1
        obtain ⟨⟨b32, C32, q32, hh32⟩, fr32⟩ := hend 14 (by decide) (by decide)
        have f32 : V8.heap.size ≤ b32 := fr32 rfl b32 (by rw [q32]; exact List.mem_singleton.2 rfl)
        have p32 := tuple_two (show Value.tuple #[_, _] = _ from q32)
        have s32 := (congrFun hf 32).trans p32.1
        have v32 : f 230 = .agg C32 := (congrFun hf 230).trans p32.2
        obtain rfl := Value.agg.inj (v32.symm.trans s230)
        clear v32
        rw [← hf] at ha
        clear hend hap
        clear hf
        clear q32 p32 fr32
        subst ha
        simp only [fill, uhS, Nat.reduceAdd, Nat.reduceBEq, Bool.or_false, Bool.or_true, cond_true, cond_false, List.drop_succ_cons, List.drop_zero, s230, s231, s32]
        clear s230 s231 s32 hh32 f32
        go_upto_region 25 with fail
        have hgB := hgT
        replace h29 := keep_of h29 hgB
        replace h30 := keep_of h30 hgB
        replace hk := hk.kept hgB
        replace hGW := grown_same hGW hgB
        have heU := fun w => eqlH_same U hUl.out w
        have htr := TreeRuns_any _ hk
        go_wp2_with (first
            | (refine wpList_load_row_g (by rfl) 23 _ rfl b29 rfl _ (U.map bv).toArray (0, 0) _ h29 Tryd.underlying23 rfl (hashV_size U hUl.out) ?_)
            | (refine wpList_load_row_g (by rfl) 23 _ rfl b30 rfl _ (U.map bv).toArray (0, 0) _ h30 Tryd.underlying23 rfl (hashV_size U hUl.out) ?_)
            | (go_at_call 4; refine htr.mono ?_; rintro e w10 ⟨rfl, hg10⟩))
        go_ret
        exact ⟨rfl, grown_same hgW (grown_same hGW hg10)⟩
end Go.Proofs.YtmfnncfiaaeknaaDoor
