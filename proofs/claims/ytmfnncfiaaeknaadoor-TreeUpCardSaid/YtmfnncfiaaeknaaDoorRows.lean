/-
  NARROWER THAN 'FOR EVERY INPUT', by the rows' own cells (each row's printed sentence says how): LamTurned: laid · TreeRuns: laid · TreeTells: laid · TreeUp: laid · TreeParts: laid · TreeDepths: laid.
  DERIVED. THE GIVEN ROWS OF THIS SEAT. 6 by the template 'for every input the law returns true; each argument reads behind the call as it read before'; 0 by the template 'total and deterministic' (their statements: YtmfnncfiaaeknaaDoorTotals.lean).
  GIVEN WITH THE SEED: the statements are not yours to turn. If you find one false, say at which input.
  Laid BY PROGRAM, IN A SANDBOX (cutbox-rows.mjs): the forced cells as the released guide's own fill.sh prints them over the translation 408da60e76e94644… (all of the seat's roots in one cut). By AI agents, Wed Nov 11 2026. No macro, syntax, notation, axiom, sorry.
-/
import Derived.Test.YtmfnncfiaaeknaaDoorChecked
import GoSem.Claim
import GoSem.ClaimJoined
import GoSem.ClaimMapViews
import Derived.JoinedTies
import Derived.KernelRfl
namespace Go.Proofs.YtmfnncfiaaeknaaDoor
/- THE CELL 'sum', in the pinned program and in every row, IS THE sha256 OF THE DUMP (.gsa) THAT YtmfnncfiaaeknaaDoorProg.lean LOADS. Nothing in Lean hashes anything: it is a label: what it is worth is what the hold of that sum in a sandbox is worth. -/
noncomputable def Tryd.pinned : Pinned := { name := "ytmfnncfiaaeknaadoor", sum := "408da60e76e9464449cb4643aa5da1d344dfb24b0a7405226df326b788792d49", checked := Tryd.checked }
namespace Rows
def none {H : Type} : Left H := { results := [], args := [] }

/- WHAT THE LISTED PACKAGE-LEVEL VARIABLES READ AS WHEN THE CALL BEGINS. Each datum BY PROGRAM (the guide's laid-datum.mjs) off the statement by which the dump's own 'gosem.cut.vars' lays the variable. In a bare row this is a premise. The card (YtmfnncfiaaeknaaDoorCards.lean) ties it to the program's text. -/
def laid_affiant_sha_start {H : Type} : DataW H := .agg [.lit (.int .u32 1779033703), .lit (.int .u32 3144134277), .lit (.int .u32 1013904242), .lit (.int .u32 2773480762), .lit (.int .u32 1359893119), .lit (.int .u32 2600822924), .lit (.int .u32 528734635), .lit (.int .u32 1541459225)]
def laid_affiant_sha_keys {H : Type} : DataW H := .agg [.lit (.int .u32 1116352408), .lit (.int .u32 1899447441), .lit (.int .u32 3049323471), .lit (.int .u32 3921009573), .lit (.int .u32 961987163), .lit (.int .u32 1508970993), .lit (.int .u32 2453635748), .lit (.int .u32 2870763221), .lit (.int .u32 3624381080), .lit (.int .u32 310598401), .lit (.int .u32 607225278), .lit (.int .u32 1426881987), .lit (.int .u32 1925078388), .lit (.int .u32 2162078206), .lit (.int .u32 2614888103), .lit (.int .u32 3248222580), .lit (.int .u32 3835390401), .lit (.int .u32 4022224774), .lit (.int .u32 264347078), .lit (.int .u32 604807628), .lit (.int .u32 770255983), .lit (.int .u32 1249150122), .lit (.int .u32 1555081692), .lit (.int .u32 1996064986), .lit (.int .u32 2554220882), .lit (.int .u32 2821834349), .lit (.int .u32 2952996808), .lit (.int .u32 3210313671), .lit (.int .u32 3336571891), .lit (.int .u32 3584528711), .lit (.int .u32 113926993), .lit (.int .u32 338241895), .lit (.int .u32 666307205), .lit (.int .u32 773529912), .lit (.int .u32 1294757372), .lit (.int .u32 1396182291), .lit (.int .u32 1695183700), .lit (.int .u32 1986661051), .lit (.int .u32 2177026350), .lit (.int .u32 2456956037), .lit (.int .u32 2730485921), .lit (.int .u32 2820302411), .lit (.int .u32 3259730800), .lit (.int .u32 3345764771), .lit (.int .u32 3516065817), .lit (.int .u32 3600352804), .lit (.int .u32 4094571909), .lit (.int .u32 275423344), .lit (.int .u32 430227734), .lit (.int .u32 506948616), .lit (.int .u32 659060556), .lit (.int .u32 883997877), .lit (.int .u32 958139571), .lit (.int .u32 1322822218), .lit (.int .u32 1537002063), .lit (.int .u32 1747873779), .lit (.int .u32 1955562222), .lit (.int .u32 2024104815), .lit (.int .u32 2227730452), .lit (.int .u32 2361852424), .lit (.int .u32 2428436474), .lit (.int .u32 2756734187), .lit (.int .u32 3204031479), .lit (.int .u32 3329325298)]

/-- 'affiantlaw3.LamTurned': WHATEVER THE INPUT: true; the input reads as it did. -/
def lamTurnedSpec : ChangeSpec := { name := "lamTurned", fn := fun _ => fun
  | [d1, d2, d3, d4, d5, d6, d7] => { results := [.lit (.bool true)], args := [d1, d2, d3, d4, d5, d6, d7] }
  | _ => none }
def lamTurnedRow : OpenClaim := { program := "ytmfnncfiaaeknaadoor", sum := "408da60e76e9464449cb4643aa5da1d344dfb24b0a7405226df326b788792d49", func := "affiant/affiantlaw3.LamTurned", spec := "lamTurned", named := ["affiant/sha.start", "affiant/sha.keys"], apart := false, laid := [("affiant/sha.start", laid_affiant_sha_start), ("affiant/sha.keys", laid_affiant_sha_keys)] }
def LamTurnedSaid : Prop := lamTurnedRow.holds Tryd.pinned (OpenSpec.ofChange lamTurnedSpec)

/-- ITS FALSE NEIGHBOUR: 'it returns false'. Refute it at one input. -/
def lamTurnedWrong : ChangeSpec := { name := "lamTurned", fn := fun _ => fun
  | [d1, d2, d3, d4, d5, d6, d7] => { results := [.lit (.bool false)], args := [d1, d2, d3, d4, d5, d6, d7] }
  | _ => none }
def LamTurnedWrongFalsely : Prop := lamTurnedRow.holds Tryd.pinned (OpenSpec.ofChange lamTurnedWrong)

/-- 'affiantlaw4.TreeRuns': WHATEVER THE INPUT: true; the input reads as it did. -/
def treeRunsSpec : ChangeSpec := { name := "treeRuns", fn := fun _ => fun
  | [] => { results := [.lit (.bool true)], args := [] }
  | _ => none }
def treeRunsRow : OpenClaim := { program := "ytmfnncfiaaeknaadoor", sum := "408da60e76e9464449cb4643aa5da1d344dfb24b0a7405226df326b788792d49", func := "affiant/affiantlaw4.TreeRuns", spec := "treeRuns", recurses := true, named := ["affiant/sha.start", "affiant/sha.keys"], apart := false, laid := [("affiant/sha.start", laid_affiant_sha_start), ("affiant/sha.keys", laid_affiant_sha_keys)] }
def TreeRunsSaid : Prop := treeRunsRow.holds Tryd.pinned (OpenSpec.ofChange treeRunsSpec)

/-- ITS FALSE NEIGHBOUR: 'it returns false'. Refute it at one input. -/
def treeRunsWrong : ChangeSpec := { name := "treeRuns", fn := fun _ => fun
  | [] => { results := [.lit (.bool false)], args := [] }
  | _ => none }
def TreeRunsWrongFalsely : Prop := treeRunsRow.holds Tryd.pinned (OpenSpec.ofChange treeRunsWrong)

/-- 'affiantlaw4.TreeTells': WHATEVER THE INPUT: true; the input reads as it did. -/
def treeTellsSpec : ChangeSpec := { name := "treeTells", fn := fun _ => fun
  | [d1, d2, d3, d4, d5] => { results := [.lit (.bool true)], args := [d1, d2, d3, d4, d5] }
  | _ => none }
def treeTellsRow : OpenClaim := { program := "ytmfnncfiaaeknaadoor", sum := "408da60e76e9464449cb4643aa5da1d344dfb24b0a7405226df326b788792d49", func := "affiant/affiantlaw4.TreeTells", spec := "treeTells", recurses := true, named := ["affiant/sha.start", "affiant/sha.keys"], apart := false, laid := [("affiant/sha.start", laid_affiant_sha_start), ("affiant/sha.keys", laid_affiant_sha_keys)] }
def TreeTellsSaid : Prop := treeTellsRow.holds Tryd.pinned (OpenSpec.ofChange treeTellsSpec)

/-- ITS FALSE NEIGHBOUR: 'it returns false'. Refute it at one input. -/
def treeTellsWrong : ChangeSpec := { name := "treeTells", fn := fun _ => fun
  | [d1, d2, d3, d4, d5] => { results := [.lit (.bool false)], args := [d1, d2, d3, d4, d5] }
  | _ => none }
def TreeTellsWrongFalsely : Prop := treeTellsRow.holds Tryd.pinned (OpenSpec.ofChange treeTellsWrong)

/-- 'affiantlaw4.TreeUp': WHATEVER THE INPUT: true; the input reads as it did. -/
def treeUpSpec : ChangeSpec := { name := "treeUp", fn := fun _ => fun
  | [d1, d2, d3, d4, d5] => { results := [.lit (.bool true)], args := [d1, d2, d3, d4, d5] }
  | _ => none }
def treeUpRow : OpenClaim := { program := "ytmfnncfiaaeknaadoor", sum := "408da60e76e9464449cb4643aa5da1d344dfb24b0a7405226df326b788792d49", func := "affiant/affiantlaw4.TreeUp", spec := "treeUp", recurses := true, named := ["affiant/sha.start", "affiant/sha.keys"], apart := false, laid := [("affiant/sha.start", laid_affiant_sha_start), ("affiant/sha.keys", laid_affiant_sha_keys)] }
def TreeUpSaid : Prop := treeUpRow.holds Tryd.pinned (OpenSpec.ofChange treeUpSpec)

/-- ITS FALSE NEIGHBOUR: 'it returns false'. Refute it at one input. -/
def treeUpWrong : ChangeSpec := { name := "treeUp", fn := fun _ => fun
  | [d1, d2, d3, d4, d5] => { results := [.lit (.bool false)], args := [d1, d2, d3, d4, d5] }
  | _ => none }
def TreeUpWrongFalsely : Prop := treeUpRow.holds Tryd.pinned (OpenSpec.ofChange treeUpWrong)

/-- 'affiantlaw4.TreeParts': WHATEVER THE INPUT: true; the input reads as it did. -/
def treePartsSpec : ChangeSpec := { name := "treeParts", fn := fun _ => fun
  | [d1, d2, d3] => { results := [.lit (.bool true)], args := [d1, d2, d3] }
  | _ => none }
def treePartsRow : OpenClaim := { program := "ytmfnncfiaaeknaadoor", sum := "408da60e76e9464449cb4643aa5da1d344dfb24b0a7405226df326b788792d49", func := "affiant/affiantlaw4.TreeParts", spec := "treeParts", recurses := true, named := ["affiant/sha.start", "affiant/sha.keys"], apart := false, laid := [("affiant/sha.start", laid_affiant_sha_start), ("affiant/sha.keys", laid_affiant_sha_keys)] }
def TreePartsSaid : Prop := treePartsRow.holds Tryd.pinned (OpenSpec.ofChange treePartsSpec)

/-- ITS FALSE NEIGHBOUR: 'it returns false'. Refute it at one input. -/
def treePartsWrong : ChangeSpec := { name := "treeParts", fn := fun _ => fun
  | [d1, d2, d3] => { results := [.lit (.bool false)], args := [d1, d2, d3] }
  | _ => none }
def TreePartsWrongFalsely : Prop := treePartsRow.holds Tryd.pinned (OpenSpec.ofChange treePartsWrong)

/-- 'affiantlaw4.TreeDepths': WHATEVER THE INPUT: true; the input reads as it did. -/
def treeDepthsSpec : ChangeSpec := { name := "treeDepths", fn := fun _ => fun
  | [d1, d2] => { results := [.lit (.bool true)], args := [d1, d2] }
  | _ => none }
def treeDepthsRow : OpenClaim := { program := "ytmfnncfiaaeknaadoor", sum := "408da60e76e9464449cb4643aa5da1d344dfb24b0a7405226df326b788792d49", func := "affiant/affiantlaw4.TreeDepths", spec := "treeDepths", recurses := true, named := ["affiant/sha.start", "affiant/sha.keys"], apart := false, laid := [("affiant/sha.start", laid_affiant_sha_start), ("affiant/sha.keys", laid_affiant_sha_keys)] }
def TreeDepthsSaid : Prop := treeDepthsRow.holds Tryd.pinned (OpenSpec.ofChange treeDepthsSpec)

/-- ITS FALSE NEIGHBOUR: 'it returns false'. Refute it at one input. -/
def treeDepthsWrong : ChangeSpec := { name := "treeDepths", fn := fun _ => fun
  | [d1, d2] => { results := [.lit (.bool false)], args := [d1, d2] }
  | _ => none }
def TreeDepthsWrongFalsely : Prop := treeDepthsRow.holds Tryd.pinned (OpenSpec.ofChange treeDepthsWrong)

/- THE SECOND FORM. 'bulk': how many values and letters a reading holds, each counted each time it is reached (what is shared counts as often as it is met; a slice's spare places count too). A statement '..UptoSaid' is the law's where the arguments, and the package variables that the reading takes, are together of bulk at most 1048576: NARROWER than '..Said'. Prove '..Said' where nothing that the law and all that it calls make is longer than what came in: it says more and counts as full. Else prove '..UptoSaid'. A law counts once. -/
mutual
def uptoBulk {H : Type} : DataW H → Nat
  | .lit (.string bytes) => bytes.length + 1
  | .lit _ => 1
  | .nil => 1
  | .ptr d => uptoBulk d + 1
  | .slice elems spare => uptoBulkAll elems + uptoBulkAll spare + 1
  | .agg parts => uptoBulkAll parts + 1
  | .iface _ d => uptoBulk d + 1
  | .map entries => uptoBulkEntries entries + 1
  | .held _ => 1
def uptoBulkAll {H : Type} : List (DataW H) → Nat
  | [] => 0
  | d :: r => uptoBulk d + uptoBulkAll r
def uptoBulkEntries {H : Type} : List (Lit × DataW H) → Nat
  | [] => 0
  | x :: r => uptoBulkEntry x + uptoBulkEntries r
def uptoBulkEntry {H : Type} : Lit × DataW H → Nat
  | (.string bytes, d) => bytes.length + uptoBulk d + 1
  | (_, d) => uptoBulk d + 1
 end
def uptoSmall : (H : Type) → List (DataW H) → Bool := fun _ ds => decide (uptoBulkAll ds ≤ 1048576)
def OpenSpec.upto (s : _root_.Go.ChangeSpec) : _root_.Go.OpenSpec := { _root_.Go.OpenSpec.ofChange s with cond := some uptoSmall }

/-- 'affiantlaw3.LamTurned', WHERE WHAT IT READS IS OF BULK AT MOST 1048576: true; the input reads as it did. -/
def lamTurnedUptoRow : OpenClaim := { program := "ytmfnncfiaaeknaadoor", sum := "408da60e76e9464449cb4643aa5da1d344dfb24b0a7405226df326b788792d49", func := "affiant/affiantlaw3.LamTurned", spec := "lamTurned", named := ["affiant/sha.start", "affiant/sha.keys"], apart := false, laid := [("affiant/sha.start", laid_affiant_sha_start), ("affiant/sha.keys", laid_affiant_sha_keys)], narrowed := true }
def LamTurnedUptoSaid : Prop := lamTurnedUptoRow.holds Tryd.pinned (OpenSpec.upto lamTurnedSpec)

/-- 'affiantlaw4.TreeRuns', WHERE WHAT IT READS IS OF BULK AT MOST 1048576: true; the input reads as it did. -/
def treeRunsUptoRow : OpenClaim := { program := "ytmfnncfiaaeknaadoor", sum := "408da60e76e9464449cb4643aa5da1d344dfb24b0a7405226df326b788792d49", func := "affiant/affiantlaw4.TreeRuns", spec := "treeRuns", recurses := true, named := ["affiant/sha.start", "affiant/sha.keys"], apart := false, laid := [("affiant/sha.start", laid_affiant_sha_start), ("affiant/sha.keys", laid_affiant_sha_keys)], narrowed := true }
def TreeRunsUptoSaid : Prop := treeRunsUptoRow.holds Tryd.pinned (OpenSpec.upto treeRunsSpec)

/-- 'affiantlaw4.TreeTells', WHERE WHAT IT READS IS OF BULK AT MOST 1048576: true; the input reads as it did. -/
def treeTellsUptoRow : OpenClaim := { program := "ytmfnncfiaaeknaadoor", sum := "408da60e76e9464449cb4643aa5da1d344dfb24b0a7405226df326b788792d49", func := "affiant/affiantlaw4.TreeTells", spec := "treeTells", recurses := true, named := ["affiant/sha.start", "affiant/sha.keys"], apart := false, laid := [("affiant/sha.start", laid_affiant_sha_start), ("affiant/sha.keys", laid_affiant_sha_keys)], narrowed := true }
def TreeTellsUptoSaid : Prop := treeTellsUptoRow.holds Tryd.pinned (OpenSpec.upto treeTellsSpec)

/-- 'affiantlaw4.TreeUp', WHERE WHAT IT READS IS OF BULK AT MOST 1048576: true; the input reads as it did. -/
def treeUpUptoRow : OpenClaim := { program := "ytmfnncfiaaeknaadoor", sum := "408da60e76e9464449cb4643aa5da1d344dfb24b0a7405226df326b788792d49", func := "affiant/affiantlaw4.TreeUp", spec := "treeUp", recurses := true, named := ["affiant/sha.start", "affiant/sha.keys"], apart := false, laid := [("affiant/sha.start", laid_affiant_sha_start), ("affiant/sha.keys", laid_affiant_sha_keys)], narrowed := true }
def TreeUpUptoSaid : Prop := treeUpUptoRow.holds Tryd.pinned (OpenSpec.upto treeUpSpec)

/-- 'affiantlaw4.TreeParts', WHERE WHAT IT READS IS OF BULK AT MOST 1048576: true; the input reads as it did. -/
def treePartsUptoRow : OpenClaim := { program := "ytmfnncfiaaeknaadoor", sum := "408da60e76e9464449cb4643aa5da1d344dfb24b0a7405226df326b788792d49", func := "affiant/affiantlaw4.TreeParts", spec := "treeParts", recurses := true, named := ["affiant/sha.start", "affiant/sha.keys"], apart := false, laid := [("affiant/sha.start", laid_affiant_sha_start), ("affiant/sha.keys", laid_affiant_sha_keys)], narrowed := true }
def TreePartsUptoSaid : Prop := treePartsUptoRow.holds Tryd.pinned (OpenSpec.upto treePartsSpec)

/-- 'affiantlaw4.TreeDepths', WHERE WHAT IT READS IS OF BULK AT MOST 1048576: true; the input reads as it did. -/
def treeDepthsUptoRow : OpenClaim := { program := "ytmfnncfiaaeknaadoor", sum := "408da60e76e9464449cb4643aa5da1d344dfb24b0a7405226df326b788792d49", func := "affiant/affiantlaw4.TreeDepths", spec := "treeDepths", recurses := true, named := ["affiant/sha.start", "affiant/sha.keys"], apart := false, laid := [("affiant/sha.start", laid_affiant_sha_start), ("affiant/sha.keys", laid_affiant_sha_keys)], narrowed := true }
def TreeDepthsUptoSaid : Prop := treeDepthsUptoRow.holds Tryd.pinned (OpenSpec.upto treeDepthsSpec)

end Rows
end Go.Proofs.YtmfnncfiaaeknaaDoor
