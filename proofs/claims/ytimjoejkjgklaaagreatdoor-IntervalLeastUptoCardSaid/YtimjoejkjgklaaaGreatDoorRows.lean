/-
  NARROWER THAN 'FOR EVERY INPUT', by the rows' own cells (each row's printed sentence says how): IntervalCanons: laid · IntervalLimits: laid · IntervalMeets: laid · IntervalMiddles: laid · IntervalLattice: laid · IntervalGuess: laid · IntervalLeast: laid.
  DERIVED. THE GIVEN ROWS OF THIS SEAT. 7 by the template 'for every input the law returns true; each argument reads behind the call as it read before'; 0 by the template 'total and deterministic' (their statements: YtimjoejkjgklaaaGreatDoorTotals.lean).
  GIVEN WITH THE SEED: the statements are not yours to turn. If you find one false, say at which input.
  Laid BY PROGRAM, IN A SANDBOX (cutbox-rows.mjs): the forced cells as the released guide's own fill.sh prints them over the translation 6323e967f07885f2… (all of the seat's roots in one cut). By AI agents, Wed Nov 11 2026. No macro, syntax, notation, axiom, sorry.
-/
import Derived.Test.YtimjoejkjgklaaaGreatDoorChecked
import GoSem.Claim
import GoSem.ClaimJoined
import GoSem.ClaimMapViews
import Derived.JoinedTies
import Derived.KernelRfl
namespace Go.Proofs.YtimjoejkjgklaaaGreatDoor
/- THE CELL 'sum', in the pinned program and in every row, IS THE sha256 OF THE DUMP (.gsa) THAT YtimjoejkjgklaaaGreatDoorProg.lean LOADS. Nothing in Lean hashes anything: it is a label: what it is worth is what the hold of that sum in a sandbox is worth. -/
noncomputable def Tryz.pinned : Pinned := { name := "ytimjoejkjgklaaagreatdoor", sum := "6323e967f07885f25e0c650b6908867763c003b38e0f61004113dccd49f4e996", checked := Tryz.checked }
namespace Rows
def none {H : Type} : Left H := { results := [], args := [] }

/- WHAT THE LISTED PACKAGE-LEVEL VARIABLES READ AS WHEN THE CALL BEGINS. Each datum BY PROGRAM (the guide's laid-datum.mjs) off the statement by which the dump's own 'gosem.cut.vars' lays the variable. In a bare row this is a premise. The card (YtimjoejkjgklaaaGreatDoorCards.lean) ties it to the program's text. -/
def laid_math_bits_deBruijn32tab {H : Type} : DataW H := .agg [.lit (.int .u8 0), .lit (.int .u8 1), .lit (.int .u8 28), .lit (.int .u8 2), .lit (.int .u8 29), .lit (.int .u8 14), .lit (.int .u8 24), .lit (.int .u8 3), .lit (.int .u8 30), .lit (.int .u8 22), .lit (.int .u8 20), .lit (.int .u8 15), .lit (.int .u8 25), .lit (.int .u8 17), .lit (.int .u8 4), .lit (.int .u8 8), .lit (.int .u8 31), .lit (.int .u8 27), .lit (.int .u8 13), .lit (.int .u8 23), .lit (.int .u8 21), .lit (.int .u8 19), .lit (.int .u8 16), .lit (.int .u8 7), .lit (.int .u8 26), .lit (.int .u8 12), .lit (.int .u8 18), .lit (.int .u8 6), .lit (.int .u8 11), .lit (.int .u8 5), .lit (.int .u8 10), .lit (.int .u8 9)]

/-- 'inequalitylaw03.IntervalCanons': WHATEVER THE INPUT: true; the input reads as it did. -/
def intervalCanonsSpec : ChangeSpec := { name := "intervalCanons", fn := fun _ => fun
  | [d] => { results := [.lit (.bool true)], args := [d] }
  | _ => none }
def intervalCanonsRow : OpenClaim := { program := "ytimjoejkjgklaaagreatdoor", sum := "6323e967f07885f25e0c650b6908867763c003b38e0f61004113dccd49f4e996", func := "inequality/inequalitylaw03.IntervalCanons", spec := "intervalCanons", unfollowed := true, recurses := true, named := ["math/bits.deBruijn32tab"], apart := false, laid := [("math/bits.deBruijn32tab", laid_math_bits_deBruijn32tab)] }
def IntervalCanonsSaid : Prop := intervalCanonsRow.holds Tryz.pinned (OpenSpec.ofChange intervalCanonsSpec)

/-- ITS FALSE NEIGHBOUR: 'it returns false'. Refute it at one input. -/
def intervalCanonsWrong : ChangeSpec := { name := "intervalCanons", fn := fun _ => fun
  | [d] => { results := [.lit (.bool false)], args := [d] }
  | _ => none }
def IntervalCanonsWrongFalsely : Prop := intervalCanonsRow.holds Tryz.pinned (OpenSpec.ofChange intervalCanonsWrong)

/-- 'inequalitylaw03.IntervalLimits': WHATEVER THE INPUT: true; the input reads as it did. -/
def intervalLimitsSpec : ChangeSpec := { name := "intervalLimits", fn := fun _ => fun
  | [d1, d2] => { results := [.lit (.bool true)], args := [d1, d2] }
  | _ => none }
def intervalLimitsRow : OpenClaim := { program := "ytimjoejkjgklaaagreatdoor", sum := "6323e967f07885f25e0c650b6908867763c003b38e0f61004113dccd49f4e996", func := "inequality/inequalitylaw03.IntervalLimits", spec := "intervalLimits", unfollowed := true, recurses := true, named := ["math/bits.deBruijn32tab"], apart := false, laid := [("math/bits.deBruijn32tab", laid_math_bits_deBruijn32tab)] }
def IntervalLimitsSaid : Prop := intervalLimitsRow.holds Tryz.pinned (OpenSpec.ofChange intervalLimitsSpec)

/-- ITS FALSE NEIGHBOUR: 'it returns false'. Refute it at one input. -/
def intervalLimitsWrong : ChangeSpec := { name := "intervalLimits", fn := fun _ => fun
  | [d1, d2] => { results := [.lit (.bool false)], args := [d1, d2] }
  | _ => none }
def IntervalLimitsWrongFalsely : Prop := intervalLimitsRow.holds Tryz.pinned (OpenSpec.ofChange intervalLimitsWrong)

/-- 'inequalitylaw03.IntervalMeets': WHATEVER THE INPUT: true; the input reads as it did. -/
def intervalMeetsSpec : ChangeSpec := { name := "intervalMeets", fn := fun _ => fun
  | [d1, d2] => { results := [.lit (.bool true)], args := [d1, d2] }
  | _ => none }
def intervalMeetsRow : OpenClaim := { program := "ytimjoejkjgklaaagreatdoor", sum := "6323e967f07885f25e0c650b6908867763c003b38e0f61004113dccd49f4e996", func := "inequality/inequalitylaw03.IntervalMeets", spec := "intervalMeets", unfollowed := true, recurses := true, named := ["math/bits.deBruijn32tab"], apart := false, laid := [("math/bits.deBruijn32tab", laid_math_bits_deBruijn32tab)] }
def IntervalMeetsSaid : Prop := intervalMeetsRow.holds Tryz.pinned (OpenSpec.ofChange intervalMeetsSpec)

/-- ITS FALSE NEIGHBOUR: 'it returns false'. Refute it at one input. -/
def intervalMeetsWrong : ChangeSpec := { name := "intervalMeets", fn := fun _ => fun
  | [d1, d2] => { results := [.lit (.bool false)], args := [d1, d2] }
  | _ => none }
def IntervalMeetsWrongFalsely : Prop := intervalMeetsRow.holds Tryz.pinned (OpenSpec.ofChange intervalMeetsWrong)

/-- 'inequalitylaw03.IntervalMiddles': WHATEVER THE INPUT: true; the input reads as it did. -/
def intervalMiddlesSpec : ChangeSpec := { name := "intervalMiddles", fn := fun _ => fun
  | [d] => { results := [.lit (.bool true)], args := [d] }
  | _ => none }
def intervalMiddlesRow : OpenClaim := { program := "ytimjoejkjgklaaagreatdoor", sum := "6323e967f07885f25e0c650b6908867763c003b38e0f61004113dccd49f4e996", func := "inequality/inequalitylaw03.IntervalMiddles", spec := "intervalMiddles", unfollowed := true, recurses := true, named := ["math/bits.deBruijn32tab"], apart := false, laid := [("math/bits.deBruijn32tab", laid_math_bits_deBruijn32tab)] }
def IntervalMiddlesSaid : Prop := intervalMiddlesRow.holds Tryz.pinned (OpenSpec.ofChange intervalMiddlesSpec)

/-- ITS FALSE NEIGHBOUR: 'it returns false'. Refute it at one input. -/
def intervalMiddlesWrong : ChangeSpec := { name := "intervalMiddles", fn := fun _ => fun
  | [d] => { results := [.lit (.bool false)], args := [d] }
  | _ => none }
def IntervalMiddlesWrongFalsely : Prop := intervalMiddlesRow.holds Tryz.pinned (OpenSpec.ofChange intervalMiddlesWrong)

/-- 'inequalitylaw03.IntervalLattice': WHATEVER THE INPUT: true; the input reads as it did. -/
def intervalLatticeSpec : ChangeSpec := { name := "intervalLattice", fn := fun _ => fun
  | [d1, d2, d3] => { results := [.lit (.bool true)], args := [d1, d2, d3] }
  | _ => none }
def intervalLatticeRow : OpenClaim := { program := "ytimjoejkjgklaaagreatdoor", sum := "6323e967f07885f25e0c650b6908867763c003b38e0f61004113dccd49f4e996", func := "inequality/inequalitylaw03.IntervalLattice", spec := "intervalLattice", unfollowed := true, recurses := true, named := ["math/bits.deBruijn32tab"], apart := false, laid := [("math/bits.deBruijn32tab", laid_math_bits_deBruijn32tab)] }
def IntervalLatticeSaid : Prop := intervalLatticeRow.holds Tryz.pinned (OpenSpec.ofChange intervalLatticeSpec)

/-- ITS FALSE NEIGHBOUR: 'it returns false'. Refute it at one input. -/
def intervalLatticeWrong : ChangeSpec := { name := "intervalLattice", fn := fun _ => fun
  | [d1, d2, d3] => { results := [.lit (.bool false)], args := [d1, d2, d3] }
  | _ => none }
def IntervalLatticeWrongFalsely : Prop := intervalLatticeRow.holds Tryz.pinned (OpenSpec.ofChange intervalLatticeWrong)

/-- 'inequalitylaw03.IntervalGuess': WHATEVER THE INPUT: true; the input reads as it did. -/
def intervalGuessSpec : ChangeSpec := { name := "intervalGuess", fn := fun _ => fun
  | [d1, d2] => { results := [.lit (.bool true)], args := [d1, d2] }
  | _ => none }
def intervalGuessRow : OpenClaim := { program := "ytimjoejkjgklaaagreatdoor", sum := "6323e967f07885f25e0c650b6908867763c003b38e0f61004113dccd49f4e996", func := "inequality/inequalitylaw03.IntervalGuess", spec := "intervalGuess", unfollowed := true, recurses := true, named := ["math/bits.deBruijn32tab"], apart := false, laid := [("math/bits.deBruijn32tab", laid_math_bits_deBruijn32tab)] }
def IntervalGuessSaid : Prop := intervalGuessRow.holds Tryz.pinned (OpenSpec.ofChange intervalGuessSpec)

/-- ITS FALSE NEIGHBOUR: 'it returns false'. Refute it at one input. -/
def intervalGuessWrong : ChangeSpec := { name := "intervalGuess", fn := fun _ => fun
  | [d1, d2] => { results := [.lit (.bool false)], args := [d1, d2] }
  | _ => none }
def IntervalGuessWrongFalsely : Prop := intervalGuessRow.holds Tryz.pinned (OpenSpec.ofChange intervalGuessWrong)

/-- 'inequalitylaw03.IntervalLeast': WHATEVER THE INPUT: true; the input reads as it did. -/
def intervalLeastSpec : ChangeSpec := { name := "intervalLeast", fn := fun _ => fun
  | [d1, d2, d3] => { results := [.lit (.bool true)], args := [d1, d2, d3] }
  | _ => none }
def intervalLeastRow : OpenClaim := { program := "ytimjoejkjgklaaagreatdoor", sum := "6323e967f07885f25e0c650b6908867763c003b38e0f61004113dccd49f4e996", func := "inequality/inequalitylaw03.IntervalLeast", spec := "intervalLeast", unfollowed := true, recurses := true, named := ["math/bits.deBruijn32tab"], apart := false, laid := [("math/bits.deBruijn32tab", laid_math_bits_deBruijn32tab)] }
def IntervalLeastSaid : Prop := intervalLeastRow.holds Tryz.pinned (OpenSpec.ofChange intervalLeastSpec)

/-- ITS FALSE NEIGHBOUR: 'it returns false'. Refute it at one input. -/
def intervalLeastWrong : ChangeSpec := { name := "intervalLeast", fn := fun _ => fun
  | [d1, d2, d3] => { results := [.lit (.bool false)], args := [d1, d2, d3] }
  | _ => none }
def IntervalLeastWrongFalsely : Prop := intervalLeastRow.holds Tryz.pinned (OpenSpec.ofChange intervalLeastWrong)

/- THE SECOND FORM. 'bulk': how many values and letters a reading holds, each counted each time it is reached (what is shared counts as often as it is met; a slice's spare places count too). A statement '..UptoSaid' is the law's where the arguments, and the package variables that the reading takes, are together of bulk at most 1048576: NARROWER than '..Said'. Prove '..Said' where nothing that the law and all that it calls make is longer than what came in: it says more and counts as full. Else prove '..UptoSaid'. A law counts once. -/
mutual
def uptoBulk {H : Type} : DataW H → Nat
  | .lit (.string bytes) => bytes.length + 1
  | .lit _ => 1
  | .nil => 1
  | .ptr d => uptoBulk d + 1
  | .slice elems spare => uptoBulkAll elems + uptoBulkAll spare + 1
  | .agg parts => uptoBulkAll parts + 1
  | .iface _ d => uptoBulk d + 1
  | .map entries => uptoBulkEntries entries + 1
  | .held _ => 1
def uptoBulkAll {H : Type} : List (DataW H) → Nat
  | [] => 0
  | d :: r => uptoBulk d + uptoBulkAll r
def uptoBulkEntries {H : Type} : List (Lit × DataW H) → Nat
  | [] => 0
  | x :: r => uptoBulkEntry x + uptoBulkEntries r
def uptoBulkEntry {H : Type} : Lit × DataW H → Nat
  | (.string bytes, d) => bytes.length + uptoBulk d + 1
  | (_, d) => uptoBulk d + 1
 end
def uptoSmall : (H : Type) → List (DataW H) → Bool := fun _ ds => decide (uptoBulkAll ds ≤ 1048576)
def OpenSpec.upto (s : _root_.Go.ChangeSpec) : _root_.Go.OpenSpec := { _root_.Go.OpenSpec.ofChange s with cond := some uptoSmall }

/-- 'inequalitylaw03.IntervalCanons', WHERE WHAT IT READS IS OF BULK AT MOST 1048576: true; the input reads as it did. -/
def intervalCanonsUptoRow : OpenClaim := { program := "ytimjoejkjgklaaagreatdoor", sum := "6323e967f07885f25e0c650b6908867763c003b38e0f61004113dccd49f4e996", func := "inequality/inequalitylaw03.IntervalCanons", spec := "intervalCanons", unfollowed := true, recurses := true, named := ["math/bits.deBruijn32tab"], apart := false, laid := [("math/bits.deBruijn32tab", laid_math_bits_deBruijn32tab)], narrowed := true }
def IntervalCanonsUptoSaid : Prop := intervalCanonsUptoRow.holds Tryz.pinned (OpenSpec.upto intervalCanonsSpec)

/-- 'inequalitylaw03.IntervalLimits', WHERE WHAT IT READS IS OF BULK AT MOST 1048576: true; the input reads as it did. -/
def intervalLimitsUptoRow : OpenClaim := { program := "ytimjoejkjgklaaagreatdoor", sum := "6323e967f07885f25e0c650b6908867763c003b38e0f61004113dccd49f4e996", func := "inequality/inequalitylaw03.IntervalLimits", spec := "intervalLimits", unfollowed := true, recurses := true, named := ["math/bits.deBruijn32tab"], apart := false, laid := [("math/bits.deBruijn32tab", laid_math_bits_deBruijn32tab)], narrowed := true }
def IntervalLimitsUptoSaid : Prop := intervalLimitsUptoRow.holds Tryz.pinned (OpenSpec.upto intervalLimitsSpec)

/-- 'inequalitylaw03.IntervalMeets', WHERE WHAT IT READS IS OF BULK AT MOST 1048576: true; the input reads as it did. -/
def intervalMeetsUptoRow : OpenClaim := { program := "ytimjoejkjgklaaagreatdoor", sum := "6323e967f07885f25e0c650b6908867763c003b38e0f61004113dccd49f4e996", func := "inequality/inequalitylaw03.IntervalMeets", spec := "intervalMeets", unfollowed := true, recurses := true, named := ["math/bits.deBruijn32tab"], apart := false, laid := [("math/bits.deBruijn32tab", laid_math_bits_deBruijn32tab)], narrowed := true }
def IntervalMeetsUptoSaid : Prop := intervalMeetsUptoRow.holds Tryz.pinned (OpenSpec.upto intervalMeetsSpec)

/-- 'inequalitylaw03.IntervalMiddles', WHERE WHAT IT READS IS OF BULK AT MOST 1048576: true; the input reads as it did. -/
def intervalMiddlesUptoRow : OpenClaim := { program := "ytimjoejkjgklaaagreatdoor", sum := "6323e967f07885f25e0c650b6908867763c003b38e0f61004113dccd49f4e996", func := "inequality/inequalitylaw03.IntervalMiddles", spec := "intervalMiddles", unfollowed := true, recurses := true, named := ["math/bits.deBruijn32tab"], apart := false, laid := [("math/bits.deBruijn32tab", laid_math_bits_deBruijn32tab)], narrowed := true }
def IntervalMiddlesUptoSaid : Prop := intervalMiddlesUptoRow.holds Tryz.pinned (OpenSpec.upto intervalMiddlesSpec)

/-- 'inequalitylaw03.IntervalLattice', WHERE WHAT IT READS IS OF BULK AT MOST 1048576: true; the input reads as it did. -/
def intervalLatticeUptoRow : OpenClaim := { program := "ytimjoejkjgklaaagreatdoor", sum := "6323e967f07885f25e0c650b6908867763c003b38e0f61004113dccd49f4e996", func := "inequality/inequalitylaw03.IntervalLattice", spec := "intervalLattice", unfollowed := true, recurses := true, named := ["math/bits.deBruijn32tab"], apart := false, laid := [("math/bits.deBruijn32tab", laid_math_bits_deBruijn32tab)], narrowed := true }
def IntervalLatticeUptoSaid : Prop := intervalLatticeUptoRow.holds Tryz.pinned (OpenSpec.upto intervalLatticeSpec)

/-- 'inequalitylaw03.IntervalGuess', WHERE WHAT IT READS IS OF BULK AT MOST 1048576: true; the input reads as it did. -/
def intervalGuessUptoRow : OpenClaim := { program := "ytimjoejkjgklaaagreatdoor", sum := "6323e967f07885f25e0c650b6908867763c003b38e0f61004113dccd49f4e996", func := "inequality/inequalitylaw03.IntervalGuess", spec := "intervalGuess", unfollowed := true, recurses := true, named := ["math/bits.deBruijn32tab"], apart := false, laid := [("math/bits.deBruijn32tab", laid_math_bits_deBruijn32tab)], narrowed := true }
def IntervalGuessUptoSaid : Prop := intervalGuessUptoRow.holds Tryz.pinned (OpenSpec.upto intervalGuessSpec)

/-- 'inequalitylaw03.IntervalLeast', WHERE WHAT IT READS IS OF BULK AT MOST 1048576: true; the input reads as it did. -/
def intervalLeastUptoRow : OpenClaim := { program := "ytimjoejkjgklaaagreatdoor", sum := "6323e967f07885f25e0c650b6908867763c003b38e0f61004113dccd49f4e996", func := "inequality/inequalitylaw03.IntervalLeast", spec := "intervalLeast", unfollowed := true, recurses := true, named := ["math/bits.deBruijn32tab"], apart := false, laid := [("math/bits.deBruijn32tab", laid_math_bits_deBruijn32tab)], narrowed := true }
def IntervalLeastUptoSaid : Prop := intervalLeastUptoRow.holds Tryz.pinned (OpenSpec.upto intervalLeastSpec)

end Rows
end Go.Proofs.YtimjoejkjgklaaaGreatDoor
