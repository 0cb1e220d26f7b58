/-
  No cell of these rows narrows 'for every input' (looked for: loops, veiled, ifaces, maps, wideKeys, modest, calm, conditions, laid).
  DERIVED. THE GIVEN ROWS OF THIS SEAT. 8 by the template 'for every input the law returns true; each argument reads behind the call as it read before'; 0 by the template 'total and deterministic' (their statements: YtlliliddljkbfaaGreatTotals.lean).
  GIVEN WITH THE SEED: the statements are not yours to turn. If you find one false, say at which input.
  Laid BY PROGRAM, IN A SANDBOX (cutbox-rows.mjs): the forced cells as the released guide's own fill.sh prints them over the translation 27b51097dddf24f6… (all of the seat's roots in one cut). By AI agents, Wed Nov 11 2026. No macro, syntax, notation, axiom, sorry.
-/
import Derived.Test.YtlliliddljkbfaaGreatChecked
import GoSem.Claim
import GoSem.ClaimJoined
import GoSem.ClaimMapViews
import Derived.JoinedTies
import Derived.KernelRfl
namespace Go.Proofs.YtlliliddljkbfaaGreat
/- THE CELL 'sum', in the pinned program and in every row, IS THE sha256 OF THE DUMP (.gsa) THAT YtlliliddljkbfaaGreatProg.lean LOADS. Nothing in Lean hashes anything: it is a label: what it is worth is what the hold of that sum in a sandbox is worth. -/
noncomputable def Tryz.pinned : Pinned := { name := "ytlliliddljkbfaagreat", sum := "27b51097dddf24f697a4cfe196435d8159c52ca9db93f42a93235918827edc32", checked := Tryz.checked }
namespace Rows
def none {H : Type} : Left H := { results := [], args := [] }

/-- 'rinselaw.Matched': WHATEVER THE INPUT: true; the input reads as it did. -/
def matchedSpec : ChangeSpec := { name := "matched", fn := fun _ => fun
  | [d1, d2, d3] => { results := [.lit (.bool true)], args := [d1, d2, d3] }
  | _ => none }
def matchedRow : OpenClaim := { program := "ytlliliddljkbfaagreat", sum := "27b51097dddf24f697a4cfe196435d8159c52ca9db93f42a93235918827edc32", func := "rinse/rinselaw.Matched", spec := "matched", inPlace := ["internal/bytealg.IndexByteString", "internal/bytealg.IndexString"], unfollowed := true, recurses := true, named := ["internal/bytealg.MaxLen"], plainKeys := false, apart := false }
def MatchedSaid : Prop := matchedRow.holds Tryz.pinned (OpenSpec.ofChange matchedSpec)

/-- ITS FALSE NEIGHBOUR: 'it returns false'. Refute it at one input. -/
def matchedWrong : ChangeSpec := { name := "matched", fn := fun _ => fun
  | [d1, d2, d3] => { results := [.lit (.bool false)], args := [d1, d2, d3] }
  | _ => none }
def MatchedWrongFalsely : Prop := matchedRow.holds Tryz.pinned (OpenSpec.ofChange matchedWrong)

/-- 'rinselaw.Cascaded': WHATEVER THE INPUT: true; the input reads as it did. -/
def cascadedSpec : ChangeSpec := { name := "cascaded", fn := fun _ => fun
  | [d1, d2, d3, d4] => { results := [.lit (.bool true)], args := [d1, d2, d3, d4] }
  | _ => none }
def cascadedRow : OpenClaim := { program := "ytlliliddljkbfaagreat", sum := "27b51097dddf24f697a4cfe196435d8159c52ca9db93f42a93235918827edc32", func := "rinse/rinselaw.Cascaded", spec := "cascaded", inPlace := ["internal/bytealg.IndexByteString", "internal/bytealg.IndexString"], unfollowed := true, recurses := true, named := ["internal/bytealg.MaxLen"], plainKeys := false, apart := false }
def CascadedSaid : Prop := cascadedRow.holds Tryz.pinned (OpenSpec.ofChange cascadedSpec)

/-- ITS FALSE NEIGHBOUR: 'it returns false'. Refute it at one input. -/
def cascadedWrong : ChangeSpec := { name := "cascaded", fn := fun _ => fun
  | [d1, d2, d3, d4] => { results := [.lit (.bool false)], args := [d1, d2, d3, d4] }
  | _ => none }
def CascadedWrongFalsely : Prop := cascadedRow.holds Tryz.pinned (OpenSpec.ofChange cascadedWrong)

/-- 'rinsekeep.Ordered': WHATEVER THE INPUT: true; the input reads as it did. -/
def orderedSpec : ChangeSpec := { name := "ordered", fn := fun _ => fun
  | [d1, d2, d3] => { results := [.lit (.bool true)], args := [d1, d2, d3] }
  | _ => none }
def orderedRow : OpenClaim := { program := "ytlliliddljkbfaagreat", sum := "27b51097dddf24f697a4cfe196435d8159c52ca9db93f42a93235918827edc32", func := "rinse/rinsekeep.Ordered", spec := "ordered", inPlace := ["internal/bytealg.IndexByteString", "internal/bytealg.IndexString"], unfollowed := true, recurses := true, named := ["internal/bytealg.MaxLen"], plainKeys := false, apart := false }
def OrderedSaid : Prop := orderedRow.holds Tryz.pinned (OpenSpec.ofChange orderedSpec)

/-- ITS FALSE NEIGHBOUR: 'it returns false'. Refute it at one input. -/
def orderedWrong : ChangeSpec := { name := "ordered", fn := fun _ => fun
  | [d1, d2, d3] => { results := [.lit (.bool false)], args := [d1, d2, d3] }
  | _ => none }
def OrderedWrongFalsely : Prop := orderedRow.holds Tryz.pinned (OpenSpec.ofChange orderedWrong)

/-- 'rinsekeep.Safe': WHATEVER THE INPUT: true; the input reads as it did. -/
def safeSpec : ChangeSpec := { name := "safe", fn := fun _ => fun
  | [d1, d2, d3, d4] => { results := [.lit (.bool true)], args := [d1, d2, d3, d4] }
  | _ => none }
def safeRow : OpenClaim := { program := "ytlliliddljkbfaagreat", sum := "27b51097dddf24f697a4cfe196435d8159c52ca9db93f42a93235918827edc32", func := "rinse/rinsekeep.Safe", spec := "safe", inPlace := ["internal/bytealg.IndexByteString", "internal/bytealg.IndexString"], unfollowed := true, recurses := true, named := ["internal/bytealg.MaxLen"], plainKeys := false, apart := false }
def SafeSaid : Prop := safeRow.holds Tryz.pinned (OpenSpec.ofChange safeSpec)

/-- ITS FALSE NEIGHBOUR: 'it returns false'. Refute it at one input. -/
def safeWrong : ChangeSpec := { name := "safe", fn := fun _ => fun
  | [d1, d2, d3, d4] => { results := [.lit (.bool false)], args := [d1, d2, d3, d4] }
  | _ => none }
def SafeWrongFalsely : Prop := safeRow.holds Tryz.pinned (OpenSpec.ofChange safeWrong)

/-- 'rinsekeep.Twice': WHATEVER THE INPUT: true; the input reads as it did. -/
def twiceSpec : ChangeSpec := { name := "twice", fn := fun _ => fun
  | [d1, d2, d3, d4] => { results := [.lit (.bool true)], args := [d1, d2, d3, d4] }
  | _ => none }
def twiceRow : OpenClaim := { program := "ytlliliddljkbfaagreat", sum := "27b51097dddf24f697a4cfe196435d8159c52ca9db93f42a93235918827edc32", func := "rinse/rinsekeep.Twice", spec := "twice", inPlace := ["internal/bytealg.IndexByteString", "internal/bytealg.IndexString"], unfollowed := true, recurses := true, named := ["internal/bytealg.MaxLen"], plainKeys := false, apart := false }
def TwiceSaid : Prop := twiceRow.holds Tryz.pinned (OpenSpec.ofChange twiceSpec)

/-- ITS FALSE NEIGHBOUR: 'it returns false'. Refute it at one input. -/
def twiceWrong : ChangeSpec := { name := "twice", fn := fun _ => fun
  | [d1, d2, d3, d4] => { results := [.lit (.bool false)], args := [d1, d2, d3, d4] }
  | _ => none }
def TwiceWrongFalsely : Prop := twiceRow.holds Tryz.pinned (OpenSpec.ofChange twiceWrong)

/-- 'rinsekeep.Confined': WHATEVER THE INPUT: true; the input reads as it did. -/
def confinedSpec : ChangeSpec := { name := "confined", fn := fun _ => fun
  | [d1, d2, d3, d4, d5, d6] => { results := [.lit (.bool true)], args := [d1, d2, d3, d4, d5, d6] }
  | _ => none }
def confinedRow : OpenClaim := { program := "ytlliliddljkbfaagreat", sum := "27b51097dddf24f697a4cfe196435d8159c52ca9db93f42a93235918827edc32", func := "rinse/rinsekeep.Confined", spec := "confined", inPlace := ["internal/bytealg.IndexByteString", "internal/bytealg.IndexString"], unfollowed := true, recurses := true, named := ["internal/bytealg.MaxLen"], plainKeys := false, apart := false }
def ConfinedSaid : Prop := confinedRow.holds Tryz.pinned (OpenSpec.ofChange confinedSpec)

/-- ITS FALSE NEIGHBOUR: 'it returns false'. Refute it at one input. -/
def confinedWrong : ChangeSpec := { name := "confined", fn := fun _ => fun
  | [d1, d2, d3, d4, d5, d6] => { results := [.lit (.bool false)], args := [d1, d2, d3, d4, d5, d6] }
  | _ => none }
def ConfinedWrongFalsely : Prop := confinedRow.holds Tryz.pinned (OpenSpec.ofChange confinedWrong)

/-- 'rinsekeep.Framed': WHATEVER THE INPUT: true; the input reads as it did. -/
def framedSpec : ChangeSpec := { name := "framed", fn := fun _ => fun
  | [d1, d2, d3, d4, d5, d6, d7] => { results := [.lit (.bool true)], args := [d1, d2, d3, d4, d5, d6, d7] }
  | _ => none }
def framedRow : OpenClaim := { program := "ytlliliddljkbfaagreat", sum := "27b51097dddf24f697a4cfe196435d8159c52ca9db93f42a93235918827edc32", func := "rinse/rinsekeep.Framed", spec := "framed", inPlace := ["internal/bytealg.IndexByteString", "internal/bytealg.IndexString"], unfollowed := true, recurses := true, named := ["internal/bytealg.MaxLen"], plainKeys := false, apart := false }
def FramedSaid : Prop := framedRow.holds Tryz.pinned (OpenSpec.ofChange framedSpec)

/-- ITS FALSE NEIGHBOUR: 'it returns false'. Refute it at one input. -/
def framedWrong : ChangeSpec := { name := "framed", fn := fun _ => fun
  | [d1, d2, d3, d4, d5, d6, d7] => { results := [.lit (.bool false)], args := [d1, d2, d3, d4, d5, d6, d7] }
  | _ => none }
def FramedWrongFalsely : Prop := framedRow.holds Tryz.pinned (OpenSpec.ofChange framedWrong)

/-- 'rinsekeep.Kept': WHATEVER THE INPUT: true; the input reads as it did. -/
def keptSpec : ChangeSpec := { name := "kept", fn := fun _ => fun
  | [d1, d2, d3] => { results := [.lit (.bool true)], args := [d1, d2, d3] }
  | _ => none }
def keptRow : OpenClaim := { program := "ytlliliddljkbfaagreat", sum := "27b51097dddf24f697a4cfe196435d8159c52ca9db93f42a93235918827edc32", func := "rinse/rinsekeep.Kept", spec := "kept", inPlace := ["internal/bytealg.IndexByteString", "internal/bytealg.IndexString"], unfollowed := true, recurses := true, named := ["internal/bytealg.MaxLen"], plainKeys := false, apart := false }
def KeptSaid : Prop := keptRow.holds Tryz.pinned (OpenSpec.ofChange keptSpec)

/-- ITS FALSE NEIGHBOUR: 'it returns false'. Refute it at one input. -/
def keptWrong : ChangeSpec := { name := "kept", fn := fun _ => fun
  | [d1, d2, d3] => { results := [.lit (.bool false)], args := [d1, d2, d3] }
  | _ => none }
def KeptWrongFalsely : Prop := keptRow.holds Tryz.pinned (OpenSpec.ofChange keptWrong)

/- THE SECOND FORM. 'bulk': how many values and letters a reading holds, each counted each time it is reached (what is shared counts as often as it is met; a slice's spare places count too). A statement '..UptoSaid' is the law's where the arguments, and the package variables that the reading takes, are together of bulk at most 1048576: NARROWER than '..Said'. Prove '..Said' where nothing that the law and all that it calls make is longer than what came in: it says more and counts as full. Else prove '..UptoSaid'. A law counts once. -/
mutual
def uptoBulk {H : Type} : DataW H → Nat
  | .lit (.string bytes) => bytes.length + 1
  | .lit _ => 1
  | .nil => 1
  | .ptr d => uptoBulk d + 1
  | .slice elems spare => uptoBulkAll elems + uptoBulkAll spare + 1
  | .agg parts => uptoBulkAll parts + 1
  | .iface _ d => uptoBulk d + 1
  | .map entries => uptoBulkEntries entries + 1
  | .held _ => 1
def uptoBulkAll {H : Type} : List (DataW H) → Nat
  | [] => 0
  | d :: r => uptoBulk d + uptoBulkAll r
def uptoBulkEntries {H : Type} : List (Lit × DataW H) → Nat
  | [] => 0
  | x :: r => uptoBulkEntry x + uptoBulkEntries r
def uptoBulkEntry {H : Type} : Lit × DataW H → Nat
  | (.string bytes, d) => bytes.length + uptoBulk d + 1
  | (_, d) => uptoBulk d + 1
 end
def uptoSmall : (H : Type) → List (DataW H) → Bool := fun _ ds => decide (uptoBulkAll ds ≤ 1048576)
def OpenSpec.upto (s : _root_.Go.ChangeSpec) : _root_.Go.OpenSpec := { _root_.Go.OpenSpec.ofChange s with cond := some uptoSmall }

/-- 'rinselaw.Matched', WHERE WHAT IT READS IS OF BULK AT MOST 1048576: true; the input reads as it did. -/
def matchedUptoRow : OpenClaim := { program := "ytlliliddljkbfaagreat", sum := "27b51097dddf24f697a4cfe196435d8159c52ca9db93f42a93235918827edc32", func := "rinse/rinselaw.Matched", spec := "matched", inPlace := ["internal/bytealg.IndexByteString", "internal/bytealg.IndexString"], unfollowed := true, recurses := true, named := ["internal/bytealg.MaxLen"], plainKeys := false, apart := false, narrowed := true }
def MatchedUptoSaid : Prop := matchedUptoRow.holds Tryz.pinned (OpenSpec.upto matchedSpec)

/-- 'rinselaw.Cascaded', WHERE WHAT IT READS IS OF BULK AT MOST 1048576: true; the input reads as it did. -/
def cascadedUptoRow : OpenClaim := { program := "ytlliliddljkbfaagreat", sum := "27b51097dddf24f697a4cfe196435d8159c52ca9db93f42a93235918827edc32", func := "rinse/rinselaw.Cascaded", spec := "cascaded", inPlace := ["internal/bytealg.IndexByteString", "internal/bytealg.IndexString"], unfollowed := true, recurses := true, named := ["internal/bytealg.MaxLen"], plainKeys := false, apart := false, narrowed := true }
def CascadedUptoSaid : Prop := cascadedUptoRow.holds Tryz.pinned (OpenSpec.upto cascadedSpec)

/-- 'rinsekeep.Ordered', WHERE WHAT IT READS IS OF BULK AT MOST 1048576: true; the input reads as it did. -/
def orderedUptoRow : OpenClaim := { program := "ytlliliddljkbfaagreat", sum := "27b51097dddf24f697a4cfe196435d8159c52ca9db93f42a93235918827edc32", func := "rinse/rinsekeep.Ordered", spec := "ordered", inPlace := ["internal/bytealg.IndexByteString", "internal/bytealg.IndexString"], unfollowed := true, recurses := true, named := ["internal/bytealg.MaxLen"], plainKeys := false, apart := false, narrowed := true }
def OrderedUptoSaid : Prop := orderedUptoRow.holds Tryz.pinned (OpenSpec.upto orderedSpec)

/-- 'rinsekeep.Safe', WHERE WHAT IT READS IS OF BULK AT MOST 1048576: true; the input reads as it did. -/
def safeUptoRow : OpenClaim := { program := "ytlliliddljkbfaagreat", sum := "27b51097dddf24f697a4cfe196435d8159c52ca9db93f42a93235918827edc32", func := "rinse/rinsekeep.Safe", spec := "safe", inPlace := ["internal/bytealg.IndexByteString", "internal/bytealg.IndexString"], unfollowed := true, recurses := true, named := ["internal/bytealg.MaxLen"], plainKeys := false, apart := false, narrowed := true }
def SafeUptoSaid : Prop := safeUptoRow.holds Tryz.pinned (OpenSpec.upto safeSpec)

/-- 'rinsekeep.Twice', WHERE WHAT IT READS IS OF BULK AT MOST 1048576: true; the input reads as it did. -/
def twiceUptoRow : OpenClaim := { program := "ytlliliddljkbfaagreat", sum := "27b51097dddf24f697a4cfe196435d8159c52ca9db93f42a93235918827edc32", func := "rinse/rinsekeep.Twice", spec := "twice", inPlace := ["internal/bytealg.IndexByteString", "internal/bytealg.IndexString"], unfollowed := true, recurses := true, named := ["internal/bytealg.MaxLen"], plainKeys := false, apart := false, narrowed := true }
def TwiceUptoSaid : Prop := twiceUptoRow.holds Tryz.pinned (OpenSpec.upto twiceSpec)

/-- 'rinsekeep.Confined', WHERE WHAT IT READS IS OF BULK AT MOST 1048576: true; the input reads as it did. -/
def confinedUptoRow : OpenClaim := { program := "ytlliliddljkbfaagreat", sum := "27b51097dddf24f697a4cfe196435d8159c52ca9db93f42a93235918827edc32", func := "rinse/rinsekeep.Confined", spec := "confined", inPlace := ["internal/bytealg.IndexByteString", "internal/bytealg.IndexString"], unfollowed := true, recurses := true, named := ["internal/bytealg.MaxLen"], plainKeys := false, apart := false, narrowed := true }
def ConfinedUptoSaid : Prop := confinedUptoRow.holds Tryz.pinned (OpenSpec.upto confinedSpec)

/-- 'rinsekeep.Framed', WHERE WHAT IT READS IS OF BULK AT MOST 1048576: true; the input reads as it did. -/
def framedUptoRow : OpenClaim := { program := "ytlliliddljkbfaagreat", sum := "27b51097dddf24f697a4cfe196435d8159c52ca9db93f42a93235918827edc32", func := "rinse/rinsekeep.Framed", spec := "framed", inPlace := ["internal/bytealg.IndexByteString", "internal/bytealg.IndexString"], unfollowed := true, recurses := true, named := ["internal/bytealg.MaxLen"], plainKeys := false, apart := false, narrowed := true }
def FramedUptoSaid : Prop := framedUptoRow.holds Tryz.pinned (OpenSpec.upto framedSpec)

/-- 'rinsekeep.Kept', WHERE WHAT IT READS IS OF BULK AT MOST 1048576: true; the input reads as it did. -/
def keptUptoRow : OpenClaim := { program := "ytlliliddljkbfaagreat", sum := "27b51097dddf24f697a4cfe196435d8159c52ca9db93f42a93235918827edc32", func := "rinse/rinsekeep.Kept", spec := "kept", inPlace := ["internal/bytealg.IndexByteString", "internal/bytealg.IndexString"], unfollowed := true, recurses := true, named := ["internal/bytealg.MaxLen"], plainKeys := false, apart := false, narrowed := true }
def KeptUptoSaid : Prop := keptUptoRow.holds Tryz.pinned (OpenSpec.upto keptSpec)

end Rows
end Go.Proofs.YtlliliddljkbfaaGreat
