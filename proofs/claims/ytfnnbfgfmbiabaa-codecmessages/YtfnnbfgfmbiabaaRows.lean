/-
  No cell of these rows narrows 'for every input' (looked for: loops, veiled, ifaces, maps, wideKeys, modest, calm, conditions, laid).
  DERIVED. THE GIVEN ROWS OF THIS SEAT. 6 by the template 'for every input the law returns true; each argument reads behind the call as it read before'; 0 by the template 'total and deterministic' (their statements: YtfnnbfgfmbiabaaTotals.lean).
  GIVEN WITH THE SEED: the statements are not yours to turn. If you find one false, say at which input.
  Laid BY PROGRAM, IN A SANDBOX (cutbox-rows.mjs): the forced cells as the released guide's own fill.sh prints them over the translation 7268bb348e53f9d6… (all of the seat's roots in one cut). By AI agents, Wed Nov 11 2026. No macro, syntax, notation, axiom, sorry.
-/
import Derived.Test.YtfnnbfgfmbiabaaChecked
import GoSem.Claim
import GoSem.ClaimJoined
import GoSem.ClaimMapViews
import Derived.JoinedTies
import Derived.KernelRfl
namespace Go.Proofs.Ytfnnbfgfmbiabaa
/- THE CELL 'sum', in the pinned program and in every row, IS THE sha256 OF THE DUMP (.gsa) THAT YtfnnbfgfmbiabaaProg.lean LOADS. Nothing in Lean hashes anything: it is a label: what it is worth is what the hold of that sum in a sandbox is worth. -/
noncomputable def Try.pinned : Pinned := { name := "ytfnnbfgfmbiabaa", sum := "7268bb348e53f9d66bcf1573f0eb0ea4e771e222a5ab9049a6032b3fdeb4c91b", checked := Try.checked }
namespace Rows
def none {H : Type} : Left H := { results := [], args := [] }

/-- 'synodlaw3.CodecEntries': WHATEVER THE INPUT: true; the input reads as it did. -/
def codecEntriesSpec : ChangeSpec := { name := "codecEntries", fn := fun _ => fun
  | [d1, d2] => { results := [.lit (.bool true)], args := [d1, d2] }
  | _ => none }
def codecEntriesRow : OpenClaim := { program := "ytfnnbfgfmbiabaa", sum := "7268bb348e53f9d66bcf1573f0eb0ea4e771e222a5ab9049a6032b3fdeb4c91b", func := "synod/synodlaw3.CodecEntries", spec := "codecEntries", unfollowed := true, recurses := true, apart := false }
def CodecEntriesSaid : Prop := codecEntriesRow.holds Try.pinned (OpenSpec.ofChange codecEntriesSpec)

/-- ITS FALSE NEIGHBOUR: 'it returns false'. Refute it at one input. -/
def codecEntriesWrong : ChangeSpec := { name := "codecEntries", fn := fun _ => fun
  | [d1, d2] => { results := [.lit (.bool false)], args := [d1, d2] }
  | _ => none }
def CodecEntriesWrongFalsely : Prop := codecEntriesRow.holds Try.pinned (OpenSpec.ofChange codecEntriesWrong)

/-- 'synodlaw3.CodecStates': WHATEVER THE INPUT: true; the input reads as it did. -/
def codecStatesSpec : ChangeSpec := { name := "codecStates", fn := fun _ => fun
  | [d1, d2] => { results := [.lit (.bool true)], args := [d1, d2] }
  | _ => none }
def codecStatesRow : OpenClaim := { program := "ytfnnbfgfmbiabaa", sum := "7268bb348e53f9d66bcf1573f0eb0ea4e771e222a5ab9049a6032b3fdeb4c91b", func := "synod/synodlaw3.CodecStates", spec := "codecStates", unfollowed := true, recurses := true, apart := false }
def CodecStatesSaid : Prop := codecStatesRow.holds Try.pinned (OpenSpec.ofChange codecStatesSpec)

/-- ITS FALSE NEIGHBOUR: 'it returns false'. Refute it at one input. -/
def codecStatesWrong : ChangeSpec := { name := "codecStates", fn := fun _ => fun
  | [d1, d2] => { results := [.lit (.bool false)], args := [d1, d2] }
  | _ => none }
def CodecStatesWrongFalsely : Prop := codecStatesRow.holds Try.pinned (OpenSpec.ofChange codecStatesWrong)

/-- 'synodlaw3.CodecSnaps': WHATEVER THE INPUT: true; the input reads as it did. -/
def codecSnapsSpec : ChangeSpec := { name := "codecSnaps", fn := fun _ => fun
  | [d1, d2] => { results := [.lit (.bool true)], args := [d1, d2] }
  | _ => none }
def codecSnapsRow : OpenClaim := { program := "ytfnnbfgfmbiabaa", sum := "7268bb348e53f9d66bcf1573f0eb0ea4e771e222a5ab9049a6032b3fdeb4c91b", func := "synod/synodlaw3.CodecSnaps", spec := "codecSnaps", unfollowed := true, recurses := true, apart := false }
def CodecSnapsSaid : Prop := codecSnapsRow.holds Try.pinned (OpenSpec.ofChange codecSnapsSpec)

/-- ITS FALSE NEIGHBOUR: 'it returns false'. Refute it at one input. -/
def codecSnapsWrong : ChangeSpec := { name := "codecSnaps", fn := fun _ => fun
  | [d1, d2] => { results := [.lit (.bool false)], args := [d1, d2] }
  | _ => none }
def CodecSnapsWrongFalsely : Prop := codecSnapsRow.holds Try.pinned (OpenSpec.ofChange codecSnapsWrong)

/-- 'synodlaw3.CodecCommands': WHATEVER THE INPUT: true; the input reads as it did. -/
def codecCommandsSpec : ChangeSpec := { name := "codecCommands", fn := fun _ => fun
  | [d1, d2] => { results := [.lit (.bool true)], args := [d1, d2] }
  | _ => none }
def codecCommandsRow : OpenClaim := { program := "ytfnnbfgfmbiabaa", sum := "7268bb348e53f9d66bcf1573f0eb0ea4e771e222a5ab9049a6032b3fdeb4c91b", func := "synod/synodlaw3.CodecCommands", spec := "codecCommands", unfollowed := true, recurses := true, apart := false }
def CodecCommandsSaid : Prop := codecCommandsRow.holds Try.pinned (OpenSpec.ofChange codecCommandsSpec)

/-- ITS FALSE NEIGHBOUR: 'it returns false'. Refute it at one input. -/
def codecCommandsWrong : ChangeSpec := { name := "codecCommands", fn := fun _ => fun
  | [d1, d2] => { results := [.lit (.bool false)], args := [d1, d2] }
  | _ => none }
def CodecCommandsWrongFalsely : Prop := codecCommandsRow.holds Try.pinned (OpenSpec.ofChange codecCommandsWrong)

/-- 'synodlaw3.CodecReplies': WHATEVER THE INPUT: true; the input reads as it did. -/
def codecRepliesSpec : ChangeSpec := { name := "codecReplies", fn := fun _ => fun
  | [d1, d2] => { results := [.lit (.bool true)], args := [d1, d2] }
  | _ => none }
def codecRepliesRow : OpenClaim := { program := "ytfnnbfgfmbiabaa", sum := "7268bb348e53f9d66bcf1573f0eb0ea4e771e222a5ab9049a6032b3fdeb4c91b", func := "synod/synodlaw3.CodecReplies", spec := "codecReplies", unfollowed := true, recurses := true, apart := false }
def CodecRepliesSaid : Prop := codecRepliesRow.holds Try.pinned (OpenSpec.ofChange codecRepliesSpec)

/-- ITS FALSE NEIGHBOUR: 'it returns false'. Refute it at one input. -/
def codecRepliesWrong : ChangeSpec := { name := "codecReplies", fn := fun _ => fun
  | [d1, d2] => { results := [.lit (.bool false)], args := [d1, d2] }
  | _ => none }
def CodecRepliesWrongFalsely : Prop := codecRepliesRow.holds Try.pinned (OpenSpec.ofChange codecRepliesWrong)

/-- 'synodlaw3.CodecMessages': WHATEVER THE INPUT: true; the input reads as it did. -/
def codecMessagesSpec : ChangeSpec := { name := "codecMessages", fn := fun _ => fun
  | [d1, d2] => { results := [.lit (.bool true)], args := [d1, d2] }
  | _ => none }
def codecMessagesRow : OpenClaim := { program := "ytfnnbfgfmbiabaa", sum := "7268bb348e53f9d66bcf1573f0eb0ea4e771e222a5ab9049a6032b3fdeb4c91b", func := "synod/synodlaw3.CodecMessages", spec := "codecMessages", unfollowed := true, recurses := true, apart := false }
def CodecMessagesSaid : Prop := codecMessagesRow.holds Try.pinned (OpenSpec.ofChange codecMessagesSpec)

/-- ITS FALSE NEIGHBOUR: 'it returns false'. Refute it at one input. -/
def codecMessagesWrong : ChangeSpec := { name := "codecMessages", fn := fun _ => fun
  | [d1, d2] => { results := [.lit (.bool false)], args := [d1, d2] }
  | _ => none }
def CodecMessagesWrongFalsely : Prop := codecMessagesRow.holds Try.pinned (OpenSpec.ofChange codecMessagesWrong)

/- THE SECOND FORM. 'bulk': how many values and letters a reading holds, each counted each time it is reached (what is shared counts as often as it is met; a slice's spare places count too). A statement '..UptoSaid' is the law's where the arguments, and the package variables that the reading takes, are together of bulk at most 1048576: NARROWER than '..Said'. Prove '..Said' where nothing that the law and all that it calls make is longer than what came in: it says more and counts as full. Else prove '..UptoSaid'. A law counts once. -/
mutual
def uptoBulk {H : Type} : DataW H → Nat
  | .lit (.string bytes) => bytes.length + 1
  | .lit _ => 1
  | .nil => 1
  | .ptr d => uptoBulk d + 1
  | .slice elems spare => uptoBulkAll elems + uptoBulkAll spare + 1
  | .agg parts => uptoBulkAll parts + 1
  | .iface _ d => uptoBulk d + 1
  | .map entries => uptoBulkEntries entries + 1
  | .held _ => 1
def uptoBulkAll {H : Type} : List (DataW H) → Nat
  | [] => 0
  | d :: r => uptoBulk d + uptoBulkAll r
def uptoBulkEntries {H : Type} : List (Lit × DataW H) → Nat
  | [] => 0
  | x :: r => uptoBulkEntry x + uptoBulkEntries r
def uptoBulkEntry {H : Type} : Lit × DataW H → Nat
  | (.string bytes, d) => bytes.length + uptoBulk d + 1
  | (_, d) => uptoBulk d + 1
 end
def uptoSmall : (H : Type) → List (DataW H) → Bool := fun _ ds => decide (uptoBulkAll ds ≤ 1048576)
def OpenSpec.upto (s : _root_.Go.ChangeSpec) : _root_.Go.OpenSpec := { _root_.Go.OpenSpec.ofChange s with cond := some uptoSmall }

/-- 'synodlaw3.CodecEntries', WHERE WHAT IT READS IS OF BULK AT MOST 1048576: true; the input reads as it did. -/
def codecEntriesUptoRow : OpenClaim := { program := "ytfnnbfgfmbiabaa", sum := "7268bb348e53f9d66bcf1573f0eb0ea4e771e222a5ab9049a6032b3fdeb4c91b", func := "synod/synodlaw3.CodecEntries", spec := "codecEntries", unfollowed := true, recurses := true, apart := false, narrowed := true }
def CodecEntriesUptoSaid : Prop := codecEntriesUptoRow.holds Try.pinned (OpenSpec.upto codecEntriesSpec)

/-- 'synodlaw3.CodecStates', WHERE WHAT IT READS IS OF BULK AT MOST 1048576: true; the input reads as it did. -/
def codecStatesUptoRow : OpenClaim := { program := "ytfnnbfgfmbiabaa", sum := "7268bb348e53f9d66bcf1573f0eb0ea4e771e222a5ab9049a6032b3fdeb4c91b", func := "synod/synodlaw3.CodecStates", spec := "codecStates", unfollowed := true, recurses := true, apart := false, narrowed := true }
def CodecStatesUptoSaid : Prop := codecStatesUptoRow.holds Try.pinned (OpenSpec.upto codecStatesSpec)

/-- 'synodlaw3.CodecSnaps', WHERE WHAT IT READS IS OF BULK AT MOST 1048576: true; the input reads as it did. -/
def codecSnapsUptoRow : OpenClaim := { program := "ytfnnbfgfmbiabaa", sum := "7268bb348e53f9d66bcf1573f0eb0ea4e771e222a5ab9049a6032b3fdeb4c91b", func := "synod/synodlaw3.CodecSnaps", spec := "codecSnaps", unfollowed := true, recurses := true, apart := false, narrowed := true }
def CodecSnapsUptoSaid : Prop := codecSnapsUptoRow.holds Try.pinned (OpenSpec.upto codecSnapsSpec)

/-- 'synodlaw3.CodecCommands', WHERE WHAT IT READS IS OF BULK AT MOST 1048576: true; the input reads as it did. -/
def codecCommandsUptoRow : OpenClaim := { program := "ytfnnbfgfmbiabaa", sum := "7268bb348e53f9d66bcf1573f0eb0ea4e771e222a5ab9049a6032b3fdeb4c91b", func := "synod/synodlaw3.CodecCommands", spec := "codecCommands", unfollowed := true, recurses := true, apart := false, narrowed := true }
def CodecCommandsUptoSaid : Prop := codecCommandsUptoRow.holds Try.pinned (OpenSpec.upto codecCommandsSpec)

/-- 'synodlaw3.CodecReplies', WHERE WHAT IT READS IS OF BULK AT MOST 1048576: true; the input reads as it did. -/
def codecRepliesUptoRow : OpenClaim := { program := "ytfnnbfgfmbiabaa", sum := "7268bb348e53f9d66bcf1573f0eb0ea4e771e222a5ab9049a6032b3fdeb4c91b", func := "synod/synodlaw3.CodecReplies", spec := "codecReplies", unfollowed := true, recurses := true, apart := false, narrowed := true }
def CodecRepliesUptoSaid : Prop := codecRepliesUptoRow.holds Try.pinned (OpenSpec.upto codecRepliesSpec)

/-- 'synodlaw3.CodecMessages', WHERE WHAT IT READS IS OF BULK AT MOST 1048576: true; the input reads as it did. -/
def codecMessagesUptoRow : OpenClaim := { program := "ytfnnbfgfmbiabaa", sum := "7268bb348e53f9d66bcf1573f0eb0ea4e771e222a5ab9049a6032b3fdeb4c91b", func := "synod/synodlaw3.CodecMessages", spec := "codecMessages", unfollowed := true, recurses := true, apart := false, narrowed := true }
def CodecMessagesUptoSaid : Prop := codecMessagesUptoRow.holds Try.pinned (OpenSpec.upto codecMessagesSpec)

end Rows
end Go.Proofs.Ytfnnbfgfmbiabaa
