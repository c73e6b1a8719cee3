/-
  No cell of these rows narrows 'for every input' (looked for: loops, veiled, ifaces, maps, wideKeys, modest, calm, conditions, laid).
  DERIVED. THE GIVEN ROWS OF THIS SEAT. 5 by the template 'for every input the law returns true; each argument reads behind the call as it read before'; 0 by the template 'total and deterministic' (their statements: YtkhdnlkdcikdmaaTotals.lean).
  GIVEN WITH THE SEED: the statements are not yours to turn. If you find one false, say at which input.
  Laid BY PROGRAM, IN A SANDBOX (cutbox-rows.mjs): the forced cells as the released guide's own fill.sh prints them over the translation 11f450088e7eb8e8… (all of the seat's roots in one cut). By AI agents, Wed Nov 11 2026. No macro, syntax, notation, axiom, sorry.
-/
import Derived.Test.YtkhdnlkdcikdmaaChecked
import GoSem.Claim
import GoSem.ClaimJoined
import GoSem.ClaimMapViews
import Derived.JoinedTies
import Derived.KernelRfl
namespace Go.Proofs.Ytkhdnlkdcikdmaa
/- THE CELL 'sum', in the pinned program and in every row, IS THE sha256 OF THE DUMP (.gsa) THAT YtkhdnlkdcikdmaaProg.lean LOADS. Nothing in Lean hashes anything: it is a label: what it is worth is what the hold of that sum in a sandbox is worth. -/
noncomputable def Try.pinned : Pinned := { name := "ytkhdnlkdcikdmaa", sum := "11f450088e7eb8e83538c039a5ee5cd46ef12008e3896716c74ea8bf1f672834", checked := Try.checked }
namespace Rows
def none {H : Type} : Left H := { results := [], args := [] }

/-- 'drumlinelaw14.VoteTells': WHATEVER THE INPUT: true; the input reads as it did. -/
def voteTellsSpec : ChangeSpec := { name := "voteTells", fn := fun _ => fun
  | [d1, d2, d3] => { results := [.lit (.bool true)], args := [d1, d2, d3] }
  | _ => none }
def voteTellsRow : OpenClaim := { program := "ytkhdnlkdcikdmaa", sum := "11f450088e7eb8e83538c039a5ee5cd46ef12008e3896716c74ea8bf1f672834", func := "drumline/drumlinelaw14.VoteTells", spec := "voteTells", unfollowed := true, recurses := true, apart := false }
def VoteTellsSaid : Prop := voteTellsRow.holds Try.pinned (OpenSpec.ofChange voteTellsSpec)

/-- ITS FALSE NEIGHBOUR: 'it returns false'. Refute it at one input. -/
def voteTellsWrong : ChangeSpec := { name := "voteTells", fn := fun _ => fun
  | [d1, d2, d3] => { results := [.lit (.bool false)], args := [d1, d2, d3] }
  | _ => none }
def VoteTellsWrongFalsely : Prop := voteTellsRow.holds Try.pinned (OpenSpec.ofChange voteTellsWrong)

/-- 'drumlinelaw14.VoteBackers': WHATEVER THE INPUT: true; the input reads as it did. -/
def voteBackersSpec : ChangeSpec := { name := "voteBackers", fn := fun _ => fun
  | [d] => { results := [.lit (.bool true)], args := [d] }
  | _ => none }
def voteBackersRow : OpenClaim := { program := "ytkhdnlkdcikdmaa", sum := "11f450088e7eb8e83538c039a5ee5cd46ef12008e3896716c74ea8bf1f672834", func := "drumline/drumlinelaw14.VoteBackers", spec := "voteBackers", unfollowed := true, recurses := true, apart := false }
def VoteBackersSaid : Prop := voteBackersRow.holds Try.pinned (OpenSpec.ofChange voteBackersSpec)

/-- ITS FALSE NEIGHBOUR: 'it returns false'. Refute it at one input. -/
def voteBackersWrong : ChangeSpec := { name := "voteBackers", fn := fun _ => fun
  | [d] => { results := [.lit (.bool false)], args := [d] }
  | _ => none }
def VoteBackersWrongFalsely : Prop := voteBackersRow.holds Try.pinned (OpenSpec.ofChange voteBackersWrong)

/-- 'drumlinelaw14.VoteMost': WHATEVER THE INPUT: true; the input reads as it did. -/
def voteMostSpec : ChangeSpec := { name := "voteMost", fn := fun _ => fun
  | [d] => { results := [.lit (.bool true)], args := [d] }
  | _ => none }
def voteMostRow : OpenClaim := { program := "ytkhdnlkdcikdmaa", sum := "11f450088e7eb8e83538c039a5ee5cd46ef12008e3896716c74ea8bf1f672834", func := "drumline/drumlinelaw14.VoteMost", spec := "voteMost", unfollowed := true, recurses := true, apart := false }
def VoteMostSaid : Prop := voteMostRow.holds Try.pinned (OpenSpec.ofChange voteMostSpec)

/-- ITS FALSE NEIGHBOUR: 'it returns false'. Refute it at one input. -/
def voteMostWrong : ChangeSpec := { name := "voteMost", fn := fun _ => fun
  | [d] => { results := [.lit (.bool false)], args := [d] }
  | _ => none }
def VoteMostWrongFalsely : Prop := voteMostRow.holds Try.pinned (OpenSpec.ofChange voteMostWrong)

/-- 'drumlinelaw14.VoteFaults': WHATEVER THE INPUT: true; the input reads as it did. -/
def voteFaultsSpec : ChangeSpec := { name := "voteFaults", fn := fun _ => fun
  | [d1, d2, d3, d4, d5] => { results := [.lit (.bool true)], args := [d1, d2, d3, d4, d5] }
  | _ => none }
def voteFaultsRow : OpenClaim := { program := "ytkhdnlkdcikdmaa", sum := "11f450088e7eb8e83538c039a5ee5cd46ef12008e3896716c74ea8bf1f672834", func := "drumline/drumlinelaw14.VoteFaults", spec := "voteFaults", unfollowed := true, recurses := true, apart := false }
def VoteFaultsSaid : Prop := voteFaultsRow.holds Try.pinned (OpenSpec.ofChange voteFaultsSpec)

/-- ITS FALSE NEIGHBOUR: 'it returns false'. Refute it at one input. -/
def voteFaultsWrong : ChangeSpec := { name := "voteFaults", fn := fun _ => fun
  | [d1, d2, d3, d4, d5] => { results := [.lit (.bool false)], args := [d1, d2, d3, d4, d5] }
  | _ => none }
def VoteFaultsWrongFalsely : Prop := voteFaultsRow.holds Try.pinned (OpenSpec.ofChange voteFaultsWrong)

/-- 'drumlinelaw14.VoteSame': WHATEVER THE INPUT: true; the input reads as it did. -/
def voteSameSpec : ChangeSpec := { name := "voteSame", fn := fun _ => fun
  | [d1, d2, d3] => { results := [.lit (.bool true)], args := [d1, d2, d3] }
  | _ => none }
def voteSameRow : OpenClaim := { program := "ytkhdnlkdcikdmaa", sum := "11f450088e7eb8e83538c039a5ee5cd46ef12008e3896716c74ea8bf1f672834", func := "drumline/drumlinelaw14.VoteSame", spec := "voteSame", unfollowed := true, recurses := true, apart := false }
def VoteSameSaid : Prop := voteSameRow.holds Try.pinned (OpenSpec.ofChange voteSameSpec)

/-- ITS FALSE NEIGHBOUR: 'it returns false'. Refute it at one input. -/
def voteSameWrong : ChangeSpec := { name := "voteSame", fn := fun _ => fun
  | [d1, d2, d3] => { results := [.lit (.bool false)], args := [d1, d2, d3] }
  | _ => none }
def VoteSameWrongFalsely : Prop := voteSameRow.holds Try.pinned (OpenSpec.ofChange voteSameWrong)

/- THE SECOND FORM. 'bulk': how many values and letters a reading holds, each counted each time it is reached (what is shared counts as often as it is met; a slice's spare places count too). A statement '..UptoSaid' is the law's where the arguments, and the package variables that the reading takes, are together of bulk at most 1048576: NARROWER than '..Said'. Prove '..Said' where nothing that the law and all that it calls make is longer than what came in: it says more and counts as full. Else prove '..UptoSaid'. A law counts once. -/
mutual
def uptoBulk {H : Type} : DataW H → Nat
  | .lit (.string bytes) => bytes.length + 1
  | .lit _ => 1
  | .nil => 1
  | .ptr d => uptoBulk d + 1
  | .slice elems spare => uptoBulkAll elems + uptoBulkAll spare + 1
  | .agg parts => uptoBulkAll parts + 1
  | .iface _ d => uptoBulk d + 1
  | .map entries => uptoBulkEntries entries + 1
  | .held _ => 1
def uptoBulkAll {H : Type} : List (DataW H) → Nat
  | [] => 0
  | d :: r => uptoBulk d + uptoBulkAll r
def uptoBulkEntries {H : Type} : List (Lit × DataW H) → Nat
  | [] => 0
  | x :: r => uptoBulkEntry x + uptoBulkEntries r
def uptoBulkEntry {H : Type} : Lit × DataW H → Nat
  | (.string bytes, d) => bytes.length + uptoBulk d + 1
  | (_, d) => uptoBulk d + 1
 end
def uptoSmall : (H : Type) → List (DataW H) → Bool := fun _ ds => decide (uptoBulkAll ds ≤ 1048576)
def OpenSpec.upto (s : _root_.Go.ChangeSpec) : _root_.Go.OpenSpec := { _root_.Go.OpenSpec.ofChange s with cond := some uptoSmall }

/-- 'drumlinelaw14.VoteTells', WHERE WHAT IT READS IS OF BULK AT MOST 1048576: true; the input reads as it did. -/
def voteTellsUptoRow : OpenClaim := { program := "ytkhdnlkdcikdmaa", sum := "11f450088e7eb8e83538c039a5ee5cd46ef12008e3896716c74ea8bf1f672834", func := "drumline/drumlinelaw14.VoteTells", spec := "voteTells", unfollowed := true, recurses := true, apart := false, narrowed := true }
def VoteTellsUptoSaid : Prop := voteTellsUptoRow.holds Try.pinned (OpenSpec.upto voteTellsSpec)

/-- 'drumlinelaw14.VoteBackers', WHERE WHAT IT READS IS OF BULK AT MOST 1048576: true; the input reads as it did. -/
def voteBackersUptoRow : OpenClaim := { program := "ytkhdnlkdcikdmaa", sum := "11f450088e7eb8e83538c039a5ee5cd46ef12008e3896716c74ea8bf1f672834", func := "drumline/drumlinelaw14.VoteBackers", spec := "voteBackers", unfollowed := true, recurses := true, apart := false, narrowed := true }
def VoteBackersUptoSaid : Prop := voteBackersUptoRow.holds Try.pinned (OpenSpec.upto voteBackersSpec)

/-- 'drumlinelaw14.VoteMost', WHERE WHAT IT READS IS OF BULK AT MOST 1048576: true; the input reads as it did. -/
def voteMostUptoRow : OpenClaim := { program := "ytkhdnlkdcikdmaa", sum := "11f450088e7eb8e83538c039a5ee5cd46ef12008e3896716c74ea8bf1f672834", func := "drumline/drumlinelaw14.VoteMost", spec := "voteMost", unfollowed := true, recurses := true, apart := false, narrowed := true }
def VoteMostUptoSaid : Prop := voteMostUptoRow.holds Try.pinned (OpenSpec.upto voteMostSpec)

/-- 'drumlinelaw14.VoteFaults', WHERE WHAT IT READS IS OF BULK AT MOST 1048576: true; the input reads as it did. -/
def voteFaultsUptoRow : OpenClaim := { program := "ytkhdnlkdcikdmaa", sum := "11f450088e7eb8e83538c039a5ee5cd46ef12008e3896716c74ea8bf1f672834", func := "drumline/drumlinelaw14.VoteFaults", spec := "voteFaults", unfollowed := true, recurses := true, apart := false, narrowed := true }
def VoteFaultsUptoSaid : Prop := voteFaultsUptoRow.holds Try.pinned (OpenSpec.upto voteFaultsSpec)

/-- 'drumlinelaw14.VoteSame', WHERE WHAT IT READS IS OF BULK AT MOST 1048576: true; the input reads as it did. -/
def voteSameUptoRow : OpenClaim := { program := "ytkhdnlkdcikdmaa", sum := "11f450088e7eb8e83538c039a5ee5cd46ef12008e3896716c74ea8bf1f672834", func := "drumline/drumlinelaw14.VoteSame", spec := "voteSame", unfollowed := true, recurses := true, apart := false, narrowed := true }
def VoteSameUptoSaid : Prop := voteSameUptoRow.holds Try.pinned (OpenSpec.upto voteSameSpec)

end Rows
end Go.Proofs.Ytkhdnlkdcikdmaa
