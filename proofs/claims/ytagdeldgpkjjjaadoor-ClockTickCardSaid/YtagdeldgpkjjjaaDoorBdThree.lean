/- Package bounds' longest, checkTimes, checkWaits. -/
import Derived.Test.YtagdeldgpkjjjaaDoorBdTwo
import Derived.Test.YtagdeldgpkjjjaaDoorPlPortB
namespace Go.Proofs.YtagdeldgpkjjjaaDoor.Pl
open Go.RowKit Go.Proofs.YtagdeldgpkjjjaaDoor.Sm Go.Proofs.YtagdeldgpkjjjaaDoor.Dp
set_option maxHeartbeats 4000000
set_option maxRecDepth 100000
set_option linter.unusedVariables false
set_option linter.unusedSimpArgs false
/-- how many slots the part with the most needs, of the first i. -/
def slotsN (c : Config) : Nat → Int
  | 0 => 0
  | i + 1 => if 3 * ((portsOf c (i : Int)).length : Int) + (c.parts.getD i default).nodes > slotsN c i then 3 * ((portsOf c (i : Int)).length : Int) + (c.parts.getD i default).nodes else slotsN c i
def longI (c : Config) : Int := c.lead + slotsN c c.parts.length * c.slot + c.window
def timesI (c : Config) : Int :=
  if c.window < 3 * edgeI c ∨ 20000 < c.window then 6 else if c.slot < 2 * c.window + 1 ∨ 1000000 < c.slot then 7 else if c.lead < c.window ∨ 1000000 < c.lead then 8
  else if c.cycle < longI c then 9 else if c.rate * c.cycle < jumpI c * 1000000 then 10 else 0
def waitsI (c : Config) : Int :=
  if c.ages < ((c.parts.length : Int) - 1) * (c.lost + 1) + 1 then 11 else if c.listen < (c.parts.length : Int) * (c.lost + 1) + 2 ∨ 60000 < c.listen then 12
  else if c.span < (c.parts.length : Int) * (c.lost + 1) + 2 ∨ 60000 < c.span then 13 else if 60000 < c.listen + (c.parts.length : Int) * c.span then 14 else if c.room < (c.parts.length : Int) + 2 ∨ 64 < c.room then 15 else 0
theorem nodes_in {c : Config} (hg : (checkP c).1 = 0) {i : Nat} (hi : i < c.parts.length) : 1 ≤ (c.parts.getD i default).nodes ∧ (c.parts.getD i default).nodes ≤ 12 := by
  have := good_nodes (good_of hg) (part := (i : Int)) ⟨by omega, by omega⟩
  simpa using this
theorem slotsN_in {c : Config} (hg : (checkP c).1 = 0) : ∀ i, i ≤ c.parts.length → 0 ≤ slotsN c i ∧ slotsN c i ≤ 48
  | 0, _ => by simp [slotsN]
  | i + 1, hi => by
    have h1 := slotsN_in hg i (by omega)
    have h2 := nodes_in hg (i := i) (by omega)
    have h3 := portsOf_len c (i : Int)
    unfold slotsN
    split <;> omega
theorem parts_in {c : Config} (hg : (checkP c).1 = 0) : 1 ≤ c.parts.length ∧ c.parts.length ≤ 6 := (good_of hg).len
end Go.Proofs.YtagdeldgpkjjjaaDoor.Pl
