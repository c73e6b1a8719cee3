/- Package plan's Port and Far. -/
import Derived.Test.YtaoobnikeicceaaGreatDoorPlS
import Derived.Test.YtaoobnikeicceaaGreatDoorPlLaw
import Derived.Test.YtaoobnikeicceaaGreatDoorHpTwo
namespace Go.Proofs.YtaoobnikeicceaaGreatDoor.Pl
open Go.RowKit Go.Proofs.YtaoobnikeicceaaGreatDoor.Sm Go.Proofs.YtaoobnikeicceaaGreatDoor.Dp
set_option maxHeartbeats 4000000
set_option maxRecDepth 100000
set_option linter.unusedVariables false
set_option linter.unusedSimpArgs false
/-- the port at a node of a part. -/
def portQ (c : Config) (part node : Int) : Option Port := if (checkP c).1 = 0 ∧ isB part c.parts.length = true then portP c.links part node c.links.length else none
theorem mem_portsOf (c : Config) (part : Int) (p : Port) : p ∈ portsOf c part ↔ portQ c part p.node = some p := by
  unfold portQ
  by_cases hc : (checkP c).1 = 0
  · rw [← (portsOf_perm hc part).mem_iff]
    have hr := raw_in (good_of hc) (part := part) c.links.length (Nat.le_refl _)
    by_cases hb : isB part c.parts.length = true
    · rw [if_pos ⟨hc, hb⟩]
      constructor
      · intro hm
        cases hx : portP c.links part p.node c.links.length with
        | none => exact absurd rfl (portP_none hx p hm)
        | some q =>
          have := portP_mem hx
          rw [inj_of hr.2 q this.1 p hm this.2]
      · exact fun h => (portP_mem h).1
    · rw [if_neg (fun h => hb h.2)]
      constructor
      · intro hm
        have := hr.1 p hm
        rw [isB_true] at hb
        exact absurd ⟨this.1, this.2.1⟩ hb
      · intro h; cases h
  · rw [if_neg (fun h => hc h.1)]
    unfold portsOf
    rw [if_neg (fun h => hc h.1)]
    simp
theorem portQ_node {c : Config} {part node : Int} {p : Port} (h : portQ c part node = some p) : p.node = node := by
  unfold portQ at h
  split at h
  · exact (portP_mem h).2
  · cases h
end Go.Proofs.YtaoobnikeicceaaGreatDoor.Pl
