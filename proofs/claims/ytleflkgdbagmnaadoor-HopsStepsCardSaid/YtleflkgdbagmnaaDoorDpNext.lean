/- Deep reckoning, more rules: in a region whose order is open, a read at its turn. No function of the program in it. -/
import Derived.Test.YtleflkgdbagmnaaDoorDpB
namespace Go.Proofs.YtleflkgdbagmnaaDoor.Dp
open Go.RowKit Go.Proofs.YtleflkgdbagmnaaDoor.Sm
open Go.Proofs.YtleflkgdbagmnaaDoor.Ev (Obl opnds dstB PT nx pt_put undef_bool pickB isRow_false seenL seenR seen_all resRun)
set_option maxHeartbeats 1000000
set_option linter.unusedVariables false
theorem PO1.val {P : Program} {N : Nat} {ops : Array Oper} {hs : List Nat} {n i : Nat} {listed : Array Bool} {Q : Exit → St → Prop} {s s' : St} {o : Oper} (dl : List Nat) (mm : Nat) {p : Prop} (ho : ops[i]? = some o) (hA : gpath ops s o = some []) (hd : dstB N [] o.dst = true) (hx : (valD P default s [] o).isSome = true) (hres : (s.put o.dst [] ((valD P default s [] o).getD (.any, [], [])).1).sel dl mm = s') (hu : s'.underB mm = true) (hmm : s.mem.length = mm) (hob : seenL ((valD P default s [] o).getD (.any, [], [])).2.1 = seenR ((valD P default s [] o).getD (.any, [], [])).2.1) (hne : andL ((valD P default s [] o).getD (.any, [], [])).2.2 = p) (hp : p) (h : PO P N ops hs n (listed.setIfInBounds i true) Q s') : PO1 P N ops hs n listed Q s i := fun κ B ρ a w0 w hI hb => by
  subst hres
  obtain ⟨x, hx⟩ := Option.isSome_iff_exists.1 hx
  rw [hx] at hu hob hne h
  obtain ⟨dv, ob, nd⟩ := x
  refine wpOp_of ho (val_step hI hA hd dv (fun hpt => valD_run hI hx (seen_all hob) (andL_all (show andL nd by rw [show andL nd = p from hne]; exact hp)) hpt) fun a' hI' => ?_)
  refine ⟨Agree.refl _ _ _, ?_⟩
  have hr : ρ.take mm = ρ := List.take_of_length_le (by rw [hI.len]; exact Nat.le_of_eq hmm)
  have := hI'.sel dl mm hu
  rw [hr] at this
  exact h κ B ρ a' w0 w this hb
end Go.Proofs.YtleflkgdbagmnaaDoor.Dp
