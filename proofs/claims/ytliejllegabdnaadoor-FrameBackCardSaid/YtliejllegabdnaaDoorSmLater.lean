/- A region whose order Go leaves open, in which calls make memory and other operations read: what reads is taken as soon as it may come up, and reads the same in every later world (nothing that was there turns); the calls come up one by one. -/
import Derived.Test.YtliejllegabdnaaDoorSmMem
import Derived.Deep.RegionHeld
namespace Go.Proofs.YtliejllegabdnaaDoor.Sm
open Go.RowKit

/-- u is later than w: what was there in w is there as it was. -/
def Later (w u : World) : Prop := Below w.heap.size w u
theorem Later.refl (w : World) : Later w w := Below.refl _ _
theorem Later.trans {w u v : World} (h : Later w u) (k : Later u v) : Later w v := Below.trans h (k.mono h.size)

section
variable {P : Program} {ops : Array Oper} {Q : Exit → Act → World → Prop}

theorem held_mono {md : Region.Mode} {S S' : World → Prop} (h : ∀ w, S w → S' w) : ∀ (fuel : Nat) (listed : Array Bool) (a : Act) (w : World), wpAnyH P md ops Q S fuel listed a w → wpAnyH P md ops Q S' fuel listed a w
  | 0, _, _, _, H => H
  | fuel + 1, _, _, _, H => ⟨H.1, fun i hi => wpOp_mono (fun a' w' h' => ⟨h w' h'.1, held_mono h fuel _ a' w' h'.2⟩) (H.2 i hi)⟩

theorem later_begin {id : Nat} {a : Act} {w : World} (hm : P.follows .mixedOrders = true) (h : wpAnyH P .any ops Q (Later w.drew) ops.size (Array.replicate ops.size false) a w.drew) : (Code.region id ops true).wp P Q a w :=
  wp_region_held hm h

/-- An operation that yields the same in every later world is taken now. -/
theorem later_take {i : Nat} {oi : Oper} {v : Value} {fuel : Nat} {listed : Array Bool} {a : Act} {w : World} (hi : ops[i]? = some oi)
    (hs : Region.noSelect ops = true) (hf : Region.free .any ops listed i = true) (hr : (Region.ready .any ops listed).contains i = true)
    (hQ : ∀ c a w, Q (.panic c) (a.put oi.dst v) w → Q (.panic c) a w) (hw : Region.wanted oi (yielded ops a.tmps) = true) (hy : ∀ u, Later w u → (execOp a.eval oi).run P u = .ok (.value v) u)
    (h : wpAnyH P .any ops Q (Later w) fuel (listed.setIfInBounds i true) (a.put oi.dst v) w) : wpAnyH P .any ops Q (Later w) (fuel + 1) listed a w :=
  wpAnyH_take hi hs hf hr hQ (.inl ⟨hw, hy⟩) (Later.refl w) h
/-- An operation whose guard says no. -/
theorem later_skip {i : Nat} {oi : Oper} {fuel : Nat} {listed : Array Bool} {a : Act} {w : World} (hi : ops[i]? = some oi)
    (hs : Region.noSelect ops = true) (hf : Region.free .any ops listed i = true) (hr : (Region.ready .any ops listed).contains i = true)
    (hQ : ∀ c a w, Q (.panic c) (a.put oi.dst undef) w → Q (.panic c) a w) (hw : Region.wanted oi (yielded ops a.tmps) = false)
    (h : wpAnyH P .any ops Q (Later w) fuel (listed.setIfInBounds i true) (a.put oi.dst undef) w) : wpAnyH P .any ops Q (Later w) (fuel + 1) listed a w :=
  wpAnyH_take hi hs hf hr hQ (.inr ⟨hw, rfl⟩) (Later.refl w) h
/-- The one operation that may come up: what follows goes on in a later world. -/
theorem later_call {i : Nat} {o : Oper} {fuel : Nat} {listed : Array Bool} {a : Act} {w : World} (ho : ops[i]? = some o) (hr : Region.ready .any ops listed = [i])
    (h : ∀ K' : Act → World → Prop, Shut (∀ a' w', Later w w' → wpAnyH P .any ops Q (Later w') fuel (listed.setIfInBounds i true) a' w' → K' a' w') →
      if Region.wanted o (yielded ops a.tmps) = true then Oper.wp P o a w K' Q else K' (a.put o.dst undef) w) : wpAnyH P .any ops Q (Later w) (fuel + 1) listed a w :=
  wpAnyH_all hr (by simp) fun j hj => by
    simp only [List.mem_singleton] at hj
    subst hj
    exact wpOp_step ho fun K' hK => h K' fun a' w' hb hW => hK a' w' ⟨hb, held_mono (fun _ hu => hb.trans hu) _ _ _ _ hW⟩
theorem later_done {listed : Array Bool} {a : Act} {w : World} (hr : Region.ready .any ops listed = []) (h : Q .normal a w) (fuel : Nat) : wpAnyH P .any ops Q (Later w) fuel listed a w := wpAnyH_done hr h fuel
end

/-- A row reads as its string in every later world. -/
theorem later_str {P : Program} {w : World} {a : Option Addr} {n c : Nat} {l : List UInt8} (h : Row8 w w.heap.size a n c l) {src dst e : TypeId}
    (hs : P.underlying src = some (.slice e)) (he : P.underlying e = some (.int .u8)) (hd : P.underlying dst = some .string) :
    ∀ u, Later w u → (convert src dst (.slice a n c)).run P u = .ok (.string (str l)) u := fun _ hu => conv_str (h.below hu) hs he hd
end Go.Proofs.YtliejllegabdnaaDoor.Sm
