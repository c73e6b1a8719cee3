/- Chapter 12's law GaugeTrue. -/
import Derived.Test.YtgklghpkfmoogaaGreatDoorGaOne
import Derived.Test.YtgklghpkfmoogaaGreatDoorCkTwo
namespace Go.Proofs.YtgklghpkfmoogaaGreatDoor.Pl
open Go.RowKit Go.Proofs.YtgklghpkfmoogaaGreatDoor.Sm Go.Proofs.YtgklghpkfmoogaaGreatDoor.Dp
set_option maxHeartbeats 4000000
set_option maxRecDepth 100000
set_option linter.unusedVariables false
set_option linter.unusedSimpArgs false
theorem real_in' (x p:Int) (hx : -1099511627776≤x∧x≤1099511627776) : -2199023255552≤realI x p∧realI x p≤2199023255552:=by
 have:=scale_in x p
 rw [realI,Ev.wrap_i64 oM oM]
 omega
theorem begin_is {x p t:Int} (hx : -1099511627776≤x∧x≤1099511627776) (ht : -1099511627776≤t∧t≤1099511627776):beginB x t=true∧beginI x p t=t-realI x p:=by
 have hr:=real_in' x p hx
 have hb:beginB x t=true:=by
  unfold beginB
  rw [Bool.and_eq_true,timeB_iff,timeB_iff]
  exact ⟨hx,ht⟩
 refine ⟨hb,?_⟩
 rw [beginI,if_pos hb,Ev.wrap_i64 oM oM]
theorem real_small {c:Config} (hR:InR c) {x p r:Int} (hx:0≤x∧x≤c.cycle) (hp : -c.drift≤p∧p≤c.drift) (hr : -c.rate≤r∧r≤c.rate) : -2000000≤realI x (p+r)∧realI x (p+r)≤2000000:=by
 have r1:=hR.cyc
 have r2:=hR.dri
 have r3:=hR.rat
 have h1:=mul_abs (x:=x) (p:=p+r) (A:=1000000) (B:=1000000) oM oM oM
 rw [real_is oM oM]
 omega
end Go.Proofs.YtgklghpkfmoogaaGreatDoor.Pl
