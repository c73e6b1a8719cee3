/- Chapter 8's laws alive, ClockTells, ClockReads, ClockRounds, ClockThere, ClockOrder. -/
import Derived.Test.YtgklghpkfmoogaaGreatDoorCkOne
namespace Go.Proofs.YtgklghpkfmoogaaGreatDoor.Pl
open Go.RowKit Go.Proofs.YtgklghpkfmoogaaGreatDoor.Sm Go.Proofs.YtgklghpkfmoogaaGreatDoor.Dp
set_option maxHeartbeats 4000000
set_option maxRecDepth 100000
set_option linter.unusedVariables false
set_option linter.unusedSimpArgs false
theorem ck1:realI 20000 100=19998:=by kernel_rfl
theorem ck2:localI 19998 100=19999:=by kernel_rfl
theorem tmod_abs {a b:Int} (hb:1≤b) : -b<a.tmod b∧a.tmod b<b:=⟨tmod_lo hb,Int.tmod_lt_of_pos a oM⟩
theorem scale_is {x p:Int} (hx : -1099511627776≤x∧x≤1099511627776) (hp : -1000000≤p∧p≤1000000):scaleI x p=x*p/1000000:=if_pos ⟨hx,hp⟩
theorem real_is {x p:Int} (hx : -1099511627776≤x∧x≤1099511627776) (hp : -1000000≤p∧p≤1000000):realI x p=x-x*p/1000000:=by
 have:=scale_in x p
 have e:=scale_is hx hp
 rw [realI,Ev.wrap_i64 oM oM,e]
theorem local_is {x p:Int} (hx : -1099511627776≤x∧x≤1099511627776) (hp : -1000000≤p∧p≤1000000):localI x p=x+x*p/1000000:=by
 have:=scale_in x p
 have e:=scale_is hx hp
 rw [localI,Ev.wrap_i64 oM oM,e]
theorem there {n p:Int} (hn : -1000000≤n∧n≤1000000) (hp : -1000≤p∧p≤1000) : -3≤IntKind.i64.wrap (localI (realI n p) p-n)∧IntKind.i64.wrap (localI (realI n p) p-n)≤3:=by
 have h1:=mul_abs (A:=1000000) (B:=1000) oM hn hp
 rw [real_is oM oM]
 have h2:=mul_abs (x:=n*p/1000000) (p:=p) (A:=1000) (B:=1000) oM oM hp
 rw [local_is oM oM,Int.sub_mul]
 generalize n*p/1000000*p=y at h2 ⊢
 generalize n*p=z at h1 h2 ⊢
 rw [Ev.wrap_i64 oM oM]
 omega
theorem order {x y a b:Int} (hx:0≤x) (hxy:x≤y) (hy:y≤4294967295) (ha : -1000000<a) (hab:a≤b) (hb:b<1000000):realI x b≤realI x a∧realI x a≤realI y a∧localI x a≤localI y b:=by
 rw [real_is oM oM,real_is oM oM,real_is oM oM,local_is oM oM,local_is oM oM]
 have h1:x*a≤x*b:=Int.mul_le_mul_of_nonneg_left hab hx
 have h2:(y-x)*a≤(y-x)*1000000:=Int.mul_le_mul_of_nonneg_left oM oM
 have h3:(y-x) * -1000000≤(y-x)*b:=Int.mul_le_mul_of_nonneg_left oM oM
 rw [Int.sub_mul,Int.sub_mul] at h2 h3
 omega
end Go.Proofs.YtgklghpkfmoogaaGreatDoor.Pl
