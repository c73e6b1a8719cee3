/- Chapter 8's laws ClockApart, ClockTick. -/
import Derived.Test.YtgklghpkfmoogaaGreatDoorCkLaw
import Derived.Test.YtgklghpkfmoogaaGreatDoorBdFour
import Derived.Test.YtgklghpkfmoogaaGreatDoorMdFits
import Derived.Test.YtgklghpkfmoogaaGreatDoorMdA
namespace Go.Proofs.YtgklghpkfmoogaaGreatDoor.Pl
open Go.RowKit Go.Proofs.YtgklghpkfmoogaaGreatDoor.Sm Go.Proofs.YtgklghpkfmoogaaGreatDoor.Dp
set_option maxHeartbeats 4000000
set_option maxRecDepth 100000
set_option linter.unusedVariables false
set_option linter.unusedSimpArgs false
theorem real_apart {c:Config} (hR:InR c) {x p q r:Int} (hx:0≤x∧x≤c.cycle) (hp : -c.drift≤p∧p≤c.drift) (hq : -c.drift≤q∧q≤c.drift) (hr : -c.rate≤r∧r≤c.rate) : -edgeI c<realI x (p+r)-realI x (q+r)∧realI x (p+r)-realI x (q+r)<edgeI c:=by
 have r1:=hR.cyc
 have r2:=hR.dri
 have r3:=hR.rat
 have r6:=hR.dc
 have r7:=hR.dc2
 have hu:=upI_in (n:=2*c.drift*c.cycle) oM
 have he:edgeI c=upI (2*c.drift*c.cycle)+1:=rfl
 rw [real_is oM oM,real_is oM oM]
 have h1:=mul_abs (x:=x) (p:=q-p) (A:=c.cycle) (B:=2*c.drift) oM oM oM
 have e1:c.cycle*(2*c.drift)=2*c.drift*c.cycle:=Int.mul_comm ..
 have e2:x*(q-p)=x*(q+r)-x*(p+r):=by rw [← Int.mul_sub]; congr 1; omega
 rw [e1,e2] at h1
 omega
theorem tick_near {c:Config} (hR:InR c) {u v p q r:Int} (hu:0≤u) (huv:u+v≤c.cycle) (hv:0≤v∧v≤2*edgeI c) (hp : -c.drift≤p∧p≤c.drift) (hq : -c.drift≤q∧q≤c.drift) (hr : -c.rate≤r∧r≤c.rate) : -tickI c≤localI (u+v) (p+r)-localI u (q+r)∧localI (u+v) (p+r)-localI u (q+r)≤tickI c:=by
 have r1:=hR.cyc
 have r2:=hR.dri
 have r3:=hR.rat
 have r6:=hR.dc
 have r7:=hR.dc2
 have r8:=hR.edg
 have r9:=hR.erd
 have h2:=upI_in (n:=2*c.drift*c.cycle) oM
 have h3:=upI_in (n:=2*edgeI c*(c.rate+c.drift)) oM
 have he:edgeI c=upI (2*c.drift*c.cycle)+1:=rfl
 have ht:tickI c=3*edgeI c+upI (2*edgeI c*(c.rate+c.drift))+1:=rfl
 rw [local_is oM oM,local_is oM oM]
 have h1:=mul_abs (x:=u+v) (p:=p-q) (A:=c.cycle) (B:=2*c.drift) oM oM oM
 have h4:=mul_abs (x:=v) (p:=q+r) (A:=2*edgeI c) (B:=c.rate+c.drift) oM oM oM
 have e1:c.cycle*(2*c.drift)=2*c.drift*c.cycle:=Int.mul_comm ..
 have e2:(u+v)*(p+r)=u*(q+r)+((u+v)*(p-q)+v*(q+r)):=by
  have a1:(u+v)*(p+r)=(u+v)*(p-q)+(u+v)*(q+r):=by rw [← Int.mul_add]; congr 1; omega
  rw [a1,Int.add_mul u v (q+r)]
  omega
 rw [e1] at h1
 rw [e2]
 generalize (u+v)*(p-q)=y at h1 ⊢
 generalize v*(q+r)=z at h4 ⊢
 generalize u*(q+r)=s
 generalize 2*edgeI c*(c.rate+c.drift)=m at h3 h4 ht ⊢
 generalize 2*c.drift*c.cycle=d at h1 h2 he ⊢
 omega
theorem local_in {x:Int} (p:Int) (hx : -1099511627776≤x∧x≤1099511627776) : -2199023255552≤localI x p∧localI x p≤2199023255552:=by
 have:=scale_in x p
 rw [localI,Ev.wrap_i64 oM oM]
 omega
theorem readI_is {s l p t:Int} (hs : -1099511627776≤s∧s≤1099511627776) (ht : -1099511627776≤t∧t≤1099511627776) (hd : -1099511627776≤t-s∧t-s≤1099511627776) (hl:1≤l∧l≤1000000) (hp : -1000000≤p∧p≤1000000):readB s 7 l p t=true∧readI s 7 l p t=7*l+localI (t-s) p:=by
 have e:=Ev.wrap_i64 (x:=t-s) oM oM
 have hb:readB s 7 l p t=true:=readB_iff.2 ⟨hs,ht,by rw [e]; exact hd,by omega,hl,hp⟩
 have hi:=local_in p hd
 refine ⟨hb,?_⟩
 rw [readI,if_pos hb,e,Ev.wrap_i64 (x:=7*l) oM oM,Ev.wrap_i64 oM oM]
theorem reads_law {c:Config} (hR:InR c) {a b m p q r:Int} (ha : -549755813888≤a∧a≤549755813888) (hb : -549755813888≤b∧b≤549755813888) (hab:a-b≤2*edgeI c∧b-a≤2*edgeI c) (hm:0≤m∧m<c.cycle-2*edgeI c) (hp : -c.drift≤p∧p≤c.drift) (hq : -c.drift≤q∧q≤c.drift) (hr : -c.rate≤r∧r≤c.rate) {t:Int} (ht:t=(if b>a then b else a)+m):readB a 7 c.cycle (p+r) t=true∧readB b 7 c.cycle (q+r) t=true ∧ -tickI c≤readI a 7 c.cycle (p+r) t-readI b 7 c.cycle (q+r) t∧readI a 7 c.cycle (p+r) t-readI b 7 c.cycle (q+r) t≤tickI c:=by
 have r1:=hR.cyc
 have r2:=hR.dri
 have r3:=hR.rat
 have r8:=hR.edg
 have ht':(a<b∧t=b+m)∨(b≤a∧t=a+m):=by
  by_cases h:b>a
  ·rw [if_pos h] at ht; exact .inl ⟨h,ht⟩
  ·rw [if_neg h] at ht; exact .inr ⟨by omega,ht⟩
 clear ht
 have k1:=readI_is (s:=a) (l:=c.cycle) (p:=p+r) (t:=t) oM oM oM oM oM
 have k2:=readI_is (s:=b) (l:=c.cycle) (p:=q+r) (t:=t) oM oM oM oM oM
 refine ⟨k1.1,k2.1,?_⟩
 rw [k1.2,k2.2]
 rcases ht' with ⟨h,e⟩|⟨h,e⟩
 ·have hn:=tick_near hR (u:=m) (v:=b-a) (p:=p) (q:=q) (r:=r) hm.1 oM oM hp hq hr
  rw [show m+(b-a)=t-a by omega] at hn
  rw [show t-b=m by omega]
  omega
 ·have hn:=tick_near hR (u:=m) (v:=a-b) (p:=q) (q:=p) (r:=r) hm.1 oM oM hq hp hr
  rw [show m+(a-b)=t-b by omega] at hn
  rw [show t-a=m by omega]
  omega
end Go.Proofs.YtgklghpkfmoogaaGreatDoor.Pl
