/- Chapter 12: package gauge's Begin, Late, Spread; the document's own; the law's alive. -/
import Derived.Test.YtgklghpkfmoogaaGreatDoorCkOne
import Derived.Test.YtgklghpkfmoogaaGreatDoorDpOb
namespace Go.Proofs.YtgklghpkfmoogaaGreatDoor.Pl
open Go.RowKit Go.Proofs.YtgklghpkfmoogaaGreatDoor.Sm Go.Proofs.YtgklghpkfmoogaaGreatDoor.Dp
set_option maxHeartbeats 4000000
set_option maxRecDepth 100000
set_option linter.unusedVariables false
set_option linter.unusedSimpArgs false
theorem wrapS (i:Nat) (h:i<4611686018427387904):IntKind.i64.wrap ((i:Int)+1)=((i+1:Nat):Int):=by rw [Ev.wrap_i64 oM oM]; omega
def beginB (at_ arr:Int):Bool:=timeB at_&&timeB arr
def beginI (at_ p arr:Int):Int:=if beginB at_ arr=true then IntKind.i64.wrap (arr-realI at_ p) else 0
def behB (s at_ arr:Int):Bool:=beginB at_ arr&&timeB s
def behI (s at_ p arr:Int):Int:=if behB s at_ arr=true then IntKind.i64.wrap (beginI at_ p arr-s) else 0
def minN (l:List Int):Nat→Int
 | 0=>l.getD 0 default
 | i+1=>if l.getD i default<minN l i then l.getD i default else minN l i
def maxN (l:List Int):Nat→Int
 | 0=>l.getD 0 default
 | i+1=>if l.getD i default>maxN l i then l.getD i default else maxN l i
theorem minN_one (l:List Int):minN l 1=l.getD 0 default:=by simp [minN]
theorem maxN_one (l:List Int):maxN l 1=l.getD 0 default:=by simp [maxN]
def allN (p:Nat→Bool):Nat→Bool
 | 0=>true
 | i+1=>allN p i&&p i
theorem allN_iff (p:Nat→Bool):∀ n,allN p n=true↔∀ i,i<n→p i=true
 | 0=>⟨fun _ i h=>absurd h (Nat.not_lt_zero i),fun _=>rfl⟩
 | n+1=>by
  rw [allN,Bool.and_eq_true,allN_iff p n]
  exact ⟨fun h i hi=>(Nat.lt_succ_iff_lt_or_eq.1 hi).elim (h.1 i) (fun e=>e▸h.2),fun h=>⟨fun i hi=>h i oM,h n oM⟩⟩
theorem allN_no {p:Nat→Bool} {i n:Nat} (hi:i<n) (h:p i=false):allN p n=false:=by
 rw [← Bool.not_eq_true,allN_iff]
 intro h2
 rw [h2 i hi] at h
 cases h
def timesB (l:List Int):Bool:=allN (fun i=>timeB (l.getD i default)) l.length
def spreadB (l:List Int):Bool := !(l.length == 0)&&timesB l
def spreadI (l:List Int):Int:=if spreadB l=true then IntKind.i64.wrap (maxN l l.length-minN l l.length) else 0
theorem minN_le (l:List Int):∀ n i,i<n→minN l n≤l.getD i default
 | 0,_,h=>absurd h (Nat.not_lt_zero _)
 | n+1,i,h=>by
  rw [minN]
  rcases Nat.lt_succ_iff_lt_or_eq.1 h with h1|rfl
  ·have:=minN_le l n i h1
   split <;> omega
  ·split <;> omega
theorem le_maxN (l:List Int):∀ n i,i<n→l.getD i default≤maxN l n
 | 0,_,h=>absurd h (Nat.not_lt_zero _)
 | n+1,i,h=>by
  rw [maxN]
  rcases Nat.lt_succ_iff_lt_or_eq.1 h with h1|rfl
  ·have:=le_maxN l n i h1
   split <;> omega
  ·split <;> omega
theorem minN_mem (l:List Int):∀ n,0<n→∃ i,i<n∧minN l n=l.getD i default
 | 0,h=>absurd h (Nat.lt_irrefl 0)
 | n+1,_=>by
  rw [minN]
  split
  ·exact ⟨n,by omega,rfl⟩
  ·match n with
   | 0=>exact ⟨0,by omega,rfl⟩
   | m+1 =>
    obtain ⟨i,h1,h2⟩:=minN_mem l (m+1) oM
    exact ⟨i,by omega,h2⟩
theorem maxN_mem (l:List Int):∀ n,0<n→∃ i,i<n∧maxN l n=l.getD i default
 | 0,h=>absurd h (Nat.lt_irrefl 0)
 | n+1,_=>by
  rw [maxN]
  split
  ·exact ⟨n,by omega,rfl⟩
  ·match n with
   | 0=>exact ⟨0,by omega,rfl⟩
   | m+1 =>
    obtain ⟨i,h1,h2⟩:=maxN_mem l (m+1) oM
    exact ⟨i,by omega,h2⟩
theorem times_ends {l:List Int} (h:0<l.length):(timeB (minN l l.length)=true∧timeB (maxN l l.length)=true)↔timesB l=true:=by
 unfold timesB
 rw [allN_iff]
 constructor
 ·rintro ⟨h1,h2⟩ i hi
  rw [timeB_iff] at h1 h2
  have h3:=minN_le l _ i hi
  have h4:=le_maxN l _ i hi
  exact timeB_iff.2 oM
 ·intro h1
  obtain ⟨i,hi,e⟩:=minN_mem l _ h
  obtain ⟨j,hj,e'⟩:=maxN_mem l _ h
  rw [e,e']
  exact ⟨h1 i hi,h1 j hj⟩
theorem spread_no {l:List Int} (h:l.length=0∨timesB l=false):spreadB l=false:=by
 unfold spreadB
 rcases h with h|h <;> rw [h]
 ·rfl
 ·exact Bool.and_false _
theorem spread_yes {l:List Int} (h:¬ l.length=0) (h':timesB l=true):spreadB l=true:=by
 unfold spreadB
 rw [h',Bool.and_true]
 simpa using h
theorem gauge_isTime_pc (x:Int):PC Tryz.prog [] 23 [I x] (· = D.v (.bool (timeB x))):=by
 refine PC.of (N:=9) Tryz.func23 rfl rfl (Nat.le_of_ble_eq_true rfl) ?_
 refine PW.sr [0] 0 trivial ?_
 refine PW.sr [2] 0 trivial ?_
 refine PW.ret ?_
 refine retQ_ret (d:=D.v (.bool ((decide (x≥((-1099511627776):Int)))&&(decide (x≤(1099511627776:Int)))))) (ps:=[]) kR trivial ?_
 rfl
theorem gauge_Begin_pc (a p t:Int):PC Tryz.prog [] 12 [I a,I p,I t] (· = D.t [I (beginI a p t),D.v (.bool (beginB a t))]):=by
 refine PC.of (N:=21) Tryz.func12 rfl rfl (Nat.le_of_ble_eq_true rfl) ?_
 refine PW.sr [0,1,2] 0 trivial ?_
 refine PW.seq ?_
 refine PW.sg ?_
 refine PL.rw 1 [0,1,2,8] 0 trivial ?_
 refine PL.gc (A:=[]) (fun _=>gauge_isTime_pc a) ?_
 refine PL.rw 3 [0,1,2,11,12] 0 trivial ?_
 refine PL.gc (A:=[(11,false)]) (fun _=>gauge_isTime_pc t) ?_
 refine PL.rw 2 [0,1,2,15] 0 trivial ?_
 refine PL.nl ?_
 refine PW.cd ((!(timeB a))||(!(timeB t))) (fun hz0 => ?_) (fun hz0 => ?_)
 ·try simp only [boolS] at hz0
  refine PW.sr [6,7] 0 trivial ?_
  refine PW.ret ?_
  refine retQ_ret (d:=D.t [I 0,D.v (.bool false)]) (ps:=[]) kR trivial ?_
  have hn:beginB a t=false:=by unfold beginB; rw [← Bool.not_eq_true,Bool.and_eq_true]; grind
  rw [beginI,hn,if_neg (by simp)]
 ·try simp only [boolS] at hz0
  refine PW.skip ?_
  show PW _ _ _ _ _
  refine PW.sg ?_
  refine PL.rw 3 [16,17,18] 0 trivial ?_
  refine PL.gc (A:=[]) (fun _=>clock_Real_pc a p) ?_
  refine PL.rw 3 [6,7] 0 trivial ?_
  refine PL.nl ?_
  refine PW.ret ?_
  refine retQ_ret (d:=D.t [I (IntKind.i64.wrap (t-(realI a p))),D.v (.bool true)]) (ps:=[]) kR trivial ?_
  have hy:beginB a t=true:=by unfold beginB; rw [Bool.and_eq_true]; grind
  rw [beginI,hy,if_pos rfl]
theorem drumlineref10_Begin_pc (a p t:Int):PC Tryz.prog [] 18 [I a,I p,I t] (· = D.t [I (beginI a p t),D.v (.bool (beginB a t))]):=by
 refine PC.of (N:=21) Tryz.func18 rfl rfl (Nat.le_of_ble_eq_true rfl) ?_
 refine PW.sr [0,1,2] 0 trivial ?_
 refine PW.seq ?_
 refine PW.sg ?_
 refine PL.rw 1 [0,1,2,8] 0 trivial ?_
 refine PL.gc (A:=[]) (fun _=>drumlineref1_Time_pc a) ?_
 refine PL.rw 3 [0,1,2,11,12] 0 trivial ?_
 refine PL.gc (A:=[(11,false)]) (fun _=>drumlineref1_Time_pc t) ?_
 refine PL.rw 2 [0,1,2,15] 0 trivial ?_
 refine PL.nl ?_
 refine PW.cd ((!(timeB a))||(!(timeB t))) (fun hz0 => ?_) (fun hz0 => ?_)
 ·try simp only [boolS] at hz0
  refine PW.sr [6,7] 0 trivial ?_
  refine PW.ret ?_
  refine retQ_ret (d:=D.t [I 0,D.v (.bool false)]) (ps:=[]) kR trivial ?_
  have hn:beginB a t=false:=by unfold beginB; rw [← Bool.not_eq_true,Bool.and_eq_true]; grind
  rw [beginI,hn,if_neg (by simp)]
 ·try simp only [boolS] at hz0
  refine PW.skip ?_
  show PW _ _ _ _ _
  refine PW.sg ?_
  refine PL.rw 3 [16,17,18] 0 trivial ?_
  refine PL.gc (A:=[]) (fun _=>drumlineref5_Real_pc a p) ?_
  refine PL.rw 3 [6,7] 0 trivial ?_
  refine PL.nl ?_
  refine PW.ret ?_
  refine retQ_ret (d:=D.t [I (IntKind.i64.wrap (t-(realI a p))),D.v (.bool true)]) (ps:=[]) kR trivial ?_
  have hy:beginB a t=true:=by unfold beginB; rw [Bool.and_eq_true]; grind
  rw [beginI,hy,if_pos rfl]
theorem gauge_Late_pc (s a p t:Int):PC Tryz.prog [] 13 [I s,I a,I p,I t] (· = D.t [I (behI s a p t),D.v (.bool (behB s a t))]):=by
 refine PC.of (N:=29) Tryz.func13 rfl rfl (Nat.le_of_ble_eq_true rfl) ?_
 refine PW.sr [0,1,2,3] 0 trivial ?_
 refine PW.sg ?_
 refine PL.rw 3 [0,13,14,15] 0 trivial ?_
 refine PL.gc (A:=[]) (fun _=>gauge_Begin_pc a p t) ?_
 refine PL.rw 5 [0,10,11] 0 trivial ?_
 refine PL.nl ?_
 refine PW.seq ?_
 refine PW.sg ?_
 refine PL.rw 4 [0,10,21,22] 0 trivial ?_
 refine PL.gc (A:=[(21,false)]) (fun _=>gauge_isTime_pc s) ?_
 refine PL.rw 2 [0,10,25] 0 trivial ?_
 refine PL.nl ?_
 refine PW.cd ((!(beginB a t))||(!(timeB s))) (fun hz0 => ?_) (fun hz0 => ?_)
 ·try simp only [boolS] at hz0
  refine PW.sr [8,9] 0 trivial ?_
  refine PW.ret ?_
  refine retQ_ret (d:=D.t [I 0,D.v (.bool false)]) (ps:=[]) kR trivial ?_
  have hn:behB s a t=false:=by unfold behB; rw [← Bool.not_eq_true,Bool.and_eq_true]; grind
  rw [behI,hn,if_neg (by simp)]
 ·try simp only [boolS] at hz0
  refine PW.skip ?_
  show PW _ _ _ _ _
  refine PW.sr [8,9] 0 trivial ?_
  refine PW.ret ?_
  refine retQ_ret (d:=D.t [I (IntKind.i64.wrap ((beginI a p t)-s)),D.v (.bool true)]) (ps:=[]) kR trivial ?_
  have hy:behB s a t=true:=by unfold behB; rw [Bool.and_eq_true]; grind
  rw [behI,hy,if_pos rfl]
theorem slices_Min_pc (l:List Int) (hl:l.length<1000000) (h1:0<l.length):PC Tryz.prog [] 25 [sl' 1 (fun x=>[I x]) l] (· = I (minN l l.length)):=by
 refine PC.of (N:=25) Tryz.func25 rfl rfl (Nat.le_of_ble_eq_true rfl) ?_
 refine PW.sr [0] 0 trivial ?_
 refine PW.seq ?_
 refine PW.sr [0,7] 0 trivial ?_
 refine PW.cd (decide ((l.length:Int)<(1:Int))) (fun hz0 => ?_) (fun hz0 => ?_)
 ·try simp only [boolS] at hz0
  (exfalso; omega)
 ·try simp only [boolS] at hz0
  refine PW.skip ?_
  show PW _ _ _ _ _
  refine PW.sr [0,3] 0 (p:=(0≤(0:Int)∧(0:Int)<(l.length:Int))) oM ?_
  refine PW.seq ?_
  refine PW.sr [0,3,4] 0 trivial ?_
  refine PW.block ?_
  refine PW.lp (α := Nat×Int) (fun (i,m)=>{ tab:=[⟨0,[],sl' 1 (fun x=>[I x]) l⟩,⟨3,[],I m⟩,⟨4,[],I (i:Int)⟩],mem:=[] }) (fun (i,m)=>(1≤i∧i≤l.length)∧m=minN l i) (fun (i,m)=>l.length-i) [0,3,4] 0 (1,(l.getD 0 default)) ?_ ?_
  ·dsimp only
   exact ⟨by omega,(minN_one l).symm⟩
  rintro ⟨i,m⟩ hinv
  dsimp only at hinv
  show PW _ _ _ _ _
  refine PW.seq ?_
  refine PW.sr [0,3,4,15] 0 trivial ?_
  refine PW.cd (decide ((i:Int)<(l.length:Int))) (fun hz1 => ?_) (fun hz1 => ?_)
  ·try simp only [boolS] at hz1
   refine PW.skip ?_
   show PW _ _ _ _ _
   refine PW.seq ?_
   refine PW.block ?_
   refine PW.rr [0,3,4] 0 (p:=(0≤(i:Int)∧(i:Int)<(l.length:Int))) oM ?_
   show PW _ _ _ _ _
   refine PW.rr [0,3,4] 0 trivial ?_
   refine BackR.of (s1:={ tab:=[⟨0,[],sl' 1 (fun x=>[I x]) l⟩,⟨3,[],I (if (l.getD i default)<m then (l.getD i default) else m)⟩,⟨4,[],I (IntKind.i64.wrap ((i:Int)+1))⟩],mem:=[] }) (i+1,if (l.getD i default)<m then (l.getD i default) else m) kR kR ?_ ?_ ?_
   ·dsimp only
    rw [wrapS i oM]
    exact Rem.refl _
   ·dsimp only
    exact ⟨by omega,by rw [minN,← hinv.2]⟩
   ·dsimp only
    exact nD
  ·try simp only [boolS] at hz1
   refine PW.exit ?_
   show PW _ _ _ _ _
   refine PW.sr [2] 0 trivial ?_
   refine PW.ret ?_
   refine retQ_ret (d:=I m) (ps:=[]) kR trivial ?_
   rw [hinv.2,show i=l.length by omega]
theorem slices_Max_pc (l:List Int) (hl:l.length<1000000) (h1:0<l.length):PC Tryz.prog [] 26 [sl' 1 (fun x=>[I x]) l] (· = I (maxN l l.length)):=by
 refine PC.of (N:=25) Tryz.func26 rfl rfl (Nat.le_of_ble_eq_true rfl) ?_
 refine PW.sr [0] 0 trivial ?_
 refine PW.seq ?_
 refine PW.sr [0,7] 0 trivial ?_
 refine PW.cd (decide ((l.length:Int)<(1:Int))) (fun hz0 => ?_) (fun hz0 => ?_)
 ·try simp only [boolS] at hz0
  (exfalso; omega)
 ·try simp only [boolS] at hz0
  refine PW.skip ?_
  show PW _ _ _ _ _
  refine PW.sr [0,3] 0 (p:=(0≤(0:Int)∧(0:Int)<(l.length:Int))) oM ?_
  refine PW.seq ?_
  refine PW.sr [0,3,4] 0 trivial ?_
  refine PW.block ?_
  refine PW.lp (α := Nat×Int) (fun (i,m)=>{ tab:=[⟨0,[],sl' 1 (fun x=>[I x]) l⟩,⟨3,[],I m⟩,⟨4,[],I (i:Int)⟩],mem:=[] }) (fun (i,m)=>(1≤i∧i≤l.length)∧m=maxN l i) (fun (i,m)=>l.length-i) [0,3,4] 0 (1,(l.getD 0 default)) ?_ ?_
  ·dsimp only
   exact ⟨by omega,(maxN_one l).symm⟩
  rintro ⟨i,m⟩ hinv
  dsimp only at hinv
  show PW _ _ _ _ _
  refine PW.seq ?_
  refine PW.sr [0,3,4,15] 0 trivial ?_
  refine PW.cd (decide ((i:Int)<(l.length:Int))) (fun hz1 => ?_) (fun hz1 => ?_)
  ·try simp only [boolS] at hz1
   refine PW.skip ?_
   show PW _ _ _ _ _
   refine PW.seq ?_
   refine PW.block ?_
   refine PW.rr [0,3,4] 0 (p:=(0≤(i:Int)∧(i:Int)<(l.length:Int))) oM ?_
   show PW _ _ _ _ _
   refine PW.rr [0,3,4] 0 trivial ?_
   refine BackR.of (s1:={ tab:=[⟨0,[],sl' 1 (fun x=>[I x]) l⟩,⟨3,[],I (if (l.getD i default)>m then (l.getD i default) else m)⟩,⟨4,[],I (IntKind.i64.wrap ((i:Int)+1))⟩],mem:=[] }) (i+1,if (l.getD i default)>m then (l.getD i default) else m) kR kR ?_ ?_ ?_
   ·dsimp only
    rw [wrapS i oM]
    exact Rem.refl _
   ·dsimp only
    exact ⟨by omega,by rw [maxN,← hinv.2]⟩
   ·dsimp only
    exact nD
  ·try simp only [boolS] at hz1
   refine PW.exit ?_
   show PW _ _ _ _ _
   refine PW.sr [2] 0 trivial ?_
   refine PW.ret ?_
   refine retQ_ret (d:=I m) (ps:=[]) kR trivial ?_
   rw [hinv.2,show i=l.length by omega]
theorem gauge_Spread_pc (l:List Int) (hl:l.length<1000000):PC Tryz.prog [] 14 [sl' 1 (fun x=>[I x]) l] (· = D.t [I (spreadI l),D.v (.bool (spreadB l))]):=by
 refine PC.of (N:=24) Tryz.func14 rfl rfl (Nat.le_of_ble_eq_true rfl) ?_
 refine PW.sr [0] 0 trivial ?_
 refine PW.seq ?_
 refine PW.sr [0,8] 0 trivial ?_
 refine PW.cd ((l.length:Int) == (0:Int)) (fun hz0 => ?_) (fun hz0 => ?_)
 ·try simp only [boolS] at hz0
  refine PW.sr [2,3] 0 trivial ?_
  refine PW.ret ?_
  refine retQ_ret (d:=D.t [I 0,D.v (.bool false)]) (ps:=[]) kR trivial ?_
  rw [spreadI,spread_no (.inl oM),if_neg (by simp)]
 ·try simp only [boolS] at hz0
  refine PW.skip ?_
  show PW _ _ _ _ _
  refine PW.sg ?_
  refine PL.rw 1 [0,9] 0 trivial ?_
  refine PL.gc (A:=[]) (fun _=>slices_Min_pc l hl oM) ?_
  refine PL.rw 1 [10,11] 0 trivial ?_
  refine PL.gc (A:=[]) (fun _=>slices_Max_pc l hl oM) ?_
  refine PL.rw 2 [4,5] 0 trivial ?_
  refine PL.nl ?_
  refine PW.seq ?_
  refine PW.sg ?_
  refine PL.rw 1 [4,5,13] 0 trivial ?_
  refine PL.gc (A:=[]) (fun _=>gauge_isTime_pc (minN l l.length)) ?_
  refine PL.rw 3 [4,5,16,17] 0 trivial ?_
  refine PL.gc (A:=[(16,false)]) (fun _=>gauge_isTime_pc (maxN l l.length)) ?_
  refine PL.rw 2 [4,5,20] 0 trivial ?_
  refine PL.nl ?_
  refine PW.cd ((!(timeB (minN l l.length)))||(!(timeB (maxN l l.length)))) (fun hz1 => ?_) (fun hz1 => ?_)
  ·try simp only [boolS] at hz1
   refine PW.sr [2,3] 0 trivial ?_
   refine PW.ret ?_
   refine retQ_ret (d:=D.t [I 0,D.v (.bool false)]) (ps:=[]) kR trivial ?_
   rw [spreadI,spread_no (.inr (by rw [← Bool.not_eq_true,← times_ends oM]; grind)),if_neg (by simp)]
  ·try simp only [boolS] at hz1
   refine PW.skip ?_
   show PW _ _ _ _ _
   refine PW.sr [2,3] 0 trivial ?_
   refine PW.ret ?_
   refine retQ_ret (d:=D.t [I (IntKind.i64.wrap ((maxN l l.length)-(minN l l.length))),D.v (.bool true)]) (ps:=[]) kR trivial ?_
   rw [spreadI,spread_yes oM ((times_ends oM).1 (by grind)),if_pos rfl]
theorem ga1:beginI 230 0 1233=1003:=by kernel_rfl
theorem ga2:beginB 230 1233=true:=by kernel_rfl
theorem ga3:behI 1000 230 0 1233=3:=by kernel_rfl
theorem ga4:behB 1000 230 1233=true:=by kernel_rfl
theorem ga5:spreadI [5,9,7]=4:=by kernel_rfl
theorem ga6:spreadB [5,9,7]=true:=by kernel_rfl
theorem drumlinelaw12_alive_pc  : PC Tryz.prog [] 5 [] (· = D.v (.bool true)):=by
 refine PC.of (N:=39) Tryz.func5 rfl rfl (Nat.le_of_ble_eq_true rfl) ?_
 refine PW.sr [] 0 trivial ?_
 refine PW.sg ?_
 refine PL.gc (A:=[]) (fun _=>gauge_Begin_pc 230 0 1233) ?_
 refine PL.rw 5 [1,2] 0 trivial ?_
 refine PL.nl ?_
 refine PW.sg ?_
 refine PL.gc (A:=[]) (fun _=>gauge_Late_pc 1000 230 0 1233) ?_
 refine PL.rw 5 [1,2,3,4] 0 trivial ?_
 refine PL.nl ?_
 refine PW.sg ?_
 refine PL.rw 1 [1,2,3,4,16] 1 trivial ?_
 refine PL.sl [1,2,3,4,16] 1 ?_
 refine PL.eq (s':={ tab:=[⟨1,[],I (beginI 230 0 1233)⟩,⟨2,[],D.v (.bool (beginB 230 1233))⟩,⟨3,[],I (behI 1000 230 0 1233)⟩,⟨4,[],D.v (.bool (behB 1000 230 1233))⟩,⟨16,[],D.h 0 3⟩],mem:=[Obj.row 2 1 3 (fun k=>([[I 5],[I 9],[I 7]][k]?).getD [])] }) kR ?_
 refine PL.frzR 0 (t:=2) (z:=1) (m:=3) (f:=(fun k=>([[I 5],[I 9],[I 7]][k]?).getD [])) (f':=(fun i=>[I (([5,9,7]).getD i default)])) (s':={ tab:=[⟨1,[],I (beginI 230 0 1233)⟩,⟨2,[],D.v (.bool (beginB 230 1233))⟩,⟨3,[],I (behI 1000 230 0 1233)⟩,⟨4,[],D.v (.bool (behB 1000 230 1233))⟩,⟨16,[],sl' 1 (fun x=>[I x]) ([5,9,7])⟩],mem:=[Obj.dead] }) rfl (fun j hj=>match j,hj with|0,_=>rfl|1,_=>rfl|2,_=>rfl|j+3,hj=>absurd hj oM) (Nat.zero_le _) kR ?_
 refine PL.gc (A:=[]) (fun _=>gauge_Spread_pc ([5,9,7]) (by first|omega|decide)) ?_
 refine PL.rw 5 [1,2,3,4,5,6] 1 trivial ?_
 refine PL.nl ?_
 refine PW.sr [0] 1 trivial ?_
 refine PW.ret ?_
 refine retQ_ret (d:=D.v (.bool (((((((beginI 230 0 1233) == (1003:Int))&&(beginB 230 1233))&&((behI 1000 230 0 1233) == (3:Int)))&&(behB 1000 230 1233))&&((spreadI ([5,9,7])) == (4:Int)))&&(spreadB ([5,9,7]))))) (ps:=[]) kR trivial ?_
 rw [ga1,ga2,ga3,ga4,ga5,ga6]
 rfl
end Go.Proofs.YtgklghpkfmoogaaGreatDoor.Pl
