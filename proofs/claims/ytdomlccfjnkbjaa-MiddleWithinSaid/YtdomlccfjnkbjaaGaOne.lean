/- Chapter 12: package gauge's Begin, Late, Spread; the document's own; the law's alive. -/
import Derived.Test.YtdomlccfjnkbjaaCkOne
import Derived.Test.YtdomlccfjnkbjaaDpOb
namespace Go.Proofs.Ytdomlccfjnkbjaa.Pl
open Go.RowKit Go.Proofs.Ytdomlccfjnkbjaa.Sm Go.Proofs.Ytdomlccfjnkbjaa.Dp
set_option maxHeartbeats 4000000
set_option maxRecDepth 100000
set_option linter.unusedVariables false
set_option linter.unusedSimpArgs false
theorem wrapS (i:Nat) (h:i<4611686018427387904):IntKind.i64.wrap ((i:Int)+1)=((i+1:Nat):Int):=by rw [Ev.wrap_i64 oM oM]; omega
def beginB (at_ arr:Int):Bool:=timeB at_&&timeB arr
def beginI (at_ p arr:Int):Int:=if beginB at_ arr=true then IntKind.i64.wrap (arr-realI at_ p) else 0
def behB (s at_ arr:Int):Bool:=beginB at_ arr&&timeB s
def behI (s at_ p arr:Int):Int:=if behB s at_ arr=true then IntKind.i64.wrap (beginI at_ p arr-s) else 0
def minN (l:List Int):Nat→Int
 | 0=>l.getD 0 default
 | i+1=>if l.getD i default<minN l i then l.getD i default else minN l i
def maxN (l:List Int):Nat→Int
 | 0=>l.getD 0 default
 | i+1=>if l.getD i default>maxN l i then l.getD i default else maxN l i
theorem minN_one (l:List Int):minN l 1=l.getD 0 default:=by simp [minN]
theorem maxN_one (l:List Int):maxN l 1=l.getD 0 default:=by simp [maxN]
def allN (p:Nat→Bool):Nat→Bool
 | 0=>true
 | i+1=>allN p i&&p i
theorem allN_iff (p:Nat→Bool):∀ n,allN p n=true↔∀ i,i<n→p i=true
 | 0=>⟨fun _ i h=>absurd h (Nat.not_lt_zero i),fun _=>rfl⟩
 | n+1=>by
  rw [allN,Bool.and_eq_true,allN_iff p n]
  exact ⟨fun h i hi=>(Nat.lt_succ_iff_lt_or_eq.1 hi).elim (h.1 i) (fun e=>e▸h.2),fun h=>⟨fun i hi=>h i oM,h n oM⟩⟩
theorem allN_no {p:Nat→Bool} {i n:Nat} (hi:i<n) (h:p i=false):allN p n=false:=by
 rw [← Bool.not_eq_true,allN_iff]
 intro h2
 rw [h2 i hi] at h
 cases h
def timesB (l:List Int):Bool:=allN (fun i=>timeB (l.getD i default)) l.length
def spreadB (l:List Int):Bool := !(l.length == 0)&&timesB l
def spreadI (l:List Int):Int:=if spreadB l=true then IntKind.i64.wrap (maxN l l.length-minN l l.length) else 0
theorem minN_le (l:List Int):∀ n i,i<n→minN l n≤l.getD i default
 | 0,_,h=>absurd h (Nat.not_lt_zero _)
 | n+1,i,h=>by
  rw [minN]
  rcases Nat.lt_succ_iff_lt_or_eq.1 h with h1|rfl
  ·have:=minN_le l n i h1
   split <;> omega
  ·split <;> omega
theorem le_maxN (l:List Int):∀ n i,i<n→l.getD i default≤maxN l n
 | 0,_,h=>absurd h (Nat.not_lt_zero _)
 | n+1,i,h=>by
  rw [maxN]
  rcases Nat.lt_succ_iff_lt_or_eq.1 h with h1|rfl
  ·have:=le_maxN l n i h1
   split <;> omega
  ·split <;> omega
theorem minN_mem (l:List Int):∀ n,0<n→∃ i,i<n∧minN l n=l.getD i default
 | 0,h=>absurd h (Nat.lt_irrefl 0)
 | n+1,_=>by
  rw [minN]
  split
  ·exact ⟨n,by omega,rfl⟩
  ·match n with
   | 0=>exact ⟨0,by omega,rfl⟩
   | m+1 =>
    obtain ⟨i,h1,h2⟩:=minN_mem l (m+1) oM
    exact ⟨i,by omega,h2⟩
theorem maxN_mem (l:List Int):∀ n,0<n→∃ i,i<n∧maxN l n=l.getD i default
 | 0,h=>absurd h (Nat.lt_irrefl 0)
 | n+1,_=>by
  rw [maxN]
  split
  ·exact ⟨n,by omega,rfl⟩
  ·match n with
   | 0=>exact ⟨0,by omega,rfl⟩
   | m+1 =>
    obtain ⟨i,h1,h2⟩:=maxN_mem l (m+1) oM
    exact ⟨i,by omega,h2⟩
theorem times_ends {l:List Int} (h:0<l.length):(timeB (minN l l.length)=true∧timeB (maxN l l.length)=true)↔timesB l=true:=by
 unfold timesB
 rw [allN_iff]
 constructor
 ·rintro ⟨h1,h2⟩ i hi
  rw [timeB_iff] at h1 h2
  have h3:=minN_le l _ i hi
  have h4:=le_maxN l _ i hi
  exact timeB_iff.2 oM
 ·intro h1
  obtain ⟨i,hi,e⟩:=minN_mem l _ h
  obtain ⟨j,hj,e'⟩:=maxN_mem l _ h
  rw [e,e']
  exact ⟨h1 i hi,h1 j hj⟩
theorem spread_no {l:List Int} (h:l.length=0∨timesB l=false):spreadB l=false:=by
 unfold spreadB
 rcases h with h|h <;> rw [h]
 ·rfl
 ·exact Bool.and_false _
theorem spread_yes {l:List Int} (h:¬ l.length=0) (h':timesB l=true):spreadB l=true:=by
 unfold spreadB
 rw [h',Bool.and_true]
 simpa using h
theorem drumlineref10_times_pc (l:List Int) (hl:l.length<1000000):PC Try.prog [] 19 [sl' 1 (fun x=>[I x]) l] (· = D.v (.bool (timesB l))):=by
 refine PC.of (N:=16) Try.func19 rfl rfl (Nat.le_of_ble_eq_true rfl) ?_
 refine PW.a [0] 0 (PW.q [0,3] 0 (PW.block (PW.lp (α := Nat) (fun i=>{ tab:=[⟨0,[],sl' 1 (fun x=>[I x]) l⟩,⟨3,[],I (i:Int)⟩],mem:=[] }) (fun i=>i≤l.length∧∀ k,k<i→timeB (l.getD k default)=true) (fun i=>l.length-i) [0,3] 0 (0) ?_ ?_)))
 ·exact ⟨Nat.zero_le _,fun k hk=>absurd hk (Nat.not_lt_zero k)⟩
 rintro i hinv
 show PW _ _ _ _ _
 refine PW.q [0,3,7] 0 (PW.cd (decide ((i:Int)<(l.length:Int))) (fun hz0 => ?_) (fun hz0 => ?_))
 ·try simp only [boolS] at hz0
  refine PW.k (PW.seq (PW.block (PW.sg (PL.rw 4 [0,3,13] 0 (p:=(0≤(i:Int)∧(i:Int)<(l.length:Int))) oM (PL.gc (A:=[]) (fun _=>drumlineref1_Time_pc (l.getD i default)) (PL.n 1 [0,3,15] 0 (PW.cd (!(timeB (l.getD i default))) (fun hz1 => ?_) (fun hz1 => ?_))))))))
  ·try simp only [boolS] at hz1
   refine PW.t [2] 0 (retQ_ret (d:=D.v (.bool false)) (ps:=[]) kR trivial ?_)
   unfold timesB
   rw [allN_no (i:=i) oM (by simpa using hz1)]
  ·try simp only [boolS] at hz1
   refine PW.k (PW.b [0,3] 0 ?_)
   refine BackR.of (s1:={ tab:=[⟨0,[],sl' 1 (fun x=>[I x]) l⟩,⟨3,[],I (IntKind.i64.wrap ((i:Int)+1))⟩],mem:=[] }) (i+1) kR kR ?_ ?_ ?_
   ·rw [wrapS i oM]
    exact Rem.refl _
   ·exact ⟨by omega,fun k hk=>(Nat.lt_succ_iff_lt_or_eq.1 hk).elim (hinv.2 k) (fun e=>by rw [e]; simpa using hz1)⟩
   ·exact nD
 ·try simp only [boolS] at hz0
  refine PW.e (PW.t [2] 0 (retQ_ret (d:=D.v (.bool true)) (ps:=[]) kR trivial ?_))
  unfold timesB
  rw [(allN_iff _ _).2 fun k hk=>hinv.2 k oM]
theorem ga1:beginI 230 0 1233=1003:=by kernel_rfl
theorem ga2:beginB 230 1233=true:=by kernel_rfl
theorem ga3:behI 1000 230 0 1233=3:=by kernel_rfl
theorem ga4:behB 1000 230 1233=true:=by kernel_rfl
theorem ga5:spreadI [5,9,7]=4:=by kernel_rfl
theorem ga6:spreadB [5,9,7]=true:=by kernel_rfl
end Go.Proofs.Ytdomlccfjnkbjaa.Pl
