/- Several texts in one: MdDef MdOne MdTwo MdThree MdFour MdNets. -/
import Derived.ProofKit
import Derived.Test.YtdomlccfjnkbjaaGreatDoorFrEncM
import Derived.Test.YtdomlccfjnkbjaaGreatDoorDpC
namespace Go.Proofs.YtdomlccfjnkbjaaGreatDoor.Pl
open Go.RowKit Go.Proofs.YtdomlccfjnkbjaaGreatDoor.Sm Go.Proofs.YtdomlccfjnkbjaaGreatDoor.Dp
set_option maxHeartbeats 1000000
set_option linter.unusedVariables false
def andI (a b:Int):Int:=IntKind.i64.wrap ((BitVec.ofInt 64 a &&& BitVec.ofInt 64 b).toNat:Int)
theorem andI_mask (n:Int) (k:Nat) (hk:k≤62):andI n ((2^k-1:Nat):Int)=n%((2^k:Nat):Int):=by
 have hp:2^k≤2^62:=Nat.pow_le_pow_right oM hk
 have h0:0<2^k:=Nat.two_pow_pos k
 unfold andI
 rw [BitVec.toNat_and,BitVec.toNat_ofInt,BitVec.toNat_ofInt]
 rw [show (((2^k-1:Nat):Int)%((2^64:Nat):Int)).toNat=2^k-1 by
  rw [← Int.natCast_emod,Int.toNat_natCast,Nat.mod_eq_of_lt oM]]
 rw [Nat.and_two_pow_sub_one_eq_mod,Int.natCast_emod,Int.toNat_of_nonneg (Int.emod_nonneg _ (by decide)),Int.emod_emod_of_dvd n (Int.natCast_dvd_natCast.2 (Nat.pow_dvd_pow 2 oM))]
 have h1:0≤n%((2^k:Nat):Int):=Int.emod_nonneg _ oM
 have h2:n%((2^k:Nat):Int)<((2^k:Nat):Int):=Int.emod_lt_of_pos _ oM
 rw [Ev.wrap_i64 oM oM]
theorem andI_16 (n:Int):andI n 65535=n%65536:=andI_mask n 16 oM
theorem andI_1 (n:Int):andI n 1=n%2:=andI_mask n 1 oM
theorem andI_2 (n:Int):andI n 3=n%4:=andI_mask n 2 oM
theorem andI_3 (n:Int):andI n 7=n%8:=andI_mask n 3 oM
def cntL (ls:List Link) (part:Int):Nat→Int
 | 0=>0
 | n+1=>if (ls.getD n default).a=part∨(ls.getD n default).b=part then cntL ls part n+2 else cntL ls part n
def portsI (ls:List Link) (part:Int):Int:=cntL ls part ls.length
theorem cntL_in (ls:List Link) (part:Int):∀ n:Nat,0≤cntL ls part n∧cntL ls part n≤2*(n:Int)
 | 0=>by simp [cntL]
 | n+1=>by
  have:=cntL_in ls part n
  unfold cntL
  split <;> omega
def bump (ps:List Part) (a:Nat) (x:Int):List Part:=ps.set a ⟨if x>(ps.getD a default).nodes then x else (ps.getD a default).nodes,(ps.getD a default).faults⟩
theorem bump_len (ps:List Part) (a:Nat) (x:Int):(bump ps a x).length=ps.length:=by simp [bump]
def joinL (ls:List Link) (a b:Nat):Link:=⟨a,b,portsI ls a,portsI ls a+1,portsI ls b,portsI ls b+1⟩
def joinP (ps:List Part) (ls:List Link) (a b:Nat):List Part:=bump (bump ps a (portsI ls a+6)) b (portsI ls b+6)
def join (x:List Part×List Link) (a b:Nat):List Part×List Link:=(joinP x.1 x.2 a b,x.2++[joinL x.2 a b])
def netN (p:Nat) (sh:Int):Nat→List Part×List Link
 | 0=>(List.replicate p ⟨5,1⟩,[])
 | i+1=>join (netN p sh i) (if sh=2 then 0 else i) (i+1)
def netOf (p:Nat) (sh:Int):List Part×List Link:=if sh=1∧2<p then join (netN p sh (p-1)) 0 (p-1) else netN p sh (p-1)
theorem netN_len (p:Nat) (sh:Int):∀ i,(netN p sh i).1.length=p∧(netN p sh i).2.length=i
 | 0=>by simp [netN]
 | i+1=>by
  have:=netN_len p sh i
  simp [netN,join,joinP,bump_len,this]
theorem netOf_len (p:Nat) (sh:Int) (hp:1≤p):(netOf p sh).1.length=p∧(netOf p sh).2.length≤p:=by
 have:=netN_len p sh (p-1)
 unfold netOf
 split
 ·simp [join,joinP,bump_len,this]; omega
 ·rw [this.1,this.2]; omega
set_option maxHeartbeats 4000000
set_option maxRecDepth 100000
set_option linter.unusedSimpArgs false
def upI (n:Int):Int:=if 0<n.tmod 1000000 then n.tdiv 1000000+1 else n.tdiv 1000000
def edgeI (c:Config):Int:=upI (2*c.drift*c.cycle)+1
def outI (c:Config):Int :=
 if c.cycle<1000∨1000000<c.cycle then 1 else if c.drift<0∨500<c.drift then 2 else if c.rate<0∨400000<c.rate then 3
 else if c.ages<1∨200<c.ages then 4 else if c.lost<0∨20<c.lost then 5 else 0
def rangedB (c:Config):Bool:=goodB c 0&&outI c == (0:Int)
def edgeR (c:Config):Int:=if rangedB c=true then edgeI c else 0
theorem rangedB_true (c:Config):rangedB c=true↔goodB c 0=true∧outI c=0:=by simp [rangedB]
theorem outI_zero {c:Config}:outI c=0↔(1000≤c.cycle∧c.cycle≤1000000)∧(0≤c.drift∧c.drift≤500)∧(0≤c.rate∧c.rate≤400000)∧(1≤c.ages∧c.ages≤200)∧(0≤c.lost∧c.lost≤20):=by
 unfold outI
 repeat' split
 all_goals omega
theorem mul_in {a b A B:Int} (ha:0≤a) (hA:a≤A) (hb:0≤b) (hB:b≤B):0≤a*b∧a*b≤A*B:=⟨Int.mul_nonneg ha hb,Int.mul_le_mul hA hB hb oM⟩
theorem upI_in {n:Int} (h:0≤n):n≤upI n*1000000∧(upI n-1)*1000000<n∧0≤upI n∧upI n≤n:=by
 unfold upI
 rw [Int.tmod_eq_emod_of_nonneg h,Int.tdiv_eq_ediv_of_nonneg h]
 split <;> omega
theorem drift_cycle {c:Config} (h:outI c=0):0≤2*c.drift*c.cycle∧2*c.drift*c.cycle≤1000000000:=by
 obtain ⟨h1,h2, -⟩:=outI_zero.1 h
 have:=mul_in (a:=2*c.drift) (b:=c.cycle) (A:=1000) (B:=1000000) oM oM oM oM
 omega
theorem edgeI_in {c:Config} (h:outI c=0):1≤edgeI c∧edgeI c≤1001:=by
 have h1:=drift_cycle h
 have h2:=upI_in h1.1
 unfold edgeI
 omega
theorem edgeR_in (c:Config):0≤edgeR c∧edgeR c≤1001:=by
 unfold edgeR
 split
 ·rename_i h
  have:=edgeI_in ((rangedB_true c).1 h).2
  omega
 ·omega
theorem drumlineref26_ports_pc (c:Config) (part:Int) (hl0:c.links.length<1000000):PC Tryz.prog [] 46 [D.r (Config.d c),I part] (· = I (portsI c.links part)):=by
 refine PC.of (N:=35) Tryz.func46 rfl rfl (Nat.le_of_ble_eq_true rfl) ?_
 refine PW.a [1,2] 1 (PW.a [1,2,5] 1 (PW.q [1,2,5,6] 1 (PW.block (PW.lp (α := Nat×Int) (fun (i,x)=>{ tab:=[⟨1,[],I part⟩,⟨2,[],D.p 0 0 0 0⟩,⟨5,[],I x⟩,⟨6,[],I (i:Int)⟩],mem:=[Obj.var 30 (Config.d c)] }) (fun (i,x)=>i≤c.links.length∧x=cntL c.links part i) (fun (i,x)=>c.links.length-i) [1,2,5,6] 1 (0,0) ?_ ?_))))
 ·dsimp only
  exact ⟨Nat.zero_le _,rfl⟩
 rintro ⟨i,x⟩ hinv
 dsimp only at hinv
 have hx:=cntL_in c.links part i
 show PW _ _ _ _ _
 refine PW.q [1,2,5,6,11] 1 (PW.cd (decide ((i:Int)<(c.links.length:Int))) ?_ ?_) <;> intro hz0 <;> try simp only [boolS,isB_true,isB_false] at hz0
 ·refine PW.k (PW.seq (PW.block (PW.sr [1,2,5,6,31] 1 (p:=(0≤(i:Int)∧(i:Int)<(c.links.length:Int))∧(((((c.links.getD i default).a) == part)=false∧True→0≤(i:Int)∧(i:Int)<(c.links.length:Int)))) nD (PW.cd ((((c.links.getD i default).a) == part)||(((c.links.getD i default).b) == part)) ?_ ?_)))) <;> intro hz1 <;> try simp only [boolS,isB_true,isB_false] at hz1
  ·refine PW.b [1,2,5,6] 1 ?_
   show PW _ _ _ _ _
   refine PW.b [1,2,5,6] 1 ?_
   refine BackR.of (s1:={ tab:=[⟨1,[],I part⟩,⟨2,[],D.p 0 0 0 0⟩,⟨5,[],I (IntKind.i64.wrap (x+2))⟩,⟨6,[],I (IntKind.i64.wrap ((i:Int)+1))⟩],mem:=[Obj.var 30 (Config.d c)] }) (i+1,x+2) kR kR ?_ ?_ ?_
   ·dsimp only
    rw [wrap1 i oM]
    rw [Ev.wrap_i64 oM oM]
    exact Rem.refl _
   ·dsimp only
    refine ⟨by omega,?_⟩
    rw [cntL,← hinv.2]
    grind
   ·dsimp only
    exact nD
  ·refine PW.k (PW.b [1,2,5,6] 1 ?_)
   refine BackR.of (s1:={ tab:=[⟨1,[],I part⟩,⟨2,[],D.p 0 0 0 0⟩,⟨5,[],I x⟩,⟨6,[],I (IntKind.i64.wrap ((i:Int)+1))⟩],mem:=[Obj.var 30 (Config.d c)] }) (i+1,x) kR kR ?_ ?_ ?_
   ·dsimp only
    rw [wrap1 i oM]
    exact Rem.refl _
   ·dsimp only
    refine ⟨by omega,?_⟩
    rw [cntL,← hinv.2]
    grind
   ·dsimp only
    exact nD
 ·refine PW.e (PW.t [4] 1 (rq (I x) ?_))
  rw [hinv.2,show i=c.links.length by omega]
  rfl
theorem wrap_tdiv {n:Int} (h:0≤n) (h1:n≤4611686018427387904):IntKind.i64.wrap (n.tdiv 1000000)=n.tdiv 1000000:=by
 rw [Int.tdiv_eq_ediv_of_nonneg h]
 exact Ev.wrap_i64 oM oM
theorem wrap_tdiv1 {n:Int} (h:0≤n) (h1:n≤4611686018427387904):IntKind.i64.wrap (n.tdiv 1000000+1)=n.tdiv 1000000+1:=by
 rw [Int.tdiv_eq_ediv_of_nonneg h]
 exact Ev.wrap_i64 oM oM
theorem drumlineref1_Ceil_pc (n:Int) (h0:0≤n) (h1:n≤4611686018427387904):PC Tryz.prog [] 102 [I n,I 1000000] (· = D.t [I (upI n),D.v (.bool true)]):=by
 refine PC.of (N:=19) Tryz.func102 rfl rfl (Nat.le_of_ble_eq_true rfl) ?_
 refine PW.a [0,1] 0 (PW.q [0,1,8] 0 (PW.cd false (fun hz0=>by cases hz0) (fun hz0 => ?_)))
 refine PW.k (PW.sg (PL.row 4 [0,1,6] 0 (s':={ tab:=[⟨0,[],I n⟩,⟨1,[],I 1000000⟩,⟨6,[],I (IntKind.i64.wrap (n.tdiv 1000000))⟩],mem:=[] }) (p:=True) kR kR kR kR kR trivial (PL.eq (s':={ tab:=[⟨0,[],I n⟩,⟨1,[],I 1000000⟩,⟨6,[],I (n.tdiv 1000000)⟩],mem:=[] }) (by rw [wrap_tdiv h0 h1]) (PL.nl (PW.q [6,15] 0 (PW.cd (decide ((n.tmod 1000000)>(0:Int))) ?_ ?_)))))) <;> intro hz1 <;> try simp only [boolS,isB_true,isB_false] at hz1
 ·refine PW.region (PL.row 3 [6] 0 (s':={ tab:=[⟨6,[],I (IntKind.i64.wrap ((n.tdiv 1000000)+1))⟩],mem:=[] }) (p:=True) kR kR kR kR kR trivial (PL.eq (s':={ tab:=[⟨6,[],I (n.tdiv 1000000+1)⟩],mem:=[] }) (by rw [wrap_tdiv1 h0 h1]) (PL.nil ?_)))
  show PW _ _ _ _ _
  refine PW.t [4,5] 0 (rq (D.t [I (n.tdiv 1000000+1),D.v (.bool true)]) ?_)
  unfold upI
  rw [if_pos oM]
 ·refine PW.k (PW.t [4,5] 0 (rq (D.t [I (n.tdiv 1000000),D.v (.bool true)]) ?_))
  unfold upI
  rw [if_neg oM]
theorem drumlineref5_up_pc (n:Int) (h0:0≤n) (h1:n≤4611686018427387904):PC Tryz.prog [] 75 [I n] (· = I (upI n)):=by
 refine PC.of (N:=11) Tryz.func75 rfl rfl (Nat.le_of_ble_eq_true rfl) ?_
 refine PW.a [0] 0 (PW.w 1 [6] 0 (PL.gc (A:=[]) (fun _=>drumlineref1_Ceil_pc n oM oM) (PL.n 5 [3] 0 (PW.t [2] 0 (rq (I (upI n)) ?_)))))
 rfl
theorem drumlineref5_edge_pc (c:Config) (h:outI c=0):PC Tryz.prog [] 48 [D.r (Config.d c)] (· = I (edgeI c)):=by
 refine PC.of (N:=11) Tryz.func48 rfl rfl (Nat.le_of_ble_eq_true rfl) ?_
 have hdc:=drift_cycle h
 have hup:=upI_in hdc.1
 have ho:=outI_zero.1 h
 refine PW.a [1] 1 (PW.w 6 [8] 1 (PL.gc (G:=[]) (f:=75) (ds0:=[I (IntKind.i64.wrap ((IntKind.i64.wrap (2*c.drift))*c.cycle))]) (d:=I (upI (2*c.drift*c.cycle))) (A:=[]) (fun _=>(show IntKind.i64.wrap (IntKind.i64.wrap (2*c.drift)*c.cycle)=2*c.drift*c.cycle from by rw [Ev.wrap_i64 (x:=2*c.drift) oM oM,Ev.wrap_i64 oM oM])▸drumlineref5_up_pc (2*c.drift*c.cycle) oM oM) (PL.row 2 [2] 1 (s':={ tab:=[⟨2,[],I (IntKind.i64.wrap ((upI (2*c.drift*c.cycle))+1))⟩],mem:=[Obj.var 30 (Config.d c)] }) (p:=True) kR kR kR kR kR trivial (PL.eq (s':={ tab:=[⟨2,[],I (edgeI c)⟩],mem:=[Obj.var 30 (Config.d c)] }) (by rw [Ev.wrap_i64 (x:=upI (2*c.drift*c.cycle)+1) oM oM]; rfl) (PL.nl (PW.ret (rq (I (edgeI c)) ?_)))))))
 rfl
theorem drumlineref5_out_pc (c:Config):PC Tryz.prog [] 74 [D.r (Config.d c)] (· = I (outI c)):=by
 refine PC.of (N:=48) Tryz.func74 rfl rfl (Nat.le_of_ble_eq_true rfl) ?_
 refine PW.a [1] 1 (PW.seq (PW.block (PW.a [1,3] 1 (PW.cd ((decide (c.cycle<(1000:Int)))||(decide (c.cycle>(1000000:Int)))) ?_ ?_)))) <;> intro hz0 <;> try simp only [boolS,isB_true,isB_false] at hz0
 ·refine PW.t [2] 1 (rq (I 1) ?_)
  have ho:outI c=1:=by unfold outI; grind
  rw [ho]
 ·refine PW.a [1,12] 1 (PW.cd ((decide (c.drift<(0:Int)))||(decide (c.drift>(500:Int)))) ?_ ?_) <;> intro hz1 <;> try simp only [boolS,isB_true,isB_false] at hz1
  ·refine PW.t [2] 1 (rq (I 2) ?_)
   have ho:outI c=2:=by unfold outI; grind
   rw [ho]
  ·refine PW.a [1,21] 1 (PW.cd ((decide (c.rate<(0:Int)))||(decide (c.rate>(400000:Int)))) ?_ ?_) <;> intro hz2 <;> try simp only [boolS,isB_true,isB_false] at hz2
   ·refine PW.t [2] 1 (rq (I 3) ?_)
    have ho:outI c=3:=by unfold outI; grind
    rw [ho]
   ·refine PW.a [1,30] 1 (PW.cd ((decide (c.ages<(1:Int)))||(decide (c.ages>(200:Int)))) ?_ ?_) <;> intro hz3 <;> try simp only [boolS,isB_true,isB_false] at hz3
    ·refine PW.t [2] 1 (rq (I 4) ?_)
     have ho:outI c=4:=by unfold outI; grind
     rw [ho]
    ·refine PW.a [39] 1 (PW.cd ((decide (c.lost<(0:Int)))||(decide (c.lost>(20:Int)))) ?_ ?_) <;> intro hz4 <;> try simp only [boolS,isB_true,isB_false] at hz4
     ·refine PW.t [2] 1 (rq (I 5) ?_)
      have ho:outI c=5:=by unfold outI; grind
      rw [ho]
     ·refine PW.k (PW.t [2] 1 (rq (I 0) ?_))
      have ho:outI c=0:=by unfold outI; grind
      rw [ho]
theorem drumlineref5_ranged_pc (c:Config) (hp0:c.parts.length<1000000) (hl0:c.links.length<1000000):PC Tryz.prog [] 47 [D.r (Config.d c)] (· = D.v (.bool (rangedB c))):=by
 refine PC.of (N:=10) Tryz.func47 rfl rfl (Nat.le_of_ble_eq_true rfl) ?_
 refine PW.a [1] 1 (PW.w 1 [1,3] 1 (PL.gc (A:=[]) (fun _=>drumlineref5_Good_pc c 0 hp0 hl0) (PL.a 2 [5,6] 1 (PL.gc (A:=[(5,true)]) (fun _=>drumlineref5_out_pc c) (PL.n 3 [2] 1 (PW.ret (rq (D.v (.bool ((goodB c 0)&&((outI c) == (0:Int))))) ?_)))))))
 rfl
theorem drumlineref5_Edge_pc (c:Config) (hp0:c.parts.length<1000000) (hl0:c.links.length<1000000):PC Tryz.prog [] 23 [D.r (Config.d c)] (· = I (edgeR c)):=by
 refine PC.of (N:=8) Tryz.func23 rfl rfl (Nat.le_of_ble_eq_true rfl) ?_
 refine PW.a [1] 1 (PW.seq (PW.w 1 [1,3] 1 (PL.gc (A:=[]) (fun _=>drumlineref5_ranged_pc c hp0 hl0) (PL.n 1 [1,5] 1 (PW.cd (!(rangedB c)) ?_ ?_))))) <;> intro hz0 <;> try simp only [boolS,isB_true,isB_false] at hz0
 ·refine PW.t [2] 1 (rq (I 0) ?_)
  unfold edgeR
  rw [hz0]
  rfl
 ·refine PW.k (PW.w 1 [6] 1 (PL.gc (A:=[]) (fun _=>drumlineref5_edge_pc c ((rangedB_true c).1 hz0).2) (PL.n 1 [2] 1 (PW.ret (rq (I (edgeI c)) ?_)))))
  unfold edgeR
  rw [if_pos hz0]
theorem drumlineref26_joined_pc (xs:List Part) (ys:List Link) (k0 k1 k2 k3 k4 k5 k6 k7 k8 k9 k10:Int) (a b:Nat) (ha:a<xs.length) (hb:b<xs.length) (hx:xs.length<1000000) (hy:ys.length<1000000):PI Tryz.prog [] 22 [D.p 1 0 0 0,I (a:Int),I (b:Int)] [Obj.var 30 [D.v (.slice none 0 0),D.v (.slice none 0 0),I 0,I 0,I 0,I 0,I 0,I 0,I 0,I 0,I 0,I 0,I 0],Obj.var 30 [D.h 2 xs.length,D.h 3 ys.length,I k0,I k1,I k2,I k3,I k4,I k5,I k6,I k7,I k8,I k9,I k10],Obj.row 60 2 xs.length (fun j=>Part.d (xs.getD j default)),Obj.row 63 6 ys.length (fun j=>Link.d (ys.getD j default))] (fun d m=>d=D.r (Link.d (joinL ys a b))∧m=[Obj.var 30 [D.v (.slice none 0 0),D.v (.slice none 0 0),I 0,I 0,I 0,I 0,I 0,I 0,I 0,I 0,I 0,I 0,I 0],Obj.var 30 [D.h 2 xs.length,D.h 3 ys.length,I k0,I k1,I k2,I k3,I k4,I k5,I k6,I k7,I k8,I k9,I k10],Obj.row 60 2 xs.length (fun j=>Part.d ((joinP xs ys a b).getD j default)),Obj.row 63 6 ys.length (fun j=>Link.d (ys.getD j default)),Obj.var 63 [I ((joinL ys a b).a),I ((joinL ys a b).b),I ((joinL ys a b).pa0),I ((joinL ys a b).pa1),I ((joinL ys a b).pb0),I ((joinL ys a b).pb1)],Obj.var 63 [I ((joinL ys a b).a),I ((joinL ys a b).b),I ((joinL ys a b).pa0),I ((joinL ys a b).pa1),I ((joinL ys a b).pb0),I ((joinL ys a b).pb1)]]):=by
 refine PI.of (N:=70) Tryz.func22 rfl rfl (Nat.le_of_ble_eq_true rfl) ?_
 have hca:=cntL_in ys (a:Int) ys.length
 have hcb:=cntL_in ys (b:Int) ys.length
 have hpa:portsI ys (a:Int)=cntL ys (a:Int) ys.length:=rfl
 have hpb:portsI ys (b:Int)=cntL ys (b:Int) ys.length:=rfl
 have hwa:IntKind.i64.wrap (portsI ys (a:Int)+1)=portsI ys (a:Int)+1:=Ev.wrap_i64 oM oM
 have hwb:IntKind.i64.wrap (portsI ys (b:Int)+1)=portsI ys (b:Int)+1:=Ev.wrap_i64 oM oM
 have hwa6:IntKind.i64.wrap (portsI ys (a:Int)+6)=portsI ys (a:Int)+6:=Ev.wrap_i64 oM oM
 have hwb6:IntKind.i64.wrap (portsI ys (b:Int)+6)=portsI ys (b:Int)+6:=Ev.wrap_i64 oM oM
 refine PW.a [0,1,2,6] 5 (PW.a [0,1,2,6,7] 6 (PW.seq (PW.open [] kR (PO.a [0,1,2,3,5,6,7,8] 12 [0,1,2,6,7,15,16,20,21] 4 (PO.one (n:=3) 4 kR ?_)))))
 refine PO1.bo (ps:=[xs.length≤xs.length,ys.length≤ys.length]) _ (show (xs.length≤xs.length)∧(ys.length≤ys.length) from by exact nD) (drumlineref26_ports_pc ⟨xs,ys,k0,k1,k2,k3,k4,k5,k6,k7,k8,k9,k10⟩ (a:Int) (by show ys.length<1000000; omega)) ?_ rfl
 refine PO.one (n:=2) 9 kR ?_
 refine PO1.bo (ps:=[xs.length≤xs.length,ys.length≤ys.length]) _ (show (xs.length≤xs.length)∧(ys.length≤ys.length) from by exact nD) (drumlineref26_ports_pc ⟨xs,ys,k0,k1,k2,k3,k4,k5,k6,k7,k8,k9,k10⟩ (b:Int) (by show ys.length<1000000; omega)) ?_ rfl
 refine PO.a [10,11] 2 [0,1,2,6,7,8,9] 0 (PO.done kR ?_)
 show PW _ _ _ _ _
 refine PW.sg (PL.row 6 [0,1,2,6,7,8,9] 6 (s':={ tab:=[⟨0,[],D.p 1 0 0 0⟩,⟨1,[],I (a:Int)⟩,⟨2,[],I (b:Int)⟩,⟨6,[],D.p 4 0 0 0⟩,⟨7,[],D.p 5 0 0 0⟩,⟨8,[],I (portsI ys (a:Int))⟩,⟨9,[],I (portsI ys (b:Int))⟩],mem:=[Obj.var 30 [D.v (.slice none 0 0),D.v (.slice none 0 0),I 0,I 0,I 0,I 0,I 0,I 0,I 0,I 0,I 0,I 0,I 0],Obj.var 30 [D.h 2 xs.length,D.h 3 ys.length,I k0,I k1,I k2,I k3,I k4,I k5,I k6,I k7,I k8,I k9,I k10],Obj.row 60 2 xs.length (fun j=>Part.d (xs.getD j default)),Obj.row 63 6 ys.length (fun j=>Link.d (ys.getD j default)),Obj.var 63 [I 0,I 0,I 0,I 0,I 0,I 0],Obj.var 63 [I (a:Int),I (b:Int),I (portsI ys (a:Int)),I (IntKind.i64.wrap ((portsI ys (a:Int))+1)),I 0,I 0]],fx:=4 }) (p:=True) kR kR kR kR kR trivial (PL.eq (s':={ tab:=[⟨0,[],D.p 1 0 0 0⟩,⟨1,[],I (a:Int)⟩,⟨2,[],I (b:Int)⟩,⟨6,[],D.p 4 0 0 0⟩,⟨7,[],D.p 5 0 0 0⟩,⟨8,[],I (portsI ys (a:Int))⟩,⟨9,[],I (portsI ys (b:Int))⟩],mem:=[Obj.var 30 [D.v (.slice none 0 0),D.v (.slice none 0 0),I 0,I 0,I 0,I 0,I 0,I 0,I 0,I 0,I 0,I 0,I 0],Obj.var 30 [D.h 2 xs.length,D.h 3 ys.length,I k0,I k1,I k2,I k3,I k4,I k5,I k6,I k7,I k8,I k9,I k10],Obj.row 60 2 xs.length (fun j=>Part.d (xs.getD j default)),Obj.row 63 6 ys.length (fun j=>Link.d (ys.getD j default)),Obj.var 63 [I 0,I 0,I 0,I 0,I 0,I 0],Obj.var 63 [I (a:Int),I (b:Int),I (portsI ys (a:Int)),I (portsI ys (a:Int)+1),I 0,I 0]],fx:=4 }) (by rw [hwa]) (PL.nl (PW.sg (PL.row 6 [0,1,2,6,7,8,9] 6 (s':={ tab:=[⟨0,[],D.p 1 0 0 0⟩,⟨1,[],I (a:Int)⟩,⟨2,[],I (b:Int)⟩,⟨6,[],D.p 4 0 0 0⟩,⟨7,[],D.p 5 0 0 0⟩,⟨8,[],I (portsI ys (a:Int))⟩,⟨9,[],I (portsI ys (b:Int))⟩],mem:=[Obj.var 30 [D.v (.slice none 0 0),D.v (.slice none 0 0),I 0,I 0,I 0,I 0,I 0,I 0,I 0,I 0,I 0,I 0,I 0],Obj.var 30 [D.h 2 xs.length,D.h 3 ys.length,I k0,I k1,I k2,I k3,I k4,I k5,I k6,I k7,I k8,I k9,I k10],Obj.row 60 2 xs.length (fun j=>Part.d (xs.getD j default)),Obj.row 63 6 ys.length (fun j=>Link.d (ys.getD j default)),Obj.var 63 [I 0,I 0,I 0,I 0,I 0,I 0],Obj.var 63 [I (a:Int),I (b:Int),I (portsI ys (a:Int)),I (portsI ys (a:Int)+1),I (portsI ys (b:Int)),I (IntKind.i64.wrap ((portsI ys (b:Int))+1))]],fx:=4 }) (p:=True) kR kR kR kR kR trivial (PL.eq (s':={ tab:=[⟨0,[],D.p 1 0 0 0⟩,⟨1,[],I (a:Int)⟩,⟨2,[],I (b:Int)⟩,⟨6,[],D.p 4 0 0 0⟩,⟨7,[],D.p 5 0 0 0⟩,⟨8,[],I (portsI ys (a:Int))⟩,⟨9,[],I (portsI ys (b:Int))⟩],mem:=[Obj.var 30 [D.v (.slice none 0 0),D.v (.slice none 0 0),I 0,I 0,I 0,I 0,I 0,I 0,I 0,I 0,I 0,I 0,I 0],Obj.var 30 [D.h 2 xs.length,D.h 3 ys.length,I k0,I k1,I k2,I k3,I k4,I k5,I k6,I k7,I k8,I k9,I k10],Obj.row 60 2 xs.length (fun j=>Part.d (xs.getD j default)),Obj.row 63 6 ys.length (fun j=>Link.d (ys.getD j default)),Obj.var 63 [I 0,I 0,I 0,I 0,I 0,I 0],Obj.var 63 [I (a:Int),I (b:Int),I (portsI ys (a:Int)),I (portsI ys (a:Int)+1),I (portsI ys (b:Int)),I (portsI ys (b:Int)+1)]],fx:=4 }) (by rw [hwb]) (PL.nl ?_)))))))
 refine PW.seq (PW.open [2] kR (PO.tk [0,1,2,3,4,5,6,7,8,9,10,11,13,14] 19 [0,2,6,7,9,36,37,44,47] 5 (p:=(0≤(a:Int)∧(a:Int)<(xs.length:Int))) oM (fun _ _ h=>h) (PO.one (n:=4) 12 kR (PO1.val [0,2,6,7,9,36,37,45,47] 6 (s':={ tab:=[⟨0,[],D.p 1 0 0 0⟩,⟨2,[],I (b:Int)⟩,⟨6,[],D.p 4 0 0 0⟩,⟨7,[],D.p 5 0 0 0⟩,⟨9,[],I (portsI ys (b:Int))⟩,⟨36,[],D.h 2 xs.length⟩,⟨37,[],I (a:Int)⟩,⟨45,[],I ((xs.getD a default).nodes)⟩,⟨47,[],I (IntKind.i64.wrap ((portsI ys (a:Int))+6))⟩],mem:=[Obj.var 30 [D.v (.slice none 0 0),D.v (.slice none 0 0),I 0,I 0,I 0,I 0,I 0,I 0,I 0,I 0,I 0,I 0,I 0],Obj.var 30 [D.h 2 xs.length,D.h 3 ys.length,I k0,I k1,I k2,I k3,I k4,I k5,I k6,I k7,I k8,I k9,I k10],Obj.row 60 2 xs.length (fun j=>Part.d (xs.getD j default)),Obj.row 63 6 ys.length (fun j=>Link.d (ys.getD j default)),Obj.var 63 [I 0,I 0,I 0,I 0,I 0,I 0],Obj.var 63 [I (a:Int),I (b:Int),I (portsI ys (a:Int)),I (portsI ys (a:Int)+1),I (portsI ys (b:Int)),I (portsI ys (b:Int)+1)]],fx:=4 }) (p:=(a<xs.length)) rfl kR kR kR kR kR kR kR kR nD (PO.tk [15,16,17] 4 [0,2,6,7,9,48,50] 1 (p:=(0≤(a:Int)∧(a:Int)<(xs.length:Int))) oM (fun _ _ h=>h) (PO.one (n:=0) 18 kR (PO1.mm rfl [0,2,6,7,9] 6 (p:=(a<xs.length)) oM ?_)))))))
 refine PO.st 2 Part.d xs a (⟨if IntKind.i64.wrap ((portsI ys (a:Int))+6)>(xs.getD a default).nodes then IntKind.i64.wrap ((portsI ys (a:Int))+6) else (xs.getD a default).nodes,(xs.getD a default).faults⟩:Part) (PO.done kR ?_)
 show PW _ _ _ _ _
 refine PW.seq (PW.open [2] kR (PO.tk [0,1,2,3,4,5,6,7,8,9,10,11,13,14] 19 [6,7,54,55,62,65] 5 (p:=(0≤(b:Int)∧(b:Int)<(xs.length:Int))) oM (fun _ _ h=>h) (PO.one (n:=4) 12 kR (PO1.val [6,7,54,55,63,65] 6 (s':={ tab:=[⟨6,[],D.p 4 0 0 0⟩,⟨7,[],D.p 5 0 0 0⟩,⟨54,[],D.h 2 xs.length⟩,⟨55,[],I (b:Int)⟩,⟨63,[],I (((xs.set a (⟨if IntKind.i64.wrap ((portsI ys (a:Int))+6)>(xs.getD a default).nodes then IntKind.i64.wrap ((portsI ys (a:Int))+6) else (xs.getD a default).nodes,(xs.getD a default).faults⟩:Part)).getD b default).nodes)⟩,⟨65,[],I (IntKind.i64.wrap ((portsI ys (b:Int))+6))⟩],mem:=[Obj.var 30 [D.v (.slice none 0 0),D.v (.slice none 0 0),I 0,I 0,I 0,I 0,I 0,I 0,I 0,I 0,I 0,I 0,I 0],Obj.var 30 [D.h 2 xs.length,D.h 3 ys.length,I k0,I k1,I k2,I k3,I k4,I k5,I k6,I k7,I k8,I k9,I k10],Obj.row 60 2 xs.length (fun j=>Part.d ((xs.set a (⟨if IntKind.i64.wrap ((portsI ys (a:Int))+6)>(xs.getD a default).nodes then IntKind.i64.wrap ((portsI ys (a:Int))+6) else (xs.getD a default).nodes,(xs.getD a default).faults⟩:Part)).getD j default)),Obj.row 63 6 ys.length (fun j=>Link.d (ys.getD j default)),Obj.var 63 [I 0,I 0,I 0,I 0,I 0,I 0],Obj.var 63 [I (a:Int),I (b:Int),I (portsI ys (a:Int)),I (portsI ys (a:Int)+1),I (portsI ys (b:Int)),I (portsI ys (b:Int)+1)]],fx:=4 }) (p:=(b<xs.length)) rfl kR kR kR kR kR kR kR kR nD (PO.tk [15,16,17] 4 [6,7,66,68] 1 (p:=(0≤(b:Int)∧(b:Int)<(xs.length:Int))) oM (fun _ _ h=>h) (PO.one (n:=0) 18 kR (PO1.mm rfl [6,7] 6 (p:=(b<xs.length)) oM ?_)))))))
 refine PO.st 2 Part.d (xs.set a (⟨if IntKind.i64.wrap ((portsI ys (a:Int))+6)>(xs.getD a default).nodes then IntKind.i64.wrap ((portsI ys (a:Int))+6) else (xs.getD a default).nodes,(xs.getD a default).faults⟩:Part)) b (⟨if IntKind.i64.wrap ((portsI ys (b:Int))+6)>((xs.set a (⟨if IntKind.i64.wrap ((portsI ys (a:Int))+6)>(xs.getD a default).nodes then IntKind.i64.wrap ((portsI ys (a:Int))+6) else (xs.getD a default).nodes,(xs.getD a default).faults⟩:Part)).getD b default).nodes then IntKind.i64.wrap ((portsI ys (b:Int))+6) else ((xs.set a (⟨if IntKind.i64.wrap ((portsI ys (a:Int))+6)>(xs.getD a default).nodes then IntKind.i64.wrap ((portsI ys (a:Int))+6) else (xs.getD a default).nodes,(xs.getD a default).faults⟩:Part)).getD b default).nodes,((xs.set a (⟨if IntKind.i64.wrap ((portsI ys (a:Int))+6)>(xs.getD a default).nodes then IntKind.i64.wrap ((portsI ys (a:Int))+6) else (xs.getD a default).nodes,(xs.getD a default).faults⟩:Part)).getD b default).faults⟩:Part) (PO.done kR ?_)
 show PW _ _ _ _ _
 refine PW.t [6] 6 (retI_r (d:=D.r [I (a:Int),I (b:Int),I (portsI ys (a:Int)),I (portsI ys (a:Int)+1),I (portsI ys (b:Int)),I (portsI ys (b:Int)+1)]) (ps:=[]) (mem:=[Obj.var 30 [D.v (.slice none 0 0),D.v (.slice none 0 0),I 0,I 0,I 0,I 0,I 0,I 0,I 0,I 0,I 0,I 0,I 0],Obj.var 30 [D.h 2 xs.length,D.h 3 ys.length,I k0,I k1,I k2,I k3,I k4,I k5,I k6,I k7,I k8,I k9,I k10],Obj.row 60 2 xs.length (fun j=>Part.d (((xs.set a (⟨if IntKind.i64.wrap ((portsI ys (a:Int))+6)>(xs.getD a default).nodes then IntKind.i64.wrap ((portsI ys (a:Int))+6) else (xs.getD a default).nodes,(xs.getD a default).faults⟩:Part)).set b (⟨if IntKind.i64.wrap ((portsI ys (b:Int))+6)>((xs.set a (⟨if IntKind.i64.wrap ((portsI ys (a:Int))+6)>(xs.getD a default).nodes then IntKind.i64.wrap ((portsI ys (a:Int))+6) else (xs.getD a default).nodes,(xs.getD a default).faults⟩:Part)).getD b default).nodes then IntKind.i64.wrap ((portsI ys (b:Int))+6) else ((xs.set a (⟨if IntKind.i64.wrap ((portsI ys (a:Int))+6)>(xs.getD a default).nodes then IntKind.i64.wrap ((portsI ys (a:Int))+6) else (xs.getD a default).nodes,(xs.getD a default).faults⟩:Part)).getD b default).nodes,((xs.set a (⟨if IntKind.i64.wrap ((portsI ys (a:Int))+6)>(xs.getD a default).nodes then IntKind.i64.wrap ((portsI ys (a:Int))+6) else (xs.getD a default).nodes,(xs.getD a default).faults⟩:Part)).getD b default).faults⟩:Part)).getD j default)),Obj.row 63 6 ys.length (fun j=>Link.d (ys.getD j default)),Obj.var 63 [I (a:Int),I (b:Int),I (portsI ys (a:Int)),I (portsI ys (a:Int)+1),I (portsI ys (b:Int)),I (portsI ys (b:Int)+1)],Obj.var 63 [I (a:Int),I (b:Int),I (portsI ys (a:Int)),I (portsI ys (a:Int)+1),I (portsI ys (b:Int)),I (portsI ys (b:Int)+1)]]) trivial ?_)
 exact ⟨rfl,by rw [hwa6,hwb6]; rfl⟩
def cfg0 (ps:List Part) (ls:List Link) (cy dr ag lo li ca:Int):Config:=⟨ps,ls,cy,60,100,0,dr,300000,ag,lo,li,ca,12⟩
def cfg1 (ps:List Part) (ls:List Link) (cy dr ag lo li ca:Int):Config:=⟨ps,ls,cy,60,100,3*edgeR (cfg0 ps ls cy dr ag lo li ca),dr,300000,ag,lo,li,ca,12⟩
theorem edge3 (c:Config):IntKind.i64.wrap (3*edgeR c)=3*edgeR c:=by
 have:=edgeR_in c
 exact Ev.wrap_i64 oM oM
theorem joinP_len (ps:List Part) (ls:List Link) (a b:Nat):(joinP ps ls a b).length=ps.length:=by simp [joinP,bump_len]
theorem netN_step {p:Nat} {sh:Int} {u:Nat} (h:1≤u):netN p sh u=join (netN p sh (u-1)) (if sh=2 then 0 else u-1) u:=by
 obtain ⟨v,rfl⟩:∃ v,u=v+1:=⟨u-1,by omega⟩
 rfl
theorem made_pc0 (n m:Int) (hm:andI n 65535=m) (p:Nat) (hp:IntKind.i64.wrap (1+(andI m 3))=(p:Int)) (hp1:1≤p) (hp4:p≤4) (sh cy dr lo ca ag li:Int) (hsh:andI (m.fdiv 4) 3=sh) (hcy:IntKind.i64.wrap (20000+(IntKind.i64.wrap (1000*(andI (m.fdiv 16) 7))))=cy) (hdr:IntKind.i64.wrap (20*(andI (m.fdiv 128) 7))=dr) (hlo:andI (m.fdiv 1024) 1=lo) (hca:IntKind.i64.wrap ((IntKind.i64.wrap ((p:Int)*(IntKind.i64.wrap (lo+1))))+2)=ca) (hag:IntKind.i64.wrap ((IntKind.i64.wrap ((IntKind.i64.wrap ((IntKind.i64.wrap ((p:Int)-1))*(IntKind.i64.wrap (lo+1))))+1))+(andI (m.fdiv 2048) 3))=ag) (hli:IntKind.i64.wrap (ca+(andI (m.fdiv 8192) 1))=li):PC Tryz.prog [] 9 [I n] (· = D.r (Config.d (cfg1 (netOf p sh).1 (netOf p sh).2 cy dr ag lo li ca))):=by
 refine PC.of (N:=104) Tryz.func9 rfl rfl (Nat.le_of_ble_eq_true rfl) ?_
 have hpm:IntKind.i64.wrap ((p:Int)-1)=((p-1:Nat):Int):=by rw [Ev.wrap_i64 oM oM]; omega
 refine PW.a [0,2] 1 (PW.sg (PL.row 3 [0,2] 1 (s':={ tab:=[⟨0,[],I (andI n 65535)⟩,⟨2,[],D.p 0 0 0 0⟩],mem:=[Obj.var 30 [D.v (.slice none 0 0),D.v (.slice none 0 0),I 0,I 0,I 0,I 0,I 0,I 0,I 0,I 0,I 0,I 0,I 0]] }) (p:=True) kR kR kR kR kR trivial (PL.eq (s':={ tab:=[⟨0,[],I m⟩,⟨2,[],D.p 0 0 0 0⟩],mem:=[Obj.var 30 [D.v (.slice none 0 0),D.v (.slice none 0 0),I 0,I 0,I 0,I 0,I 0,I 0,I 0,I 0,I 0,I 0,I 0]] }) (by rw [hm]) (PL.nl (PW.sg (PL.row 4 [0,2,3] 1 (s':={ tab:=[⟨0,[],I m⟩,⟨2,[],D.p 0 0 0 0⟩,⟨3,[],I (IntKind.i64.wrap (1+(andI m 3)))⟩],mem:=[Obj.var 30 [D.v (.slice none 0 0),D.v (.slice none 0 0),I 0,I 0,I 0,I 0,I 0,I 0,I 0,I 0,I 0,I 0,I 0]] }) (p:=True) kR kR kR kR kR trivial (PL.eq (s':={ tab:=[⟨0,[],I m⟩,⟨2,[],D.p 0 0 0 0⟩,⟨3,[],I (p:Int)⟩],mem:=[Obj.var 30 [D.v (.slice none 0 0),D.v (.slice none 0 0),I 0,I 0,I 0,I 0,I 0,I 0,I 0,I 0,I 0,I 0,I 0]] }) (by rw [hp]) ?_)))))))
 refine PL.nl (PW.sg (PL.row 4 [0,2,3,4] 1 (s':={ tab:=[⟨0,[],I m⟩,⟨2,[],D.p 0 0 0 0⟩,⟨3,[],I (p:Int)⟩,⟨4,[],I (andI (m.fdiv 4) 3)⟩],mem:=[Obj.var 30 [D.v (.slice none 0 0),D.v (.slice none 0 0),I 0,I 0,I 0,I 0,I 0,I 0,I 0,I 0,I 0,I 0,I 0]] }) (p:=True) kR kR kR kR kR trivial (PL.eq (s':={ tab:=[⟨0,[],I m⟩,⟨2,[],D.p 0 0 0 0⟩,⟨3,[],I (p:Int)⟩,⟨4,[],I sh⟩],mem:=[Obj.var 30 [D.v (.slice none 0 0),D.v (.slice none 0 0),I 0,I 0,I 0,I 0,I 0,I 0,I 0,I 0,I 0,I 0,I 0]] }) (by rw [hsh]) (PL.nl (PW.sg (PL.row 15 [0,2,3,4,5] 2 (s':={ tab:=[⟨0,[],I m⟩,⟨2,[],D.p 0 0 0 0⟩,⟨3,[],I (p:Int)⟩,⟨4,[],I sh⟩,⟨5,[],D.p 1 0 0 0⟩],mem:=[Obj.var 30 [D.v (.slice none 0 0),D.v (.slice none 0 0),I 0,I 0,I 0,I 0,I 0,I 0,I 0,I 0,I 0,I 0,I 0],Obj.var 30 [D.v (.slice none 0 0),D.v (.slice none 0 0),I (IntKind.i64.wrap (20000+(IntKind.i64.wrap (1000*(andI (m.fdiv 16) 7))))),I 60,I 100,I 0,I (IntKind.i64.wrap (20*(andI (m.fdiv 128) 7))),I 300000,I 0,I (andI (m.fdiv 1024) 1),I 0,I 0,I 12]] }) (p:=True) kR kR kR kR kR trivial (PL.eq (s':={ tab:=[⟨0,[],I m⟩,⟨2,[],D.p 0 0 0 0⟩,⟨3,[],I (p:Int)⟩,⟨4,[],I sh⟩,⟨5,[],D.p 1 0 0 0⟩],mem:=[Obj.var 30 [D.v (.slice none 0 0),D.v (.slice none 0 0),I 0,I 0,I 0,I 0,I 0,I 0,I 0,I 0,I 0,I 0,I 0],Obj.var 30 [D.v (.slice none 0 0),D.v (.slice none 0 0),I cy,I 60,I 100,I 0,I dr,I 300000,I 0,I lo,I 0,I 0,I 12]] }) (by rw [hcy,hdr,hlo]) ?_)))))))
 refine PL.nl (PW.q [0,2,3,4,5,6] 2 (PW.block (PW.bornC 1 0 60 2 (t0:=30) (cs:=[D.v (.slice none 0 0),D.v (.slice none 0 0),I cy,I 60,I 100,I 0,I dr,I 300000,I 0,I lo,I 0,I 0,I 12]) (s':={ tab:=[⟨0,[],I m⟩,⟨2,[],D.p 0 0 0 0⟩,⟨3,[],I (p:Int)⟩,⟨4,[],I sh⟩,⟨5,[],D.p 1 0 0 0⟩,⟨6,[],I 0⟩],mem:=[Obj.var 30 [D.v (.slice none 0 0),D.v (.slice none 0 0),I 0,I 0,I 0,I 0,I 0,I 0,I 0,I 0,I 0,I 0,I 0],Obj.var 30 [D.h 2 0,D.v (.slice none 0 0),I cy,I 60,I 100,I 0,I dr,I 300000,I 0,I lo,I 0,I 0,I 12],Obj.row 60 2 0 (fun _=>[])] }) kR kR kR (PW.bornC 1 1 63 6 (t0:=30) (cs:=[D.h 2 0,D.v (.slice none 0 0),I cy,I 60,I 100,I 0,I dr,I 300000,I 0,I lo,I 0,I 0,I 12]) (s':={ tab:=[⟨0,[],I m⟩,⟨2,[],D.p 0 0 0 0⟩,⟨3,[],I (p:Int)⟩,⟨4,[],I sh⟩,⟨5,[],D.p 1 0 0 0⟩,⟨6,[],I 0⟩],mem:=[Obj.var 30 [D.v (.slice none 0 0),D.v (.slice none 0 0),I 0,I 0,I 0,I 0,I 0,I 0,I 0,I 0,I 0,I 0,I 0],Obj.var 30 [D.h 2 0,D.h 3 0,I cy,I 60,I 100,I 0,I dr,I 300000,I 0,I lo,I 0,I 0,I 12],Obj.row 60 2 0 (fun _=>[]),Obj.row 63 6 0 (fun _=>[])] }) kR kR kR (PW.loopR (α := Nat×List Part) (fun (i,xs)=>{ tab:=[⟨0,[],I m⟩,⟨2,[],D.p 0 0 0 0⟩,⟨3,[],I (p:Int)⟩,⟨4,[],I sh⟩,⟨5,[],D.p 1 0 0 0⟩,⟨6,[],I (i:Int)⟩],mem:=[Obj.var 30 [D.v (.slice none 0 0),D.v (.slice none 0 0),I 0,I 0,I 0,I 0,I 0,I 0,I 0,I 0,I 0,I 0,I 0],Obj.var 30 [D.h 2 xs.length,D.h 3 0,I cy,I 60,I 100,I 0,I dr,I 300000,I 0,I lo,I 0,I 0,I 12],Obj.row 60 2 xs.length (fun j=>Part.d (xs.getD j default)),Obj.row 63 6 0 (fun _=>[])] }) (fun (i,xs)=>i≤p∧xs=List.replicate i ⟨5,1⟩) (fun (i,xs)=>p-i) [0,2,3,4,5,6] 4 (0,[]) (s1:={ tab:=[⟨0,[],I m⟩,⟨2,[],D.p 0 0 0 0⟩,⟨3,[],I (p:Int)⟩,⟨4,[],I sh⟩,⟨5,[],D.p 1 0 0 0⟩,⟨6,[],I 0⟩],mem:=[Obj.var 30 [D.v (.slice none 0 0),D.v (.slice none 0 0),I 0,I 0,I 0,I 0,I 0,I 0,I 0,I 0,I 0,I 0,I 0],Obj.var 30 [D.h 2 0,D.h 3 0,I cy,I 60,I 100,I 0,I dr,I 300000,I 0,I lo,I 0,I 0,I 12],Obj.row 60 2 0 (fun _=>[]),Obj.row 63 6 0 (fun _=>[])] }) kR kR ?_ ?_ ?_)))))
 ·dsimp only
  exact ⟨rfl,rfl,rfl,(.same (.same (.row rfl (fun j hj=>absurd hj (Nat.not_lt_zero _)) (.same .nil))))⟩
 ·dsimp only
  exact ⟨Nat.zero_le _,rfl⟩
 rintro ⟨i,xs⟩ hinv
 dsimp only at hinv
 have hxl:xs.length=i:=by rw [hinv.2]; simp
 show PW _ _ _ _ _
 refine PW.q [0,2,3,4,5,6,33] 4 (PW.cd (decide ((i:Int)<(p:Int))) ?_ ?_) <;> intro hz0 <;> try simp only [boolS,isB_true,isB_false] at hz0
 ·refine PW.k (PW.seq (PW.block (PW.region (PL.rw 5 [0,2,3,4,5,6,40] 5 (p:=((xs.length=xs.length∧1≤1)∧(xs.length+1)*16≤140737488355328∧xs.length+1≤9223372036854775807)) oM (PL.ap 2 Part.d xs ((⟨5,1⟩:Part)) (PL.a 2 [0,2,3,4,5,6] 5 (PL.nil ?_)))))))
  show PW _ _ _ _ _
  refine PW.b [0,2,3,4,5,6] 5 ?_
  refine BackR.of (s1:={ tab:=[⟨0,[],I m⟩,⟨2,[],D.p 0 0 0 0⟩,⟨3,[],I (p:Int)⟩,⟨4,[],I sh⟩,⟨5,[],D.p 1 0 0 0⟩,⟨6,[],I (IntKind.i64.wrap ((i:Int)+1))⟩],mem:=[Obj.var 30 [D.v (.slice none 0 0),D.v (.slice none 0 0),I 0,I 0,I 0,I 0,I 0,I 0,I 0,I 0,I 0,I 0,I 0],Obj.var 30 [D.h 2 (xs.length+1),D.h 3 0,I cy,I 60,I 100,I 0,I dr,I 300000,I 0,I lo,I 0,I 0,I 12],Obj.row 60 2 (xs.length+1) (fun j=>Part.d ((xs++[(⟨5,1⟩:Part)]).getD j default)),Obj.row 63 6 0 (fun _=>[])] }) (i+1,xs++[(⟨5,1⟩:Part)]) kR kR ?_ ?_ ?_
  ·dsimp only
   rw [wrap1 i oM]
   simp only [List.length_append,List.length_singleton]
   exact Rem.refl _
  ·dsimp only
   exact ⟨by omega,by rw [hinv.2,List.replicate_succ']⟩
  ·dsimp only
   exact nD
 ·refine PW.e (PW.q [0,2,3,4,5,7] 4 (PW.block (PW.loopR (α := Nat×List Part×List Link) (fun (u,us,ys)=>{ tab:=[⟨0,[],I m⟩,⟨2,[],D.p 0 0 0 0⟩,⟨3,[],I (p:Int)⟩,⟨4,[],I sh⟩,⟨5,[],D.p 1 0 0 0⟩,⟨7,[],I (u:Int)⟩],mem:=[Obj.var 30 [D.v (.slice none 0 0),D.v (.slice none 0 0),I 0,I 0,I 0,I 0,I 0,I 0,I 0,I 0,I 0,I 0,I 0],Obj.var 30 [D.h 2 us.length,D.h 3 ys.length,I cy,I 60,I 100,I 0,I dr,I 300000,I 0,I lo,I 0,I 0,I 12],Obj.row 60 2 us.length (fun j=>Part.d (us.getD j default)),Obj.row 63 6 ys.length (fun j=>Link.d (ys.getD j default))] }) (fun (u,us,ys)=>1≤u∧u≤p∧netN p sh (u-1)=(us,ys)) (fun (u,us,ys)=>p-u) [0,2,3,4,5,7] 4 (1,xs,[]) (s1:={ tab:=[⟨0,[],I m⟩,⟨2,[],D.p 0 0 0 0⟩,⟨3,[],I (p:Int)⟩,⟨4,[],I sh⟩,⟨5,[],D.p 1 0 0 0⟩,⟨7,[],I 1⟩],mem:=[Obj.var 30 [D.v (.slice none 0 0),D.v (.slice none 0 0),I 0,I 0,I 0,I 0,I 0,I 0,I 0,I 0,I 0,I 0,I 0],Obj.var 30 [D.h 2 xs.length,D.h 3 0,I cy,I 60,I 100,I 0,I dr,I 300000,I 0,I lo,I 0,I 0,I 12],Obj.row 60 2 xs.length (fun j=>Part.d (xs.getD j default)),Obj.row 63 6 0 (fun _=>[])] }) kR kR ?_ ?_ ?_)))
  ·dsimp only
   exact ⟨rfl,rfl,rfl,(.same (.same (.same (.row rfl (fun j hj=>absurd hj (Nat.not_lt_zero _)) .nil))))⟩
  ·dsimp only
   have hip:i=p:=by omega
   refine ⟨by omega,by omega,?_⟩
   rw [hinv.2,hip]
   rfl
  rintro ⟨u,us,ys⟩ hinv2
  dsimp only at hinv2
  have hul:us.length=p:=by have h:=(netN_len p sh (u-1)).1; rw [hinv2.2.2] at h; exact h
  have hyl:ys.length=u-1:=by have h:=(netN_len p sh (u-1)).2; rw [hinv2.2.2] at h; exact h
  have hum:IntKind.i64.wrap ((u:Int)-1)=((u-1:Nat):Int):=by rw [Ev.wrap_i64 oM oM]; omega
  show PW _ _ _ _ _
  refine PW.q [0,2,3,4,5,7,44] 4 (PW.cd (decide ((u:Int)<(p:Int))) ?_ ?_) <;> intro hz1 <;> try simp only [boolS,isB_true,isB_false] at hz1
  ·refine PW.k (PW.seq (PW.block (PW.sg (PL.row 3 [0,2,3,4,5,7,8] 4 (s':={ tab:=[⟨0,[],I m⟩,⟨2,[],D.p 0 0 0 0⟩,⟨3,[],I (p:Int)⟩,⟨4,[],I sh⟩,⟨5,[],D.p 1 0 0 0⟩,⟨7,[],I (u:Int)⟩,⟨8,[],I (IntKind.i64.wrap ((u:Int)-1))⟩],mem:=[Obj.var 30 [D.v (.slice none 0 0),D.v (.slice none 0 0),I 0,I 0,I 0,I 0,I 0,I 0,I 0,I 0,I 0,I 0,I 0],Obj.var 30 [D.h 2 us.length,D.h 3 ys.length,I cy,I 60,I 100,I 0,I dr,I 300000,I 0,I lo,I 0,I 0,I 12],Obj.row 60 2 us.length (fun j=>Part.d (us.getD j default)),Obj.row 63 6 ys.length (fun j=>Link.d (ys.getD j default))] }) (p:=True) kR kR kR kR kR trivial (PL.eq (s':={ tab:=[⟨0,[],I m⟩,⟨2,[],D.p 0 0 0 0⟩,⟨3,[],I (p:Int)⟩,⟨4,[],I sh⟩,⟨5,[],D.p 1 0 0 0⟩,⟨7,[],I (u:Int)⟩,⟨8,[],I ((u-1:Nat):Int)⟩],mem:=[Obj.var 30 [D.v (.slice none 0 0),D.v (.slice none 0 0),I 0,I 0,I 0,I 0,I 0,I 0,I 0,I 0,I 0,I 0,I 0],Obj.var 30 [D.h 2 us.length,D.h 3 ys.length,I cy,I 60,I 100,I 0,I dr,I 300000,I 0,I lo,I 0,I 0,I 12],Obj.row 60 2 us.length (fun j=>Part.d (us.getD j default)),Obj.row 63 6 ys.length (fun j=>Link.d (ys.getD j default))] }) (by rw [hum]) (PL.nl (PW.join (α := Nat) (fun a=>{ tab:=[⟨0,[],I m⟩,⟨2,[],D.p 0 0 0 0⟩,⟨3,[],I (p:Int)⟩,⟨4,[],I sh⟩,⟨5,[],D.p 1 0 0 0⟩,⟨7,[],I (u:Int)⟩,⟨8,[],I (a:Int)⟩],mem:=[Obj.var 30 [D.v (.slice none 0 0),D.v (.slice none 0 0),I 0,I 0,I 0,I 0,I 0,I 0,I 0,I 0,I 0,I 0,I 0],Obj.var 30 [D.h 2 us.length,D.h 3 ys.length,I cy,I 60,I 100,I 0,I dr,I 300000,I 0,I lo,I 0,I 0,I 12],Obj.row 60 2 us.length (fun j=>Part.d (us.getD j default)),Obj.row 63 6 ys.length (fun j=>Link.d (ys.getD j default))] }) (fun a=>a=if sh=2 then 0 else u-1) [0,2,3,4,5,7,8] 4 ?_ ?_)))))))
   ·skip
    rintro a hja
    have hal:a<p:=by rw [hja]; split <;> omega
    show PW _ _ _ _ _
    refine PW.open [0,1,2,3] kR (PO.a [0,2,3] 9 [0,2,3,4,5,7,51,53,54] 6 (PO.next (n:=5) [1,4] kR (by simp) ?_))
    intro i hi
    simp only [List.mem_cons,List.not_mem_nil,or_false] at hi
    rcases hi with rfl|rfl
    ·skip
     refine PO1.val [0,2,3,4,5,7,52,53,54] 4 (s':={ tab:=[⟨0,[],I m⟩,⟨2,[],D.p 0 0 0 0⟩,⟨3,[],I (p:Int)⟩,⟨4,[],I sh⟩,⟨5,[],D.p 1 0 0 0⟩,⟨7,[],I (u:Int)⟩,⟨52,[],D.h 3 ys.length⟩,⟨53,[],I (a:Int)⟩,⟨54,[],I (u:Int)⟩],mem:=[Obj.var 30 [D.v (.slice none 0 0),D.v (.slice none 0 0),I 0,I 0,I 0,I 0,I 0,I 0,I 0,I 0,I 0,I 0,I 0],Obj.var 30 [D.h 2 us.length,D.h 3 ys.length,I cy,I 60,I 100,I 0,I dr,I 300000,I 0,I lo,I 0,I 0,I 12],Obj.row 60 2 us.length (fun j=>Part.d (us.getD j default)),Obj.row 63 6 ys.length (fun j=>Link.d (ys.getD j default))] }) (p:=True) rfl kR kR kR kR kR kR kR kR (by trivial) (PO.one (n:=4) 4 kR ?_)
     refine PO1.ci _ (drumlineref26_joined_pc us ys cy 60 100 0 dr 300000 0 lo 0 0 12 a u oM oM oM oM) ?_ rfl
     rintro _ _ ⟨rfl,rfl⟩
     refine PO.sel [0,2,3,4,5,7,52,55] 4 rfl kR (PO.one (n:=3) 5 kR (PO1.a [0,2,3,4,5,7,52,56] 5 (PO.one (n:=2) 6 kR (PO1.mm rfl [0,2,3,4,5,7,57] 5 (p:=((ys.length=ys.length∧1≤1)∧(ys.length+1)*48≤140737488355328∧ys.length+1≤9223372036854775807)) oM (PO.ap 3 Link.d ys ((joinL ys a u)) (PO.a [7] 2 [0,2,3,4,5,7,57,58] 1 (PO.one (n:=0) 8 kR ?_)))))))
     refine PO1.a [0,2,3,4,5,7] 5 (PO.done kR ?_)
     show PW _ _ _ _ _
     refine PW.b [0,2,3,4,5,7] 5 ?_
     refine BackR.of (s1:={ tab:=[⟨0,[],I m⟩,⟨2,[],D.p 0 0 0 0⟩,⟨3,[],I (p:Int)⟩,⟨4,[],I sh⟩,⟨5,[],D.p 1 0 0 0⟩,⟨7,[],I (IntKind.i64.wrap ((u:Int)+1))⟩],mem:=[Obj.var 30 [D.v (.slice none 0 0),D.v (.slice none 0 0),I 0,I 0,I 0,I 0,I 0,I 0,I 0,I 0,I 0,I 0,I 0],Obj.var 30 [D.h 2 us.length,D.h 3 (ys.length+1),I cy,I 60,I 100,I 0,I dr,I 300000,I 0,I lo,I 0,I 0,I 12],Obj.row 60 2 us.length (fun j=>Part.d ((joinP us ys a u).getD j default)),Obj.row 63 6 (ys.length+1) (fun j=>Link.d ((ys++[(joinL ys a u)]).getD j default))] }) (u+1,joinP us ys a u,ys++[(joinL ys a u)]) kR kR ?_ ?_ ?_
     ·dsimp only
      rw [wrap1 u oM]
      simp only [List.length_append,List.length_singleton,joinP_len]
      exact Rem.refl _
     ·dsimp only
      refine ⟨by omega,by omega,?_⟩
      rw [show u+1-1=u by omega,netN_step oM,hinv2.2.2,← hja]
      rfl
     ·dsimp only
      exact nD
    ·skip
     refine PO1.ci _ (drumlineref26_joined_pc us ys cy 60 100 0 dr 300000 0 lo 0 0 12 a u oM oM oM oM) ?_ rfl
     rintro _ _ ⟨rfl,rfl⟩
     refine PO.sel [0,2,3,4,5,7,51,55] 4 rfl kR (PO.next (n:=4) [1,5] kR (by simp) ?_)
     intro i hi
     simp only [List.mem_cons,List.not_mem_nil,or_false] at hi
     rcases hi with rfl|rfl
     ·skip
      refine PO1.val [0,2,3,4,5,7,52,55] 4 (s':={ tab:=[⟨0,[],I m⟩,⟨2,[],D.p 0 0 0 0⟩,⟨3,[],I (p:Int)⟩,⟨4,[],I sh⟩,⟨5,[],D.p 1 0 0 0⟩,⟨7,[],I (u:Int)⟩,⟨52,[],D.h 3 ys.length⟩,⟨55,[],D.r (Link.d (joinL ys a u))⟩],mem:=[Obj.var 30 [D.v (.slice none 0 0),D.v (.slice none 0 0),I 0,I 0,I 0,I 0,I 0,I 0,I 0,I 0,I 0,I 0,I 0],Obj.var 30 [D.h 2 us.length,D.h 3 ys.length,I cy,I 60,I 100,I 0,I dr,I 300000,I 0,I lo,I 0,I 0,I 12],Obj.row 60 2 us.length (fun j=>Part.d ((joinP us ys a u).getD j default)),Obj.row 63 6 ys.length (fun j=>Link.d (ys.getD j default))] }) (p:=True) rfl kR kR kR kR kR kR kR kR (by trivial) (PO.one (n:=3) 5 kR (PO1.a [0,2,3,4,5,7,52,56] 5 (PO.one (n:=2) 6 kR (PO1.mm rfl [0,2,3,4,5,7,57] 5 (p:=((ys.length=ys.length∧1≤1)∧(ys.length+1)*48≤140737488355328∧ys.length+1≤9223372036854775807)) oM (PO.ap 3 Link.d ys ((joinL ys a u)) (PO.a [7] 2 [0,2,3,4,5,7,57,58] 1 (PO.one (n:=0) 8 kR ?_)))))))
      refine PO1.a [0,2,3,4,5,7] 5 (PO.done kR ?_)
      show PW _ _ _ _ _
      refine PW.b [0,2,3,4,5,7] 5 ?_
      refine BackR.of (s1:={ tab:=[⟨0,[],I m⟩,⟨2,[],D.p 0 0 0 0⟩,⟨3,[],I (p:Int)⟩,⟨4,[],I sh⟩,⟨5,[],D.p 1 0 0 0⟩,⟨7,[],I (IntKind.i64.wrap ((u:Int)+1))⟩],mem:=[Obj.var 30 [D.v (.slice none 0 0),D.v (.slice none 0 0),I 0,I 0,I 0,I 0,I 0,I 0,I 0,I 0,I 0,I 0,I 0],Obj.var 30 [D.h 2 us.length,D.h 3 (ys.length+1),I cy,I 60,I 100,I 0,I dr,I 300000,I 0,I lo,I 0,I 0,I 12],Obj.row 60 2 us.length (fun j=>Part.d ((joinP us ys a u).getD j default)),Obj.row 63 6 (ys.length+1) (fun j=>Link.d ((ys++[(joinL ys a u)]).getD j default))] }) (u+1,joinP us ys a u,ys++[(joinL ys a u)]) kR kR ?_ ?_ ?_
      ·dsimp only
       rw [wrap1 u oM]
       simp only [List.length_append,List.length_singleton,joinP_len]
       exact Rem.refl _
      ·dsimp only
       refine ⟨by omega,by omega,?_⟩
       rw [show u+1-1=u by omega,netN_step oM,hinv2.2.2,← hja]
       rfl
      ·dsimp only
       exact nD
     ·skip
      refine PO1.a [0,2,3,4,5,7,51,56] 5 (PO.one (n:=3) 1 kR (PO1.val [0,2,3,4,5,7,52,56] 5 (s':={ tab:=[⟨0,[],I m⟩,⟨2,[],D.p 0 0 0 0⟩,⟨3,[],I (p:Int)⟩,⟨4,[],I sh⟩,⟨5,[],D.p 1 0 0 0⟩,⟨7,[],I (u:Int)⟩,⟨52,[],D.h 3 ys.length⟩,⟨56,[],D.h 4 1⟩],mem:=[Obj.var 30 [D.v (.slice none 0 0),D.v (.slice none 0 0),I 0,I 0,I 0,I 0,I 0,I 0,I 0,I 0,I 0,I 0,I 0],Obj.var 30 [D.h 2 us.length,D.h 3 ys.length,I cy,I 60,I 100,I 0,I dr,I 300000,I 0,I lo,I 0,I 0,I 12],Obj.row 60 2 us.length (fun j=>Part.d ((joinP us ys a u).getD j default)),Obj.row 63 6 ys.length (fun j=>Link.d (ys.getD j default)),Obj.row 63 6 1 (fun k=>([[I ((joinL ys a u).a),I ((joinL ys a u).b),I ((joinL ys a u).pa0),I ((joinL ys a u).pa1),I ((joinL ys a u).pb0),I ((joinL ys a u).pb1)]][k]?).getD [])] }) (p:=True) rfl kR kR kR kR kR kR kR kR (by trivial) (PO.one (n:=2) 6 kR (PO1.mm rfl [0,2,3,4,5,7,57] 5 (p:=((ys.length=ys.length∧1≤1)∧(ys.length+1)*48≤140737488355328∧ys.length+1≤9223372036854775807)) oM (PO.ap 3 Link.d ys ((joinL ys a u)) (PO.a [7] 2 [0,2,3,4,5,7,57,58] 1 (PO.one (n:=0) 8 kR ?_)))))))
      refine PO1.a [0,2,3,4,5,7] 5 (PO.done kR ?_)
      show PW _ _ _ _ _
      refine PW.b [0,2,3,4,5,7] 5 ?_
      refine BackR.of (s1:={ tab:=[⟨0,[],I m⟩,⟨2,[],D.p 0 0 0 0⟩,⟨3,[],I (p:Int)⟩,⟨4,[],I sh⟩,⟨5,[],D.p 1 0 0 0⟩,⟨7,[],I (IntKind.i64.wrap ((u:Int)+1))⟩],mem:=[Obj.var 30 [D.v (.slice none 0 0),D.v (.slice none 0 0),I 0,I 0,I 0,I 0,I 0,I 0,I 0,I 0,I 0,I 0,I 0],Obj.var 30 [D.h 2 us.length,D.h 3 (ys.length+1),I cy,I 60,I 100,I 0,I dr,I 300000,I 0,I lo,I 0,I 0,I 12],Obj.row 60 2 us.length (fun j=>Part.d ((joinP us ys a u).getD j default)),Obj.row 63 6 (ys.length+1) (fun j=>Link.d ((ys++[(joinL ys a u)]).getD j default))] }) (u+1,joinP us ys a u,ys++[(joinL ys a u)]) kR kR ?_ ?_ ?_
      ·dsimp only
       rw [wrap1 u oM]
       simp only [List.length_append,List.length_singleton,joinP_len]
       exact Rem.refl _
      ·dsimp only
       refine ⟨by omega,by omega,?_⟩
       rw [show u+1-1=u by omega,netN_step oM,hinv2.2.2,← hja]
       rfl
      ·dsimp only
       exact nD
   ·skip
    refine PW.a [0,2,3,4,5,7,8,50] 4 (PW.cd (sh == (2:Int)) ?_ ?_) <;> intro hz2 <;> try simp only [boolS,isB_true,isB_false] at hz2
    ·refine PW.b [0,2,3,4,5,7,8] 4 ?_
     refine JoinR.of (s1:={ tab:=[⟨0,[],I m⟩,⟨2,[],D.p 0 0 0 0⟩,⟨3,[],I (p:Int)⟩,⟨4,[],I sh⟩,⟨5,[],D.p 1 0 0 0⟩,⟨7,[],I (u:Int)⟩,⟨8,[],I 0⟩],mem:=[Obj.var 30 [D.v (.slice none 0 0),D.v (.slice none 0 0),I 0,I 0,I 0,I 0,I 0,I 0,I 0,I 0,I 0,I 0,I 0],Obj.var 30 [D.h 2 us.length,D.h 3 ys.length,I cy,I 60,I 100,I 0,I dr,I 300000,I 0,I lo,I 0,I 0,I 12],Obj.row 60 2 us.length (fun j=>Part.d (us.getD j default)),Obj.row 63 6 ys.length (fun j=>Link.d (ys.getD j default))] }) (0) kR kR ?_ ?_
     ·exact Rem.refl _
     ·first|(rw [if_pos oM])|(rw [if_neg oM])
    ·refine PW.skip ?_
     refine JoinR.of (s1:={ tab:=[⟨0,[],I m⟩,⟨2,[],D.p 0 0 0 0⟩,⟨3,[],I (p:Int)⟩,⟨4,[],I sh⟩,⟨5,[],D.p 1 0 0 0⟩,⟨7,[],I (u:Int)⟩,⟨8,[],I ((u-1:Nat):Int)⟩],mem:=[Obj.var 30 [D.v (.slice none 0 0),D.v (.slice none 0 0),I 0,I 0,I 0,I 0,I 0,I 0,I 0,I 0,I 0,I 0,I 0],Obj.var 30 [D.h 2 us.length,D.h 3 ys.length,I cy,I 60,I 100,I 0,I dr,I 300000,I 0,I lo,I 0,I 0,I 12],Obj.row 60 2 us.length (fun j=>Part.d (us.getD j default)),Obj.row 63 6 ys.length (fun j=>Link.d (ys.getD j default))] }) (u-1) kR kR ?_ ?_
     ·exact Rem.refl _
     ·first|(rw [if_pos oM])|(rw [if_neg oM])
  ·refine PW.e (PW.join (α := List Part×List Link) (fun (ps,ls)=>{ tab:=[⟨0,[],I m⟩,⟨2,[],D.p 0 0 0 0⟩,⟨3,[],I (p:Int)⟩,⟨5,[],D.p 1 0 0 0⟩],mem:=[Obj.var 30 [D.v (.slice none 0 0),D.v (.slice none 0 0),I 0,I 0,I 0,I 0,I 0,I 0,I 0,I 0,I 0,I 0,I 0],Obj.var 30 [D.h 2 ps.length,D.h 3 ls.length,I cy,I 60,I 100,I 0,I dr,I 300000,I 0,I lo,I 0,I 0,I 12],Obj.row 60 2 ps.length (fun j=>Part.d (ps.getD j default)),Obj.row 63 6 ls.length (fun j=>Link.d (ls.getD j default))] }) (fun (ps,ls)=>netOf p sh=(ps,ls)∧ps.length=p∧ls.length≤p) [0,2,3,5] 4 ?_ ?_)
   ·skip
    rintro ⟨ps,ls⟩ hj
    dsimp only at hj
    show PW _ _ _ _ _
    refine PW.sg (PL.row 7 [0,2,3,5,9] 4 (s':={ tab:=[⟨0,[],I m⟩,⟨2,[],D.p 0 0 0 0⟩,⟨3,[],I (p:Int)⟩,⟨5,[],D.p 1 0 0 0⟩,⟨9,[],I (IntKind.i64.wrap ((IntKind.i64.wrap ((p:Int)*(IntKind.i64.wrap (lo+1))))+2))⟩],mem:=[Obj.var 30 [D.v (.slice none 0 0),D.v (.slice none 0 0),I 0,I 0,I 0,I 0,I 0,I 0,I 0,I 0,I 0,I 0,I 0],Obj.var 30 [D.h 2 ps.length,D.h 3 ls.length,I cy,I 60,I 100,I 0,I dr,I 300000,I 0,I lo,I 0,I 0,I 12],Obj.row 60 2 ps.length (fun j=>Part.d (ps.getD j default)),Obj.row 63 6 ls.length (fun j=>Link.d (ls.getD j default))] }) (p:=True) kR kR kR kR kR trivial (PL.eq (s':={ tab:=[⟨0,[],I m⟩,⟨2,[],D.p 0 0 0 0⟩,⟨3,[],I (p:Int)⟩,⟨5,[],D.p 1 0 0 0⟩,⟨9,[],I ca⟩],mem:=[Obj.var 30 [D.v (.slice none 0 0),D.v (.slice none 0 0),I 0,I 0,I 0,I 0,I 0,I 0,I 0,I 0,I 0,I 0,I 0],Obj.var 30 [D.h 2 ps.length,D.h 3 ls.length,I cy,I 60,I 100,I 0,I dr,I 300000,I 0,I lo,I 0,I 0,I 12],Obj.row 60 2 ps.length (fun j=>Part.d (ps.getD j default)),Obj.row 63 6 ls.length (fun j=>Link.d (ls.getD j default))] }) (by rw [hca]) (PL.nl (PW.sg (PL.row 13 [0,2,5,9] 4 (s':={ tab:=[⟨0,[],I m⟩,⟨2,[],D.p 0 0 0 0⟩,⟨5,[],D.p 1 0 0 0⟩,⟨9,[],I ca⟩],mem:=[Obj.var 30 [D.v (.slice none 0 0),D.v (.slice none 0 0),I 0,I 0,I 0,I 0,I 0,I 0,I 0,I 0,I 0,I 0,I 0],Obj.var 30 [D.h 2 ps.length,D.h 3 ls.length,I cy,I 60,I 100,I 0,I dr,I 300000,I (IntKind.i64.wrap ((IntKind.i64.wrap ((IntKind.i64.wrap ((IntKind.i64.wrap ((p:Int)-1))*(IntKind.i64.wrap (lo+1))))+1))+(andI (m.fdiv 2048) 3))),I lo,I 0,I 0,I 12],Obj.row 60 2 ps.length (fun j=>Part.d (ps.getD j default)),Obj.row 63 6 ls.length (fun j=>Link.d (ls.getD j default))] }) (p:=True) kR kR kR kR kR trivial (PL.eq (s':={ tab:=[⟨0,[],I m⟩,⟨2,[],D.p 0 0 0 0⟩,⟨5,[],D.p 1 0 0 0⟩,⟨9,[],I ca⟩],mem:=[Obj.var 30 [D.v (.slice none 0 0),D.v (.slice none 0 0),I 0,I 0,I 0,I 0,I 0,I 0,I 0,I 0,I 0,I 0,I 0],Obj.var 30 [D.h 2 ps.length,D.h 3 ls.length,I cy,I 60,I 100,I 0,I dr,I 300000,I ag,I lo,I 0,I 0,I 12],Obj.row 60 2 ps.length (fun j=>Part.d (ps.getD j default)),Obj.row 63 6 ls.length (fun j=>Link.d (ls.getD j default))] }) (by rw [hag]) (PL.nl ?_)))))))
    refine PW.sg (PL.row 7 [2,5,9] 4 (s':={ tab:=[⟨2,[],D.p 0 0 0 0⟩,⟨5,[],D.p 1 0 0 0⟩,⟨9,[],I ca⟩],mem:=[Obj.var 30 [D.v (.slice none 0 0),D.v (.slice none 0 0),I 0,I 0,I 0,I 0,I 0,I 0,I 0,I 0,I 0,I 0,I 0],Obj.var 30 [D.h 2 ps.length,D.h 3 ls.length,I cy,I 60,I 100,I 0,I dr,I 300000,I ag,I lo,I (IntKind.i64.wrap (ca+(andI (m.fdiv 8192) 1))),I 0,I 12],Obj.row 60 2 ps.length (fun j=>Part.d (ps.getD j default)),Obj.row 63 6 ls.length (fun j=>Link.d (ls.getD j default))] }) (p:=True) kR kR kR kR kR trivial (PL.eq (s':={ tab:=[⟨2,[],D.p 0 0 0 0⟩,⟨5,[],D.p 1 0 0 0⟩,⟨9,[],I ca⟩],mem:=[Obj.var 30 [D.v (.slice none 0 0),D.v (.slice none 0 0),I 0,I 0,I 0,I 0,I 0,I 0,I 0,I 0,I 0,I 0,I 0],Obj.var 30 [D.h 2 ps.length,D.h 3 ls.length,I cy,I 60,I 100,I 0,I dr,I 300000,I ag,I lo,I li,I 0,I 12],Obj.row 60 2 ps.length (fun j=>Part.d (ps.getD j default)),Obj.row 63 6 ls.length (fun j=>Link.d (ls.getD j default))] }) (by rw [hli]) (PL.nl (PW.sg (PL.row 3 [2,5] 4 (s':={ tab:=[⟨2,[],D.p 0 0 0 0⟩,⟨5,[],D.p 1 0 0 0⟩],mem:=[Obj.var 30 [D.v (.slice none 0 0),D.v (.slice none 0 0),I 0,I 0,I 0,I 0,I 0,I 0,I 0,I 0,I 0,I 0,I 0],Obj.var 30 [D.h 2 ps.length,D.h 3 ls.length,I cy,I 60,I 100,I 0,I dr,I 300000,I ag,I lo,I li,I ca,I 12],Obj.row 60 2 ps.length (fun j=>Part.d (ps.getD j default)),Obj.row 63 6 ls.length (fun j=>Link.d (ls.getD j default))] }) (p:=True) kR kR kR kR kR trivial (PL.eq (s':={ tab:=[⟨2,[],D.p 0 0 0 0⟩,⟨5,[],D.p 1 0 0 0⟩],mem:=[Obj.var 30 [D.v (.slice none 0 0),D.v (.slice none 0 0),I 0,I 0,I 0,I 0,I 0,I 0,I 0,I 0,I 0,I 0,I 0],Obj.var 30 [D.h 2 ps.length,D.h 3 ls.length,I cy,I 60,I 100,I 0,I dr,I 300000,I ag,I lo,I li,I ca,I 12],Obj.row 60 2 ps.length (fun j=>Part.d (ps.getD j default)),Obj.row 63 6 ls.length (fun j=>Link.d (ls.getD j default))] }) (by rfl) (PL.nl ?_)))))))
    refine PW.w 1 [2,5,99] 4 (PL.bo (ps:=[ps.length≤ps.length,ls.length≤ls.length]) (show (ps.length≤ps.length)∧(ls.length≤ls.length) from by exact nD) (drumlineref5_Edge_pc (cfg0 ps ls cy dr ag lo li ca) (by show ps.length<1000000; omega) (by show ls.length<1000000; omega)) (PL.row 3 [2,5] 4 (s':={ tab:=[⟨2,[],D.p 0 0 0 0⟩,⟨5,[],D.p 1 0 0 0⟩],mem:=[Obj.var 30 [D.v (.slice none 0 0),D.v (.slice none 0 0),I 0,I 0,I 0,I 0,I 0,I 0,I 0,I 0,I 0,I 0,I 0],Obj.var 30 [D.h 2 ps.length,D.h 3 ls.length,I cy,I 60,I 100,I (IntKind.i64.wrap (3*(edgeR (cfg0 ps ls cy dr ag lo li ca)))),I dr,I 300000,I ag,I lo,I li,I ca,I 12],Obj.row 60 2 ps.length (fun j=>Part.d (ps.getD j default)),Obj.row 63 6 ls.length (fun j=>Link.d (ls.getD j default))] }) (p:=True) kR kR kR kR kR trivial (PL.eq (s':={ tab:=[⟨2,[],D.p 0 0 0 0⟩,⟨5,[],D.p 1 0 0 0⟩],mem:=[Obj.var 30 [D.v (.slice none 0 0),D.v (.slice none 0 0),I 0,I 0,I 0,I 0,I 0,I 0,I 0,I 0,I 0,I 0,I 0],Obj.var 30 [D.h 2 ps.length,D.h 3 ls.length,I cy,I 60,I 100,I (3*edgeR (cfg0 ps ls cy dr ag lo li ca)),I dr,I 300000,I ag,I lo,I li,I ca,I 12],Obj.row 60 2 ps.length (fun j=>Part.d (ps.getD j default)),Obj.row 63 6 ls.length (fun j=>Link.d (ls.getD j default))] }) (by rw [edge3]) (PL.nl (PW.t [2] 4 (retQ_ret (d:=D.r [D.s ps.length 2 (fun j=>Part.d (ps.getD j default)),D.s ls.length 6 (fun j=>Link.d (ls.getD j default)),I cy,I 60,I 100,I (3*edgeR (cfg0 ps ls cy dr ag lo li ca)),I dr,I 300000,I ag,I lo,I li,I ca,I 12]) (ps:=[ps.length≤ps.length,ls.length≤ls.length]) kR (show (ps.length≤ps.length)∧(ls.length≤ls.length) from by exact nD) ?_))))))
    rw [hj.1]
    rfl
   ·skip
    refine PW.a [0,2,3,5,64] 4 (PW.cd ((sh == (1:Int))&&(decide ((p:Int)>(2:Int)))) ?_ ?_) <;> intro hz3 <;> try simp only [boolS,isB_true,isB_false] at hz3
    ·refine PW.open [0,1,2,3] kR (PO.a [0,2,3] 9 [0,2,3,5,65,68] 6 (PO.next (n:=5) [1,4] kR (by simp) ?_))
     intro i hi
     simp only [List.mem_cons,List.not_mem_nil,or_false] at hi
     rcases hi with rfl|rfl
     ·skip
      refine PO1.val [0,2,3,5,66,68] 4 (s':={ tab:=[⟨0,[],I m⟩,⟨2,[],D.p 0 0 0 0⟩,⟨3,[],I (p:Int)⟩,⟨5,[],D.p 1 0 0 0⟩,⟨66,[],D.h 3 ys.length⟩,⟨68,[],I (IntKind.i64.wrap ((p:Int)-1))⟩],mem:=[Obj.var 30 [D.v (.slice none 0 0),D.v (.slice none 0 0),I 0,I 0,I 0,I 0,I 0,I 0,I 0,I 0,I 0,I 0,I 0],Obj.var 30 [D.h 2 us.length,D.h 3 ys.length,I cy,I 60,I 100,I 0,I dr,I 300000,I 0,I lo,I 0,I 0,I 12],Obj.row 60 2 us.length (fun j=>Part.d (us.getD j default)),Obj.row 63 6 ys.length (fun j=>Link.d (ys.getD j default))] }) (p:=True) rfl kR kR kR kR kR kR kR kR (by trivial) (PO.one (n:=4) 4 kR ?_)
      refine PO1.ci _ (hpm▸drumlineref26_joined_pc us ys cy 60 100 0 dr 300000 0 lo 0 0 12 0 (p-1) oM oM oM oM) ?_ rfl
      rintro _ _ ⟨rfl,rfl⟩
      refine PO.sel [0,2,3,5,66,69] 4 rfl kR (PO.one (n:=3) 5 kR (PO1.a [0,2,3,5,66,70] 5 (PO.one (n:=2) 6 kR (PO1.mm rfl [0,2,3,5,71] 5 (p:=((ys.length=ys.length∧1≤1)∧(ys.length+1)*48≤140737488355328∧ys.length+1≤9223372036854775807)) oM (PO.ap 3 Link.d ys ((joinL ys 0 (p-1))) (PO.a [7] 2 [0,2,3,5,71,72] 1 (PO.one (n:=0) 8 kR ?_)))))))
      refine PO1.a [0,2,3,5] 5 (PO.done kR ?_)
      refine JoinR.of (s1:={ tab:=[⟨0,[],I m⟩,⟨2,[],D.p 0 0 0 0⟩,⟨3,[],I (p:Int)⟩,⟨5,[],D.p 1 0 0 0⟩],mem:=[Obj.var 30 [D.v (.slice none 0 0),D.v (.slice none 0 0),I 0,I 0,I 0,I 0,I 0,I 0,I 0,I 0,I 0,I 0,I 0],Obj.var 30 [D.h 2 us.length,D.h 3 (ys.length+1),I cy,I 60,I 100,I 0,I dr,I 300000,I 0,I lo,I 0,I 0,I 12],Obj.row 60 2 us.length (fun j=>Part.d ((joinP us ys 0 (p-1)).getD j default)),Obj.row 63 6 (ys.length+1) (fun j=>Link.d ((ys++[(joinL ys 0 (p-1))]).getD j default))] }) (joinP us ys 0 (p-1),ys++[(joinL ys 0 (p-1))]) kR kR ?_ ?_
      ·dsimp only
       try simp only [joinP_len,List.length_append,List.length_singleton]
       exact Rem.refl _
      ·dsimp only
       have hpu:p-1=u-1:=by omega
       refine ⟨?_,by (try simp only [joinP_len,List.length_append,List.length_singleton]) <;> omega,by (try simp only [joinP_len,List.length_append,List.length_singleton]) <;> omega⟩
       unfold netOf
       first|(rw [if_pos ⟨by omega,by omega⟩,hpu,hinv2.2.2]; rfl)|(rw [if_neg oM,hpu,hinv2.2.2])
     ·skip
      refine PO1.ci _ (hpm▸drumlineref26_joined_pc us ys cy 60 100 0 dr 300000 0 lo 0 0 12 0 (p-1) oM oM oM oM) ?_ rfl
      rintro _ _ ⟨rfl,rfl⟩
      refine PO.sel [0,2,3,5,65,69] 4 rfl kR (PO.next (n:=4) [1,5] kR (by simp) ?_)
      intro i hi
      simp only [List.mem_cons,List.not_mem_nil,or_false] at hi
      rcases hi with rfl|rfl
      ·skip
       refine PO1.val [0,2,3,5,66,69] 4 (s':={ tab:=[⟨0,[],I m⟩,⟨2,[],D.p 0 0 0 0⟩,⟨3,[],I (p:Int)⟩,⟨5,[],D.p 1 0 0 0⟩,⟨66,[],D.h 3 ys.length⟩,⟨69,[],D.r (Link.d (joinL ys 0 (p-1)))⟩],mem:=[Obj.var 30 [D.v (.slice none 0 0),D.v (.slice none 0 0),I 0,I 0,I 0,I 0,I 0,I 0,I 0,I 0,I 0,I 0,I 0],Obj.var 30 [D.h 2 us.length,D.h 3 ys.length,I cy,I 60,I 100,I 0,I dr,I 300000,I 0,I lo,I 0,I 0,I 12],Obj.row 60 2 us.length (fun j=>Part.d ((joinP us ys 0 (p-1)).getD j default)),Obj.row 63 6 ys.length (fun j=>Link.d (ys.getD j default))] }) (p:=True) rfl kR kR kR kR kR kR kR kR (by trivial) (PO.one (n:=3) 5 kR (PO1.a [0,2,3,5,66,70] 5 (PO.one (n:=2) 6 kR (PO1.mm rfl [0,2,3,5,71] 5 (p:=((ys.length=ys.length∧1≤1)∧(ys.length+1)*48≤140737488355328∧ys.length+1≤9223372036854775807)) oM (PO.ap 3 Link.d ys ((joinL ys 0 (p-1))) (PO.a [7] 2 [0,2,3,5,71,72] 1 (PO.one (n:=0) 8 kR ?_)))))))
       refine PO1.a [0,2,3,5] 5 (PO.done kR ?_)
       refine JoinR.of (s1:={ tab:=[⟨0,[],I m⟩,⟨2,[],D.p 0 0 0 0⟩,⟨3,[],I (p:Int)⟩,⟨5,[],D.p 1 0 0 0⟩],mem:=[Obj.var 30 [D.v (.slice none 0 0),D.v (.slice none 0 0),I 0,I 0,I 0,I 0,I 0,I 0,I 0,I 0,I 0,I 0,I 0],Obj.var 30 [D.h 2 us.length,D.h 3 (ys.length+1),I cy,I 60,I 100,I 0,I dr,I 300000,I 0,I lo,I 0,I 0,I 12],Obj.row 60 2 us.length (fun j=>Part.d ((joinP us ys 0 (p-1)).getD j default)),Obj.row 63 6 (ys.length+1) (fun j=>Link.d ((ys++[(joinL ys 0 (p-1))]).getD j default))] }) (joinP us ys 0 (p-1),ys++[(joinL ys 0 (p-1))]) kR kR ?_ ?_
       ·dsimp only
        try simp only [joinP_len,List.length_append,List.length_singleton]
        exact Rem.refl _
       ·dsimp only
        have hpu:p-1=u-1:=by omega
        refine ⟨?_,by (try simp only [joinP_len,List.length_append,List.length_singleton]) <;> omega,by (try simp only [joinP_len,List.length_append,List.length_singleton]) <;> omega⟩
        unfold netOf
        first|(rw [if_pos ⟨by omega,by omega⟩,hpu,hinv2.2.2]; rfl)|(rw [if_neg oM,hpu,hinv2.2.2])
      ·skip
       refine PO1.a [0,2,3,5,65,70] 5 (PO.one (n:=3) 1 kR (PO1.val [0,2,3,5,66,70] 5 (s':={ tab:=[⟨0,[],I m⟩,⟨2,[],D.p 0 0 0 0⟩,⟨3,[],I (p:Int)⟩,⟨5,[],D.p 1 0 0 0⟩,⟨66,[],D.h 3 ys.length⟩,⟨70,[],D.h 4 1⟩],mem:=[Obj.var 30 [D.v (.slice none 0 0),D.v (.slice none 0 0),I 0,I 0,I 0,I 0,I 0,I 0,I 0,I 0,I 0,I 0,I 0],Obj.var 30 [D.h 2 us.length,D.h 3 ys.length,I cy,I 60,I 100,I 0,I dr,I 300000,I 0,I lo,I 0,I 0,I 12],Obj.row 60 2 us.length (fun j=>Part.d ((joinP us ys 0 (p-1)).getD j default)),Obj.row 63 6 ys.length (fun j=>Link.d (ys.getD j default)),Obj.row 63 6 1 (fun k=>([[I ((joinL ys 0 (p-1)).a),I ((joinL ys 0 (p-1)).b),I ((joinL ys 0 (p-1)).pa0),I ((joinL ys 0 (p-1)).pa1),I ((joinL ys 0 (p-1)).pb0),I ((joinL ys 0 (p-1)).pb1)]][k]?).getD [])] }) (p:=True) rfl kR kR kR kR kR kR kR kR (by trivial) (PO.one (n:=2) 6 kR (PO1.mm rfl [0,2,3,5,71] 5 (p:=((ys.length=ys.length∧1≤1)∧(ys.length+1)*48≤140737488355328∧ys.length+1≤9223372036854775807)) oM (PO.ap 3 Link.d ys ((joinL ys 0 (p-1))) (PO.a [7] 2 [0,2,3,5,71,72] 1 (PO.one (n:=0) 8 kR ?_)))))))
       refine PO1.a [0,2,3,5] 5 (PO.done kR ?_)
       refine JoinR.of (s1:={ tab:=[⟨0,[],I m⟩,⟨2,[],D.p 0 0 0 0⟩,⟨3,[],I (p:Int)⟩,⟨5,[],D.p 1 0 0 0⟩],mem:=[Obj.var 30 [D.v (.slice none 0 0),D.v (.slice none 0 0),I 0,I 0,I 0,I 0,I 0,I 0,I 0,I 0,I 0,I 0,I 0],Obj.var 30 [D.h 2 us.length,D.h 3 (ys.length+1),I cy,I 60,I 100,I 0,I dr,I 300000,I 0,I lo,I 0,I 0,I 12],Obj.row 60 2 us.length (fun j=>Part.d ((joinP us ys 0 (p-1)).getD j default)),Obj.row 63 6 (ys.length+1) (fun j=>Link.d ((ys++[(joinL ys 0 (p-1))]).getD j default))] }) (joinP us ys 0 (p-1),ys++[(joinL ys 0 (p-1))]) kR kR ?_ ?_
       ·dsimp only
        try simp only [joinP_len,List.length_append,List.length_singleton]
        exact Rem.refl _
       ·dsimp only
        have hpu:p-1=u-1:=by omega
        refine ⟨?_,by (try simp only [joinP_len,List.length_append,List.length_singleton]) <;> omega,by (try simp only [joinP_len,List.length_append,List.length_singleton]) <;> omega⟩
        unfold netOf
        first|(rw [if_pos ⟨by omega,by omega⟩,hpu,hinv2.2.2]; rfl)|(rw [if_neg oM,hpu,hinv2.2.2])
    ·refine PW.skip ?_
     refine JoinR.of (s1:={ tab:=[⟨0,[],I m⟩,⟨2,[],D.p 0 0 0 0⟩,⟨3,[],I (p:Int)⟩,⟨5,[],D.p 1 0 0 0⟩],mem:=[Obj.var 30 [D.v (.slice none 0 0),D.v (.slice none 0 0),I 0,I 0,I 0,I 0,I 0,I 0,I 0,I 0,I 0,I 0,I 0],Obj.var 30 [D.h 2 us.length,D.h 3 ys.length,I cy,I 60,I 100,I 0,I dr,I 300000,I 0,I lo,I 0,I 0,I 12],Obj.row 60 2 us.length (fun j=>Part.d (us.getD j default)),Obj.row 63 6 ys.length (fun j=>Link.d (ys.getD j default))] }) (us,ys) kR kR ?_ ?_
     ·dsimp only
      try simp only [joinP_len,List.length_append,List.length_singleton]
      exact Rem.refl _
     ·dsimp only
      have hpu:p-1=u-1:=by omega
      refine ⟨?_,by (try simp only [joinP_len,List.length_append,List.length_singleton]) <;> omega,by (try simp only [joinP_len,List.length_append,List.length_singleton]) <;> omega⟩
      unfold netOf
      first|(rw [if_pos ⟨by omega,by omega⟩,hpu,hinv2.2.2]; rfl)|(rw [if_neg oM,hpu,hinv2.2.2])
def madeC (n:Int):Config :=
 let m:=n%65536
 let p:=(1+m%4).toNat
 let lo:=m/1024%2
 let ca:=(p:Int)*(lo+1)+2
 cfg1 (netOf p (m/4%4)).1 (netOf p (m/4%4)).2 (20000+1000*(m/16%8)) (20*(m/128%8)) (((p:Int)-1)*(lo+1)+1+m/2048%4) lo (ca+m/8192%2) ca
theorem mul_two {p lo:Int} (h0:0≤lo) (h1:lo<2):p*(lo+1)=if lo=0 then p else 2*p:=by
 split
 ·rename_i h; subst h; omega
 ·have:lo=1:=by omega
  subst this; omega
theorem Made_pc (n:Int):PC Tryz.prog [] 9 [I n] (· = D.r (Config.d (madeC n))):=by
 have h0:0≤n%65536:=Int.emod_nonneg _ (by decide)
 have h1:n%65536<65536:=Int.emod_lt_of_pos _ (by decide)
 have hlo:=Int.emod_nonneg (n%65536/1024) (show (2:Int)≠0 by decide)
 have hlo':=Int.emod_lt_of_pos (n%65536/1024) (show (0:Int)<2 by decide)
 have f:∀ (k:Int),0≤k→(n%65536).fdiv k=n%65536/k:=fun k hk=>Int.fdiv_eq_ediv_of_nonneg _ hk
 refine made_pc0 n (n%65536) (andI_16 n) (1+n%65536%4).toNat ?_ oM oM _ _ _ _ _ _ _ ?_ ?_ ?_ ?_ ?_ ?_ ?_
 ·rw [andI_2,Ev.wrap_i64 oM oM]; omega
 ·rw [andI_2,f 4 (by decide)]
 ·rw [andI_3,f 16 (by decide),Ev.wrap_i64 (x:=1000*_) oM oM,Ev.wrap_i64 oM oM]
 ·rw [andI_3,f 128 (by decide),Ev.wrap_i64 oM oM]
 ·rw [andI_1,f 1024 (by decide)]
 ·have:=mul_two (p:=((1+n%65536%4).toNat:Int)) hlo hlo'
  rw [Ev.wrap_i64 (x:=n%65536/1024%2+1) oM oM]
  rw [Ev.wrap_i64 (x:=_*_) (by rw [this]; omega) (by rw [this]; omega)]
  exact Ev.wrap_i64 (by rw [this]; omega) (by rw [this]; omega)
 ·have:=mul_two (p:=((1+n%65536%4).toNat:Int)-1) hlo hlo'
  rw [andI_2,f 2048 (by decide),Ev.wrap_i64 (x:=n%65536/1024%2+1) oM oM,Ev.wrap_i64 (x:=((1+n%65536%4).toNat:Int)-1) oM oM]
  rw [Ev.wrap_i64 (x:=_*_) (by rw [this]; omega) (by rw [this]; omega),Ev.wrap_i64 (x:=_*_+1) (by rw [this]; omega) (by rw [this]; omega)]
  exact Ev.wrap_i64 (by rw [this]; omega) (by rw [this]; omega)
 ·have:=mul_two (p:=((1+n%65536%4).toNat:Int)) hlo hlo'
  rw [andI_1,f 8192 (by decide)]
  exact Ev.wrap_i64 (by rw [this]; omega) (by rw [this]; omega)
theorem madeC_parts (n:Int):(madeC n).parts=(netOf (1+n%65536%4).toNat (n%65536/4%4)).1:=rfl
theorem madeC_links (n:Int):(madeC n).links=(netOf (1+n%65536%4).toNat (n%65536/4%4)).2:=rfl
theorem madeC_len (n:Int):(madeC n).parts.length≤4∧1≤(madeC n).parts.length∧(madeC n).links.length≤4:=by
 have h:=netOf_len (1+n%65536%4).toNat (n%65536/4%4) oM
 rw [madeC_parts,madeC_links,h.1]
 omega
theorem made_ind {Q:Config→Prop} (h:∀ (p sh:Nat),1≤p→p≤4→sh<4→∀ cy dr ag lo li ca:Int,Q (cfg1 (netOf p sh).1 (netOf p sh).2 cy dr ag lo li ca)) (n:Int):Q (madeC n):=by
 have h2:=h (1+n%65536%4).toNat (n%65536/4%4).toNat oM oM oM
 rw [Int.toNat_of_nonneg (Int.emod_nonneg _ (by decide))] at h2
 exact h2 _ _ _ _ _ _
theorem nets16 {Q:Nat→Nat→Prop} (h:Q 1 0∧Q 1 1∧Q 1 2∧Q 1 3∧Q 2 0∧Q 2 1∧Q 2 2∧Q 2 3∧Q 3 0∧Q 3 1∧Q 3 2∧Q 3 3∧Q 4 0∧Q 4 1∧Q 4 2∧Q 4 3) (p sh:Nat) (h1:1≤p) (h4:p≤4) (hs:sh<4):Q p sh:=by
 obtain ⟨a,b,c,d,e,f,g,i,j,k,l,m,n,o,q,r⟩:=h
 match p,sh,h1,h4,hs with
 | 1,0,_,_,_=>exact a
 | 1,1,_,_,_=>exact b
 | 1,2,_,_,_=>exact c
 | 1,3,_,_,_=>exact d
 | 2,0,_,_,_=>exact e
 | 2,1,_,_,_=>exact f
 | 2,2,_,_,_=>exact g
 | 2,3,_,_,_=>exact i
 | 3,0,_,_,_=>exact j
 | 3,1,_,_,_=>exact k
 | 3,2,_,_,_=>exact l
 | 3,3,_,_,_=>exact m
 | 4,0,_,_,_=>exact n
 | 4,1,_,_,_=>exact o
 | 4,2,_,_,_=>exact q
 | 4,3,_,_,_=>exact r
 | p+5,_,_,h,_=>omega
 | _,s+4,_,_,h=>omega
theorem made_right (n:Int):checkP (madeC n)=(0,0) :=
 made_ind (Q:=fun c=>checkP c=(0,0)) (fun p sh h1 h4 hs=>nets16 (Q:=fun p sh=>∀ cy dr ag lo li ca:Int,checkP (cfg1 (netOf p sh).1 (netOf p sh).2 cy dr ag lo li ca)=(0,0))
  (by refine ⟨?_,?_,?_,?_,?_,?_,?_,?_,?_,?_,?_,?_,?_,?_,?_,?_⟩ <;> (intros; kernel_rfl)) p sh h1 h4 hs) n
end Go.Proofs.YtdomlccfjnkbjaaGreatDoor.Pl
