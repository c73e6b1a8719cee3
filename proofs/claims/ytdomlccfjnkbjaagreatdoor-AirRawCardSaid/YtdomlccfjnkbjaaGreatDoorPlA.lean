/- Several texts in one: PlOne PlThree PlFour PlFive PlSix PlSeven PlEight PlNine PlTen. -/
import Derived.Test.YtdomlccfjnkbjaaGreatDoorPlArg
namespace Go.Proofs.YtdomlccfjnkbjaaGreatDoor.Pl
open Go.RowKit Go.Proofs.YtdomlccfjnkbjaaGreatDoor.Sm Go.Proofs.YtdomlccfjnkbjaaGreatDoor.Dp
set_option maxHeartbeats 4000000
set_option maxRecDepth 100000
set_option linter.unusedVariables false
set_option linter.unusedSimpArgs false
def isB (i n:Int):Bool:=decide (i≥0)&&decide (i<n)
theorem isB_true (i n:Int):(isB i n=true)=(0≤i∧i<n):=by simp [isB]
theorem isB_false (i n:Int):(isB i n=false)=¬ (0≤i∧i<n):=by rw [← isB_true]; simp
theorem wrap1 (i:Nat) (h:i<4611686018427387904):IntKind.i64.wrap ((i:Int)+1)=((i+1:Nat):Int):=by rw [Ev.wrap_i64 oM oM]; omega
theorem drumlineref5_is_pc (i n:Int):PC Tryz.prog [] 67 [I i,I n] (· = D.v (.bool (isB i n))):=by
 refine PC.of (N:=12) Tryz.func67 rfl rfl (Nat.le_of_ble_eq_true rfl) ?_
 refine PW.a [0,1] 0 (PW.t [4] 0 (rq (D.v (.bool ((decide (i≥(0:Int)))&&(decide (i<n))))) ?_))
 rfl
def portAt (l:Link) (i:Nat) (part node:Int):Option Port :=
 if l.a=part∧l.pa0=node then some ⟨node,i,0,0⟩
 else if l.b=part∧l.pb0=node then some ⟨node,i,0,1⟩
 else if l.a=part∧l.pa1=node then some ⟨node,i,1,0⟩
 else if l.b=part∧l.pb1=node then some ⟨node,i,1,1⟩ else none
def portP (ls:List Link) (part node:Int):Nat→Option Port
 | 0=>none
 | n+1=>match portP ls part node n with
  | some p=>some p
  | none=>portAt (ls.getD n default) n part node
def portD (o:Option Port):D:=D.t [D.r (Port.d (o.getD ⟨0,0,0,0⟩)),D.v (.bool o.isSome)]
theorem portP_more {ls:List Link} {part node:Int} {n:Nat} {p:Port} (h:portP ls part node n=some p):∀ m,n≤m→portP ls part node m=some p
 | 0,hm=>by
  have:n=0:=by omega
  subst this
  exact h
 | m+1,hm=>by
  rcases Nat.lt_or_ge m n with h1|h1
  ·have:n=m+1:=by omega
   subst this
   exact h
  ·simp only [portP,portP_more h m h1]
theorem port_yes {ls:List Link} {part node:Int} {i n:Nat} {p:Port} (h:portP ls part node i=none) (ha:portAt (ls.getD i default) i part node=some p) (hi:i<n):portP ls part node n=some p :=
 portP_more (n:=i+1) (by simp only [portP,h,ha]) n hi
theorem drumlineref5_port_pc (c:Config) (n:Nat) (part node:Int) (hn:n≤c.links.length) (hs:c.links.length<1000000):PC Tryz.prog [] 58 [D.r (Config.d c),I (n:Int),I part,I node] (· = portD (portP c.links part node n)):=by
 refine PC.of (N:=60) Tryz.func58 rfl rfl (Nat.le_of_ble_eq_true rfl) ?_
 refine PW.a [1,2,3,4,8] 2 (PW.q [1,2,3,4,8,10] 2 (PW.block (PW.lp (α := Nat) (fun i=>{ tab:=[⟨1,[],I (n:Int)⟩,⟨2,[],I part⟩,⟨3,[],I node⟩,⟨4,[],D.p 0 0 0 0⟩,⟨8,[],D.p 1 0 0 0⟩,⟨10,[],I (i:Int)⟩],mem:=[Obj.var 30 (Config.d c),Obj.var 76 [I 0,I 0,I 0,I 0]] }) (fun i=>i≤n∧portP c.links part node i=none) (fun i=>n-i) [1,2,3,4,8,10] 2 (0) ?_ ?_)))
 ·exact ⟨Nat.zero_le _,rfl⟩
 rintro i hinv
 show PW _ _ _ _ _
 refine PW.q [1,2,3,4,8,10,15] 2 (PW.cd (decide ((i:Int)<(n:Int))) ?_ ?_) <;> intro hz0 <;> try simp only [boolS] at hz0
 ·refine PW.k (PW.seq (PW.block (PW.sr [1,2,3,4,8,10,11] 3 (p:=(0≤(i:Int)∧(i:Int)<(c.links.length:Int))) oM (PW.a [1,2,3,4,8,10,11,12] 3 (PW.block (PW.rounds 3 ?_))))))
  refine PR.succ ?_
  refine PW.q [1,2,3,4,8,10,11,12,24] 3 ?_
  refine PW.cd true (fun hz1 => ?_) (fun hz1=>by cases hz1)
  refine PW.k (PW.seq (PW.block (PW.seq (PW.sr [1,2,3,4,8,10,11,12,38] 3 (p:=(((((c.links.getD i default).a) == part)=true∧True→0≤(0:Int)∧(0:Int)<((2:Nat):Int)))) nD (PW.cd ((((c.links.getD i default).a) == part)&&(((c.links.getD i default).pa0) == node)) ?_ ?_))))) <;> intro hz2 <;> try simp only [boolS] at hz2
  ·refine PW.t [8,9] 3 (rq (D.t [D.r [I node,I (i:Int),I 0,I 0],D.v (.bool true)]) ?_)
   rw [port_yes hinv.2 (p:=⟨node,i,0,0⟩) (by unfold portAt; grind) oM]
   rfl
  ·refine PW.k (PW.sr [1,2,3,4,8,10,11,12,54] 3 (p:=(((((c.links.getD i default).b) == part)=true∧True→0≤(0:Int)∧(0:Int)<((2:Nat):Int)))) nD (PW.cd ((((c.links.getD i default).b) == part)&&(((c.links.getD i default).pb0) == node)) ?_ ?_)) <;> intro hz3 <;> try simp only [boolS] at hz3
   ·refine PW.t [8,9] 3 (rq (D.t [D.r [I node,I (i:Int),I 0,I 1],D.v (.bool true)]) ?_)
    rw [port_yes hinv.2 (p:=⟨node,i,0,1⟩) (by unfold portAt; grind) oM]
    rfl
   ·refine PW.k (PW.b [1,2,3,4,8,10,11,12] 3 ?_)
    show PR _ _ _ _ _ _
    refine PR.succ ?_
    refine PW.q [1,2,3,4,8,10,11,12,24] 3 ?_
    refine PW.cd true (fun hz4 => ?_) (fun hz4=>by cases hz4)
    refine PW.k (PW.seq (PW.block (PW.seq (PW.sr [1,2,3,4,8,10,11,12,38] 3 (p:=(((((c.links.getD i default).a) == part)=true∧True→0≤(1:Int)∧(1:Int)<((2:Nat):Int)))) nD (PW.cd ((((c.links.getD i default).a) == part)&&(((c.links.getD i default).pa1) == node)) ?_ ?_))))) <;> intro hz5 <;> try simp only [boolS] at hz5
    ·refine PW.t [8,9] 3 (rq (D.t [D.r [I node,I (i:Int),I 1,I 0],D.v (.bool true)]) ?_)
     rw [port_yes hinv.2 (p:=⟨node,i,1,0⟩) (by unfold portAt; grind) oM]
     rfl
    ·refine PW.k (PW.sr [1,2,3,4,8,10,11,12,54] 3 (p:=(((((c.links.getD i default).b) == part)=true∧True→0≤(1:Int)∧(1:Int)<((2:Nat):Int)))) nD (PW.cd ((((c.links.getD i default).b) == part)&&(((c.links.getD i default).pb1) == node)) ?_ ?_)) <;> intro hz6 <;> try simp only [boolS] at hz6
     ·refine PW.t [8,9] 3 (rq (D.t [D.r [I node,I (i:Int),I 1,I 1],D.v (.bool true)]) ?_)
      rw [port_yes hinv.2 (p:=⟨node,i,1,1⟩) (by unfold portAt; grind) oM]
      rfl
     ·refine PW.k (PW.b [1,2,3,4,8,10,11,12] 3 ?_)
      show PR _ _ _ _ _ _
      refine PR.succ ?_
      refine PW.q [1,2,3,4,8,10,11,12,24] 3 (PW.cd false (fun hz7=>by cases hz7) (fun hz7 => ?_))
      refine PW.e (PW.b [1,2,3,4,8,10] 3 ?_)
      refine BackR.of (s1:={ tab:=[⟨1,[],I (n:Int)⟩,⟨2,[],I part⟩,⟨3,[],I node⟩,⟨4,[],D.p 0 0 0 0⟩,⟨8,[],D.p 1 0 0 0⟩,⟨10,[],I (IntKind.i64.wrap ((i:Int)+1))⟩],mem:=[Obj.var 30 (Config.d c),Obj.var 76 [I 0,I 0,I 0,I 0]] }) (i+1) kR kR ?_ ?_ ?_
      ·rw [wrap1 i oM]
       exact Rem.refl _
      ·exact ⟨by omega,by simp only [portP,hinv.2]; unfold portAt; grind⟩
      ·exact nD
 ·refine PW.e (PW.t [8,9] 2 (rq (D.t [D.r [I 0,I 0,I 0,I 0],D.v (.bool false)]) ?_))
  rw [show n=i by omega,hinv.2]
  rfl
def endsB (c:Config) (i:Nat) (part p0 p1:Int):Bool :=
 (p0 == p1)||(!isB p0 (c.parts.getD part.toNat default).nodes||(portP c.links part p0 i).isSome)||(!isB p1 (c.parts.getD part.toNat default).nodes||(portP c.links part p1 i).isSome)
theorem drumlineref5_ends_pc (c:Config) (i:Nat) (part p0 p1:Int) (hi:i≤c.links.length) (hs:c.links.length<1000000) (hq:0≤part∧part<(c.parts.length:Int)):PC Tryz.prog [] 150 [D.r (Config.d c),I (i:Int),I part,D.r [I p0,I p1]] (· = D.v (.bool (endsB c i part p0 p1))):=by
 refine PC.of (N:=45) Tryz.func150 rfl rfl (Nat.le_of_ble_eq_true rfl) ?_
 refine PW.a [1,2,4,7] 2 (PW.seq (PW.sr [1,2,4,7,16] 2 (p:=(0≤(0:Int)∧(0:Int)<((2:Nat):Int))∧(0≤(1:Int)∧(1:Int)<((2:Nat):Int))) oM (PW.cd (p0 == p1) ?_ ?_))) <;> intro hz0 <;> try simp only [boolS,isB_true,isB_false] at hz0
 ·refine PW.t [8] 2 (rq (D.v (.bool true)) ?_)
  refine congrArg (fun b=>D.v (.bool b)) ?_
  unfold endsB isB
  grind
 ·refine PW.k (PW.q [1,2,4,7,9] 2 (PW.block (PW.rounds 3 ?_)))
  refine PR.succ ?_
  refine PW.q [1,2,4,7,9,18] 2 ?_
  refine PW.cd true (fun hz1 => ?_) (fun hz1=>by cases hz1)
  refine PW.k (PW.seq (PW.block (PW.oj ({ tab:=[⟨1,[],I (i:Int)⟩,⟨2,[],I part⟩,⟨4,[],D.p 0 0 0 0⟩,⟨7,[],D.p 1 0 0 0⟩,⟨9,[],I 0⟩,⟨11,[],D.v (.bool ((portP c.links part p0 i).isSome))⟩],mem:=[Obj.var 30 (Config.d c),Obj.var 61 [I p0,I p1],Obj.var 76 [I (((portP c.links part p0 i).getD ⟨0,0,0,0⟩).node),I (((portP c.links part p0 i).getD ⟨0,0,0,0⟩).link),I (((portP c.links part p0 i).getD ⟨0,0,0,0⟩).gate),I (((portP c.links part p0 i).getD ⟨0,0,0,0⟩).side)]] }) ?_ ?_)))
  ·show PW _ _ _ _ _
   refine PW.seq (PW.open [] kR (PO.tk [0,1,2,3,4,5,6,7,8] 14 [1,2,4,7,9,11,33,39] 5 (p:=(0≤(0:Int)∧(0:Int)<((2:Nat):Int))∧(0≤part∧part<(c.parts.length:Int))) oM (fun _ _ h=>h) (PO.one (n:=4) 9 kR ?_)))
   refine PO1.gc _ (A:=[]) (fun _=>drumlineref5_is_pc p0 ((c.parts.getD part.toNat default).nodes)) ?_ rfl
   refine PO.a [10,11,12,13] 4 [1,2,4,7,9,44] 0 (PO.done kR ?_)
   show PW _ _ _ _ _
   refine PW.cd ((!(isB p0 ((c.parts.getD part.toNat default).nodes)))||((portP c.links part p0 i).isSome)) ?_ ?_ <;> intro hz2 <;> try simp only [boolS,isB_true,isB_false] at hz2
   ·refine PW.t [8] 3 (rq (D.v (.bool true)) ?_)
    refine congrArg (fun b=>D.v (.bool b)) ?_
    unfold endsB isB
    grind
   ·refine PW.k (PW.b [1,2,4,7,9] 3 ?_)
    show PR _ _ _ _ _ _
    refine PR.succ ?_
    refine PW.q [1,2,4,7,9,18] 3 ?_
    refine PW.cd true (fun hz3 => ?_) (fun hz3=>by cases hz3)
    refine PW.k (PW.seq (PW.block (PW.oj ({ tab:=[⟨1,[],I (i:Int)⟩,⟨2,[],I part⟩,⟨4,[],D.p 0 0 0 0⟩,⟨7,[],D.p 1 0 0 0⟩,⟨9,[],I 1⟩,⟨11,[],D.v (.bool ((portP c.links part p1 i).isSome))⟩],mem:=[Obj.var 30 (Config.d c),Obj.var 61 [I p0,I p1],Obj.var 76 [I (((portP c.links part p0 i).getD ⟨0,0,0,0⟩).node),I (((portP c.links part p0 i).getD ⟨0,0,0,0⟩).link),I (((portP c.links part p0 i).getD ⟨0,0,0,0⟩).gate),I (((portP c.links part p0 i).getD ⟨0,0,0,0⟩).side)],Obj.var 76 [I (((portP c.links part p1 i).getD ⟨0,0,0,0⟩).node),I (((portP c.links part p1 i).getD ⟨0,0,0,0⟩).link),I (((portP c.links part p1 i).getD ⟨0,0,0,0⟩).gate),I (((portP c.links part p1 i).getD ⟨0,0,0,0⟩).side)]] }) ?_ ?_)))
    ·show PW _ _ _ _ _
     refine PW.seq (PW.open [] kR (PO.tk [0,1,2,3,4,5,6,7,8] 14 [1,2,4,7,9,11,33,39] 5 (p:=(0≤(1:Int)∧(1:Int)<((2:Nat):Int))∧(0≤part∧part<(c.parts.length:Int))) oM (fun _ _ h=>h) (PO.one (n:=4) 9 kR ?_)))
     refine PO1.gc _ (A:=[]) (fun _=>drumlineref5_is_pc p1 ((c.parts.getD part.toNat default).nodes)) ?_ rfl
     refine PO.a [10,11,12,13] 4 [1,2,4,7,9,44] 0 (PO.done kR ?_)
     show PW _ _ _ _ _
     refine PW.cd ((!(isB p1 ((c.parts.getD part.toNat default).nodes)))||((portP c.links part p1 i).isSome)) ?_ ?_ <;> intro hz4 <;> try simp only [boolS,isB_true,isB_false] at hz4
     ·refine PW.t [8] 4 (rq (D.v (.bool true)) ?_)
      refine congrArg (fun b=>D.v (.bool b)) ?_
      unfold endsB isB
      grind
     ·refine PW.k (PW.b [1,2,4,7,9] 4 ?_)
      show PR _ _ _ _ _ _
      refine PR.succ ?_
      refine PW.q [1,2,4,7,9,18] 4 (PW.cd false (fun hz5=>by cases hz5) (fun hz5 => ?_))
      refine PW.e (PW.t [8] 4 (rq (D.v (.bool false)) ?_))
      refine congrArg (fun b=>D.v (.bool b)) ?_
      unfold endsB isB
      grind
    ·skip
     refine PW.open [3] kR (PO.tk [0,1,2,3,4,5] 13 [1,2,4,7,9,22,23,24,27] 7 (p:=(0≤(1:Int)∧(1:Int)<((2:Nat):Int))) oM (fun _ _ h=>h) (PO.next (n:=6) [6,10] kR (by simp) ?_))
     intro i hi
     simp only [List.mem_cons,List.not_mem_nil,or_false] at hi
     rcases hi with rfl|rfl
     ·skip
      refine PO1.gc _ (A:=[]) (fun _=>drumlineref5_port_pc c i part p1 oM oM) ?_ rfl
      refine PO.a [7,8,9] 6 [1,2,4,7,9,29,30] 3 (PO.one (n:=2) 10 kR (PO1.a [1,2,4,7,9,10,29,30] 4 (PO.one (n:=1) 11 kR (PO1.a [1,2,4,7,9,30] 4 (PO.a [12] 1 [1,2,4,7,9,11] 0 (PO.done kR ?_))))))
      exact (show _=_ from by kernel_rfl)
     ·skip
      refine PO1.a [1,2,4,7,9,10,22,23,24,27] 4 (PO.one (n:=5) 6 kR ?_)
      refine PO1.gc _ (A:=[]) (fun _=>drumlineref5_port_pc c i part p1 oM oM) ?_ rfl
      refine PO.a [7,8,9] 5 [1,2,4,7,9,10,29,30] 2 (PO.one (n:=1) 11 kR (PO1.a [1,2,4,7,9,30] 4 (PO.a [12] 1 [1,2,4,7,9,11] 0 (PO.done kR ?_))))
      exact (show _=_ from by kernel_rfl)
  ·skip
   refine PW.open [2] kR (PO.tk [0,1,2,3,4,5] 13 [1,2,4,7,9,22,23,24,27] 7 (p:=(0≤(0:Int)∧(0:Int)<((2:Nat):Int))) oM (fun _ _ h=>h) (PO.next (n:=6) [6,10] kR (by simp) ?_))
   intro i hi
   simp only [List.mem_cons,List.not_mem_nil,or_false] at hi
   rcases hi with rfl|rfl
   ·skip
    refine PO1.gc _ (A:=[]) (fun _=>drumlineref5_port_pc c i part p0 oM oM) ?_ rfl
    refine PO.a [7,8,9] 6 [1,2,4,7,9,29,30] 3 (PO.one (n:=2) 10 kR (PO1.a [1,2,4,7,9,10,29,30] 3 (PO.one (n:=1) 11 kR (PO1.a [1,2,4,7,9,30] 3 (PO.a [12] 1 [1,2,4,7,9,11] 0 (PO.done kR ?_))))))
    exact (show _=_ from by kernel_rfl)
   ·skip
    refine PO1.a [1,2,4,7,9,10,22,23,24,27] 3 (PO.one (n:=5) 6 kR ?_)
    refine PO1.gc _ (A:=[]) (fun _=>drumlineref5_port_pc c i part p0 oM oM) ?_ rfl
    refine PO.a [7,8,9] 5 [1,2,4,7,9,10,29,30] 2 (PO.one (n:=1) 11 kR (PO1.a [1,2,4,7,9,30] 3 (PO.a [12] 1 [1,2,4,7,9,11] 0 (PO.done kR ?_))))
    exact (show _=_ from by kernel_rfl)
def twiceB (ls:List Link) (l:Link):Nat→Bool
 | 0=>false
 | k+1=>twiceB ls l k||(decide ((ls.getD k default).a=l.a)&&decide ((ls.getD k default).b=l.b))
def linkE (c:Config) (i:Nat):Int :=
 if (!isB (c.links.getD i default).a c.parts.length || !isB (c.links.getD i default).b c.parts.length||decide ((c.links.getD i default).a≥(c.links.getD i default).b))=true then 10
 else if twiceB c.links (c.links.getD i default) i=true then 11
 else if (endsB c i (c.links.getD i default).a (c.links.getD i default).pa0 (c.links.getD i default).pa1||endsB c i (c.links.getD i default).b (c.links.getD i default).pb0 (c.links.getD i default).pb1)=true then 12 else 0
theorem twice_more {ls:List Link} {l:Link} {n:Nat} (h:twiceB ls l n=true):∀ m,n≤m→twiceB ls l m=true
 | 0,hm=>by
  have:n=0:=by omega
  subst this
  exact h
 | m+1,hm=>by
  rcases Nat.lt_or_ge m n with h1|h1
  ·have:n=m+1:=by omega
   subst this
   exact h
  ·simp only [twiceB,twice_more h m h1,Bool.true_or]
theorem drumlineref5_link_pc (c:Config) (i:Nat) (hi:i<c.links.length) (hs:c.links.length<1000000) (hp:c.parts.length<1000000):PC Tryz.prog [] 114 [D.r (Config.d c),I (i:Int)] (· = I (linkE c i)):=by
 refine PC.of (N:=76) Tryz.func114 rfl rfl (Nat.le_of_ble_eq_true rfl) ?_
 refine PW.a [1,2] 1 (PW.sr [1,2,5] 2 (p:=(0≤(i:Int)∧(i:Int)<(c.links.length:Int))) oM (PW.seq (PW.w 5 [1,2,5,13,16] 2 (PL.gc (A:=[]) (fun _=>drumlineref5_is_pc ((c.links.getD i default).a) (c.parts.length:Int)) (PL.a 7 [1,2,5,19,21,24] 2 (PL.gc (A:=[(19,false)]) (fun _=>drumlineref5_is_pc ((c.links.getD i default).b) (c.parts.length:Int)) (PL.n 9 [1,2,5,34] 2 ?_)))))))
 refine PW.cd (((!(isB ((c.links.getD i default).a) (c.parts.length:Int)))||(!(isB ((c.links.getD i default).b) (c.parts.length:Int))))||(decide (((c.links.getD i default).a)≥((c.links.getD i default).b)))) ?_ ?_ <;> intro hz0 <;> try simp only [boolS,isB_true,isB_false] at hz0
 ·refine PW.t [4] 2 (rq (I 10) ?_)
  refine congrArg I ?_
  unfold linkE
  rw [if_pos (by simp only [Bool.or_eq_true,Bool.not_eq_true',decide_eq_true_eq,isB_false]; grind)]
 ·refine PW.k (PW.q [1,2,5,6] 2 (PW.block (PW.lp (α := Nat) (fun k=>{ tab:=[⟨1,[],I (i:Int)⟩,⟨2,[],D.p 0 0 0 0⟩,⟨5,[],D.p 1 0 0 0⟩,⟨6,[],I (k:Int)⟩],mem:=[Obj.var 30 (Config.d c),Obj.var 63 [I ((c.links.getD i default).a),I ((c.links.getD i default).b),I ((c.links.getD i default).pa0),I ((c.links.getD i default).pa1),I ((c.links.getD i default).pb0),I ((c.links.getD i default).pb1)]] }) (fun k=>k≤i∧twiceB c.links (c.links.getD i default) k=false) (fun k=>i-k) [1,2,5,6] 2 (0) ?_ ?_)))
  ·exact ⟨Nat.zero_le _,rfl⟩
  rintro k hinv
  show PW _ _ _ _ _
  refine PW.q [1,2,5,6,37] 2 (PW.cd (decide ((k:Int)<(i:Int))) ?_ ?_) <;> intro hz1 <;> try simp only [boolS,isB_true,isB_false] at hz1
  ·refine PW.k (PW.seq (PW.block (PW.seq (PW.open [] kR (PO.tk [0,1,2,3,4,5,6,7,8,9,10,11,12,13,14,15,16,17,18,19] 20 [1,2,5,6,59] 0 (p:=(0≤(k:Int)∧(k:Int)<(c.links.length:Int))∧(((((c.links.getD k default).a) == ((c.links.getD i default).a))=true∧True→0≤(k:Int)∧(k:Int)<(c.links.length:Int)))) nD (fun _ _ h=>h) (PO.done kR ?_))))))
   show PW _ _ _ _ _
   refine PW.cd ((((c.links.getD k default).a) == ((c.links.getD i default).a))&&(((c.links.getD k default).b) == ((c.links.getD i default).b))) ?_ ?_ <;> intro hz2 <;> try simp only [boolS,isB_true,isB_false] at hz2
   ·refine PW.t [4] 2 (rq (I 11) ?_)
    refine congrArg I ?_
    unfold linkE
    rw [if_neg (by simp only [Bool.or_eq_true,Bool.not_eq_true',decide_eq_true_eq,isB_false]; grind),if_pos (twice_more (n:=k+1) (by simp only [twiceB,Bool.or_eq_true,Bool.and_eq_true,decide_eq_true_eq]; grind) i oM)]
   ·refine PW.k (PW.b [1,2,5,6] 2 ?_)
    refine BackR.of (s1:={ tab:=[⟨1,[],I (i:Int)⟩,⟨2,[],D.p 0 0 0 0⟩,⟨5,[],D.p 1 0 0 0⟩,⟨6,[],I (IntKind.i64.wrap ((k:Int)+1))⟩],mem:=[Obj.var 30 (Config.d c),Obj.var 63 [I ((c.links.getD i default).a),I ((c.links.getD i default).b),I ((c.links.getD i default).pa0),I ((c.links.getD i default).pa1),I ((c.links.getD i default).pb0),I ((c.links.getD i default).pb1)]] }) (k+1) kR kR ?_ ?_ ?_
    ·rw [wrap1 k oM]
     exact Rem.refl _
    ·exact ⟨by omega,by simp only [twiceB,Bool.or_eq_false_iff,Bool.and_eq_false_iff,decide_eq_false_iff_not]; grind⟩
    ·exact nD
  ·refine PW.e (PW.seq (PW.w 6 [1,2,5,60,61,63,65] 2 (PL.gc (A:=[]) (fun _=>drumlineref5_ends_pc c i ((c.links.getD i default).a) ((c.links.getD i default).pa0) ((c.links.getD i default).pa1) oM oM oM) (PL.a 7 [67,68,69,71,73] 2 (PL.gc (A:=[(67,false)]) (fun _=>drumlineref5_ends_pc c i ((c.links.getD i default).b) ((c.links.getD i default).pb0) ((c.links.getD i default).pb1) oM oM oM) (PL.n 1 [75] 2 (PW.cd ((endsB c i ((c.links.getD i default).a) ((c.links.getD i default).pa0) ((c.links.getD i default).pa1))||(endsB c i ((c.links.getD i default).b) ((c.links.getD i default).pb0) ((c.links.getD i default).pb1))) ?_ ?_))))))) <;> intro hz3 <;> try simp only [boolS,isB_true,isB_false] at hz3
   ·refine PW.t [4] 2 (rq (I 12) ?_)
    refine congrArg I ?_
    have hki:k=i:=by omega
    subst hki
    unfold linkE
    rw [if_neg (by simp only [Bool.or_eq_true,Bool.not_eq_true',decide_eq_true_eq,isB_false]; grind),if_neg (by rw [hinv.2]; simp),if_pos (by simp only [Bool.or_eq_true]; grind)]
   ·refine PW.k (PW.t [4] 2 (rq (I 0) ?_))
    refine congrArg I ?_
    have hki:k=i:=by omega
    subst hki
    unfold linkE
    rw [if_neg (by simp only [Bool.or_eq_true,Bool.not_eq_true',decide_eq_true_eq,isB_false]; grind),if_neg (by rw [hinv.2]; simp),if_neg (by simp only [Bool.or_eq_true]; grind)]
def LinksIn (c:Config):Prop:=∀ i,i<c.links.length→0≤(c.links.getD i default).a∧(c.links.getD i default).a<(c.parts.length:Int)∧0≤(c.links.getD i default).b∧(c.links.getD i default).b<(c.parts.length:Int)
def sweep {α : Type} (ls:List Link) (f:Link → α → α) (x : α):Nat → α
 | 0=>x
 | i+1=>f (ls.getD i default) (sweep ls f x i)
def relaxA (k:Int) (l:Link) (d:List Int):List Int:=if d.getD l.a.toNat default=k∧d.getD l.b.toNat default<0 then d.set l.b.toNat (k+1) else d
def relaxB (k:Int) (l:Link) (d:List Int):List Int:=if d.getD l.b.toNat default=k∧d.getD l.a.toNat default<0 then d.set l.a.toNat (k+1) else d
def relax (k:Int) (l:Link) (d:List Int):List Int:=relaxB k l (relaxA k l d)
def distsN (ls:List Link) (d:List Int):Nat→List Int
 | 0=>d
 | k+1=>sweep ls (relax k) (distsN ls d k) ls.length
def dists0 (n from_:Nat):List Int:=(List.replicate n (-1)).set from_ 0
def distsL (c:Config) (from_:Nat):List Int:=distsN c.links (dists0 c.parts.length from_) c.parts.length
theorem relax_len (k:Int) (l:Link) (d:List Int):(relax k l d).length=d.length:=by unfold relax relaxA relaxB; split <;> split <;> simp
theorem sweep_len (ls:List Link) (k:Int) (d:List Int):∀ i,(sweep ls (relax k) d i).length=d.length
 | 0=>rfl
 | i+1=>by rw [sweep,relax_len,sweep_len]
theorem distsN_len (ls:List Link) (d:List Int):∀ k,(distsN ls d k).length=d.length
 | 0=>rfl
 | k+1=>by rw [distsN,sweep_len,distsN_len]
theorem dists0_len (n f:Nat):(dists0 n f).length=n:=by simp [dists0]
theorem take_rep (n i:Nat) (v w:Int) (h:i<n):((List.replicate i v)++(List.replicate (n-i) w)).set i v=List.replicate (i+1) v++List.replicate (n-(i+1)) w:=by
 rw [List.set_append_right _ _ (by simp),List.length_replicate,Nat.sub_self,show n-i=(n-(i+1))+1 by omega,List.replicate_succ,List.set_cons_zero,List.replicate_succ',List.append_assoc]
 rfl
theorem drumlineref5_dists_pc (c:Config) (f:Nat) (hf:f<c.parts.length) (hL:LinksIn c) (hs:c.links.length<1000000) (hp:c.parts.length<1000000):PC Tryz.prog [] 115 [D.r (Config.d c),I (f:Int)] (· = sl' 1 (fun x=>[I x]) (distsL c f)):=by
 refine PC.of (N:=87) Tryz.func115 rfl rfl (Nat.le_of_ble_eq_true rfl) ?_
 refine PW.a [1,2] 1 (PW.sg (PL.rw 4 [1,2,13] 2 (p:=((c.parts.length:Int)≤(c.parts.length:Int)∧0≤(c.parts.length:Int)∧((8:Nat):Int)*(c.parts.length:Int)≤281474976710656∧(c.parts.length:Int)≤9223372036854775807)) oM (PL.rm 1 (t:=3) (z:=1) (n:=c.parts.length) (fun _=>[I 0]) (fun j=>[I ((List.replicate c.parts.length (0:Int)).getD j default)]) (fun j hj=>by (try dsimp only); rw [getD_rep _ _ _ _ hj]) (PL.n 1 [1,2,5] 2 (PW.q [1,2,5,6] 2 (PW.block (PW.lp (α := Nat×List Int) (fun (i,xs)=>{ tab:=[⟨1,[],I (f:Int)⟩,⟨2,[],D.p 0 0 0 0⟩,⟨5,[],D.h 1 c.parts.length⟩,⟨6,[],I (i:Int)⟩],mem:=[Obj.var 30 (Config.d c),Obj.row 3 1 c.parts.length (fun j=>[I (xs.getD j default)])] }) (fun (i,xs)=>i≤c.parts.length∧xs=List.replicate i (-1)++List.replicate (c.parts.length-i) 0) (fun (i,xs)=>c.parts.length-i) [1,2,5,6] 2 (0,List.replicate c.parts.length 0) ?_ ?_)))))))
 ·dsimp only
  exact ⟨Nat.zero_le _,rfl⟩
 rintro ⟨i,xs⟩ hinv
 dsimp only at hinv
 have hxl:xs.length=c.parts.length:=by rw [hinv.2]; simp; omega
 show PW _ _ _ _ _
 refine PW.q [1,2,5,6,17] 2 (PW.cd (decide ((i:Int)<(c.parts.length:Int))) ?_ ?_) <;> intro hz0 <;> try simp only [boolS,isB_true,isB_false] at hz0
 ·refine PW.k (PW.seq (PW.block (PW.region (PL.rw 4 [1,2,5,6] 2 (p:=(0≤(i:Int)∧(i:Int)<(c.parts.length:Int))∧(i<c.parts.length)) oM (PL.st 1 (fun x=>[I x]) xs i (-1) (PL.nil ?_))))))
  show PW _ _ _ _ _
  refine PW.b [1,2,5,6] 2 ?_
  refine BackR.of (s1:={ tab:=[⟨1,[],I (f:Int)⟩,⟨2,[],D.p 0 0 0 0⟩,⟨5,[],D.h 1 c.parts.length⟩,⟨6,[],I (IntKind.i64.wrap ((i:Int)+1))⟩],mem:=[Obj.var 30 (Config.d c),Obj.row 3 1 c.parts.length (fun j=>[I ((xs.set i (-1)).getD j default)])] }) (i+1,xs.set i (-1)) kR kR ?_ ?_ ?_
  ·dsimp only
   rw [wrap1 i oM]
   exact Rem.refl _
  ·dsimp only
   exact ⟨by omega,by rw [hinv.2]; exact take_rep _ _ _ _ oM⟩
  ·dsimp only
   exact nD
 ·refine PW.e (PW.sg (PL.rw 4 [2,5] 2 (p:=(0≤(f:Int)∧(f:Int)<(c.parts.length:Int))∧(f<c.parts.length)) oM (PL.st 1 (fun x=>[I x]) xs f 0 (PL.nl (PW.q [2,5,7] 2 (PW.block (PW.loopR (α := Nat×List Int) (fun (k,xs)=>{ tab:=[⟨2,[],D.p 0 0 0 0⟩,⟨5,[],D.h 1 c.parts.length⟩,⟨7,[],I (k:Int)⟩],mem:=[Obj.var 30 (Config.d c),Obj.row 3 1 c.parts.length (fun j=>[I (xs.getD j default)])] }) (fun (k,xs)=>k≤c.parts.length∧xs=distsN c.links (dists0 c.parts.length f) k) (fun (k,xs)=>c.parts.length-k) [2,5,7] 2 (0,dists0 c.parts.length f) (s1:={ tab:=[⟨2,[],D.p 0 0 0 0⟩,⟨5,[],D.h 1 c.parts.length⟩,⟨7,[],I 0⟩],mem:=[Obj.var 30 (Config.d c),Obj.row 3 1 c.parts.length (fun j=>[I ((xs.set f 0).getD j default)])] }) kR kR ?_ ?_ ?_)))))))
  ·dsimp only
   have hi:i=c.parts.length:=by omega
   rw [hi] at hinv
   rw [hinv.2]
   simp only [Nat.sub_self,List.replicate_zero,List.append_nil]
   exact Rem.refl _
  ·dsimp only
   exact ⟨Nat.zero_le _,rfl⟩
  rintro ⟨k,xs⟩ hk
  dsimp only at hk
  have hxl:xs.length=c.parts.length:=by rw [hk.2,distsN_len,dists0_len]
  show PW _ _ _ _ _
  refine PW.q [2,5,7,29] 2 (PW.cd (decide ((k:Int)<(c.parts.length:Int))) ?_ ?_) <;> intro hz1 <;> try simp only [boolS,isB_true,isB_false] at hz1
  ·refine PW.k (PW.seq (PW.block (PW.a [2,5,7,8] 2 (PW.block (PW.lp (α := Nat×List Int) (fun (i,ys)=>{ tab:=[⟨2,[],D.p 0 0 0 0⟩,⟨5,[],D.h 1 c.parts.length⟩,⟨7,[],I (k:Int)⟩,⟨8,[],I (i:Int)⟩],mem:=[Obj.var 30 (Config.d c),Obj.row 3 1 c.parts.length (fun j=>[I (ys.getD j default)])] }) (fun (i,ys)=>i≤c.links.length∧ys=sweep c.links (relax k) xs i) (fun (i,ys)=>c.links.length-i) [2,5,7,8] 2 (0,xs) ?_ ?_)))))
   ·dsimp only
    exact ⟨Nat.zero_le _,rfl⟩
   rintro ⟨i,ys⟩ hinv
   dsimp only at hinv
   have hyl:ys.length=c.parts.length:=by rw [hinv.2,sweep_len,hxl]
   show PW _ _ _ _ _
   refine PW.q [2,5,7,8,36] 2 (PW.cd (decide ((i:Int)<(c.links.length:Int))) ?_ ?_) <;> intro hz2 <;> try simp only [boolS,isB_true,isB_false] at hz2
   ·have hl:=hL i oM
    refine PW.k (PW.seq (PW.block (PW.sr [2,5,7,8,9] 3 (p:=(0≤(i:Int)∧(i:Int)<(c.links.length:Int))) oM (PW.seq (PW.sr [2,5,7,8,9,58] 3 (p:=(0≤((c.links.getD i default).a)∧((c.links.getD i default).a)<(c.parts.length:Int))∧(((c.links.getD i default).a).toNat<c.parts.length)∧((((ys.getD (((c.links.getD i default).a).toNat) default) == (k:Int))=true∧True→0≤((c.links.getD i default).b)∧((c.links.getD i default).b)<(c.parts.length:Int)))∧((((ys.getD (((c.links.getD i default).a).toNat) default) == (k:Int))=true∧True→((c.links.getD i default).b).toNat<c.parts.length))) nD (PW.cd (((ys.getD (((c.links.getD i default).a).toNat) default) == (k:Int))&&(decide ((ys.getD (((c.links.getD i default).b).toNat) default)<(0:Int)))) ?_ ?_)))))) <;> intro hz3 <;> try simp only [boolS,isB_true,isB_false] at hz3
    ·have hl:=hL i oM
     refine PW.region (PL.rw 7 [2,5,7,8,9] 3 (p:=(0≤((c.links.getD i default).b)∧((c.links.getD i default).b)<(c.parts.length:Int))∧(((c.links.getD i default).b).toNat<c.parts.length)) oM (PL.st 1 (fun x=>[I x]) ys (((c.links.getD i default).b).toNat) (IntKind.i64.wrap ((k:Int)+1)) (PL.nil ?_)))
     show PW _ _ _ _ _
     refine PW.sr [2,5,7,8,9,79] 3 (p:=(0≤((c.links.getD i default).b)∧((c.links.getD i default).b)<(c.parts.length:Int))∧(((c.links.getD i default).b).toNat<c.parts.length)∧(((((ys.set (((c.links.getD i default).b).toNat) (IntKind.i64.wrap ((k:Int)+1))).getD (((c.links.getD i default).b).toNat) default) == (k:Int))=true∧True→0≤((c.links.getD i default).a)∧((c.links.getD i default).a)<(c.parts.length:Int)))∧(((((ys.set (((c.links.getD i default).b).toNat) (IntKind.i64.wrap ((k:Int)+1))).getD (((c.links.getD i default).b).toNat) default) == (k:Int))=true∧True→((c.links.getD i default).a).toNat<c.parts.length))) nD (PW.cd ((((ys.set (((c.links.getD i default).b).toNat) (IntKind.i64.wrap ((k:Int)+1))).getD (((c.links.getD i default).b).toNat) default) == (k:Int))&&(decide (((ys.set (((c.links.getD i default).b).toNat) (IntKind.i64.wrap ((k:Int)+1))).getD (((c.links.getD i default).a).toNat) default)<(0:Int)))) ?_ ?_) <;> intro hz4 <;> try simp only [boolS,isB_true,isB_false] at hz4
     ·have hl:=hL i oM
      refine PW.region (PL.rw 7 [2,5,7,8] 3 (p:=(0≤((c.links.getD i default).a)∧((c.links.getD i default).a)<(c.parts.length:Int))∧(((c.links.getD i default).a).toNat<c.parts.length)) oM (PL.st 1 (fun x=>[I x]) (ys.set (((c.links.getD i default).b).toNat) (IntKind.i64.wrap ((k:Int)+1))) (((c.links.getD i default).a).toNat) (IntKind.i64.wrap ((k:Int)+1)) (PL.nil ?_)))
      show PW _ _ _ _ _
      refine PW.b [2,5,7,8] 3 ?_
      refine BackR.of (s1:={ tab:=[⟨2,[],D.p 0 0 0 0⟩,⟨5,[],D.h 1 c.parts.length⟩,⟨7,[],I (k:Int)⟩,⟨8,[],I (IntKind.i64.wrap ((i:Int)+1))⟩],mem:=[Obj.var 30 (Config.d c),Obj.row 3 1 c.parts.length (fun j=>[I (((ys.set (((c.links.getD i default).b).toNat) (IntKind.i64.wrap ((k:Int)+1))).set (((c.links.getD i default).a).toNat) (IntKind.i64.wrap ((k:Int)+1))).getD j default)])] }) (i+1,(ys.set (((c.links.getD i default).b).toNat) (IntKind.i64.wrap ((k:Int)+1))).set (((c.links.getD i default).a).toNat) (IntKind.i64.wrap ((k:Int)+1))) kR kR ?_ ?_ ?_
      ·dsimp only
       rw [wrap1 i oM]
       exact Rem.refl _
      ·dsimp only
       refine ⟨by omega,?_⟩
       have hw:IntKind.i64.wrap ((k:Int)+1)=(k:Int)+1:=Ev.wrap_i64 oM oM
       rw [sweep,← hinv.2]
       unfold relax relaxA relaxB
       grind
      ·dsimp only
       exact nD
     ·have hl:=hL i oM
      refine PW.k (PW.b [2,5,7,8] 3 ?_)
      refine BackR.of (s1:={ tab:=[⟨2,[],D.p 0 0 0 0⟩,⟨5,[],D.h 1 c.parts.length⟩,⟨7,[],I (k:Int)⟩,⟨8,[],I (IntKind.i64.wrap ((i:Int)+1))⟩],mem:=[Obj.var 30 (Config.d c),Obj.row 3 1 c.parts.length (fun j=>[I ((ys.set (((c.links.getD i default).b).toNat) (IntKind.i64.wrap ((k:Int)+1))).getD j default)])] }) (i+1,ys.set (((c.links.getD i default).b).toNat) (IntKind.i64.wrap ((k:Int)+1))) kR kR ?_ ?_ ?_
      ·dsimp only
       rw [wrap1 i oM]
       exact Rem.refl _
      ·dsimp only
       refine ⟨by omega,?_⟩
       have hw:IntKind.i64.wrap ((k:Int)+1)=(k:Int)+1:=Ev.wrap_i64 oM oM
       rw [sweep,← hinv.2]
       unfold relax relaxA relaxB
       grind
      ·dsimp only
       exact nD
    ·have hl:=hL i oM
     refine PW.k (PW.sr [2,5,7,8,9,79] 3 (p:=(0≤((c.links.getD i default).b)∧((c.links.getD i default).b)<(c.parts.length:Int))∧(((c.links.getD i default).b).toNat<c.parts.length)∧((((ys.getD (((c.links.getD i default).b).toNat) default) == (k:Int))=true∧True→0≤((c.links.getD i default).a)∧((c.links.getD i default).a)<(c.parts.length:Int)))∧((((ys.getD (((c.links.getD i default).b).toNat) default) == (k:Int))=true∧True→((c.links.getD i default).a).toNat<c.parts.length))) nD (PW.cd (((ys.getD (((c.links.getD i default).b).toNat) default) == (k:Int))&&(decide ((ys.getD (((c.links.getD i default).a).toNat) default)<(0:Int)))) ?_ ?_)) <;> intro hz5 <;> try simp only [boolS,isB_true,isB_false] at hz5
     ·have hl:=hL i oM
      refine PW.region (PL.rw 7 [2,5,7,8] 3 (p:=(0≤((c.links.getD i default).a)∧((c.links.getD i default).a)<(c.parts.length:Int))∧(((c.links.getD i default).a).toNat<c.parts.length)) oM (PL.st 1 (fun x=>[I x]) ys (((c.links.getD i default).a).toNat) (IntKind.i64.wrap ((k:Int)+1)) (PL.nil ?_)))
      show PW _ _ _ _ _
      refine PW.b [2,5,7,8] 3 ?_
      refine BackR.of (s1:={ tab:=[⟨2,[],D.p 0 0 0 0⟩,⟨5,[],D.h 1 c.parts.length⟩,⟨7,[],I (k:Int)⟩,⟨8,[],I (IntKind.i64.wrap ((i:Int)+1))⟩],mem:=[Obj.var 30 (Config.d c),Obj.row 3 1 c.parts.length (fun j=>[I ((ys.set (((c.links.getD i default).a).toNat) (IntKind.i64.wrap ((k:Int)+1))).getD j default)])] }) (i+1,ys.set (((c.links.getD i default).a).toNat) (IntKind.i64.wrap ((k:Int)+1))) kR kR ?_ ?_ ?_
      ·dsimp only
       rw [wrap1 i oM]
       exact Rem.refl _
      ·dsimp only
       refine ⟨by omega,?_⟩
       have hw:IntKind.i64.wrap ((k:Int)+1)=(k:Int)+1:=Ev.wrap_i64 oM oM
       rw [sweep,← hinv.2]
       unfold relax relaxA relaxB
       grind
      ·dsimp only
       exact nD
     ·have hl:=hL i oM
      refine PW.k (PW.b [2,5,7,8] 3 ?_)
      refine BackR.of (s1:={ tab:=[⟨2,[],D.p 0 0 0 0⟩,⟨5,[],D.h 1 c.parts.length⟩,⟨7,[],I (k:Int)⟩,⟨8,[],I (IntKind.i64.wrap ((i:Int)+1))⟩],mem:=[Obj.var 30 (Config.d c),Obj.row 3 1 c.parts.length (fun j=>[I (ys.getD j default)])] }) (i+1,ys) kR kR ?_ ?_ ?_
      ·dsimp only
       rw [wrap1 i oM]
       exact Rem.refl _
      ·dsimp only
       refine ⟨by omega,?_⟩
       have hw:IntKind.i64.wrap ((k:Int)+1)=(k:Int)+1:=Ev.wrap_i64 oM oM
       rw [sweep,← hinv.2]
       unfold relax relaxA relaxB
       grind
      ·dsimp only
       exact nD
   ·refine PW.e (PW.b [2,5,7] 2 ?_)
    refine BackR.of (s1:={ tab:=[⟨2,[],D.p 0 0 0 0⟩,⟨5,[],D.h 1 c.parts.length⟩,⟨7,[],I (IntKind.i64.wrap ((k:Int)+1))⟩],mem:=[Obj.var 30 (Config.d c),Obj.row 3 1 c.parts.length (fun j=>[I (ys.getD j default)])] }) (k+1,ys) kR kR ?_ ?_ ?_
    ·dsimp only
     rw [wrap1 k oM]
     exact Rem.refl _
    ·dsimp only
     exact ⟨by omega,by rw [show i=c.links.length by omega] at hinv; rw [hinv.2,hk.2]; rfl⟩
    ·dsimp only
     exact nD
  ·refine PW.e (PW.t [4] 2 (retQ_ret (d:=D.s c.parts.length 1 (fun j=>[I (xs.getD j default)])) (ps:=[c.parts.length≤c.parts.length]) kR (show (c.parts.length≤c.parts.length) from by exact nD) ?_))
   rw [show k=c.parts.length by omega] at hk
   rw [hk.2]
   show D.s _ _ _=D.s _ _ _
   rw [show (distsL c f).length=c.parts.length by rw [distsL,distsN_len,dists0_len]]
   rfl
def findN (p:Nat→Bool):Nat→Option Nat
 | 0=>none
 | n+1=>match findN p n with
  | some i=>some i
  | none=>if p n=true then some n else none
theorem findN_more {p:Nat→Bool} {n i:Nat} (h:findN p n=some i):∀ m,n≤m→findN p m=some i
 | 0,hm=>by
  have:n=0:=by omega
  subst this
  exact h
 | m+1,hm=>by
  rcases Nat.lt_or_ge m n with h1|h1
  ·have:n=m+1:=by omega
   subst this
   exact h
  ·simp only [findN,findN_more h m h1]
theorem findN_yes {p:Nat→Bool} {n i:Nat} (h:findN p i=none) (hp:p i=true) (hi:i<n):findN p n=some i :=
 findN_more (n:=i+1) (by simp only [findN,h,hp,if_true]) n hi
theorem findN_no {p:Nat→Bool} {i:Nat} (h:findN p i=none) (hp:p i=false):findN p (i+1)=none:=by simp [findN,h,hp]
theorem findN_none {p:Nat→Bool}:∀ {n:Nat},findN p n=none→∀ i,i<n→p i=false
 | 0,_,i,hi=>absurd hi (Nat.not_lt_zero _)
 | n+1,h,i,hi=>by
  simp only [findN] at h
  split at h
  ·cases h
  ·rename_i h1
   split at h
   ·cases h
   ·rename_i h2
    rcases Nat.lt_or_ge i n with h3|h3
    ·exact findN_none h1 i h3
    ·rw [show i=n by omega]; simpa using h2
def unsoundB (p:Part):Bool:=decide (p.nodes<1)||decide (p.nodes>12)||decide (p.faults<0)||decide (p.faults>3)||decide (p.nodes<3*p.faults+1)
def checkR (c:Config):Int×Int :=
 if c.parts.length<1∨c.parts.length>6 then (7,0)
 else match findN (fun i=>unsoundB (c.parts.getD i default)) c.parts.length with
 | some i=>(8,i)
 | none=>if c.links.length>10 then (9,0)
  else match findN (fun i=>linkE c i != 0) c.links.length with
  | some i=>(linkE c i,i)
  | none=>match findN (fun i=>decide ((distsL c 0).getD i default<0)) c.parts.length with
   | some i=>(13,i)
   | none=>(0,0)
theorem links_in {c:Config} (h:findN (fun i=>linkE c i != 0) c.links.length=none):LinksIn c:=by
 intro i hi
 have h1:=findN_none h i hi
 have h2:linkE c i=0:=by simpa using h1
 unfold linkE at h2
 split at h2
 ·cases h2
 ·rename_i h3
  simp only [Bool.or_eq_true,Bool.not_eq_true',decide_eq_true_eq,isB_false,not_or,Classical.not_not] at h3
  exact ⟨h3.1.1.1,h3.1.1.2,h3.1.2.1,h3.1.2.2⟩
theorem distsL_len (c:Config) (f:Nat):(distsL c f).length=c.parts.length:=by rw [distsL,distsN_len,dists0_len]
theorem wrapF (x:Int) (h:0≤x∧x≤3):IntKind.i64.wrap (IntKind.i64.wrap (3*x)+1)=3*x+1:=by rw [Ev.wrap_i64 (x:=3*x) oM oM]; exact Ev.wrap_i64 oM oM
theorem unsound_yes {p:Part} (h:(((p.nodes<1∨p.nodes>12)∨p.faults<0)∨p.faults>3)∨p.nodes<IntKind.i64.wrap (IntKind.i64.wrap (3*p.faults)+1)):unsoundB p=true:=by
 unfold unsoundB
 simp only [Bool.or_eq_true,decide_eq_true_eq]
 rcases h with h|h
 ·exact .inl h
 ·by_cases hf:0≤p.faults∧p.faults≤3
  ·rw [wrapF _ hf] at h; exact .inr h
  ·omega
theorem unsound_no {p:Part} (h:¬ ((((p.nodes<1∨p.nodes>12)∨p.faults<0)∨p.faults>3)∨p.nodes<IntKind.i64.wrap (IntKind.i64.wrap (3*p.faults)+1))):unsoundB p=false:=by
 unfold unsoundB
 simp only [not_or] at h
 rw [wrapF _ oM] at h
 simp only [Bool.or_eq_false_iff,decide_eq_false_iff_not]
 exact h
theorem drumlineref5_Check_pc (c:Config) (hp0:c.parts.length<1000000) (hl0:c.links.length<1000000):PC Tryz.prog [] 88 [D.r (Config.d c)] (· = D.t [I (checkR c).1,I (checkR c).2]):=by
 refine PC.of (N:=92) Tryz.func88 rfl rfl (Nat.le_of_ble_eq_true rfl) ?_
 refine PW.a [1] 1 (PW.q [1,19] 1 (PW.cd ((decide ((c.parts.length:Int)<(1:Int)))||(decide ((c.parts.length:Int)>(6:Int)))) ?_ ?_)) <;> intro hz0 <;> try simp only [boolS,isB_true,isB_false] at hz0
 ·refine PW.t [2,3] 1 (rq (D.t [I 7,I 0]) ?_)
  refine congrArg (fun x:Int×Int=>D.t [I x.1,I x.2]) (?_:((7:Int),(0:Int))=checkR c)
  unfold checkR
  rw [if_pos oM]
 ·refine PW.k (PW.q [1,4] 1 (PW.block (PW.lp (α := Nat) (fun i=>{ tab:=[⟨1,[],D.p 0 0 0 0⟩,⟨4,[],I (i:Int)⟩],mem:=[Obj.var 30 (Config.d c)] }) (fun i=>i≤c.parts.length∧findN (fun i=>unsoundB (c.parts.getD i default)) i=none) (fun i=>c.parts.length-i) [1,4] 1 (0) ?_ ?_)))
  ·exact ⟨Nat.zero_le _,rfl⟩
  rintro i hinv
  show PW _ _ _ _ _
  refine PW.q [1,4,24] 1 (PW.cd (decide ((i:Int)<(c.parts.length:Int))) ?_ ?_) <;> intro hz1 <;> try simp only [boolS,isB_true,isB_false] at hz1
  ·refine PW.k (PW.seq (PW.block (PW.sr [1,4,5] 2 (p:=(0≤(i:Int)∧(i:Int)<(c.parts.length:Int))) oM (PW.a [1,4,58] 2 (PW.cd (((((decide (((c.parts.getD i default).nodes)<(1:Int)))||(decide (((c.parts.getD i default).nodes)>(12:Int))))||(decide (((c.parts.getD i default).faults)<(0:Int))))||(decide (((c.parts.getD i default).faults)>(3:Int))))||(decide (((c.parts.getD i default).nodes)<(IntKind.i64.wrap ((IntKind.i64.wrap (3*((c.parts.getD i default).faults)))+1))))) ?_ ?_))))) <;> intro hz2 <;> try simp only [boolS,isB_true,isB_false] at hz2
   ·refine PW.t [2,3] 2 (rq (D.t [I 8,I (i:Int)]) ?_)
    refine congrArg (fun x:Int×Int=>D.t [I x.1,I x.2]) (?_:((8:Int),(i:Int))=checkR c)
    unfold checkR
    rw [if_neg oM,findN_yes hinv.2 (unsound_yes hz2) oM]
   ·refine PW.k (PW.b [1,4] 2 ?_)
    refine BackR.of (s1:={ tab:=[⟨1,[],D.p 0 0 0 0⟩,⟨4,[],I (IntKind.i64.wrap ((i:Int)+1))⟩],mem:=[Obj.var 30 (Config.d c)] }) (i+1) kR kR ?_ ?_ ?_
    ·rw [wrap1 i oM]
     exact Rem.refl _
    ·exact ⟨by omega,findN_no hinv.2 (unsound_no (by simp only [not_or]; exact hz2))⟩
    ·exact nD
  ·have hn0:findN (fun i=>unsoundB (c.parts.getD i default)) c.parts.length=none:=by have h:=hinv.2; rwa [show i=c.parts.length by omega] at h
   refine PW.e (PW.q [1,63] 1 (PW.cd (decide ((c.links.length:Int)>(10:Int))) ?_ ?_)) <;> intro hz3 <;> try simp only [boolS,isB_true,isB_false] at hz3
   ·have hn0:findN (fun i=>unsoundB (c.parts.getD i default)) c.parts.length=none:=by have h:=hinv.2; rwa [show i=c.parts.length by omega] at h
    refine PW.t [2,3] 1 (rq (D.t [I 9,I 0]) ?_)
    refine congrArg (fun x:Int×Int=>D.t [I x.1,I x.2]) (?_:((9:Int),(0:Int))=checkR c)
    unfold checkR
    rw [if_neg oM,hn0,if_pos oM]
   ·have hn0:findN (fun i=>unsoundB (c.parts.getD i default)) c.parts.length=none:=by have h:=hinv.2; rwa [show i=c.parts.length by omega] at h
    refine PW.k (PW.q [1,6] 1 (PW.block (PW.lp (α := Nat) (fun i=>{ tab:=[⟨1,[],D.p 0 0 0 0⟩,⟨6,[],I (i:Int)⟩],mem:=[Obj.var 30 (Config.d c)] }) (fun i=>i≤c.links.length∧findN (fun i=>linkE c i != 0) i=none) (fun i=>c.links.length-i) [1,6] 1 (0) ?_ ?_)))
    ·exact ⟨Nat.zero_le _,rfl⟩
    rintro i hinv
    show PW _ _ _ _ _
    refine PW.q [1,6,68] 1 (PW.cd (decide ((i:Int)<(c.links.length:Int))) ?_ ?_) <;> intro hz4 <;> try simp only [boolS,isB_true,isB_false] at hz4
    ·refine PW.k (PW.seq (PW.block (PW.w 2 [1,6,71,72] 1 (PL.gc (A:=[]) (fun _=>drumlineref5_link_pc c i oM oM oM) (PL.n 1 [1,6,7] 1 (PW.a [1,6,7,75] 1 (PW.cd ((linkE c i) != (0:Int)) ?_ ?_))))))) <;> intro hz5 <;> try simp only [boolS,isB_true,isB_false] at hz5
     ·refine PW.t [2,3] 1 (rq (D.t [I (linkE c i),I (i:Int)]) ?_)
      refine congrArg (fun x:Int×Int=>D.t [I x.1,I x.2]) (?_:(linkE c i,(i:Int))=checkR c)
      unfold checkR
      rw [if_neg oM,hn0,if_neg oM,findN_yes hinv.2 (by simpa using hz5) oM]
     ·refine PW.k (PW.b [1,6] 1 ?_)
      refine BackR.of (s1:={ tab:=[⟨1,[],D.p 0 0 0 0⟩,⟨6,[],I (IntKind.i64.wrap ((i:Int)+1))⟩],mem:=[Obj.var 30 (Config.d c)] }) (i+1) kR kR ?_ ?_ ?_
      ·rw [wrap1 i oM]
       exact Rem.refl _
      ·exact ⟨by omega,findN_no hinv.2 (by simpa using hz5)⟩
      ·exact nD
    ·have hn1:findN (fun i=>linkE c i != 0) c.links.length=none:=by have h:=hinv.2; rwa [show i=c.links.length by omega] at h
     refine PW.e (PW.w 1 [78] 1 (PL.gc (A:=[]) (fun _=>drumlineref5_dists_pc c 0 oM (links_in hn1) oM oM) (PL.n 1 [8] 1 (PW.q [8,9] 1 (PW.block (PW.lp (α := Nat) (fun i=>{ tab:=[⟨8,[],sl' 1 (fun x=>[I x]) (distsL c 0)⟩,⟨9,[],I (i:Int)⟩],mem:=[Obj.var 30 (Config.d c)] }) (fun i=>i≤c.parts.length∧findN (fun i=>decide ((distsL c 0).getD i default<0)) i=none) (fun i=>c.parts.length-i) [8,9] 1 (0) ?_ ?_))))))
     ·exact ⟨Nat.zero_le _,rfl⟩
     rintro i hinv
     show PW _ _ _ _ _
     refine PW.q [8,9,83] 1 (PW.cd (decide ((i:Int)<((distsL c 0).length:Int))) ?_ ?_) <;> intro hz6 <;> try simp only [boolS,isB_true,isB_false] at hz6
     ·refine PW.k (PW.seq (PW.block (PW.sr [8,9,90] 1 (p:=(0≤(i:Int)∧(i:Int)<((distsL c 0).length:Int))) oM (PW.cd (decide (((distsL c 0).getD i default)<(0:Int))) ?_ ?_)))) <;> intro hz7 <;> try simp only [boolS,isB_true,isB_false] at hz7
      ·refine PW.t [2,3] 1 (rq (D.t [I 13,I (i:Int)]) ?_)
       refine congrArg (fun x:Int×Int=>D.t [I x.1,I x.2]) (?_:((13:Int),(i:Int))=checkR c)
       unfold checkR
       rw [if_neg oM,hn0,if_neg oM,hn1,findN_yes hinv.2 (by simpa using hz7) (by rw [distsL_len] at *; omega)]
      ·refine PW.k (PW.b [8,9] 1 ?_)
       refine BackR.of (s1:={ tab:=[⟨8,[],sl' 1 (fun x=>[I x]) (distsL c 0)⟩,⟨9,[],I (IntKind.i64.wrap ((i:Int)+1))⟩],mem:=[Obj.var 30 (Config.d c)] }) (i+1) kR kR ?_ ?_ ?_
       ·rw [wrap1 i oM]
        exact Rem.refl _
       ·exact ⟨by rw [distsL_len] at *; omega,findN_no hinv.2 (by simpa using hz7)⟩
       ·rw [distsL_len] at *; omega
     ·refine PW.e (PW.t [2,3] 1 (rq (D.t [I 0,I 0]) ?_))
      refine congrArg (fun x:Int×Int=>D.t [I x.1,I x.2]) (?_:((0:Int),(0:Int))=checkR c)
      unfold checkR
      rw [if_neg oM,hn0,if_neg oM,hn1]
      rw [show i=c.parts.length by rw [distsL_len] at *; omega] at hinv
      rw [hinv.2]
def endsQ (nodes:Int) (ls:List Link) (n:Nat) (part p0 p1:Int):Bool :=
 (p0 == p1)||(!isB p0 nodes||(portP ls part p0 n).isSome)||(!isB p1 nodes||(portP ls part p1 n).isSome)
theorem endsQ_eq (c:Config) (i:Nat) (part p0 p1:Int):endsB c i part p0 p1=endsQ (c.parts.getD part.toNat default).nodes c.links i part p0 p1:=rfl
theorem portP_snoc {ls:List Link} {part node:Int} {n:Nat} (h:portP ls part node n=none) (ha:portAt (ls.getD n default) n part node=none):portP ls part node (n+1)=none:=by simp only [portP,h,ha]
theorem plan_sound_pc (p:Part):PC Tryz.prog [] 106 [D.r (Part.d p)] (· = D.v (.bool (!unsoundB p))):=by
 refine PC.of (N:=30) Tryz.func106 rfl rfl (Nat.le_of_ble_eq_true rfl) ?_
 refine PW.a [1] 1 (PW.t [2] 1 (rq (D.v (.bool (((((decide (p.nodes≥(1:Int)))&&(decide (p.nodes≤(12:Int))))&&(decide (p.faults≥(0:Int))))&&(decide (p.faults≤(3:Int))))&&(decide (p.nodes≥(IntKind.i64.wrap ((IntKind.i64.wrap (3*p.faults))+1))))))) ?_))
 refine congrArg (fun b=>D.v (.bool b)) ?_
 by_cases hf:0≤p.faults∧p.faults≤3
 ·rw [wrapF _ hf]; unfold unsoundB; grind
 ·unfold unsoundB; grind
theorem plan_ends_pc (l:Link):PC Tryz.prog [] 80 [D.r (Link.d l)] (· = D.r [I l.a,I l.pa0,I l.pa1,I l.b,I l.pb0,I l.pb1]):=by
 refine PC.of (N:=14) Tryz.func80 rfl rfl (Nat.le_of_ble_eq_true rfl) ?_
 refine PW.a [1,2] 2 (PW.t [2] 2 (rq (D.r [I l.a,I l.pa0,I l.pa1,I l.b,I l.pb0,I l.pb1]) ?_))
 rfl
theorem plan_taken_pc (ls:List Link) (n:Nat) (part node:Int) (hn:n≤ls.length) (hs:ls.length<1000000):PC Tryz.prog [] 168 [I part,I node,D.s n 6 (fun i=>Link.d (ls.getD i default))] (· = D.v (.bool (portP ls part node n).isSome)):=by
 refine PC.of (N:=42) Tryz.func168 rfl rfl (Nat.le_of_ble_eq_true rfl) ?_
 refine PW.a [0,1,2] 0 (PW.q [0,1,11,12,13] 0 (PW.block (PW.lp (α := Nat) (fun i=>{ tab:=[⟨0,[],I part⟩,⟨1,[],I node⟩,⟨11,[],D.s n 6 (fun i=>Link.d (ls.getD i default))⟩,⟨12,[],I (n:Int)⟩,⟨13,[],I (i:Int)⟩],mem:=[] }) (fun i=>i≤n∧portP ls part node i=none) (fun i=>n-i) [0,1,11,12,13] 0 (0) ?_ ?_)))
 ·exact ⟨Nat.zero_le _,rfl⟩
 rintro i hinv
 show PW _ _ _ _ _
 refine PW.a [0,1,11,12,13,14] 0 (PW.seq (PW.cd (decide ((i:Int)<(n:Int))) ?_ ?_)) <;> intro hz0 <;> try simp only [boolS,isB_true,isB_false] at hz0
 ·refine PW.k (PW.seq (PW.block (PW.sr [0,1,8,11,12,13] 1 (p:=(0≤(i:Int)∧(i:Int)<(n:Int))) oM (PW.w 1 [0,1,11,12,13,17] 1 (PL.gc (A:=[]) (fun _=>plan_ends_pc (ls.getD i default)) (PL.n 1 [0,1,11,12,13,18,19] 1 (PW.block ?_)))))))
  refine PW.rounds 3 ?_
  refine PR.succ ?_
  refine PW.a [0,1,11,12,13,18,19,20] 1 (PW.seq ?_)
  refine PW.cd true (fun hz1 => ?_) (fun hz1=>by cases hz1)
  refine PW.k (PW.seq (PW.block (PW.sr [0,1,10,11,12,13,18,19] 2 (p:=(0≤(0:Int)∧(0:Int)<((2:Nat):Int))) oM (PW.sr [0,1,11,12,13,18,19,39] 2 (p:=(((((ls.getD i default).a) == part)=true∧True→0≤(0:Int)∧(0:Int)<((2:Nat):Int)))∧(((((ls.getD i default).pa0) == node)=false∧(((ls.getD i default).a) == part)=true∧True→0≤(1:Int)∧(1:Int)<((2:Nat):Int)))) nD (PW.cd ((((ls.getD i default).a) == part)&&((((ls.getD i default).pa0) == node)||(((ls.getD i default).pa1) == node))) ?_ ?_))))) <;> intro hz2 <;> try simp only [boolS,isB_true,isB_false] at hz2
  ·refine PW.t [6] 2 (rq (D.v (.bool true)) ?_)
   refine congrArg (fun b=>D.v (.bool b)) ?_
   obtain ⟨p,hp⟩:=Option.isSome_iff_exists.1 (show (portAt (ls.getD i default) i part node).isSome=true by unfold portAt; grind)
   rw [port_yes hinv.2 hp oM]
   rfl
  ·refine PW.k (PW.b [0,1,11,12,13,18,19] 2 ?_)
   show PR _ _ _ _ _ _
   refine PR.succ ?_
   refine PW.a [0,1,11,12,13,18,19,20] 2 (PW.seq ?_)
   refine PW.cd true (fun hz3 => ?_) (fun hz3=>by cases hz3)
   refine PW.k (PW.seq (PW.block (PW.sr [0,1,10,11,12,13,18,19] 3 (p:=(0≤(1:Int)∧(1:Int)<((2:Nat):Int))) oM (PW.sr [0,1,11,12,13,18,19,39] 3 (p:=(((((ls.getD i default).b) == part)=true∧True→0≤(0:Int)∧(0:Int)<((2:Nat):Int)))∧(((((ls.getD i default).pb0) == node)=false∧(((ls.getD i default).b) == part)=true∧True→0≤(1:Int)∧(1:Int)<((2:Nat):Int)))) nD (PW.cd ((((ls.getD i default).b) == part)&&((((ls.getD i default).pb0) == node)||(((ls.getD i default).pb1) == node))) ?_ ?_))))) <;> intro hz4 <;> try simp only [boolS,isB_true,isB_false] at hz4
   ·refine PW.t [6] 3 (rq (D.v (.bool true)) ?_)
    refine congrArg (fun b=>D.v (.bool b)) ?_
    obtain ⟨p,hp⟩:=Option.isSome_iff_exists.1 (show (portAt (ls.getD i default) i part node).isSome=true by unfold portAt; grind)
    rw [port_yes hinv.2 hp oM]
    rfl
   ·refine PW.k (PW.b [0,1,11,12,13,18,19] 3 ?_)
    show PR _ _ _ _ _ _
    refine PR.succ ?_
    refine PW.a [0,1,11,12,13,18,19,20] 3 (PW.seq (PW.cd false (fun hz5=>by cases hz5) (fun hz5 => ?_)))
    refine PW.e (PW.b [0,1,11,12,13] 3 ?_)
    refine BackR.of (s1:={ tab:=[⟨0,[],I part⟩,⟨1,[],I node⟩,⟨11,[],D.s n 6 (fun i=>Link.d (ls.getD i default))⟩,⟨12,[],I (n:Int)⟩,⟨13,[],I (IntKind.i64.wrap ((i:Int)+1))⟩],mem:=[] }) (i+1) kR kR ?_ ?_ ?_
    ·rw [wrap1 i oM]
     exact Rem.refl _
    ·exact ⟨by omega,portP_snoc hinv.2 (by unfold portAt; grind)⟩
    ·exact nD
 ·refine PW.e (PW.t [6] 0 (rq (D.v (.bool false)) ?_))
  refine congrArg (fun b=>D.v (.bool b)) ?_
  rw [show n=i by omega,hinv.2]
  rfl
theorem plan_free_pc (p:Part) (ls:List Link) (n:Nat) (part p0 p1:Int) (hn:n≤ls.length) (hs:ls.length<1000000):PC Tryz.prog [] 139 [D.r (Part.d p),D.r [I part,I p0,I p1],D.s n 6 (fun i=>Link.d (ls.getD i default))] (· = D.v (.bool (!endsQ p.nodes ls n part p0 p1))):=by
 refine PC.of (N:=37) Tryz.func139 rfl rfl (Nat.le_of_ble_eq_true rfl) ?_
 refine PW.a [2,3,4] 2 (PW.seq (PW.sr [2,3,4,15] 2 (p:=(0≤(0:Int)∧(0:Int)<((2:Nat):Int))∧(0≤(1:Int)∧(1:Int)<((2:Nat):Int))) oM (PW.cd (p0 == p1) ?_ ?_))) <;> intro hz0 <;> try simp only [boolS,isB_true,isB_false] at hz0
 ·refine PW.t [6] 2 (rq (D.v (.bool false)) ?_)
  refine congrArg (fun b=>D.v (.bool b)) ?_
  unfold endsQ isB
  grind
 ·refine PW.k (PW.q [2,3,4,17,18] 2 (PW.block (PW.rounds 3 ?_)))
  refine PR.succ ?_
  refine PW.a [2,3,4,17,18,19] 2 (PW.seq ?_)
  refine PW.cd true (fun hz1 => ?_) (fun hz1=>by cases hz1)
  refine PW.k (PW.seq (PW.block (PW.sr [2,3,4,8,17,18] 2 (p:=(0≤(0:Int)∧(0:Int)<((2:Nat):Int))) oM (PW.w 13 [2,3,4,17,18,29,31,32,33] 2 (PL.gc (A:=[(29,false)]) (fun _=>plan_taken_pc ls n part p0 oM oM) (PL.n 1 [2,3,4,17,18,35] 2 (PW.cd (((decide (p0<(0:Int)))||(decide (p0≥p.nodes)))||((portP ls part p0 n).isSome)) ?_ ?_))))))) <;> intro hz2 <;> try simp only [boolS,isB_true,isB_false] at hz2
  ·refine PW.t [6] 2 (rq (D.v (.bool false)) ?_)
   refine congrArg (fun b=>D.v (.bool b)) ?_
   unfold endsQ isB
   grind
  ·refine PW.k (PW.b [2,3,4,17,18] 2 ?_)
   show PR _ _ _ _ _ _
   refine PR.succ ?_
   refine PW.a [2,3,4,17,18,19] 2 (PW.seq ?_)
   refine PW.cd true (fun hz3 => ?_) (fun hz3=>by cases hz3)
   refine PW.k (PW.seq (PW.block (PW.sr [2,3,4,8,17,18] 2 (p:=(0≤(1:Int)∧(1:Int)<((2:Nat):Int))) oM (PW.w 13 [2,3,4,17,18,29,31,32,33] 2 (PL.gc (A:=[(29,false)]) (fun _=>plan_taken_pc ls n part p1 oM oM) (PL.n 1 [2,3,4,17,18,35] 2 (PW.cd (((decide (p1<(0:Int)))||(decide (p1≥p.nodes)))||((portP ls part p1 n).isSome)) ?_ ?_))))))) <;> intro hz4 <;> try simp only [boolS,isB_true,isB_false] at hz4
   ·refine PW.t [6] 2 (rq (D.v (.bool false)) ?_)
    refine congrArg (fun b=>D.v (.bool b)) ?_
    unfold endsQ isB
    grind
   ·refine PW.k (PW.b [2,3,4,17,18] 2 ?_)
    show PR _ _ _ _ _ _
    refine PR.succ ?_
    refine PW.a [2,3,4,17,18,19] 2 (PW.seq (PW.cd false (fun hz5=>by cases hz5) (fun hz5 => ?_)))
    refine PW.e (PW.t [6] 2 (rq (D.v (.bool true)) ?_))
    refine congrArg (fun b=>D.v (.bool b)) ?_
    unfold endsQ isB
    grind
def join1 (l:Link) (r:List Bool):List Bool :=
 (r.set l.a.toNat (r.getD l.a.toNat default||r.getD l.b.toNat default)).set l.b.toNat (r.getD l.a.toNat default||r.getD l.b.toNat default)
def joinN (ls:List Link):Nat→List Bool
 | 0=>[true,false,false,false,false,false]
 | k+1=>sweep ls join1 (joinN ls k) ls.length
theorem join1_len (l:Link) (r:List Bool):(join1 l r).length=r.length:=by unfold join1; simp
theorem sweepJ_len (ls:List Link) (r:List Bool):∀ i,(sweep ls join1 r i).length=r.length
 | 0=>rfl
 | i+1=>by rw [sweep,join1_len,sweepJ_len]
theorem joinN_len (ls:List Link):∀ k,(joinN ls k).length=6
 | 0=>rfl
 | k+1=>by rw [joinN,sweepJ_len,joinN_len]
def apartP (c:Config):Option Nat:=findN (fun i => !(joinN c.links c.parts.length).getD i default) c.parts.length
theorem plan_apart_pc (c:Config) (hL:LinksIn c) (hp:c.parts.length≤6) (hs:c.links.length<1000000):PC Tryz.prog [] 108 [D.r (Config.d c)] (· = D.t [I (((apartP c).getD 0:Nat):Int),D.v (.bool (apartP c).isSome)]):=by
 refine PC.of (N:=54) Tryz.func108 rfl rfl (Nat.le_of_ble_eq_true rfl) ?_
 refine PW.a [1] 1 (PW.a [1,4] 2 (PW.sr [1,4] 2 (p:=(0≤(0:Int)∧(0:Int)<((6:Nat):Int))) oM (PW.seq (PW.seq (PW.sel [1,4] 2 (s':=_) rfl kR (PW.asRow 1 (t:=194) (cs:=[D.v (.bool true),D.v (.bool false),D.v (.bool false),D.v (.bool false),D.v (.bool false),D.v (.bool false)]) (f:=fun j=>[D.v (.bool (([true,false,false,false,false,false]).getD j default))]) (n:=6) (s':={ tab:=[⟨1,[],D.p 0 0 0 0⟩,⟨4,[],D.p 1 0 0 0⟩],mem:=[Obj.var 30 (Config.d c),Obj.row 194 1 6 (fun j=>[D.v (.bool (([true,false,false,false,false,false]).getD j default))])] }) kR kR (by decide) kR kR (fun j hj=>match j,hj with|0,_=>rfl|1,_=>rfl|2,_=>rfl|3,_=>rfl|4,_=>rfl|5,_=>rfl|j+6,hj=>absurd hj oM) kR (PW.region ?_)))))))
 refine PL.a 4 [1,4,12,13] 2 (PL.nil ?_)
 show PW _ _ _ _ _
 refine PW.block (PW.lp (α := Nat×List Bool) (fun (k,xs)=>{ tab:=[⟨1,[],D.p 0 0 0 0⟩,⟨4,[],D.p 1 0 0 0⟩,⟨12,[],I (c.parts.length:Int)⟩,⟨13,[],I (k:Int)⟩],mem:=[Obj.var 30 (Config.d c),Obj.row 194 1 6 (fun j=>[D.v (.bool (xs.getD j default))])] }) (fun (k,xs)=>k≤c.parts.length∧xs=joinN c.links k) (fun (k,xs)=>c.parts.length-k) [1,4,12,13] 2 (0,joinN c.links 0) ?_ ?_)
 ·dsimp only
  exact ⟨Nat.zero_le _,rfl⟩
 rintro ⟨k,xs⟩ hk
 dsimp only at hk
 have hxl:xs.length=6:=by rw [hk.2,joinN_len]
 show PW _ _ _ _ _
 refine PW.a [1,4,12,13,14] 2 (PW.seq (PW.cd (decide ((k:Int)<(c.parts.length:Int))) ?_ ?_)) <;> intro hz0 <;> try simp only [boolS,isB_true,isB_false] at hz0
 ·refine PW.k (PW.seq (PW.block (PW.a [1,4,12,13,16,17,18] 2 (PW.block (PW.lp (α := Nat×List Bool) (fun (m,ys)=>{ tab:=[⟨1,[],D.p 0 0 0 0⟩,⟨4,[],D.p 1 0 0 0⟩,⟨12,[],I (c.parts.length:Int)⟩,⟨13,[],I (k:Int)⟩,⟨16,[],sl' 6 Link.d c.links⟩,⟨17,[],I (c.links.length:Int)⟩,⟨18,[],I (m:Int)⟩],mem:=[Obj.var 30 (Config.d c),Obj.row 194 1 6 (fun j=>[D.v (.bool (ys.getD j default))])] }) (fun (m,ys)=>m≤c.links.length∧ys=sweep c.links join1 xs m) (fun (m,ys)=>c.links.length-m) [1,4,12,13,16,17,18] 2 (0,xs) ?_ ?_)))))
  ·dsimp only
   exact ⟨Nat.zero_le _,rfl⟩
  rintro ⟨m,ys⟩ hinv
  dsimp only at hinv
  have hyl:ys.length=6:=by rw [hinv.2,sweepJ_len,hxl]
  show PW _ _ _ _ _
  refine PW.a [1,4,12,13,16,17,18,19] 2 (PW.seq (PW.cd (decide ((m:Int)<(c.links.length:Int))) ?_ ?_)) <;> intro hz1 <;> try simp only [boolS,isB_true,isB_false] at hz1
  ·have hl:=hL m oM
   refine PW.k (PW.seq (PW.block (PW.sr [1,4,6,12,13,16,17,18] 3 (p:=(0≤(m:Int)∧(m:Int)<(c.links.length:Int))) oM (PW.sr [1,4,6,7,12,13,16,17,18] 3 (p:=(0≤((c.links.getD m default).a)∧((c.links.getD m default).a)<((6:Nat):Int))∧(((c.links.getD m default).a).toNat<6)∧(((ys.getD (((c.links.getD m default).a).toNat) default)=false∧True→0≤((c.links.getD m default).b)∧((c.links.getD m default).b)<((6:Nat):Int)))∧(((ys.getD (((c.links.getD m default).a).toNat) default)=false∧True→((c.links.getD m default).b).toNat<6))) nD (PW.open [1] kR (PO.tk [0,1,2,3,4,5,6] 10 [1,4,12,13,16,17,18,35,36,37,38] 3 (p:=(0≤((c.links.getD m default).a)∧((c.links.getD m default).a)<((6:Nat):Int))) oM (fun _ _ h=>h) (PO.one (n:=2) 7 kR ?_)))))))
   refine PO1.mm rfl [1,4,12,13,16,17,18,35,37] 3 (p:=(((c.links.getD m default).a).toNat<6)) oM (PO.st 1 (fun x=>[D.v (.bool x)]) ys (((c.links.getD m default).a).toNat) ((ys.getD (((c.links.getD m default).a).toNat) default)||(ys.getD (((c.links.getD m default).b).toNat) default)) (PO.tk [8] 2 [1,4,12,13,16,17,18,37,39] 1 (p:=(0≤((c.links.getD m default).b)∧((c.links.getD m default).b)<((6:Nat):Int))) oM (fun _ _ h=>h) (PO.one (n:=0) 9 kR (PO1.mm rfl [1,4,12,13,16,17,18] 3 (p:=(((c.links.getD m default).b).toNat<6)) oM (PO.st 1 (fun x=>[D.v (.bool x)]) (ys.set (((c.links.getD m default).a).toNat) ((ys.getD (((c.links.getD m default).a).toNat) default)||(ys.getD (((c.links.getD m default).b).toNat) default))) (((c.links.getD m default).b).toNat) ((ys.getD (((c.links.getD m default).a).toNat) default)||(ys.getD (((c.links.getD m default).b).toNat) default)) (PO.done kR ?_))))))
   show PW _ _ _ _ _
   refine PW.b [1,4,12,13,16,17,18] 3 ?_
   refine BackR.of (s1:={ tab:=[⟨1,[],D.p 0 0 0 0⟩,⟨4,[],D.p 1 0 0 0⟩,⟨12,[],I (c.parts.length:Int)⟩,⟨13,[],I (k:Int)⟩,⟨16,[],sl' 6 Link.d c.links⟩,⟨17,[],I (c.links.length:Int)⟩,⟨18,[],I (IntKind.i64.wrap ((m:Int)+1))⟩],mem:=[Obj.var 30 (Config.d c),Obj.row 194 1 6 (fun j=>[D.v (.bool (((ys.set (((c.links.getD m default).a).toNat) ((ys.getD (((c.links.getD m default).a).toNat) default)||(ys.getD (((c.links.getD m default).b).toNat) default))).set (((c.links.getD m default).b).toNat) ((ys.getD (((c.links.getD m default).a).toNat) default)||(ys.getD (((c.links.getD m default).b).toNat) default))).getD j default))])] }) (m+1,(ys.set (((c.links.getD m default).a).toNat) ((ys.getD (((c.links.getD m default).a).toNat) default)||(ys.getD (((c.links.getD m default).b).toNat) default))).set (((c.links.getD m default).b).toNat) ((ys.getD (((c.links.getD m default).a).toNat) default)||(ys.getD (((c.links.getD m default).b).toNat) default))) kR kR ?_ ?_ ?_
   ·dsimp only
    rw [wrap1 m oM]
    exact Rem.refl _
   ·dsimp only
    exact ⟨by omega,by rw [sweep,← hinv.2]; rfl⟩
   ·dsimp only
    exact nD
  ·refine PW.e (PW.b [1,4,12,13] 2 ?_)
   refine BackR.of (s1:={ tab:=[⟨1,[],D.p 0 0 0 0⟩,⟨4,[],D.p 1 0 0 0⟩,⟨12,[],I (c.parts.length:Int)⟩,⟨13,[],I (IntKind.i64.wrap ((k:Int)+1))⟩],mem:=[Obj.var 30 (Config.d c),Obj.row 194 1 6 (fun j=>[D.v (.bool (ys.getD j default))])] }) (k+1,ys) kR kR ?_ ?_ ?_
   ·dsimp only
    rw [wrap1 k oM]
    exact Rem.refl _
   ·dsimp only
    exact ⟨by omega,by rw [show m=c.links.length by omega] at hinv; rw [hinv.2,hk.2]; rfl⟩
   ·dsimp only
    exact nD
 ·refine PW.e (PW.q [4,44,45] 2 (PW.block (PW.lp (α := Nat) (fun i=>{ tab:=[⟨4,[],D.p 1 0 0 0⟩,⟨44,[],I (c.parts.length:Int)⟩,⟨45,[],I (i:Int)⟩],mem:=[Obj.var 30 (Config.d c),Obj.row 194 1 6 (fun j=>[D.v (.bool (xs.getD j default))])] }) (fun i=>i≤c.parts.length∧findN (fun i => !(joinN c.links c.parts.length).getD i default) i=none) (fun i=>c.parts.length-i) [4,44,45] 2 (0) ?_ ?_)))
  ·exact ⟨Nat.zero_le _,rfl⟩
  rintro i hinv
  have hkn:xs=joinN c.links c.parts.length:=by rw [hk.2,show k=c.parts.length by omega]
  show PW _ _ _ _ _
  refine PW.a [4,44,45,46] 2 (PW.seq (PW.cd (decide ((i:Int)<(c.parts.length:Int))) ?_ ?_)) <;> intro hz2 <;> try simp only [boolS,isB_true,isB_false] at hz2
  ·refine PW.k (PW.seq (PW.block (PW.a [4,8,44,45] 2 (PW.sr [4,8,44,45,51] 2 (p:=(0≤(i:Int)∧(i:Int)<((6:Nat):Int))∧(i<6)) oM (PW.cd (!(xs.getD i default)) ?_ ?_))))) <;> intro hz3 <;> try simp only [boolS,isB_true,isB_false] at hz3
   ·refine PW.t [2,3] 2 (rq (D.t [I (i:Int),D.v (.bool true)]) ?_)
    unfold apartP
    rw [findN_yes hinv.2 (by rw [hkn] at hz3; simpa using hz3) oM]
    rfl
   ·refine PW.k (PW.b [4,44,45] 2 ?_)
    refine BackR.of (s1:={ tab:=[⟨4,[],D.p 1 0 0 0⟩,⟨44,[],I (c.parts.length:Int)⟩,⟨45,[],I (IntKind.i64.wrap ((i:Int)+1))⟩],mem:=[Obj.var 30 (Config.d c),Obj.row 194 1 6 (fun j=>[D.v (.bool (xs.getD j default))])] }) (i+1) kR kR ?_ ?_ ?_
    ·rw [wrap1 i oM]
     exact Rem.refl _
    ·exact ⟨by omega,findN_no hinv.2 (by rw [hkn] at hz3; simpa using hz3)⟩
    ·exact nD
  ·refine PW.e (PW.t [2,3] 2 (rq (D.t [I 0,D.v (.bool false)]) ?_))
   unfold apartP
   rw [show i=c.parts.length by omega] at hinv
   rw [hinv.2]
   rfl
def sentD (e:Nat→Addr) (k:Nat):D:=D.v (.iface 251 (.pointer (some (e k))))
def errG (e:Nat→Addr):List (Nat×List D):=[(5,[sentD e 0]),(6,[sentD e 1]),(7,[sentD e 2]),(8,[sentD e 3]),(9,[sentD e 4]),(10,[sentD e 5]),(11,[sentD e 6])]
def errD (e:Nat→Addr) (n:Int):D:=if n=0 then D.v .nilIface else if n=10 then sentD e 4 else if n=11 then sentD e 5 else sentD e 6
theorem plan_checkLink_pc (e:Nat→Addr) (c:Config) (i:Nat) (hi:i<c.links.length) (hs:c.links.length<1000000) (hp:c.parts.length<1000000):PC Tryz.prog (errG e) 107 [D.r (Config.d c),I (i:Int)] (· = errD e (linkE c i)):=by
 refine PC.of (N:=76) Tryz.func107 rfl rfl (Nat.le_of_ble_eq_true rfl) ?_
 refine PW.a [1,2] 1 (PW.seq (PW.open [1] kR (PO.tk [0,1,2,3,4,5,6,7,8] 12 [2,15,19] 3 (p:=(0≤(i:Int)∧(i:Int)<(c.links.length:Int))∧(0≤(i:Int)∧(i:Int)≤(c.links.length:Int))) oM (fun _ _ h=>h) (PO.one (n:=2) 9 kR (PO1.a [2,5,15,19] 2 (PO.one (n:=1) 10 kR (PO1.a [2,5,19] 2 ?_)))))))
 refine PO.a [11] 1 [2,5,6] 0 (PO.done kR ?_)
 show PW _ _ _ _ _
 refine PW.q [2,5,6,37] 2 (PW.cd (((decide (((c.links.getD i default).a)<(0:Int)))||(decide (((c.links.getD i default).a)≥((c.links.getD i default).b))))||(decide (((c.links.getD i default).b)≥(c.parts.length:Int)))) ?_ ?_) <;> intro hz0 <;> try simp only [boolS,isB_true,isB_false] at hz0
 ·refine PW.t [4] 2 (rq (D.v (.iface 251 (.pointer (some (e 4))))) ?_)
  have h:linkE c i=10:=by unfold linkE isB; rw [if_pos (by grind)]
  rw [h]
  rfl
 ·refine PW.k (PW.q [2,5,6,39,40,41] 2 (PW.block (PW.lp (α := Nat) (fun m=>{ tab:=[⟨2,[],D.p 0 0 0 0⟩,⟨5,[],D.p 1 0 0 0⟩,⟨6,[],D.s i 6 (fun i=>Link.d (c.links.getD i default))⟩,⟨39,[],D.s i 6 (fun i=>Link.d (c.links.getD i default))⟩,⟨40,[],I (i:Int)⟩,⟨41,[],I (m:Int)⟩],mem:=[Obj.var 30 (Config.d c),Obj.var 63 [I ((c.links.getD i default).a),I ((c.links.getD i default).b),I ((c.links.getD i default).pa0),I ((c.links.getD i default).pa1),I ((c.links.getD i default).pb0),I ((c.links.getD i default).pb1)]],gl:=(errG e) }) (fun m=>m≤i∧twiceB c.links (c.links.getD i default) m=false) (fun m=>i-m) [2,5,6,39,40,41] 2 (0) ?_ ?_)))
  ·exact ⟨Nat.zero_le _,rfl⟩
  rintro m hinv
  show PW _ _ _ _ _
  refine PW.a [2,5,6,39,40,41,42] 2 (PW.seq (PW.cd (decide ((m:Int)<(i:Int))) ?_ ?_)) <;> intro hz1 <;> try simp only [boolS,isB_true,isB_false] at hz1
  ·refine PW.k (PW.seq (PW.block (PW.sr [2,5,6,8,39,40,41] 3 (p:=(0≤(m:Int)∧(m:Int)<(i:Int))) oM (PW.a [2,5,6,39,40,41,56] 3 (PW.cd ((((c.links.getD m default).a) == ((c.links.getD i default).a))&&(((c.links.getD m default).b) == ((c.links.getD i default).b))) ?_ ?_))))) <;> intro hz2 <;> try simp only [boolS,isB_true,isB_false] at hz2
   ·refine PW.t [4] 3 (rq (D.v (.iface 251 (.pointer (some (e 5))))) ?_)
    have h1:(!isB (c.links.getD i default).a c.parts.length || !isB (c.links.getD i default).b c.parts.length||decide ((c.links.getD i default).a≥(c.links.getD i default).b))=false:=by unfold isB; grind
    have h2:twiceB c.links (c.links.getD i default) i=true:=twice_more (n:=m+1) (by simp only [twiceB,hinv.2]; grind) i oM
    have h:linkE c i=11:=by unfold linkE; rw [h1,h2]; rfl
    rw [h]
    rfl
   ·refine PW.k (PW.b [2,5,6,39,40,41] 3 ?_)
    refine BackR.of (s1:={ tab:=[⟨2,[],D.p 0 0 0 0⟩,⟨5,[],D.p 1 0 0 0⟩,⟨6,[],D.s i 6 (fun i=>Link.d (c.links.getD i default))⟩,⟨39,[],D.s i 6 (fun i=>Link.d (c.links.getD i default))⟩,⟨40,[],I (i:Int)⟩,⟨41,[],I (IntKind.i64.wrap ((m:Int)+1))⟩],mem:=[Obj.var 30 (Config.d c),Obj.var 63 [I ((c.links.getD i default).a),I ((c.links.getD i default).b),I ((c.links.getD i default).pa0),I ((c.links.getD i default).pa1),I ((c.links.getD i default).pb0),I ((c.links.getD i default).pb1)]],gl:=(errG e) }) (m+1) kR kR ?_ ?_ ?_
    ·rw [wrap1 m oM]
     exact Rem.refl _
    ·exact ⟨by omega,by simp only [twiceB,hinv.2]; grind⟩
    ·exact nD
  ·refine PW.e (PW.seq (PW.w 1 [2,6,59] 2 (PL.gc (G:=(errG e)) (A:=[]) (fun _=>PC.more (plan_ends_pc (c.links.getD i default))) (PL.n 1 [2,6,60,61] 2 (PW.block (PW.rounds 3 ?_))))))
   refine PR.succ ?_
   refine PW.a [2,6,60,61,62] 2 (PW.seq ?_)
   refine PW.cd true (fun hz3 => ?_) (fun hz3=>by cases hz3)
   refine PW.k (PW.seq (PW.block (PW.sr [2,6,10,60,61] 3 (p:=(0≤(0:Int)∧(0:Int)<((2:Nat):Int))) oM (PW.seq (PW.open [] kR (PO.tk [0,1,2,3,4,5,6,7] 10 [2,6,60,61,69,70,71] 2 (p:=(0≤((c.links.getD i default).a)∧((c.links.getD i default).a)<(c.parts.length:Int))) oM (fun _ _ h=>h) (PO.one (n:=1) 8 kR ?_)))))))
   refine PO1.gc _ (G:=(errG e)) (A:=[]) (fun _=>PC.more (plan_free_pc (c.parts.getD (((c.links.getD i default).a).toNat) default) c.links i ((c.links.getD i default).a) ((c.links.getD i default).pa0) ((c.links.getD i default).pa1) oM oM)) ?_ rfl
   refine PO.a [9] 1 [2,6,60,61,73] 0 (PO.done kR ?_)
   show PW _ _ _ _ _
   refine PW.cd (!(!endsQ (c.parts.getD (((c.links.getD i default).a).toNat) default).nodes c.links i ((c.links.getD i default).a) ((c.links.getD i default).pa0) ((c.links.getD i default).pa1))) ?_ ?_ <;> intro hz4 <;> try simp only [boolS,isB_true,isB_false] at hz4
   ·refine PW.t [4] 3 (rq (D.v (.iface 251 (.pointer (some (e 6))))) ?_)
    have h1:(!isB (c.links.getD i default).a c.parts.length || !isB (c.links.getD i default).b c.parts.length||decide ((c.links.getD i default).a≥(c.links.getD i default).b))=false:=by unfold isB; grind
    have h2:twiceB c.links (c.links.getD i default) i=false:=by rw [← hinv.2,show m=i by omega]
    have h:linkE c i=12:=by unfold linkE; rw [h1,h2,endsQ_eq,endsQ_eq]; grind
    rw [h]
    rfl
   ·refine PW.k (PW.b [2,6,60,61] 3 ?_)
    show PR _ _ _ _ _ _
    refine PR.succ ?_
    refine PW.a [2,6,60,61,62] 3 (PW.seq ?_)
    refine PW.cd true (fun hz5 => ?_) (fun hz5=>by cases hz5)
    refine PW.k (PW.seq (PW.block (PW.sr [2,6,10,60,61] 4 (p:=(0≤(1:Int)∧(1:Int)<((2:Nat):Int))) oM (PW.seq (PW.open [] kR (PO.tk [0,1,2,3,4,5,6,7] 10 [2,6,60,61,69,70,71] 2 (p:=(0≤((c.links.getD i default).b)∧((c.links.getD i default).b)<(c.parts.length:Int))) oM (fun _ _ h=>h) (PO.one (n:=1) 8 kR ?_)))))))
    refine PO1.gc _ (G:=(errG e)) (A:=[]) (fun _=>PC.more (plan_free_pc (c.parts.getD (((c.links.getD i default).b).toNat) default) c.links i ((c.links.getD i default).b) ((c.links.getD i default).pb0) ((c.links.getD i default).pb1) oM oM)) ?_ rfl
    refine PO.a [9] 1 [2,6,60,61,73] 0 (PO.done kR ?_)
    show PW _ _ _ _ _
    refine PW.cd (!(!endsQ (c.parts.getD (((c.links.getD i default).b).toNat) default).nodes c.links i ((c.links.getD i default).b) ((c.links.getD i default).pb0) ((c.links.getD i default).pb1))) ?_ ?_ <;> intro hz6 <;> try simp only [boolS,isB_true,isB_false] at hz6
    ·refine PW.t [4] 4 (rq (D.v (.iface 251 (.pointer (some (e 6))))) ?_)
     have h1:(!isB (c.links.getD i default).a c.parts.length || !isB (c.links.getD i default).b c.parts.length||decide ((c.links.getD i default).a≥(c.links.getD i default).b))=false:=by unfold isB; grind
     have h2:twiceB c.links (c.links.getD i default) i=false:=by rw [← hinv.2,show m=i by omega]
     have h:linkE c i=12:=by unfold linkE; rw [h1,h2,endsQ_eq,endsQ_eq]; grind
     rw [h]
     rfl
    ·refine PW.k (PW.b [2,6,60,61] 4 ?_)
     show PR _ _ _ _ _ _
     refine PR.succ ?_
     refine PW.a [2,6,60,61,62] 4 (PW.seq (PW.cd false (fun hz7=>by cases hz7) (fun hz7 => ?_)))
     refine PW.e (PW.t [4] 4 (rq (D.v (.nilIface)) ?_))
     have h1:(!isB (c.links.getD i default).a c.parts.length || !isB (c.links.getD i default).b c.parts.length||decide ((c.links.getD i default).a≥(c.links.getD i default).b))=false:=by unfold isB; grind
     have h2:twiceB c.links (c.links.getD i default) i=false:=by rw [← hinv.2,show m=i by omega]
     have h:linkE c i=0:=by unfold linkE; rw [h1,h2,endsQ_eq,endsQ_eq]; grind
     rw [h]
     rfl
def kOf (n:Int):Nat:=if n=7 then 0 else if n=8 then 1 else if n=9 then 2 else if n=13 then 3 else if n=10 then 4 else if n=11 then 5 else 6
def faultD (e:Nat→Addr) (x:Int×Int):D:=if x.1=0 then D.v .nilIface else D.i 163 (D.q [sentD e (kOf x.1),I x.2] 0)
theorem linkE_is (c:Config) (i:Nat):linkE c i=0∨linkE c i=10∨linkE c i=11∨linkE c i=12:=by
 unfold linkE
 split
 ·exact .inr (.inl rfl)
 ·split
  ·exact .inr (.inr (.inl rfl))
  ·split
   ·exact .inr (.inr (.inr rfl))
   ·exact .inl rfl
theorem errD_nil {e:Nat→Addr} {n:Int} (h:n=0):errD e n=D.v .nilIface:=by rw [h]; rfl
theorem errD_some {e:Nat→Addr} {c:Config} {i:Nat} (h:¬ linkE c i=0):errD e (linkE c i)=sentD e (kOf (linkE c i)):=by
 rcases linkE_is c i with h1|h1|h1|h1
 ·exact absurd h1 h
 all_goals rw [h1]; rfl
def checkP (c:Config):Int×Int :=
 if c.parts.length<1∨c.parts.length>6 then (7,0)
 else match findN (fun i=>unsoundB (c.parts.getD i default)) c.parts.length with
 | some i=>(8,i)
 | none=>if c.links.length>10 then (9,0)
  else match findN (fun i=>linkE c i != 0) c.links.length with
  | some i=>(linkE c i,i)
  | none=>match apartP c with
   | some i=>(13,i)
   | none=>(0,0)
theorem plan_check_pc (e:Nat→Addr) (c:Config) (hp0:c.parts.length<1000000) (hl0:c.links.length<1000000):PC Tryz.prog (errG e) 79 [D.r (Config.d c)] (· = faultD e (checkP c)):=by
 refine PC.of (N:=76) Tryz.func79 rfl rfl (Nat.le_of_ble_eq_true rfl) ?_
 refine PW.a [1] 1 (PW.q [1,18] 1 (PW.cd ((decide ((c.parts.length:Int)<(1:Int)))||(decide ((c.parts.length:Int)>(6:Int)))) ?_ ?_)) <;> intro hz0 <;> try simp only [boolS,isB_true,isB_false] at hz0
 ·refine PW.w 3 [21] 2 (PL.sl [21] 2 (PL.fz 1 (t:=165) [D.v (.iface 251 (.pointer (some (e 0)))),I 0] (PL.n 2 [2] 2 (PW.ret (rq (D.i 163 (D.q [D.v (.iface 251 (.pointer (some (e 0)))),I 0] 0)) ?_)))))
  have hc:checkP c=(7,0):=by
    unfold checkP
    rw [if_pos oM]
  rw [hc]
  rfl
 ·refine PW.k (PW.q [1,24,25,26] 1 (PW.block (PW.lp (α := Nat) (fun i=>{ tab:=[⟨1,[],D.p 0 0 0 0⟩,⟨24,[],sl' 2 Part.d c.parts⟩,⟨25,[],I (c.parts.length:Int)⟩,⟨26,[],I (i:Int)⟩],mem:=[Obj.var 30 (Config.d c)],gl:=(errG e) }) (fun i=>i≤c.parts.length∧findN (fun i=>unsoundB (c.parts.getD i default)) i=none) (fun i=>c.parts.length-i) [1,24,25,26] 1 (0) ?_ ?_)))
  ·exact ⟨Nat.zero_le _,rfl⟩
  rintro i hinv
  show PW _ _ _ _ _
  refine PW.a [1,24,25,26,27] 1 (PW.seq (PW.cd (decide ((i:Int)<(c.parts.length:Int))) ?_ ?_)) <;> intro hz1 <;> try simp only [boolS,isB_true,isB_false] at hz1
  ·refine PW.k (PW.seq (PW.block (PW.sr [1,3,4,24,25,26] 2 (p:=(0≤(i:Int)∧(i:Int)<(c.parts.length:Int))) oM (PW.w 1 [1,3,24,25,26,31] 2 (PL.gc (G:=(errG e)) (A:=[]) (fun _=>PC.more (plan_sound_pc (c.parts.getD i default))) (PL.n 1 [1,3,24,25,26,33] 2 (PW.cd (!(!unsoundB (c.parts.getD i default))) ?_ ?_))))))) <;> intro hz2 <;> try simp only [boolS,isB_true,isB_false] at hz2
   ·refine PW.w 4 [37] 3 (PL.sl [37] 3 (PL.fz 2 (t:=165) [D.v (.iface 251 (.pointer (some (e 1)))),I (i:Int)] (PL.n 2 [2] 3 (PW.ret (rq (D.i 163 (D.q [D.v (.iface 251 (.pointer (some (e 1)))),I (i:Int)] 0)) ?_)))))
    have hc:checkP c=(8,(i:Int)):=by
      unfold checkP
      rw [if_neg oM,findN_yes hinv.2 (by simpa using hz2) oM]
    rw [hc]
    rfl
   ·refine PW.k (PW.b [1,24,25,26] 2 ?_)
    refine BackR.of (s1:={ tab:=[⟨1,[],D.p 0 0 0 0⟩,⟨24,[],sl' 2 Part.d c.parts⟩,⟨25,[],I (c.parts.length:Int)⟩,⟨26,[],I (IntKind.i64.wrap ((i:Int)+1))⟩],mem:=[Obj.var 30 (Config.d c)],gl:=(errG e) }) (i+1) kR kR ?_ ?_ ?_
    ·rw [wrap1 i oM]
     exact Rem.refl _
    ·exact ⟨by omega,findN_no hinv.2 (by simpa using hz2)⟩
    ·exact nD
  ·have hn0:findN (fun i=>unsoundB (c.parts.getD i default)) c.parts.length=none:=by have h:=hinv.2; rwa [show i=c.parts.length by omega] at h
   refine PW.e (PW.q [1,43] 1 (PW.cd (decide ((c.links.length:Int)>(10:Int))) ?_ ?_)) <;> intro hz3 <;> try simp only [boolS,isB_true,isB_false] at hz3
   ·have hn0:findN (fun i=>unsoundB (c.parts.getD i default)) c.parts.length=none:=by have h:=hinv.2; rwa [show i=c.parts.length by omega] at h
    refine PW.w 3 [46] 2 (PL.sl [46] 2 (PL.fz 1 (t:=165) [D.v (.iface 251 (.pointer (some (e 2)))),I 0] (PL.n 2 [2] 2 (PW.ret (rq (D.i 163 (D.q [D.v (.iface 251 (.pointer (some (e 2)))),I 0] 0)) ?_)))))
    have hc:checkP c=(9,0):=by
      unfold checkP
      rw [if_neg oM,hn0,if_pos oM]
    rw [hc]
    rfl
   ·have hn0:findN (fun i=>unsoundB (c.parts.getD i default)) c.parts.length=none:=by have h:=hinv.2; rwa [show i=c.parts.length by omega] at h
    refine PW.k (PW.q [1,50,51] 1 (PW.block (PW.lp (α := Nat) (fun i=>{ tab:=[⟨1,[],D.p 0 0 0 0⟩,⟨50,[],I (c.links.length:Int)⟩,⟨51,[],I (i:Int)⟩],mem:=[Obj.var 30 (Config.d c)],gl:=(errG e) }) (fun i=>i≤c.links.length∧findN (fun i=>linkE c i != 0) i=none) (fun i=>c.links.length-i) [1,50,51] 1 (0) ?_ ?_)))
    ·exact ⟨Nat.zero_le _,rfl⟩
    rintro i hinv
    show PW _ _ _ _ _
    refine PW.a [1,50,51,52] 1 (PW.seq (PW.cd (decide ((i:Int)<(c.links.length:Int))) ?_ ?_)) <;> intro hz4 <;> try simp only [boolS,isB_true,isB_false] at hz4
    ·refine PW.k (PW.seq (PW.block (PW.a [1,5,50,51] 1 (PW.seq ?_))))
     rcases Classical.em (linkE c i=0) with hq|hq
     ·skip
      refine PW.region (PL.a 2 [1,5,50,51,54,55] 1 (PL.gc (d:=D.v (.nilIface)) (A:=[]) (fun _=>(plan_checkLink_pc e c i oM oM oM).eq (errD_nil hq)) (PL.a 1 [1,5,6,50,51] 1 (PL.nil ?_))))
      show PW _ _ _ _ _
      refine PW.a [1,5,6,50,51,58] 1 (PW.cd false (fun hz5=>by cases hz5) (fun hz5 => ?_))
      refine PW.k (PW.b [1,50,51] 1 ?_)
      refine BackR.of (s1:={ tab:=[⟨1,[],D.p 0 0 0 0⟩,⟨50,[],I (c.links.length:Int)⟩,⟨51,[],I (IntKind.i64.wrap ((i:Int)+1))⟩],mem:=[Obj.var 30 (Config.d c)],gl:=(errG e) }) (i+1) kR kR ?_ ?_ ?_
      ·rw [wrap1 i oM]
       exact Rem.refl _
      ·exact ⟨by omega,findN_no hinv.2 (by simpa using hq)⟩
      ·exact nD
     ·skip
      refine PW.region (PL.a 2 [1,5,50,51,54,55] 1 (PL.gc (d:=D.v (.iface 251 (.pointer (some (e (kOf (linkE c i))))))) (A:=[]) (fun _=>(plan_checkLink_pc e c i oM oM oM).eq (errD_some hq)) (PL.a 1 [1,5,6,50,51] 1 (PL.nil ?_))))
      show PW _ _ _ _ _
      refine PW.a [1,5,6,50,51,58] 1 ?_
      refine PW.cd true (fun hz6 => ?_) (fun hz6=>by cases hz6)
      refine PW.w 4 [62] 2 (PL.sl [62] 2 (PL.fz 1 (t:=165) [D.v (.iface 251 (.pointer (some (e (kOf (linkE c i)))))),I (i:Int)] (PL.n 2 [2] 2 (PW.ret (rq (D.i 163 (D.q [D.v (.iface 251 (.pointer (some (e (kOf (linkE c i)))))),I (i:Int)] 0)) ?_)))))
      have hc:checkP c=(linkE c i,(i:Int)):=by
        unfold checkP
        rw [if_neg oM,hn0,if_neg oM,findN_yes hinv.2 (by simpa using hq) oM]
      rw [hc]
      unfold faultD
      rw [if_neg hq]
      rfl
    ·have hn1:findN (fun i=>linkE c i != 0) c.links.length=none:=by have h:=hinv.2; rwa [show i=c.links.length by omega] at h
     refine PW.e (PW.seq (PW.w 1 [66] 1 (PL.gc (G:=(errG e)) (A:=[]) (fun _=>PC.more (plan_apart_pc c (links_in hn1) oM oM)) (PL.n 5 [7,8] 1 (PW.a [7,70] 1 (PW.cd ((apartP c).isSome) ?_ ?_)))))) <;> intro hz7 <;> try simp only [boolS,isB_true,isB_false] at hz7
     ·have hn1:findN (fun i=>linkE c i != 0) c.links.length=none:=by have h:=hinv.2; rwa [show i=c.links.length by omega] at h
      refine PW.w 4 [74] 2 (PL.sl [74] 2 (PL.fz 1 (t:=165) [D.v (.iface 251 (.pointer (some (e 3)))),I (((apartP c).getD 0:Nat):Int)] (PL.n 2 [2] 2 (PW.ret (rq (D.i 163 (D.q [D.v (.iface 251 (.pointer (some (e 3)))),I (((apartP c).getD 0:Nat):Int)] 0)) ?_)))))
      obtain ⟨k,hk⟩:=Option.isSome_iff_exists.1 hz7
      have hc:checkP c=(13,(k:Int)):=by
        unfold checkP
        rw [if_neg oM,hn0,if_neg oM,hn1,hk]
      rw [hc]
      rw [hk]
      rfl
     ·have hn1:findN (fun i=>linkE c i != 0) c.links.length=none:=by have h:=hinv.2; rwa [show i=c.links.length by omega] at h
      refine PW.k (PW.t [2] 1 (rq (D.v (.nilIface)) ?_))
      have hk:apartP c=none:=by cases h:apartP c with|none=>rfl|some k=>rw [h] at hz7; cases hz7
      have hc:checkP c=(0,0):=by
        unfold checkP
        rw [if_neg oM,hn0,if_neg oM,hn1,hk]
      rw [hc]
      rfl
end Go.Proofs.YtdomlccfjnkbjaaGreatDoor.Pl
