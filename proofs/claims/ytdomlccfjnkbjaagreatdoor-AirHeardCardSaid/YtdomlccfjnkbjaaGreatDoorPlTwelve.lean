/- The document's own answers to chapter 3's calls that write numbers as bytes. -/
import Derived.Test.YtdomlccfjnkbjaaGreatDoorPlAs
import Derived.Test.YtdomlccfjnkbjaaGreatDoorWrR
namespace Go.Proofs.YtdomlccfjnkbjaaGreatDoor.Pl
open Go.RowKit Go.Proofs.YtdomlccfjnkbjaaGreatDoor.Sm Go.Proofs.YtdomlccfjnkbjaaGreatDoor.Dp
set_option maxHeartbeats 4000000
set_option maxRecDepth 100000
set_option linter.unusedVariables false
set_option linter.unusedSimpArgs false
def Apart (e:Nat→Addr):Prop:=∀ j k,j<7→k<7→e j=e k→j=k
theorem kOf_lt (n:Int):kOf n<7:=by unfold kOf; grind
theorem plan_number_nil_pc (e:Nat→Addr):PC Tryz.prog (errG2 e) 134 [D.v (.nilIface)] (· = I 0):=by
 refine PC.of (N:=30) Tryz.func134 rfl rfl (Nat.le_of_ble_eq_true rfl) ?_
 refine PW.a [0] 0 (PW.seq (PW.block (PW.a [0,3] 0 ?_)))
 refine PW.cd true (fun hz0 => ?_) (fun hz0=>by cases hz0)
 refine PW.t [2] 0 (rq (I 0) ?_)
 rfl
theorem plan_number_fault_pc (e:Nat→Addr) (hA:Apart e) (n at_:Int) (hn:7≤n∧n≤13) (hk:kOf n<7):PC Tryz.prog (errG2 e) 134 [D.i 163 (D.q [D.v (.iface 251 (.pointer (some (e (kOf n))))),I at_] 0)] (· = I n):=by
 refine PC.of (N:=30) Tryz.func134 rfl rfl (Nat.le_of_ble_eq_true rfl) ?_
 refine PW.a [0] 0 (PW.seq (PW.block (PW.a [0,3] 0 (PW.cd false (fun hz0=>by cases hz0) (fun hz0 => ?_)))))
 refine PW.w 2 [0,7,8] 0 (PL.gc (A:=[]) (fun _=>errors_Is_pc e (kOf n) 0 at_ hk (by decide)) (PL.n 1 [0,6] 0 (PW.cd (decide (e (kOf n)=e 0)) ?_ ?_))) <;> intro hz1 <;> try simp only [boolS,isB_true,isB_false] at hz1
 ·refine PW.t [2] 0 (rq (I 7) ?_)
  have hk0:kOf n=0:=hA _ _ hk (by decide) (by assumption)
  have hn0:n=7:=by unfold kOf at hk0; grind
  rw [hn0]
 ·refine PW.w 2 [0,11,12] 0 (PL.gc (A:=[]) (fun _=>errors_Is_pc e (kOf n) 1 at_ hk (by decide)) (PL.n 1 [0,10] 0 (PW.cd (decide (e (kOf n)=e 1)) ?_ ?_))) <;> intro hz2 <;> try simp only [boolS,isB_true,isB_false] at hz2
  ·refine PW.t [2] 0 (rq (I 8) ?_)
   have hk0:kOf n=1:=hA _ _ hk (by decide) (by assumption)
   have hn0:n=8:=by unfold kOf at hk0; grind
   rw [hn0]
  ·refine PW.w 2 [0,15,16] 0 (PL.gc (A:=[]) (fun _=>errors_Is_pc e (kOf n) 2 at_ hk (by decide)) (PL.n 1 [0,14] 0 (PW.cd (decide (e (kOf n)=e 2)) ?_ ?_))) <;> intro hz3 <;> try simp only [boolS,isB_true,isB_false] at hz3
   ·refine PW.t [2] 0 (rq (I 9) ?_)
    have hk0:kOf n=2:=hA _ _ hk (by decide) (by assumption)
    have hn0:n=9:=by unfold kOf at hk0; grind
    rw [hn0]
   ·refine PW.w 2 [0,19,20] 0 (PL.gc (A:=[]) (fun _=>errors_Is_pc e (kOf n) 4 at_ hk (by decide)) (PL.n 1 [0,18] 0 (PW.cd (decide (e (kOf n)=e 4)) ?_ ?_))) <;> intro hz4 <;> try simp only [boolS,isB_true,isB_false] at hz4
    ·refine PW.t [2] 0 (rq (I 10) ?_)
     have hk0:kOf n=4:=hA _ _ hk (by decide) (by assumption)
     have hn0:n=10:=by unfold kOf at hk0; grind
     rw [hn0]
    ·refine PW.w 2 [0,23,24] 0 (PL.gc (A:=[]) (fun _=>errors_Is_pc e (kOf n) 5 at_ hk (by decide)) (PL.n 1 [0,22] 0 (PW.cd (decide (e (kOf n)=e 5)) ?_ ?_))) <;> intro hz5 <;> try simp only [boolS,isB_true,isB_false] at hz5
     ·refine PW.t [2] 0 (rq (I 11) ?_)
      have hk0:kOf n=5:=hA _ _ hk (by decide) (by assumption)
      have hn0:n=11:=by unfold kOf at hk0; grind
      rw [hn0]
     ·refine PW.w 2 [27,28] 0 (PL.gc (A:=[]) (fun _=>errors_Is_pc e (kOf n) 6 at_ hk (by decide)) (PL.n 1 [26] 0 (PW.cd (decide (e (kOf n)=e 6)) ?_ ?_))) <;> intro hz6 <;> try simp only [boolS,isB_true,isB_false] at hz6
      ·refine PW.t [2] 0 (rq (I 12) ?_)
       have hk0:kOf n=6:=hA _ _ hk (by decide) (by assumption)
       have hn0:n=12:=by unfold kOf at hk0; grind
       rw [hn0]
      ·refine PW.k (PW.t [2] 0 (rq (I 13) ?_))
       have hk3:kOf n=0∨kOf n=1∨kOf n=2∨kOf n=3∨kOf n=4∨kOf n=5∨kOf n=6:=by omega
       have hn0:n=13:=by
        unfold kOf at *
        grind
       rw [hn0]
theorem findN_is {p:Nat→Bool}:∀ {n i:Nat},findN p n=some i→p i=true
 | 0,i,h=>by cases h
 | n+1,i,h=>by
  unfold findN at h
  split at h
  ·rename_i j hj
   cases h
   exact findN_is hj
  ·split at h
   ·rename_i hp
    cases h
    exact hp
   ·cases h
theorem checkP_is (c:Config):(checkP c).1=0∧(checkP c).2=0∨7≤(checkP c).1∧(checkP c).1≤13:=by
 unfold checkP
 split
 ·exact .inr (by decide)
 ·split
  ·exact .inr (by dsimp only; decide)
  ·split
   ·exact .inr (by decide)
   ·split
    ·rename_i i hi
     have h:=findN_is hi
     have h0:¬ linkE c i=0:=by simpa using h
     right
     show 7≤linkE c i∧linkE c i≤13
     rcases linkE_is c i with h1|h1|h1|h1
     ·exact absurd h1 h0
     all_goals rw [h1]; decide
    ·split
     ·exact .inr (by dsimp only; decide)
     ·exact .inl ⟨rfl,rfl⟩
theorem checkP_in {c:Config} (h:¬ (checkP c).1=0):7≤(checkP c).1∧(checkP c).1≤13:=by
 rcases checkP_is c with h1|h1
 ·exact absurd h1.1 h
 ·exact h1
theorem checkP_nil {c:Config} (h:(checkP c).1=0):(checkP c).2=0:=by
 rcases checkP_is c with h1|h1
 ·exact h1.2
 ·omega
theorem faultD_nil {e:Nat→Addr} {x:Int×Int} (h:x.1=0):faultD e x=D.v .nilIface:=if_pos h
theorem faultD_some {e:Nat→Addr} {x:Int×Int} (h:¬ x.1=0):faultD e x=D.i 163 (D.q [sentD e (kOf x.1),I x.2] 0):=if_neg h
theorem plan_Check_pc (e:Nat→Addr) (hA:Apart e) (c:Config) (hp0:c.parts.length<1000000) (hl0:c.links.length<1000000):PC Tryz.prog (errG2 e) 103 [D.r (Config.d c)] (· = D.t [I (checkP c).1,I (checkP c).2]):=by
 refine PC.of (N:=11) Tryz.func103 rfl rfl (Nat.le_of_ble_eq_true rfl) ?_
 refine PW.a [1] 1 (PW.seq ?_)
 rcases Classical.em ((checkP c).1=0) with hq|hq
 ·skip
  refine PW.region (PL.a 1 [5] 1 (PL.gc (d:=D.v (.nilIface)) (A:=[]) (fun _=>((plan_check_pc e c hp0 hl0).weak (errG_sub e)).eq (faultD_nil hq)) (PL.a 1 [4] 1 (PL.nil ?_))))
  show PW _ _ _ _ _
  refine PW.w 1 [4,7] 1 (PL.gc (A:=[]) (fun _=>plan_number_nil_pc e) (PL.a 1 [8,9] 1 (PL.gc (G:=(errG2 e)) (A:=[]) (fun _=>PC.more (plan_place_nil_pc)) (PL.n 2 [2,3] 1 (PW.ret (rq (D.t [I 0,I 0]) ?_))))))
  rw [hq,checkP_nil hq]
 ·skip
  refine PW.region (PL.a 1 [5] 1 (PL.gc (d:=D.i 163 (D.q [D.v (.iface 251 (.pointer (some (e (kOf (checkP c).1))))),I ((checkP c).2)] 0)) (A:=[]) (fun _=>((plan_check_pc e c hp0 hl0).weak (errG_sub e)).eq (faultD_some hq)) (PL.a 1 [4] 1 (PL.nil ?_))))
  show PW _ _ _ _ _
  refine PW.w 1 [4,7] 1 (PL.gc (ds0:=[D.i 163 (D.q [D.v (.iface 251 (.pointer (some (e (kOf (checkP c).1))))),I ((checkP c).2)] 0)]) (A:=[]) (fun _=>plan_number_fault_pc e hA (checkP c).1 (checkP c).2 (checkP_in hq) (kOf_lt _)) (PL.a 1 [8,9] 1 (PL.gc (A:=[]) (fun _=>plan_place_fault_pc e (kOf (checkP c).1) (checkP c).2) (PL.n 2 [2,3] 1 (PW.ret (rq (D.t [I ((checkP c).1),I ((checkP c).2)]) ?_))))))
  rfl
end Go.Proofs.YtdomlccfjnkbjaaGreatDoor.Pl
namespace Go.Proofs.YtdomlccfjnkbjaaGreatDoor.BdF
open Go.RowKit Go.Extern.Stop Go.Stop Go.Extern Go.Proofs.YtdomlccfjnkbjaaGreatDoor.Sm Go.Proofs.YtdomlccfjnkbjaaGreatDoor.Dp Go.Proofs.YtdomlccfjnkbjaaGreatDoor.Pl
set_option maxHeartbeats 400000
set_option maxRecDepth 100000
theorem is_nil (b:Addr) (w:World):Calls Tryz.prog 93 #[.nilIface,.iface 251 (.pointer (some b))] w fun e w'=>e = .returned (.bool false)∧w=w':=by
 have hq:(binOp .eql 112 .nilIface (.iface 251 (.pointer (some b)))).run Tryz.prog w = .ok (.bool false) w:=by kernel_rfl
 go_enter Tryz.func93,Tryz.ntmps93
 go_wp2
 go_ret
 exact ⟨rfl,rfl⟩
end Go.Proofs.YtdomlccfjnkbjaaGreatDoor.BdF
namespace Go.Proofs.YtdomlccfjnkbjaaGreatDoor.Wr
open Go.ChangeShapes Go.WideShapes Go.ChangeAt Go.RowKit Go.Proofs.YtdomlccfjnkbjaaGreatDoor.Sm
set_option maxHeartbeats 400000
set_option maxRecDepth 100000
theorem plainR_yes (N m:Nat) (h1:1≤(m:Int)) (h7:(m:Int)≤7) (hN:N<256^m) (w:World) :
  Calls Tryz.prog 71 #[.int .i64 N,.int .i64 m] w fun e w'=>RetPair w 5 (be N m) true e w':=by
 obtain ⟨i0,hi0,hz0,hz1,hz2⟩:=info_parts byte_info
 obtain ⟨p,hp,hp1,hp2,hp3⟩:=pow_p h1 h7
 have hnp:(N:Int)<p:=by rw [← hp,Int.toNat_natCast]; omega
 have hs:=shl_p h7 hp
 clear hp hN
 go_enter Tryz.func71,Tryz.ntmps71
 go_wp2
 clear hs
 go_loopw [6,7] (fun v i wr=>∃ q:Nat,q≤m∧i = .int .i64 ((q:Int)-1)∧Hid (wr.ownsRow w.heap.size 5 1 v ((be N m).take (m-q)).length (cells8 ((be N m).take (m-q))))∧Below w.heap.size w wr) (fun _ i _=>(intOf i+1).toNat)
 case atStart=>exact ⟨m,by omega,rfl,by rw [Nat.sub_self]; exact World.ownsRow_nil _ _ _ _,Below.refl _ _⟩
 case round =>
  obtain ⟨q,hq,rfl,HO,hb⟩:=hrel
  by_cases hlt:1≤q
  ·obtain ⟨r,rfl⟩:∃ r,q=r+1:=⟨q-1,by omega⟩
   rw [show (((r+1:Nat):Int)-1)=(r:Int) by omega]
   go_wp2_with (at_builtin; refine stop ?_)
   unfold Stop
   refine wpList_append_row _ rfl _ _ _ rfl w.heap.size 5 i0 _ Tryz.underlying23 hi0 hz0 hz1 hz2 rfl _ ((be N m).take (m-(r+1))) rfl (HO.out.alloc _) _ _ 1 1 [UInt8.ofNat (N/256^r)] rfl (Row8.lit wr _ _ _ 1 rfl (by decide) (byte_cells N r).symm) (by rw [List.length_take,be_length]; omega) (by have:=hb.size; simp; omega) ?_
   intro v2 w2 hown hgrow hltb
   have hs:=be_take_succ N m (m-(r+1)) oM
   rw [show m-1-(m-(r+1))=r by omega,show m-(r+1)+1=m-r by omega] at hs
   rw [← hs] at hown
   have HO2:=hid hown
   have hb2:=(hb.alloc hb.size _).grown hgrow (by have:=hb.size; simp; omega) hltb
   clear hs hown hgrow hltb
   go_wp2
   go_roundw
   case rel=>exact ⟨r,by omega,rfl,HO2,hb2⟩
   case measure=>simp [intOf]
  ·obtain rfl:q=0:=by omega
   go_wp2
   go_ret2
   refine ⟨_,rfl,?_,hb⟩
   have:=HO.out
   rw [Nat.sub_zero,List.take_of_length_le (by rw [be_length]; omega)] at this
   exact this
theorem plainR_no (n k:Int) (h:plainB n k=false) (w:World) :
  Calls Tryz.prog 71 #[.int .i64 n,.int .i64 k] w fun e w'=>RetPair w 5 [] false e w':=by
 have h':¬ ((1≤k∧k≤7)∧0≤n∧n<256^k.toNat):=by unfold plainB at h; exact of_decide_eq_false h
 clear h
 by_cases hb:k<1
 ·clear h'
  go_enter Tryz.func71,Tryz.ntmps71
  go_wp2
  go_ret2
  exact ⟨_,rfl,made_nil _ _⟩
 by_cases hb8:7<k
 ·clear h'
  go_enter Tryz.func71,Tryz.ntmps71
  go_wp2
  go_ret2
  exact ⟨_,rfl,made_nil _ _⟩
 have h1:1≤k:=by omega
 have h7:k≤7:=by omega
 by_cases hn:n<0
 ·clear h' hb hb8
  go_enter Tryz.func71,Tryz.ntmps71
  go_wp2
  go_ret2
  exact ⟨_,rfl,made_nil _ _⟩
 obtain ⟨m,rfl⟩:=Int.eq_ofNat_of_zero_le (show 0≤k by omega)
 obtain ⟨p,hp,hp1,hp2,hp3⟩:=pow_p h1 h7
 have hnp:p≤n:=by
  rw [pow_cast,hp] at h'
  omega
 have hs:=shl_p h7 hp
 clear hp h' hb hb8
 go_enter Tryz.func71,Tryz.ntmps71
 go_wp2
 go_ret2
 exact ⟨_,rfl,made_nil _ _⟩
theorem plainR_calls (n k:Int) (w:World) :
  Calls Tryz.prog 71 #[.int .i64 n,.int .i64 k] w fun e w'=>RetPair w 5 (plainL n k) (plainB n k) e w':=by
 cases h:plainB n k with
 | false =>
  have e:plainL n k=[]:=by unfold plainL; rw [h]; rfl
  rw [e]
  exact plainR_no n k h w
 | true =>
  have e:plainL n k=be n.toNat k.toNat:=by unfold plainL; rw [if_pos h]
  rw [e]
  have h':=of_decide_eq_true (show decide _=true from h)
  obtain ⟨⟨h1,h7⟩,h0,hp⟩:=h'
  obtain ⟨N,rfl⟩:=Int.eq_ofNat_of_zero_le h0
  obtain ⟨m,rfl⟩:=Int.eq_ofNat_of_zero_le (show 0≤k by omega)
  rw [Int.toNat_natCast,Int.toNat_natCast]
  exact plainR_yes N m h1 h7 (by rw [Int.toNat_natCast,pow_cast] at hp; omega) w
theorem signedR_no (n k:Int) (h:signedB n k=false) (w:World) :
  Calls Tryz.prog 44 #[.int .i64 n,.int .i64 k] w fun e w'=>RetPair w 5 [] false e w':=by
 have h':¬ ((1≤k∧k≤7) ∧ -(256^k.toNat/2)≤n∧n<256^k.toNat/2):=by unfold signedB at h; exact of_decide_eq_false h
 clear h
 by_cases hb:k<1
 ·clear h'
  go_enter Tryz.func44,Tryz.ntmps44
  go_wp2
  go_ret2
  exact ⟨_,rfl,made_nil _ _⟩
 by_cases hb8:7<k
 ·clear h'
  go_enter Tryz.func44,Tryz.ntmps44
  go_wp2
  go_ret2
  exact ⟨_,rfl,made_nil _ _⟩
 have h1:1≤k:=by omega
 have h7:k≤7:=by omega
 obtain ⟨m,rfl⟩:=Int.eq_ofNat_of_zero_le (show 0≤k by omega)
 obtain ⟨p,hp,hp1,hp2,hp3⟩:=pow_p h1 h7
 rw [pow_cast,hp] at h'
 have hs:=shl_half h1 h7 hp
 clear hp hb hb8
 by_cases hn:n < -(p/2)
 ·clear h'
  go_enter Tryz.func44,Tryz.ntmps44
  go_wp2
  go_ret2
  exact ⟨_,rfl,made_nil _ _⟩
 ·have hu:p/2≤n:=by omega
  clear h'
  go_enter Tryz.func44,Tryz.ntmps44
  go_wp2
  go_ret2
  exact ⟨_,rfl,made_nil _ _⟩
theorem signedR_yes (n k:Int) (h:signedB n k=true) (w:World) :
  Calls Tryz.prog 44 #[.int .i64 n,.int .i64 k] w fun e w'=>RetPair w 5 (signedL n k) true e w':=by
 have h':=of_decide_eq_true (show decide _=true from h)
 have hc:=plainR_calls (lifted n k) k w
 rw [(signed_plain h).1,(signed_plain h).2] at hc
 unfold lifted at hc
 obtain ⟨⟨h1,h7⟩,hl,hu⟩:=h'
 obtain ⟨m,rfl⟩:=Int.eq_ofNat_of_zero_le (show 0≤k by omega)
 obtain ⟨p,hp,hp1,hp2,hp3⟩:=pow_p h1 h7
 rw [pow_cast,hp] at hl hu hc
 have hs:=shl_half h1 h7 hp
 have hs2:=shl_p h7 hp
 clear hp h
 by_cases hn:n<0
 ·rw [if_pos hn] at hc
  have HC:=hid hc
  clear hc
  go_enter Tryz.func44,Tryz.ntmps44
  go_wp2_with (go_at_call 71; refine (HC.out).mono ?_; rintro e w' ⟨v,rfl,hm⟩)
  go_ret2
  exact ⟨_,rfl,hm⟩
 ·rw [if_neg hn] at hc
  have HC:=hid hc
  clear hc
  go_enter Tryz.func44,Tryz.ntmps44
  go_wp2_with (go_at_call 71; refine (HC.out).mono ?_; rintro e w' ⟨v,rfl,hm⟩)
  go_ret2
  exact ⟨_,rfl,hm⟩
theorem signedR_calls (n k:Int) (w:World) :
  Calls Tryz.prog 44 #[.int .i64 n,.int .i64 k] w fun e w'=>RetPair w 5 (signedL n k) (signedB n k) e w':=by
 cases h:signedB n k with
 | false =>
  have e:signedL n k=[]:=by unfold signedL; rw [h]; rfl
  rw [e]
  exact signedR_no n k h w
 | true=>exact signedR_yes n k h w
end Go.Proofs.YtdomlccfjnkbjaaGreatDoor.Wr
