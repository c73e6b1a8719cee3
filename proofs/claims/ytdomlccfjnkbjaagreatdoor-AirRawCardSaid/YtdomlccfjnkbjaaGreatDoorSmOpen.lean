/- What sum.Open returns: the bytes ahead of the last four, and true, where these are their sum; else nothing, and false. -/
import Derived.Test.YtdomlccfjnkbjaaGreatDoorSmA
import Derived.Test.YtdomlccfjnkbjaaGreatDoorWrR
import Derived.Test.YtdomlccfjnkbjaaGreatDoorDpC
import Derived.RegionTactic
import Derived.ChangeAlike
import Derived.Deep.QuietTactic
import Derived.BigQuiet
import Derived.Deep.Draws
import Derived.Deep.RegionWith
namespace Go.Proofs.YtdomlccfjnkbjaaGreatDoor.Sm
open Go.ChangeShapes Go.WideShapes Go.ChangeAt Go.RowKit
set_option maxHeartbeats 400000
theorem clone_calls (a:Option Addr) (n c:Nat) (l:List UInt8) (w:World) (hr:Row8 w w.heap.size a n c l) (hn:n≤1000000000) :
  Calls Tryz.prog 119 #[.slice a n c] w fun e w'=>RetMade w 5 l e w':=by
 obtain ⟨i0,hi0,hz0,hz1,hz2⟩:=info_parts byte_info
 cases a with
 | none =>
  have h1:=hr.none_ rfl
  have h2:n=0:=by have:=hr.room; omega
  subst h1 h2
  have h3:l=[]:=List.eq_nil_of_length_eq_zero hr.len
  subst h3
  clear hr
  have hq:=fun w=>Lib.run_eql_slice_nil (P:=Tryz.prog) w 23 5 none 0 0 0 0 Tryz.underlying23
  go_enter Tryz.func119,Tryz.ntmps119
  go_wp2
  go_ret
  exact ⟨_,rfl,World.ownsRow_nil _ _ _ _,Below.refl _ _⟩
 | some x =>
  have HR:=hid hr
  clear hr
  have hq:=fun w=>Lib.run_eql_slice_nil (P:=Tryz.prog) w 23 5 (some x) n c 0 0 Tryz.underlying23
  go_enter Tryz.func119,Tryz.ntmps119
  go_wp2_with (at_builtin; refine wpList_append_row _ rfl _ _ _ rfl w.heap.size 5 i0 _ Tryz.underlying23 hi0 hz0 hz1 hz2 rfl _ [] rfl (World.ownsRow_made w #[] 0 (Nat.le_refl _) (by decide) rfl) _ (some x) n c l rfl ((HR.out.below ((Below.refl _ _).alloc (Nat.le_refl _) _))) (by simp; omega) (by simp) ?_; intro v1 w1 hown hgrow hlt)
  go_ret
  exact ⟨_,rfl,hown,((Below.refl _ _).alloc (Nat.le_refl _) _).grown hgrow (by simp) hlt⟩
end Go.Proofs.YtdomlccfjnkbjaaGreatDoor.Sm
namespace Go.Proofs.YtdomlccfjnkbjaaGreatDoor.Wr
open Go.ChangeShapes Go.WideShapes Go.ChangeAt Go.RowKit Go.Proofs.YtdomlccfjnkbjaaGreatDoor.Sm
set_option maxHeartbeats 400000
theorem fits_yes (k:Int) (h1:1≤k) (h7:k≤7) (w:World):Calls Tryz.prog 198 #[.int .i64 k] w fun e w'=>e = .returned (.bool true)∧w=w':=by
 go_enter Tryz.func198,Tryz.ntmps198
 go_wp2
 go_ret
 exact ⟨rfl,rfl⟩
theorem fits_no (k:Int) (h:k<1∨7<k) (w:World):Calls Tryz.prog 198 #[.int .i64 k] w fun e w'=>e = .returned (.bool false)∧w=w':=by
 rcases h with h|h
 ·go_enter Tryz.func198,Tryz.ntmps198
  go_wp2
  go_ret
  exact ⟨rfl,rfl⟩
 ·have hd:decide (k≤7)=false:=by simpa using h
  go_enter Tryz.func198,Tryz.ntmps198
  go_wp2
  go_ret
  exact ⟨rfl,rfl⟩
theorem values_calls (k p:Int) (h1:1≤k) (h7:k≤7) (hp:((256^k.toNat:Nat):Int)=p) (w:World):Calls Tryz.prog 199 #[.int .i64 k] w fun e w'=>e = .returned (.int .i64 p)∧w=w':=by
 subst hp
 have hk:k=1∨k=2∨k=3∨k=4∨k=5∨k=6∨k=7:=by omega
 rcases hk with rfl|rfl|rfl|rfl|rfl|rfl|rfl
 all_goals
  clear h1 h7
  go_enter Tryz.func199,Tryz.ntmps199
  go_wp2
  go_ret
  exact ⟨rfl,rfl⟩
theorem number_calls (a:Option Addr) (n c:Nat) (l:List UInt8) (B:Nat) (w:World) (hr:Row8 w B a n c l) :
  Calls Tryz.prog 190 #[.slice a n c] w fun e w'=>e = .returned (.int .i64 (numI l))∧w=w':=by
 have hn:n≤9223372036854775807:=by have h1:=hr.room; have h2:=hr.cap; unfold maxLen at h2; omega
 have HR:=hid hr
 have HN:=hid hr.len
 clear hr
 by_cases hb:(n:Int)<1∨7<(n:Int)
 ·go_enter Tryz.func190,Tryz.ntmps190
  go_wp2_with (go_at_call 198; refine (fits_no _ hb _).mono ?_; rintro e w' ⟨rfl,rfl⟩)
  go_ret
  refine ⟨ret_int ?_,rfl⟩
  unfold numI
  rw [HN.out]
  split
  ·have e:l=[]:=List.eq_nil_of_length_eq_zero (by rw [HN.out]; omega)
   rw [e]; rfl
  ·rfl
 ·have h1:1≤(n:Int):=by omega
  have h7:(n:Int)≤7:=by omega
  clear hb
  go_enter Tryz.func190,Tryz.ntmps190
  go_wp2_with (go_at_call 198; refine (fits_yes _ h1 h7 _).mono ?_; rintro e w' ⟨rfl,rfl⟩)
  go_loop [3,12] (fun t i=>∃ k:Nat,∃ y:Int,k≤n∧0≤y∧i = .int .i64 k∧t = .int .i64 y∧Hid (y=(num (l.take k):Int))) (fun _ i=>n-(intOf i).toNat)
  case atStart=>exact ⟨0,_,by omega,by omega,rfl,rfl,rfl⟩
  case round =>
   obtain ⟨k,y,hk,hy0,rfl,rfl,H⟩:=hrel
   by_cases hlt:k<n
   ·obtain ⟨b,off,d,rfl,_,hl,hc⟩:=HR.out.at_ hlt
    have hd:=d.toNat_lt
    have HL:=hid hl
    clear hl
    have hy1:y<281474976710656:=by have:=num_lt6 (l:=l) (k:=k) oM; have:=H.out; omega
    go_wp2
    go_round
    case rel =>
     have e:=joined (num (l.take k)) (num_lt6 oM) d
     rw [← H.out,← num_snoc l k d HL.out] at e
     exact ⟨k+1,_,by omega,by rw [e]; omega,by go_num,rfl,e⟩
    case measure=>simp [intOf]; omega
   ·obtain rfl:k=n:=by omega
    go_wp2
    go_ret
    refine ⟨ret_int ?_,rfl⟩
    unfold numI
    rw [H.out,← HN.out,List.take_length,if_pos (by rw [HN.out]; omega)]
theorem offset_calls (a:Option Addr) (n c:Nat) (l:List UInt8) (B:Nat) (w:World) (hr:Row8 w B a n c l) :
  Calls Tryz.prog 192 #[.slice a n c] w fun e w'=>e = .returned (.int .i64 (offI l))∧w=w':=by
 have hn:n≤9223372036854775807:=by have h1:=hr.room; have h2:=hr.cap; unfold maxLen at h2; omega
 have HR:=hid hr
 have HN:=hid hr.len
 clear hr
 by_cases hb:(n:Int)<1∨7<(n:Int)
 ·go_enter Tryz.func192,Tryz.ntmps192
  go_wp2_with (go_at_call 198; refine (fits_no _ hb _).mono ?_; rintro e w' ⟨rfl,rfl⟩)
  go_ret
  exact ⟨ret_int (offI_zero (by rw [HN.out]; omega)).symm,rfl⟩
 ·have h1:1≤(n:Int):=by omega
  have h7:(n:Int)≤7:=by omega
  clear hb
  obtain ⟨p,hp,hp1,hp2,hp3⟩:=pow_p h1 h7
  have HP:=hid hp
  obtain ⟨y,hy⟩:∃ y,numI l=y:=⟨_,rfl⟩
  have hlen:1≤l.length∧l.length≤7:=by rw [HN.out]; omega
  have hyp:0≤y∧y<p:=by
   rw [← hy,numI_eq hlen.2,← hp,Int.toNat_natCast,← HN.out]
   have:=num_lt l
   omega
  obtain ⟨hy0,hy1⟩:=hyp
  have hcmp:256^l.length/2≤num l↔p/2≤y:=by
   rw [← hy,numI_eq hlen.2,← hp,Int.toNat_natCast,← HN.out]
   omega
  have HY:=hid hy
  have hpl:((256^l.length:Nat):Int)=p:=by rw [← hp,Int.toNat_natCast,← HN.out]
  have HPL:=hid hpl
  by_cases hh:p/2≤y
  ·have HE:=hid (offI_high hlen (hcmp.2 hh))
   clear hp hy hcmp hpl hlen
   go_enter Tryz.func192,Tryz.ntmps192
   go_wp2_with (first|(go_at_call 198; refine (fits_yes _ h1 h7 _).mono ?_; rintro e w' ⟨rfl,rfl⟩)|(go_at_call 190; refine (number_calls _ _ _ l _ _ HR.out).mono ?_; rw [HY.out]; rintro e w' ⟨rfl,rfl⟩)|(go_at_call 199; refine (values_calls _ p h1 h7 HP.out _).mono ?_; rintro e w' ⟨rfl,rfl⟩))
   go_ret
   exact ⟨ret_int (by rw [HE.out,HY.out,HPL.out]),rfl⟩
  ·have HE:=hid (offI_low hlen (fun h=>hh (hcmp.1 h)))
   clear hp hy hcmp hpl hlen
   go_enter Tryz.func192,Tryz.ntmps192
   go_wp2_with (first|(go_at_call 198; refine (fits_yes _ h1 h7 _).mono ?_; rintro e w' ⟨rfl,rfl⟩)|(go_at_call 190; refine (number_calls _ _ _ l _ _ HR.out).mono ?_; rw [HY.out]; rintro e w' ⟨rfl,rfl⟩)|(go_at_call 199; refine (values_calls _ p h1 h7 HP.out _).mono ?_; rintro e w' ⟨rfl,rfl⟩))
   go_ret
   exact ⟨ret_int (by rw [HE.out,HY.out]),rfl⟩
set_option maxRecDepth 100000
def Rd (w:World) (g:Nat) (l:List UInt8) (at_:Nat) (bad:Bool):Prop :=
 ∃ a n c,w.heap[g]? = some (.cells #[.slice a n c,.int .i64 (at_:Int),.bool bad] 207 (0,0))∧Row8 w g a n c (l.drop at_)∧at_≤l.length∧l.length≤1000000
theorem Rd.lt {w:World} {g:Nat} {l:List UInt8} {at_:Nat} {bad:Bool} (h:Rd w g l at_ bad):g<w.heap.size:=by
 obtain ⟨a,n,c,hg,_⟩:=h
 exact (Array.getElem?_eq_some_iff.1 hg).1
theorem Rd.below {w w':World} {g B:Nat} {l:List UInt8} {at_:Nat} {bad:Bool} (h:Rd w g l at_ bad) (hb:Below B w w') (hB:g<B):Rd w' g l at_ bad:=by
 obtain ⟨a,n,c,hg,hr,h2⟩:=h
 exact ⟨a,n,c,(hb.block g hB).trans hg,hr.below (hb.mono oM),h2⟩
theorem Rd.beside {w w':World} {g g':Nat} {l:List UInt8} {at_:Nat} {bad:Bool} (h:Rd w g l at_ bad) (hb:Beside g' w w') (hB:g<g'):Rd w' g l at_ bad :=
 h.below (hb.below (B:=g+1) oM (by have:=h.lt; omega)) oM
end Go.Proofs.YtdomlccfjnkbjaaGreatDoor.Wr
namespace Go.Proofs.YtdomlccfjnkbjaaGreatDoor.Fr
open Go.RowKit Go.Proofs.YtdomlccfjnkbjaaGreatDoor.Sm Go.Proofs.YtdomlccfjnkbjaaGreatDoor.Dp
structure Frame where
 kind:Int
 part:Int
 node:Int
 wait:Int
 mask:Int
 link:Int
 flag:Bool
 cycle:Int
 offset:Int
 ages:List Int
 frm:Int
 to:Int
 seq:Int
 body:List UInt8
def bare (k p n:Int):Frame:=⟨k,p,n,0,0,0,false,0,0,[],0,0,0,[]⟩
def frC (f:Frame) (A B:D):List D:=[I f.kind,I f.part,I f.node,I f.wait,I f.mask,I f.link,.v (.bool f.flag),I f.cycle,I f.offset,A,I f.frm,I f.to,I f.seq,B]
def frD (f:Frame):List D:=frC f (sl' 1 (fun x=>[I x]) f.ages) (bytesD f.body)
end Go.Proofs.YtdomlccfjnkbjaaGreatDoor.Fr
namespace Go.Proofs.YtdomlccfjnkbjaaGreatDoor.Pl
open Go.RowKit Go.Proofs.YtdomlccfjnkbjaaGreatDoor.Sm Go.Proofs.YtdomlccfjnkbjaaGreatDoor.Dp
open Go.Proofs.YtdomlccfjnkbjaaGreatDoor.Fr (bare frD frC)
abbrev Frame:=Fr.Frame
instance:Inhabited Frame:=⟨bare 0 0 0⟩
structure Heard where
 slot:Int
 frame:Frame
 at_:Int
deriving Inhabited
def Heard.d (h:Heard):List D:=I h.slot::(frD h.frame++[I h.at_])
end Go.Proofs.YtdomlccfjnkbjaaGreatDoor.Pl
namespace Go.Proofs.YtdomlccfjnkbjaaGreatDoor.Sm
open Go.ChangeShapes Go.WideShapes Go.ChangeAt Go.RowKit
set_option maxHeartbeats 400000
theorem reg_snoc (r:BitVec 32) (l:List UInt8) (k:Nat) (c:UInt8) (h:l[k]? = some c):reg r (l.take (k+1))=one (reg r (l.take k)) c:=by
 rw [List.take_add_one,h]; simp [reg]
theorem mixed {y:Int} {r:BitVec 32} {c:UInt8} (hy:y=(r.toNat:Int)):bits .xor .u32 y ((c.toNat:Int)*(16777216:Int))=((r ^^^ high c).toNat:Int):=by
 rw [hy,high_word,xor_words]
theorem not_max (s:BitVec 32):bits .xor .u32 IntKind.u32.max (s.toNat:Int)=((~~~ s).toNat:Int):=not_word s
theorem num4_snoc (l:List UInt8) (k:Nat) (c:UInt8) (h:l[k]? = some c):num4 (l.take (k+1))=(num4 (l.take k)*256+c.toNat)%4294967296:=by
 rw [List.take_add_one,h]; simp [num4]
theorem num4_lt (l:List UInt8):num4 l<4294967296:=by
 rcases List.eq_nil_or_concat l with rfl|⟨m,c,rfl⟩
 ·decide
 ·simp [num4]; omega
theorem joined (N:Nat) (c:UInt8):bits .or .u32 ((N:Int)*(256:Int)%(4294967296:Int)) (c.toNat:Int)=(((N*256+c.toNat)%4294967296:Nat):Int):=by
 have hc:=c.toNat_lt
 have e:(N:Int)*(256:Int)%(4294967296:Int)=((N%16777216*256:Nat):Int):=by omega
 rw [e,u32_or_nat _ _ oM oM]
 have h:=Nat.two_pow_add_eq_or_of_lt (i:=8) (b:=c.toNat) oM (N%16777216)
 have e2:N%16777216*256=2^8*(N%16777216):=by omega
 rw [e2,← h]
 omega
theorem bytes_of (s:BitVec 32):cells8 (tail4 s)=[.int .u8 ((s.toNat:Int)/16777216),.int .u8 ((s.toNat:Int)/65536%256),.int .u8 ((s.toNat:Int)/256%256),.int .u8 ((s.toNat:Int)%256)]:=by
 have h:s.toNat<4294967296:=s.isLt
 simp [cells8,tail4,UInt8.toNat_ofNat']
 omega
def isSealed (l:List UInt8):Bool:=decide (4≤l.length∧l.drop (l.length-4)=tail4 (of (l.take (l.length-4))))
def inner (l:List UInt8):List UInt8:=if isSealed l=true then l.take (l.length-4) else []
def RetOpen (w:World) (E:TypeId) (l:List UInt8) (e:Ending) (w':World):Prop:=∃ v,e = .returned (.tuple #[v,.bool (isSealed l)])∧Made w E (inner l) v w'
theorem isSealed_short {l:List UInt8} (h:l.length<4):isSealed l=false:=by unfold isSealed; simp; omega
theorem inner_no {l:List UInt8} (h:isSealed l=false):inner l=[]:=by simp [inner,h]
theorem inner_yes {l:List UInt8} (h:isSealed l=true):inner l=l.take (l.length-4):=by simp [inner,h]
theorem isSealed_num {l:List UInt8} {k:Nat} (h:l.length=k+4):isSealed l=decide ((of (l.take k)).toNat=num4 (l.drop k)):=by
 unfold isSealed
 have e:l.length-4=k:=by omega
 rw [e]
 have h4:=tail4_num4 (l.drop k) (by simp; omega) (of (l.take k))
 rw [decide_eq_decide]
 constructor
 ·rintro ⟨_,h2⟩; exact (h4.2 h2).symm
 ·intro h2; exact ⟨by omega,h4.1 h2.symm⟩
theorem isSealed_whole {l:List UInt8} {k:Nat} (h:l.length=k+4):isSealed l=decide (sealB (l.take k)=l):=by
 unfold isSealed
 have e:l.length-4=k:=by omega
 rw [e,decide_eq_decide]
 unfold sealB
 constructor
 ·rintro ⟨_,h2⟩; rw [← h2,List.take_append_drop]
 ·intro h2
  refine ⟨by omega,?_⟩
  have h3:l.take k++tail4 (of (l.take k))=l.take k++l.drop k:=by rw [h2,List.take_append_drop]
  exact (List.append_cancel_left h3).symm
theorem eight_calls (x:Int) (s:BitVec 32) (hx:x=(s.toNat:Int)) (w:World) :
  Calls Tryz.prog 133 #[.int .u32 x] w fun e w'=>e = .returned (.int .u32 ((steps 8 s).toNat:Int))∧w=w':=by
 have H0:=hid hx
 have hb:0≤x∧x<4294967296:=by rw [hx]; exact word_lt s
 obtain ⟨hb0,hb1⟩:=hb
 clear hx
 go_enter Tryz.func133,Tryz.ntmps133
 go_wp2
 go_loop [0,3] (fun t i=>∃ k:Nat,∃ y:Int,k≤8∧0≤y∧y<4294967296∧i = .int .i64 k∧t = .int .u32 y∧Hid (y=((steps k s).toNat:Int))) (fun _ i=>8-(intOf i).toNat)
 case atStart=>exact ⟨0,x,by omega,hb0,hb1,rfl,rfl,H0⟩
 case round =>
  clear H0 hb0 hb1
  obtain ⟨k,y,hk,hy0,hy1,rfl,rfl,H⟩:=hrel
  by_cases hlt:k<8
  ·go_wp2
   all_goals go_round
   case rel =>
    have e:=step_yes H.out ‹_›
    have b:=word_lt (step (steps k s))
    exact ⟨k+1,_,by omega,by rw [e]; exact b.1,by rw [e]; exact b.2,by go_num,rfl,by rw [steps_succ]; exact e⟩
   case measure=>simp [intOf]; omega
   case rel =>
    have e:=step_no H.out ‹_›
    have b:=word_lt (step (steps k s))
    exact ⟨k+1,_,by omega,by rw [e]; exact b.1,by rw [e]; exact b.2,by go_num,rfl,by rw [steps_succ]; exact e⟩
   case measure=>simp [intOf]; omega
  ·obtain rfl:k=8:=by omega
   go_wp2
   go_ret
   exact ⟨ret_int H.out,rfl⟩
theorem moreR_calls (x:Int) (s:BitVec 32) (hx:x=(s.toNat:Int)) (a:Option Addr) (n c:Nat) (l:List UInt8) (B:Nat) (w:World) (hr:Row8 w B a n c l) :
  Calls Tryz.prog 101 #[.int .u32 x,.slice a n c] w fun e w'=>e = .returned (.int .u32 ((more s l).toNat:Int))∧w=w':=by
 have hn:n≤9223372036854775807:=by have h1:=hr.room; have h2:=hr.cap; unfold maxLen at h2; omega
 have H0:Hid (bits .xor .u32 4294967295 x=((~~~ s).toNat:Int)):=by show _=_; rw [hx]; exact not_word s
 have HR:=hid hr
 have HN:=hid hr.len
 clear hx hr
 go_enter Tryz.func101,Tryz.ntmps101
 go_wp2
 go_loop [0,5] (fun t i=>∃ k:Nat,∃ y:Int,k≤n∧i = .int .i64 k∧t = .int .u32 y∧Hid (y=((reg (~~~ s) (l.take k)).toNat:Int))) (fun _ i=>n-(intOf i).toNat)
 case atStart=>exact ⟨0,_,by omega,rfl,rfl,H0⟩
 case round =>
  obtain ⟨k,y,hk,rfl,rfl,H⟩:=hrel
  by_cases hlt:k<n
  ·obtain ⟨b,off,d,rfl,_,hl,hc⟩:=HR.out.at_ hlt
   have hd:=d.toNat_lt
   have HL:=hid hl
   clear hl
   have hm:=mixed (c:=d) H.out
   have HM:=hid hm
   clear hm
   go_wp2_with (go_at_call 133; refine (eight_calls _ (reg (~~~ s) (l.take k) ^^^ high d) HM.out _).mono ?_; rintro e w' ⟨rfl,rfl⟩)
   go_round
   case rel=>exact ⟨k+1,_,by omega,by go_num,rfl,by rw [reg_snoc _ _ _ _ HL.out]; rfl⟩
   case measure=>simp [intOf]; omega
  ·obtain rfl:k=n:=by omega
   go_wp2
   go_ret
   refine ⟨ret_int ?_,rfl⟩
   rw [H.out,not_max,← HN.out,List.take_length]
   rfl
theorem ofR_calls (a:Option Addr) (n c:Nat) (l:List UInt8) (B:Nat) (w:World) (hr:Row8 w B a n c l) :
  Calls Tryz.prog 72 #[.slice a n c] w fun e w'=>e = .returned (.int .u32 ((of l).toNat:Int))∧w=w':=by
 have HR:=hid hr
 clear hr
 go_enter Tryz.func72,Tryz.ntmps72
 go_wp2_with (go_at_call 101; refine (moreR_calls 0 0#32 rfl a n c l B _ HR.out).mono ?_; rintro e w' ⟨rfl,rfl⟩)
 go_ret
 exact ⟨rfl,rfl⟩
theorem steps_calls (x:Int) (s:BitVec 32) (hx:x=(s.toNat:Int)) (w:World) :
  Calls Tryz.prog 174 #[.int .u32 x] w fun e w'=>e = .returned (.int .u32 ((steps 8 s).toNat:Int))∧w=w':=by
 have H0:=hid hx
 have hb:0≤x∧x<4294967296:=by rw [hx]; exact word_lt s
 obtain ⟨hb0,hb1⟩:=hb
 clear hx
 go_enter Tryz.func174,Tryz.ntmps174
 go_wp2
 go_loop [0,4] (fun t i=>∃ k:Nat,∃ y:Int,k≤8∧0≤y∧y<4294967296∧i = .int .i64 k∧t = .int .u32 y∧Hid (y=((steps k s).toNat:Int))) (fun _ i=>8-(intOf i).toNat)
 case atStart=>exact ⟨0,x,by omega,hb0,hb1,rfl,rfl,H0⟩
 case round =>
  clear H0 hb0 hb1
  obtain ⟨k,y,hk,hy0,hy1,rfl,rfl,H⟩:=hrel
  by_cases hlt:k<8
  ·go_wp2
   all_goals go_round
   case rel =>
    have e:=step_yes H.out ‹_›
    have b:=word_lt (step (steps k s))
    exact ⟨k+1,_,by omega,by rw [e]; exact b.1,by rw [e]; exact b.2,by go_num,rfl,by rw [steps_succ]; exact e⟩
   case measure=>simp [intOf]; omega
   case rel =>
    have e:=step_no H.out ‹_›
    have b:=word_lt (step (steps k s))
    exact ⟨k+1,_,by omega,by rw [e]; exact b.1,by rw [e]; exact b.2,by go_num,rfl,by rw [steps_succ]; exact e⟩
   case measure=>simp [intOf]; omega
  ·obtain rfl:k=8:=by omega
   go_wp2
   go_ret
   exact ⟨ret_int H.out,rfl⟩
theorem more_calls (x:Int) (s:BitVec 32) (hx:x=(s.toNat:Int)) (a:Option Addr) (n c:Nat) (l:List UInt8) (B:Nat) (w:World) (hr:Row8 w B a n c l) :
  Calls Tryz.prog 152 #[.int .u32 x,.slice a n c] w fun e w'=>e = .returned (.int .u32 ((more s l).toNat:Int))∧w=w':=by
 have hn:n≤9223372036854775807:=by have h1:=hr.room; have h2:=hr.cap; unfold maxLen at h2; omega
 have H0:Hid (bits .xor .u32 4294967295 x=((~~~ s).toNat:Int)):=by show _=_; rw [hx]; exact not_word s
 have HR:=hid hr
 have HN:=hid hr.len
 clear hx hr
 go_enter Tryz.func152,Tryz.ntmps152
 go_wp2
 go_loop [5,12] (fun t i=>∃ k:Nat,∃ y:Int,k≤n∧i = .int .i64 k∧t = .int .u32 y∧Hid (y=((reg (~~~ s) (l.take k)).toNat:Int))) (fun _ i=>n-(intOf i).toNat)
 case atStart=>exact ⟨0,_,by omega,rfl,rfl,H0⟩
 case round =>
  obtain ⟨k,y,hk,rfl,rfl,H⟩:=hrel
  by_cases hlt:k<n
  ·obtain ⟨b,off,d,rfl,_,hl,hc⟩:=HR.out.at_ hlt
   have hd:=d.toNat_lt
   have HL:=hid hl
   clear hl
   have hm:=mixed (c:=d) H.out
   have HM:=hid hm
   clear hm
   go_wp2_with (go_at_call 174; refine (steps_calls _ (reg (~~~ s) (l.take k) ^^^ high d) HM.out _).mono ?_; rintro e w' ⟨rfl,rfl⟩)
   go_round
   case rel=>exact ⟨k+1,_,by omega,by go_num,rfl,by rw [reg_snoc _ _ _ _ HL.out]; rfl⟩
   case measure=>simp [intOf]; omega
  ·obtain rfl:k=n:=by omega
   go_wp2
   go_ret
   refine ⟨ret_int ?_,rfl⟩
   rw [H.out,not_max,← HN.out,List.take_length]
   rfl
theorem of_calls (a:Option Addr) (n c:Nat) (l:List UInt8) (B:Nat) (w:World) (hr:Row8 w B a n c l) :
  Calls Tryz.prog 117 #[.slice a n c] w fun e w'=>e = .returned (.int .u32 ((of l).toNat:Int))∧w=w':=by
 have HR:=hid hr
 clear hr
 go_enter Tryz.func117,Tryz.ntmps117
 go_wp2_with (go_at_call 152; refine (more_calls 0 0#32 rfl a n c l B _ HR.out).mono ?_; rintro e w' ⟨rfl,rfl⟩)
 go_ret
 exact ⟨rfl,rfl⟩
theorem number_calls (a:Option Addr) (n c:Nat) (l:List UInt8) (B:Nat) (w:World) (hr:Row8 w B a n c l) :
  Calls Tryz.prog 118 #[.slice a n c] w fun e w'=>e = .returned (.int .u32 (num4 l:Int))∧w=w':=by
 have hn:n≤9223372036854775807:=by have h1:=hr.room; have h2:=hr.cap; unfold maxLen at h2; omega
 have HR:=hid hr
 have HN:=hid hr.len
 clear hr
 go_enter Tryz.func118,Tryz.ntmps118
 go_wp2
 go_loop [3,8] (fun t i=>∃ k:Nat,∃ y:Int,k≤n∧0≤y∧y<4294967296∧i = .int .i64 k∧t = .int .u32 y∧Hid (y=(num4 (l.take k):Int))) (fun _ i=>n-(intOf i).toNat)
 case atStart=>exact ⟨0,_,by omega,by omega,by omega,rfl,rfl,rfl⟩
 case round =>
  obtain ⟨k,y,hk,hy0,hy1,rfl,rfl,H⟩:=hrel
  by_cases hlt:k<n
  ·obtain ⟨b,off,d,rfl,_,hl,hc⟩:=HR.out.at_ hlt
   have hd:=d.toNat_lt
   have HL:=hid hl
   clear hl
   go_wp2
   go_round
   case rel =>
    have e:=joined (num4 (l.take k)) d
    rw [← H.out,← num4_snoc l k d HL.out] at e
    have b:=num4_lt (l.take (k+1))
    exact ⟨k+1,_,by omega,by rw [e]; omega,by rw [e]; omega,by go_num,rfl,e⟩
   case measure=>simp [intOf]; omega
  ·obtain rfl:k=n:=by omega
   go_wp2
   go_ret
   refine ⟨ret_int ?_,rfl⟩
   rw [H.out,← HN.out,List.take_length]
set_option maxRecDepth 100000
theorem open_calls (a:Option Addr) (n c:Nat) (l:List UInt8) (w:World) (hr:Row8 w w.heap.size a n c l) (hn:n≤1000000) :
  Calls Tryz.prog 91 #[.slice a n c] w fun e w'=>RetOpen w 5 l e w':=by
 have HR:=hid hr
 have hc:=hr.cap
 have hnc:=hr.room
 unfold maxLen at hc
 have HL:=hid hr.len
 clear hr
 by_cases h4:n<4
 ·go_enter Tryz.func91,Tryz.ntmps91
  go_wp2
  go_ret2
  have hs:isSealed l=false:=isSealed_short (by rw [HL.out]; exact h4)
  refine ⟨.slice none 0 0,by rw [hs]; rfl,?_⟩
  rw [inner_no hs]
  exact ⟨World.ownsRow_nil _ _ _ _,Below.refl _ _⟩
 ·obtain ⟨b,off,rfl,hb,hcell⟩:=HR.out.cells oM
  have HC:=hid hcell
  clear hcell
  obtain ⟨k,rfl⟩:∃ k,n=k+4:=⟨n-4,by omega⟩
  have HI:=hid (HR.out.take (k:=k) oM)
  have HT:Hid (Row8 w w.heap.size (some ⟨b,off+k,none⟩) 4 (c-k) (l.drop k)):=by
   have h:=HR.out.drop (k:=k) oM
   rw [Nat.add_sub_cancel_left] at h
   exact h
  have hs:=isSealed_num HL.out
  by_cases hd:(of (l.take k)).toNat=num4 (l.drop k)
  ·have hs':=hid (hs.trans (by simp [hd]):isSealed l=true)
   clear hs
   have ht:(((of (l.take k)).toNat:Int) != (num4 (l.drop k):Int))=false:=by rw [hd]; simp
   clear hd
   go_enter Tryz.func91,Tryz.ntmps91
   go_wp2
   go_quiet (fail)
   go_wp2_with (first|(go_at_call 117; refine (of_calls _ k c (l.take k) _ _ (HI.out.drewN _)).mono ?_; rintro e w' ⟨rfl,rfl⟩)|(go_at_call 118; refine (number_calls _ 4 (c-k) (l.drop k) _ _ (HT.out.drewN _)).mono ?_; rintro e w' ⟨rfl,rfl⟩)|(go_at_call 119; refine (clone_calls _ k c (l.take k) _ (HI.out.drewN _) oM).mono ?_; rintro e w' ⟨v,rfl,hown,hbel⟩))
   go_ret2
   refine ⟨v,by rw [hs'.out]; rfl,?_⟩
   rw [inner_yes hs'.out,HL.out,Nat.add_sub_cancel]
   exact ⟨hown,below_from hbel⟩
  ·have hs':=hid (hs.trans (by simp [hd]):isSealed l=false)
   clear hs
   have ht:(((of (l.take k)).toNat:Int) != (num4 (l.drop k):Int))=true:=by simp; omega
   clear hd
   go_enter Tryz.func91,Tryz.ntmps91
   go_wp2
   go_quiet (fail)
   go_wp2_with (first|(go_at_call 117; refine (of_calls _ k c (l.take k) _ _ (HI.out.drewN _)).mono ?_; rintro e w' ⟨rfl,rfl⟩)|(go_at_call 118; refine (number_calls _ 4 (c-k) (l.drop k) _ _ (HT.out.drewN _)).mono ?_; rintro e w' ⟨rfl,rfl⟩))
   go_ret2
   refine ⟨.slice none 0 0,by rw [hs'.out]; rfl,?_⟩
   rw [inner_no hs'.out]
   exact ⟨World.ownsRow_nil _ _ _ _,below_drewN (Below.refl _ _) _⟩
end Go.Proofs.YtdomlccfjnkbjaaGreatDoor.Sm
