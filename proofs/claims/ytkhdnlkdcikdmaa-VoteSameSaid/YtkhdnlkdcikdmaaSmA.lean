/- Several texts in one: SmPlain SmKit SmMem SmInfo SmCut SmRow SmLater SmBy SmQuiet SmArgs. -/
import Derived.Laws.BitsAllLaws
import Derived.KernelRfl
import Derived.WalkKit
import Derived.ProofKit
import Derived.OpenShut
import Derived.Laws.OwnMore
import Derived.Deep.AppendLies
import Derived.Laws.Rows
import Derived.Laws.BytesArg
import Derived.Laws.AppendOwnNone
import Derived.Deep.Draws
import Derived.Test.YtkhdnlkdcikdmaaRows
import Derived.WalkSpells
import Derived.Deep.Fields
import Derived.ChangeSame
import Derived.Deep.RegionHeld
import Derived.Deep.QuietTactic
import Derived.BigQuiet
namespace Go.Proofs.Ytkhdnlkdcikdmaa
theorem kR {p:Prop} (h:p:=by kernel_rfl):p:=h
theorem oM {p:Prop} (h:p:=by omega):p:=h
theorem nD {p:Prop} (h:p:=by ((repeat' (first|intro _|refine And.intro ?_ ?_)) <;> first|omega|trivial|assumption|(rename_i hgd; simp only [Bool.and_eq_true,Bool.or_eq_true,Bool.or_eq_false_iff,Bool.and_eq_false_iff,Bool.not_eq_true',Bool.not_eq_false',decide_eq_true_eq,decide_eq_false_iff_not,beq_iff_eq,and_true] at hgd; omega))):p:=h
end Go.Proofs.Ytkhdnlkdcikdmaa
namespace Go.Proofs.Ytkhdnlkdcikdmaa.Sm
set_option maxHeartbeats 400000
def pol:BitVec 32:=79764919#32
def step (r:BitVec 32):BitVec 32:=if r.msb then (r <<< 1) ^^^ pol else r <<< 1
def steps:Nat→BitVec 32→BitVec 32
 | 0,r=>r
 | n+1,r=>steps n (step r)
theorem step_xor (x y:BitVec 32):step (x ^^^ y)=step x ^^^ step y:=by
 unfold step
 rw [BitVec.msb_xor,BitVec.shiftLeft_xor_distrib]
 cases hx:x.msb <;> cases hy:y.msb <;> simp
 ·rw [BitVec.xor_assoc]
 ·rw [BitVec.xor_assoc,BitVec.xor_assoc,BitVec.xor_comm pol]
 ·rw [BitVec.xor_assoc,BitVec.xor_comm pol,BitVec.xor_assoc,BitVec.xor_self,BitVec.xor_zero]
theorem xor_zero_iff (x y:BitVec 32):x ^^^ y=0#32↔x=y:=by
 constructor
 ·intro h
  have:(x ^^^ y) ^^^ y=0#32 ^^^ y:=by rw [h]
  rwa [BitVec.xor_assoc,BitVec.xor_self,BitVec.xor_zero,BitVec.zero_xor] at this
 ·rintro rfl; exact BitVec.xor_self
theorem step_zero_iff (z:BitVec 32):step z=0#32↔z=0#32:=by
 constructor
 ·intro h
  unfold step at h
  cases hm:z.msb
  ·rw [hm] at h
   simp only [Bool.false_eq_true,if_false] at h
   have hm':=hm
   rw [BitVec.msb_eq_decide] at hm'
   have h2:=congrArg BitVec.toNat h
   rw [BitVec.toNat_shiftLeft] at h2
   simp [Nat.shiftLeft_eq] at h2 hm'
   apply BitVec.eq_of_toNat_eq
   simp
   omega
  ·rw [hm] at h
   simp only [if_true] at h
   rw [xor_zero_iff] at h
   have h2:=congrArg BitVec.toNat h
   rw [BitVec.toNat_shiftLeft] at h2
   simp [Nat.shiftLeft_eq,pol] at h2
   omega
 ·rintro rfl; rfl
theorem step_inj {x y:BitVec 32} (h:step x=step y):x=y:=by
 rw [← xor_zero_iff,← step_xor,step_zero_iff,xor_zero_iff] at h
 exact h
theorem steps_inj:∀ (n:Nat) {x y:BitVec 32},steps n x=steps n y→x=y
 | 0,_,_,h=>h
 | n+1,_,_,h=>step_inj (steps_inj n h)
theorem steps_xor:∀ (n:Nat) (x y:BitVec 32),steps n (x ^^^ y)=steps n x ^^^ steps n y
 | 0,_,_=>rfl
 | n+1,x,y=>by show steps n (step (x ^^^ y))=_; rw [step_xor,steps_xor n]; rfl
theorem steps_add:∀ (m n:Nat) (x:BitVec 32),steps (m+n) x=steps n (steps m x)
 | 0,n,x=>by rw [Nat.zero_add]; rfl
 | m+1,n,x=>by rw [Nat.add_right_comm]; exact steps_add m n (step x)
def top (b:Bool):BitVec 32:=if b then 2147483648#32 else 0#32
def fed (r:BitVec 32):List Bool→BitVec 32
 | []=>r
 | b::l=>fed (step (r ^^^ top b)) l
theorem fed_append (r:BitVec 32):∀ (l m:List Bool),fed r (l++m)=fed (fed r l) m:=by
 intro l
 induction l generalizing r with
 | nil=>intro m; rfl
 | cons b l ih=>intro m; exact ih _ m
theorem fed_inj:∀ (l:List Bool) {x y:BitVec 32},fed x l=fed y l→x=y
 | [],_,_,h=>h
 | b::l,x,y,h=>by
  have h1:=step_inj (fed_inj l h)
  have h2:(x ^^^ top b) ^^^ top b=(y ^^^ top b) ^^^ top b:=by rw [h1]
  rwa [BitVec.xor_assoc,BitVec.xor_self,BitVec.xor_zero,BitVec.xor_assoc,BitVec.xor_self,BitVec.xor_zero] at h2
def word:List Bool→BitVec 32
 | []=>0#32
 | b::l=>top b ^^^ (word l >>> 1)
theorem word_nat:∀ (l:List Bool),l.length≤32→(word l).toNat%2^(32-l.length)=0
 | [],_=>by simp [word]
 | b::l,h=>by
  have h':l.length+1≤32:=h
  have ih:=word_nat l oM
  have hw:(word l).toNat<2^32:=(word l).isLt
  have hs:(word (b::l)).toNat=(top b).toNat ^^^ (word l).toNat/2:=by
   show (top b ^^^ (word l >>> 1)).toNat=_
   rw [BitVec.toNat_xor,BitVec.toNat_ushiftRight,Nat.shiftRight_eq_div_pow]
  have h2:(word l).toNat/2%2^(32-(l.length+1))=0:=by
   have e:32-l.length=(32-(l.length+1))+1:=by omega
   rw [e,Nat.pow_succ] at ih
   generalize 2^(32-(l.length+1))=q at *
   obtain ⟨c,hc⟩:=Nat.dvd_of_mod_eq_zero ih
   rw [hc,show q*2*c=2*(q*c) by rw [Nat.mul_comm q 2,Nat.mul_assoc],Nat.mul_div_cancel_left _ oM,Nat.mul_mod_right]
  rw [hs]
  show _%2^(32-(l.length+1))=0
  rw [Nat.xor_mod_two_pow,h2,Nat.xor_zero]
  cases b
  ·simp [top]
  ·show 2147483648%2^(32-(l.length+1))=0
   apply Nat.mod_eq_zero_of_dvd
   rw [show 2147483648=2^31 by decide]
   exact Nat.pow_dvd_pow 2 oM
theorem step_half (x:BitVec 32) (h:x.toNat%2=0):step (x >>> 1)=x:=by
 have hx:x.toNat<4294967296:=x.isLt
 have hm:(x >>> 1).msb=false:=by
  rw [BitVec.msb_eq_decide,BitVec.toNat_ushiftRight,Nat.shiftRight_eq_div_pow]
  simp
  omega
 unfold step
 rw [hm]
 simp only [Bool.false_eq_true,if_false]
 apply BitVec.eq_of_toNat_eq
 rw [BitVec.toNat_shiftLeft,BitVec.toNat_ushiftRight,Nat.shiftRight_eq_div_pow,Nat.shiftLeft_eq]
 omega
theorem fed_word (r:BitVec 32):∀ (l:List Bool),l.length≤32→fed r l=steps l.length (r ^^^ word l):=by
 intro l
 induction l generalizing r with
 | nil=>intro _; simp [fed,word,steps]
 | cons b l ih =>
  intro h
  have h':l.length+1≤32:=h
  show fed (step (r ^^^ top b)) l=steps l.length (step (r ^^^ (top b ^^^ (word l >>> 1))))
  rw [ih _ oM,← BitVec.xor_assoc,step_xor (r ^^^ top b) (word l >>> 1),step_half]
  have hw:=word_nat l oM
  have e:32-l.length=(31-l.length)+1:=by omega
  rw [e,Nat.pow_succ] at hw
  generalize 2^(31-l.length)=q at *
  obtain ⟨c,hc⟩:=Nat.dvd_of_mod_eq_zero hw
  rw [hc,show q*2*c=2*(q*c) by rw [Nat.mul_comm q 2,Nat.mul_assoc],Nat.mul_mod_right]
theorem top_msb (b:Bool) (x:BitVec 32):(top b ^^^ (x >>> 1)).msb=b:=by
 rw [BitVec.msb_xor]
 have:(x >>> 1).msb=false:=by
  have hx:x.toNat<4294967296:=x.isLt
  rw [BitVec.msb_eq_decide,BitVec.toNat_ushiftRight,Nat.shiftRight_eq_div_pow]
  simp
  omega
 rw [this]
 cases b <;> decide
theorem word_inj:∀ (l m:List Bool),l.length=m.length→l.length≤32→word l=word m→l=m
 | [],[],_,_,_=>rfl
 | b::l,c::m,hl,h,e=>by
  have h':l.length+1≤32:=h
  have hl':l.length+1=m.length+1:=hl
  have e':top b ^^^ (word l >>> 1)=top c ^^^ (word m >>> 1):=e
  have hb:b=c:=by
   have:=congrArg BitVec.msb e'
   rwa [top_msb,top_msb] at this
  subst hb
  have e2:word l >>> 1=word m >>> 1:=by
   have:top b ^^^ (top b ^^^ (word l >>> 1))=top b ^^^ (top b ^^^ (word m >>> 1)):=by rw [e']
   rwa [← BitVec.xor_assoc,← BitVec.xor_assoc,BitVec.xor_self,BitVec.zero_xor,BitVec.zero_xor] at this
  have even:∀ k:List Bool,k.length+1≤32→(word k).toNat%2=0:=by
   intro k hk
   have hw:=word_nat k oM
   have e:32-k.length=(31-k.length)+1:=by omega
   rw [e,Nat.pow_succ] at hw
   generalize 2^(31-k.length)=q at *
   obtain ⟨c,hc⟩:=Nat.dvd_of_mod_eq_zero hw
   rw [hc,show q*2*c=2*(q*c) by rw [Nat.mul_comm q 2,Nat.mul_assoc],Nat.mul_mod_right]
  have e3:word l=word m:=by
   have:=congrArg step e2
   rwa [step_half _ (even l h'),step_half _ (even m oM)] at this
  rw [word_inj l m oM oM e3]
theorem fed_burst (r:BitVec 32) (p u v s:List Bool) (hl:u.length=v.length) (hu:u.length≤32):fed r (p++u++s)=fed r (p++v++s)↔u=v:=by
 constructor
 ·intro h
  rw [fed_append,fed_append,fed_append,fed_append] at h
  have h1:=fed_inj s h
  rw [fed_word _ u hu,fed_word _ v oM,hl] at h1
  have h2:=steps_inj _ h1
  apply word_inj u v hl hu
  have:fed r p ^^^ (fed r p ^^^ word u)=fed r p ^^^ (fed r p ^^^ word v):=by rw [h2]
  rwa [← BitVec.xor_assoc,← BitVec.xor_assoc,BitVec.xor_self,BitVec.zero_xor,BitVec.zero_xor] at this
 ·rintro rfl; rfl
def bits8 (c:UInt8):List Bool:=[c.toBitVec.getLsbD 7,c.toBitVec.getLsbD 6,c.toBitVec.getLsbD 5,c.toBitVec.getLsbD 4,c.toBitVec.getLsbD 3,c.toBitVec.getLsbD 2,c.toBitVec.getLsbD 1,c.toBitVec.getLsbD 0]
def allBits (l:List UInt8):List Bool:=l.flatMap bits8
def high (c:UInt8):BitVec 32:=BitVec.ofNat 32 (c.toNat*16777216)
def one (r:BitVec 32) (c:UInt8):BitVec 32:=steps 8 (r ^^^ high c)
def reg (r:BitVec 32) (l:List UInt8):BitVec 32:=l.foldl one r
theorem word_bits8_all:∀ c:BitVec 8,word [c.getLsbD 7,c.getLsbD 6,c.getLsbD 5,c.getLsbD 4,c.getLsbD 3,c.getLsbD 2,c.getLsbD 1,c.getLsbD 0]=BitVec.ofNat 32 (c.toNat*16777216):=by decide +kernel
theorem word_bits8 (c:UInt8):word (bits8 c)=high c:=word_bits8_all c.toBitVec
theorem one_fed (r:BitVec 32) (c:UInt8):one r c=fed r (bits8 c):=by
 rw [fed_word r (bits8 c) (by simp [bits8]),word_bits8]
 rfl
theorem reg_fed:∀ (l:List UInt8) (r:BitVec 32),reg r l=fed r (allBits l)
 | [],_=>rfl
 | c::l,r=>by
  show reg (one r c) l=fed r (bits8 c++allBits l)
  rw [fed_append,← one_fed,reg_fed l]
theorem reg_append (r:BitVec 32) (l m:List UInt8):reg r (l++m)=reg (reg r l) m:=by simp [reg,List.foldl_append]
theorem bits8_inj_all:∀ c d:BitVec 8,[c.getLsbD 7,c.getLsbD 6,c.getLsbD 5,c.getLsbD 4,c.getLsbD 3,c.getLsbD 2,c.getLsbD 1,c.getLsbD 0]=[d.getLsbD 7,d.getLsbD 6,d.getLsbD 5,d.getLsbD 4,d.getLsbD 3,d.getLsbD 2,d.getLsbD 1,d.getLsbD 0]→c=d:=by
 intro c d h
 simp only [List.cons.injEq,and_true] at h
 obtain ⟨h7,h6,h5,h4,h3,h2,h1,h0⟩:=h
 apply BitVec.eq_of_getLsbD_eq
 intro i hi
 match i,hi with
 | 0,_=>exact h0
 | 1,_=>exact h1
 | 2,_=>exact h2
 | 3,_=>exact h3
 | 4,_=>exact h4
 | 5,_=>exact h5
 | 6,_=>exact h6
 | 7,_=>exact h7
theorem bits8_inj {c d:UInt8} (h:bits8 c=bits8 d):c=d:=UInt8.toBitVec_inj.1 (bits8_inj_all _ _ h)
theorem bits8_length (c:UInt8):(bits8 c).length=8:=rfl
theorem allBits_length:∀ l:List UInt8,(allBits l).length=8*l.length
 | []=>rfl
 | c::l=>by
  show (bits8 c++allBits l).length=8*(l.length+1)
  rw [List.length_append,allBits_length l,bits8_length]; omega
theorem allBits_inj:∀ {l m:List UInt8},l.length=m.length→allBits l=allBits m→l=m
 | [],[],_,_=>rfl
 | c::l,d::m,hl,h=>by
  have h':bits8 c++allBits l=bits8 d++allBits m:=h
  obtain ⟨h1,h2⟩:=List.append_inj h' (by rw [bits8_length,bits8_length])
  rw [bits8_inj h1,allBits_inj (by simpa using hl) h2]
theorem allBits_get:∀ (l:List UInt8) (p:Nat),p<8*l.length→(allBits l)[p]? = some ((l.getD (p/8) 0).toBitVec.getLsbD (7-p%8))
 | [],p,h=>by simp at h
 | c::l,p,h=>by
  show (bits8 c++allBits l)[p]? = _
  by_cases hp:p<8
  ·rw [List.getElem?_append_left (by rw [bits8_length]; exact hp)]
   match p,hp with
   | 0,_=>rfl
   | 1,_=>rfl
   | 2,_=>rfl
   | 3,_=>rfl
   | 4,_=>rfl
   | 5,_=>rfl
   | 6,_=>rfl
   | 7,_=>rfl
  ·rw [List.getElem?_append_right (by rw [bits8_length]; omega),bits8_length]
   have h':p<8*(l.length+1):=h
   rw [allBits_get l (p-8) oM]
   have e1:p/8=(p-8)/8+1:=by omega
   have e2:(p-8)%8=p%8:=by omega
   rw [e1,e2]
   rfl
theorem reg_burst (r:BitVec 32) (l m:List UInt8) (hl:l.length=m.length) (at_:Nat)
  (h:∀ p,p<at_∨at_+32≤p→(allBits l)[p]? = (allBits m)[p]?):reg r l=reg r m↔l=m:=by
 rw [reg_fed,reg_fed]
 have hb:(allBits l).length=(allBits m).length:=by rw [allBits_length,allBits_length,hl]
 have cut:∀ k:List Bool,k=k.take at_++(k.drop at_).take 32++k.drop (at_+32):=by
  intro k
  rw [List.append_assoc,← List.drop_drop,List.take_append_drop,List.take_append_drop]
 have e1:(allBits l).take at_=(allBits m).take at_:=by
  apply List.ext_getElem?
  intro i
  rw [List.getElem?_take,List.getElem?_take]
  by_cases hi:i<at_
  ·rw [if_pos hi,if_pos hi]; exact h i (.inl hi)
  ·rw [if_neg hi,if_neg hi]
 have e2:(allBits l).drop (at_+32)=(allBits m).drop (at_+32):=by
  apply List.ext_getElem?
  intro i
  rw [List.getElem?_drop,List.getElem?_drop]
  exact h _ (.inr oM)
 constructor
 ·intro hf
  apply allBits_inj hl
  rw [cut (allBits l),cut (allBits m),e1,e2] at hf
  rw [cut (allBits l),cut (allBits m),e1,e2]
  rw [(fed_burst r _ _ _ _ (by simp [hb]) (by simp; omega)).1 hf]
 ·rintro rfl; rfl
theorem one_xor (x y:BitVec 32) (c d:UInt8):one (x ^^^ y) (c ^^^ d)=one x c ^^^ one y d:=by
 have hh:high (c ^^^ d)=high c ^^^ high d:=by
  unfold high
  apply BitVec.eq_of_toNat_eq
  have e1:c.toNat*16777216=c.toNat <<< 24:=by rw [Nat.shiftLeft_eq]
  have e2:d.toNat*16777216=d.toNat <<< 24:=by rw [Nat.shiftLeft_eq]
  have e3:(c ^^^ d).toNat*16777216=(c ^^^ d).toNat <<< 24:=by rw [Nat.shiftLeft_eq]
  have b1:=c.toNat_lt
  have b2:=d.toNat_lt
  have b3:=(c ^^^ d).toNat_lt
  rw [BitVec.toNat_xor,BitVec.toNat_ofNat,BitVec.toNat_ofNat,BitVec.toNat_ofNat,Nat.mod_eq_of_lt oM,Nat.mod_eq_of_lt oM,Nat.mod_eq_of_lt oM,e1,e2,e3,UInt8.toNat_xor,Nat.shiftLeft_xor_distrib]
 unfold one
 rw [hh,← steps_xor]
 congr 1
 rw [BitVec.xor_assoc,BitVec.xor_assoc,← BitVec.xor_assoc y,BitVec.xor_comm y (high c),BitVec.xor_assoc (high c)]
theorem reg_xor:∀ (l m:List UInt8) (x y:BitVec 32),l.length=m.length→reg (x ^^^ y) (List.zipWith (· ^^^ ·) l m)=reg x l ^^^ reg y m
 | [],[],_,_,_=>rfl
 | c::l,d::m,x,y,h=>by
  show reg (one (x ^^^ y) (c ^^^ d)) (List.zipWith (· ^^^ ·) l m)=reg (one x c) l ^^^ reg (one y d) m
  rw [one_xor,reg_xor l m _ _ (by simpa using h)]
def more (s:BitVec 32) (l:List UInt8):BitVec 32 := ~~~ reg (~~~ s) l
def of (l:List UInt8):BitVec 32:=more 0#32 l
theorem more_append (s:BitVec 32) (l m:List UInt8):more s (l++m)=more (more s l) m:=by
 unfold more; rw [reg_append,BitVec.not_not]
theorem more_nil (s:BitVec 32):more s []=s:=by unfold more; show ~~~ ~~~ s=s; rw [BitVec.not_not]
theorem of_append (l m:List UInt8):of (l++m)=more (of l) m:=more_append _ _ _
theorem of_eq_iff (l m:List UInt8):of l=of m↔reg (~~~ 0#32) l=reg (~~~ 0#32) m:=by
 unfold of more
 constructor
 ·intro h
  have : ~~~ ~~~ reg (~~~ 0#32) l = ~~~ ~~~ reg (~~~ 0#32) m:=by rw [h]
  rwa [BitVec.not_not,BitVec.not_not] at this
 ·intro h; rw [h]
theorem of_mixes (a b c:List UInt8) (h1:a.length=b.length) (h2:a.length=c.length) :
  of (List.zipWith (· ^^^ ·) (List.zipWith (· ^^^ ·) a b) c)=of a ^^^ of b ^^^ of c:=by
 unfold of more
 have e:(~~~ 0#32:BitVec 32)=(~~~ 0#32 ^^^ ~~~ 0#32) ^^^ ~~~ 0#32:=by decide
 have nx:∀ x y z:BitVec 32,~~~ (x ^^^ y ^^^ z) = ~~~ x ^^^ ~~~ y ^^^ ~~~ z:=by
  intro x y z
  apply BitVec.eq_of_getLsbD_eq
  intro i hi
  simp [hi]
 conv=>lhs; rw [e]
 rw [reg_xor _ _ _ _ (by simp [← h1,← h2]),reg_xor _ _ _ _ h1]
 exact nx _ _ _
def tail4 (s:BitVec 32):List UInt8:=[UInt8.ofNat (s.toNat/16777216),UInt8.ofNat (s.toNat/65536),UInt8.ofNat (s.toNat/256),UInt8.ofNat s.toNat]
def sealB (l:List UInt8):List UInt8:=l++tail4 (of l)
def num4 (l:List UInt8):Nat:=l.foldl (fun n c=>(n*256+c.toNat)%4294967296) 0
theorem tail4_length (s:BitVec 32):(tail4 s).length=4:=rfl
theorem num4_tail4 (s:BitVec 32):num4 (tail4 s)=s.toNat:=by
 have h:s.toNat<4294967296:=s.isLt
 simp [num4,tail4,UInt8.toNat_ofNat']
 omega
theorem tail4_num4 (l:List UInt8) (h:l.length=4) (s:BitVec 32):num4 l=s.toNat↔l=tail4 s:=by
 constructor
 ·intro hn
  match l,h with
  | [a,b,c,d],_ =>
   have ha:=a.toNat_lt
   have hb:=b.toNat_lt
   have hc:=c.toNat_lt
   have hd:=d.toNat_lt
   simp [num4] at hn
   unfold tail4
   rw [← hn]
   simp only [List.cons.injEq,and_true]
   refine ⟨?_,?_,?_,?_⟩ <;> (apply UInt8.toNat_inj.1; rw [UInt8.toNat_ofNat']; omega)
 ·rintro rfl; exact num4_tail4 s
theorem word_get:∀ (l:List Bool) (i:Nat),i<32→(word l).getLsbD (31-i)=l.getD i false
 | [],i,_=>by simp [word]
 | b::l,0,_=>by
  show (top b ^^^ (word l >>> 1)).getLsbD 31=b
  have h:=top_msb b (word l)
  rwa [BitVec.msb_eq_getLsbD_last] at h
 | b::l,i+1,h=>by
  show (top b ^^^ (word l >>> 1)).getLsbD (31-(i+1))=l.getD i false
  rw [← word_get l i oM,BitVec.getLsbD_xor,BitVec.getLsbD_ushiftRight]
  have e:1+(31-(i+1))=31-i:=by omega
  have t:(top b).getLsbD (31-(i+1))=false:=by
   cases b
   ·simp [top]
   ·show (2147483648#32).getLsbD (31-(i+1))=false
    rw [show (2147483648#32)=BitVec.twoPow 32 31 by decide,BitVec.getLsbD_twoPow]
    simp
    omega
  rw [e,t,Bool.false_xor]
theorem byte_bit (n k j:Nat) (hj:j<8):(UInt8.ofNat (n/2^k)).toBitVec.getLsbD j=n.testBit (k+j):=by
 show (BitVec.ofNat 8 (n/2^k)).getLsbD j=_
 rw [BitVec.getLsbD_ofNat,Nat.testBit_div_two_pow]
 simp [hj,Nat.add_comm]
theorem word_tail4 (s:BitVec 32):word (allBits (tail4 s))=s:=by
 apply BitVec.eq_of_getLsbD_eq
 intro i hi
 have hw:=word_get (allBits (tail4 s)) (31-i) oM
 rw [show 31-(31-i)=i by omega] at hw
 rw [hw,List.getD_eq_getElem?_getD,allBits_get _ _ (by rw [tail4_length]; omega),Option.getD_some]
 have hq:(31-i)/8=0∨(31-i)/8=1∨(31-i)/8=2∨(31-i)/8=3:=by omega
 show _=s.toNat.testBit i
 rcases hq with q|q|q|q <;> rw [q]
 ·show (UInt8.ofNat (s.toNat/2^24)).toBitVec.getLsbD _=_
  rw [byte_bit _ _ _ oM]; congr 1; omega
 ·show (UInt8.ofNat (s.toNat/2^16)).toBitVec.getLsbD _=_
  rw [byte_bit _ _ _ oM]; congr 1; omega
 ·show (UInt8.ofNat (s.toNat/2^8)).toBitVec.getLsbD _=_
  rw [byte_bit _ _ _ oM]; congr 1; omega
 ·have:=byte_bit s.toNat 0 (7-(31-i)%8) oM
  rw [Nat.pow_zero,Nat.div_one] at this
  show (UInt8.ofNat s.toNat).toBitVec.getLsbD _=_
  rw [this]; congr 1; omega
theorem reg_four (r s:BitVec 32):reg r (tail4 s)=steps 32 (r ^^^ s):=by
 rw [reg_fed,fed_word _ _ (by rw [allBits_length]; simp [tail4]),allBits_length,tail4_length,word_tail4]
theorem four_of (l:List UInt8) (h:l.length=4):∃ s:BitVec 32,l=tail4 s:=by
 have hlt:num4 l<4294967296:=by
  match l,h with
  | [a,b,c,d],_=>simp [num4]; omega
 refine ⟨BitVec.ofNat 32 (num4 l),(tail4_num4 l h _).1 ?_⟩
 rw [BitVec.toNat_ofNat,Nat.mod_eq_of_lt hlt]
theorem xor_not {w:Nat} (r:BitVec w):r ^^^ ~~~ r=BitVec.allOnes w:=by
 apply BitVec.eq_of_getLsbD_eq
 intro i hi
 rw [BitVec.getLsbD_xor,BitVec.getLsbD_not,BitVec.getLsbD_allOnes]
 cases r.getLsbD i <;> simp [hi]
theorem sealed_iff (l t:List UInt8) (h:t.length=4):t=tail4 (of l)↔reg (~~~ 0#32) (l++t)=steps 32 (~~~ 0#32):=by
 obtain ⟨s,rfl⟩:=four_of t h
 rw [reg_append,reg_four]
 have hx:∀ r:BitVec 32,r ^^^ ~~~ r = ~~~ 0#32:=by
  intro r
  rw [show (~~~ 0#32:BitVec 32)=BitVec.allOnes 32 by decide]
  exact xor_not r
 constructor
 ·intro e
  have e2:s=of l:=by
   apply BitVec.eq_of_toNat_eq
   rw [← num4_tail4 s,e,num4_tail4]
  rw [e2]
  congr 1
  exact hx _
 ·intro e
  have e1:=steps_inj _ e
  have e2:s=of l:=by
   show s = ~~~ reg (~~~ 0#32) l
   have:reg (~~~ 0#32) l ^^^ (reg (~~~ 0#32) l ^^^ s)=reg (~~~ 0#32) l ^^^ (reg (~~~ 0#32) l ^^^ ~~~ reg (~~~ 0#32) l):=by rw [e1,hx]
   rwa [← BitVec.xor_assoc,← BitVec.xor_assoc,BitVec.xor_self,BitVec.zero_xor,BitVec.zero_xor] at this
  rw [e2]
theorem sealed_burst (b l t:List UInt8) (h:t.length=4) (hl:l.length=b.length) (at_:Nat)
  (hb:∀ p,p<at_∨at_+32≤p→(allBits (l++t))[p]? = (allBits (sealB b))[p]?):t=tail4 (of l)↔l++t=sealB b:=by
 have h0:=(sealed_iff b (tail4 (of b)) (tail4_length _)).1 rfl
 rw [sealed_iff l t h,← h0]
 exact reg_burst _ _ _ (by show _=(b++tail4 (of b)).length; simp [hl,h,tail4_length]) at_ hb
def flip1 (l:List UInt8) (p:Nat):List UInt8:=l.set (p/8) (l.getD (p/8) 0 ^^^ UInt8.ofNat (128/2^(p%8)))
def turnTo (l:List UInt8) (at_ row:Nat):Nat→List UInt8
 | 0=>l
 | k+1=>if at_+k<8*l.length∧row.testBit k then flip1 (turnTo l at_ row k) (at_+k) else turnTo l at_ row k
theorem flip1_length (l:List UInt8) (p:Nat):(flip1 l p).length=l.length:=by simp [flip1]
theorem turnTo_length (l:List UInt8) (at_ row:Nat):∀ k,(turnTo l at_ row k).length=l.length
 | 0=>rfl
 | k+1=>by
  unfold turnTo
  split
  ·rw [flip1_length,turnTo_length l at_ row k]
  ·exact turnTo_length l at_ row k
theorem mask_bit:∀ q j:Fin 8,(UInt8.ofNat (128/2^q.val)).toBitVec.getLsbD j.val=decide (q.val+j.val=7):=by decide +kernel
theorem flip1_get (l:List UInt8) (p q:Nat) (hne:q≠p):(allBits (flip1 l p))[q]? = (allBits l)[q]? := by
 by_cases hq:q<8*l.length
 ·rw [allBits_get _ q (by rw [flip1_length]; exact hq),allBits_get _ q hq]
  congr 1
  unfold flip1
  rw [List.getD_eq_getElem?_getD,List.getElem?_set]
  by_cases hc:p/8=q/8
  ·rw [if_pos hc,if_pos oM,Option.getD_some,hc]
   show (((l.getD (q/8) 0).toBitVec ^^^ (UInt8.ofNat (128/2^(p%8))).toBitVec).getLsbD _)=_
   rw [BitVec.getLsbD_xor,mask_bit ⟨p%8,by omega⟩ ⟨7-q%8,by omega⟩]
   have:¬ (p%8+(7-q%8)=7):=by omega
   simp [this]
  ·rw [if_neg hc,List.getD_eq_getElem?_getD]
 ·rw [List.getElem?_eq_none (by rw [allBits_length,flip1_length]; omega),List.getElem?_eq_none (by rw [allBits_length]; omega)]
theorem turnTo_get (l:List UInt8) (at_ row q:Nat):∀ k,k≤32→(q<at_∨at_+32≤q)→(allBits (turnTo l at_ row k))[q]? = (allBits l)[q]?
 | 0,_,_=>rfl
 | k+1,hk,h=>by
  unfold turnTo
  split
  ·rw [flip1_get _ _ _ oM,turnTo_get l at_ row q k oM h]
  ·exact turnTo_get l at_ row q k oM h
theorem turnTo_end (l:List UInt8) (at_ row:Nat) (k:Nat) (h:8*l.length≤at_+k):∀ j,turnTo l at_ row (k+j)=turnTo l at_ row k
 | 0=>rfl
 | j+1=>by
  show turnTo l at_ row (k+j+1)=_
  rw [turnTo,if_neg oM,turnTo_end l at_ row k h j]
theorem turned_of (l:List UInt8) (at_ row:Nat):of l=of (turnTo l at_ row 32)↔l=turnTo l at_ row 32:=by
 rw [of_eq_iff]
 exact reg_burst _ _ _ (turnTo_length _ _ _ _).symm at_ fun p hp=>(turnTo_get l at_ row p 32 oM hp).symm
end Go.Proofs.Ytkhdnlkdcikdmaa.Sm
namespace Go.Proofs.Ytkhdnlkdcikdmaa.Sm
open Go.RowKit
set_option maxHeartbeats 400000
theorem hid {p:Prop} (h:p):Hid p:=h
theorem xor_u32 (x y:Int):bits .xor .u32 x y=((BitVec.ofInt 32 x ^^^ BitVec.ofInt 32 y).toNat:Int):=by
 show IntKind.u32.wrap ((BitVec.ofInt 32 x ^^^ BitVec.ofInt 32 y).toNat:Int)=_
 have h:=(BitVec.ofInt 32 x ^^^ BitVec.ofInt 32 y).isLt
 rw [IntKind.wrap_u32']
 omega
theorem ofInt_toNat (s:BitVec 32):BitVec.ofInt 32 (s.toNat:Int)=s:=by
 rw [BitVec.ofInt_natCast]; simp
theorem xor_words (s t:BitVec 32):bits .xor .u32 (s.toNat:Int) (t.toNat:Int)=((s ^^^ t).toNat:Int):=by
 rw [xor_u32,ofInt_toNat,ofInt_toNat]
theorem not_word (s:BitVec 32):bits .xor .u32 4294967295 (s.toNat:Int)=((~~~ s).toNat:Int):=by
 rw [xor_u32,ofInt_toNat,show BitVec.ofInt 32 4294967295=BitVec.allOnes 32 by decide,BitVec.allOnes_xor]
theorem word_lt (s:BitVec 32):(0:Int)≤(s.toNat:Int)∧(s.toNat:Int)<4294967296:=by
 have:=s.isLt; omega
theorem word_of {x:Int} (h:(Lit.int .u32 x).wf=true):∃ s:BitVec 32,x=(s.toNat:Int):=by
 have hb:=bounds_u32 h
 refine ⟨BitVec.ofInt 32 x,?_⟩
 obtain ⟨n,rfl⟩:=Int.eq_ofNat_of_zero_le hb.1
 rw [BitVec.ofInt_natCast,BitVec.toNat_ofNat]; omega
theorem shl1 (s:BitVec 32):(s.toNat:Int)*(2:Int)%(4294967296:Int)=((s <<< 1).toNat:Int):=by
 rw [BitVec.toNat_shiftLeft,Nat.shiftLeft_eq]; omega
theorem step_yes {x:Int} {s:BitVec 32} (hx:x=(s.toNat:Int)) (h:(x/2147483648 == 1)=true):bits .xor .u32 (x*2%4294967296) 79764919=((step s).toNat:Int):=by
 subst hx
 have hl:=s.isLt
 have hm:s.msb=true:=by rw [BitVec.msb_eq_decide]; simp at h ⊢; omega
 unfold step
 rw [hm,if_pos rfl,shl1,show (79764919:Int)=(pol.toNat:Int) by decide,xor_words]
theorem step_no {x:Int} {s:BitVec 32} (hx:x=(s.toNat:Int)) (h:(x/2147483648 == 1)=false):x*2%4294967296=((step s).toNat:Int):=by
 subst hx
 have hl:=s.isLt
 have hm:s.msb=false:=by rw [BitVec.msb_eq_decide]; simp at h ⊢; omega
 unfold step
 rw [hm,shl1]
 rfl
theorem steps_succ (k:Nat) (s:BitVec 32):steps (k+1) s=step (steps k s):=steps_add k 1 s
theorem high_word (c:UInt8):(c.toNat:Int)*(16777216:Int)=((high c).toNat:Int):=by
 have:=c.toNat_lt
 unfold high
 rw [BitVec.toNat_ofNat]; omega
theorem ret_int {k:IntKind} {a b:Int} (h:a=b):Ending.returned (.int k a) = .returned (.int k b):=by rw [h]
theorem below_drewN {B:Nat} {v w:World} (h:Below B v w) (n:Nat):Below B v (w.drewN n):=⟨h.os,h.tape,h.output,h.size,h.block⟩
theorem below_from {w w':World} {n:Nat} (h:Below (w.drewN n).heap.size (w.drewN n) w'):Below w.heap.size w w':=⟨h.os,h.tape,h.output,h.size,h.block⟩
structure Row8 (w:World) (B:Nat) (a:Option Addr) (n c:Nat) (l:List UInt8):Prop where
 len:l.length=n
 room:n≤c
 cap:c≤maxLen
 none_:a=none→c=0
 cells:0<n→∃ b off,a=some ⟨b,off,none⟩∧b<B∧∀ i d,l[i]? = some d→w.cell? ⟨b,off+i,none⟩=some (.int .u8 (d.toNat:Int))
section
variable {w w':World} {B B' n c:Nat} {a:Option Addr} {l:List UInt8}
theorem Row8.nil:Row8 w B none 0 0 []:=⟨rfl,Nat.le_refl _,by unfold maxLen; omega,fun _=>rfl,fun h=>absurd h oM⟩
theorem Row8.at_ (h:Row8 w B a n c l) {k:Nat} (hk:k<n):∃ b off d,a=some ⟨b,off,none⟩∧b<B∧l[k]? = some d∧w.cell? ⟨b,off+k,none⟩=some (.int .u8 (d.toNat:Int)):=by
 obtain ⟨b,off,e,hb,hc⟩:=h.cells oM
 have hl:k<l.length:=by have:=h.len; omega
 exact ⟨b,off,l[k],e,hb,List.getElem?_eq_getElem hl,hc k _ (List.getElem?_eq_getElem hl)⟩
theorem Row8.keep (h:Row8 w B a n c l) (hk:∀ p:Addr,p.block<B→w'.cell? p=w.cell? p):Row8 w' B a n c l :=
 ⟨h.len,h.room,h.cap,h.none_,fun hn=>by
  obtain ⟨b,off,e,hb,hc⟩:=h.cells hn
  exact ⟨b,off,e,hb,fun i d hi=>(hk ⟨b,off+i,none⟩ hb).trans (hc i d hi)⟩⟩
theorem Row8.below (h:Row8 w B a n c l) (hb:Below B w w'):Row8 w' B a n c l:=h.keep fun _ hp=>hb.cell hp
theorem Row8.drewN (h:Row8 w B a n c l) (k:Nat):Row8 (w.drewN k) B a n c l:=h.keep fun _ _=>rfl
theorem Row8.drew (h:Row8 w B a n c l):Row8 w.drew B a n c l:=h.keep fun _ _=>rfl
theorem Row8.more (h:Row8 w B a n c l) (hB:B≤B'):Row8 w B' a n c l :=
 ⟨h.len,h.room,h.cap,h.none_,fun hn=>by
  obtain ⟨b,off,e,hb,hc⟩:=h.cells hn
  exact ⟨b,off,e,by omega,hc⟩⟩
theorem Row8.later (h:Row8 w w.heap.size a n c l) (hb:Below w.heap.size w w'):Row8 w' w'.heap.size a n c l:=(h.below hb).more hb.size
theorem Row8.take (h:Row8 w B a n c l) {k:Nat} (hk:k≤n):Row8 w B a k c (l.take k):=by
 refine ⟨by rw [List.length_take,h.len]; omega,by have:=h.room; omega,h.cap,h.none_,fun hn => ?_⟩
 obtain ⟨b,off,e,hb,hc⟩:=h.cells oM
 refine ⟨b,off,e,hb,fun i d hi=>hc i d ?_⟩
 rw [List.getElem?_take] at hi
 split at hi
 ·exact hi
 ·cases hi
theorem Row8.drop {b off:Nat} (h:Row8 w B (some ⟨b,off,none⟩) n c l) {k:Nat} (hk:k<n):Row8 w B (some ⟨b,off+k,none⟩) (n-k) (c-k) (l.drop k):=by
 refine ⟨by rw [List.length_drop,h.len],by have:=h.room; omega,by have:=h.cap; omega,(fun e=>by cases e),fun hn => ?_⟩
 obtain ⟨b',off',e,hb,hc⟩:=h.cells oM
 injection e with e
 injection e with e1 e2
 subst e1 e2
 refine ⟨_,_,rfl,hb,fun i d hi => ?_⟩
 rw [List.getElem?_drop] at hi
 rw [Nat.add_assoc]
 exact hc _ d hi
end
def cells8 (l:List UInt8):List Value:=l.map fun c => .int .u8 (c.toNat:Int)
theorem cells8_length (l:List UInt8):(cells8 l).length=l.length:=by simp [cells8]
theorem cells8_append (l m:List UInt8):cells8 (l++m)=cells8 l++cells8 m:=by simp [cells8]
theorem cells8_one (l:List UInt8):∀ u ∈ cells8 l,u.oneCell'=true:=by
 intro u hu
 simp only [cells8,List.mem_map] at hu
 obtain ⟨c,_,rfl⟩:=hu
 rfl
theorem cells8_get (l:List UInt8) (i:Nat):(cells8 l)[i]? = (l[i]?).map fun c => .int .u8 (c.toNat:Int):=by simp [cells8]
theorem Row8.own {w:World} {base:Nat} {e:TypeId} {a:Option Addr} {n c:Nat} {l:List UInt8} (h:w.ownsRow base e 1 (.slice a n c) n (cells8 l)):Row8 w w.heap.size a n c l:=by
 have hlen:l.length=n:=by have:=h.1; rw [cells8_length] at this; omega
 rcases h.2 with ⟨hv,h0⟩|⟨g,cap,cur,hv,hg,hh,hnc,hcm,_,_⟩
 ·injection hv with h1 h2 h3
  subst h1 h3
  subst h0
  rw [List.eq_nil_of_length_eq_zero hlen]
  exact Row8.nil
 ·injection hv with h1 h2 h3
  subst h1 h3
  refine ⟨hlen,hnc,hcm,(fun e=>by cases e),fun hn=>⟨g,0,rfl,?_,fun i d hi => ?_⟩⟩
  ·exact (h.lt g rfl).2
  ·have hc:=h.cells (g:=g) rfl i (.int .u8 (d.toNat:Int)) (by rw [cells8_get,hi]; rfl)
   by_cases h0:i=0
   ·subst h0; simpa [Addr.add] using hc
   ·simpa [Addr.add,h0] using hc
theorem Row8.news {w:World} {B:Nat} {a:Addr} {n c:Nat} {l:List UInt8} (h:Row8 w B (some a) n c l):∀ j u,(cells8 l)[j]? = some u→w.cell? (a.add j)=some u:=by
 intro j u hj
 rw [cells8_get] at hj
 cases hl:l[j]? with
 | none=>rw [hl] at hj; cases hj
 | some d =>
  rw [hl] at hj
  simp at hj
  subst hj
  have hlt:j<l.length:=by
   rcases Nat.lt_or_ge j l.length with h'|h'
   ·exact h'
   ·rw [List.getElem?_eq_none h'] at hl; cases hl
  obtain ⟨b,off,e,_,hc⟩:=h.cells (by have:=h.len; omega)
  injection e with e
  subst e
  have:=hc j d hl
  by_cases h0:j=0
  ·subst h0; simpa [Addr.add] using this
  ·simpa [Addr.add,h0] using this
theorem Row8.of_row {w:World} {a:Option Addr} {len cap:Nat} {zs:List Int}
  (h:(a=none∧len=0∧cap=0∧zs=[])∨∃ x,a=some x∧len≤cap∧cap≤maxLen∧zs.length=cap∧(∀ i,i<zs.length→w.cell? (x.add i)=some (.int .u8 (zs.getD i 0)))∧∀ n ∈ zs,(Lit.int .u8 n).wf=true) :
  ∃ l,Row8 w w.heap.size a len cap l:=by
 rcases h with ⟨rfl,rfl,rfl,rfl⟩|⟨x,rfl,hl,hm,hz,hc,hw⟩
 ·exact ⟨[],Row8.nil⟩
 ·refine ⟨(zs.take len).map fun n=>UInt8.ofNat n.toNat,⟨by simp; omega,hl,hm,(fun e=>by cases e),fun hn => ?_⟩⟩
  obtain ⟨b,off,spot⟩:=x
  have h0:=hc 0 oM
  have hspot:spot=none:=by simpa [Addr.add] using World.cell?_spot h0
  subst hspot
  have hb:b<w.heap.size:=by
   have:=block_lt_of_cell h0
   simpa [Addr.add] using this
  refine ⟨b,off,rfl,hb,fun i d hi => ?_⟩
  rw [List.getElem?_map,List.getElem?_take] at hi
  split at hi
  ·rename_i hlt
   have hiz:i<zs.length:=by omega
   rw [List.getElem?_eq_getElem hiz] at hi
   simp at hi
   subst hi
   have h1:=hc i hiz
   have hwf:=hw zs[i] (List.getElem_mem hiz)
   have hbd:=bounds_u8 hwf
   have e1:zs.getD i 0=zs[i]:=by rw [List.getD_eq_getElem?_getD,List.getElem?_eq_getElem hiz]; rfl
   rw [e1] at h1
   have e2:((UInt8.ofNat zs[i].toNat).toNat:Int)=zs[i]:=by rw [UInt8.toNat_ofNat']; omega
   rw [e2]
   by_cases hi0:i=0
   ·subst hi0; simpa [Addr.add] using h1
   ·simpa [Addr.add,hi0] using h1
  ·cases hi
def Made (w:World) (E:TypeId) (l:List UInt8) (v:Value) (w':World):Prop :=
 w'.ownsRow w.heap.size E 1 v l.length (cells8 l)∧Below w.heap.size w w'
theorem Made.slice {w w':World} {E:TypeId} {l:List UInt8} {v:Value} (h:Made w E l v w'):∃ a c,v = .slice a l.length c∧Row8 w' w'.heap.size a l.length c l∧Below w.heap.size w w':=by
 rcases h.1.2 with ⟨hv,h0⟩|⟨g,cap,cur,hv,_⟩
 ·refine ⟨none,0,by rw [hv,h0],?_,h.2⟩
  have:=h.1
  rw [hv] at this
  have e:l.length=0:=h0
  rw [e] at this ⊢
  exact Row8.own this
 ·have:=h.1
  rw [hv] at this
  exact ⟨_,_,hv,Row8.own this,h.2⟩
theorem below_dr {w w':World} (h:Below w.drew.heap.size w.drew w'):Below w.heap.size w w':=⟨h.os,h.tape,h.output,h.size,h.block⟩
theorem owns_mono {w:World} {base base':Nat} {e:TypeId} {size:Nat} {v:Value} {n:Nat} {xs:List Value} (h:w.ownsRow base e size v n xs) (hb:base'≤base):w.ownsRow base' e size v n xs:=by
 refine ⟨h.1,?_⟩
 rcases h.2 with h2|⟨g,cap,cur,hv,hg,r⟩
 ·exact Or.inl h2
 ·exact Or.inr ⟨g,cap,cur,hv,by omega,r⟩
theorem made_later {w w1 w2:World} {E:TypeId} {l:List UInt8} {v:Value} (hb:Below w.heap.size w w1) (h:Made w1 E l v w2):Made w E l v w2 :=
 ⟨owns_mono h.1 hb.size,hb.trans (h.2.mono hb.size)⟩
def RetMade (w:World) (E:TypeId) (l:List UInt8) (e:Ending) (w':World):Prop:=∃ v,e = .returned v∧Made w E l v w'
def str (l:List UInt8):ByteArray:=⟨l.toArray⟩
theorem str_eq (l m:List UInt8):((str l).toList == (str m).toList)=decide (l=m):=by
 have e:∀ k:List UInt8,(str k).toList=k:=by intro k; simp [str,ByteArray.toList_eq]
 rw [e,e]
 by_cases h:l=m <;> simp [h]
theorem conv_str {P:Program} {w:World} {B:Nat} {a:Option Addr} {n c:Nat} {l:List UInt8} (h:Row8 w B a n c l) {src dst e:TypeId}
  (hs:P.underlying src=some (.slice e)) (he:P.underlying e=some (.int .u8)) (hd:P.underlying dst=some .string) :
  (convert src dst (.slice a n c)).run P w = .ok (.string (str l)) w:=by
 rcases Nat.eq_zero_or_pos n with rfl|hn
 ·have hl:l=[]:=List.eq_nil_of_length_eq_zero h.len
  subst hl
  cases a with
  | none=>exact run_convert_bytes_nil w src e hs he _ _ dst hd
  | some x =>
   rw [run_convert_bytes_string w src dst e _ _ _ hs he hd,run_bytesToString w x 0 c [] (by simpa using run_loadCells_list (P:=P) w x [] (by simp))]
   rfl
 ·obtain ⟨b,off,rfl,_,hc⟩:=h.cells hn
  have hl:=h.len
  rw [run_convert_bytes_arg w src e hs he b off n c (l.map fun d=>(d.toNat:Int)) (by simpa using hl) (fun i hi=>by
   have hil:i<l.length:=by omega
   rw [hc i l[i] (List.getElem?_eq_getElem hil)]
   simp [List.getElem?_eq_getElem hil]) dst hd]
  congr 2
  unfold strOfNums str
  congr 1
  rw [List.map_map]
  refine congrArg List.toArray (Eq.trans (List.map_congr_left fun d _ => ?_) (List.map_id l))
  simp
end Go.Proofs.Ytkhdnlkdcikdmaa.Sm
namespace Go.Proofs.Ytkhdnlkdcikdmaa.Sm
open Go.RowKit
set_option maxHeartbeats 400000
def Stop (p:Prop):Prop:=p
theorem stop {p:Prop} (h:Stop p):p:=h
theorem wpList_append_row {P:Program} (w:World) {ops:Array Oper} {rest:List Oper} {o:Oper} {a:Act} {Q:Exit→Act→World→Prop} (hgd:o.guard=none) (s x:Operand) (t:TypeId)
  (ho:o.op = .call { callee := .builtin .append,args := #[s,x],argTypes := #[t,t] })
  (base:Nat) (e:TypeId) (i:TypeInfo) (z:Value) (ht:P.underlying t=some (.slice e)) (hi:P.info? e=some i) (hz:i.zero=some z) (hsize:i.size=1) (hby:i.bytes=1) (hzs:z.cells.size=1)
  (v:Value) (l:List UInt8) (hs:a.eval s=v) (hown:w.ownsRow base e 1 v l.length (cells8 l))
  (B:Nat) (A:Option Addr) (m c:Nat) (k:List UInt8) (hx:a.eval x = .slice A m c) (hr:Row8 w B A m c k) (hbytes:l.length+m≤140737488355328) (hbase:base≤w.heap.size)
  (h:∀ v' w',w'.ownsRow base e 1 v' (l++k).length (cells8 (l++k))→w.grownBy w' v.ownBlock→(∀ g,v.ownBlock=some g→base≤g)→wpList P ops Q rest (a.put o.dst v') w'):wpList P ops Q (o::rest) a w:=by
 have hlt:∀ g,v.ownBlock=some g→base≤g:=fun g hg=>(hown.lt g hg).1
 cases A with
 | none =>
  have hc0:=hr.none_ rfl
  have hm0:m=0:=by have:=hr.room; omega
  subst hc0 hm0
  have hk:k=[]:=List.eq_nil_of_length_eq_zero hr.len
  subst hk
  refine wpList_append_own_none hgd s x t ho base e i 1 ht hi v _ _ hs hown hx ?_
  exact h v w (by simpa using hown) (World.grownBy.refl w _) hlt
 | some ad =>
  refine wpList_append_own w hgd s x t ho base e i z 1 1 ht hi hz hsize hby hzs (by decide) v _ _ hs hown ad m c (cells8 k) hx (by rw [cells8_length,hr.len]; omega) hr.news (cells8_one k)
   (by unfold maxLen; omega) oM hbase ?_
  intro v' w' h1 h2 _
  have hl:l.length+m=(l++k).length:=by rw [List.length_append,hr.len]
  rw [hl,← cells8_append] at h1
  exact h v' w' h1 h2 hlt
theorem Row8.lit (w:World) (E:TypeId) (cs:Array Value) {fr:Nat×Nat} (l:List UInt8) (n:Nat) (hn:l.length=n) (hm:n≤maxLen) (hc:cs.toList=cells8 l) :
  Row8 (w.alloc (.cells cs E fr)) (w.heap.size+1) (some ⟨w.heap.size,0,none⟩) n n l:=by
 refine ⟨hn,Nat.le_refl _,hm,(fun e=>by cases e),fun _=>⟨_,0,rfl,by omega,fun i d hi => ?_⟩⟩
 rw [cell_of_row _ w.heap.size (0+i) cs E fr (heap_alloc_new w _),Nat.zero_add,← Array.getElem?_toList,hc,cells8_get,hi]
 rfl
end Go.Proofs.Ytkhdnlkdcikdmaa.Sm
namespace Go.Proofs.Ytkhdnlkdcikdmaa.Sm
open Go.ChangeShapes Go.WideShapes Go.ChangeAt Go.RowKit
set_option maxHeartbeats 400000
theorem byte_info:(Try.prog.info? 5).map (fun i=>(i.zero,i.size,i.bytes))=some (some (.int .u8 0),1,1):=by kernel_rfl
end Go.Proofs.Ytkhdnlkdcikdmaa.Sm
namespace Go.Proofs.Ytkhdnlkdcikdmaa.Sm
open Go.RowKit
set_option maxHeartbeats 400000
def cutA (a:Option Addr) (c k:Nat):Option Addr:=if c=k then a else a.map (·.add k)
theorem Row8.cut {w:World} {B:Nat} {a:Option Addr} {n c:Nat} {l:List UInt8} (h:Row8 w B a n c l) {lo hi:Nat} (h1:lo≤hi) (h2:hi≤n):Row8 w B (cutA a c lo) (hi-lo) (c-lo) ((l.take hi).drop lo):=by
 have hr:=h.room
 have hl:=h.len
 refine ⟨by rw [List.length_drop,List.length_take]; omega,by omega,by have:=h.cap; omega,fun e => ?_,fun hp => ?_⟩
 ·have:a=none:=by
   unfold cutA at e
   split at e
   ·exact e
   ·simpa using e
  have:=h.none_ this
  omega
 ·obtain ⟨b,off,e,hb,hc⟩:=h.cells oM
  subst e
  refine ⟨b,off+lo,?_,hb,fun i d hi' => ?_⟩
  ·unfold cutA
   rw [if_neg oM]
   simp only [Option.map_some,Addr.add]
   by_cases h0:lo=0
   ·subst h0; simp
   ·simp [h0]
  ·rw [List.getElem?_drop,List.getElem?_take] at hi'
   split at hi'
   ·rw [Nat.add_assoc]
    exact hc _ d hi'
   ·cases hi'
section
variable {P:Program} {t e:TypeId} {i:TypeInfo} (ht:P.underlying t=some (.slice e)) (hi:P.info? e=some i) (hs:i.size=1) (w:World) (a:Option Addr) (n c lo h:Nat)
include ht hi hs
theorem run_cut_lh (h1:lo≤h) (h2:h≤c):(Instr.sliceAt t (.slice a n c) (some (.int .i64 (lo:Int))) (some (.int .i64 (h:Int))) none).run P w = .ok (.slice (cutA a c lo) (h-lo) (c-lo)) w:=by
 have he:P.elem t=e:=by unfold Program.elem; rw [ht]
 have ht':P.underlying t=some (.slice (P.elem t)):=by rw [he]; exact ht
 rw [run_sliceAt_slice (P:=P) (w:=w) t _ _ _ _ ht',run_slice_lh w t a n c ht' _ _ _ _ oM oM oM,he]
 simp [sizeOf,typeInfo,hi,hs,Result.andThen,sliced,cutA]
theorem run_cut_h (h2:h≤c):(Instr.sliceAt t (.slice a n c) none (some (.int .i64 (h:Int))) none).run P w = .ok (.slice (cutA a c 0) (h-0) (c-0)) w:=by
 have he:P.elem t=e:=by unfold Program.elem; rw [ht]
 have ht':P.underlying t=some (.slice (P.elem t)):=by rw [he]; exact ht
 rw [run_sliceAt_slice (P:=P) (w:=w) t _ _ _ _ ht',run_slice_h w t a n c ht' _ _ oM oM,he]
 simp [sizeOf,typeInfo,hi,hs,Result.andThen,sliced,cutA]
theorem run_cut_l (h2:lo≤n):(Instr.sliceAt t (.slice a n c) (some (.int .i64 (lo:Int))) none none).run P w = .ok (.slice (cutA a c lo) (n-lo) (c-lo)) w:=by
 have he:P.elem t=e:=by unfold Program.elem; rw [ht]
 have ht':P.underlying t=some (.slice (P.elem t)):=by rw [he]; exact ht
 rw [run_sliceAt_slice (P:=P) (w:=w) t _ _ _ _ ht',run_slice_l w t a n c ht' _ _ oM oM,he]
 simp [sizeOf,typeInfo,hi,hs,Result.andThen,sliced,cutA]
end
structure Beside (g:Nat) (w w':World):Prop where
 os:w'.os=w.os
 tape:w'.tape=w.tape
 output:w'.output=w.output
 size:w.heap.size≤w'.heap.size
 block:∀ k,k<w.heap.size→k≠g→w'.heap[k]? = w.heap[k]?
theorem Beside.refl (g:Nat) (w:World):Beside g w w:=⟨rfl,rfl,rfl,Nat.le_refl _,fun _ _ _=>rfl⟩
theorem Beside.trans {g:Nat} {a b c:World} (h:Beside g a b) (k:Beside g b c):Beside g a c :=
 ⟨k.os.trans h.os,k.tape.trans h.tape,k.output.trans h.output,Nat.le_trans h.size k.size,fun i hi hg=>(k.block i (Nat.lt_of_lt_of_le hi h.size) hg).trans (h.block i hi hg)⟩
theorem Beside.of_below {g:Nat} {w w':World} (h:Below w.heap.size w w'):Beside g w w':=⟨h.os,h.tape,h.output,h.size,fun k hk _=>h.block k hk⟩
theorem Beside.below {g B:Nat} {w w':World} (h:Beside g w w') (hB:B≤g) (hs:B≤w.heap.size):Below B w w':=⟨h.os,h.tape,h.output,h.size,fun k hk=>h.block k oM oM⟩
theorem Beside.setCell {g:Nat} {a w:World} (h:Beside g a w) (j:Nat) (u:Value):Beside g a (w.setCell ⟨g,j,none⟩ u) :=
 ⟨h.os,h.tape,h.output,by simpa using h.size,fun k hk hg=>(Below.heap_setCell w ⟨g,j,none⟩ u k hg).trans (h.block k hk hg)⟩
theorem Beside.drewN {g:Nat} {a w:World} (h:Beside g a w) (n:Nat):Beside g a (w.drewN n):=⟨h.os,h.tape,h.output,h.size,h.block⟩
theorem owns_slice {w:World} {base:Nat} {E:TypeId} {v:Value} {l:List UInt8} (h:w.ownsRow base E 1 v l.length (cells8 l)):∃ a c,v = .slice a l.length c∧Row8 w w.heap.size a l.length c l:=by
 rcases h.2 with ⟨hv,h0⟩|⟨g,cap,cur,hv,_⟩
 ·refine ⟨none,0,by rw [hv,h0],?_⟩
  rw [hv] at h
  rw [h0] at h ⊢
  exact Row8.own h
 ·rw [hv] at h
  exact ⟨_,_,hv,Row8.own h⟩
theorem owns_beside {w u:World} {base g:Nat} {e:TypeId} {size:Nat} {v:Value} {n:Nat} {xs:List Value} (h:w.ownsRow base e size v n xs) (hb:Beside g w u) (hg:g<base):u.ownsRow base e size v n xs:=by
 refine ⟨h.1,?_⟩
 rcases h.2 with h2|⟨k,cap,cur,hv,hk,hh,r⟩
 ·exact Or.inl h2
 ·exact Or.inr ⟨k,cap,cur,hv,hk,(hb.block k (Array.getElem?_eq_some_iff.1 hh).1 oM).trans hh,r⟩
end Go.Proofs.Ytkhdnlkdcikdmaa.Sm
namespace Go.Proofs.Ytkhdnlkdcikdmaa.Sm
open Go.RowKit Go.ChangeShapes Go.WideShapes
set_option maxHeartbeats 400000
structure RowC (w:World) (B:Nat) (a:Option Addr) (n c z:Nat) (vs:List Value):Prop where
 len:vs.length=n*z
 room:n≤c
 cap:c≤maxLen
 none_:a=none→c=0
 cells:0<n→∃ b off,a=some ⟨b,off,none⟩∧b<B∧∀ i v,vs[i]? = some v→w.cell? ⟨b,off+i,none⟩=some v
section
variable {w w':World} {B B' n c z:Nat} {a:Option Addr} {vs:List Value}
theorem RowC.nil:RowC w B none 0 0 z []:=⟨by simp,Nat.le_refl _,by unfold maxLen; omega,fun _=>rfl,fun h=>absurd h oM⟩
theorem RowC.keep (h:RowC w B a n c z vs) (hk:∀ p:Addr,p.block<B→w'.cell? p=w.cell? p):RowC w' B a n c z vs :=
 ⟨h.len,h.room,h.cap,h.none_,fun hn=>by
  obtain ⟨b,off,e,hb,hc⟩:=h.cells hn
  exact ⟨b,off,e,hb,fun i d hi=>(hk ⟨b,off+i,none⟩ hb).trans (hc i d hi)⟩⟩
theorem RowC.below (h:RowC w B a n c z vs) (hb:Below B w w'):RowC w' B a n c z vs:=h.keep fun _ hp=>hb.cell hp
theorem RowC.drewN (h:RowC w B a n c z vs) (k:Nat):RowC (w.drewN k) B a n c z vs:=h.keep fun _ _=>rfl
theorem RowC.drew (h:RowC w B a n c z vs):RowC w.drew B a n c z vs:=h.keep fun _ _=>rfl
theorem RowC.more (h:RowC w B a n c z vs) (hB:B≤B'):RowC w B' a n c z vs :=
 ⟨h.len,h.room,h.cap,h.none_,fun hn=>by
  obtain ⟨b,off,e,hb,hc⟩:=h.cells hn
  exact ⟨b,off,e,by omega,hc⟩⟩
theorem RowC.later (h:RowC w w.heap.size a n c z vs) (hb:Below w.heap.size w w'):RowC w' w'.heap.size a n c z vs:=(h.below hb).more hb.size
theorem RowC.small (h:RowC w B a n c z vs):n≤9223372036854775807:=by have h1:=h.room; have h2:=h.cap; unfold maxLen at h2; omega
theorem RowC.at_ (h:RowC w B a n c z vs) {k:Nat} (hk:k<n):∃ b off,a=some ⟨b,off,none⟩∧b<B∧∀ j v,vs[k*z+j]? = some v→w.cell? ⟨b,off+k*z+j,none⟩=some v:=by
 obtain ⟨b,off,e,hb,hc⟩:=h.cells oM
 refine ⟨b,off,e,hb,fun j v hv => ?_⟩
 rw [Nat.add_assoc]
 exact hc _ v hv
end
theorem RowC.own {w:World} {base:Nat} {e:TypeId} {a:Option Addr} {n c z:Nat} {vs:List Value} (h:w.ownsRow base e z (.slice a n c) n vs):RowC w w.heap.size a n c z vs:=by
 have hlen:vs.length=n*z:=h.1
 rcases h.2 with ⟨hv,h0⟩|⟨g,cap,cur,hv,hg,hh,hnc,hcm,_,_⟩
 ·injection hv with h1 h2 h3
  subst h1 h3
  subst h0
  have hnil:vs=[]:=List.eq_nil_of_length_eq_zero oM
  rw [hnil]
  exact RowC.nil
 ·injection hv with h1 h2 h3
  subst h1 h3
  refine ⟨hlen,hnc,hcm,(fun e=>by cases e),fun hn=>⟨g,0,rfl,?_,fun i d hi => ?_⟩⟩
  ·exact (h.lt g rfl).2
  ·have hc:=h.cells (g:=g) rfl i d hi
   by_cases h0:i=0
   ·subst h0; simpa [Addr.add] using hc
   ·simpa [Addr.add,h0] using hc
theorem owns_form {w:World} {base:Nat} {e:TypeId} {v:Value} {n z:Nat} {vs:List Value} (h:w.ownsRow base e z v n vs):∃ a c,v = .slice a n c∧RowC w w.heap.size a n c z vs:=by
 rcases h.2 with ⟨hv,h0⟩|⟨g,cap,cur,hv,_⟩
 ·refine ⟨none,0,by rw [hv,h0],?_⟩
  rw [hv] at h
  rw [h0] at h ⊢
  exact RowC.own h
 ·rw [hv] at h
  exact ⟨_,_,hv,RowC.own h⟩
theorem RowC.news {w:World} {B:Nat} {a:Addr} {n c z:Nat} {vs:List Value} (h:RowC w B (some a) n c z vs):∀ j u,vs[j]? = some u→w.cell? (a.add j)=some u:=by
 intro j u hj
 have hlt:j<vs.length:=by
  rcases Nat.lt_or_ge j vs.length with h'|h'
  ·exact h'
  ·rw [List.getElem?_eq_none h'] at hj; cases hj
 have hn:0<n:=by
  rcases Nat.eq_zero_or_pos n with h0|h0
  ·have:=h.len; rw [h0] at this; omega
  ·exact h0
 obtain ⟨b,off,e,_,hc⟩:=h.cells hn
 injection e with e
 subst e
 have:=hc j u hj
 by_cases h0:j=0
 ·subst h0; simpa [Addr.add] using this
 ·simpa [Addr.add,h0] using this
theorem wpList_append_rows {P:Program} (w:World) {ops:Array Oper} {rest:List Oper} {o:Oper} {a:Act} {Q:Exit→Act→World→Prop} (hgd:o.guard=none) (s x:Operand) (t:TypeId)
  (ho:o.op = .call { callee := .builtin .append,args := #[s,x],argTypes := #[t,t] })
  (base:Nat) (e:TypeId) (i:TypeInfo) (zv:Value) (z bytes:Nat) (ht:P.underlying t=some (.slice e)) (hi:P.info? e=some i) (hz:i.zero=some zv) (hsize:i.size=z) (hby:i.bytes=bytes) (hzs:zv.cells.size=z) (hz0:0<z)
  (v:Value) (n:Nat) (vs:List Value) (hs:a.eval s=v) (hown:w.ownsRow base e z v n vs)
  (B:Nat) (A:Option Addr) (m c:Nat) (us:List Value) (hx:a.eval x = .slice A m c) (hr:RowC w B A m c z us) (hone:∀ u ∈ us,u.oneCell'=true) (hlen:n+m≤maxLen) (hbytes:(n+m)*bytes≤140737488355328) (hbase:base≤w.heap.size)
  (h:∀ v' w',w'.ownsRow base e z v' (n+m) (vs++us)→w.grownBy w' v.ownBlock→(∀ g,v.ownBlock=some g→base≤g)→wpList P ops Q rest (a.put o.dst v') w'):wpList P ops Q (o::rest) a w:=by
 have hlt:∀ g,v.ownBlock=some g→base≤g:=fun g hg=>(hown.lt g hg).1
 cases A with
 | none =>
  have hc0:=hr.none_ rfl
  have hm0:m=0:=by have:=hr.room; omega
  subst hc0 hm0
  have hk:us=[]:=List.eq_nil_of_length_eq_zero (by have:=hr.len; omega)
  subst hk
  refine wpList_append_own_none hgd s x t ho base e i z ht hi v _ _ hs hown hx ?_
  exact h v w (by simpa using hown) (World.grownBy.refl w _) hlt
 | some ad =>
  refine wpList_append_own w hgd s x t ho base e i zv z bytes ht hi hz hsize hby hzs hz0 v _ _ hs hown ad m c us hx hr.len hr.news hone hlen hbytes hbase ?_
  intro v' w' h1 h2 _
  exact h v' w' h1 h2 hlt
theorem RowC.lit (w:World) (E:TypeId) (cs:Array Value) {fr:Nat×Nat} (n z:Nat) (hn:cs.size=n*z) (hm:n≤maxLen) :
  RowC (w.alloc (.cells cs E fr)) (w.heap.size+1) (some ⟨w.heap.size,0,none⟩) n n z cs.toList:=by
 refine ⟨by simpa using hn,Nat.le_refl _,hm,(fun e=>by cases e),fun _=>⟨_,0,rfl,by omega,fun i d hi => ?_⟩⟩
 rw [cell_of_row _ w.heap.size (0+i) cs E fr (heap_alloc_new w _),Nat.zero_add,← Array.getElem?_toList,hi]
def cellsI (l:List Int):List Value:=l.map fun d => .int .i64 d
theorem cellsI_get (l:List Int) (i:Nat):(cellsI l)[i]? = (l[i]?).map fun d => .int .i64 d:=by simp [cellsI]
theorem cellsI_length (l:List Int):(cellsI l).length=l.length:=by simp [cellsI]
theorem cellsI_append (l m:List Int):cellsI (l++m)=cellsI l++cellsI m:=by simp [cellsI]
theorem cellsI_one (l:List Int):∀ u ∈ cellsI l,u.oneCell'=true:=by
 intro u hu
 simp only [cellsI,List.mem_map] at hu
 obtain ⟨c,_,rfl⟩:=hu
 rfl
structure RowI (w:World) (B:Nat) (a:Option Addr) (n c:Nat) (l:List Int):Prop where
 row:RowC w B a n c 1 (cellsI l)
 wf:∀ d ∈ l, -9223372036854775808≤d∧d≤9223372036854775807
section
variable {w w':World} {B B' n c:Nat} {a:Option Addr} {l:List Int}
theorem RowI.nil:RowI w B none 0 0 []:=⟨RowC.nil,by simp⟩
theorem RowI.len (h:RowI w B a n c l):l.length=n:=by have:=h.row.len; rw [cellsI_length] at this; omega
theorem RowI.below (h:RowI w B a n c l) (hb:Below B w w'):RowI w' B a n c l:=⟨h.row.below hb,h.wf⟩
theorem RowI.drewN (h:RowI w B a n c l) (k:Nat):RowI (w.drewN k) B a n c l:=⟨h.row.drewN k,h.wf⟩
theorem RowI.drew (h:RowI w B a n c l):RowI w.drew B a n c l:=⟨h.row.drew,h.wf⟩
theorem RowI.more (h:RowI w B a n c l) (hB:B≤B'):RowI w B' a n c l:=⟨h.row.more hB,h.wf⟩
theorem RowI.later (h:RowI w w.heap.size a n c l) (hb:Below w.heap.size w w'):RowI w' w'.heap.size a n c l:=⟨h.row.later hb,h.wf⟩
theorem RowI.at_ (h:RowI w B a n c l) {k:Nat} (hk:k<n):∃ b off d,a=some ⟨b,off,none⟩∧b<B∧l[k]? = some d∧w.cell? ⟨b,off+k,none⟩=some (.int .i64 d) ∧ -9223372036854775808≤d∧d≤9223372036854775807:=by
 obtain ⟨b,off,e,hb,hc⟩:=h.row.cells oM
 have hl:k<l.length:=by have:=h.len; omega
 have hg:=List.getElem?_eq_getElem hl
 have hw:=h.wf l[k] (List.getElem_mem hl)
 exact ⟨b,off,l[k],e,hb,hg,hc k _ (by rw [cellsI_get,hg]; rfl),hw.1,hw.2⟩
end
theorem RowI.of_trod {H:Type} {enc:TypeId×Value→H} {P:Program} {W:World} {t e:TypeId} {fuel:Nat} {u:Value} {y:DataW H×List MemPlace} (ht:P.underlying t=some (.slice e)) (he:P.underlying e=some (.int .i64)) (hc:P.cellsOf e=1)
  (h:DataW.trod enc P W 0 (fun _=>true) true fuel t [u]=some y):∃ a n c l,u = .slice a n c∧RowI W W.heap.size a n c l:=by
 rcases open_ints ht he hc h with ⟨hcs,_⟩|⟨x,n,c,zs,hcs,_,hl,hm,hz,_,hcell,hwz⟩
 ·injection hcs with hcs
  exact ⟨none,0,0,[],hcs,RowI.nil⟩
 ·injection hcs with hcs
  refine ⟨some x,n,c,zs.take n,hcs,?_⟩
  have hz':zs.length=c:=by simpa using hz
  have hlen:(zs.take n).length=n:=by rw [List.length_take]; omega
  refine ⟨⟨by rw [cellsI_length,hlen]; omega,hl,hm,(fun e=>by cases e),fun hn => ?_⟩,fun d hd => ?_⟩
  ·obtain ⟨b,off,spot⟩:=x
   have h0:=hcell 0 oM
   have hspot:spot=none:=by simpa [Addr.add] using World.cell?_spot h0
   subst hspot
   have hb:b<W.heap.size:=by
    have:=block_lt_of_cell h0
    simpa [Addr.add] using this
   refine ⟨b,off,rfl,hb,fun i v hi => ?_⟩
   rw [cellsI_get,List.getElem?_take] at hi
   split at hi
   ·have hiz:i<zs.length:=by omega
    rw [List.getElem?_eq_getElem hiz] at hi
    simp at hi
    subst hi
    have h1:=hcell i hiz
    have e1:zs.getD i 0=zs[i]:=by rw [List.getD_eq_getElem?_getD,List.getElem?_eq_getElem hiz]; rfl
    rw [e1] at h1
    by_cases hi0:i=0
    ·subst hi0; simpa [Addr.add] using h1
    ·simpa [Addr.add,hi0] using h1
   ·simp at hi
  ·exact bounds_i64 (hwz d (List.mem_of_mem_take hd))
theorem Row8.of_trod1 {H:Type} {enc:TypeId×Value→H} {P:Program} {W:World} {t e:TypeId} {fuel:Nat} {u:Value} {y:DataW H×List MemPlace} (ht:P.underlying t=some (.slice e)) (he:P.underlying e=some (.int .u8)) (hc:P.cellsOf e=1)
  (h:DataW.trod enc P W 0 (fun _=>true) true fuel t [u]=some y):∃ a n c l,u = .slice a n c∧Row8 W W.heap.size a n c l:=by
 rcases open_ints ht he hc h with ⟨hcs,_⟩|⟨x,n,c,zs,hcs,_,hl,hm,hz,_,hcell,hwz⟩
 ·injection hcs with hcs
  exact ⟨none,0,0,[],hcs,Row8.nil⟩
 ·injection hcs with hcs
  obtain ⟨l,hr⟩:=Row8.of_row (w:=W) (a:=some x) (len:=n) (cap:=c) (zs:=zs) (.inr ⟨x,rfl,hl,hm,by simpa using hz,hcell,hwz⟩)
  exact ⟨some x,n,c,l,hcs,hr⟩
theorem open_cells {H:Type} {enc:TypeId×Value→H} {P:Program} {W:World} {base:Nat} {spare:Nat→Bool} {held:Bool} {r:Reach} {b0:Nat} {t:TypeId} {fs:Array Field} {v:Value} {d:DataW H} {p:List MemPlace}
  (hs:P.underlying t=some (.struct fs)) (hone:Deep.oneCellFields P fs=true) (hC:P.cellsOf t=fs.size) (hv:Value.okWide P W r b0 t v) (h:DataW.Trod enc P W base spare held t v d p) :
  ∃ cs:List Value,v = .agg cs.toArray∧cs.length=fs.size∧∀ (j:Nat) (f:Field),fs[j]? = some f→∃ u n y,cs[j]? = some u∧DataW.trod enc P W base spare held n f.type [u]=some y:=by
 obtain ⟨cs,rfl,hsz⟩:=okWide_struct hs hv
 obtain ⟨l⟩:=cs
 obtain ⟨fuel,hf⟩:=h
 obtain ⟨xs,n,_,_,_,hlen,hg⟩:=DataW.trod_struct hs hf
 have hll:l.length=fs.size:=hsz.trans hC
 refine ⟨l,rfl,hll,fun j f hj => ?_⟩
 obtain ⟨o,k⟩:=Deep.hone_of hone j f hj
 have hjl:j<fs.size:=(Array.getElem?_eq_some_iff.1 hj).1
 have h1:=hg j f hj
 rw [o,k] at h1
 have h1':((Value.agg l.toArray).cells.toList.drop j).take 1=[l[j]'oM]:=by
  show (l.drop j).take 1=_
  rw [List.drop_eq_getElem_cons oM]
  rfl
 rw [h1'] at h1
 have hys:xs[j]? = some (xs[j]'oM):=List.getElem?_eq_getElem oM
 exact ⟨l[j]'oM,n,_,List.getElem?_eq_getElem oM,h1.trans hys⟩
end Go.Proofs.Ytkhdnlkdcikdmaa.Sm
namespace Go.Proofs.Ytkhdnlkdcikdmaa.Sm
open Go.RowKit
def Later (w u:World):Prop:=Below w.heap.size w u
theorem Later.refl (w:World):Later w w:=Below.refl _ _
theorem Later.trans {w u v:World} (h:Later w u) (k:Later u v):Later w v:=Below.trans h (k.mono h.size)
section
variable {P:Program} {ops:Array Oper} {Q:Exit→Act→World→Prop}
theorem held_mono {md:Region.Mode} {S S':World→Prop} (h:∀ w,S w→S' w):∀ (fuel:Nat) (listed:Array Bool) (a:Act) (w:World),wpAnyH P md ops Q S fuel listed a w→wpAnyH P md ops Q S' fuel listed a w
 | 0,_,_,_,H=>H
 | fuel+1,_,_,_,H=>⟨H.1,fun i hi=>wpOp_mono (fun a' w' h'=>⟨h w' h'.1,held_mono h fuel _ a' w' h'.2⟩) (H.2 i hi)⟩
theorem later_begin {id:Nat} {a:Act} {w:World} (hm:P.follows .mixedOrders=true) (h:wpAnyH P .any ops Q (Later w.drew) ops.size (Array.replicate ops.size false) a w.drew):(Code.region id ops true).wp P Q a w :=
 wp_region_held hm h
theorem later_take {i:Nat} {oi:Oper} {v:Value} {fuel:Nat} {listed:Array Bool} {a:Act} {w:World} (hi:ops[i]? = some oi)
  (hs:Region.noSelect ops=true) (hf:Region.free .any ops listed i=true) (hr:(Region.ready .any ops listed).contains i=true)
  (hQ:∀ c a w,Q (.panic c) (a.put oi.dst v) w→Q (.panic c) a w) (hw:Region.wanted oi (yielded ops a.tmps)=true) (hy:∀ u,Later w u→(execOp a.eval oi).run P u = .ok (.value v) u)
  (h:wpAnyH P .any ops Q (Later w) fuel (listed.setIfInBounds i true) (a.put oi.dst v) w):wpAnyH P .any ops Q (Later w) (fuel+1) listed a w :=
 wpAnyH_take hi hs hf hr hQ (.inl ⟨hw,hy⟩) (Later.refl w) h
theorem later_skip {i:Nat} {oi:Oper} {fuel:Nat} {listed:Array Bool} {a:Act} {w:World} (hi:ops[i]? = some oi)
  (hs:Region.noSelect ops=true) (hf:Region.free .any ops listed i=true) (hr:(Region.ready .any ops listed).contains i=true)
  (hQ:∀ c a w,Q (.panic c) (a.put oi.dst undef) w→Q (.panic c) a w) (hw:Region.wanted oi (yielded ops a.tmps)=false)
  (h:wpAnyH P .any ops Q (Later w) fuel (listed.setIfInBounds i true) (a.put oi.dst undef) w):wpAnyH P .any ops Q (Later w) (fuel+1) listed a w :=
 wpAnyH_take hi hs hf hr hQ (.inr ⟨hw,rfl⟩) (Later.refl w) h
theorem later_call {i:Nat} {o:Oper} {fuel:Nat} {listed:Array Bool} {a:Act} {w:World} (ho:ops[i]? = some o) (hr:Region.ready .any ops listed=[i])
  (h:∀ K':Act→World→Prop,Shut (∀ a' w',Later w w'→wpAnyH P .any ops Q (Later w') fuel (listed.setIfInBounds i true) a' w'→K' a' w') →
   if Region.wanted o (yielded ops a.tmps)=true then Oper.wp P o a w K' Q else K' (a.put o.dst undef) w):wpAnyH P .any ops Q (Later w) (fuel+1) listed a w :=
 wpAnyH_all hr (by simp) fun j hj=>by
  simp only [List.mem_singleton] at hj
  subst hj
  exact wpOp_step ho fun K' hK=>h K' fun a' w' hb hW=>hK a' w' ⟨hb,held_mono (fun _ hu=>hb.trans hu) _ _ _ _ hW⟩
theorem later_done {listed:Array Bool} {a:Act} {w:World} (hr:Region.ready .any ops listed=[]) (h:Q .normal a w) (fuel:Nat):wpAnyH P .any ops Q (Later w) fuel listed a w:=wpAnyH_done hr h fuel
end
theorem later_str {P:Program} {w:World} {a:Option Addr} {n c:Nat} {l:List UInt8} (h:Row8 w w.heap.size a n c l) {src dst e:TypeId}
 (hs:P.underlying src=some (.slice e)) (he:P.underlying e=some (.int .u8)) (hd:P.underlying dst=some .string) :
 ∀ u,Later w u→(convert src dst (.slice a n c)).run P u = .ok (.string (str l)) u:=fun _ hu=>conv_str (h.below hu) hs he hd
end Go.Proofs.Ytkhdnlkdcikdmaa.Sm
namespace Go.Proofs.Ytkhdnlkdcikdmaa.Sm.By
open Go.RowKit
section
variable {P:Program} {ops:Array Oper} {Q:Exit→Act→World→Prop} {g:Nat}
theorem later_begin {id:Nat} {a:Act} {w:World} (hm:P.follows .mixedOrders=true) (h:wpAnyH P .any ops Q (Beside g w.drew) ops.size (Array.replicate ops.size false) a w.drew):(Code.region id ops true).wp P Q a w :=
 wp_region_held hm h
theorem later_take {i:Nat} {oi:Oper} {v:Value} {fuel:Nat} {listed:Array Bool} {a:Act} {w:World} (hi:ops[i]? = some oi)
  (hs:Region.noSelect ops=true) (hf:Region.free .any ops listed i=true) (hr:(Region.ready .any ops listed).contains i=true)
  (hQ:∀ c a w,Q (.panic c) (a.put oi.dst v) w→Q (.panic c) a w) (hw:Region.wanted oi (yielded ops a.tmps)=true) (hy:∀ u,Beside g w u→(execOp a.eval oi).run P u = .ok (.value v) u)
  (h:wpAnyH P .any ops Q (Beside g w) fuel (listed.setIfInBounds i true) (a.put oi.dst v) w):wpAnyH P .any ops Q (Beside g w) (fuel+1) listed a w :=
 wpAnyH_take hi hs hf hr hQ (.inl ⟨hw,hy⟩) (Beside.refl g w) h
theorem later_skip {i:Nat} {oi:Oper} {fuel:Nat} {listed:Array Bool} {a:Act} {w:World} (hi:ops[i]? = some oi)
  (hs:Region.noSelect ops=true) (hf:Region.free .any ops listed i=true) (hr:(Region.ready .any ops listed).contains i=true)
  (hQ:∀ c a w,Q (.panic c) (a.put oi.dst undef) w→Q (.panic c) a w) (hw:Region.wanted oi (yielded ops a.tmps)=false)
  (h:wpAnyH P .any ops Q (Beside g w) fuel (listed.setIfInBounds i true) (a.put oi.dst undef) w):wpAnyH P .any ops Q (Beside g w) (fuel+1) listed a w :=
 wpAnyH_take hi hs hf hr hQ (.inr ⟨hw,rfl⟩) (Beside.refl g w) h
theorem later_call {i:Nat} {o:Oper} {fuel:Nat} {listed:Array Bool} {a:Act} {w:World} (ho:ops[i]? = some o) (hr:Region.ready .any ops listed=[i])
  (h:∀ K':Act→World→Prop,Shut (∀ a' w',Beside g w w'→wpAnyH P .any ops Q (Beside g w') fuel (listed.setIfInBounds i true) a' w'→K' a' w') →
   if Region.wanted o (yielded ops a.tmps)=true then Oper.wp P o a w K' Q else K' (a.put o.dst undef) w):wpAnyH P .any ops Q (Beside g w) (fuel+1) listed a w :=
 wpAnyH_all hr (by simp) fun j hj=>by
  simp only [List.mem_singleton] at hj
  subst hj
  exact wpOp_step ho fun K' hK=>h K' fun a' w' hb hW=>hK a' w' ⟨hb,held_mono (fun _ hu=>hb.trans hu) _ _ _ _ hW⟩
theorem later_done {listed:Array Bool} {a:Act} {w:World} (hr:Region.ready .any ops listed=[]) (h:Q .normal a w) (fuel:Nat):wpAnyH P .any ops Q (Beside g w) fuel listed a w:=wpAnyH_done hr h fuel
end
end Go.Proofs.Ytkhdnlkdcikdmaa.Sm.By
namespace Go.Proofs.Ytkhdnlkdcikdmaa.Sm
theorem quietly {P:Program} {f:FuncId} {args:Array Value} {w:World} {n:Nat} {v:Value}
  (h:Calls P f args (w.drewN n) fun e w'=>e = .returned v∧w.drewN n=w'):Calls P f args (w.drewN n) fun e w''=>e = .returned v∧∃ m,w''=w.drewN m :=
 h.mono fun _ _ hh=>⟨hh.1,n,hh.2.symm⟩
end Go.Proofs.Ytkhdnlkdcikdmaa.Sm
namespace Go.Proofs.Ytkhdnlkdcikdmaa.Sm
open Go.RowKit Go.ChangeShapes
theorem Row8.of_trod {H:Type} {enc:TypeId×Value→H} {P:Program} {W:World} {t e:TypeId} {a:Option Addr} {len cap:Nat} {d:DataW H} {p:List MemPlace} (ht:P.underlying t=some (.slice e)) (he:P.underlying e=some (.int .u8)) (hc:P.cellsOf e=1)
  (h:DataW.Trod enc P W 0 (fun _=>true) true t (.slice a len cap) d p):∃ l,Row8 W W.heap.size a len cap l:=by
 obtain ⟨fuel,hf⟩:=h
 rcases open_ints ht he hc hf with ⟨hcs,_⟩|⟨x,n,c,zs,hcs,_,hl,hm,hz,_,hcell,hwz⟩
 ·simp [Value.cells] at hcs
  obtain ⟨rfl,rfl,rfl⟩:=hcs
  exact ⟨[],Row8.nil⟩
 ·simp [Value.cells] at hcs
  obtain ⟨rfl,rfl,rfl⟩:=hcs
  exact Row8.of_row (.inr ⟨x,rfl,hl,hm,by simpa using hz,hcell,hwz⟩)
end Go.Proofs.Ytkhdnlkdcikdmaa.Sm
