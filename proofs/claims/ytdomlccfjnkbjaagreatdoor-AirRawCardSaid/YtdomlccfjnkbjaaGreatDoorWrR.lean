/- The document's own answers to chapter 3's calls that only read. -/
import Derived.Test.YtdomlccfjnkbjaaGreatDoorSmA
namespace Go.Proofs.YtdomlccfjnkbjaaGreatDoor.Wr
def be (n:Nat):Nat→List UInt8
 | 0=>[]
 | k+1=>UInt8.ofNat (n/256^k)::be n k
def num (l:List UInt8):Nat:=l.foldl (fun n c=>n*256+c.toNat) 0
theorem be_length (n k:Nat):(be n k).length=k:=by
 induction k with
 | zero=>rfl
 | succ k ih=>simp [be,ih]
theorem be_get (n k j:Nat) (h:j<k):(be n k)[j]? = some (UInt8.ofNat (n/256^(k-1-j))):=by
 induction k generalizing j with
 | zero=>omega
 | succ k ih =>
  cases j with
  | zero=>simp [be]
  | succ j =>
   simp only [be,List.getElem?_cons_succ]
   rw [ih j oM]
   congr 4
   omega
theorem be_take_succ (n k j:Nat) (h:j<k):(be n k).take (j+1)=(be n k).take j++[UInt8.ofNat (n/256^(k-1-j))]:=by
 rw [List.take_add_one,be_get n k j h]; rfl
theorem foldl_num (l:List UInt8):∀ n,l.foldl (fun n c=>n*256+c.toNat) n=n*256^l.length+num l:=by
 induction l with
 | nil=>intro n; simp [num]
 | cons c l ih =>
  intro n
  have h1:=ih (n*256+c.toNat)
  have h2:=ih c.toNat
  have h3:num (c::l)=c.toNat*256^l.length+num l:=by
   simp only [num,List.foldl_cons,Nat.zero_mul,Nat.zero_add]
   rw [h2]; rfl
  rw [List.foldl_cons,h1,h3,List.length_cons,Nat.pow_succ,Nat.add_mul,Nat.add_assoc,Nat.mul_assoc,Nat.mul_comm 256]
theorem num_cons (c:UInt8) (l:List UInt8):num (c::l)=c.toNat*256^l.length+num l:=by
 have:=foldl_num l c.toNat
 simp only [num,List.foldl_cons,Nat.zero_mul,Nat.zero_add]
 rw [this]; rfl
theorem num_lt (l:List UInt8):num l<256^l.length:=by
 induction l with
 | nil=>simp [num]
 | cons c l ih =>
  rw [num_cons,List.length_cons,Nat.pow_succ]
  have:=c.toNat_lt
  have h:c.toNat*256^l.length≤255*256^l.length:=Nat.mul_le_mul_right _ oM
  omega
theorem num_snoc (l:List UInt8) (k:Nat) (c:UInt8) (h:l[k]? = some c):num (l.take (k+1))=num (l.take k)*256+c.toNat:=by
 rw [List.take_add_one,h]; simp [num]
theorem be_eq_of_mod {a b:Nat}:∀ {k:Nat},a%256^k=b%256^k→be a k=be b k
 | 0,_=>rfl
 | k+1,h=>by
  have e:∀ x:Nat,x%256^(k+1)%256^k=x%256^k:=fun x=>by rw [Nat.pow_succ,Nat.mod_mul_right_mod]
  have e2:∀ x:Nat,x/256^k%256=x%256^(k+1)/256^k:=fun x=>by rw [Nat.pow_succ,Nat.mod_mul_right_div_self]
  have h1:a%256^k=b%256^k:=by rw [← e a,← e b,h]
  have h2:a/256^k%256=b/256^k%256:=by rw [e2,e2,h]
  have h3:UInt8.ofNat (a/256^k)=UInt8.ofNat (b/256^k):=by
   apply UInt8.toNat_inj.1
   rw [UInt8.toNat_ofNat',UInt8.toNat_ofNat']
   exact h2
  rw [be,be,be_eq_of_mod h1,h3]
theorem be_num (l:List UInt8):be (num l) l.length=l:=by
 induction l with
 | nil=>rfl
 | cons c l ih =>
  have h:=num_lt l
  have hc:=c.toNat_lt
  rw [List.length_cons,be,num_cons]
  have h1:(c.toNat*256^l.length+num l)/256^l.length=c.toNat:=by
   rw [Nat.mul_comm,Nat.mul_add_div (Nat.pow_pos oM),Nat.div_eq_of_lt h]; rfl
  have h2:be (c.toNat*256^l.length+num l) l.length=be (num l) l.length:=be_eq_of_mod (by rw [Nat.mul_comm,Nat.mul_add_mod])
  rw [h1,h2,ih]
  congr 1
  simp
def plainB (n k:Int):Bool:=decide ((1≤k∧k≤7)∧0≤n∧n<256^k.toNat)
def plainL (n k:Int):List UInt8:=if plainB n k=true then be n.toNat k.toNat else []
def signedB (n k:Int):Bool:=decide ((1≤k∧k≤7) ∧ -(256^k.toNat/2)≤n∧n<256^k.toNat/2)
def signedL (n k:Int):List UInt8:=if signedB n k=true then (if n<0 then be (n+256^k.toNat).toNat k.toNat else be n.toNat k.toNat) else []
def numI (l:List UInt8):Int:=if l.length≤7 then (num l:Int) else 0
def offI (l:List UInt8):Int:=if 1≤l.length∧l.length≤7 then (if 256^l.length/2≤num l then (num l:Int)-256^l.length else num l) else 0
theorem pow_cases {k:Nat} (h:1≤k∧k≤7):(256^k:Nat)=256∨(256^k:Nat)=65536∨(256^k:Nat)=16777216∨(256^k:Nat)=4294967296∨(256^k:Nat)=1099511627776∨(256^k:Nat)=281474976710656∨(256^k:Nat)=72057594037927936:=by
 obtain ⟨h1,h2⟩:=h
 match k,h1,h2 with
 | 1,_,_=>simp
 | 2,_,_=>simp
 | 3,_,_=>simp
 | 4,_,_=>simp
 | 5,_,_=>simp
 | 6,_,_=>simp
 | 7,_,_=>simp
theorem pow_le {k:Nat} (h:k≤7):(256^k:Nat)≤72057594037927936:=by
 have:=Nat.pow_le_pow_right (n:=256) oM h
 simpa using this
theorem pow_cast (k:Nat):(256:Int)^k=((256^k:Nat):Int):=by simp
theorem back_signed {l:List UInt8} (h1:1≤l.length) (h7:l.length≤7):signedB (offI l) l.length=true∧signedL (offI l) l.length=l:=by
 have hl:=num_lt l
 have hp:=pow_cases ⟨h1,h7⟩
 have e:offI l=if 256^l.length/2≤num l then (num l:Int)-256^l.length else num l:=by unfold offI; rw [if_pos ⟨h1,h7⟩]
 have hb:signedB (offI l) l.length=true:=by
  unfold signedB
  rw [e,pow_cast,Int.toNat_natCast,pow_cast]
  refine decide_eq_true ⟨by omega,?_⟩
  generalize (256^l.length:Nat)=p at *
  split <;> omega
 refine ⟨hb,?_⟩
 unfold signedL
 rw [if_pos hb,e,Int.toNat_natCast,pow_cast]
 have hbe:be (num l) l.length=l:=be_num l
 by_cases hh:256^l.length/2≤num l
 ·rw [if_pos hh]
  generalize (256^l.length:Nat)=p at *
  rw [if_pos oM]
  have e2:((num l:Int)-(p:Int)+(p:Int)).toNat=num l:=by omega
  rw [e2,hbe]
 ·rw [if_neg hh,if_neg oM,Int.toNat_natCast,hbe]
theorem first_half {c:UInt8} {l:List UInt8}:256^(c::l).length/2≤num (c::l)↔128≤c.toNat:=by
 rw [num_cons,List.length_cons,Nat.pow_succ]
 have h:=num_lt l
 generalize 256^l.length=p at *
 have e:p*256/2=128*p:=by omega
 rw [e]
 constructor
 ·intro h1
  rcases Nat.lt_or_ge c.toNat 128 with h2|h2
  ·have:(c.toNat+1)*p≤128*p:=Nat.mul_le_mul_right _ h2
   rw [Nat.add_mul] at this
   omega
  ·exact h2
 ·intro h1
  have:128*p≤c.toNat*p:=Nat.mul_le_mul_right _ h1
  omega
end Go.Proofs.YtdomlccfjnkbjaaGreatDoor.Wr
namespace Go.Proofs.YtdomlccfjnkbjaaGreatDoor.Wr
open Go.ChangeShapes Go.WideShapes Go.ChangeAt Go.RowKit Go.Proofs.YtdomlccfjnkbjaaGreatDoor.Sm
set_option maxHeartbeats 400000
theorem pow_p {k:Int} (h1:1≤k) (h7:k≤7):∃ p:Int,((256^k.toNat:Nat):Int)=p∧256≤p∧p≤72057594037927936∧p%2=0:=by
 have:=pow_cases (k:=k.toNat) oM
 exact ⟨_,rfl,by omega,by omega,by omega⟩
theorem joined (N:Nat) (h:N<281474976710656) (c:UInt8):bits .or .i64 ((N:Int)*(256:Int)) (c.toNat:Int)=((N*256+c.toNat:Nat):Int):=by
 have hc:=c.toNat_lt
 have e:(N:Int)*(256:Int)=((N*256:Nat):Int):=by omega
 rw [e]
 have hx:N*256 ||| c.toNat=N*256+c.toNat:=nat_join 8 _ _ oM oM
 show IntKind.i64.wrap ((BitVec.ofInt 64 ((N*256:Nat):Int) ||| BitVec.ofInt 64 (c.toNat:Int)).toNat:Int)=_
 rw [BitVec.toNat_or,ofInt_u64 _ oM,ofInt_u64 _ oM,hx,IntKind.wrap_i64]
 omega
theorem num_lt6 {l:List UInt8} {k:Nat} (hk:k<7):num (l.take k)<281474976710656:=by
 have h:=num_lt (l.take k)
 have h1:256^(l.take k).length≤256^6:=Nat.pow_le_pow_right oM (by rw [List.length_take]; omega)
 omega
theorem offI_zero {l:List UInt8} (h:l.length<1∨7<l.length):offI l=0:=by
 unfold offI
 rw [if_neg oM]
theorem offI_high {l:List UInt8} (h:1≤l.length∧l.length≤7) (h2:256^l.length/2≤num l):offI l=numI l-((256^l.length:Nat):Int):=by
 unfold offI numI
 rw [if_pos h,if_pos h2,if_pos h.2,pow_cast]
theorem offI_low {l:List UInt8} (h:1≤l.length∧l.length≤7) (h2:¬ 256^l.length/2≤num l):offI l=numI l:=by
 unfold offI numI
 rw [if_pos h,if_neg h2,if_pos h.2]
theorem numI_eq {l:List UInt8} (h:l.length≤7):numI l=(num l:Int):=by unfold numI; rw [if_pos h]
def RetPair (w:World) (E:TypeId) (l:List UInt8) (ok:Bool) (e:Ending) (w':World):Prop:=∃ v,e = .returned (.tuple #[v,.bool ok])∧Made w E l v w'
theorem made_nil (w:World) (E:TypeId):Made w E [] (.slice none 0 0) w:=⟨World.ownsRow_nil _ _ _ _,Below.refl _ _⟩
theorem shr_byte (N j:Nat):(N:Int)/2^(8*j)%256=((N/256^j%256:Nat):Int):=by
 have e:(2:Int)^(8*j)=((256^j:Nat):Int):=by
  rw [Int.pow_mul]; simp
 rw [e]; simp
theorem shl_p {m:Nat} {p:Int} (h7:(m:Int)≤7) (hp:((256^(m:Int).toNat:Nat):Int)=p):wrap64 (2^(8*m))=p:=by
 have e:(2:Int)^(8*m)=((256^m:Nat):Int):=by rw [Int.pow_mul]; simp
 rw [Int.toNat_natCast] at hp
 have h1:=pow_le (k:=m) oM
 rw [e]
 generalize (256^m:Nat)=q at *
 unfold wrap64
 omega
theorem byte_cells (N r:Nat):cells8 [UInt8.ofNat (N/256^r)]=[.int .u8 ((N:Int)/2^(8*r)%256)]:=by
 rw [shr_byte]
 simp [cells8,UInt8.toNat_ofNat']
def lifted (n k:Int):Int:=if n<0 then n+256^k.toNat else n
theorem signed_plain {n k:Int} (h:signedB n k=true):plainB (lifted n k) k=true∧plainL (lifted n k) k=signedL n k:=by
 have h':=of_decide_eq_true (show decide _=true from h)
 rw [pow_cast] at h'
 have hp:=pow_cases (k:=k.toNat) oM
 have hb:plainB (lifted n k) k=true:=by
  unfold plainB lifted
  rw [pow_cast]
  refine decide_eq_true ⟨h'.1,?_⟩
  generalize (256^k.toNat:Nat)=p at *
  split <;> omega
 refine ⟨hb,?_⟩
 unfold plainL signedL
 rw [if_pos hb,if_pos h]
 unfold lifted
 split <;> rfl
theorem shl_half {m:Nat} {p:Int} (h1:1≤(m:Int)) (h7:(m:Int)≤7) (hp:((256^(m:Int).toNat:Nat):Int)=p):wrap64 (2^(8*m-1))=p/2:=by
 have hk:m=1∨m=2∨m=3∨m=4∨m=5∨m=6∨m=7:=by omega
 rcases hk with rfl|rfl|rfl|rfl|rfl|rfl|rfl <;> (simp at hp; subst hp; decide +kernel)
set_option maxRecDepth 100000
def okB (l:List UInt8) (at_:Nat) (bad:Bool) (k:Int):Bool:=decide (bad=false∧0≤k∧k≤(l.length:Int)-(at_:Int))
def gotL (l:List UInt8) (at_:Nat) (bad:Bool) (k:Int):List UInt8:=if okB l at_ bad k=true then (l.take (at_+k.toNat)).drop at_ else []
def atN (l:List UInt8) (at_:Nat) (bad:Bool) (k:Int):Nat:=if okB l at_ bad k=true then at_+k.toNat else at_
def badN (l:List UInt8) (at_:Nat) (bad:Bool) (k:Int):Bool := !okB l at_ bad k
def wid (k:Int):Int:=if 1≤k∧k≤7 then k else -1
theorem ok_bad (l:List UInt8) (at_:Nat) (k:Int):okB l at_ true k=false:=by simp [okB]
theorem ok_neg (l:List UInt8) (at_:Nat) (bad:Bool) {k:Int} (h:k<0):okB l at_ bad k=false:=by unfold okB; refine decide_eq_false ?_; omega
theorem ok_less (l:List UInt8) (at_:Nat) (bad:Bool) {k:Int} (h:(l.length:Int)-(at_:Int)<k):okB l at_ bad k=false:=by unfold okB; refine decide_eq_false ?_; omega
theorem ok_yes (l:List UInt8) (at_:Nat) {k:Int} (h0:0≤k) (h:k≤(l.length:Int)-(at_:Int)):okB l at_ false k=true:=by unfold okB; exact decide_eq_true ⟨rfl,h0,h⟩
theorem got_no {l:List UInt8} {at_:Nat} {bad:Bool} {k:Int} (h:okB l at_ bad k=false):gotL l at_ bad k=[]∧atN l at_ bad k=at_∧badN l at_ bad k=true:=by
 unfold gotL atN badN; rw [h]; exact ⟨rfl,rfl,rfl⟩
theorem got_yes {l:List UInt8} {at_:Nat} {bad:Bool} {k:Int} (h:okB l at_ bad k=true):gotL l at_ bad k=(l.take (at_+k.toNat)).drop at_∧atN l at_ bad k=at_+k.toNat∧badN l at_ bad k=false:=by
 unfold gotL atN badN; rw [h]; exact ⟨rfl,rfl,rfl⟩
theorem atN_le {l:List UInt8} {at_:Nat} {bad:Bool} {k:Int} (h:at_≤l.length):atN l at_ bad k≤l.length:=by
 unfold atN
 split
 ·rename_i ho
  have:=of_decide_eq_true (show decide _=true from ho)
  omega
 ·exact h
def RetTake (R:World→Nat→List UInt8→Nat→Bool→Prop) (w:World) (g:Nat) (l:List UInt8) (at_:Nat) (bad:Bool) (k:Int) (e:Ending) (w':World):Prop :=
 ∃ v,e = .returned v∧w'.ownsRow w.heap.size 5 1 v (gotL l at_ bad k).length (cells8 (gotL l at_ bad k))∧R w' g l (atN l at_ bad k) (badN l at_ bad k)∧Beside g w w'
theorem RetTake.slice {R:World→Nat→List UInt8→Nat→Bool→Prop} {w:World} {g:Nat} {l:List UInt8} {at_:Nat} {bad:Bool} {k:Int} {e:Ending} {w':World} (h:RetTake R w g l at_ bad k e w') :
  ∃ a n c,e = .returned (.slice a n c)∧Row8 w' w'.heap.size a n c (gotL l at_ bad k)∧w'.ownsRow w.heap.size 5 1 (.slice a n c) n (cells8 (gotL l at_ bad k))∧R w' g l (atN l at_ bad k) (badN l at_ bad k)∧Beside g w w':=by
 obtain ⟨v,rfl,ho,hr,hb⟩:=h
 obtain ⟨a,c,rfl,h8⟩:=owns_slice ho
 exact ⟨a,_,c,rfl,h8,ho,hr,hb⟩
theorem got_le (l:List UInt8) (at_:Nat) (bad:Bool) (k:Int):(gotL l at_ bad k).length≤l.length:=by
 unfold gotL
 split
 ·rw [List.length_drop,List.length_take]; omega
 ·simp
theorem numberR_calls (a:Option Addr) (n c:Nat) (l:List UInt8) (B:Nat) (w:World) (hr:Row8 w B a n c l) :
  Calls Tryz.prog 161 #[.slice a n c] w fun e w'=>e = .returned (.int .i64 (numI l))∧w=w':=by
 have hn:n≤9223372036854775807:=by have h1:=hr.room; have h2:=hr.cap; unfold maxLen at h2; omega
 have HR:=hid hr
 have HN:=hid hr.len
 clear hr
 by_cases h7:7<n
 ·go_enter Tryz.func161,Tryz.ntmps161
  go_wp2
  go_ret
  refine ⟨ret_int ?_,rfl⟩
  unfold numI
  rw [HN.out,if_neg oM]
 ·go_enter Tryz.func161,Tryz.ntmps161
  go_wp2
  go_loop [3,4] (fun t i=>∃ k:Nat,∃ y:Int,k≤n∧0≤y∧i = .int .i64 k∧t = .int .i64 y∧Hid (y=(num (l.take k):Int))) (fun _ i=>n-(intOf i).toNat)
  case atStart=>exact ⟨0,_,by omega,by omega,rfl,rfl,rfl⟩
  case round =>
   obtain ⟨k,y,hk,hy0,rfl,rfl,H⟩:=hrel
   by_cases hlt:k<n
   ·obtain ⟨b,off,d,rfl,_,hl,hc⟩:=HR.out.at_ hlt
    have hd:=d.toNat_lt
    have HL:=hid hl
    clear hl
    have hy1:y<281474976710656:=by have:=num_lt6 (l:=l) (k:=k) oM; have:=H.out; omega
    go_wp2
    go_round
    case rel =>
     have e:=joined (num (l.take k)) (num_lt6 oM) d
     rw [← H.out,← num_snoc l k d HL.out] at e
     exact ⟨k+1,_,by omega,by rw [e]; omega,by go_num,rfl,e⟩
    case measure=>simp [intOf]; omega
   ·obtain rfl:k=n:=by omega
    go_wp2
    go_ret
    refine ⟨ret_int ?_,rfl⟩
    unfold numI
    rw [H.out,← HN.out,List.take_length,if_pos (by rw [HN.out]; omega)]
set_option maxRecDepth 10000 in
theorem offsetR_calls (a:Option Addr) (n c:Nat) (l:List UInt8) (B:Nat) (w:World) (hr:Row8 w B a n c l) :
  Calls Tryz.prog 163 #[.slice a n c] w fun e w'=>e = .returned (.int .i64 (offI l))∧w=w':=by
 have hn:n≤9223372036854775807:=by have h1:=hr.room; have h2:=hr.cap; unfold maxLen at h2; omega
 have HR:=hid hr
 have HN:=hid hr.len
 clear hr
 by_cases hz:n=0
 ·subst hz
  go_enter Tryz.func163,Tryz.ntmps163
  go_wp2
  go_ret
  exact ⟨ret_int (offI_zero (by rw [HN.out]; omega)).symm,rfl⟩
 have hz1:((n:Int) == 0)=false:=by simp; omega
 by_cases h8:7<n
 ·go_enter Tryz.func163,Tryz.ntmps163
  go_wp2
  go_ret
  exact ⟨ret_int (offI_zero (by rw [HN.out]; omega)).symm,rfl⟩
 have hlen:1≤l.length∧l.length≤7:=by rw [HN.out]; omega
 obtain ⟨y,hy⟩:∃ y,numI l=y:=⟨_,rfl⟩
 have hyb:0≤y∧y<72057594037927936:=by
  rw [← hy,numI_eq hlen.2]
  have h1:=num_lt l
  have h2:=pow_le hlen.2
  omega
 obtain ⟨hy0,hy1⟩:=hyb
 have HY:=hid hy
 obtain ⟨b,off,d,rfl,_,hl,hc⟩:=HR.out.at_ (k:=0) oM
 rw [Nat.add_zero] at hc
 obtain ⟨l',rfl⟩:∃ l',l=d::l':=by
  cases l with
  | nil=>simp at hl
  | cons x l'=>simp at hl; exact ⟨l',by rw [hl]⟩
 have hd:=d.toNat_lt
 have hh:=first_half (c:=d) (l:=l')
 clear hl hy
 by_cases h128:128≤(d.toNat:Int)
 ·have HE:=hid (offI_high hlen (hh.2 oM))
  clear hh hlen
  have hk:n=1∨n=2∨n=3∨n=4∨n=5∨n=6∨n=7:=by omega
  rcases hk with rfl|rfl|rfl|rfl|rfl|rfl|rfl
  all_goals
   clear hn hz h8
   go_enter Tryz.func163,Tryz.ntmps163
   go_wp2_with (go_at_call 161; refine (numberR_calls _ _ _ (d::l') _ _ HR.out).mono ?_; rw [HY.out]; rintro e w' ⟨rfl,rfl⟩)
   go_ret
   exact ⟨ret_int (by rw [HE.out,HY.out,HN.out]; rfl),rfl⟩
 ·have HE:=hid (offI_low hlen (fun h=>h128 (by have:=hh.1 h; omega)))
  clear hh hlen
  go_enter Tryz.func163,Tryz.ntmps163
  go_wp2_with (go_at_call 161; refine (numberR_calls _ _ _ (d::l') _ _ HR.out).mono ?_; rw [HY.out]; rintro e w' ⟨rfl,rfl⟩)
  go_ret
  exact ⟨ret_int (by rw [HE.out,HY.out]),rfl⟩
end Go.Proofs.YtdomlccfjnkbjaaGreatDoor.Wr
