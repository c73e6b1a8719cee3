/- Several texts in one: SmPlain SmKit SmMem SmInfo SmCut SmRow SmLater SmBy SmQuiet SmArgs. -/
import Derived.Laws.BitsAllLaws
import Derived.KernelRfl
import Derived.WalkKit
import Derived.ProofKit
import Derived.OpenShut
import Derived.Laws.OwnMore
import Derived.Deep.AppendLies
import Derived.Laws.Rows
import Derived.Laws.BytesArg
import Derived.Laws.AppendOwnNone
import Derived.Deep.Draws
import Derived.Test.YtdomlccfjnkbjaaGreatDoorRows
import Derived.WalkSpells
import Derived.Deep.Fields
import Derived.ChangeSame
import Derived.Deep.RegionHeld
import Derived.Deep.QuietTactic
import Derived.BigQuiet
namespace Go.Proofs.YtdomlccfjnkbjaaGreatDoor
theorem kR {p:Prop} (h:p:=by kernel_rfl):p:=h
theorem oM {p:Prop} (h:p:=by omega):p:=h
theorem nD {p:Prop} (h:p:=by ((repeat' (first|intro _|refine And.intro ?_ ?_)) <;> first|omega|trivial|assumption|(rename_i hgd; simp only [Bool.and_eq_true,Bool.or_eq_true,Bool.or_eq_false_iff,Bool.and_eq_false_iff,Bool.not_eq_true',Bool.not_eq_false',decide_eq_true_eq,decide_eq_false_iff_not,beq_iff_eq,and_true] at hgd; omega))):p:=h
end Go.Proofs.YtdomlccfjnkbjaaGreatDoor
namespace Go.Proofs.YtdomlccfjnkbjaaGreatDoor.Sm
set_option maxHeartbeats 400000
def pol:BitVec 32:=79764919#32
def step (r:BitVec 32):BitVec 32:=if r.msb then (r <<< 1) ^^^ pol else r <<< 1
def steps:Nat→BitVec 32→BitVec 32
 | 0,r=>r
 | n+1,r=>steps n (step r)
theorem steps_add:∀ (m n:Nat) (x:BitVec 32),steps (m+n) x=steps n (steps m x)
 | 0,n,x=>by rw [Nat.zero_add]; rfl
 | m+1,n,x=>by rw [Nat.add_right_comm]; exact steps_add m n (step x)
def top (b:Bool):BitVec 32:=if b then 2147483648#32 else 0#32
def high (c:UInt8):BitVec 32:=BitVec.ofNat 32 (c.toNat*16777216)
def one (r:BitVec 32) (c:UInt8):BitVec 32:=steps 8 (r ^^^ high c)
def reg (r:BitVec 32) (l:List UInt8):BitVec 32:=l.foldl one r
def more (s:BitVec 32) (l:List UInt8):BitVec 32 := ~~~ reg (~~~ s) l
def of (l:List UInt8):BitVec 32:=more 0#32 l
def tail4 (s:BitVec 32):List UInt8:=[UInt8.ofNat (s.toNat/16777216),UInt8.ofNat (s.toNat/65536),UInt8.ofNat (s.toNat/256),UInt8.ofNat s.toNat]
def sealB (l:List UInt8):List UInt8:=l++tail4 (of l)
def num4 (l:List UInt8):Nat:=l.foldl (fun n c=>(n*256+c.toNat)%4294967296) 0
theorem num4_tail4 (s:BitVec 32):num4 (tail4 s)=s.toNat:=by
 have h:s.toNat<4294967296:=s.isLt
 simp [num4,tail4,UInt8.toNat_ofNat']
 omega
theorem tail4_num4 (l:List UInt8) (h:l.length=4) (s:BitVec 32):num4 l=s.toNat↔l=tail4 s:=by
 constructor
 ·intro hn
  match l,h with
  | [a,b,c,d],_ =>
   have ha:=a.toNat_lt
   have hb:=b.toNat_lt
   have hc:=c.toNat_lt
   have hd:=d.toNat_lt
   simp [num4] at hn
   unfold tail4
   rw [← hn]
   simp only [List.cons.injEq,and_true]
   refine ⟨?_,?_,?_,?_⟩ <;> (apply UInt8.toNat_inj.1; rw [UInt8.toNat_ofNat']; omega)
 ·rintro rfl; exact num4_tail4 s
end Go.Proofs.YtdomlccfjnkbjaaGreatDoor.Sm
namespace Go.Proofs.YtdomlccfjnkbjaaGreatDoor.Sm
open Go.RowKit
set_option maxHeartbeats 400000
theorem hid {p:Prop} (h:p):Hid p:=h
theorem xor_u32 (x y:Int):bits .xor .u32 x y=((BitVec.ofInt 32 x ^^^ BitVec.ofInt 32 y).toNat:Int):=by
 show IntKind.u32.wrap ((BitVec.ofInt 32 x ^^^ BitVec.ofInt 32 y).toNat:Int)=_
 have h:=(BitVec.ofInt 32 x ^^^ BitVec.ofInt 32 y).isLt
 rw [IntKind.wrap_u32']
 omega
theorem ofInt_toNat (s:BitVec 32):BitVec.ofInt 32 (s.toNat:Int)=s:=by
 rw [BitVec.ofInt_natCast]; simp
theorem xor_words (s t:BitVec 32):bits .xor .u32 (s.toNat:Int) (t.toNat:Int)=((s ^^^ t).toNat:Int):=by
 rw [xor_u32,ofInt_toNat,ofInt_toNat]
theorem not_word (s:BitVec 32):bits .xor .u32 4294967295 (s.toNat:Int)=((~~~ s).toNat:Int):=by
 rw [xor_u32,ofInt_toNat,show BitVec.ofInt 32 4294967295=BitVec.allOnes 32 by decide,BitVec.allOnes_xor]
theorem word_lt (s:BitVec 32):(0:Int)≤(s.toNat:Int)∧(s.toNat:Int)<4294967296:=by
 have:=s.isLt; omega
theorem shl1 (s:BitVec 32):(s.toNat:Int)*(2:Int)%(4294967296:Int)=((s <<< 1).toNat:Int):=by
 rw [BitVec.toNat_shiftLeft,Nat.shiftLeft_eq]; omega
theorem step_yes {x:Int} {s:BitVec 32} (hx:x=(s.toNat:Int)) (h:(x/2147483648 == 1)=true):bits .xor .u32 (x*2%4294967296) 79764919=((step s).toNat:Int):=by
 subst hx
 have hl:=s.isLt
 have hm:s.msb=true:=by rw [BitVec.msb_eq_decide]; simp at h ⊢; omega
 unfold step
 rw [hm,if_pos rfl,shl1,show (79764919:Int)=(pol.toNat:Int) by decide,xor_words]
theorem step_no {x:Int} {s:BitVec 32} (hx:x=(s.toNat:Int)) (h:(x/2147483648 == 1)=false):x*2%4294967296=((step s).toNat:Int):=by
 subst hx
 have hl:=s.isLt
 have hm:s.msb=false:=by rw [BitVec.msb_eq_decide]; simp at h ⊢; omega
 unfold step
 rw [hm,shl1]
 rfl
theorem steps_succ (k:Nat) (s:BitVec 32):steps (k+1) s=step (steps k s):=steps_add k 1 s
theorem high_word (c:UInt8):(c.toNat:Int)*(16777216:Int)=((high c).toNat:Int):=by
 have:=c.toNat_lt
 unfold high
 rw [BitVec.toNat_ofNat]; omega
theorem ret_int {k:IntKind} {a b:Int} (h:a=b):Ending.returned (.int k a) = .returned (.int k b):=by rw [h]
theorem below_drewN {B:Nat} {v w:World} (h:Below B v w) (n:Nat):Below B v (w.drewN n):=⟨h.os,h.tape,h.output,h.size,h.block⟩
theorem below_from {w w':World} {n:Nat} (h:Below (w.drewN n).heap.size (w.drewN n) w'):Below w.heap.size w w':=⟨h.os,h.tape,h.output,h.size,h.block⟩
structure Row8 (w:World) (B:Nat) (a:Option Addr) (n c:Nat) (l:List UInt8):Prop where
 len:l.length=n
 room:n≤c
 cap:c≤maxLen
 none_:a=none→c=0
 cells:0<n→∃ b off,a=some ⟨b,off,none⟩∧b<B∧∀ i d,l[i]? = some d→w.cell? ⟨b,off+i,none⟩=some (.int .u8 (d.toNat:Int))
section
variable {w w':World} {B B' n c:Nat} {a:Option Addr} {l:List UInt8}
theorem Row8.nil:Row8 w B none 0 0 []:=⟨rfl,Nat.le_refl _,by unfold maxLen; omega,fun _=>rfl,fun h=>absurd h oM⟩
theorem Row8.at_ (h:Row8 w B a n c l) {k:Nat} (hk:k<n):∃ b off d,a=some ⟨b,off,none⟩∧b<B∧l[k]? = some d∧w.cell? ⟨b,off+k,none⟩=some (.int .u8 (d.toNat:Int)):=by
 obtain ⟨b,off,e,hb,hc⟩:=h.cells oM
 have hl:k<l.length:=by have:=h.len; omega
 exact ⟨b,off,l[k],e,hb,List.getElem?_eq_getElem hl,hc k _ (List.getElem?_eq_getElem hl)⟩
theorem Row8.keep (h:Row8 w B a n c l) (hk:∀ p:Addr,p.block<B→w'.cell? p=w.cell? p):Row8 w' B a n c l :=
 ⟨h.len,h.room,h.cap,h.none_,fun hn=>by
  obtain ⟨b,off,e,hb,hc⟩:=h.cells hn
  exact ⟨b,off,e,hb,fun i d hi=>(hk ⟨b,off+i,none⟩ hb).trans (hc i d hi)⟩⟩
theorem Row8.below (h:Row8 w B a n c l) (hb:Below B w w'):Row8 w' B a n c l:=h.keep fun _ hp=>hb.cell hp
theorem Row8.drewN (h:Row8 w B a n c l) (k:Nat):Row8 (w.drewN k) B a n c l:=h.keep fun _ _=>rfl
theorem Row8.drew (h:Row8 w B a n c l):Row8 w.drew B a n c l:=h.keep fun _ _=>rfl
theorem Row8.more (h:Row8 w B a n c l) (hB:B≤B'):Row8 w B' a n c l :=
 ⟨h.len,h.room,h.cap,h.none_,fun hn=>by
  obtain ⟨b,off,e,hb,hc⟩:=h.cells hn
  exact ⟨b,off,e,by omega,hc⟩⟩
theorem Row8.later (h:Row8 w w.heap.size a n c l) (hb:Below w.heap.size w w'):Row8 w' w'.heap.size a n c l:=(h.below hb).more hb.size
theorem Row8.take (h:Row8 w B a n c l) {k:Nat} (hk:k≤n):Row8 w B a k c (l.take k):=by
 refine ⟨by rw [List.length_take,h.len]; omega,by have:=h.room; omega,h.cap,h.none_,fun hn => ?_⟩
 obtain ⟨b,off,e,hb,hc⟩:=h.cells oM
 refine ⟨b,off,e,hb,fun i d hi=>hc i d ?_⟩
 rw [List.getElem?_take] at hi
 split at hi
 ·exact hi
 ·cases hi
theorem Row8.drop {b off:Nat} (h:Row8 w B (some ⟨b,off,none⟩) n c l) {k:Nat} (hk:k<n):Row8 w B (some ⟨b,off+k,none⟩) (n-k) (c-k) (l.drop k):=by
 refine ⟨by rw [List.length_drop,h.len],by have:=h.room; omega,by have:=h.cap; omega,(fun e=>by cases e),fun hn => ?_⟩
 obtain ⟨b',off',e,hb,hc⟩:=h.cells oM
 injection e with e
 injection e with e1 e2
 subst e1 e2
 refine ⟨_,_,rfl,hb,fun i d hi => ?_⟩
 rw [List.getElem?_drop] at hi
 rw [Nat.add_assoc]
 exact hc _ d hi
end
def cells8 (l:List UInt8):List Value:=l.map fun c => .int .u8 (c.toNat:Int)
theorem cells8_length (l:List UInt8):(cells8 l).length=l.length:=by simp [cells8]
theorem cells8_append (l m:List UInt8):cells8 (l++m)=cells8 l++cells8 m:=by simp [cells8]
theorem cells8_one (l:List UInt8):∀ u ∈ cells8 l,u.oneCell'=true:=by
 intro u hu
 simp only [cells8,List.mem_map] at hu
 obtain ⟨c,_,rfl⟩:=hu
 rfl
theorem cells8_get (l:List UInt8) (i:Nat):(cells8 l)[i]? = (l[i]?).map fun c => .int .u8 (c.toNat:Int):=by simp [cells8]
theorem Row8.own {w:World} {base:Nat} {e:TypeId} {a:Option Addr} {n c:Nat} {l:List UInt8} (h:w.ownsRow base e 1 (.slice a n c) n (cells8 l)):Row8 w w.heap.size a n c l:=by
 have hlen:l.length=n:=by have:=h.1; rw [cells8_length] at this; omega
 rcases h.2 with ⟨hv,h0⟩|⟨g,cap,cur,hv,hg,hh,hnc,hcm,_,_⟩
 ·injection hv with h1 h2 h3
  subst h1 h3
  subst h0
  rw [List.eq_nil_of_length_eq_zero hlen]
  exact Row8.nil
 ·injection hv with h1 h2 h3
  subst h1 h3
  refine ⟨hlen,hnc,hcm,(fun e=>by cases e),fun hn=>⟨g,0,rfl,?_,fun i d hi => ?_⟩⟩
  ·exact (h.lt g rfl).2
  ·have hc:=h.cells (g:=g) rfl i (.int .u8 (d.toNat:Int)) (by rw [cells8_get,hi]; rfl)
   by_cases h0:i=0
   ·subst h0; simpa [Addr.add] using hc
   ·simpa [Addr.add,h0] using hc
theorem Row8.news {w:World} {B:Nat} {a:Addr} {n c:Nat} {l:List UInt8} (h:Row8 w B (some a) n c l):∀ j u,(cells8 l)[j]? = some u→w.cell? (a.add j)=some u:=by
 intro j u hj
 rw [cells8_get] at hj
 cases hl:l[j]? with
 | none=>rw [hl] at hj; cases hj
 | some d =>
  rw [hl] at hj
  simp at hj
  subst hj
  have hlt:j<l.length:=by
   rcases Nat.lt_or_ge j l.length with h'|h'
   ·exact h'
   ·rw [List.getElem?_eq_none h'] at hl; cases hl
  obtain ⟨b,off,e,_,hc⟩:=h.cells (by have:=h.len; omega)
  injection e with e
  subst e
  have:=hc j d hl
  by_cases h0:j=0
  ·subst h0; simpa [Addr.add] using this
  ·simpa [Addr.add,h0] using this
theorem Row8.of_row {w:World} {a:Option Addr} {len cap:Nat} {zs:List Int}
  (h:(a=none∧len=0∧cap=0∧zs=[])∨∃ x,a=some x∧len≤cap∧cap≤maxLen∧zs.length=cap∧(∀ i,i<zs.length→w.cell? (x.add i)=some (.int .u8 (zs.getD i 0)))∧∀ n ∈ zs,(Lit.int .u8 n).wf=true) :
  ∃ l,Row8 w w.heap.size a len cap l:=by
 rcases h with ⟨rfl,rfl,rfl,rfl⟩|⟨x,rfl,hl,hm,hz,hc,hw⟩
 ·exact ⟨[],Row8.nil⟩
 ·refine ⟨(zs.take len).map fun n=>UInt8.ofNat n.toNat,⟨by simp; omega,hl,hm,(fun e=>by cases e),fun hn => ?_⟩⟩
  obtain ⟨b,off,spot⟩:=x
  have h0:=hc 0 oM
  have hspot:spot=none:=by simpa [Addr.add] using World.cell?_spot h0
  subst hspot
  have hb:b<w.heap.size:=by
   have:=block_lt_of_cell h0
   simpa [Addr.add] using this
  refine ⟨b,off,rfl,hb,fun i d hi => ?_⟩
  rw [List.getElem?_map,List.getElem?_take] at hi
  split at hi
  ·rename_i hlt
   have hiz:i<zs.length:=by omega
   rw [List.getElem?_eq_getElem hiz] at hi
   simp at hi
   subst hi
   have h1:=hc i hiz
   have hwf:=hw zs[i] (List.getElem_mem hiz)
   have hbd:=bounds_u8 hwf
   have e1:zs.getD i 0=zs[i]:=by rw [List.getD_eq_getElem?_getD,List.getElem?_eq_getElem hiz]; rfl
   rw [e1] at h1
   have e2:((UInt8.ofNat zs[i].toNat).toNat:Int)=zs[i]:=by rw [UInt8.toNat_ofNat']; omega
   rw [e2]
   by_cases hi0:i=0
   ·subst hi0; simpa [Addr.add] using h1
   ·simpa [Addr.add,hi0] using h1
  ·cases hi
def Made (w:World) (E:TypeId) (l:List UInt8) (v:Value) (w':World):Prop :=
 w'.ownsRow w.heap.size E 1 v l.length (cells8 l)∧Below w.heap.size w w'
theorem Made.slice {w w':World} {E:TypeId} {l:List UInt8} {v:Value} (h:Made w E l v w'):∃ a c,v = .slice a l.length c∧Row8 w' w'.heap.size a l.length c l∧Below w.heap.size w w':=by
 rcases h.1.2 with ⟨hv,h0⟩|⟨g,cap,cur,hv,_⟩
 ·refine ⟨none,0,by rw [hv,h0],?_,h.2⟩
  have:=h.1
  rw [hv] at this
  have e:l.length=0:=h0
  rw [e] at this ⊢
  exact Row8.own this
 ·have:=h.1
  rw [hv] at this
  exact ⟨_,_,hv,Row8.own this,h.2⟩
theorem below_dr {w w':World} (h:Below w.drew.heap.size w.drew w'):Below w.heap.size w w':=⟨h.os,h.tape,h.output,h.size,h.block⟩
theorem owns_mono {w:World} {base base':Nat} {e:TypeId} {size:Nat} {v:Value} {n:Nat} {xs:List Value} (h:w.ownsRow base e size v n xs) (hb:base'≤base):w.ownsRow base' e size v n xs:=by
 refine ⟨h.1,?_⟩
 rcases h.2 with h2|⟨g,cap,cur,hv,hg,r⟩
 ·exact Or.inl h2
 ·exact Or.inr ⟨g,cap,cur,hv,by omega,r⟩
theorem made_later {w w1 w2:World} {E:TypeId} {l:List UInt8} {v:Value} (hb:Below w.heap.size w w1) (h:Made w1 E l v w2):Made w E l v w2 :=
 ⟨owns_mono h.1 hb.size,hb.trans (h.2.mono hb.size)⟩
def RetMade (w:World) (E:TypeId) (l:List UInt8) (e:Ending) (w':World):Prop:=∃ v,e = .returned v∧Made w E l v w'
def str (l:List UInt8):ByteArray:=⟨l.toArray⟩
theorem str_eq (l m:List UInt8):((str l).toList == (str m).toList)=decide (l=m):=by
 have e:∀ k:List UInt8,(str k).toList=k:=by intro k; simp [str,ByteArray.toList_eq]
 rw [e,e]
 by_cases h:l=m <;> simp [h]
theorem conv_str {P:Program} {w:World} {B:Nat} {a:Option Addr} {n c:Nat} {l:List UInt8} (h:Row8 w B a n c l) {src dst e:TypeId}
  (hs:P.underlying src=some (.slice e)) (he:P.underlying e=some (.int .u8)) (hd:P.underlying dst=some .string) :
  (convert src dst (.slice a n c)).run P w = .ok (.string (str l)) w:=by
 rcases Nat.eq_zero_or_pos n with rfl|hn
 ·have hl:l=[]:=List.eq_nil_of_length_eq_zero h.len
  subst hl
  cases a with
  | none=>exact run_convert_bytes_nil w src e hs he _ _ dst hd
  | some x =>
   rw [run_convert_bytes_string w src dst e _ _ _ hs he hd,run_bytesToString w x 0 c [] (by simpa using run_loadCells_list (P:=P) w x [] (by simp))]
   rfl
 ·obtain ⟨b,off,rfl,_,hc⟩:=h.cells hn
  have hl:=h.len
  rw [run_convert_bytes_arg w src e hs he b off n c (l.map fun d=>(d.toNat:Int)) (by simpa using hl) (fun i hi=>by
   have hil:i<l.length:=by omega
   rw [hc i l[i] (List.getElem?_eq_getElem hil)]
   simp [List.getElem?_eq_getElem hil]) dst hd]
  congr 2
  unfold strOfNums str
  congr 1
  rw [List.map_map]
  refine congrArg List.toArray (Eq.trans (List.map_congr_left fun d _ => ?_) (List.map_id l))
  simp
end Go.Proofs.YtdomlccfjnkbjaaGreatDoor.Sm
namespace Go.Proofs.YtdomlccfjnkbjaaGreatDoor.Sm
open Go.RowKit
set_option maxHeartbeats 400000
def Stop (p:Prop):Prop:=p
theorem stop {p:Prop} (h:Stop p):p:=h
theorem wpList_append_row {P:Program} (w:World) {ops:Array Oper} {rest:List Oper} {o:Oper} {a:Act} {Q:Exit→Act→World→Prop} (hgd:o.guard=none) (s x:Operand) (t:TypeId)
  (ho:o.op = .call { callee := .builtin .append,args := #[s,x],argTypes := #[t,t] })
  (base:Nat) (e:TypeId) (i:TypeInfo) (z:Value) (ht:P.underlying t=some (.slice e)) (hi:P.info? e=some i) (hz:i.zero=some z) (hsize:i.size=1) (hby:i.bytes=1) (hzs:z.cells.size=1)
  (v:Value) (l:List UInt8) (hs:a.eval s=v) (hown:w.ownsRow base e 1 v l.length (cells8 l))
  (B:Nat) (A:Option Addr) (m c:Nat) (k:List UInt8) (hx:a.eval x = .slice A m c) (hr:Row8 w B A m c k) (hbytes:l.length+m≤140737488355328) (hbase:base≤w.heap.size)
  (h:∀ v' w',w'.ownsRow base e 1 v' (l++k).length (cells8 (l++k))→w.grownBy w' v.ownBlock→(∀ g,v.ownBlock=some g→base≤g)→wpList P ops Q rest (a.put o.dst v') w'):wpList P ops Q (o::rest) a w:=by
 have hlt:∀ g,v.ownBlock=some g→base≤g:=fun g hg=>(hown.lt g hg).1
 cases A with
 | none =>
  have hc0:=hr.none_ rfl
  have hm0:m=0:=by have:=hr.room; omega
  subst hc0 hm0
  have hk:k=[]:=List.eq_nil_of_length_eq_zero hr.len
  subst hk
  refine wpList_append_own_none hgd s x t ho base e i 1 ht hi v _ _ hs hown hx ?_
  exact h v w (by simpa using hown) (World.grownBy.refl w _) hlt
 | some ad =>
  refine wpList_append_own w hgd s x t ho base e i z 1 1 ht hi hz hsize hby hzs (by decide) v _ _ hs hown ad m c (cells8 k) hx (by rw [cells8_length,hr.len]; omega) hr.news (cells8_one k)
   (by unfold maxLen; omega) oM hbase ?_
  intro v' w' h1 h2 _
  have hl:l.length+m=(l++k).length:=by rw [List.length_append,hr.len]
  rw [hl,← cells8_append] at h1
  exact h v' w' h1 h2 hlt
theorem Row8.lit (w:World) (E:TypeId) (cs:Array Value) {fr:Nat×Nat} (l:List UInt8) (n:Nat) (hn:l.length=n) (hm:n≤maxLen) (hc:cs.toList=cells8 l) :
  Row8 (w.alloc (.cells cs E fr)) (w.heap.size+1) (some ⟨w.heap.size,0,none⟩) n n l:=by
 refine ⟨hn,Nat.le_refl _,hm,(fun e=>by cases e),fun _=>⟨_,0,rfl,by omega,fun i d hi => ?_⟩⟩
 rw [cell_of_row _ w.heap.size (0+i) cs E fr (heap_alloc_new w _),Nat.zero_add,← Array.getElem?_toList,hc,cells8_get,hi]
 rfl
end Go.Proofs.YtdomlccfjnkbjaaGreatDoor.Sm
namespace Go.Proofs.YtdomlccfjnkbjaaGreatDoor.Sm
open Go.ChangeShapes Go.WideShapes Go.ChangeAt Go.RowKit
set_option maxHeartbeats 400000
theorem byte_info:(Tryz.prog.info? 5).map (fun i=>(i.zero,i.size,i.bytes))=some (some (.int .u8 0),1,1):=by kernel_rfl
end Go.Proofs.YtdomlccfjnkbjaaGreatDoor.Sm
namespace Go.Proofs.YtdomlccfjnkbjaaGreatDoor.Sm
open Go.RowKit
set_option maxHeartbeats 400000
def cutA (a:Option Addr) (c k:Nat):Option Addr:=if c=k then a else a.map (·.add k)
theorem Row8.cut {w:World} {B:Nat} {a:Option Addr} {n c:Nat} {l:List UInt8} (h:Row8 w B a n c l) {lo hi:Nat} (h1:lo≤hi) (h2:hi≤n):Row8 w B (cutA a c lo) (hi-lo) (c-lo) ((l.take hi).drop lo):=by
 have hr:=h.room
 have hl:=h.len
 refine ⟨by rw [List.length_drop,List.length_take]; omega,by omega,by have:=h.cap; omega,fun e => ?_,fun hp => ?_⟩
 ·have:a=none:=by
   unfold cutA at e
   split at e
   ·exact e
   ·simpa using e
  have:=h.none_ this
  omega
 ·obtain ⟨b,off,e,hb,hc⟩:=h.cells oM
  subst e
  refine ⟨b,off+lo,?_,hb,fun i d hi' => ?_⟩
  ·unfold cutA
   rw [if_neg oM]
   simp only [Option.map_some,Addr.add]
   by_cases h0:lo=0
   ·subst h0; simp
   ·simp [h0]
  ·rw [List.getElem?_drop,List.getElem?_take] at hi'
   split at hi'
   ·rw [Nat.add_assoc]
    exact hc _ d hi'
   ·cases hi'
section
variable {P:Program} {t e:TypeId} {i:TypeInfo} (ht:P.underlying t=some (.slice e)) (hi:P.info? e=some i) (hs:i.size=1) (w:World) (a:Option Addr) (n c lo h:Nat)
include ht hi hs
end
structure Beside (g:Nat) (w w':World):Prop where
 os:w'.os=w.os
 tape:w'.tape=w.tape
 output:w'.output=w.output
 size:w.heap.size≤w'.heap.size
 block:∀ k,k<w.heap.size→k≠g→w'.heap[k]? = w.heap[k]?
theorem Beside.refl (g:Nat) (w:World):Beside g w w:=⟨rfl,rfl,rfl,Nat.le_refl _,fun _ _ _=>rfl⟩
theorem Beside.trans {g:Nat} {a b c:World} (h:Beside g a b) (k:Beside g b c):Beside g a c :=
 ⟨k.os.trans h.os,k.tape.trans h.tape,k.output.trans h.output,Nat.le_trans h.size k.size,fun i hi hg=>(k.block i (Nat.lt_of_lt_of_le hi h.size) hg).trans (h.block i hi hg)⟩
theorem Beside.of_below {g:Nat} {w w':World} (h:Below w.heap.size w w'):Beside g w w':=⟨h.os,h.tape,h.output,h.size,fun k hk _=>h.block k hk⟩
theorem Beside.below {g B:Nat} {w w':World} (h:Beside g w w') (hB:B≤g) (hs:B≤w.heap.size):Below B w w':=⟨h.os,h.tape,h.output,h.size,fun k hk=>h.block k oM oM⟩
theorem Beside.setCell {g:Nat} {a w:World} (h:Beside g a w) (j:Nat) (u:Value):Beside g a (w.setCell ⟨g,j,none⟩ u) :=
 ⟨h.os,h.tape,h.output,by simpa using h.size,fun k hk hg=>(Below.heap_setCell w ⟨g,j,none⟩ u k hg).trans (h.block k hk hg)⟩
theorem Beside.drewN {g:Nat} {a w:World} (h:Beside g a w) (n:Nat):Beside g a (w.drewN n):=⟨h.os,h.tape,h.output,h.size,h.block⟩
theorem owns_slice {w:World} {base:Nat} {E:TypeId} {v:Value} {l:List UInt8} (h:w.ownsRow base E 1 v l.length (cells8 l)):∃ a c,v = .slice a l.length c∧Row8 w w.heap.size a l.length c l:=by
 rcases h.2 with ⟨hv,h0⟩|⟨g,cap,cur,hv,_⟩
 ·refine ⟨none,0,by rw [hv,h0],?_⟩
  rw [hv] at h
  rw [h0] at h ⊢
  exact Row8.own h
 ·rw [hv] at h
  exact ⟨_,_,hv,Row8.own h⟩
end Go.Proofs.YtdomlccfjnkbjaaGreatDoor.Sm
namespace Go.Proofs.YtdomlccfjnkbjaaGreatDoor.Sm
open Go.RowKit Go.ChangeShapes Go.WideShapes
set_option maxHeartbeats 400000
structure RowC (w:World) (B:Nat) (a:Option Addr) (n c z:Nat) (vs:List Value):Prop where
 len:vs.length=n*z
 room:n≤c
 cap:c≤maxLen
 none_:a=none→c=0
 cells:0<n→∃ b off,a=some ⟨b,off,none⟩∧b<B∧∀ i v,vs[i]? = some v→w.cell? ⟨b,off+i,none⟩=some v
section
variable {w w':World} {B B' n c z:Nat} {a:Option Addr} {vs:List Value}
theorem RowC.nil:RowC w B none 0 0 z []:=⟨by simp,Nat.le_refl _,by unfold maxLen; omega,fun _=>rfl,fun h=>absurd h oM⟩
theorem RowC.keep (h:RowC w B a n c z vs) (hk:∀ p:Addr,p.block<B→w'.cell? p=w.cell? p):RowC w' B a n c z vs :=
 ⟨h.len,h.room,h.cap,h.none_,fun hn=>by
  obtain ⟨b,off,e,hb,hc⟩:=h.cells hn
  exact ⟨b,off,e,hb,fun i d hi=>(hk ⟨b,off+i,none⟩ hb).trans (hc i d hi)⟩⟩
theorem RowC.below (h:RowC w B a n c z vs) (hb:Below B w w'):RowC w' B a n c z vs:=h.keep fun _ hp=>hb.cell hp
theorem RowC.drewN (h:RowC w B a n c z vs) (k:Nat):RowC (w.drewN k) B a n c z vs:=h.keep fun _ _=>rfl
theorem RowC.drew (h:RowC w B a n c z vs):RowC w.drew B a n c z vs:=h.keep fun _ _=>rfl
theorem RowC.more (h:RowC w B a n c z vs) (hB:B≤B'):RowC w B' a n c z vs :=
 ⟨h.len,h.room,h.cap,h.none_,fun hn=>by
  obtain ⟨b,off,e,hb,hc⟩:=h.cells hn
  exact ⟨b,off,e,by omega,hc⟩⟩
theorem RowC.later (h:RowC w w.heap.size a n c z vs) (hb:Below w.heap.size w w'):RowC w' w'.heap.size a n c z vs:=(h.below hb).more hb.size
theorem RowC.small (h:RowC w B a n c z vs):n≤9223372036854775807:=by have h1:=h.room; have h2:=h.cap; unfold maxLen at h2; omega
theorem RowC.at_ (h:RowC w B a n c z vs) {k:Nat} (hk:k<n):∃ b off,a=some ⟨b,off,none⟩∧b<B∧∀ j v,vs[k*z+j]? = some v→w.cell? ⟨b,off+k*z+j,none⟩=some v:=by
 obtain ⟨b,off,e,hb,hc⟩:=h.cells oM
 refine ⟨b,off,e,hb,fun j v hv => ?_⟩
 rw [Nat.add_assoc]
 exact hc _ v hv
end
theorem RowC.own {w:World} {base:Nat} {e:TypeId} {a:Option Addr} {n c z:Nat} {vs:List Value} (h:w.ownsRow base e z (.slice a n c) n vs):RowC w w.heap.size a n c z vs:=by
 have hlen:vs.length=n*z:=h.1
 rcases h.2 with ⟨hv,h0⟩|⟨g,cap,cur,hv,hg,hh,hnc,hcm,_,_⟩
 ·injection hv with h1 h2 h3
  subst h1 h3
  subst h0
  have hnil:vs=[]:=List.eq_nil_of_length_eq_zero oM
  rw [hnil]
  exact RowC.nil
 ·injection hv with h1 h2 h3
  subst h1 h3
  refine ⟨hlen,hnc,hcm,(fun e=>by cases e),fun hn=>⟨g,0,rfl,?_,fun i d hi => ?_⟩⟩
  ·exact (h.lt g rfl).2
  ·have hc:=h.cells (g:=g) rfl i d hi
   by_cases h0:i=0
   ·subst h0; simpa [Addr.add] using hc
   ·simpa [Addr.add,h0] using hc
theorem RowC.news {w:World} {B:Nat} {a:Addr} {n c z:Nat} {vs:List Value} (h:RowC w B (some a) n c z vs):∀ j u,vs[j]? = some u→w.cell? (a.add j)=some u:=by
 intro j u hj
 have hlt:j<vs.length:=by
  rcases Nat.lt_or_ge j vs.length with h'|h'
  ·exact h'
  ·rw [List.getElem?_eq_none h'] at hj; cases hj
 have hn:0<n:=by
  rcases Nat.eq_zero_or_pos n with h0|h0
  ·have:=h.len; rw [h0] at this; omega
  ·exact h0
 obtain ⟨b,off,e,_,hc⟩:=h.cells hn
 injection e with e
 subst e
 have:=hc j u hj
 by_cases h0:j=0
 ·subst h0; simpa [Addr.add] using this
 ·simpa [Addr.add,h0] using this
theorem RowC.lit (w:World) (E:TypeId) (cs:Array Value) {fr:Nat×Nat} (n z:Nat) (hn:cs.size=n*z) (hm:n≤maxLen) :
  RowC (w.alloc (.cells cs E fr)) (w.heap.size+1) (some ⟨w.heap.size,0,none⟩) n n z cs.toList:=by
 refine ⟨by simpa using hn,Nat.le_refl _,hm,(fun e=>by cases e),fun _=>⟨_,0,rfl,by omega,fun i d hi => ?_⟩⟩
 rw [cell_of_row _ w.heap.size (0+i) cs E fr (heap_alloc_new w _),Nat.zero_add,← Array.getElem?_toList,hi]
def cellsI (l:List Int):List Value:=l.map fun d => .int .i64 d
theorem cellsI_get (l:List Int) (i:Nat):(cellsI l)[i]? = (l[i]?).map fun d => .int .i64 d:=by simp [cellsI]
theorem cellsI_length (l:List Int):(cellsI l).length=l.length:=by simp [cellsI]
structure RowI (w:World) (B:Nat) (a:Option Addr) (n c:Nat) (l:List Int):Prop where
 row:RowC w B a n c 1 (cellsI l)
 wf:∀ d ∈ l, -9223372036854775808≤d∧d≤9223372036854775807
section
variable {w w':World} {B B' n c:Nat} {a:Option Addr} {l:List Int}
theorem RowI.nil:RowI w B none 0 0 []:=⟨RowC.nil,by simp⟩
theorem RowI.len (h:RowI w B a n c l):l.length=n:=by have:=h.row.len; rw [cellsI_length] at this; omega
theorem RowI.below (h:RowI w B a n c l) (hb:Below B w w'):RowI w' B a n c l:=⟨h.row.below hb,h.wf⟩
theorem RowI.drewN (h:RowI w B a n c l) (k:Nat):RowI (w.drewN k) B a n c l:=⟨h.row.drewN k,h.wf⟩
theorem RowI.drew (h:RowI w B a n c l):RowI w.drew B a n c l:=⟨h.row.drew,h.wf⟩
theorem RowI.more (h:RowI w B a n c l) (hB:B≤B'):RowI w B' a n c l:=⟨h.row.more hB,h.wf⟩
theorem RowI.later (h:RowI w w.heap.size a n c l) (hb:Below w.heap.size w w'):RowI w' w'.heap.size a n c l:=⟨h.row.later hb,h.wf⟩
theorem RowI.at_ (h:RowI w B a n c l) {k:Nat} (hk:k<n):∃ b off d,a=some ⟨b,off,none⟩∧b<B∧l[k]? = some d∧w.cell? ⟨b,off+k,none⟩=some (.int .i64 d) ∧ -9223372036854775808≤d∧d≤9223372036854775807:=by
 obtain ⟨b,off,e,hb,hc⟩:=h.row.cells oM
 have hl:k<l.length:=by have:=h.len; omega
 have hg:=List.getElem?_eq_getElem hl
 have hw:=h.wf l[k] (List.getElem_mem hl)
 exact ⟨b,off,l[k],e,hb,hg,hc k _ (by rw [cellsI_get,hg]; rfl),hw.1,hw.2⟩
end
theorem RowI.of_trod {H:Type} {enc:TypeId×Value→H} {P:Program} {W:World} {t e:TypeId} {fuel:Nat} {u:Value} {y:DataW H×List MemPlace} (ht:P.underlying t=some (.slice e)) (he:P.underlying e=some (.int .i64)) (hc:P.cellsOf e=1)
  (h:DataW.trod enc P W 0 (fun _=>true) true fuel t [u]=some y):∃ a n c l,u = .slice a n c∧RowI W W.heap.size a n c l:=by
 rcases open_ints ht he hc h with ⟨hcs,_⟩|⟨x,n,c,zs,hcs,_,hl,hm,hz,_,hcell,hwz⟩
 ·injection hcs with hcs
  exact ⟨none,0,0,[],hcs,RowI.nil⟩
 ·injection hcs with hcs
  refine ⟨some x,n,c,zs.take n,hcs,?_⟩
  have hz':zs.length=c:=by simpa using hz
  have hlen:(zs.take n).length=n:=by rw [List.length_take]; omega
  refine ⟨⟨by rw [cellsI_length,hlen]; omega,hl,hm,(fun e=>by cases e),fun hn => ?_⟩,fun d hd => ?_⟩
  ·obtain ⟨b,off,spot⟩:=x
   have h0:=hcell 0 oM
   have hspot:spot=none:=by simpa [Addr.add] using World.cell?_spot h0
   subst hspot
   have hb:b<W.heap.size:=by
    have:=block_lt_of_cell h0
    simpa [Addr.add] using this
   refine ⟨b,off,rfl,hb,fun i v hi => ?_⟩
   rw [cellsI_get,List.getElem?_take] at hi
   split at hi
   ·have hiz:i<zs.length:=by omega
    rw [List.getElem?_eq_getElem hiz] at hi
    simp at hi
    subst hi
    have h1:=hcell i hiz
    have e1:zs.getD i 0=zs[i]:=by rw [List.getD_eq_getElem?_getD,List.getElem?_eq_getElem hiz]; rfl
    rw [e1] at h1
    by_cases hi0:i=0
    ·subst hi0; simpa [Addr.add] using h1
    ·simpa [Addr.add,hi0] using h1
   ·simp at hi
  ·exact bounds_i64 (hwz d (List.mem_of_mem_take hd))
theorem Row8.of_trod1 {H:Type} {enc:TypeId×Value→H} {P:Program} {W:World} {t e:TypeId} {fuel:Nat} {u:Value} {y:DataW H×List MemPlace} (ht:P.underlying t=some (.slice e)) (he:P.underlying e=some (.int .u8)) (hc:P.cellsOf e=1)
  (h:DataW.trod enc P W 0 (fun _=>true) true fuel t [u]=some y):∃ a n c l,u = .slice a n c∧Row8 W W.heap.size a n c l:=by
 rcases open_ints ht he hc h with ⟨hcs,_⟩|⟨x,n,c,zs,hcs,_,hl,hm,hz,_,hcell,hwz⟩
 ·injection hcs with hcs
  exact ⟨none,0,0,[],hcs,Row8.nil⟩
 ·injection hcs with hcs
  obtain ⟨l,hr⟩:=Row8.of_row (w:=W) (a:=some x) (len:=n) (cap:=c) (zs:=zs) (.inr ⟨x,rfl,hl,hm,by simpa using hz,hcell,hwz⟩)
  exact ⟨some x,n,c,l,hcs,hr⟩
theorem open_cells {H:Type} {enc:TypeId×Value→H} {P:Program} {W:World} {base:Nat} {spare:Nat→Bool} {held:Bool} {r:Reach} {b0:Nat} {t:TypeId} {fs:Array Field} {v:Value} {d:DataW H} {p:List MemPlace}
  (hs:P.underlying t=some (.struct fs)) (hone:Deep.oneCellFields P fs=true) (hC:P.cellsOf t=fs.size) (hv:Value.okWide P W r b0 t v) (h:DataW.Trod enc P W base spare held t v d p) :
  ∃ cs:List Value,v = .agg cs.toArray∧cs.length=fs.size∧∀ (j:Nat) (f:Field),fs[j]? = some f→∃ u n y,cs[j]? = some u∧DataW.trod enc P W base spare held n f.type [u]=some y:=by
 obtain ⟨cs,rfl,hsz⟩:=okWide_struct hs hv
 obtain ⟨l⟩:=cs
 obtain ⟨fuel,hf⟩:=h
 obtain ⟨xs,n,_,_,_,hlen,hg⟩:=DataW.trod_struct hs hf
 have hll:l.length=fs.size:=hsz.trans hC
 refine ⟨l,rfl,hll,fun j f hj => ?_⟩
 obtain ⟨o,k⟩:=Deep.hone_of hone j f hj
 have hjl:j<fs.size:=(Array.getElem?_eq_some_iff.1 hj).1
 have h1:=hg j f hj
 rw [o,k] at h1
 have h1':((Value.agg l.toArray).cells.toList.drop j).take 1=[l[j]'oM]:=by
  show (l.drop j).take 1=_
  rw [List.drop_eq_getElem_cons oM]
  rfl
 rw [h1'] at h1
 have hys:xs[j]? = some (xs[j]'oM):=List.getElem?_eq_getElem oM
 exact ⟨l[j]'oM,n,_,List.getElem?_eq_getElem oM,h1.trans hys⟩
end Go.Proofs.YtdomlccfjnkbjaaGreatDoor.Sm
namespace Go.Proofs.YtdomlccfjnkbjaaGreatDoor.Sm
open Go.RowKit
def Later (w u:World):Prop:=Below w.heap.size w u
theorem Later.refl (w:World):Later w w:=Below.refl _ _
theorem Later.trans {w u v:World} (h:Later w u) (k:Later u v):Later w v:=Below.trans h (k.mono h.size)
section
variable {P:Program} {ops:Array Oper} {Q:Exit→Act→World→Prop}
end
end Go.Proofs.YtdomlccfjnkbjaaGreatDoor.Sm
namespace Go.Proofs.YtdomlccfjnkbjaaGreatDoor.Sm.By
open Go.RowKit
section
variable {P:Program} {ops:Array Oper} {Q:Exit→Act→World→Prop} {g:Nat}
end
end Go.Proofs.YtdomlccfjnkbjaaGreatDoor.Sm.By
namespace Go.Proofs.YtdomlccfjnkbjaaGreatDoor.Sm
end Go.Proofs.YtdomlccfjnkbjaaGreatDoor.Sm
namespace Go.Proofs.YtdomlccfjnkbjaaGreatDoor.Sm
open Go.RowKit Go.ChangeShapes
theorem Row8.of_trod {H:Type} {enc:TypeId×Value→H} {P:Program} {W:World} {t e:TypeId} {a:Option Addr} {len cap:Nat} {d:DataW H} {p:List MemPlace} (ht:P.underlying t=some (.slice e)) (he:P.underlying e=some (.int .u8)) (hc:P.cellsOf e=1)
  (h:DataW.Trod enc P W 0 (fun _=>true) true t (.slice a len cap) d p):∃ l,Row8 W W.heap.size a len cap l:=by
 obtain ⟨fuel,hf⟩:=h
 rcases open_ints ht he hc hf with ⟨hcs,_⟩|⟨x,n,c,zs,hcs,_,hl,hm,hz,_,hcell,hwz⟩
 ·simp [Value.cells] at hcs
  obtain ⟨rfl,rfl,rfl⟩:=hcs
  exact ⟨[],Row8.nil⟩
 ·simp [Value.cells] at hcs
  obtain ⟨rfl,rfl,rfl⟩:=hcs
  exact Row8.of_row (.inr ⟨x,rfl,hl,hm,by simpa using hz,hcell,hwz⟩)
end Go.Proofs.YtdomlccfjnkbjaaGreatDoor.Sm
