/- Frames, and what is heard, as deep values: definitions alone. -/
import Derived.Test.YtkhdnlkdcikdmaaDpC
namespace Go.Proofs.Ytkhdnlkdcikdmaa.Fr
open Go.RowKit Go.Proofs.Ytkhdnlkdcikdmaa.Sm Go.Proofs.Ytkhdnlkdcikdmaa.Dp
structure Frame where
 kind:Int
 part:Int
 node:Int
 wait:Int
 mask:Int
 link:Int
 flag:Bool
 cycle:Int
 offset:Int
 ages:List Int
 frm:Int
 to:Int
 seq:Int
 body:List UInt8
def bare (k p n:Int):Frame:=⟨k,p,n,0,0,0,false,0,0,[],0,0,0,[]⟩
def frC (f:Frame) (A B:D):List D:=[I f.kind,I f.part,I f.node,I f.wait,I f.mask,I f.link,.v (.bool f.flag),I f.cycle,I f.offset,A,I f.frm,I f.to,I f.seq,B]
def frD (f:Frame):List D:=frC f (sl' 1 (fun x=>[I x]) f.ages) (bytesD f.body)
end Go.Proofs.Ytkhdnlkdcikdmaa.Fr
namespace Go.Proofs.Ytkhdnlkdcikdmaa.Pl
open Go.RowKit Go.Proofs.Ytkhdnlkdcikdmaa.Sm Go.Proofs.Ytkhdnlkdcikdmaa.Dp
open Go.Proofs.Ytkhdnlkdcikdmaa.Fr (bare frD frC)
abbrev Frame:=Fr.Frame
instance:Inhabited Frame:=⟨bare 0 0 0⟩
structure Heard where
 slot:Int
 frame:Frame
 at_:Int
deriving Inhabited
def Heard.d (h:Heard):List D:=I h.slot::(frD h.frame++[I h.at_])
end Go.Proofs.Ytkhdnlkdcikdmaa.Pl
