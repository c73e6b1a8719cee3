/- Chapter 5's words as plain data: parts, links, networks, ports; and as deep values. -/
import Derived.Test.YtdomlccfjnkbjaaDpB
import Derived.Test.YtdomlccfjnkbjaaDpC
namespace Go.Proofs.Ytdomlccfjnkbjaa.Pl
open Go.RowKit Go.Proofs.Ytdomlccfjnkbjaa.Sm Go.Proofs.Ytdomlccfjnkbjaa.Dp
structure Part where
 nodes:Int
 faults:Int
deriving DecidableEq,Inhabited
structure Link where
 a:Int
 b:Int
 pa0:Int
 pa1:Int
 pb0:Int
 pb1:Int
deriving DecidableEq,Inhabited
structure Config where
 parts:List Part
 links:List Link
 cycle:Int
 lead:Int
 slot:Int
 window:Int
 drift:Int
 rate:Int
 ages:Int
 lost:Int
 listen:Int
 span:Int
 room:Int
deriving DecidableEq,Inhabited
structure Port where
 node:Int
 link:Int
 gate:Int
 side:Int
deriving DecidableEq,Inhabited
def Part.d (p:Part):List D:=[I p.nodes,I p.faults]
def Link.d (l:Link):List D:=[I l.a,I l.b,I l.pa0,I l.pa1,I l.pb0,I l.pb1]
def Port.d (p:Port):List D:=[I p.node,I p.link,I p.gate,I p.side]
def Config.d (c:Config):List D:=[sl' 2 Part.d c.parts,sl' 6 Link.d c.links,I c.cycle,I c.lead,I c.slot,I c.window,I c.drift,I c.rate,I c.ages,I c.lost,I c.listen,I c.span,I c.room]
end Go.Proofs.Ytdomlccfjnkbjaa.Pl
