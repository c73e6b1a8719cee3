/- What any call draws is drawn behind what was drawn: over the machine's steps. No function of the program in it. -/
import Derived.RunT
import Derived.Calls
namespace Go.Proofs.Ytkhdnlkdcikdmaa.Dp
open Go
set_option maxHeartbeats 4000000
set_option linter.unusedVariables false
theorem ask_le {α : Type}:∀ (a:Ask α) (w:World),w.drawn≤(w.ask a).2.drawn
 | .done a,w=>Nat.le_refl _
 | .ask what range k,w=>by
  unfold World.ask
  dsimp only
  split
  ·exact ask_le (k 0) w
  ·exact Nat.le_trans (Nat.le_succ _) (ask_le (k _) { w with drawn:=w.drawn+1 })
theorem sys_le (w:World) (c:Sys):w.drawn≤(w.sys c).2.drawn:=by
 have h:=ask_le (Kernel.perform c w.os) w
 unfold World.sys
 revert h
 generalize w.ask (Kernel.perform c w.os)=x
 intro h
 split
 ·exact Nat.le_refl _
 ·exact h
theorem farStore_le {p:Program} {w w':World} {a:Addr} {v:Value} {b:Bool} {l:List Addr} (h:w.farStore p a v b = .ok (w',l)):w.drawn≤w'.drawn:=by
 unfold World.farStore at h
 split at h
 ·split at h
  ·rename_i r hr
   cases h
   unfold World.viewStore at hr
   simp only [bind,Except.bind,pure,Except.pure] at hr
   repeat' first
    | (cases hr; done)
    | (simp only [Except.ok.injEq,Prod.mk.injEq] at hr; rw [← hr.1]; exact Nat.le_refl _)
    | split at hr
  ·cases h
 ·cases h
def rwd {α : Type}:Result α → World
 | .ok _ w=>w
 | .halt _ w=>w
theorem run_le {α : Type} (p:Program) (m:Sem α):∀ w:World,w.drawn≤(rwd (m.run p w)).drawn:=by
 induction m with
 | pure a=>intro w; exact Nat.le_refl _
 | load m a k ih =>
  intro w
  unfold Sem.run
  split
  ·exact ih _ w
  ·split
   ·exact ih _ w
   ·exact Nat.le_refl _
 | store m a v k ih =>
  intro w
  unfold Sem.run
  split
  all_goals (rename_i heq; cases heq)
  ·exact Nat.le_refl _
  ·exact Nat.le_refl _
  ·split
   ·split
    ·exact Nat.le_refl _
    ·refine Nat.le_trans ?_ (ih _); exact Nat.le_refl _
   ·split
    ·exact Nat.le_trans (farStore_le ‹_›) (ih _)
    ·exact Nat.le_refl _
 | new o k ih=>intro w; unfold Sem.run; exact ih _ { w with heap:=w.heap.push o }
 | shape r k ih=>intro w; unfold Sem.run; exact ih _ w
 | freeze a n k ih=>intro w; unfold Sem.run; refine Nat.le_trans ?_ (ih (w.freeze a n)); unfold World.freeze; split <;> exact Nat.le_refl _
 | frozen a k ih=>intro w; unfold Sem.run; exact ih _ w
 | getObj r k ih =>
  intro w
  unfold Sem.run
  split
  ·exact Nat.le_refl _
  ·exact ih _ w
  ·exact Nat.le_refl _
 | setObj r o k ih =>
  intro w
  unfold Sem.run
  split
  ·exact Nat.le_refl _
  ·exact ih { w with heap:=w.heap.setIfInBounds r o }
  ·exact Nat.le_refl _
 | choose q k ih =>
  intro w
  unfold Sem.run
  split
  ·exact ih _ w
  ·exact Nat.le_trans (Nat.le_succ _) (ih _ { w with drawn:=w.drawn+1 })
 | sys c k ih=>intro w; unfold Sem.run; exact Nat.le_trans (sys_le w c) (ih _ _)
 | program k ih=>intro w; unfold Sem.run; exact ih _ w
 | mark m k ih=>intro w; unfold Sem.run; exact ih w
 | halt h=>intro w; exact Nat.le_refl _
theorem run_ok {α : Type} {p:Program} {m:Sem α} {w w':World} {x : α} (h:m.run p w = .ok x w'):w.drawn≤w'.drawn:=by
 have:=run_le p m w; rw [h] at this; exact this
theorem run_halt {α : Type} {p:Program} {m:Sem α} {w w':World} {x:Halt} (h:m.run p w = .halt x w'):w.drawn≤w'.drawn:=by
 have:=run_le p m w; rw [h] at this; exact this
theorem runT_ok {α : Type} {p:Program} {m:Sem α} {w w':World} {x : α} {es es':Array Event} (h:m.runT p w es=(.ok x w',es')):w.drawn≤w'.drawn :=
 run_ok (p:=p) (m:=m) (x:=x) (by rw [← Sem.runT_fst p m w es,h])
theorem runT_halt {α : Type} {p:Program} {m:Sem α} {w w':World} {x:Halt} {es es':Array Event} (h:m.runT p w es=(.halt x w',es')):w.drawn≤w'.drawn :=
 run_halt (p:=p) (m:=m) (x:=x) (by rw [← Sem.runT_fst p m w es,h])
theorem runI_ok {α : Type} {p:Program} {m:Sem α} {w w':World} {x : α} {b:Bool} {es es' es1:Array Event} (h:(if b=true then m.runT p w es else (m.run p w,es1))=(.ok x w',es')):w.drawn≤w'.drawn:=by
 split at h
 ·exact runT_ok h
 ·exact run_ok (congrArg Prod.fst h)
theorem runI_halt {α : Type} {p:Program} {m:Sem α} {w w':World} {x:Halt} {b:Bool} {es es' es1:Array Event} (h:(if b=true then m.runT p w es else (m.run p w,es1))=(.halt x w',es')):w.drawn≤w'.drawn:=by
 split at h
 ·exact runT_halt h
 ·exact run_halt (congrArg Prod.fst h)
theorem runF_ok {α : Type} {p:Program} {m:Sem α} {w w':World} {x : α} {es:Array Event} (h:(m.runT p w es).1 = .ok x w'):w.drawn≤w'.drawn:=run_ok ((Sem.runT_fst p m w es).symm.trans h)
theorem runF_halt {α : Type} {p:Program} {m:Sem α} {w w':World} {x:Halt} {es:Array Event} (h:(m.runT p w es).1 = .halt x w'):w.drawn≤w'.drawn:=run_halt ((Sem.runT_fst p m w es).symm.trans h)
def GLe (d:Nat):GStep→Prop
 | .go _ w _=>d≤w.drawn
 | .comm _ _ _ _ w _=>d≤w.drawn
 | .spawn _ _ w _=>d≤w.drawn
 | .count _ w _=>d≤w.drawn
 | .timer _ _ w _=>d≤w.drawn
 | .alone _ _ w _=>d≤w.drawn
 | .newcoro _ _ _ w _=>d≤w.drawn
 | .coroswitch _ _ _ w _=>d≤w.drawn
 | .collect _ w _=>d≤w.drawn
 | .watch _ w _=>d≤w.drawn
 | .ended _ _ _=>True
theorem GLe.after {d:Nat} {es:Array Event} {g:GStep} (h:GLe d g):GLe d (g.after es):=by cases g <;> exact h
theorem GLe.mono {d d':Nat} {g:GStep} (h:GLe d g) (hd:d'≤d):GLe d' g:=by cases g <;> first|exact Nat.le_trans hd h|trivial
macro "gle" : tactic => `(tactic| first
 | trivial
 | exact Nat.le_refl _
 | exact run_ok ‹_›
 | exact run_halt ‹_›
 | exact runT_ok ‹_›
 | exact runT_halt ‹_›
 | exact runF_ok ‹_›
 | exact runF_halt ‹_›
 | exact runI_ok ‹_›
 | exact runI_halt ‹_›)
theorem gle_dieOf {fr:Frame} {ah:List ByteArray} {m:String} {b:Bool} {w:World}:GLe w.drawn (dieOf fr ah m b w):=Nat.le_refl _
theorem gle_endThrow {fr:Frame} {m:String} {w:World}:GLe w.drawn (endThrow fr m w):=Nat.le_refl _
theorem gle_endPrinting {p:Program} {fr:Frame} {v:Value} {w:World}:GLe w.drawn (endPrinting p fr v w):=by
 unfold endPrinting
 dsimp only
 repeat' first
  | gle
  | split
theorem gle_endWith {w:World} {n:Nat} {t:ByteArray} {o:Outcome} {d:Nat}:GLe d (endWith w n t o):=by
 unfold endWith
 dsimp only
 repeat' first
  | trivial
  | split
theorem gle_writeOn {p:Program} {fr:Frame} {d:Dying} {f:Fatal} {w:World}:GLe w.drawn (writeOn p fr d f w):=by
 unfold writeOn
 dsimp only
 split
 ·trivial
 ·split <;> gle
theorem gle_endFatal {p:Program} {fr:Frame} {cs:List Frame} {d:Option Dying} {m:String} {w:World}:GLe w.drawn (endFatal p fr cs d m w):=by
 unfold endFatal
 extract_lets
 split
 ·exact gle_dieOf.mono (run_ok ‹_›)
 ·trivial
 ·trivial
theorem gle_die {p:Program} {fr:Frame} {d:Dying} {w:World}:GLe w.drawn (die p fr d w):=by
 unfold die
 dsimp only
 repeat' first
  | exact gle_writeOn
  | exact gle_endWith
  | exact gle_endPrinting.mono (runT_halt ‹_›)
  | exact gle_endPrinting.mono (runF_halt ‹_›)
  | gle
  | refine GLe.after ?_
  | split
theorem gle_doReturn {p:Program} {m:Bool} {fr:Frame} {cs:List Frame} {d:Option Dying} {v:Value} {w:World}:GLe w.drawn (doReturn p m fr cs d v w):=by
 unfold doReturn
 dsimp only
 repeat' first
  | gle
  | split
theorem gle_callDeferred {p:Program} {fr:Frame} {cs:List Frame} {d:Option Dying} {df:Deferred} {w:World}:GLe w.drawn (callDeferred p fr cs d df w):=by
 unfold callDeferred
 dsimp only
 repeat' first
  | gle
  | exact gle_endFatal.mono (runT_halt ‹_›)
  | exact gle_endFatal.mono (runF_halt ‹_›)
  | exact gle_endThrow.mono (runT_halt ‹_›)
  | exact gle_endThrow.mono (runF_halt ‹_›)
  | refine GLe.after ?_
  | split
theorem gle_unwind {p:Program} {m:Bool} {fr:Frame} {cs:List Frame} {d:Option Dying} {w:World}:GLe w.drawn (unwind p m fr cs d w):=by
 unfold unwind
 dsimp only
 repeat' first
  | exact gle_callDeferred
  | exact gle_doReturn.mono (runT_ok ‹_›)
  | exact gle_doReturn.mono (runF_ok ‹_›)
  | exact gle_doReturn
  | exact gle_endPrinting
  | gle
  | refine GLe.after ?_
  | split
theorem gle_early {p:Program} {fr:Frame} {cs:List Frame} {d:Option Dying} {g:Nat} {w:World}:GLe w.drawn (early p fr cs d g w):=by
 unfold early
 dsimp only
 repeat' first
  | gle
  | (refine Nat.le_trans (run_ok ‹Sem.run _ _ _=_›) ?_; exact Nat.le_refl _)
  | split
theorem gle_apply {p:Program} {b:Bool} {fr:Frame} {cs:List Frame} {d:Option Dying} {s:Sem Next} {w:World}:GLe w.drawn (stepG.apply p b fr cs d s w):=by
 unfold stepG.apply
 dsimp only
 generalize hx:(if b=true then s.runT p w #[] else (s.run p w,#[]))=x
 obtain ⟨r,es⟩:=x
 dsimp only
 refine GLe.after ?_
 cases r with
 | ok v w1 =>
  have h:=runI_ok hx
  refine GLe.mono ?_ h
  cases v <;> try dsimp only
  all_goals (repeat' first
   | trivial
   | exact Nat.le_refl _
   | exact gle_endThrow
   | split)
 | halt v w1 =>
  have h:=runI_halt hx
  refine GLe.mono ?_ h
  cases v <;> try dsimp only
  all_goals (repeat' first
   | trivial
   | exact Nat.le_refl _
   | exact gle_endThrow
   | exact gle_endFatal
   | exact gle_early
   | (rename_i hq; cases hq <;> first|trivial|exact Nat.le_refl _|exact gle_early|exact gle_endFatal|exact gle_endThrow)
   | split)
theorem gle_oper {p:Program} {b:Bool} {fr:Frame} {cs:List Frame} {d:Option Dying} {w:World}:GLe w.drawn (stepG.oper p b fr cs d w):=by
 unfold stepG.oper
 repeat' first
  | exact gle_apply
  | trivial
  | split
theorem gle_elim {d:Nat} {α : Type} {o:Option α} {a:GStep} {f : α → GStep} (ha:GLe d a) (h:∀ x,GLe d (f x)):GLe d (o.elim a f):=by cases o <;> first|exact ha|exact h _
theorem gle_exec {p:Program} {m b:Bool} {fr:Frame} {cs:List Frame} {d:Option Dying} {w:World}:GLe w.drawn (stepG.exec p m b fr cs d w):=by
 unfold stepG.exec
 dsimp only
 repeat' first
  | exact gle_apply
  | exact gle_oper
  | exact gle_apply.mono (runT_ok ‹_›)
  | exact gle_apply.mono (runF_ok ‹_›)
  | exact gle_doReturn.mono (runT_ok ‹_›)
  | exact gle_doReturn.mono (runF_ok ‹_›)
  | gle
  | refine GLe.after ?_
  | refine gle_elim ?_ (fun _ => ?_)
  | split
theorem gle_step {p:Program} {m b:Bool} {g:Goroutine} {w:World}:GLe w.drawn (stepG p m g w b):=by
 obtain ⟨fr,callers,status,dying,offers⟩:=g
 simp only [stepG]
 split
 ·exact gle_die
 ·exact gle_exec
 ·exact gle_unwind
def SLe (d:Nat):Stepped→Prop
 | .next m=>d≤m.world.drawn
 | .ended _ _=>True
theorem sle_look {p:Program} {gs:Array Goroutine} {rest:Rest} {w:World}:SLe w.drawn (look p gs rest w):=by
 unfold look
 simp only []
 repeat' first
  | trivial
  | exact run_ok ‹_›
  | (refine Nat.le_trans (run_ok ‹Sem.run _ _ _=_›) ?_; exact Nat.le_refl _)
  | split
theorem waiting_le {rest:Rest} {cases:Array CommCase} {w w':World} (h:waitingAt rest cases w=some w'):w.drawn≤w'.drawn:=by
 unfold waitingAt at h
 repeat' first
  | (cases h; done)
  | (injection h with h; rw [← h]; exact Nat.le_refl _)
  | split at h
theorem sle_communicate {p:Program} {rest:Rest} {gs:Array Goroutine} {i:Nat} {g:Goroutine} {cases:Array CommCase} {b:Bool} {sh:CommShape} {w:World}:SLe w.drawn (communicate p rest gs i g cases b sh w).1:=by
 unfold communicate
 simp only []
 repeat' first
  | trivial
  | exact Nat.le_refl _
  | exact waiting_le ‹_›
  | (show _≤_; refine Nat.le_trans (run_ok ‹Sem.run _ _ w=_›) ?_; first|exact Nat.le_refl _|exact run_ok ‹_› | exact run_halt ‹_› | (refine Nat.le_trans (run_ok ‹Sem.run _ (choose _) _=_›) ?_; exact Nat.le_refl _))
  | split
theorem SLe.mono {d d':Nat} {s:Stepped} (h:SLe d s) (hd:d'≤d):SLe d' s:=by cases s <;> first|exact Nat.le_trans hd h|trivial
theorem sle_serve {p:Program} {m:Machine} {k:Nat}:SLe m.world.drawn (serve p m k):=by
 unfold serve
 simp only []
 repeat' first
  | trivial
  | exact Nat.le_refl _
  | split
theorem drain_le {w:World} {c:Nat}:w.drawn≤(drain w c).2.drawn:=by unfold drain; split <;> exact Nat.le_refl _
theorem retime_le {m:Machine} {k:Nat} {t:Timer} {a b:Nat}:m.world.drawn≤(retime m k t a b).2.world.drawn:=by
 unfold retime
 simp only []
 split
 ·exact drain_le
 ·exact Nat.le_refl _
theorem timer_le {m m':Machine} {op:TimerOp} {v:Value} (h:timerOp m op = .ok (v,m')):m.world.drawn≤m'.world.drawn:=by
 have hn:∀ (var:Addr) (f:Nat→Timer→Value×Machine),(∀ k t,m.world.drawn≤(f k t).2.world.drawn)→timerOp.named m var f = .ok (v,m')→m.world.drawn≤m'.world.drawn:=by
  intro var f hf h
  unfold timerOp.named at h
  split at h
  ·injection h with h
   have:=hf
   rw [← show (f _ _).2=m' from congrArg Prod.snd h]
   exact hf _ _
  ·cases h
 cases op <;> simp only [timerOp] at h
 ·split at h
  ·cases h; exact Nat.le_refl _
  ·split at h
   ·split at h
    ·cases h
    ·cases h; exact Nat.le_refl _
   ·cases h
 ·exact hn _ _ (fun k t=>retime_le) h
 ·split at h
  ·rename_i m1 ho
   have h1:m.world.drawn≤m1.world.drawn:=by
    unfold timerOp.opened at ho
    repeat' first
     | (cases ho; done)
     | (injection ho with ho; rw [← ho]; exact Nat.le_refl _)
     | split at ho
   refine hn _ _ (fun k t=>Nat.le_trans h1 retime_le) h
  ·cases h
 ·cases h; exact Nat.le_refl _
theorem sle_runT {p:Program} {m:Machine} {i:Nat} {b:Bool}:SLe m.world.drawn (runT p m i b).1:=by
 simp only [runT]
 generalize m.gs.swapAt! _ _=gg
 have h:=@gle_step p (i == 0) b gg.1 m.world
 revert h
 generalize stepG p _ gg.1 m.world b=s
 intro h
 cases s <;> simp only []
 all_goals first
  | trivial
  | exact h
  | exact sle_communicate.mono h
  | exact sle_look.mono h
  | (repeat' first
   | trivial
   | exact h
   | exact Nat.le_trans h (timer_le ‹_›)
   | (unfold endThrow dieOf at *; rename_i he _; cases he; exact h)
   | split)
def MLe (d:Nat):Move→Prop
 | .goroutine m _=>d≤m.world.drawn
 | .machine s _=>SLe d s
theorem MLe.mono {d d':Nat} {s:Move} (h:MLe d s) (hd:d'≤d):MLe d' s:=by
 cases s with
 | goroutine m i=>exact Nat.le_trans hd h
 | machine s o=>exact SLe.mono h hd
theorem le_run {α : Type} {p:Program} {m:Sem α} {d:Nat} {w w':World} {x : α} (h:m.run p w = .ok x w') (hd:d≤w.drawn):d≤w'.drawn:=Nat.le_trans hd (run_ok h)
theorem le_adv {d t:Nat} {m:Machine} (h:d≤m.world.drawn):d≤(m.advanceTo t).world.drawn:=h
theorem mle_askOn {p:Program} {m:Machine}:MLe m.world.drawn (askOn p m):=by
 unfold askOn
 simp only []
 repeat' first
  | trivial
  | exact Nat.le_refl _
  | (refine SLe.mono sle_serve ?_; exact run_ok ‹_›)
  | (simp only [MLe,SLe,Machine.advanceTo]; exact le_run (by assumption) (Nat.le_refl _))
  | (simp only [MLe,SLe,Machine.advanceTo]; exact le_run (by assumption) (le_run (by assumption) (Nat.le_refl _)))
  | (simp only [MLe,SLe,Machine.advanceTo]; exact le_run (by assumption) (le_run (by assumption) (le_run (by assumption) (Nat.le_refl _))))
  | (simp only [MLe,SLe,Machine.advanceTo]; exact le_run (by assumption) (le_run (by assumption) (le_run (by assumption) (le_run (by assumption) (Nat.le_refl _)))))
  | (simp only [MLe,SLe]; exact le_run (by assumption) (le_adv (m:={ world:=_,gs:=_,rest:=_ }) (le_run (by assumption) (le_run (by assumption) (Nat.le_refl _)))))
  | (simp only [MLe,SLe]; exact le_run (by assumption) (le_run (by assumption) (le_adv (m:={ world:=_,gs:=_,rest:=_ }) (le_run (by assumption) (le_run (by assumption) (Nat.le_refl _))))))
  | split
theorem mle_ask {p:Program} {m:Machine}:MLe m.world.drawn (ask p m):=by
 unfold ask
 split
 ·split
  ·trivial
  ·rename_i w1 hr
   have h3:=@sle_look p m.gs m.rest w1
   split
   ·rename_i m1 hl
    rw [hl] at h3
    exact (mle_askOn.mono h3).mono (run_ok hr)
   ·exact SLe.mono h3 (run_ok hr)
  ·exact mle_askOn.mono (run_ok ‹_›)
 ·exact mle_askOn
theorem mle_move {p:Program} {m:Machine}:MLe m.world.drawn (move p m):=by
 unfold move
 repeat' first
  | trivial
  | exact Nat.le_refl _
  | exact mle_ask
  | split
theorem sle_step {p:Program} {m:Machine}:SLe m.world.drawn (step p m):=by
 have h:=@mle_move p m
 unfold step stepT
 revert h
 cases move p m with
 | goroutine m' i=>exact fun h=>sle_runT.mono h
 | machine s o=>exact fun h=>h
theorem steps_le {p:Program}:∀ (n:Nat) {m m':Machine},runN p n m = .next m'→m.world.drawn≤m'.world.drawn
 | 0,m,m',h=>by cases h; exact Nat.le_refl _
 | n+1,m,m',h=>by
  have h1:=@sle_step p m
  unfold runN at h
  split at h
  ·rename_i m1 hm
   rw [hm] at h1
   exact Nat.le_trans h1 (steps_le n h)
  ·rename_i hm
   exact absurd h (hm _)
theorem calls_drawn {P:Program} {f:FuncId} {args:Array Value} {w:World} {R:Ending→World→Prop} (h:Calls P f args w R) (hR:∀ e w',R e w'→∃ v,e = .returned v):Calls P f args w fun e w'=>R e w'∧w.drawn≤w'.drawn:=fun cs=>by
 obtain ⟨e,w',fr,r,s,hf,hl⟩:=h cs
 obtain ⟨v,rfl⟩:=hR e w' r
 obtain ⟨n,hn⟩:=s
 exact ⟨_,w',fr,⟨r,steps_le n hn⟩,⟨n,hn⟩,hf,hl⟩
end Go.Proofs.Ytkhdnlkdcikdmaa.Dp
