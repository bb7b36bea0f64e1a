import Derived.Test.YtkdljbnllgpfhaaGreatA2
import Derived.Conc.Beside
import Derived.Conc.CrowdComm
import Derived.Conc.CrowdBase
import Derived.Conc.Know
import Derived.Conc.Deaf
import Derived.Orders
import Derived.Test.YtkdljbnllgpfhaaGreatChecked
import Derived.WalkKit
import Derived.Conc.WalkWords
import Derived.Conc.CompanyWords
import Derived.OwnWalk
import Derived.Conc.Own4
set_option maxRecDepth 100000
set_option maxHeartbeats 8000000
open Go.Operand renaming tmp→apH,const→apX
open Go renaming Frame→aoz,World→aly,Value→aad,FuncId→alB,Program→alu,Operand→ang,TypeId→acs,Trace→ap8,Obj→am2,Goroutine→aqi,Question→am6,Item→api,underlying→alJ,Addr→alA,typeInfo→amb,Event→amp,results→apr,loadVar→amE,execOp_congr→aqD,unwind→aoI,asAddr→ana,cell_of_row→aqF,isAgg→aqL
open Array renaming getElem?_eq_some_iff→ad3,getElem?_setIfInBounds_self_of_lt→alC,getElem?_setIfInBounds_ne→als,getElem?_push→alD,getD_eq_getD_getElem?→al9,toList_append→ap0,getElem?_eq_none→aqa,ext_getElem?→aqf,empty_append→aqg
open Go.World renaming cell?→alH,setCell→amJ,frozen?→amK
open Go.Ground renaming data→apI,phase→apK
open Option.some renaming injEq→apx,inj→alN
open Go.Extern.MathBitsCarry renaming three→apJ,pair→apL,m64→apM
open Go.Frame renaming enter→ao7
open Go.Code renaming region→apN,block→aqj,skip→aqy,exit→aqz,cond→aqA
open Go.Op renaming operands→anc,move→ap1,assign→aqb,load→aqv,call→aqw,extract→aqC,store→aqI,binOp→aqJ,alloc→aqK
open Option renaming ne_none_iff_exists'→apO
open Go.Sem renaming runT_fst→apP,events→aqx,run→aqG
open Go.Conc renaming stepG_region_end→apQ,stepG_region→apR,stepG_seq→apU,mem_listed→ap4,stepG_value→ap7,lt_size_of_getElem?→aqp,stepG_block→aqE
open Prod.mk renaming injEq→ae
open Go.MemAct renaming ofEvent→apS,touch?→apZ
open List renaming getElem?_eq_some_iff→apT,length_append→ap2,drop_append_of_le_length→ap5,mem_cons→ap9,mem_iff_getElem?→aqc,length_singleton→aqd,mem_of_getElem?→ann,size_toArray→aqk,not_mem_nil→aqm,mem_append→aqo,take_left→aqr,drop_drop→aqs
open Go.Extern renaming findNext→apV,find→ap3
open Go.Callee renaming builtin→apW
open Go.Region renaming wanted→apY
open Go.Builtin renaming zeroCells→anA,close_→aql,close→aqn
open Nat renaming lt_of_lt_of_le→amC,le_trans→al2,le_refl→agl
open Bool renaming and_eq_true→anh
open Go.MemOp renaming ofEvents→ap6
open Go.Goroutine.mk renaming injEq→apf
open Prod renaming Lex→aqe,lex→aqq,ext→aqB
open Go.Obj.chan renaming injEq→aqh
open Go.Mode renaming plain→amx
open Go.GStep.go renaming injEq→apF
open Go.IntKind renaming i64→apt
open Go.Addr renaming add→aqt
open Go.Value renaming slice→am0,int→aqu
open Pure renaming pure→ads
open Classical renaming choose_spec→apg,choose→apl
open Go.Question renaming forced→aqH
namespace Go.Upr
structure Fit(P:alu)(F:alB→Bool)(f:Ren)(v w:aly):Prop where
 low: ∀a b,f a=some b→P.globals.size≤a∧P.globals.size≤b
 big:vH P.globals.size v∧P.globals.size≤w.heap.size
 heap: ∀a b,f a=some b→∃o o',v.heap[a]? =some o∧w.heap[b]? =some o'∧jf P F (bD P F) f o o'
 inj:f.Inj
def fA{α:Type}(P:alu)(s:Sem α):Prop:=∀w T,s.run P (ax w T)=match s.run P w with| .ok a w'=> .ok a (ax w' T)| .halt h w'=> .halt h (ax w' T)
section
variable{mb:Bool}{P:alu}{F:alB→Bool}{f g:Ren}{v w w':aly}
theorem Fit.lN(h:h_ P F (bD P F) f v w):Fit P F f v w:=⟨h.low,h.big,h.heap,h.inj⟩
theorem Fit.rel(h:Fit P F f v w):h_ P F (bD P F) f (ax v λj=>w.tape (w.drawn+(j- v.drawn))) w:=
 ⟨h.low,h.big,h.heap,h.inj,λi q=>by show w.tape (w.drawn+(v.drawn+i- v.drawn)) q=_;rw[Nat.add_sub_cancel_left]⟩
theorem Fit.on(h:Fit P F f v w)(T:Nat→am6→Nat):Fit P F f (ax v T) w:=⟨h.low,h.big,h.heap,h.inj⟩
theorem Fit.off{T:Nat→am6→Nat}(h:Fit P F f (ax v T) w):Fit P F f v w:=⟨h.low,h.big,h.heap,h.inj⟩
theorem fA.pure{α:Type}(a:α):fA P (ads a:Sem α):=λ_ _=>rfl
theorem fA.halt{α:Type}(h:Halt):fA P (Sem.halt h:Sem α):=λ_ _=>rfl
theorem fA.program:fA P Go.program:=λ_ _=>rfl
theorem run_bind{α β:Type}(s:Sem α)(k:α→Sem β)(w:aly):(s>>= k).run P w=match s.run P w with| .ok a w1=>(k a).run P w1| .halt h w1=> .halt h w1:=by
 rw[←apP P _ w #[],runT_bind',←apP P s w #[]];generalize s.runT P w #[]=r;obtain⟨r,es⟩:=r;cases r with
 |ok a w1=>exact apP ..
 |halt h w1=>rfl
theorem fA.bind{α β:Type}{s:Sem α}{k:α→Sem β}(hs:fA P s)(hk: ∀a,fA P (k a)):fA P (s>>= k):=by
 intro w T;rw[run_bind,run_bind,hs w T];cases s.run P w with
 |ok a w1=>exact hk a w1 T
 |halt h w1=>rfl
theorem fA.load(a:alA):fA P (Go.load a):=by
 intro w T;simp only[Go.load,aqG];have e1:alH (ax w T) a=w.cell? a:=rfl;have e2:World.farLoad P (ax w T) a (amx== .atomic)=w.farLoad P a (amx== .atomic):=rfl;rw[e1,e2];cases w.cell? a with
 |some x=>rfl
 |none=>
  dsimp only;cases w.farLoad P a (amx== .atomic)with
  |ok r=>rfl
  |error h=>rfl
theorem fA.typeInfo(t:acs):fA P (amb t):=by
 unfold amb;refine .bind .program λp=>?_;split
 ·exact .pure _
 ·exact .halt _
theorem fA.underlying(t:acs):fA P (alJ t):=by
 unfold alJ;refine .bind .program λp=>?_;split
 ·exact .pure _
 ·exact .halt _
theorem fA.isAgg(t:acs):fA P (aqL t):=by
 unfold aqL;refine .bind (.underlying t) λd=>?_;split<;>exact .pure _
theorem fA.loadCellsFrom(a:alA): ∀ (n i:Nat) (acc:Array aad),fA P (Go.loadCellsFrom a i n acc)
 |0,_,_=> .pure _
 |n+1,i,_=> .bind (.load _) λ_=>fA.loadCellsFrom a n (i+1) _
theorem fA.loadVar(t:acs)(a:alA):fA P (amE t a):=by
 unfold amE;refine .bind (.isAgg t) λb=>?_;split
 ·exact .bind (.bind (.typeInfo t) λ_=> .pure _) λn=> .bind (.loadCellsFrom a n 0 #[]) λ_=> .pure _
 ·exact .load a
theorem fA.asAddr(x:aad):fA P (ana x):=by
 unfold ana;split
 ·exact .pure _
 ·exact λ_ _=>rfl
 ·exact .halt _
theorem fA.Il{γ:Type}{s:γ→Sem aad}: ∀ (l:List γ),(∀x∈l,fA P (s x))→fA P (l.mapM s)
 | [],_=>by simpa using fA.pure (P:=P) ([]:List aad)
 |a::l,h=>by
  simp only[List.mapM_cons];exact .bind (h a (List.mem_cons_self ..)) λ_=> .bind (fA.Il l λy hy=>h y (List.mem_cons_of_mem _ hy)) λ_=> .pure _
theorem fA.results(fn:Func)(t:Array aad):fA P (apr fn t):=by
 unfold apr;refine .bind ?_ λ_=> .pure _;simp only[Array.mapM_eq_mapM_toList];rw[←bind_pure_comp];refine .bind (.Il _ λx _=>?_) λ_=> .pure _;cases x with
 |tmp i=>exact .pure _
 |cell a ty=>exact .bind (.asAddr _) λ_=> .loadVar ty _
def Ret(P:alu)(fn:alB)(R:aad→aly→Prop)(fr:aoz)(w:aly):Prop:=
 fr.mode= .returning∧fr.defers= []∧fr.fn=fn∧∃x u,P.funcs[fn]? =some x∧(results x fr.tmps).run P w= .ok u w∧R u w
theorem Ret.tape{fn:alB}{R:aad→aly→Prop}(hR: ∀u w T,R u w→R u (ax w T)){fr:aoz}{w:aly}(T:Nat→am6→Nat)(h:Ret P fn R fr w):Ret P fn R fr (ax w T):=by
 obtain⟨h1,h2,h3,x,u,h4,h5,h6⟩:=h;exact⟨h1,h2,h3,x,u,h4,by rw[fA.results x fr.tmps w T,h5],hR _ _ _ h6⟩
theorem xN{fn:alB}{args:Array aad}{R:aad→aly→Prop}
  (h: ∀T,Calls P fn args (ax w T) λe w'=>∃u,e= .returned u∧R u w'):tK P (Ret P fn R) ⟨ao7 P fn args .normal,[wall],w⟩:=by
 intro T _;obtain⟨e,w',fr,⟨u,rfl,hu⟩,⟨n,hn⟩,hf,hm,hd,_,x,hx,hr⟩:=h T [wall];exact⟨n,fr,w',hn,hm,hd,hf,x,u,hf▸hx,hr,hu⟩
def yC(P:alu)(mb:Bool)(F:alB→Bool)(f:Ren)(fr:aoz)(cs:List aoz)(w:aly)(K:Ren→aly→aoz→List aoz→Prop):Prop:=
 ∃fr1 cs1 w1 es g v1,stepG P mb {frame:=fr,callers:=cs,status:= .running,dying:=none} w= .go {frame:=fr1,callers:=cs1,status:= .running,dying:=none} w1 es∧
  Fit P F g v1 w1∧mO f g w w1∧(∀e∈es,vG g e)∧K g v1 fr1 cs1
theorem LT.reach{D:aoz→aly→Prop}{fr:aoz}{cs:List aoz}{w:aly}(h:LT P D fr cs w): ∃n,Reach P D (lone fr cs w) n:=by
 induction h with
 | @done fr w h=>exact⟨0,fr,w,rfl,h⟩
 | @step fr cs w h ht ih=>
  obtain⟨fr1,cs1,w1,es,h1,_⟩:=h w.tape;obtain⟨n,fr2,w2,h2,h3⟩:=ih w.tape fr1 cs1 w1 es h1;exact⟨n+1,fr2,w2,by simp only[runN];rw[jE (show stepG P true _ w=_ from h1)];exact h2,h3⟩
theorem L6{fr:aoz}: ¬d_ P F f wall fr:=by
 intro h;have h2:=h.defers;generalize fr.defers=l at h2;unfold wall at h2;cases h2
theorem LT.walk(H:Held P F){D:aoz→aly→Prop}{base:List aoz}{X:Ren→aly→aoz→List aoz→Prop}{f0:Ren}
  (hstep: ∀f v fr cs,(∀w,Fit P F f v w→yC P mb F f fr cs w X)→X f v fr cs)
  (hdone: ∀f DX v fr,f0.le f→D DX v→d_ P F f DX fr→X f v fr base)
  {DX:aoz} {cs0:List aoz} {v:aly} (h:LT P D DX cs0 v):
  ∀ {f:Ren} {fr:aoz} {cs:List aoz},f0.le f→iJ P F f [wall] base DX cs0 fr cs→X f v fr cs:=by
 have h':=h
 induction h with
 | @done DX v hD=>
  intro f fr cs hle hst;cases hst with
  |last h _=>exact hdone f DX v fr hle hD h
  |more h t=>exact absurd t.top L6
 | @step DX cs0 v h ht ih=>
  intro f fr cs hle hst;by_cases hend:D DX v∧cs0= [wall]∧cs=base
  ·obtain⟨h1,rfl,rfl⟩:=hend;exact hdone f DX v fr hle h1 hst.top
  ·refine hstep f v fr cs λw hw=>?_;rcases tZ.step (mb:=mb) H hw.rel hst with⟨h1,h2,h3,h4,h5⟩|abD
   ·subst h4;obtain⟨n,hn⟩:=h'.reach;exact absurd hn (EF h1 h2 hst.top.kind.1 (λhd=>hend ⟨hd,rfl,h5⟩) n)
   ·obtain⟨fr1,cs1,w1,es,h1,h2⟩:=h λj=>w.tape (w.drawn+(j- v.drawn));have hlt:=ht _ _ _ _ _ h1;cases abD with
    |calm hK hs ik hm uH Fb hd akr hl=>
     have e:=hK.symm.trans h1;simp only[apF,apf,and_true]at e;obtain⟨⟨rfl,rfl⟩,rfl,rfl⟩:=e;exact⟨_,_,_,_,_,_,hs,.lN ik,hm,Fb,ih _ _ _ _ _ h1 hlt (Ren.le_trans hle hm.le) uH⟩
    |Tj hK hg=>
     have e:=hK.symm.trans h1;simp only[apF,apf,and_true]at e;obtain⟨⟨rfl,rfl⟩,rfl,rfl⟩:=e;obtain⟨ch,hch⟩:=hg.mode;exact absurd hch (h2 ch)
    |ended hK=>rw[show stepG P true _ _=_ from h1]at hK;cases hK
theorem Rt(H:Held P F){X:Ren→aly→aoz→List aoz→Prop}{f0:Ren}{v0:aly}
  (hstep: ∀f v fr cs,(∀w,Fit P F f v w→yC P mb F f fr cs w X)→X f v fr cs)
  {fn:alB} (hF:F fn=true) {args args':Array aad} (qm:RelA F f0 args args') (hw: ∃w,Fit P F f0 v0 w) {R:aad→aly→Prop} (hR: ∀u w T,R u w→R u (ax w T))
  (hc: ∀T,Calls P fn args (ax v0 T) λe w'=>∃u,e= .returned u∧R u w')
  {c:aoz} {cs:List aoz}
  (H0: ∀f u u' v,f0.le f→aA F f u u'→R u v→X f v (c.finish u') cs):X f0 v0 (ao7 P fn args' .normal) (c::cs):=by
 obtain⟨w,hw⟩:=hw;have hrel:iJ P F f0 [wall] (c::cs) (ao7 P fn args .normal) [wall] (ao7 P fn args' .normal) (c::cs):= .last (.enter H hF qm) rfl;have TP:Good P F ⟨ao7 P fn args .normal,[wall],v0⟩:=by
  have:iJ P F f0 [wall] [] (ao7 P fn args .normal) [wall] (ao7 P fn args' .normal) []:= .last (.enter H hF qm) rfl;exact ED ⟨f0,_,_,w,hw.rel,this⟩ v0.tape
 have hlt:=LT.Vm H (λ_ _ h=>h.1) (λ_ _ T h=>Ret.tape hR T h) TP (xN hc);refine LT.walk H hstep ?_ hlt f0.le_refl hrel;intro f DX v fr hle hd jg;obtain⟨h1,h2,h3,x,u,h4,h5,h6⟩:=hd;refine hstep f v fr (c::cs) λw hw=>?_;have hm:fr.mode= .returning:=jg.mode.trans h1;have z_:fr.defers= []:=by
  have:=jg.defers;rw[h2]at this;generalize fr.defers=l at this;cases this;rfl
 have hx:P.funcs[fr.fn]? =some x:=by rw[jg.fn,h3];exact h4
 have hrun: ∃es,(results x DX.tmps).runT P (ax v λj=>w.tape (w.drawn+(j- v.drawn))) #[]=(.ok u (ax v λj=>w.tape (w.drawn+(j- v.drawn))),es):=by
  have:=fA.results (P:=P) x DX.tmps v λj=>w.tape (w.drawn+(j- v.drawn));rw[h5]at this;rw[←apP P _ _ #[]]at this;exact⟨_,aqB this rfl⟩
 obtain⟨es,hrun⟩:=hrun;obtain⟨g,u',w1,xs,i1,i2,i3,i4,i5⟩:=(aH.results (C:=bD P F) x jg.tmps).1 _ w #[] #[] hw.rel u _ es hrun;refine⟨c.finish u',cs,w1,seen P fr.fn xs++ #[],g,v,?_,(Fit.lN i2).off,i3,?_,H0 g u u' v (Ren.le_trans hle i3.le) i4 h6⟩
 ·have e0:stepG P mb {frame:=fr,callers:=c::cs,status:= .running,dying:=none} w=aoI P mb fr (c::cs) none w:=by
   unfold stepG;dsimp only;rw[hm]
  rw[e0];unfold aoI;rw[z_];dsimp only;rw[hm];dsimp only;rw[hx];dsimp only;rw[i1];dsimp only;unfold doReturn;rw[jg.kind.2];simp only[aqg];rfl
 ·intro e he;rcases Array.mem_append.1 he with he|he
  ·exact i5 e (B_ _ _ _ _ he)
  ·simp at he
end
end Go.Upr
namespace Go.Upr
open Go.Conc
inductive Tr where
 |leaf
 |node (c:aly→Tr)
inductive Tr.Lt:Tr→Tr→Prop
 |child (c:aly→Tr) (w:aly):Tr.Lt (c w) (.node c)
theorem Tr.wf:WellFounded Tr.Lt:=by
 refine⟨λt=>?_⟩
 induction t with
 |leaf=>exact⟨_,λs h=>nomatch h⟩
 |node c ih=>exact⟨_,λs h=>by cases h with|child _ w=>exact ih w⟩
structure bF where
 tok:Option (Ren×aly)
 e:Nat→Option am2
 s:Nat→Option am2
def bF.Own(r:bF)(b:Nat):Prop:=r.e b≠none∨∃f v a,r.tok=some (f,v)∧f a=some b
structure bF.Fits(P:alu)(F:alB→Bool)(r:bF)(w:aly):Prop where
 tok: ∀f v,r.tok=some (f,v)→Fit P F f v w
 e: ∀b o,r.e b=some o→w.heap[b]? =some o
 s: ∀b o,r.s b=some o→w.heap[b]? =some o
 apart: ∀f v,r.tok=some (f,v)→∀a b,f a=some b→r.e b=none∧r.s b=none
 alone: ∀b o,r.e b=some o→r.s b=none
structure Only(r r':bF)(w w':aly):Prop where
 tape:w'.tape=w.tape
 os:w'.os=w.os
 output:w'.output=w.output
 size:w.heap.size≤w'.heap.size
 off: ∀b,b<w.heap.size→¬r.Own b→w'.heap[b]? =w.heap[b]?
 fresh: ∀b,r'.Own b→r.Own b∨w.heap.size≤b
 seen: ∀b o,r'.s b=some o→r.s b=some o
def Ku(r:bF)(e:amp):Prop:=
 match e with
 |⟨.cell a,wr,s⟩=>s=false∧(r.Own a.block∨(wr=false∧r.s a.block≠none))
 |⟨.obj b,wr,s⟩=>s=false∧(r.Own b∨(wr=false∧r.s b≠none))
 |⟨.mark (.extern _),_,_⟩|⟨.mark .noRoom,_,_⟩=>True
 |_=>False
def Aq(P:alu)(mb:Bool)(F:alB→Bool)(r:bF)(fr:aoz)(cs:List aoz)(w:aly)(K:bF→aoz→List aoz→Prop):Prop:=
 ∃fr1 cs1 w1 es r1,stepG P mb {frame:=fr,callers:=cs,status:= .running,dying:=none} w= .go {frame:=fr1,callers:=cs1,status:= .running,dying:=none} w1 es∧
  r1.Fits P F w1∧Only r r1 w w1∧(∀e∈es,Ku r1 e)∧K r1 fr1 cs1
def Walk(P:alu)(mb:Bool)(F:alB→Bool)(Stop:bF→aoz→List aoz→Prop):Tr→bF→aoz→List aoz→Prop
 | .leaf,r,fr,cs=>Stop r fr cs
 | .node c,r,fr,cs=>∀w,r.Fits P F w→Aq P mb F r fr cs w (Walk P mb F Stop (c w))
def aK(P:alu)(mb:Bool)(F:alB→Bool)(Stop:bF→aoz→List aoz→Prop)(r:bF)(fr:aoz)(cs:List aoz):Prop:=∃t,Walk P mb F Stop t r fr cs
section
variable{mb:Bool}{P:alu}{F:alB→Bool}{Stop aaW:bF→aoz→List aoz→Prop}{r:bF}{fr:aoz}{cs:List aoz}
theorem aK.stop(h:Stop r fr cs):aK P mb F Stop r fr cs:=⟨.leaf,h⟩
theorem Aq.mono{w:aly}{K K':bF→aoz→List aoz→Prop}(h:Aq P mb F r fr cs w K)(hk: ∀r fr cs,K r fr cs→K' r fr cs):Aq P mb F r fr cs w K':=by
 obtain⟨fr1,cs1,w1,es,r1,h1,h2,h3,h4,h5⟩:=h;exact⟨fr1,cs1,w1,es,r1,h1,h2,h3,h4,hk _ _ _ h5⟩
theorem aK.step(h: ∀w,r.Fits P F w→Aq P mb F r fr cs w (aK P mb F Stop)):aK P mb F Stop r fr cs:=by
 classical
 have: ∀w:aly,∃t:Tr,r.Fits P F w→Aq P mb F r fr cs w (Walk P mb F Stop t):=by
  intro w;by_cases hw:r.Fits P F w
  ·obtain⟨fr1,cs1,w1,es,r1,h1,h2,h3,h4,t,h5⟩:=h w hw;exact⟨t,λ_=>⟨fr1,cs1,w1,es,r1,h1,h2,h3,h4,h5⟩⟩
  ·exact⟨.leaf,λh=>absurd h hw⟩
 exact⟨.node λw=>apl (this w),λw hw=>apg (this w) hw⟩
theorem aK.mono(h:aK P mb F Stop r fr cs)(hs: ∀r fr cs,Stop r fr cs→aaW r fr cs):aK P mb F aaW r fr cs:=by
 obtain⟨t,h⟩:=h
 induction t generalizing r fr cs with
 |leaf=>exact .stop (hs _ _ _ h)
 |node c ih=>exact .step λw hw=>(h w hw).mono λ_ _ _ hk=>ih w hk
theorem Aq.ur{f:Ren}{v w:aly}{e s:Nat→Option am2}(hw:(⟨some (f,v),e,s⟩:bF).Fits P F w)
  {X:Ren→aly→aoz→List aoz→Prop} {K:bF→aoz→List aoz→Prop} (h:yC P mb F f fr cs w X)
  (hk: ∀g v1 fr1 cs1,f.le g→X g v1 fr1 cs1→K ⟨some (g,v1),e,s⟩ fr1 cs1):Aq P mb F ⟨some (f,v),e,s⟩ fr cs w K:=by
 obtain⟨fr1,cs1,w1,es,g,v1,h1,h2,h3,h4,h5⟩:=h;have lt: ∀ (b:Nat) (o:am2),w.heap[b]? =some o→b<w.heap.size:=λb o h=>(ad3.1 h).1;have held: ∀b o,(e b=some o∨s b=some o)→w.heap[b]? =some o:=λb o h=>h.elim (hw.e b o) (hw.s b o);have hb: ∀b o,(e b=some o∨s b=some o)→∀a,f a≠some b:=by
  intro b o h a ha;obtain⟨h1,h2⟩:=hw.apart f v rfl a b ha;rcases h with h|h
  ·rw[show e b=none from h1]at h;cases h
  ·rw[show s b=none from h2]at h;cases h
 have kept: ∀b o,(e b=some o∨s b=some o)→w1.heap[b]? =some o:=by
  intro b o h;have h0:=held b o h;rw[h3.off b (lt b o h0) (hb b o h)];exact h0
 have apart: ∀b o,(e b=some o∨s b=some o)→∀a,g a≠some b:=by
  intro b o R5 a Py;rcases h3.fresh a b Py with hf|hf
  ·exact hb b o R5 a hf
  ·have:=lt b o (held b o R5);omega
 have none': ∀a b,g a=some b→e b=none∧s b=none:=by
  intro a b hab;refine⟨?_,?_⟩
  ·cases he:e b with
   |none=>rfl
   |some o=>exact absurd hab (apart b o (.inl he) a)
  ·cases hs:s b with
   |none=>rfl
   |some o=>exact absurd hab (apart b o (.inr hs) a)
 refine⟨fr1,cs1,w1,es,⟨some (g,v1),e,s⟩,h1,⟨?_,λb o h=>kept b o (.inl h),λb o h=>kept b o (.inr h),?_,hw.alone⟩,⟨h3.tape,h3.os,h3.output,h3.size,?_,?_,λb o h=>h⟩,?_,hk _ _ _ _ h3.le h5⟩
 ·intro f' v' he;simp only[apx,ae]at he;obtain⟨rfl,rfl⟩:=he;exact h2
 ·intro f' v' he;simp only[apx,ae]at he;obtain⟨rfl,rfl⟩:=he;exact none'
 ·intro b hbl hno;exact h3.off b hbl λa ha=>hno (.inr ⟨f,v,a,rfl,ha⟩)
 ·rintro b (R4|⟨f',v',a,he,ha⟩)
  ·exact .inl (.inl R4)
  ·simp only[apx,ae]at he;obtain⟨rfl,rfl⟩:=he;rcases h3.fresh a b ha with h|h
   ·exact .inl (.inr ⟨f,v,a,rfl,h⟩)
   ·exact .inr h
 ·intro e' he';have:=h4 e' he';unfold vG at this;unfold Ku;split at this
  ·exact⟨this.1,.inl (.inr ⟨g,v1,this.2.choose,rfl,this.2.choose_spec⟩)⟩
  ·exact⟨this.1,.inl (.inr ⟨g,v1,this.2.choose,rfl,this.2.choose_spec⟩)⟩
  ·trivial
  ·trivial
  ·exact this.elim
theorem aK.call(H:Held P F){f0:Ren}{v0:aly}{e s:Nat→Option am2}{fn:alB}(hF:F fn=true){args args':Array aad}(qm:RelA F f0 args args')(hw: ∃w,Fit P F f0 v0 w)
  {R:aad→aly→Prop} (hR: ∀u w T,R u w→R u (ax w T)) (hc: ∀T,Calls P fn args (ax v0 T) λe w'=>∃u,e= .returned u∧R u w')
  {c:aoz} (H0: ∀f u u' v,f0.le f→aA F f u u'→R u v→aK P mb F Stop ⟨some (f,v),e,s⟩ (c.finish u') cs):
  aK P mb F Stop ⟨some (f0,v0),e,s⟩ (ao7 P fn args' .normal) (c::cs):=by
 refine Rt (mb:=mb) H (X:=λf v fr cs=>aK P mb F Stop ⟨some (f,v),e,s⟩ fr cs) ?_ hF qm hw hR hc ?_
 ·intro f v fr cs h;refine .step λw hw=>?_;exact Aq.ur hw (h w (hw.tok _ _ rfl)) λg v1 fr1 cs1 _ hx=>hx
 ·intro f u u' v hle hr Xy;exact H0 f u u' v hle hr Xy
/-! ### by hand-/
theorem Only.refl(r:bF)(w:aly):Only r r w w:=⟨rfl,rfl,rfl,agl _,λ_ _ _=>rfl,λ_ h=> .inl h,λ_ _ h=>h⟩
theorem aK.still{fr1:aoz}{cs1:List aoz}(h: ∀w,r.Fits P F w→∃es,stepG P mb {frame:=fr,callers:=cs,status:= .running,dying:=none} w= .go {frame:=fr1,callers:=cs1,status:= .running,dying:=none} w es∧∀e∈es,Ku r e)
  (hs:aK P mb F Stop r fr1 cs1):aK P mb F Stop r fr cs:=
 .step λw hw=>by
  obtain⟨es,h1,h2⟩:=h w hw;exact⟨fr1,cs1,w,es,r,h1,hw,.refl r w,h2,hs⟩
def bF.plus(r:bF)(b:Nat)(o:am2):bF:={r with e:=λx=>if x=b then some o else r.e x}
theorem Fit.grow{f:Ren}{v w w1:aly}(h:Fit P F f v w)(hg: ∀ (b:Nat) (o:am2),w.heap[b]? =some o→w1.heap[b]? =some o)(hs:w.heap.size≤w1.heap.size):Fit P F f v w1:=by
 refine⟨h.low,⟨h.big.1,al2 h.big.2 hs⟩,λa b hab=>?_,h.inj⟩;obtain⟨o,o',h1,h2,h3⟩:=h.heap a b hab;exact⟨o,o',h1,hg _ _ h2,h3⟩
theorem bF.Fits.push{w w1:aly}{o:am2}(h:r.Fits P F w)(h1:w1.heap=w.heap.push o):(r.plus w.heap.size o).Fits P F w1:=by
 have lt: ∀ (b:Nat) (o:am2),w.heap[b]? =some o→b<w.heap.size:=λb o h=>(ad3.1 h).1;have hg: ∀ (b:Nat) (o:am2),w.heap[b]? =some o→w1.heap[b]? =some o:=λb x hb=>by
  have:=lt b x hb;rw[h1,alD,if_neg aj];exact hb
 refine⟨λf v hf=>(h.tok f v hf).grow hg (by rw[h1];simp),λb x hb=>?_,λb x hb=>hg b x (h.s b x hb),λf v hf a b hab=>?_,λb x hb=>?_⟩
 ·simp only[bF.plus]at hb;split at hb
  ·rename_i he;subst he;cases hb;rw[h1];simp
  ·exact hg b x (h.e b x hb)
 ·have hp:=h.apart f v hf a b hab;obtain⟨_,_,_,h2,_⟩:=(h.tok f v hf).heap a b hab;have:=lt b _ h2;refine⟨?_,hp.2⟩;simp only[bF.plus];rw[if_neg aj];exact hp.1
 ·simp only[bF.plus]at hb;split at hb
  ·rename_i he;subst he;show r.s _=none;cases hs:r.s w.heap.size with
   |none=>rfl
   |some y=>exact absurd (lt _ _ (h.s _ _ hs)) (Nat.lt_irrefl _)
  ·exact h.alone b x hb
theorem Only.push{w w1:aly}{o:am2}(h1:w1.heap=w.heap.push o)(ht:w1.tape=w.tape)(ho:w1.os=w.os)(hu:w1.output=w.output):Only r (r.plus w.heap.size o) w w1:=by
 refine⟨ht,ho,hu,by rw[h1];simp,λb hb _=>by rw[h1,alD,if_neg aj],?_,λ_ _ h=>h⟩;rintro b (hb|hb)
 ·simp only[bF.plus]at hb;split at hb
  ·rename_i he;exact .inr aj
  ·exact .inl (.inl hb)
 ·exact .inl (.inr hb)
theorem bF.Fits.put{w w1:aly}{b:Nat}{o o':am2}(h:r.Fits P F w)(hb:r.e b=some o)(h1:w1.heap=w.heap.setIfInBounds b o'):(r.plus b o').Fits P F w1:=by
 have hbl:b<w.heap.size:=(ad3.1 (h.e b o hb)).1;have hne: ∀ (x:Nat),x≠b→w1.heap[x]? =w.heap[x]? :=λx hx=>by rw[h1,als λe=>hx e.symm]
 refine⟨λf v hf=>?_,λx y hx=>?_,λx y hx=>?_,λf v hf a x SC=>?_,λx y hx=>?_⟩
 ·have ht:=h.tok f v hf;refine⟨ht.low,⟨ht.big.1,by rw[h1];simpa using ht.big.2⟩,λa c hac=>?_,ht.inj⟩;obtain⟨p,p',i1,i2,i3⟩:=ht.heap a c hac;refine⟨p,p',i1,?_,i3⟩;rw[hne c λe=>?_];exact i2;have:=(h.apart f v hf a c hac).1;rw[e,hb]at this;cases this
 ·simp only[bF.plus]at hx;split at hx
  ·rename_i he;subst he;cases hx;rw[h1,alC hbl]
  ·rename_i he;rw[hne x he];exact h.e x y hx
 ·rw[hne x λe=>?_];exact h.s x y hx;have:=h.alone b o hb;rw[e,show(r.plus b o').s b=none from this]at hx;cases hx
 ·have hp:=h.apart f v hf a x SC;refine⟨?_,hp.2⟩;simp only[bF.plus];split
  ·rename_i he;subst he;rw[hb]at hp;cases hp.1
  ·exact hp.1
 ·simp only[bF.plus]at hx;split at hx
  ·rename_i he;subst he;exact h.alone x o hb
  ·exact h.alone x y hx
theorem Only.put{w w1:aly}{b:Nat}{o o':am2}(hb:r.e b=some o)(h1:w1.heap=w.heap.setIfInBounds b o')(ht:w1.tape=w.tape)(ho:w1.os=w.os)(hu:w1.output=w.output):Only r (r.plus b o') w w1:=by
 refine⟨ht,ho,hu,by rw[h1];simp,λx _ hno=>?_,?_,λ_ _ h=>h⟩
 ·rw[h1,als];intro e;exact hno (.inl (by rw[←e,hb];simp))
 ·rintro x (hx|hx)
  ·simp only[bF.plus]at hx;split at hx
   ·rename_i he;exact .inl (.inl (by rw[he,hb];simp))
   ·exact .inl (.inl hx)
  ·exact .inl (.inr hx)
end
abbrev Wt:=Nat×Nat×Tr
abbrev Wt.Lt:Wt→Wt→Prop:=aqe (·< ·) (aqe (·< ·) Tr.Lt)
theorem Wt.wf:WellFounded Wt.Lt:=by
 let a:WellFoundedRelation Nat:=⟨(·< ·),Nat.lt_wfRel.wf⟩
 let c:WellFoundedRelation Tr:=⟨Tr.Lt,Tr.wf⟩
 exact(aqq a (aqq a c)).wf
def Row:Nat→Type
 |0=>Unit
 |n+1=>Wt×Row n
def Row.Lt:(n:Nat)→Row n→Row n→Prop
 |0=>λ_ _=>False
 |n+1=>aqe Wt.Lt (Row.Lt n)
theorem Row.wf:(n:Nat)→WellFounded (Row.Lt n)
 |0=>⟨λ_=>⟨_,λ_ h=>h.elim⟩⟩
 |n+1=>by
  let a:WellFoundedRelation Wt:=⟨Wt.Lt,Wt.wf⟩
  let b:WellFoundedRelation (Row n):=⟨Row.Lt n,Row.wf n⟩
  exact(aqq a b).wf
def row(f:Nat→Wt):(n:Nat)→(i:Nat)→Row n
 |0,_=>()
 |n+1,i=>(f i,row f n (i+1))
theorem BN{f g:Nat→Wt}{k:Nat}(hk:Wt.Lt (f k) (g k)): ∀ (n i:Nat),i≤k→k<i+n→(∀j,i≤j→j<k→f j=g j)→Row.Lt n (row f n i) (row g n i)
 |0,i,h1,h2,_=>absurd h2 aj
 |n+1,i,h1,h2,h3=>by
  by_cases hik:i=k
  ·subst hik;exact .left _ _ hk
  ·have e:=h3 i (agl _) aj;show aqe Wt.Lt (Row.Lt n) (f i,row f n (i+1)) (g i,row g n (i+1));rw[e];exact .right _ (BN hk n (i+1) aj aj λj a b=>h3 j aj b)
section
variable{P:alu}{gs:Array aqi}{w w₁:aly}{sl:Option (Nat×Nat)}{i j:Nat}{g g₂ gj:aqi}{es:Array amp}{shape shj:CommShape}{blocking:Bool}
 {c cap s r:Nat} {buf:Array aad} {closed tm:Bool} {v z zj:aad}
theorem xM(hi:gs[i]? =some g)(h:stepG P (i==0) g w= .comm g₂ #[rcase c z] blocking shape w₁ es)(hc:w₁.heap[c]? =some (.chan cap buf closed s r tm))(hsome:0<buf.size)
  (tX:j≠i) (hj:gs[j]? =some (parked gj #[scase c v zj] shj)) (hp:partners (gs.setIfInBounds i ph) c true= [(j,0)]):
  runT P (crowd gs w sl) i=(.next (crowd ((gs.setIfInBounds j (gj.finishComm P #[scase c v zj] shj 0 undef false)).setIfInBounds i (g₂.finishComm P #[rcase c z] shape 0 (buf.getD 0 undef) true)) (w₁.setChan c cap ((buf.extract 1 buf.size).push v) closed (s+1) (r+1) tm) sl),
   ap6 i g.frame.fn g.frame.place es++ #[{g:=i,fn:=g₂.frame.fn,pos:=g₂.frame.place,act:= .recv c r cap},{g:=i,fn:=g₂.frame.fn,pos:=g₂.frame.place,act:= .recvDone c r},
    {g:=j,fn:=gj.frame.fn,pos:=gj.frame.place,act:= .send c s},{g:=j,fn:=gj.frame.fn,pos:=gj.frame.place,act:= .sendDone c s}]):=by
 rw[runT_crowd_comm hi h];have hj':=stand_get (i:=i) tX hj;have hfp:=finishPartner_at P (gs.setIfInBounds i ph) hj' (cs:= #[scase c v zj]) (sh:=shj) rfl 0 undef;have hgd:(gs.setIfInBounds i ph).getD j default=parked gj #[scase c v zj] shj:=by rw[al9,hj'];rfl
 have Xp:offeredValue (gs.setIfInBounds i ph) j 0=v:=by simp[offeredValue,hj',parked,scase]
 simp[communicate,ways,rcase,hc,hp,hsome,choose,aqG,aqH,bind,Sem.bind,pure,World.setChan,crowd,hfp,hgd,Xp,set_stand2,scase,parked];rfl
end
end Go.Upr
namespace Go.Upr
open Go.Conc
open Go.ConcN (upd upd_same upd_ne)
structure Ch where
 aJ:List aad
 rc:Nat
 cl:Bool
 tm:Bool
 pend:Option (Ren×aly)
def room:Nat:=64
def Ch.obj(c:Ch):Obj:= .chan room (c.aJ.drop c.rc).toArray c.cl c.aJ.length c.rc c.tm
structure o_ where
 r:Nat→bF
 ch:Nat→Option Ch
def bF.Has(r:bF)(b:Nat):Prop:=r.Own b∨r.s b≠none
structure lM(P:alu)(F:alB→Bool)(k:Nat→Nat)(wg:Nat)(c:o_)(w:aly):Prop where
 fits: ∀i,(c.r i).Fits P F w
 sep: ∀i j b,i≠j→(c.r i).Own b→¬(c.r j).Has b
 chan: ∀i h,c.ch i=some h→w.heap[k i]? =some h.obj
 Sj: ∀i h,c.ch i=some h→h.rc≤h.aJ.length
 free: ∀i h j,c.ch i=some h→¬(c.r j).Has (k i)
 inj: ∀i j h h',c.ch i=some h→c.ch j=some h'→k i=k j→i=j
 Br:wg<w.heap.size
 jO: ∀j,¬(c.r j).Has wg
 Ab: ∀i h,c.ch i=some h→k i≠wg
 pend: ∀i h f v,c.ch i=some h→h.pend=some (f,v)→Fit P F f v w
 f_: ∀i h f v a b,c.ch i=some h→h.pend=some (f,v)→f a=some b→(∀j,¬(c.r j).Has b)∧b≠wg∧(∀j h',c.ch j=some h'→k j≠b)∧∀j h' f' v' a',j≠i→c.ch j=some h'→h'.pend=some (f',v')→f' a'≠some b
section
variable{P:alu}{F:alB→Bool}{k:Nat→Nat}{wg:Nat}{c:o_}{w w1:aly}{i:Nat}{r1:bF}
theorem bF.Fits.lS{r:bF}{w:aly}(h:r.Fits P F w){b:Nat}(hb:r.Has b):b<w.heap.size:=by
 have lt: ∀ (b:Nat) (o:am2),w.heap[b]? =some o→b<w.heap.size:=λb o h=>(ad3.1 h).1;rcases hb with(hb|⟨f,v,a,hf,ha⟩)|hb
 ·obtain⟨o,ho⟩:=apO.1 hb;exact lt b o (h.e b o ho)
 ·obtain⟨_,o',_,h2,_⟩:=(h.tok f v hf).heap a b ha;exact lt b o' h2
 ·obtain⟨o,ho⟩:=apO.1 hb;exact lt b o (h.s b o ho)
theorem bF.Fits.other{r:bF}(h:r.Fits P F w)(hk: ∀b,r.Has b→w1.heap[b]? =w.heap[b]?)(hs:w.heap.size≤w1.heap.size):r.Fits P F w1:=by
 refine⟨λf v hf=>?_,λb o hb=>?_,λb o hb=>?_,h.apart,h.alone⟩
 ·have ht:=h.tok f v hf;refine⟨ht.low,⟨ht.big.1,al2 ht.big.2 hs⟩,λa b hab=>?_,ht.inj⟩;obtain⟨o,o',h1,h2,h3⟩:=ht.heap a b hab;exact⟨o,o',h1,by rw[hk b (.inl (.inr ⟨f,v,a,hf,hab⟩))];exact h2,h3⟩
 ·rw[hk b (.inl (.inl (by rw[hb];simp)))];exact h.e b o hb
 ·rw[hk b (.inr (by rw[hb];simp))];exact h.s b o hb
theorem Fit.other{f:Ren}{v:aly}(h:Fit P F f v w)(hk: ∀a b,f a=some b→w1.heap[b]? =w.heap[b]?)(hs:w.heap.size≤w1.heap.size):Fit P F f v w1:=by
 refine⟨h.low,⟨h.big.1,al2 h.big.2 hs⟩,λa b hab=>?_,h.inj⟩;obtain⟨o,o',h1,h2,h3⟩:=h.heap a b hab;exact⟨o,o',h1,by rw[hk a b hab];exact h2,h3⟩
theorem lM.own(h:lM P F k wg c w)(ho:Only (c.r i) r1 w w1)(hf:r1.Fits P F w1):lM P F k wg {c with r:=upd c.r i r1} w1:=by
 have lt: ∀ (b:Nat) (o:am2),w.heap[b]? =some o→b<w.heap.size:=λb o h=>(ad3.1 h).1;have was: ∀b,r1.Has b→b<w.heap.size→(c.r i).Has b:=by
  intro b hb hlt;rcases hb with hb|hb
  ·rcases ho.fresh b hb with h1|h1
   ·exact .inl h1
   ·omega
  ·obtain⟨o,hs⟩:=apO.1 hb;exact .inr (by rw[ho.seen b o hs];simp)
 have acu: ∀b,r1.Own b→b<w.heap.size→(c.r i).Own b:=by
  intro b hb hlt;rcases ho.fresh b hb with h1|h1
  ·exact h1
  ·omega
 have others: ∀j b,j≠i→(c.r j).Has b→w1.heap[b]? =w.heap[b]? :=by
  intro j b hj hb;refine ho.off b ((h.fits j).lS hb) λhown=>?_;exact h.sep i j b (λe=>hj e.symm) hown hb
 have wO: ∀j b,({c with r:=upd c.r i r1}:o_).r j|>.Has b→b<w.heap.size→(c.r j).Has b:=by
  intro j b hb hlt;by_cases hj:j=i
  ·subst hj;simp only[upd_same]at hb;exact was b hb hlt
  ·simpa only[upd_ne c.r r1 hj]using hb
 refine⟨λj=>?_,λj j' b hjj hb hb'=>?_,λj x hx=>?_,h.Sj,λj x j' hx hb=>?_,h.inj,amC h.Br ho.size,λj hb=>?_,h.Ab,λj x f v hx hp=>?_,λj x f v a b hx hp hab=>?_⟩
 ·by_cases hj:j=i
  ·subst hj;simp only[upd_same];exact hf
  ·simp only[upd_ne c.r r1 hj];exact(h.fits j).other (λb hb=>others j b hj hb) ho.size
 ·by_cases hj:j=i
  ·subst hj;have hj':j'≠j:=λe=>hjj e.symm;simp only[upd_same]at hb;simp only[upd_ne c.r r1 hj']at hb';exact h.sep j j' b hjj (acu b hb ((h.fits j').lS hb')) hb'
  ·simp only[upd_ne c.r r1 hj]at hb;have hlt:=(h.fits j).lS (.inl hb);exact h.sep j j' b hjj hb (wO j' b hb' hlt)
 ·have hx0:=h.chan j x hx;rw[ho.off _ (lt _ _ hx0) λhown=>h.free j x i hx (.inl hown)];exact hx0
 ·exact h.free j x j' hx (wO j' _ hb (lt _ _ (h.chan j x hx)))
 ·exact h.jO j (wO j wg hb h.Br)
 ·exact(h.pend j x f v hx hp).other (λa b hab=>ho.off b (by
   obtain⟨_,o',_,h2,_⟩:=(h.pend j x f v hx hp).heap a b hab
   exact lt b o' h2) λhown=>(h.f_ j x f v a b hx hp hab).1 i (.inl hown)) ho.size
 ·obtain⟨p1,p2,p3,p4⟩:=h.f_ j x f v a b hx hp hab;refine⟨λj' hb=>p1 j' (wO j' b hb ?_),p2,p3,p4⟩;obtain⟨_,o',_,h2,_⟩:=(h.pend j x f v hx hp).heap a b hab;exact lt b o' h2
theorem lM.Gw(h:lM P F k wg c w){x y:Ch}(hx:c.ch i=some x)(hy:y.rc≤y.aJ.length)(hp:y.pend=x.pend)(h1:w1.heap=w.heap.setIfInBounds (k i) y.obj):lM P F k wg {c with ch:=upd c.ch i (some y)} w1:=by
 have hlt:k i<w.heap.size:=(ad3.1 (h.chan i x hx)).1;have hne: ∀b,b≠k i→w1.heap[b]? =w.heap[b]? :=λb hb=>by rw[h1,als λe=>hb e.symm]
 have hs:w.heap.size≤w1.heap.size:=by rw[h1];simp
 have old: ∀j z,upd c.ch i (some y) j=some z→∃z0,c.ch j=some z0∧z.pend=z0.pend:=by
  intro j z hz;by_cases hj:j=i
  ·subst hj;simp only[upd_same,apx]at hz;subst hz;exact⟨x,hx,hp⟩
  ·rw[upd_ne c.ch (some y) hj]at hz;exact⟨z,hz,rfl⟩
 refine⟨λj=>(h.fits j).other (λb hb=>hne b λe=>h.free i x j hx (e▸hb)) hs,h.sep,λj z hz=>?_,λj z hz=>?_,λj z j' hz=>?_,λj j' z z' hz hz' e=>?_,amC h.Br hs,h.jO,λj z hz=>?_,λj z f v hz uM=>?_,λj z f v a b hz uM hab=>?_⟩
 ·by_cases hj:j=i
  ·subst hj;simp only[upd_same,apx]at hz;subst hz;rw[h1,alC hlt]
  ·dsimp only at hz;rw[upd_ne c.ch (some y) hj]at hz;rw[hne _ λe=>hj (h.inj j i z x hz hx e)];exact h.chan j z hz
 ·by_cases hj:j=i
  ·subst hj;simp only[upd_same,apx]at hz;subst hz;exact hy
  ·dsimp only at hz;rw[upd_ne c.ch (some y) hj]at hz;exact h.Sj j z hz
 ·obtain⟨z0,h0,_⟩:=old j z hz;exact h.free j z0 j' h0
 ·obtain⟨z0,h0,_⟩:=old j z hz;obtain⟨z1,Bp,_⟩:=old j' z' hz';exact h.inj j j' z0 z1 h0 Bp e
 ·obtain⟨z0,h0,_⟩:=old j z hz;exact h.Ab j z0 h0
 ·obtain⟨z0,h0,Sw⟩:=old j z hz;exact(h.pend j z0 f v h0 (Sw▸uM)).other (λa b hab=>hne b λe=>(h.f_ j z0 f v a b h0 (Sw▸uM) hab).2.2.1 i x hx e.symm) hs
 ·obtain⟨z0,h0,Sw⟩:=old j z hz;obtain⟨p1,p2,p3,p4⟩:=h.f_ j z0 f v a b h0 (Sw▸uM) hab;refine⟨p1,p2,λj' z' hz'=>?_,λj' z' f' v' a' hj' hz' vC=>?_⟩
  ·obtain⟨z1,Bp,_⟩:=old j' z' hz';exact p3 j' z1 Bp
  ·obtain⟨z1,Bp,zY⟩:=old j' z' hz';exact p4 j' z1 f' v' a' hj' Bp (zY▸vC)
end
def iK(b:Nat):Loc→Prop
 | .cell a=>a.block=b
 | .obj o=>o=b
 |_=>False
def Kn(t:ap8)(g b:Nat):Prop:=∀i x,touchAt t i=some x→iK b x.loc→Knows t g i
def NM(t:ap8)(g b:Nat):Prop:=∀i x,touchAt t i=some x→iK b x.loc→x.write=true→Knows t g i
def Dt(t:ap8)(B:Nat):Prop:=∀i x,touchAt t i=some x→∀b,iK b x.loc→b<B
theorem Kn.w{t:ap8}{g b:Nat}(h:Kn t g b):NM t g b:=λi x h1 h2 _=>h i x h1 h2
theorem Dt.mono{t:ap8}{B B':Nat}(h:Dt t B)(hB:B≤B'):Dt t B':=λi x h1 b h2=>amC (h i x h1 b h2) hB
section
variable{t u:ap8}{g b:Nat}
theorem dA{i:Nat}{x:Touch}(h:touchAt (t++u) i=some x):touchAt t i=some x∨∃op∈u,(t++u)[i]? =some op∧op.act.touch?=some x:=by
 obtain⟨op,ho,hx⟩:=touch_of h;rcases getElem?_append_cases ho with⟨_,h1⟩|⟨_,h1⟩
 ·exact .inl (by rw[touchAt_of h1];exact hx)
 ·exact .inr ⟨op,h1,ho,hx⟩
theorem Kn.app(h:Kn t g b)(hu: ∀op∈u,∀x,op.act.touch?=some x→iK b x.loc→op.g=g):Kn (t++u) g b:=by
 intro i x hx hl;rcases dA hx with h1|⟨op,h1,h2,h3⟩
 ·exact(h i x h1 hl).app u
 ·have:=knows_own h2
  rwa [hu op h1 x h3 hl]at this
theorem NM.app(h:NM t g b)(hu: ∀op∈u,∀x,op.act.touch?=some x→iK b x.loc→x.write=true→op.g=g):NM (t++u) g b:=by
 intro i x hx hl hw;rcases dA hx with h1|⟨op,h1,h2,h3⟩
 ·exact(h i x h1 hl hw).app u
 ·have:=knows_own h2
  rwa [hu op h1 x h3 hl hw]at this
theorem Dt.app{B:Nat}(h:Dt t B)(hu: ∀op∈u,∀x,op.act.touch?=some x→∀b,iK b x.loc→b<B):Dt (t++u) B:=by
 intro i x hx b hl;rcases dA hx with h1|⟨op,h1,_,h3⟩
 ·exact h i x h1 b hl
 ·exact hu op h1 x h3 b hl
theorem um{r:bF}{e:amp}(h:Ku r e){x:Touch}(hx:(apS e).touch?=some x):x.kind= .plain∧∀b,iK b x.loc→r.Own b∨(x.write=false∧r.s b≠none):=by
 unfold Ku at h;split at h
 ·rename_i a wr s;obtain⟨rfl,h⟩:=h;have:x=⟨.cell a,wr,.plain⟩:=by
   cases wr<;>simpa[apS,apZ,eq_comm]using hx
  subst this;exact⟨rfl,λb hb=>by cases hb;exact h⟩
 ·rename_i o wr s;obtain⟨rfl,h⟩:=h;have:x=⟨.obj o,wr,.plain⟩:=by
   cases wr<;>simpa[apS,apZ,eq_comm]using hx
  subst this;exact⟨rfl,λb hb=>by cases hb;exact h⟩
 ·simp[apS,apZ]at hx
 ·simp[apS,apZ]at hx
 ·exact h.elim
theorem qw{r:bF}{e:amp}(h:Ku r e):e.loc≠ .mark .disable∧e.loc≠ .mark .enable∧∀a,e.loc≠ .mark (.release a):=by
 unfold Ku at h;split at h
 ·simp
 ·simp
 ·simp
 ·simp
 ·exact h.elim
end
structure Told(gi:Nat→Nat)(c:o_)(w:aly)(t:ap8):Prop where
 clean: ∀said,¬Race said t
 own: ∀i b,(c.r i).Own b→Kn t (gi i) b
 read: ∀i b,(c.r i).s b≠none→NM t (gi i) b
 low:Dt t w.heap.size
section
variable{P:alu}{F:alB→Bool}{k:Nat→Nat}{wg:Nat}{gi:Nat→Nat}{c:o_}{w w1:aly}{t:ap8}{i:Nat}{r1:bF}
theorem Told.step(h:Told gi c w t)(hg:lM P F k wg c w)(ho:Only (c.r i) r1 w w1)(hf:r1.Fits P F w1){fn:alB}{pos:String}{es:Array amp}(he: ∀e∈es,Ku r1 e):
  Told gi {c with r:=upd c.r i r1} w1 (t++ap6 (gi i) fn pos es):=by
 have hall: ∀op∈ap6 (gi i) fn pos es,op.g=gi i∧∀x,op.act.touch?=some x→x.kind= .plain∧∀b,iK b x.loc→r1.Own b∨(x.write=false∧r1.s b≠none):=by
  intro op hop;rw[ofEvents_eq]at hop;obtain⟨e,h1,rfl⟩:=Array.mem_map.1 hop;exact⟨rfl,λx hx=>um (he e h1) hx⟩
 have kn: ∀b,r1.Own b→Kn t (gi i) b:=by
  intro b hb;rcases ho.fresh b hb with h1|h1
  ·exact h.own i b h1
  ·intro j x hx hl;exact absurd (h.low j x hx b hl) aj
 have knw: ∀b,r1.s b≠none→NM t (gi i) b:=by
  intro b hb;obtain⟨o,hs⟩:=apO.1 hb;exact h.read i b (by rw[ho.seen b o hs];simp)
 have apart: ∀j b,j≠i→(c.r j).Has b→¬r1.Own b:=by
  intro j b hj hb hown;rcases ho.fresh b hown with h1|h1
  ·exact hg.sep i j b (λe=>hj e.symm) h1 hb
  ·have:=(hg.fits j).lS hb;omega
 have acv: ∀j b,j≠i→(c.r j).Own b→r1.s b=none:=by
  intro j b hj hb;cases hs:r1.s b with
  |none=>rfl
  |some o=>exact absurd (.inr (by rw[ho.seen b o hs];simp)) (hg.sep j i b hj hb)
 refine⟨λsaid=>noRace_append (h.clean said) (λop hop=>(hall op hop).1) λj a ha op hop x hx hc=>?_,λj b hb=>?_,λj b hb=>?_,(h.low.mono ho.size).app λop hop x hx b hl=>?_⟩
 ·obtain⟨hloc,gJ,hwr,_⟩:=hc;obtain⟨_,h2⟩:=(hall op hop).2 x hx;have: ∃b,iK b a.loc:=by
   cases hl:a.loc with
   |cell ad=>exact⟨_,rfl⟩
   |obj o=>exact⟨_,rfl⟩
   |_=>rw[hl]at gJ;simp[Loc.isMemory]at gJ
  obtain⟨b,hb⟩:=this;rcases h2 b (hloc▸hb)with h3|⟨h3,h4⟩
  ·exact kn b h3 j a ha hb
  ·exact knw b h4 j a ha hb (hwr.resolve_right (by rw[h3];simp))
 ·by_cases hj:j=i
  ·subst hj;simp only[upd_same]at hb;exact(kn b hb).app λop hop x hx hl=>(hall op hop).1
  ·simp only[upd_ne c.r r1 hj]at hb;refine(h.own j b hb).app λop hop x hx hl=>?_;rcases((hall op hop).2 x hx).2 b hl with h3|⟨_,h4⟩
   ·exact absurd h3 (apart j b hj (.inl hb))
   ·exact absurd (acv j b hj hb) h4
 ·by_cases hj:j=i
  ·subst hj;simp only[upd_same]at hb;exact(knw b hb).app λop hop x hx hl _=>(hall op hop).1
  ·simp only[upd_ne c.r r1 hj]at hb;refine(h.read j b hb).app λop hop x hx hl hw=>?_;rcases((hall op hop).2 x hx).2 b hl with h3|⟨h3,_⟩
   ·exact absurd h3 (apart j b hj (.inr hb))
   ·rw[h3]at hw;cases hw
 ·rcases((hall op hop).2 x hx).2 b hl with h3|⟨_,h4⟩
  ·exact hf.lS (.inl h3)
  ·exact hf.lS (.inr h4)
end
section
variable{h:Ch}{v:aad}
theorem Ch.Vn(hr:h.rc≤h.aJ.length):({h with aJ:=h.aJ++ [v]}:Ch).obj= .chan room ((h.aJ.drop h.rc).toArray.push v) h.cl (h.aJ.length+1) h.rc h.tm:=by
 unfold Ch.obj;simp[ap5 hr]
theorem Ch.I8:({h with rc:=h.rc+1}:Ch).obj= .chan room ((h.aJ.drop h.rc).toArray.extract 1 (h.aJ.drop h.rc).toArray.size) h.cl h.aJ.length (h.rc+1) h.tm:=by
 unfold Ch.obj
 congr 1
 apply Array.toList_inj.1;simp[aqs];rw[List.take_of_length_le lq]
theorem Ch.Vo(hr:h.rc=h.aJ.length):({h with aJ:=h.aJ++ [v],rc:=h.rc+1}:Ch).obj= .chan room #[] h.cl (h.aJ.length+1) (h.rc+1) h.tm:=by
 unfold Ch.obj;simp[hr]
theorem Ch.Mx(hr:h.rc<h.aJ.length):({h with aJ:=h.aJ++ [v],rc:=h.rc+1}:Ch).obj= .chan room (((h.aJ.drop h.rc).toArray.extract 1 (h.aJ.drop h.rc).toArray.size).push v) h.cl (h.aJ.length+1) (h.rc+1) h.tm:=by
 have:=Ch.I8 (h:=h);unfold Ch.obj at this⊢;simp only[aqh,true_and,and_true]at this;simp only[aqh,true_and,and_true];refine⟨?_,by simp⟩;rw[←this,ap5 hr];simp
theorem Ch.IU:(h.aJ.drop h.rc).toArray.size=h.aJ.length- h.rc:=by simp
theorem Ch.Je:(h.aJ.drop h.rc).toArray.getD 0 undef=h.aJ.getD h.rc undef:=by
 simp[al9]
end
section
variable{gi:Nat→Nat}{c:o_}{w w1:aly}{t u:ap8}
theorem Told.quiet(h:Told gi c w t)(hu: ∀op∈u,op.act.touch?=none)(hs:w.heap.size≤w1.heap.size):Told gi c w1 (t++u):=by
 refine⟨λsaid=>?_,λi b hb=>(h.own i b hb).app λop hop x hx _=>?_,λi b hb=>(h.read i b hb).app λop hop x hx _ _=>?_,(h.low.mono hs).app λop hop x hx b _=>?_⟩
 ·rintro⟨i,j,tX,⟨a,b,ha,hb,hc⟩,n1,n2⟩;have key: ∀l x,touchAt (t++u) l=some x→touchAt t l=some x:=by
   intro l x hx;rcases dA hx with h1|⟨op,h1,_,h3⟩
   ·exact h1
   ·rw[hu op h1]at h3;cases h3
  exact h.clean said ⟨i,j,tX,⟨a,b,key i a ha,key j b hb,hc⟩,λe=>n1 (hb_app u e),λe=>n2 (hb_app u e)⟩
 ·rw[hu op hop]at hx;cases hx
 ·rw[hu op hop]at hx;cases hx
 ·rw[hu op hop]at hx;cases hx
def Handed(k:Nat→Nat)(c:o_)(t:ap8):Prop:=∀i h f v,c.ch i=some h→h.pend=some (f,v)→
 ∃p op,t[p]? =some op∧op.act= .close (k i)∧t.heard p∧∀a b,f a=some b→∀j x,touchAt t j=some x→iK b x.loc→Before t j p
theorem Handed.app{k:Nat→Nat}(h:Handed k c t)(hu: ∀i x f v a b,c.ch i=some x→x.pend=some (f,v)→f a=some b→∀op∈u,∀y,op.act.touch?=some y→¬iK b y.loc):Handed k c (t++u):=by
 intro i x f v hx hp;obtain⟨p,op,h1,h2,h3,h4⟩:=h i x f v hx hp;have hlt:=aqp h1;refine⟨p,op,by rw[getElem?_append_old hlt];exact h1,h2,(heard_old hlt).2 h3,λa b hab j y hy hl=>?_⟩;rcases dA hy with h5|⟨Xa,h5,_,h6⟩
 ·exact(h4 a b hab j y h5 hl).app u
 ·exact absurd hl (hu i x f v a b hx hp hab Xa h5 y h6)
theorem GQ{k g p:Nat}{op y:MemOp}(h1:t[p]? =some op)(h2:op.act= .close k)(h3:t.heard p)(hy:y.act= .recvClosed k)(hg:y.g=g)(hd:Deaf t g=0):Knows (t++ #[y]) g p:=by
 have hlt:=aqp h1;have aaJ:(t++ #[y])[t.size]? =some y:=by simp
 have hh:(t++ #[y]).heard t.size:=⟨g,by simp[Trace.g?,hg],by rw[deaf_old (agl _)];exact hd⟩;refine⟨t.size,y,aaJ,hg,.inr (.single (.inr ⟨.closed (c:=k) ?_ ?_,(heard_old hlt).2 h3,hh⟩))⟩
 ·rw[act?_old hlt,act?_of h1,h2]
 ·rw[act?_of aaJ,hy]
end
def si(g:aqi)(fr:aoz)(cs:List aoz):Prop:=g.frame=fr∧g.callers=cs∧g.status= .running∧g.dying=none
theorem si.step{P:alu}{mb:Bool}{g:aqi}{fr:aoz}{cs:List aoz}(h:si g fr cs)(w:aly):stepG P mb g w=stepG P mb (G fr cs) w:=by
 obtain⟨h1,h2,_,h4⟩:=h;exact stepG_same (h:=G fr cs) h1 h2 h4 w
theorem jm(fr:aoz)(cs:List aoz):si (G fr cs) fr cs:=⟨rfl,rfl,rfl,rfl⟩
theorem mD(fr:aoz)(cs:List aoz)(v:aad):si (Conc.served (G fr cs) v) (fr.finish v) cs:=⟨rfl,rfl,rfl,rfl⟩
theorem zJ(fr:aoz)(cs:List aoz)(cases:Array CommCase)(sh:CommShape):si {parked (G fr cs) cases sh with status:= .running} fr cs:=⟨rfl,rfl,rfl,rfl⟩
structure bF.Sub(r1 r:bF):Prop where
 tok:r1.tok=none
 e: ∀b o,r1.e b=some o→r.e b=some o
 s:r1.s=r.s
theorem vZ{I:Nat→aad→Prop}{l:List aad}{v:aad}(h: ∀p x,l[p]? =some x→I p x)(hv:I l.length v): ∀p x,(l++ [v])[p]? =some x→I p x:=by
 intro p x hx;rcases Nat.lt_or_ge p l.length with hl|hl
 ·rw[List.getElem?_append_left hl]at hx;exact h p x hx
 ·rw[List.getElem?_append_right hl]at hx;have:p- l.length=0:=by
   have:=(apT.1 hx).1;simp at this;omega
  rw[this]at hx;simp at hx;subst hx;rw[show p=l.length by omega];exact hv
section
variable(P:alu)(F:alB→Bool)(k:Nat→Nat)(Pre:Nat→List aad→Ren→aly→Prop)(api:Nat→aad→Prop)(Dn:Nat→bF→aoz→List aoz→Prop)
def aaa(i:Nat)(r:bF)(fr:aoz)(cs:List aoz):Prop:=
 mayWake P (G fr cs)=true∧∃fr1 cs1 r1,bF.Sub r1 r∧aK P false F (Dn i) r1 fr1 cs1∧
  ∀w,r.Fits P F w→∀buf s q tm,w.heap[k i]? =some (.chan room buf false s q tm)→
   stepG P false (G fr cs) w= .go (G fr1 cs1) (w.setChan (k i) room buf true s q tm) #[⟨.obj (k i),false,true⟩,⟨.obj (k i),true,true⟩]
def Sends(i:Nat)(total:List aad):List aad→bF→aoz→List aoz→Prop
 | [],r,fr,cs=>(∃f v,r.tok=some (f,v)∧Pre i total f v)∧aaa P F k Dn i r fr cs
 |x::rest,r,fr,cs=>api (total.length-(rest.length+1)) x∧(∃z,∀w,r.Fits P F w→stepG P false (G fr cs) w= .comm (G fr cs) #[scase (k i) x z] true .send w #[])∧
   aK P false F (Sends i total rest) r (fr.finish undef) cs
def LY(i:Nat)(r:bF)(fr:aoz)(cs:List aoz):Prop:=∃xs,Sends P F k Pre api Dn i xs xs r fr cs
structure A8(r:bF)(f:Ren)(v:aly)(r':bF):Prop where
 fits: ∀w,r.Fits P F w→Fit P F f v w→(∀a b,f a=some b→¬(r.Own b∨r.s b≠none))→r'.Fits P F w
 own: ∀b,r'.Own b→r.Own b∨∃a,f a=some b
 seen: ∀b o,r'.s b=some o→r.s b=some o
structure Recvs(mb:Bool)(i:Nat)(z:aad)(A:List aad→bF→aoz→List aoz→Prop)(B:bF→aoz→List aoz→Prop):Prop where
 comm: ∀ys r fr cs,A ys r fr cs→∀w,r.Fits P F w→stepG P mb (G fr cs) w= .comm (G fr cs) #[rcase (k i) z] true (.recv true) w #[]
 val: ∀ys r fr cs x,A ys r fr cs→api ys.length x→aK P mb F (A (ys++ [x])) r (fr.finish (.tuple #[x,.bool true])) cs
 fin: ∀ys r fr cs f v,A ys r fr cs→Pre i ys f v→∃r',A8 P F r f v r'∧aK P mb F B r' (fr.finish (.tuple #[z,.bool false])) cs
variable(z:aad)(A:Nat→List aad→bF→aoz→List aoz→Prop)
end
end Go.Upr
namespace Go.Upr
open Go.Conc
section
variable{mb:Bool}{P:alu}{F:alB→Bool}{Stop:bF→aoz→List aoz→Prop}{r:bF}{b:aoz}{a:Act}{k:List api}{cs:List aoz}{ops:Array Oper}{i:Nat}{rest:List Nat}{o:Oper}
theorem aK.ctl{fr fr1:aoz}{cs1:List aoz}(h: ∀w,stepG P mb (G fr cs) w= .go (G fr1 cs1) w)(hs:aK P mb F Stop r fr1 cs1):aK P mb F Stop r fr cs:=
 .still (λw _=>⟨#[],h w,by simp⟩) hs
theorem aK.value(v:aad)(ho:ops[i]? =some o)(hw:apY o (yielded ops a.tmps)=true)(hk:b.kind≠ .early)
  (hr: ∀w,r.Fits P F w→(execOp a.eval o).run P w= .ok (.value v) w∧∀e∈(execOp a.eval o).events P w #[],Ku r e)
  (hs:aK P mb F Stop r (b.at (a.put o.dst v) (.inRegion ops rest::k)) cs):aK P mb F Stop r (b.at a (.inRegion ops (i::rest)::k)) cs:=
 .still (λw hf=>⟨_,ap7 ho hw hk (hr w hf).1,λe he=>(hr w hf).2 e (ap4 he)⟩) hs
theorem aK.pure(v:aad)(ho:ops[i]? =some o)(hw:apY o (yielded ops a.tmps)=true)(hk:b.kind≠ .early)
  (hr: ∀w,(execOp a.eval o).run P w= .ok (.value v) w) (he: ∀w,(execOp a.eval o).events P w #[]= #[])
  (hs:aK P mb F Stop r (b.at (a.put o.dst v) (.inRegion ops rest::k)) cs):aK P mb F Stop r (b.at a (.inRegion ops (i::rest)::k)) cs:=
 .value v ho hw hk (λw _=>⟨hr w,by rw[he w];simp⟩) hs
theorem aK.turn(ho:ops[i]? =some o)(hw:apY o (yielded ops a.tmps)=true)(hk:b.kind≠ .early)
  (hr: ∀w,r.Fits P F w→∃n v w1 r1,(execOp a.eval o).run P w= .ok n w1∧(n= .value v∨(n= .skip∧v=undef))∧(∀e∈(execOp a.eval o).events P w #[],Ku r1 e)∧r1.Fits P F w1∧Only r r1 w w1∧
   aK P mb F Stop r1 (b.at (a.put o.dst v) (.inRegion ops rest::k)) cs):aK P mb F Stop r (b.at a (.inRegion ops (i::rest)::k)) cs:=by
 refine .step λw hf=>?_;obtain⟨n,v,w1,r1,h1,h2,h3,h4,h5,h6⟩:=hr w hf;rcases h2 with rfl|⟨rfl,rfl⟩
 ·exact⟨_,cs,w1,_,r1,ap7 ho hw hk h1,h4,h5,λe he=>h3 e (ap4 he),h6⟩
 ·exact⟨_,cs,w1,_,r1,stepG_none ho hw hk h1,h4,h5,λe he=>h3 e (ap4 he),h6⟩
theorem Frame.iE{v:aad}(ho:ops[i]? =some o):(b.at a (.inRegion ops (i::rest)::k)).finish v=b.at (a.put o.dst v) (.inRegion ops rest::k):=by
 rw[Frame.finish_at,ho];rfl
theorem aK.ghost{f:Ren}{v:aly}{e s:Nat→Option am2}(H:Held P F)(ho:ops[i]? =some o)(hw:apY o (yielded ops a.tmps)=true)(hk:b.kind≠ .early)(gH:qd P F o.op=true)
  {ρ:ang→aad} (hρ: ∀x∈o.op.operands,aA F f (ρ x) (a.eval x)) {Q:aad→aly→Prop}
  (hl: ∀T,∃n u v1,(execOp ρ o).run P (ax v T)= .ok n v1∧(n= .value u∨(n= .skip∧u=undef))∧Q u v1)
  (hs: ∀f' u u' v1,f.le f'→aA F f' u u'→Q u v1→aK P mb F Stop ⟨some (f',v1),e,s⟩ (b.at (a.put o.dst u') (.inRegion ops rest::k)) cs):
  aK P mb F Stop ⟨some (f,v),e,s⟩ (b.at a (.inRegion ops (i::rest)::k)) cs:=by
 classical
 refine .step λw hf=>?_;have HX: ∀cs b,o.op≠ .select cs b:=by
  intro cs b he;rw[he]at gH;simp[qd]at gH
 have e1:=aqD (ρ:=λx=>if x∈o.op.operands then ρ x else undef) (ρ':=ρ) o HX (λx hx=>if_pos hx);have e2:=aqD (ρ:=λx=>if x∈o.op.operands then a.eval x else undef) (ρ':=a.eval) o HX (λx hx=>if_pos hx);have hrel:zC F f (λx=>if x∈o.op.operands then ρ x else undef) (λx=>if x∈o.op.operands then a.eval x else undef):=by
  intro x _;dsimp only;by_cases hx:x∈o.op.operands
  ·rw[if_pos hx,if_pos hx];exact hρ x hx
  ·rw[if_neg hx,if_neg hx];exact .undef
 have sim:=aH.execOp H.fits gH hrel;rw[e1,e2]at sim;have pg:=hf.tok f v rfl;obtain⟨n,u,v1,h1,h2,h3⟩:=hl λj=>w.tape (w.drawn+(j- v.drawn));generalize hq:(execOp ρ o).runT P (ax v λj=>w.tape (w.drawn+(j- v.drawn))) #[]=q;have hq1:q.1= .ok n v1:=by rw[←hq,apP,h1]
 obtain⟨q,es⟩:=q;dsimp only at hq1;subst hq1;obtain⟨g,n',w1,xs,i1,i2,i3,i4,i5⟩:=sim.1 _ w #[] #[] pg.rel n v1 es hq;have Fb: ∀x∈(execOp a.eval o).events P w #[],vG g x:=by
  intro x hx;unfold aqx at hx;rw[i1]at hx;simp only[aqg]at hx;exact i5 x hx
 have hrun:(execOp a.eval o).run P w= .ok n' w1:=by rw[←apP P _ w #[],i1]
 have key: ∃u',(n'= .value u'∨(n'= .skip∧u'=undef))∧aA F g u u':=by
  rcases h2 with rfl|⟨rfl,rfl⟩
  ·cases i4 with
   |value h=>exact⟨_,.inl rfl,h⟩
  ·cases i4 with
   |skip=>exact⟨_,.inr ⟨rfl,rfl⟩,.undef⟩
 obtain⟨u',h4,h5⟩:=key;have hstep:yC P mb F f (b.at a (.inRegion ops (i::rest)::k)) cs w λg' v' fr' cs'=>g'=g∧v'=v1∧fr'=b.at (a.put o.dst u') (.inRegion ops rest::k)∧cs'=cs:=by
  rcases h4 with rfl|⟨rfl,rfl⟩
  ·exact⟨_,cs,w1,_,g,v1,ap7 ho hw hk hrun,.lN i2,i3,λx hx=>Fb x (ap4 hx),rfl,rfl,rfl,rfl⟩
  ·exact⟨_,cs,w1,_,g,v1,stepG_none ho hw hk hrun,.lN i2,i3,λx hx=>Fb x (ap4 hx),rfl,rfl,rfl,rfl⟩
 refine Aq.ur hf hstep λg' v' fr' cs' hle hx=>?_;obtain⟨rfl,rfl,rfl,rfl⟩:=hx;exact hs _ u u' _ hle h5 h3
end
end Go.Upr
namespace Go.Proofs.YtkdljbnllgpfhaaGreat
open Go.Upr
def yw(P:alu)(F:alB→Bool)(ext:List Nat)(g:Nat):Bool:=
 match P.funcs[g]? with
 |some x=>(match x.body with|some c=>bD P F c|none=>ext.contains g)&& !(x.name== "runtime.NumGoroutine")&&(P.inits.idxOf? g).isNone
 |none=>false
theorem ZF{P:alu}{L ext:List Nat}(h:L.all (yw P (λg=>L.contains g) ext)=true)
  (hx: ∀g∈ext,∀x,P.funcs[g]? =some x→apV x=none∧∃e,ap3 x=some e∧∀f a a',RelA (λg=>L.contains g) f a a'→aH P (λg=>L.contains g) (bD P λg=>L.contains g) (aA λg=>L.contains g) f (e a) (e a')):Held P (λg=>L.contains g):=by
 have key: ∀g,L.contains g=true→yw P (λg=>L.contains g) ext g=true:=λg hg=>List.all_eq_true.1 h g (by simpa using hg);refine⟨⟨λg hg=>?_⟩,λg x c hg hx hb=>?_,λg hg=>?_⟩
 ·have:=key g hg;unfold yw at this;cases kx:P.funcs[g]? with
  |none=>rw[kx]at this;simp at this
  |some x=>
   rw[kx]at this;simp only[anh,Bool.not_eq_true']at this;refine⟨x,rfl,this.1.2,?_⟩;cases hb:x.body with
   |some c=>exact .inl rfl
   |none=>
    rw[hb]at this;obtain⟨h1,h2⟩:=hx g (by simpa using this.1.1) x kx;exact .inr ⟨rfl,h1,h2⟩
 ·have:=key g hg;unfold yw at this;rw[hx]at this;simp only[hb,anh]at this;exact this.1.1
 ·have:=key g hg;unfold yw at this;cases kx:P.funcs[g]? with
  |none=>rw[kx]at this;simp at this
  |some x=>
   rw[kx]at this;simp only[anh]at this;simpa using this.2
section
variable{P:alu}{F:alB→Bool}{C:Code→Bool}{f:Ren}
theorem Eh(name:String){a a':Array aad}(h:RelA F f a a'):aH P F C (λ_ x x'=>x=x') f (apJ name a) (apJ name a'):=by
 obtain⟨l⟩:=a;obtain⟨l'⟩:=a';unfold RelA at h;dsimp only at h;cases h with
 |nil=>exact .halt
 |cons h1 t=>
  cases t with
  |nil=>exact .halt
  |cons h2 t=>
   cases t with
   |nil=>exact .halt
   |cons h3 t=>
    cases t with
    |nil=>
     unfold apJ;refine .bind (.asInt h3) λg c c' hle hc=>?_;subst hc;dsimp only;by_cases h0:c.toNat>1
     ·simp only[if_pos h0];exact .never (.aO (.halt _))
     ·simp only[if_neg h0];refine .bind (.asInt (h1.mono hle)) λg3 x x' eQ hx=>?_;subst hx;refine .bind (.asInt ((h2.mono hle).mono eQ)) λg4 y y' _ hy=>?_;subst hy;exact .pure' rfl
    |cons _ _=>exact .halt
end
theorem V4:ap3 Tryz.f350=some (λargs=>do let(x,y,c) ←apJ "Add64" args;pure (apL ((x+y+c) % apM) ((x+y+c) /apM))):=by rfl
theorem V3:ap3 Tryz.f394=some (λargs=>do let(x,y,b) ←apJ "Sub64" args;pure (apL ((x+apM- y- b) % apM) (if x<y+b then 1 else 0))):=by rfl
theorem Vr:apV Tryz.f350=none:=by rfl
theorem Vq:apV Tryz.f394=none:=by rfl
theorem Z4(L:List Nat)(g:Nat)(hg:g∈ [350,394])(x:Func)(hx:Tryz.prog.funcs[g]? =some x):apV x=none∧∃e,ap3 x=some e∧∀f a a',RelA (λg=>L.contains g) f a a'→aH Tryz.prog (λg=>L.contains g) (bD Tryz.prog λg=>L.contains g) (aA λg=>L.contains g) f (e a) (e a'):=by
 have pr: ∀ (f:Ren) (a b:Nat),aA (λg=>L.contains g) f (apL a b) (apL a b):=λf a b=> .tuple (.cons (.int _ _) (.cons (.int _ _) .nil));rcases ap9.1 hg with rfl|hg
 ·rw[Tryz.func350]at hx;cases hx;refine⟨Vr,_,V4,λf a a' h=>?_⟩;refine .bind (Eh "Add64" h) λg x x' _ hx=>?_;subst hx;exact .pure' (pr _ _ _)
 ·have:g=394:=by simpa using hg
  subst this;rw[Tryz.func394]at hx;cases hx;refine⟨Vq,_,V3,λf a a' h=>?_⟩;refine .bind (Eh "Sub64" h) λg x x' _ hx=>?_;subst hx;exact .pure' (pr _ _ _)
end Go.Proofs.YtkdljbnllgpfhaaGreat
namespace Go.Proofs.YtkdljbnllgpfhaaGreat
open Go.Upr Go.Conc
theorem base_kind(f:alB):(base f).kind≠ .early:=by unfold base;simp
abbrev mQ:Array Oper:= #[{dst:=some 12,op:=ap1 (apH 0),type:=353,pos:= "pipe.go:82",after:= #[],guard:=none},
  {dst:=some 13,op:=aqv 156 (apH 5),type:=156,pos:= "pipe.go:82",after:= #[],guard:=none},
  {dst:=none,op:=Op.send (apH 12) (apH 13),type:=0,pos:= "pipe.go:82",after:= #[{on:=0,ground:=apI},{on:=1,ground:=apI}],guard:=none}]
abbrev fh:Array Oper:= #[{dst:=some 15,op:=ap1 (apH 0),type:=353,pos:= "pipe.go:84",after:= #[],guard:=none},
  {dst:=none,op:=aqw {callee:=apW aqn,args:= #[apH 15],argTypes:= #[353]},type:=0,pos:= "pipe.go:84",after:= #[{on:=0,ground:=apI}],guard:=none}]
theorem Z6{a:Act}{kk:Nat}{x:aad}{k:List api}{cs:List aoz}(ky:a.tmps[12]?.getD undef= .chan (some kk))(AU:a.tmps[13]?.getD undef=x)(w:aly):
  stepG Tryz.prog false (G ((base 152).at a (.inRegion mQ [2]::k)) cs) w= .comm (G ((base 152).at a (.inRegion mQ [2]::k)) cs) #[scase kk x (.tuple #[])] true .send w #[]:=by
 rw[stepG_comm (w':=w) (cases:= #[scase kk x (.tuple #[])]) (blocking:=true) (shape:= .send) (ops:=mQ) (i:=2) rfl rfl (base_kind _)]
 ·rw[listed_nil];simp[go_sem]
 ·simp[go_sem,ky,AU,scase]
theorem M6(P:alu){kk:Nat}{w:aly}{cap:Nat}{buf:Array aad}{s q:Nat}{tm:Bool}(hc:w.heap[kk]? =some (.chan cap buf false s q tm))(ts:Array acs)(t:acs):
  (aql ts t #[.chan (some kk)]).runT P w #[]=(.ok (.tuple #[]) (w.setChan kk cap buf true s q tm),#[⟨.obj kk,false,true⟩,⟨.obj kk,true,true⟩]):=by
 have h1:=run_close_open (P:=P) (w:=w) ts t hc;have h2:=events_close_open (P:=P) (w:=w) (es:= #[]) ts t hc;refine aqB ?_ ?_
 ·rw[apP,h1];rfl
 ·exact h2
theorem Wd{P:alu}{a:Act}{kk:Nat}(G_:a.tmps[15]?.getD undef= .chan (some kk)){w:aly}{cap:Nat}{buf:Array aad}{s q:Nat}{tm:Bool}(hc:w.heap[kk]? =some (.chan cap buf false s q tm)):
  (execOp a.eval fh[1]).runT P w #[]=(.ok (.value (.tuple #[])) (w.setChan kk cap buf true s q tm),#[⟨.obj kk,false,true⟩,⟨.obj kk,true,true⟩]):=by
 have e:execOp a.eval fh[1]=(do ads (Next.value (←aql #[353] 0 #[.chan (some kk)]))):=by
  have h:a.eval (.tmp 15)= .chan (some kk):=by simpa[Act.eval,al9]using G_
  show(do let d←resolve a.eval {callee:=apW aqn,args:= #[apH 15],argTypes:= #[353]} 0;invoke d.target d.args)=_
  unfold resolve;simp only[List.map_toArray,List.map_cons,List.map_nil,h];rfl
 rw[e,runT_bind',M6 P hc];rfl
theorem Wp{a:Act}{kk:Nat}{k:List api}{cs:List aoz}(G_:a.tmps[15]?.getD undef= .chan (some kk))(w:aly){cap:Nat}{buf:Array aad}{s q:Nat}{tm:Bool}(hc:w.heap[kk]? =some (.chan cap buf false s q tm)):
  stepG Tryz.prog false (G ((base 152).at a (.inRegion fh [1]::k)) cs) w= .go (G ((base 152).at (a.put none (.tuple #[])) (.inRegion fh []::k)) cs) (w.setChan kk cap buf true s q tm) #[⟨.obj kk,false,true⟩,⟨.obj kk,true,true⟩]:=by
 have h:=Wd (P:=Tryz.prog) G_ hc;rw[ap7 (v:= .tuple #[]) (w':=w.setChan kk cap buf true s q tm) (ops:=fh) (i:=1) rfl rfl (base_kind _) (by rw[←apP Tryz.prog _ w #[],h])]
 congr 1
 unfold listed aqx;rw[h];dsimp only;rw[show(base 152).fn=152 from rfl,seen_eq (by rw[Tryz.func152];rfl) bz]
abbrev pR:Array Oper:= #[{dst:=some 10,op:=Op.indexAddr 93 (apH 6) (apH 8),type:=0,pos:= "pipe.go:81",after:= #[],guard:=none},
 {dst:=some 11,op:=aqv 156 (apH 10),type:=156,pos:= "pipe.go:81",after:= #[{on:=0,ground:=apI}],guard:=none},
 {dst:=some 5,op:=aqK 156,type:=0,pos:= "pipe.go:81",after:= #[],guard:=none},
 {dst:=none,op:=aqI 156 (apH 5) (apH 11),type:=0,pos:= "pipe.go:81",after:= #[{on:=2,ground:=apI},{on:=1,ground:=apI},{on:=0,ground:=apK},{on:=1,ground:=apK},{on:=2,ground:=apK}],guard:=none}]
theorem Zx(ρ:ang→aad)(w:aly)(ad:alA)(n cp j:Nat)(h6:ρ (.tmp 6)= .slice (some ad) n cp)(h8:ρ (.tmp 8)= .int .i64 j)(hj:j<n):(execOp ρ pR[0]).run Tryz.prog w= .ok (.value (.pointer (some (ad.add (j*5))))) w:=by
 have:(j:Int)<n:=by omega
 simp[go_sem,h6,h8,this]
theorem VM(ρ:ang→aad)(w:aly)(b o:Nat)(x0 x1 x2 x3 x4:aad)(h0:w.cell? ⟨b,o,none⟩=some x0)(h1:w.cell? ⟨b,o+1,none⟩=some x1)(h2:w.cell? ⟨b,o+2,none⟩=some x2)(h3:w.cell? ⟨b,o+3,none⟩=some x3)(h4:w.cell? ⟨b,o+4,none⟩=some x4)
  (h10:ρ (.tmp 10)= .pointer (some ⟨b,o,none⟩)):(execOp ρ pR[1]).run Tryz.prog w= .ok (.value (.agg #[x0,x1,x2,x3,x4])) w:=by
 simp[go_sem,h10,h0,h1,h2,h3,h4]
theorem Q6(ρ:ang→aad)(w:aly):(execOp ρ pR[2]).run Tryz.prog w= .ok (.value (.pointer (some ⟨w.heap.size,0,none⟩))) {w with heap:=w.heap.push (.cells #[.string ⟨#[]⟩,.int .u64 0,.int .u64 0,.int .u64 0,.bool false] 156)}:=by
 simp[go_sem]
theorem eh{w:aly}{b o:Nat}{c:Array aad}{e:acs}{fr:Nat×Nat}(x:aad)(hb:w.heap[b]? =some (.cells c e fr)):
  (w.setCell ⟨b,o,none⟩ x).heap=w.heap.setIfInBounds b (.cells (c.setIfInBounds o x) e fr)∧(w.setCell ⟨b,o,none⟩ x).heap[b]? =some (.cells (c.setIfInBounds o x) e fr):=by
 have h:(w.setCell ⟨b,o,none⟩ x).heap=w.heap.setIfInBounds b (.cells (c.setIfInBounds o x) e fr):=by
  unfold amJ;dsimp only;rw[jH _ _ _ _ hb];rfl
 exact⟨h,by rw[h,alC (ad3.1 hb).1]⟩
theorem Ei(h:Array am2)(b:Nat)(o o':am2):(h.setIfInBounds b o).setIfInBounds b o'=h.setIfInBounds b o':=by
 apply aqf;intro i;by_cases hi:b=i
 ·subst hi;by_cases hl:b<h.size
  ·rw[alC (by simpa using hl),alC hl]
  ·rw[aqa (by simpa using hl),aqa (by simpa using hl)]
 ·rw[als hi,als hi,als hi]
theorem Q3(ρ:ang→aad)(w:aly)(b:Nat)(nm:ByteArray)(p q r:Int)(g:Bool)(y0 y1 y2 y3 y4:aad)(hb:w.heap[b]? =some (.cells #[y0,y1,y2,y3,y4] 156 (0,0)))
  (h5:ρ (.tmp 5)= .pointer (some ⟨b,0,none⟩)) (h11:ρ (.tmp 11)= .agg #[.string nm,.int .u64 p,.int .u64 q,.int .u64 r,.bool g]):
  ∃w1,(execOp ρ pR[3]).run Tryz.prog w= .ok .skip w1∧w1.heap=w.heap.setIfInBounds b (.cells #[.string nm,.int .u64 p,.int .u64 q,.int .u64 r,.bool g] 156 (0,0))∧w1.tape=w.tape∧w1.drawn=w.drawn:=by
 have c0:w.cell? ⟨b,0,none⟩=some y0:=by simp[alH,hb]
 have c1:w.cell? ⟨b,1,none⟩=some y1:=by simp[alH,hb]
 have c2:w.cell? ⟨b,2,none⟩=some y2:=by simp[alH,hb]
 have c3:w.cell? ⟨b,3,none⟩=some y3:=by simp[alH,hb]
 have c4:w.cell? ⟨b,4,none⟩=some y4:=by simp[alH,hb]
 have f0: ∀i,w.frozen? ⟨b,i,none⟩=false:=λi=>by simp[amK,hb]
 have hrun:(execOp ρ pR[3]).run Tryz.prog w= .ok .skip (((((w.setCell ⟨b,0,none⟩ (.string nm)).setCell ⟨b,1,none⟩ (.int .u64 p)).setCell ⟨b,2,none⟩ (.int .u64 q)).setCell ⟨b,3,none⟩ (.int .u64 r)).setCell ⟨b,4,none⟩ (.bool g)):=by
  simp[go_sem,h5,h11,c0,c1,c2,c3,c4,f0]
 refine⟨((((w.setCell ⟨b,0,none⟩ (.string nm)).setCell ⟨b,1,none⟩ (.int .u64 p)).setCell ⟨b,2,none⟩ (.int .u64 q)).setCell ⟨b,3,none⟩ (.int .u64 r)).setCell ⟨b,4,none⟩ (.bool g),hrun,?_,by simp only[amJ],by simp only[amJ]⟩;obtain⟨a1,b1⟩:=eh (o:=0) (.string nm) hb;obtain⟨a2,b2⟩:=eh (o:=1) (.int .u64 p) b1;obtain⟨a3,b3⟩:=eh (o:=2) (.int .u64 q) b2;obtain⟨a4,b4⟩:=eh (o:=3) (.int .u64 r) b3;obtain⟨a5,_⟩:=eh (o:=4) (.bool g) b4;rw[a5,a4,a3,a2,a1];simp only[Ei];simp
structure dU where
 nm:ByteArray
 p:Int
 q:Int
 r:Int
 g:Bool
def dU.cells(x:dU):List Value:= [.string x.nm,.int .u64 x.p,.int .u64 x.q,.int .u64 x.r,.bool x.g]
def dU.val(x:dU):Value:= .agg #[.string x.nm,.int .u64 x.p,.int .u64 x.q,.int .u64 x.r,.bool x.g]
def gN(v:aly)(s:aad)(xs:List dU):Prop:=
 (xs= []∧∃ad cp,s= .slice ad 0 cp)∨∃b o cp c e fr,s= .slice (some ⟨b,o,none⟩) xs.length cp∧v.heap[b]? =some (.cells c e fr)∧
  ∀j x,xs[j]? =some x→c[o+j*5]? =some (.string x.nm)∧c[o+j*5+1]? =some (.int .u64 x.p)∧c[o+j*5+2]? =some (.int .u64 x.q)∧c[o+j*5+3]? =some (.int .u64 x.r)∧c[o+j*5+4]? =some (.bool x.g)
theorem gN.grow{v v1:aly}{s:aad}{xs:List dU}(h:gN v s xs)(hg: ∀ (b:Nat) (o:am2),v.heap[b]? =some o→v1.heap[b]? =some o):gN v1 s xs:=by
 rcases h with h|⟨b,o,cp,c,e,fr,h1,h2,h3⟩
 ·exact .inl h
 ·exact .inr ⟨b,o,cp,c,e,fr,h1,hg _ _ h2,h3⟩
theorem dU.rel{F:alB→Bool}{f:Ren}(x:dU):aA F f x.val x.val:=
 .agg (.cons (.string _) (.cons (.int _ _) (.cons (.int _ _) (.cons (.int _ _) (.cons (.bool _) .nil)))))
theorem dU.lN{F:alB→Bool}{f:Ren}{x:dU}{u:aad}(h:aA F f x.val u):u=x.val:=by
 unfold dU.val at h⊢;cases h with
 |agg h=>
  rename_i cs';obtain⟨l⟩:=cs';dsimp only at h;cases h with
  |cons h0 t=>cases h0;cases t with
   |cons h1 t=>cases h1;cases t with
    |cons h2 t=>cases h2;cases t with
     |cons h3 t=>cases h3;cases t with
      |cons h4 t=>cases h4;cases t;rfl
abbrev ZB:Array Oper:= #[{dst:=some 6,op:=ap1 (apH 1),type:=93,pos:= "pipe.go:81",after:= #[],guard:=none},
 {dst:=some 7,op:=aqw {callee:=apW Builtin.len,args:= #[apH 6],argTypes:= #[93]},type:=3,pos:= "pipe.go:81",after:= #[{on:=0,ground:=apI}],guard:=none},
 {dst:=some 8,op:=ap1 (apX (aqu apt 0)),type:=3,pos:= "pipe.go:81",after:= #[],guard:=none}]
abbrev af9:Array Oper:= #[{dst:=some 9,op:=aqJ BinOp.lss 3 (apH 8) (apH 7) 3,type:=0,pos:= "pipe.go:81",after:= #[],guard:=none}]
abbrev FV:Array Oper:= #[{dst:=some 14,op:=aqJ BinOp.add 3 (apH 8) (apX (aqu apt 1)) 3,type:=3,pos:= "pipe.go:81",after:= #[],guard:=none},
 {dst:=some 8,op:=ap1 (apH 14),type:=3,pos:= "pipe.go:81",after:= #[{on:=0,ground:=apI}],guard:=none}]
abbrev ae0:Code:=aqj 1 ((apN 2 pR false).seq (apN 3 mQ false))
abbrev uX:Code:=(apN 1 af9 false).seq ((aqA (apH 9) aqy (aqz 0)).seq (ae0.seq (apN 4 FV false)))
section
variable{F:alB→Bool}{Stop:bF→aoz→List aoz→Prop}{e s:Nat→Option am2}{c:aoz}{cs:List aoz}
theorem VD{r:bF}{kk:Nat}{s' a1 a2 a3 a4 a5 a9 Bq DZ a12 tY SS SR:aad}{n:Nat}
  (hs: ∀T:Array aad,T[15]?.getD undef= .chan (some kk)→aK Tryz.prog false F Stop r ((base 152).at ⟨T,[]⟩ [.inRegion fh [1]]) (c::cs)):
  aK Tryz.prog false F Stop r ((base 152).at ⟨#[.chan (some kk),a1,a2,a3,a4,a5,s',.int .i64 n,.int .i64 n,a9,Bq,DZ,a12,tY,SS,SR],[]⟩ [.code uX,.inLoop uX,.inBlock 0,.code (.region 5 fh false)]) (c::cs):=by
 refine aK.ctl (λw=>apU) ?_;refine aK.ctl (λw=>apR) ?_;refine aK.pure (.bool false) rfl rfl (base_kind _) (λw=>by simp[go_sem]) (λw=>by simp[go_sem]) ?_;walk_nrm;refine aK.ctl (λw=>apQ) ?_;refine aK.ctl (λw=>apU) ?_;refine aK.ctl (λw=>stepG_cond (t:=false) rfl) ?_;simp only[Bool.false_eq_true,if_false];refine aK.ctl (λw=>stepG_exit (k':= [.code (.region 5 fh false)]) rfl) ?_;refine aK.ctl (λw=>apR) ?_;refine aK.pure (.chan (some kk)) rfl rfl (base_kind _) (λw=>by simp[go_sem]) (λw=>by simp[go_sem]) ?_;walk_nrm;exact hs _ rfl
end
section
variable{F:alB→Bool}{Stop:bF→aoz→List aoz→Prop}{e s:Nat→Option am2}{c:aoz}{cs:List aoz}
theorem qs{P:alu}{mb:Bool}{F:alB→Bool}{Stop:bF→aoz→List aoz→Prop}{r:bF}{fr:aoz}{cs:List aoz}(h:(∃w,r.Fits P F w)→aK P mb F Stop r fr cs):aK P mb F Stop r fr cs:=by
 by_cases hw: ∃w,r.Fits P F w
 ·exact h hw
 ·exact .step λw h1=>absurd ⟨w,h1⟩ hw
theorem Ot:vI Tryz.prog 156=true:=by decide+kernel
def Grown(v v1:aly):Prop:=∀ (b:Nat) (o:am2),v.heap[b]? =some o→v1.heap[b]? =some o
theorem Zm(H:Held Tryz.prog F){f:Ren}{v:aly}{kk:Nat}{s0 s' a1 a2 a3 a4 a5 a9 Bq DZ a12 tY SS SR:aad}{xs:List dU}{x:dU}{j:Nat}(hx:xs[j]? =some x)(hL:gN v s0 xs)(hr:aA F f s0 s')
  (hs: ∀f' v' p5 p10,f.le f'→Grown v v'→aK Tryz.prog false F Stop ⟨some (f',v'),e,s⟩ ((base 152).at ⟨#[.chan (some kk),a1,a2,a3,a4,p5,s',.int .i64 xs.length,.int .i64 j,.bool true,p10,x.val,.chan (some kk),x.val,SS,SR],[]⟩ [.inRegion mQ [2],.inBlock 1,.code (.region 4 FV false),.inLoop uX,.inBlock 0,.code (.region 5 fh false)]) (c::cs)):
  aK Tryz.prog false F Stop ⟨some (f,v),e,s⟩ ((base 152).at ⟨#[.chan (some kk),a1,a2,a3,a4,a5,s',.int .i64 xs.length,.int .i64 j,a9,Bq,DZ,a12,tY,SS,SR],[]⟩ [.code uX,.inLoop uX,.inBlock 0,.code (.region 5 fh false)]) (c::cs):=by
 have hj:j<xs.length:=(apT.1 hx).1;have ma:(j:Int)<xs.length:=by omega
 rcases hL with⟨rfl,_⟩|⟨b,o,cp,cc,ee,fr,rfl,hb,hc⟩
 ·simp at hx
 obtain⟨q0,q1,q2,q3,q4⟩:=hc j x hx;refine aK.ctl (λw=>apU) ?_;refine aK.ctl (λw=>apR) ?_;refine aK.pure (.bool true) rfl rfl (base_kind _) (λw=>by simp[go_sem,ma]) (λw=>by simp[go_sem]) ?_;walk_nrm;refine aK.ctl (λw=>apQ) ?_;refine aK.ctl (λw=>apU) ?_;refine aK.ctl (λw=>stepG_cond (t:=true) rfl) ?_;simp only[if_true];refine aK.ctl (λw=>stepG_skip) ?_;refine aK.ctl (λw=>apU) ?_;refine aK.ctl (λw=>aqE) ?_;refine aK.ctl (λw=>apU) ?_;refine aK.ctl (λw=>apR) ?_;have ID: ∀ (v1:aly) (T:Nat→am6→Nat),v1.heap=v.heap→∀i y,cc[i]? =some y→(ax v1 T).cell? ⟨b,i,none⟩=some y:=by
  intro v1 T h1 i y hy;have:(ax v1 T).heap[b]? =some (.cells cc ee fr):=by show v1.heap[b]? =_;rw[h1];exact hb
  simp[alH,this,hy]
 have lt:b<v.heap.size:=(ad3.1 hb).1;refine aK.ghost (o:=pR[0]) H rfl rfl (base_kind _) (by simp[qd,anc,bP]) (ρ:=λ| .tmp 6=> .slice (some ⟨b,o,none⟩) xs.length cp| .tmp 8=> .int .i64 j|_=>undef)
  (Q:=λu v1=>u= .pointer (some ⟨b,o+j*5,none⟩)∧v1.heap=v.heap) ?_ (λT=>⟨_,_,ax v T,Zx _ _ ⟨b,o,none⟩ xs.length cp j rfl rfl hj,.inl rfl,by simp[aqt],rfl⟩) ?_
 ·intro y hy;simp[anc]at hy;rcases hy with rfl|rfl
  ·exact hr
  ·exact .int _ _
 rintro f1 u u1 v1 H4 Ss ⟨rfl,xP⟩;walk_nrm;refine aK.ghost (o:=pR[1]) H rfl rfl (base_kind _) (by simp[qd,anc,bP]) (ρ:=λ| .tmp 10=> .pointer (some ⟨b,o+j*5,none⟩)|_=>undef)
  (Q:=λu v2=>u=x.val∧v2.heap=v.heap) ?_ (λT=>⟨_,_,ax v1 T,VM _ _ b (o+j*5) _ _ _ _ _ (ID v1 T xP _ _ q0) (ID v1 T xP _ _ q1) (ID v1 T xP _ _ q2) (ID v1 T xP _ _ q3) (ID v1 T xP _ _ q4) rfl,.inl rfl,rfl,xP⟩) ?_
 ·intro y hy;simp[anc]at hy;subst hy;exact Ss
 rintro f2 u u2 v2 cC KB ⟨rfl,hv2⟩;have e2:=dU.lN KB;subst e2;walk_nrm;refine aK.ghost (o:=pR[2]) H rfl rfl (base_kind _) (by simp[qd,anc,Ot]) (ρ:=λ_=>undef)
  (Q:=λu v3=>u= .pointer (some ⟨v.heap.size,0,none⟩)∧v3.heap=v.heap.push (.cells #[.string ⟨#[]⟩,.int .u64 0,.int .u64 0,.int .u64 0,.bool false] 156)) ?_ (λT=>⟨_,_,_,Q6 _ (ax v2 T),.inl rfl,by show Value.pointer (some ⟨v2.heap.size,0,none⟩)=_;rw[hv2],by show v2.heap.push _=_;rw[hv2]⟩) ?_
 ·intro y hy;simp[anc]at hy
 rintro f3 u u3 v3 eQ Sr ⟨rfl,hv3⟩;walk_nrm;have hb3: ∀T,(ax v3 T).heap[v.heap.size]? =some (.cells #[.string ⟨#[]⟩,.int .u64 0,.int .u64 0,.int .u64 0,.bool false] 156 (0,0)):=by
  intro T;show v3.heap[v.heap.size]? =_;rw[hv3];simp
 refine aK.ghost (o:=pR[3]) H rfl rfl (base_kind _) (by simp[qd,anc,bP]) (ρ:=λ| .tmp 5=> .pointer (some ⟨v.heap.size,0,none⟩)| .tmp 11=>x.val|_=>undef)
  (Q:=λ_ v4=>v4.heap=(v.heap.push (.cells #[.string ⟨#[]⟩,.int .u64 0,.int .u64 0,.int .u64 0,.bool false] 156)).setIfInBounds v.heap.size (.cells #[.string x.nm,.int .u64 x.p,.int .u64 x.q,.int .u64 x.r,.bool x.g] 156 (0,0))) ?_ (λT=>?_) ?_
 ·intro y hy;simp[anc]at hy;rcases hy with rfl|rfl
  ·exact Sr
  ·exact x.rel
 ·obtain⟨w1,h1,h2,_,_⟩:=Q3 (λ| .tmp 5=> .pointer (some ⟨v.heap.size,0,none⟩)| .tmp 11=>x.val|_=>undef) (ax v3 T) v.heap.size x.nm x.p x.q x.r x.g _ _ _ _ _ (hb3 T) rfl rfl;exact⟨_,undef,w1,h1,.inr ⟨rfl,rfl⟩,by rw[h2];show v3.heap.setIfInBounds _ _=_;rw[hv3]⟩
 rintro f4 u u4 v4 mP _ hv4;walk_nrm;have hg4:Grown v v4:=by
  intro b' o' hb';have:=(ad3.1 hb').1;rw[hv4,als aj,alD,if_neg aj];exact hb'
 have hb4:v4.heap[v.heap.size]? =some (.cells #[.string x.nm,.int .u64 x.p,.int .u64 x.q,.int .u64 x.r,.bool x.g] 156 (0,0)):=by
  rw[hv4,alC bz]
 refine aK.ctl (λw=>apQ) ?_;refine aK.ctl (λw=>apR) ?_;refine aK.pure (.chan (some kk)) rfl rfl (base_kind _) (λw=>by simp[go_sem]) (λw=>by simp[go_sem]) ?_;walk_nrm;have l5: ∀ (ρ:ang→aad) (w:aly) (x0 x1 x2 x3 x4:aad),w.heap[v.heap.size]? =some (.cells #[x0,x1,x2,x3,x4] 156 (0,0))→ρ (.tmp 5)= .pointer (some ⟨v.heap.size,0,none⟩)→(execOp ρ mQ[1]).run Tryz.prog w= .ok (.value (.agg #[x0,x1,x2,x3,x4])) w:=by
  intro ρ w x0 x1 x2 x3 x4 h h5;have c0:w.cell? ⟨v.heap.size,0,none⟩=some x0:=by simp[alH,h]
  have c1:w.cell? ⟨v.heap.size,1,none⟩=some x1:=by simp[alH,h]
  have c2:w.cell? ⟨v.heap.size,2,none⟩=some x2:=by simp[alH,h]
  have c3:w.cell? ⟨v.heap.size,3,none⟩=some x3:=by simp[alH,h]
  have c4:w.cell? ⟨v.heap.size,4,none⟩=some x4:=by simp[alH,h]
  simp[go_sem,h5,c0,c1,c2,c3,c4]
 refine aK.ghost (o:=mQ[1]) H rfl rfl (base_kind _) (by simp[qd,anc,bP]) (ρ:=λ| .tmp 5=> .pointer (some ⟨v.heap.size,0,none⟩)|_=>undef)
  (Q:=λu v5=>u=x.val∧v5.heap=v4.heap) ?_ (λT=>⟨_,x.val,ax v4 T,l5 _ _ _ _ _ _ _ hb4 rfl,.inl rfl,rfl,rfl⟩) ?_
 ·intro y hy;simp[anc]at hy;subst hy;exact Sr.mono mP
 rintro f5 u u5 v5 pO hu5 ⟨rfl,RQ⟩;have e5:=dU.lN hu5;subst e5;walk_nrm;exact hs f5 v5 _ _ (Ren.le_trans H4 (Ren.le_trans cC (Ren.le_trans eQ (Ren.le_trans mP pO)))) (λb' o' h=>by rw[RQ];exact hg4 b' o' h)
end
section
variable{F:alB→Bool}{k:Nat→Nat}{Pre:Nat→List aad→Ren→aly→Prop}{Dn:Nat→bF→aoz→List aoz→Prop}{i:Nat}{e s:Nat→Option am2}{c:aoz}{cs:List aoz}
def D_(p:Nat)(v:aad):Prop:=p<1099511627776∧∃x:dU,v=x.val
theorem Qy(H:Held Tryz.prog F){xs:List dU}{s0 s':aad}(hn:xs.length≤1099511627776)(yh: ∀f f' v v',Pre i (xs.map dU.val) f v→f.le f'→Grown v v'→(∃w,Fit Tryz.prog F f' v' w)→Pre i (xs.map dU.val) f' v')
  (hD: ∀T,aK Tryz.prog false F (Dn i) ⟨none,e,s⟩ ((base 152).at ⟨T,[]⟩ [.inRegion fh []]) (c::cs)):
  ∀ (rest:List dU) (j:Nat),xs.drop j=rest→j≤xs.length→∀ (f:Ren) (v:aly) (a1 a2 a3 a4 a5 a9 Bq DZ a12 tY SS SR:aad),Pre i (xs.map dU.val) f v→gN v s0 xs→aA F f s0 s'→
   aK Tryz.prog false F (Sends Tryz.prog F k Pre D_ Dn i (xs.map dU.val) (rest.map dU.val)) ⟨some (f,v),e,s⟩
    ((base 152).at ⟨#[.chan (some (k i)),a1,a2,a3,a4,a5,s',.int .i64 xs.length,.int .i64 j,a9,Bq,DZ,a12,tY,SS,SR],[]⟩ [.code uX,.inLoop uX,.inBlock 0,.code (.region 5 fh false)]) (c::cs):=by
 intro rest
 induction rest with
 |nil=>
  intro j hj hle f v a1 a2 a3 a4 a5 a9 Bq DZ a12 tY SS SR hp hL hr;have:j=xs.length:=by
   have:=List.drop_eq_nil_iff.1 hj;omega
  subst this;refine VD λT hT=> .stop ⟨⟨f,v,rfl,hp⟩,rfl,(base 152).at (Act.put ⟨T,[]⟩ none (.tuple #[])) [.inRegion fh []],c::cs,⟨none,e,s⟩,⟨rfl,λ_ _ h=>h,rfl⟩,hD _,λw _ buf sn q tm hc=>?_⟩;exact Wp (a:=⟨T,[]⟩) hT w hc
 |cons x rest ih=>
  intro j hj hle f v a1 a2 a3 a4 a5 a9 Bq DZ a12 tY SS SR hp hL hr;have hx:xs[j]? =some x:=by
   have:=congrArg (·[0]?) hj;simpa using this
  have hlt:j<xs.length:=(apT.1 hx).1;have hj':xs.drop (j+1)=rest:=by
   rw[←aqs,hj];rfl
  refine Zm H hx hL hr λf' v' p5 p10 adS hg=>qs λ⟨ww,Sq⟩=> .stop ⟨⟨by simp;omega,x,rfl⟩,⟨.tuple #[],λw _=>?_⟩,?_⟩
  ·exact Z6 (a:=⟨#[.chan (some (k i)),a1,a2,a3,a4,p5,s',.int .i64 xs.length,.int .i64 j,.bool true,p10,x.val,.chan (some (k i)),x.val,SS,SR],[]⟩) rfl rfl w
  ·have FH:((base 152).at ⟨#[.chan (some (k i)),a1,a2,a3,a4,p5,s',.int .i64 xs.length,.int .i64 j,.bool true,p10,x.val,.chan (some (k i)),x.val,SS,SR],[]⟩ [.inRegion mQ [2],.inBlock 1,.code (.region 4 FV false),.inLoop uX,.inBlock 0,.code (.region 5 fh false)]).finish undef=
     (base 152).at ⟨#[.chan (some (k i)),a1,a2,a3,a4,p5,s',.int .i64 xs.length,.int .i64 j,.bool true,p10,x.val,.chan (some (k i)),x.val,SS,SR],[]⟩ [.inRegion mQ [],.inBlock 1,.code (.region 4 FV false),.inLoop uX,.inBlock 0,.code (.region 5 fh false)]:=rfl
   rw[FH];refine aK.ctl (λw=>apQ) ?_;refine aK.ctl (λw=>stepG_inBlock) ?_;refine aK.ctl (λw=>apR) ?_;refine aK.pure (.int .i64 ((j+1:Nat):Int)) rfl rfl (base_kind _) (λw=>?_) (λw=>by simp[go_sem]) ?_
   ·simp[go_sem];rw[IntKind.wrap_i64];omega
   walk_nrm;refine aK.pure (.int .i64 ((j+1:Nat):Int)) rfl rfl (base_kind _) (λw=>by simp[go_sem]) (λw=>by simp[go_sem]) ?_;walk_nrm;refine aK.ctl (λw=>apQ) ?_;refine aK.ctl (λw=>stepG_inLoop) ?_;exact ih (j+1) hj' hlt f' v' _ _ _ _ _ _ _ _ _ _ _ _ (yh f f' v v' hp adS hg ⟨ww,Sq.tok _ _ rfl⟩) (hL.grow hg) (hr.mono adS)
theorem Cy(H:Held Tryz.prog F){xs:List dU}{s0 s':aad}(hn:xs.length≤1099511627776)(yh: ∀f f' v v',Pre i (xs.map dU.val) f v→f.le f'→Grown v v'→(∃w,Fit Tryz.prog F f' v' w)→Pre i (xs.map dU.val) f' v')
  (hD: ∀T,aK Tryz.prog false F (Dn i) ⟨none,e,s⟩ ((base 152).at ⟨T,[]⟩ [.inRegion fh []]) (c::cs))
  {f:Ren} {v:aly} (hp:Pre i (xs.map dU.val) f v) (hL:gN v s0 xs) (hr:aA F f s0 s'):
  aK Tryz.prog false F (LY Tryz.prog F k Pre D_ Dn i) ⟨some (f,v),e,s⟩ (ao7 Tryz.prog 152 #[.chan (some (k i)),s'] .normal) (c::cs):=by
 have e1:ao7 Tryz.prog 152 #[.chan (some (k i)),s'] .normal=(base 152).at ⟨#[.chan (some (k i)),s',undef,undef,undef,undef,undef,undef,undef,undef,undef,undef,undef,undef,undef,undef],[]⟩ [.code (((apN 0 ZB false).seq (aqj 0 uX.loop)).seq (apN 5 fh false))]:=by
  unfold ao7;rw[Tryz.func152];rfl
 obtain⟨ad,cp,hs⟩: ∃ad cp,s'= .slice ad xs.length cp:=by
  rcases hL with⟨rfl,ad,cp,rfl⟩|⟨b,o,cp,cc,ee,fr,rfl,_,_⟩
  ·cases hr
   ·exact⟨_,_,rfl⟩
   ·exact⟨_,_,rfl⟩
  ·cases hr;exact⟨_,_,rfl⟩
 rw[e1];refine aK.ctl (λw=>apU) ?_;refine aK.ctl (λw=>apU) ?_;refine aK.ctl (λw=>apR) ?_;refine aK.pure s' rfl rfl (base_kind _) (λw=>by simp[go_sem]) (λw=>by simp[go_sem]) ?_;walk_nrm;refine aK.pure (.int .i64 xs.length) rfl rfl (base_kind _) (λw=>by simp[go_sem,hs]) (λw=>by simp[go_sem,hs]) ?_;walk_nrm;refine aK.pure (.int .i64 (0:Nat)) rfl rfl (base_kind _) (λw=>by simp[go_sem]) (λw=>by simp[go_sem]) ?_;walk_nrm;refine aK.ctl (λw=>apQ) ?_;refine aK.ctl (λw=>aqE) ?_;refine aK.ctl (λw=>stepG_loop) ?_;exact(Qy H hn yh hD xs 0 rfl (Nat.zero_le _) f v _ _ _ _ _ _ _ _ _ _ _ _ hp hL hr).mono λr fr cs h=>⟨_,h⟩
end
end Go.Proofs.YtkdljbnllgpfhaaGreat
namespace Go.Upr
open Go.Conc
def Bz(c:Array aad):Prop:=∀ (i:Nat) (x:aad),c[i]? =some x→(∃s,x= .string s)∨(∃k n,x= .int k n)∨∃b,x= .bool b
theorem Bz.rel{F:alB→Bool}{c:Array aad}(h:Bz c)(f:Ren):RelA F f c c:=by
 unfold RelA;refine cz.lV rfl λi x x' h1 h2=>?_;rw[h1]at h2;cases h2;rcases h i x (by simpa using h1)with⟨s,rfl⟩|⟨k,n,rfl⟩|⟨b,rfl⟩
 ·exact .string s
 ·exact .int k n
 ·exact .bool b
theorem Bz.lN{F:alB→Bool}{f:Ren}{c c':Array aad}(h:Bz c)(hr:RelA F f c c'):c'=c:=by
 apply aqf;intro i;cases hi:c[i]? with
 |none=>exact hr.none i hi
 |some x=>
  obtain⟨x',h1,h2⟩:=hr.get i x hi;rw[h1];rcases h i x hi with⟨s,rfl⟩|⟨k,n,rfl⟩|⟨b,rfl⟩<;>cases h2<;>rfl
def Ren.put(f:Ren)(a b:Nat):Ren:=λx=>if x=a then some b else f x
section
variable{P:alu}{F:alB→Bool}{f g:Ren}{v u w:aly}
theorem Fit.lay(h:Fit P F f v w){b:Nat}{c:Array aad}{e:acs}{fr:Nat×Nat}(hb:w.heap[b]? =some (.cells c e fr))(hc:Bz c)(fD:P.globals.size≤b)(hf: ∀a,f a≠some b)
  {v1:aly} (h1:v1.heap=v.heap.push (.cells c e fr)):f.le (f.put v.heap.size b)∧Fit P F (f.put v.heap.size b) v1 w:=by
 have lt: ∀a x,f a=some x→a<v.heap.size:=λa x hx=>by
  obtain⟨o,_,h2,_⟩:=h.heap a x hx;exact(ad3.1 h2).1
 have hle:f.le (f.put v.heap.size b):=λa x hx=>by
  have:=lt a x hx;show(if a=v.heap.size then _ else _)=_
  rw[if_neg aj];exact hx
 have cases': ∀a x,f.put v.heap.size b a=some x→(a=v.heap.size∧x=b)∨f a=some x:=by
  intro a x hx;by_cases ha:a=v.heap.size
  ·have:f.put v.heap.size b a=some b:=if_pos ha;rw[this]at hx;exact .inl ⟨ha,(alN hx).symm⟩
  ·have:f.put v.heap.size b a=f a:=if_neg ha;rw[this]at hx;exact .inr hx
 refine⟨hle,⟨λa x hx=>?_,⟨h.big.1.same λx hx=>by rw[h1,alD,if_neg (by have:=h.big.1.size;omega)],h.big.2⟩,λa x hx=>?_,λa a' x hx kx=>?_⟩⟩
 ·rcases cases' a x hx with⟨rfl,rfl⟩|hx
  ·exact⟨h.big.1.size,fD⟩
  ·exact h.low a x hx
 ·rcases cases' a x hx with⟨rfl,rfl⟩|hx
  ·exact⟨_,_,by rw[h1];simp,hb,.cells e fr (hc.rel _)⟩
  ·obtain⟨o,o',i1,i2,i3⟩:=h.heap a x hx;have:=lt a x hx;exact⟨o,o',by rw[h1,alD,if_neg aj];exact i1,i2,i3.mono hle⟩
 ·rcases cases' a x hx with⟨rfl,rfl⟩|hx<;>rcases cases' a' _ kx with⟨rfl,h2⟩|kx
  ·rfl
  ·exact absurd kx (hf a')
  ·exact absurd (h2▸hx) (hf a)
  ·exact h.inj a a' x hx kx
theorem UT{e s:Nat→Option am2}{a b:Nat}{c:Array aad}{el:acs}{fr:Nat×Nat}(ha:g a=some b)(hu:u.heap[a]? =some (.cells c el fr))(hc:Bz c){v1:aly}(h1:v1.heap=v.heap.push (.cells c el fr)):
  A8 P F ⟨some (g,u),e,s⟩ f v ⟨some (f.put v.heap.size b,v1),e,s⟩:=by
 have cases': ∀y x,f.put v.heap.size b y=some x→x=b∨f y=some x:=by
  intro y x hx;by_cases hy:y=v.heap.size
  ·have:f.put v.heap.size b y=some b:=if_pos hy;rw[this]at hx;exact .inl (alN hx).symm
  ·have:f.put v.heap.size b y=f y:=if_neg hy;rw[this]at hx;exact .inr hx
 refine⟨λw hw hf hd=>?_,λx hx=>?_,λ_ _ h=>h⟩
 ·have hg:=hw.tok g u rfl;obtain⟨o,o',i1,i2,i3⟩:=hg.heap a b ha;rw[hu]at i1;cases i1;cases i3 with
  |cells _ _ hr=>
   have:=hc.lN hr;subst this;have R1: ∀y,f y≠some b:=λy hy=>hd y b hy (.inl (.inr ⟨g,u,a,rfl,ha⟩));refine⟨λf' v' he=>?_,hw.e,hw.s,λf' v' he y x hx=>?_,hw.alone⟩
   ·simp only[apx,ae]at he;obtain⟨rfl,rfl⟩:=he;exact(hf.lay i2 hc (hg.low a b ha).2 R1 h1).2
   ·simp only[apx,ae]at he;obtain⟨rfl,rfl⟩:=he;rcases cases' y x hx with rfl|hx
    ·exact hw.apart g u rfl a x ha
    ·have:=hd y x hx;refine⟨?_,?_⟩
     ·cases he:e x with
      |none=>exact he
      |some o=>exact absurd (.inl (.inl (by rw[show(⟨some (g,u),e,s⟩:bF).e x=some o from he];simp))) this
     ·cases hs:s x with
      |none=>exact hs
      |some o=>exact absurd (.inr (by rw[show(⟨some (g,u),e,s⟩:bF).s x=some o from hs];simp)) this
 ·rcases hx with hx|⟨f',v',y,he,hy⟩
  ·exact .inl (.inl hx)
  ·simp only[apx,ae]at he;obtain⟨rfl,rfl⟩:=he;rcases cases' y x hy with rfl|hy
   ·exact .inl (.inr ⟨g,u,a,rfl,ha⟩)
   ·exact .inr ⟨y,hy⟩
end
end Go.Upr
namespace Go.Proofs.YtkdljbnllgpfhaaGreat
open Go.Upr Go.Conc
def wH(v:aly)(s:aad)(ys:List dU):Prop:=
 (ys= []∧s= .slice none 0 0)∨∃g cap cur,s= .slice (some ⟨g,0,none⟩) ys.length cap∧v.heap[g]? =some (.cells cur 156 (0,0))∧ys.length≤cap∧cap≤maxLen∧cur.size=cap*5∧cur.toList.take (ys.length*5)=ys.flatMap dU.cells∧Bz cur
theorem xg:Tryz.prog.underlying 93=some (.slice 156):=by kernel_rfl
theorem Gj:(Tryz.prog.info? 156).map (λi=>(i.zero,i.size,i.bytes))=some (some (.agg #[.string ⟨#[]⟩,.int .u64 0,.int .u64 0,.int .u64 0,.bool false]),5,48):=by kernel_rfl
theorem rh(ys:List dU):(ys.flatMap dU.cells).length=ys.length*5:=by
 induction ys with
 |nil=>rfl
 |cons y ys ih=>simp[ih,dU.cells];omega
theorem We{x:dU}{i:Nat}{u:aad}(h:x.cells[i]? =some u):(∃s,u= .string s)∨(∃k n,u= .int k n)∨∃b,u= .bool b:=by
 have:=ann h;simp only[dU.cells,ap9,aqm,or_false]at this;rcases this with rfl|rfl|rfl|rfl|rfl
 ·exact .inl ⟨_,rfl⟩
 ·exact .inr (.inl ⟨_,_,rfl⟩)
 ·exact .inr (.inl ⟨_,_,rfl⟩)
 ·exact .inr (.inl ⟨_,_,rfl⟩)
 ·exact .inr (.inr ⟨_,rfl⟩)
def Oo(u:aad):Prop:=(∃s,u= .string s)∨(∃k n,u= .int k n)∨∃b,u= .bool b
theorem xv{c:Array aad}:Bz c↔∀u∈c.toList,Oo u:=by
 constructor
 ·intro h u hu;obtain⟨i,hi⟩:=aqc.1 hu;exact h i u (by simpa using hi)
 ·intro h i x hx;exact h x (ann (i:=i) (by simpa using hx))
theorem yS(x:dU): ∀u∈x.cells,Oo u:=λu hu=>by
 obtain⟨i,hi⟩:=aqc.1 hu;exact We hi
theorem M8(ys:List dU): ∀u∈ys.flatMap dU.cells,Oo u:=λu hu=>by
 obtain⟨x,_,h⟩:=List.mem_flatMap.1 hu;exact yS x u h
theorem Jy(n:Nat): ∀u∈(anA #[.string ⟨#[]⟩,.int .u64 0,.int .u64 0,.int .u64 0,.bool false] n).toList,Oo u:=by
 intro u hu;simp[anA]at hu;obtain⟨a,_,rfl⟩:=hu;have:a % 5=0∨a % 5=1∨a % 5=2∨a % 5=3∨a % 5=4:=by omega
 rcases this with e|e|e|e|e<;>rw[e]
 ·exact .inl ⟨_,rfl⟩
 ·exact .inr (.inl ⟨_,_,rfl⟩)
 ·exact .inr (.inl ⟨_,_,rfl⟩)
 ·exact .inr (.inl ⟨_,_,rfl⟩)
 ·exact .inr (.inr ⟨_,rfl⟩)
theorem wH.keep{v v1:aly}{s:aad}{ys:List dU}(h:wH v s ys)(hk: ∀ (b:Nat) (o:am2),v.heap[b]? =some o→v1.heap[b]? =some o):wH v1 s ys:=by
 rcases h with h|⟨g,cap,cur,h1,h2,h3⟩
 ·exact .inl h
 ·exact .inr ⟨g,cap,cur,h1,hk _ _ h2,h3⟩
theorem wH.append{w:aly}{s:aad}{ys:List dU}{x:dU}(h:wH w s ys)(hn:ys.length<1099511627776){ad:alA}{c:Nat}(hc: ∀j u,x.cells[j]? =some u→w.cell? (ad.add j)=some u):
  ∃v' w',(Builtin.append_ #[93,93] 93 #[s,.slice (some ad) 1 c]).run Tryz.prog w= .ok v' w'∧wH w' v' (ys++ [x]):=by
 obtain⟨i,hi,hz0,hz1,hz2⟩:=info_parts Gj;have hl:x.cells.length=1*i.size:=by rw[hz1];rfl
 have one: ∀u∈x.cells,u.oneCell'=true:=by
  intro u hu;simp only[dU.cells,ap9,aqm,or_false]at hu;rcases hu with rfl|rfl|rfl|rfl|rfl<;>rfl
 have efl:(ys++ [x]).flatMap dU.cells=ys.flatMap dU.cells++x.cells:=by simp
 have hlen:((ys++ [x]).flatMap dU.cells).length=(ys.length+1)*5:=by rw[rh];simp
 have grown: ∀ (old:Nat),old<ys.length+1→wH (w.drew.alloc (.cells ((ys.flatMap dU.cells).toArray++x.cells.toArray++anA (Value.agg #[.string ⟨#[]⟩,.int .u64 0,.int .u64 0,.int .u64 0,.bool false]).cells (grownCap w (ys.length+1) old 156-(ys.length+1))) 156))
   (.slice (some ⟨w.heap.size,0,none⟩) (ys.length+1) (grownCap w (ys.length+1) old 156)) (ys++ [x]):=by
  intro old ho;have hge:=grownCap_ge w (ys.length+1) old 156;have hcm:grownCap w (ys.length+1) old 156≤maxLen:=grownCap_le_maxLen w (ys.length+1) old 156 (by simp only[maxLen];omega);refine .inr ⟨w.heap.size,_,_,by simp,heap_alloc_new w.drew _,by simpa using hge,hcm,?_,?_,?_⟩
  ·simp only[Array.size_append,aqk,size_zeroCells,rh,dU.cells,Value.cells,List.length_cons,List.length_nil];show ys.length*5+5+(grownCap w (ys.length+1) old 156-(ys.length+1))*5=_;omega
  ·rw[efl,ap0,ap0,ap2,aqd,←hlen,efl];exact aqr
  ·rw[xv];intro u hu;simp only[ap0,aqo]at hu;rcases hu with(hu|hu)|hu
   ·exact M8 ys u hu
   ·exact yS x u hu
   ·exact Jy _ u hu
 rcases h with⟨rfl,rfl⟩|⟨g,cap,cur,rfl,hg,uN,hcm,hcs,nD,IA⟩
 ·have hr:=run_append_nil (P:=Tryz.prog) w 93 93 156 i _ xg hi hz0 ad 1 c x.cells hl hc aj aj (by rw[hz2];omega);exact⟨_,_,hr,by simpa using grown 0 bz⟩
 ·by_cases hroom:ys.length+1≤cap
  ·have pg:ys.length*i.size+x.cells.length≤cur.size:=by rw[hl,hcs,hz1,←Nat.add_mul];exact Nat.mul_le_mul_right _ hroom
   have hr:=run_append_room (P:=Tryz.prog) w 93 93 156 i xg hi g ys.length cap cur hg ad 1 c x.cells hl hc one hroom pg;refine⟨_,_,hr,.inr ⟨g,cap,_,by simp,setRow_heap w g cur _ 156 _ hg,by simpa using hroom,hcm,?_,?_,?_⟩⟩
   ·simp only[aqk,ap2,List.length_take,List.length_drop,Array.length_toList];omega
   ·rw[hz1,nD,ap2,aqd,←hlen,efl];exact aqr
   ·rw[xv];intro u hu;simp only[aqo]at hu;rcases hu with(hu|hu)|hu
    ·exact xv.1 IA u (List.mem_of_mem_take hu)
    ·exact yS x u hu
    ·exact xv.1 IA u (List.mem_of_mem_drop hu)
  ·have holds: ∀j u,(ys.flatMap dU.cells)[j]? =some u→w.cell? ((⟨g,0,none⟩:alA).add j)=some u:=by
    intro j u hu;have Lc:(⟨g,0,none⟩:alA).add j=⟨g,j,none⟩:=by unfold aqt;split<;>simp_all
    rw[Lc,aqF w g j cur 156 (0,0) hg];rw[←nD,List.getElem?_take]at hu;split at hu
    ·simpa using hu
    ·cases hu
   have hr:=run_append_grow (P:=Tryz.prog) w 93 93 156 i _ xg hi hz0 ⟨g,0,none⟩ ys.length cap (ys.flatMap dU.cells) (by rw[rh,hz1]) holds ad 1 c x.cells hl hc aj aj (growslice_fits aj (by rw[hz2];omega));exact⟨_,_,hr,grown cap aj⟩
abbrev lZ:Array Oper:= #[{dst:=some 6,op:=Op.recv 354 (apH 5) true,type:=0,pos:= "pipe.go:74",after:= #[],guard:=none},
 {dst:=some 7,op:=aqC (apH 6) 1,type:=4,pos:= "pipe.go:74",after:= #[{on:=0,ground:=apI}],guard:=none}]
abbrev t_:Array Oper:= #[{dst:=some 8,op:=aqC (apH 6) 0,type:=156,pos:= "pipe.go:74",after:= #[],guard:=none},
 {dst:=some 4,op:=aqK 156,type:=0,pos:= "pipe.go:74",after:= #[],guard:=none},
 {dst:=none,op:=aqI 156 (apH 4) (apH 8),type:=0,pos:= "pipe.go:74",after:= #[{on:=1,ground:=apI},{on:=0,ground:=apI},{on:=0,ground:=apK},{on:=1,ground:=apK}],guard:=none}]
abbrev qU:Array Oper:= #[{dst:=some 9,op:=ap1 (apH 3),type:=93,pos:= "pipe.go:75",after:= #[],guard:=none},
 {dst:=some 10,op:=aqv 156 (apH 4),type:=156,pos:= "pipe.go:75",after:= #[],guard:=none},
 {dst:=some 11,op:=Op.buildSlice 93 1 #[(0,apH 10)],type:=93,pos:= "pipe.go:75",after:= #[{on:=1,ground:=apI}],guard:=none},
 {dst:=some 12,op:=aqw {callee:=apW Builtin.append,args:= #[apH 9,apH 11],argTypes:= #[93,93]},type:=93,pos:= "pipe.go:75",after:= #[{on:=0,ground:=apI},{on:=2,ground:=apI}],guard:=none},
 {dst:=some 3,op:=aqb (apH 12),type:=93,pos:= "pipe.go:75",after:= #[{on:=3,ground:=apI},{on:=3,ground:=Ground.chain},{on:=0,ground:=apK},{on:=1,ground:=apK},{on:=2,ground:=apK},{on:=3,ground:=apK}],guard:=none}]
abbrev acL:Array Oper:= #[{dst:=some 13,op:=ap1 (apH 3),type:=93,pos:= "pipe.go:77",after:= #[],guard:=none},
 {dst:=some 2,op:=aqb (apH 13),type:=93,pos:= "pipe.go:77",after:= #[{on:=0,ground:=apI},{on:=0,ground:=apK}],guard:=none}]
abbrev afU:Array Oper:= #[{dst:=some 2,op:=aqb (apX (am0 none 0 0)),type:=93,pos:= "pipe.go:72",after:= #[],guard:=none}]
abbrev afC:Array Oper:= #[{dst:=some 3,op:=aqb (apX (am0 none 0 0)),type:=93,pos:= "pipe.go:73",after:= #[],guard:=none}]
abbrev afB:Array Oper:= #[{dst:=some 5,op:=ap1 (apH 0),type:=354,pos:= "pipe.go:74",after:= #[],guard:=none}]
abbrev O0:Code:=(aqA (apH 7) aqy (aqz 0)).seq (aqj 1 ((apN 4 t_ false).seq (apN 5 qU false)))
abbrev aaw:Code:=(apN 3 lZ false).seq O0
abbrev aa8:Code:=(apN 6 acL false).seq Code.ret
abbrev FJ:Value:= .agg #[.string ⟨#[]⟩,.int .u64 0,.int .u64 0,.int .u64 0,.bool false]
theorem Z7{mb:Bool}{a:Act}{kk:Nat}{k:List api}{cs:List aoz}(h5:a.tmps[5]?.getD undef= .chan (some kk))(w:aly):
  stepG Tryz.prog mb (G ((base 155).at a (.inRegion lZ [0,1]::k)) cs) w= .comm (G ((base 155).at a (.inRegion lZ [0,1]::k)) cs) #[rcase kk FJ] true (.recv true) w #[]:=by
 rw[stepG_comm (w':=w) (cases:= #[rcase kk FJ]) (blocking:=true) (shape:= .recv true) (ops:=lZ) (i:=0) rfl rfl (base_kind _)]
 ·rw[listed_nil];simp[go_sem]
 ·simp[go_sem,h5,rcase]
theorem MO(ρ:ang→aad)(w:aly)(b:Nat)(nm:ByteArray)(p q r:Int)(g:Bool)(y0 y1 y2 y3 y4:aad)(hb:w.heap[b]? =some (.cells #[y0,y1,y2,y3,y4] 156 (0,0)))
  (h4:ρ (.tmp 4)= .pointer (some ⟨b,0,none⟩)) (h8:ρ (.tmp 8)= .agg #[.string nm,.int .u64 p,.int .u64 q,.int .u64 r,.bool g]):
  ∃w1,(execOp ρ t_[2]).run Tryz.prog w= .ok .skip w1∧w1.heap=w.heap.setIfInBounds b (.cells #[.string nm,.int .u64 p,.int .u64 q,.int .u64 r,.bool g] 156 (0,0)):=by
 have c0:w.cell? ⟨b,0,none⟩=some y0:=by simp[alH,hb]
 have c1:w.cell? ⟨b,1,none⟩=some y1:=by simp[alH,hb]
 have c2:w.cell? ⟨b,2,none⟩=some y2:=by simp[alH,hb]
 have c3:w.cell? ⟨b,3,none⟩=some y3:=by simp[alH,hb]
 have c4:w.cell? ⟨b,4,none⟩=some y4:=by simp[alH,hb]
 have f0: ∀i,w.frozen? ⟨b,i,none⟩=false:=λi=>by simp[amK,hb]
 have hrun:(execOp ρ t_[2]).run Tryz.prog w= .ok .skip (((((w.setCell ⟨b,0,none⟩ (.string nm)).setCell ⟨b,1,none⟩ (.int .u64 p)).setCell ⟨b,2,none⟩ (.int .u64 q)).setCell ⟨b,3,none⟩ (.int .u64 r)).setCell ⟨b,4,none⟩ (.bool g)):=by
  simp[go_sem,h4,h8,c0,c1,c2,c3,c4,f0]
 refine⟨((((w.setCell ⟨b,0,none⟩ (.string nm)).setCell ⟨b,1,none⟩ (.int .u64 p)).setCell ⟨b,2,none⟩ (.int .u64 q)).setCell ⟨b,3,none⟩ (.int .u64 r)).setCell ⟨b,4,none⟩ (.bool g),hrun,?_⟩;obtain⟨a1,b1⟩:=eh (o:=0) (.string nm) hb;obtain⟨a2,b2⟩:=eh (o:=1) (.int .u64 p) b1;obtain⟨a3,b3⟩:=eh (o:=2) (.int .u64 q) b2;obtain⟨a4,b4⟩:=eh (o:=3) (.int .u64 r) b3;obtain⟨a5,_⟩:=eh (o:=4) (.bool g) b4;rw[a5,a4,a3,a2,a1];simp only[Ei];simp
theorem MR(ρ:ang→aad)(w:aly):(execOp ρ t_[1]).run Tryz.prog w= .ok (.value (.pointer (some ⟨w.heap.size,0,none⟩))) {w with heap:=w.heap.push (.cells #[.string ⟨#[]⟩,.int .u64 0,.int .u64 0,.int .u64 0,.bool false] 156)}:=by
 simp[go_sem]
theorem Q4(ρ:ang→aad)(w:aly)(b:Nat)(x0 x1 x2 x3 x4:aad)(hb:w.heap[b]? =some (.cells #[x0,x1,x2,x3,x4] 156 (0,0)))
  (h4:ρ (.tmp 4)= .pointer (some ⟨b,0,none⟩)):(execOp ρ qU[1]).run Tryz.prog w= .ok (.value (.agg #[x0,x1,x2,x3,x4])) w:=by
 have c0:w.cell? ⟨b,0,none⟩=some x0:=by simp[alH,hb]
 have c1:w.cell? ⟨b,1,none⟩=some x1:=by simp[alH,hb]
 have c2:w.cell? ⟨b,2,none⟩=some x2:=by simp[alH,hb]
 have c3:w.cell? ⟨b,3,none⟩=some x3:=by simp[alH,hb]
 have c4:w.cell? ⟨b,4,none⟩=some x4:=by simp[alH,hb]
 simp[go_sem,h4,c0,c1,c2,c3,c4]
theorem Q5(ρ:ang→aad)(w:aly)(x:dU)(h:ρ (.tmp 10)=x.val):(execOp ρ qU[2]).run Tryz.prog w= .ok (.value (.slice (some ⟨w.heap.size,0,none⟩) 1 1)) {w with heap:=w.heap.push (.cells x.cells.toArray 156)}:=by
 simp[go_sem,h,dU.val,dU.cells]
theorem MQ(ρ:ang→aad)(w:aly)(s:aad)(ys:List dU)(x:dU)(b:Nat)(hG:wH w s ys)(hn:ys.length<1099511627776)(hb:w.heap[b]? =some (.cells x.cells.toArray 156 (0,0)))
  (h9:ρ (.tmp 9)=s) (h11:ρ (.tmp 11)= .slice (some ⟨b,0,none⟩) 1 1): ∃v' w',(execOp ρ qU[3]).run Tryz.prog w= .ok (.value v') w'∧wH w' v' (ys++ [x]):=by
 obtain⟨v',w',h1,h2⟩:=hG.append (x:=x) (ad:=⟨b,0,none⟩) (c:=1) hn (λj u hu=>by
  have Lc:(⟨b,0,none⟩:alA).add j=⟨b,j,none⟩:=by unfold aqt;split<;>simp_all
  rw[Lc,aqF w b j _ 156 (0,0) hb]
  simpa using hu)
 exact⟨v',w',by simp[execOp,resolve,invoke,builtin,h9,h11,h1],h2⟩
end Go.Proofs.YtkdljbnllgpfhaaGreat
