import Derived.Test.YtkdljbnllgpfhaaGreatA0
import Derived.Conc.CompanyWords
import Derived.Conc.WgGenN3
import Derived.Test.YtkdljbnllgpfhaaGreatChecked
import Derived.WalkKit
set_option maxRecDepth 100000
set_option maxHeartbeats 8000000
open Go renaming World->ag,FuncId->bw,Value->aq,Addr->bC,TypeId->bB,Program->bj,Obj->bI,Event->gY,Operand->cL,Oper->bG,Item->fJ,Frame->az,undef->aj,Goroutine->cf,CommShape->Q4,Trace->ez,Race->zy,MemOp->tJ,CommCase->Q5,Act->bK,HappensBefore->Rf
open Go.Addr renaming add->tF
open Go.World renaming cell?->gK,frozen?->zO,setChan->DD,setCell->Dl
open Go.Value renaming slice->oD,int->rI
open Go.Builtin renaming zeroCells->qd,append_->rZ,close->Q6,close_->Q7,len->JM,append->Rc
open Go.IntKind renaming i64->tA,i32->Re,u64->se
open Go.Extern renaming findNext->tB,find->tC
open Go.Op renaming operands->c0,move->iI,load->qm,call->nE,indexAddr->Q8,alloc->zD,store->Ao,binOp->DJ,extract->Rb,assign->pB,defer->Ri,nilCheck->Rm,fieldAddr->Rn,makeChan->Ro,makeFunc->Rp
open Go.GStep renaming after->tS
open Go.Frame renaming enter->ej
open Go.Region renaming wanted->cV
open Go.MemOp renaming ofEvents->eH
open Go.Conc renaming Knows->zx,Deaf->jN,G->HY,served->JK,QuitsD->H6,Aside->Ar
open Go.MemAct renaming ofEvent->pz,touch?->r_
open Go.Loc renaming isMemory->JJ
open Go.Trace renaming g?->rB
open Go.Extern.MathBitsCarry renaming three->HZ,pair->JL,m64->H_
open Go.Operand renaming tmp->bz,const->qA,func->oG
open Go.Ground renaming data->cY,phase->gQ,chain->vd
open Go.Callee renaming builtin->zC,value->nD
open Go.Act renaming eval->lH
open Go.BinOp renaming lss->Q9,add->JN
open Go.Code renaming block->rJ,region->bH,cond->mX,skip->mY,exit->u_,ret->kL
open Go.Conc.Lib renaming WgLink->aeB,WgLib->aeC
open Go.Extern.Race renaming none_->aeD
open Go.ConcN renaming Vc->pJ,Mode->oF
open Go.Goroutine renaming again->JS
open Go.ConcR renaming Payload->Rg,mk->aeF,DC0->Rl
open Go.ConcN.Mode renaming opn->Rh,last->JU,reg->aeE
open Go.Departure renaming lateStoresUnsure->aeG
namespace Go.Proofs
open Tryz
open Go.RowKit
abbrev DF:=@Go.Conc.getElem?_append_cases
abbrev HX:=@Go.Conc.ofEvents_eq
abbrev Am:=@Go.Conc.noRace_append
abbrev vz:=@Go.Conc.hb_app
abbrev zA:=@Go.Conc.lt_size_of_getElem?
abbrev DG:=@Go.Conc.heard_old
abbrev DI:=@Go.Conc.stepG_value
abbrev uR:=@Go.Conc.mem_listed
abbrev zB:=@List.all_eq_true
abbrev H':=@Go.Conc.listed_nil
abbrev cM:=@Go.Conc.stepG_seq
abbrev fK:=@Go.Conc.stepG_region
abbrev cE:=@Go.Conc.stepG_region_end
abbrev zE:=@Go.Conc.stepG_cond
abbrev H0:=@Go.Conc.stepG_exit
abbrev iw:=@List.getElem?_eq_some_iff
abbrev qo:=@Go.Conc.stepG_skip
abbrev vA:=@Go.Conc.stepG_block
abbrev H2:=@Array.getElem?_push
abbrev JO:=@List.drop_drop
abbrev DK:=@Go.Conc.stepG_inBlock
abbrev H3:=@Go.IntKind.wrap_i64
abbrev Ap:=@Go.Conc.stepG_inLoop
abbrev DL:=@Go.Conc.stepG_loop
abbrev H4:=@List.mem_iff_getElem?
abbrev JP:=@List.mem_flatMap
abbrev H5:=@Go.info_parts
abbrev cz:=@Go.heap_alloc_new
abbrev qp:=@List.size_toArray
abbrev uS:=@List.length_cons
abbrev DM:=@Array.toList_append
abbrev DN:=@List.length_singleton
abbrev gX:=@List.mem_append
abbrev qq:=@List.mem_of_mem_take
abbrev tK:=@List.mem_of_mem_drop
abbrev cI:=@Go.cell_of_row
abbrev Aq:=@List.getElem?_take
abbrev pI:=@Go.Conc.stepG_ret'
abbrev DO:=@Go.Conc.stepG_leave
abbrev vB:=@Option.some.injEq
abbrev mS:=@Go.Conc.Goes.stop
abbrev rC:=@Nat.eq_zero_or_pos
abbrev JR:=@Go.Conc.stepG_load_atomic
abbrev DR:=@Go.Conc.stepG_mark0
abbrev DT:=@Go.Conc.stepG_markAt
abbrev kS:=@Go.Conc.Goes.rely
abbrev rD:=@Go.Conc.Goes.running
abbrev DU:=@Go.Conc.again_running
abbrev qs:=@Go.Conc.mem_ofEvents
abbrev H7:=@Go.ConcR.loc_of_ofEvent
abbrev zF:=@Go.Conc.runT_crowd_go
abbrev vC:=@Go.Conc.Deaf_other
abbrev DV:=@Go.Conc.Deaf_own
abbrev mm:=@Go.Conc.Goes.cases
abbrev Au:=@Array.mem_of_getElem?
abbrev xf:=@Go.Conc.aside_setCell
abbrev JV:=@Go.ConcN.Mode.retag
abbrev H8:=@Go.Conc.touch_mute
abbrev JW:=@Go.Conc.offersAt_parked_recv
abbrev H9:=@Go.Conc.getElem?_stand
abbrev DW:=@Go.results_none
abbrev JX:=@Go.Conc.run_call_body
abbrev JY:=@Go.Conc.events_call_body
abbrev Ia:=@List.eq_nil_of_length_eq_zero
abbrev nJ:=@Nat.zero_add
abbrev nK:=@Nat.zero_le
abbrev JZ:=@List.flatMap_append
abbrev vD:=@List.append_nil
abbrev Ib:=@Go.Conc.finishComm_recv
abbrev J_:=@Go.Conc.finishComm_send
abbrev Av:=@List.append_assoc
abbrev vE:=@Array.getElem?_setIfInBounds_self_of_lt
abbrev Rj:=@List.take_append_of_le_length
abbrev kg:=@Ne.symm
abbrev DX:=@List.mem_toArray
abbrev DY:=@List.not_mem_nil
abbrev Aw:=@Array.empty_append
abbrev zG:=@List.take_length
abbrev Rk:=@Array.getElem?_append_right
abbrev rE:=@Array.getElem?_eq_getElem
abbrev J0:=@Nat.lt_of_le_of_lt
abbrev J1:=@Go.Conc.handedOver_app
abbrev DZ:=@Go.runNT_add
abbrev Ax:=@List.getElem?_drop
abbrev zH:=@Nat.not_lt_zero
abbrev Ic:=@Array.getElem?_modify
abbrev zI:=@Prod.mk.injEq
variable{f3 t:Array aq}{l:Array gY}{f5:Array cL}{a6:Array bG}{o:Bool}{d1:dx}{b7 y:cx}{M S:Int}{N f6:List Nat}{D:List aq}{P:List fJ}{h:List az}{L a e n:Nat}{x:Nat×Nat}{W:Nat->Nat}{b6:Nat->aU}{e5 f0:Option bI}{d d4:ag}{b3:ag->cZ}{d6:bw}{A:bw->Bool}{c s:aq}{f9:aq->ag->Prop}{e6:bC}{C:bB}{q:bj}{d2:bI}{a8:gY}{a9:bG}{f:az}{b g0 v:cf}{R:cf->ag->Prop}{f1:Q4}{b4 g1 g2:ez}{e7 f4:tJ}{e3:Q5}{F:bK}{g3 j:Ren}{d3 g:aG}{K f2:aG->az->List az->Prop}{b9 e1:cZ}{J k:aU}
section
open Go.Conc
open Go.ConcN (upd upd_same upd_ne)
def gP(b:Nat):Loc->Prop
 | .cell a=>a.1=b
 | .obj o=>o=b
 |_=>False
def lF(t:ez)(g b:Nat):Prop:=∀i x,touchAt t i=some x->gP b x.1->zx t g i
def mi(t:ez)(g b:Nat):Prop:=∀i x,touchAt t i=some x->gP b x.1->x.2=true->zx t g i
def pE(t:ez)(B:Nat):Prop:=∀i x,touchAt t i=some x->∀b,gP b x.1->b<B
theorem lF.I(h:lF b4 a e):mi b4 a e:=λi x b c _=>h i x b c
theorem pE.B{B a:Nat}(h:pE b4 B)(d:B<=a):pE b4 a:=λi x a b c=>kJ (h i x a b c) d
section
variable{t u:ez}{g b:Nat}
variable{a0:Touch}
theorem p5(h:touchAt (t++u) a=some a0):touchAt t a=some a0∨∃op∈u,(t++u)[a]?=some op∧op.4.touch?=some a0:=by
 obtain⟨op,b,c⟩:=touch_of h;rcases DF b with⟨_,b⟩|⟨_,b⟩;exact .inl (aw (touchAt_of b) c);grind
theorem lF.B(h:lF t g b)(f:∀op∈u,∀x,op.4.touch?=some x->gP b x.1->op.g=g):lF (t++u) g b:=by
 intro i x a c;rcases p5 a with a|⟨op,a,d,e⟩;exact(h i x a c).app u;have:=knows_own d;rwa [f _ a x e c]at this
theorem mi.B(h:mi t g b)(i:∀op∈u,∀x,op.4.touch?=some x->gP b x.1->x.2=true->op.g=g):mi (t++u) g b:=by
 intro j x a c d;rcases p5 a with a|⟨op,a,e,f⟩;exact(h j x a c d).app u;have:=knows_own e;rwa [i _ a x f c d]at this
theorem pE.I(h:pE t a)(c:∀op∈u,∀x,op.4.touch?=some x->∀b,gP b x.1->b<a):pE (t++u) a:=by
 intro i x c b d;rcases p5 c with c|⟨op,c,_,e⟩;exact h i x c b d;grind
theorem C3{r:aG}(h:lB r a8)(a:(pz a8).touch?=some a0):a0.3=.plain∧∀b,gP b a0.1->r.B b∨(a0.2=false∧r.s b≠none):=by
 unfold lB at h;split at h;rename_i d wr s;obtain⟨rfl,h⟩:=h;have:a0=⟨.cell d,wr,.plain⟩:=by
  cases wr<;>simpa[pz,r_,eq_comm]using a
 subst this;exact⟨rfl,λb c=>by cases c;omega⟩;rename_i o wr s;obtain⟨rfl,h⟩:=h;have:a0=⟨.obj o,wr,.plain⟩:=by
  cases wr<;>simpa[pz,r_,eq_comm]using a
 subst this;exact⟨rfl,λb c=>by cases c;omega⟩;simp[pz,r_]at a;simp[pz,r_]at a;grind
theorem wB{r:aG}(h:lB r a8):a8.1≠ .mark .disable∧a8.1≠ .mark .enable∧∀a,a8.1≠ .mark (.release a):=by
 unfold lB at h;grind
end
structure Told(gi:Nat->Nat)(c:dx)(w:ag)(t:ez):Prop where
 clean:∀said,¬zy said t
 own:∀i b,(c.r i).B b->lF t (gi i) b
 read:∀i b,(c.r i).s b≠none->mi t (gi i) b
 low:pE t w.1.size
section
variable{P:bj}{F:bw->Bool}{k:Nat->Nat}{wg:Nat}{gi:Nat->Nat}{c:dx}{w w1:ag}{t:ez}{i:Nat}{r1:aG}
theorem Told.O(h:Told gi c w t)(s:fX P F k wg c w)(p:Only (c.r i) r1 w w1)(v:r1.Fits P F w1){pos:String}(a:∀o∈l,lB r1 o):
  Told gi {c with r:=upd c.r i r1} w1 (t++eH (gi i) d6 pos l):=by
 have n:∀op∈eH (gi i) d6 pos l,op.g=gi i∧∀x,op.4.touch?=some x->x.3=.plain∧∀b,gP b x.1->r1.B b∨(x.2=false∧r1.s b≠none):=by
  intro op d;rw[HX]at d;obtain⟨o,m,rfl⟩:=Array.mem_map.1 d;exact⟨rfl,λx e=>C3 (a o m) e⟩
 have kx:∀b,r1.B b->lF t (gi i) b:=by
  intro b a;rcases p.6 b a with m|m;exact h.2 i b m;exact λj x e g=>absurd (h.4 j x e b g) aa
 have y:∀b,r1.s b≠none->mi t (gi i) b:=by
  intro b a;obtain⟨q,u⟩:=pH.1 a;exact h.3 i b (cw (p.7 b q u))
 have apart:∀j b,j≠i->(c.r j).O b->¬r1.B b:=by
  intro j b f a z;rcases p.6 b z with m|m;exact s.2 i j b (λo=>f o.symm) m a;have:=(s.1 j).B a;omega
 have m:∀j b,j≠i->(c.r j).B b->r1.s b=none:=by
  intro j b f a;cases u:r1.s b with
  |none=>rfl
  |some q=>exact absurd (.inr (cw (p.7 b q u))) (s.2 j i b f a)
 refine⟨λsaid=>Am (h.1 _) (λop d=>(n _ d).1) λj o s op d x e u=>?_,λj b a=>?_,λj b a=>?_,(h.4.B p.4).I λop d x e b g=>?_⟩;obtain⟨z,m,A,_⟩:=u;obtain⟨_,p⟩:=(n op d).2 x e;have:∃b,gP b o.1:=by
  cases g:o.1 with
  |cell u=>exact⟨_,rfl⟩
  |obj q=>exact⟨_,rfl⟩
  |_=>rw[g]at m;simp[JJ]at m
 obtain⟨b,a⟩:=this;rcases p b (z▸a)with m|⟨m,p⟩;exact kx b m j o s a;exact y b p j o s a (A.resolve_right (cw m));by_cases f:j=i;subst f;simp[upd_same]at a;exact(kx b a).B λop d x e g=>(n _ d).1;simp[upd_ne _ _ f]at a;refine(h.2 j b a).B λop d x e g=>?_;rcases((n op d).2 x e).2 b g with m|⟨_,p⟩
 exact absurd m (apart j b f (.inl a));grind;by_cases f:j=i;subst f;simp[upd_same]at a;exact(y b a).B λop d x e g _=>(n _ d).1;simp[upd_ne _ _ f]at a;refine(h.3 j b a).B λop d x e g o=>?_;rcases((n op d).2 x e).2 b g with m|⟨m,_⟩
 exact absurd m (apart j b f (.inr a));grind;rcases((n op d).2 x e).2 b g with m|⟨_,p⟩
 exact v.B (.inl m);exact v.B (.inr p)
end
section
variable{h:cx}{v:aq}
theorem cx.V(a:h.2<=h.1):({h with mD:=h.1++ [v]}:cx).B=.chan room ((h.1.drop h.2).toArray.push v) h.3 (h.1+1) h.2 h.4:=by
 unfold cx.B;grind
theorem cx.O:({h with rc:=h.2+1}:cx).B=.chan room ((h.1.drop h.2).toArray.extract 1 (h.1.drop h.2).toArray) h.3 h.1 (h.2+1) h.4:=by
 unfold cx.B
 congr 1
 grind
theorem cx.Y(a:h.2=h.1):({h with mD:=h.1++ [v],rc:=h.2+1}:cx).B=.chan room #[] h.3 (h.1+1) (h.2+1) h.4:=by
 unfold cx.B;grind
theorem cx.U(a:h.2<h.1):({h with mD:=h.1++ [v],rc:=h.2+1}:cx).B=.chan room (((h.1.drop h.2).toArray.extract 1 (h.1.drop h.2).toArray).push v) h.3 (h.1+1) (h.2+1) h.4:=by
 have:=cx.O (h:=h);unfold cx.B at this⊢;grind
theorem cx.I:(h.1.drop h.2).toArray.size=h.1- h.2:=af
theorem cx.T:(h.1.drop h.2).toArray.getD 0 aj=h.1.getD h.2 undef:=by
 simp_all
end
section
variable{gi:Nat->Nat}{c:dx}{w w1:ag}{t u:ez}
theorem Told.I(h:Told gi c w t)(n:∀op∈u,op.4.touch?=none)(f:w<=w1.1.size):Told gi c w1 (t++u):=by
 refine⟨λsaid=>?_,λi b a=>(h.2 i b a).B λop e x d _=>?_,λi b a=>(h.3 i b a).B λop e x d _ _=>?_,(h.4.B f).I λop e x d b _=>?_⟩;rintro⟨i,j,m,⟨e,b,g,a,k⟩,o,p⟩;have key:∀l x,touchAt (t++u) l=some x->touchAt t l=some x:=by
  intro l x d;rcases p5 d with d|⟨op,d,_,f⟩;exact d;rw[n op d]at f;cases f
 exact h.1 _ ⟨i,j,m,⟨e,b,key i e g,key j b a,k⟩,λe=>o (vz u e),λe=>p (vz u e)⟩;grind;grind;grind
def Handed(k:Nat->Nat)(c:dx)(t:ez):Prop:=∀i h f v,c.2 i=some h->h.5=some (f,v)->
 ∃p op,t[p]?=some op∧op.4=.close (k i)∧t.heard p∧∀a b,f a=some b->∀j x,touchAt t j=some x->gP b x.1->Before t j p
theorem Handed.B{k:Nat->Nat}(h:Handed k c t)(o:∀i x f v a b,c.2 i=some x->x.5=some (f,v)->f a=some b->∀op∈u,∀y,op.4.touch?=some y->¬gP b y.1):Handed k c (t++u):=by
 intro i x f v l j;obtain⟨p,op,d,e,g,m⟩:=h i x f v l j;have n:=zA d;refine⟨p,op,by grind,e,(DG n).2 g,λa b e p y d g=>?_⟩;rcases p5 d with d|⟨n,d,_,n⟩;exact(m a b e p y d g).app u;exact absurd g (o i x f v a b l j e _ d y n)
theorem WC{k g p:Nat}{op y:tJ}(a:t[p]?=some op)(e:op.4=.close k)(f:t.heard p)(j:y.4=.recvClosed k)(b:y.g=g)(h:jN t g=0):zx (t++ #[y]) g p:=by
 have d:=zA a;have i:(t++ #[y])[t.size]?=some y:=af;have i:(t++ #[y]).heard t.size:=⟨g,by simp[rB,b],by rw[deaf_old aa];exact h⟩;refine⟨_,y,aa,b,.inr (.single (.inr ⟨.closed (c:=k) ?_ ?_,(DG d).2 f,i⟩))⟩;rw[act?_old d,act?_of a,e];rw[act?_of aa,j]
end
def jT(g:cf)(fr:az)(cs:List az):Prop:=g.1=fr∧g.2=cs∧g.3=.running∧g.4=none
theorem jT.B{fr:az}{cs:List az}(h:jT b fr cs)(w:ag):stepG q o b w=stepG q o (G fr cs) w:=by
 obtain⟨a,c,_,d⟩:=h;exact stepG_same (h:=G _ _) a c d w
theorem kD(fr:az)(cs:List az):jT (G fr cs) fr cs:=⟨rfl,rfl,rfl,rfl⟩
theorem yX(fr:az)(cs:List az)(v):jT (Conc.served (G fr cs) v) (fr.finish v) cs:=⟨rfl,rfl,rfl,rfl⟩
theorem O2(fr:az)(cs:List az)(cases:Array Q5)(a:Q4):jT {parked (G fr cs) cases a with status:=.running} fr cs:=⟨rfl,rfl,rfl,rfl⟩
structure aG.Sub(r1 r:aG):Prop where
 tok:r1.1=none
 e:∀b o,r1.e b=some o->r.e b=some o
 s:r1.s=r.s
theorem FT{I:Nat->aq->Prop}(h:∀p x,D[p]?=some x->I p x)(a:I D c):∀p x,(D++ [c])[p]?=some x->I p x:=by
 grind
section
variable(P:bj)(F:bw->Bool)(k:Nat->Nat)(Pre:Nat->List aq->Ren->ag->Prop)(fJ:Nat->aq->Prop)(Dn:Nat->aG->az->List az->Prop)
def Sb(i:Nat)(r:aG)(fr:az)(cs:List az):Prop:=
 mayWake P (G fr cs)=true∧∃b cs1 a,aG.Sub a r∧ar P false F (Dn i) a b cs1∧
  ∀w,r.Fits P F w->∀a s q tm,w.1[k i]?=some (.chan room a false s q tm)->
   stepG P false (G fr cs) w=.go (G b cs1) (w.setChan (k i) room a true s q tm) #[⟨.obj (k i),false,true⟩,⟨.obj (k i),true,true⟩]
def Sends(i:Nat)(a:List aq):List aq->aG->az->List az->Prop
 | [],r,fr,cs=>(∃f v,r.1=some (f,v)∧Pre i a f v)∧Sb P F k Dn i r fr cs
 |x::b,r,fr,cs=>fJ (a.length-(b.length+1)) x∧(∃z,∀w,r.Fits P F w->stepG P false (G fr cs) w=.comm (G fr cs) #[scase (k i) x z] true .send w #[])∧
   ar P false F (Sends i a b) r (fr.finish aj) cs
def EA(i:Nat)(r:aG)(fr:az)(cs:List az):Prop:=∃a,Sends P F k Pre fJ Dn i a a r fr cs
structure AV(r:aG)(f:Ren)(v:ag)(r':aG):Prop where
 fits:∀w,r.Fits P F w->Fit P F f v w->(∀a b,f a=some b->¬(r.B b∨r.s b≠none))->r'.Fits P F w
 own:∀b,r'.B b->r.B b∨∃a,f a=some b
 seen:∀b o,r'.s b=some o->r.s b=some o
structure Recvs(mb:Bool)(i:Nat)(z:aq)(A:List aq->aG->az->List az->Prop)(B:aG->az->List az->Prop):Prop where
 comm:∀ys r fr cs,A ys r fr cs->∀w,r.Fits P F w->stepG P mb (G fr cs) w=.comm (G fr cs) #[rcase (k i) z] true (.recv true) w #[]
 val:∀ys r fr cs x,A ys r fr cs->fJ ys.length x->ar P mb F (A (ys++ [x])) r (fr.finish (.tuple #[x,.bool true])) cs
 fin:∀ys r fr cs f v,A ys r fr cs->Pre i ys f v->∃r',AV P F r f v r'∧ar P mb F B r' (fr.finish (.tuple #[z,.bool false])) cs
variable(z:aq)(A:Nat->List aq->aG->az->List az->Prop)
end
end
section
open Go.Conc
section
variable{mb:Bool}{P:bj}{F:bw->Bool}{Stop:aG->az->List az->Prop}{r:aG}{b:az}{a:bK}{k:List fJ}{cs:List az}{ops:Array bG}{i:Nat}{rest:List Nat}{o:bG}
theorem ar.B{fr a:az}{cs1:List az}(h:∀w,stepG P mb (G fr cs) w=.go (G a cs1) w)(b:ar P mb F Stop r a cs1):ar P mb F Stop r fr cs:=
 .V (λw _=>⟨#[],h w,af⟩) b
theorem ar.Z(v)(g:ops[i]?=some o)(j:cV o (yielded ops a.1)=true)(f:b.6≠ .early)
  (d:∀w,r.Fits P F w->(execOp a.eval o).run P w=.ok (.value v) w∧∀e∈(execOp a.eval o).events P w #[],lB r e)
  (h:ar P mb F Stop r (b.at (a.put o.1 v) (.inRegion ops rest::k)) cs):ar P mb F Stop r (b.at a (.inRegion ops (i::rest)::k)) cs:=
 .V (λw c=>⟨_,DI g j f (d w c).1,λe f=>(d w c).2 e (uR f)⟩) h
theorem ar.I(v)(e:ops[i]?=some o)(h:cV o (yielded ops a.1)=true)(d:b.6≠ .early)
  (f:∀w,(execOp a.eval o).run P w=.ok (.value v) w)(c:∀w,(execOp a.eval o).events P w #[]= #[])
  (g:ar P mb F Stop r (b.at (a.put o.1 v) (.inRegion ops rest::k)) cs):ar P mb F Stop r (b.at a (.inRegion ops (i::rest)::k)) cs:=
 .Z v e h d (λw _=>⟨f w,cw (c w)⟩) g
theorem ar.bN(p:ops[i]?=some o)(q:cV o (yielded ops a.1)=true)(m:b.6≠ .early)
  (t:∀w,r.Fits P F w->∃n v w1 c,(execOp a.eval o).run P w=.ok n w1∧(n=.value v∨(n=.skip∧v=aj))∧(∀e∈(execOp a.eval o).events P w #[],lB c e)∧c.Fits P F w1∧Only r c w w1∧
   ar P mb F Stop c (b.at (a.put o.1 v) (.inRegion ops rest::k)) cs):ar P mb F Stop r (b.at a (.inRegion ops (i::rest)::k)) cs:=by
 refine .U λw s=>?_;obtain⟨n,v,w1,c,f,d,g,h,j,l⟩:=t w s;rcases d with rfl|⟨rfl,rfl⟩;exact⟨_,cs,w1,_,c,DI p q m f,h,j,λe d=>g e (uR d),l⟩;exact⟨_,cs,w1,_,c,stepG_none p q m f,h,j,λe d=>g e (uR d),l⟩
theorem Frame.B{v:aq}(c:ops[i]?=some o):(b.at a (.inRegion ops (i::rest)::k)).finish v=b.at (a.put o.1 v) (.inRegion ops rest::k):=by
 rw[Frame.finish_at,c];rfl
theorem ar.T{l s:Nat->Option bI}(H:Held P F)(v:ops[i]?=some o)(z:cV o (yielded ops a.1)=true)(t:b.6≠ .early)(g:jh P F o.2=true)
  {ρ:cL->aq}(hρ:∀x∈o.2.operands,av F j (ρ x) (a.eval x)){Q:aq->ag->Prop}
  (m:∀T,∃n u e,(execOp ρ o).run P (aN d T)=.ok n e∧(n=.value u∨(n=.skip∧u=aj))∧Q u e)
  (D:∀c u f e,j.O c->av F c u f->Q u e->ar P mb F Stop ⟨some (c,e),l,s⟩ (b.at (a.put o.1 f) (.inRegion ops rest::k)) cs):
  ar P mb F Stop ⟨some (j,d),l,s⟩ (b.at a (.inRegion ops (i::rest)::k)) cs:=by
 classical
 refine .U λw r=>?_;have l:∀cs b,o.2≠ .select cs b:=by
  intro cs b c;rw[c]at g;simp[jh]at g
 have hrel:sr F j (λx=>if x∈o.2.operands then ρ x else aj) (λx=>if x∈o.2.operands then a.eval x else aj):=by
  intro x _;dsimp only;by_cases c:x∈o.2.operands;rw[if_pos c,if_pos c];exact hρ x c;rw[if_neg c,if_neg c];exact .O
 have p:=ak.K2 H.1 g hrel;rw[(execOp_congr (ρ:=λx=>if x∈o.2.operands then ρ x else aj) (ρ':=ρ) o l (λx c=>if_pos c)),(execOp_congr (ρ:=λx=>if x∈o.2.operands then a.eval x else aj) (ρ':=a.eval) o l (λx c=>if_pos c))]at p;obtain⟨n,u,e,g,B,C⟩:=m λl=>w.2 _;generalize m:(execOp ρ o).runT P _ #[]=q;have l:q.1=.ok n e:=by rw[<-m,vy,g]
 obtain⟨q,g⟩:=q;subst l;obtain⟨g,l,w1,y,y,i2,i3,A,y⟩:=p.1 _ w _ #[] (r.1 j d rfl).O n _ _ m;have p:∀x∈(execOp a.eval o).events P w #[],kP g x:=iq
 have y:(execOp a.eval o).run P w=.ok l w1:=iq
 have m:∃f,(l=.value f∨(l=.skip∧f=aj))∧av F g u f:=by
  rcases B with rfl|⟨rfl,rfl⟩;cases A with
  |value h=>grind
  cases A with
  |skip=>exact⟨_,af,.O⟩
 obtain⟨f,A,B⟩:=m;have l:vM P mb F j (b.at a (.inRegion ops (i::rest)::k)) cs w λn w m l=>n=g∧w=e∧m=b.at (a.put o.1 f) (.inRegion ops rest::k)∧l=cs:=by
  rcases A with rfl|⟨rfl,rfl⟩;exact⟨_,cs,w1,_,g,e,DI v z t y,.B i2,i3,λx c=>p x (uR c),rfl,rfl,rfl,rfl⟩;exact⟨_,cs,w1,_,g,e,stepG_none v z t y,.B i2,i3,λx c=>p x (uR c),rfl,rfl,rfl,rfl⟩
 refine nH.B r aa λn w m l e c=>?_;obtain⟨rfl,rfl,rfl,rfl⟩:=c;exact D _ u _ _ e B C
end
end
def wE(P:bj)(F:bw->Bool)(ext:List Nat)(g:Nat):Bool:=
 match P.funcs[g]? with
 |some x=>(match x.9 with|some c=>cN P F c|none=>ext.contains g)&& !(x.1== "runtime.NumGoroutine")&&(P.inits.idxOf? g).isNone
 |none=>false
theorem X3(h:N.all (wE q (λg=>N.contains g) f6)=true)
  (c:∀g∈f6,∀x,q.funcs[g]?=some x->tB x=none∧∃e,tC x=some e∧∀f a b,RelA (λg=>N.contains g) f a b->ak q (λg=>N.contains g) (cN q λg=>N.contains g) (av λg=>N.contains g) f (e a) (e b)):Held q (λg=>N.contains g):=by
 have b:∀g,N.contains g=true->wE q _ _ g=true:=λg a=>zB.1 h g (aV a);refine⟨⟨λg a=>?_⟩,λg x d a c c=>?_,λg a=>?_⟩;have:=b g a;unfold wE at this;grind
 have:=b g a;unfold wE at this;grind;have:=b g a;unfold wE at this;grind
section
variable{P:bj}{F:bw->Bool}{C:Code->Bool}{f:Ren}
theorem Pc(name:String)(h:RelA F f t f3):ak P F C (λ_ x c=>x=c) f (HZ name t) (HZ name f3):=by
 obtain⟨l⟩:=t;obtain⟨a⟩:=f3;cases h with
 |nil=>exact .O
 |cons e a=>
  cases a with
  |nil=>exact .O
  |cons g a=>
   cases a with
   |nil=>exact .O
   |cons b a=>
    cases a with
    |nil=>
     refine .I (.nd b) λa d a b a=>?_;subst a;by_cases a:d.toNat>1;simp only[if_pos a];exact .V (.B (.I _));simp only[if_neg a];refine .I (.nd (e.B b)) λa x c a c=>?_;subst c;refine .I (.nd ((g.B b).B a)) λa y a _ a=>?_;subst a;exact .B rfl
    |cons _ _=>exact .O
end
theorem Xz:tC f350=some (λa=>do let(x,y,c) <-HZ "Add64" a;pure (JL ((x+y+c) % H_) ((x+y+c) /H_))):=bf
theorem XA:tC f394=some (λa=>do let(x,y,b) <-HZ "Sub64" a;pure (JL ((x+H_- y- b) % H_) (if x<y+b then 1 else 0))):=bf
theorem Z9:tB f350=none:=bf
theorem aaa:tB f394=none:=bf
theorem Tq(L:List Nat)(g)(d:g∈ [350,394])(x:Func)(b:Tryz.prog.funcs[g]?=some x):tB x=none∧∃e,tC x=some e∧∀f a c,RelA (λg=>L.contains g) f a c->ak Tryz.prog (λg=>L.contains g) (cN Tryz.prog λg=>L.contains g) (av λg=>L.contains g) f (e a) (e c):=by
 have i:∀(f:Ren)(a e:Nat),av (λg=>L.contains g) f (JL a e) _:=λf a e=>.tuple (.cons (.int _ _) (.cons (.int _ _) .nil));rcases pF.1 d with rfl|d;cases b;refine⟨Z9,_,Xz,λf a c h=>?_⟩;refine .I (Pc "Add64" h) λg x e _ b=>?_;subst b;exact .B (i _ _ _);have:g=394:=aV d;subst this;cases b;refine⟨aaa,_,XA,λf a c h=>?_⟩;refine .I (Pc "Sub64" h) λg x e _ b=>?_;subst b;exact .B (i _ _ _)
section
open Go.Conc
theorem base_kind(f:bw):(base f).6≠ .early:=by unfold base;simp
abbrev tj:Array Oper:= #[{dst:=some 12,op:=iI (bz 0),type:=353,pos:= "pipe.go:82",after:= #[],guard:=none},
  {dst:=some 13,op:=qm 156 (bz 5),type:=156,pos:= "pipe.go:82",after:= #[],guard:=none},
  {dst:=none,op:=Op.send (bz 12) (bz 13),type:=0,pos:= "pipe.go:82",after:= #[{on:=0,ground:=cY},{on:=1,ground:=cY}],guard:=none}]
abbrev mB:Array Oper:= #[{dst:=some 15,op:=iI (bz 0),type:=353,pos:= "pipe.go:84",after:= #[],guard:=none},
  {dst:=none,op:=nE {callee:=zC Q6,args:= #[bz 15],argTypes:= #[353]},type:=0,pos:= "pipe.go:84",after:= #[{on:=0,ground:=cY}],guard:=none}]
theorem S2{a:bK}{b:Nat}(d:a.1[12]?.getD aj=.chan (some b))(e:a.1[13]?.getD aj=c)(w:ag):
  stepG Tryz.prog false (G ((base 152).at a (.inRegion tj [2]::P)) h) w=.comm (G ((base 152).at a (.inRegion tj [2]::P)) h) #[scase b c (.tuple #[])] true .send w #[]:=by
 rw[stepG_comm (w':=w) (cases:= #[scase b c _]) (blocking:=true) (shape:=.send) (ops:=tj) (i:=2) rfl rfl (base_kind _)];rw[H'];simp[go_sem];simp[go_sem,d,e,scase]
theorem WB(P:bj)(c:d.1[a]?=some (.chan e t false n L o))(ts:Array bB)(b:bB):
  (Q7 ts b #[.chan (some a)]).runT P d #[]=(.ok (.tuple #[]) (d.setChan a e t true n L o),#[⟨.obj a,false,true⟩,⟨.obj a,true,true⟩]):=by
 refine Prod.ext ?_ ?_;rw[vy,(run_close_open (P:=P) (w:=d) _ b c)];rfl;exact events_close_open (P:=P) (w:=d) (es:= #[]) _ b c
theorem WA{P:bj}(b:F.1[15]?.getD aj=.chan (some a))(f:d.1[a]?=some (.chan e t false n L o)):
  (execOp F.eval mB[1]).runT P d #[]=(.ok (.value (.tuple #[])) (d.setChan a e t true n L o),#[⟨.obj a,false,true⟩,⟨.obj a,true,true⟩]):=by
 have c:execOp F.eval mB[1]=(do Pure.pure (Next.value (<-Q7 #[353] 0 #[.chan (some a)]))):=by
  have h:F.eval (.tmp 15)=.chan (some a):=by simpa[lH]using b
  show(do let b<-resolve F.eval {callee:=zC Q6,args:= #[bz 15],argTypes:= #[353]} 0;invoke b.1 b.2)=_
  unfold resolve;simp[h];rfl
 rw[c,runT_bind',WB P f];rfl
theorem S0{a:bK}{b:Nat}{k:List fJ}(c:a.1[15]?.getD aj=.chan (some b))(w:ag)(d:w.1[b]?=some (.chan L t false e n o)):
  stepG Tryz.prog false (G ((base 152).at a (.inRegion mB [1]::k)) h) w=.go (G ((base 152).at (a.put none (.tuple #[])) (.inRegion mB []::k)) h) (w.setChan b L t true e n o) #[⟨.obj b,false,true⟩,⟨.obj b,true,true⟩]:=by
 have b:=WA (P:=Tryz.prog) c d;rw[DI (v:=.tuple _) (w':=w.setChan _ _ _ _ e n _) (ops:=mB) (i:=1) rfl rfl (base_kind _) (by rw[<-vy Tryz.prog _ w #[],b])]
 congr 1
 unfold listed Sem.events;rw[b];rw[show(base _).1=152 from rfl,seen_eq (dh func152) af]
abbrev pP:Array Oper:= #[{dst:=some 10,op:=Q8 93 (bz 6) (bz 8),type:=0,pos:= "pipe.go:81",after:= #[],guard:=none},
 {dst:=some 11,op:=qm 156 (bz 10),type:=156,pos:= "pipe.go:81",after:= #[{on:=0,ground:=cY}],guard:=none},
 {dst:=some 5,op:=zD 156,type:=0,pos:= "pipe.go:81",after:= #[],guard:=none},
 {dst:=none,op:=Ao 156 (bz 5) (bz 11),type:=0,pos:= "pipe.go:81",after:= #[{on:=2,ground:=cY},{on:=1,ground:=cY},{on:=0,ground:=gQ},{on:=1,ground:=gQ},{on:=2,ground:=gQ}],guard:=none}]
theorem YA(a:cL->aq)(w:ag)(b:bC)(n c j:Nat)(d:a (.tmp 6)=.slice (some b) n c)(c:a (.tmp 8)=.int .i64 j)(e:j<n):(execOp a pP[0]).run Tryz.prog w=.ok (.value (.pointer (some (b.add (j*5))))) w:=by
 have:(j:Int)<n:=aa;simp[go_sem,d,c,this]
theorem YC(g:cL->aq)(w:ag)(b o)(a c d e f)(h:w.cell? ⟨b,o,none⟩=some a)(i:w.cell? ⟨b,o+1,none⟩=some c)(k:w.cell? ⟨b,o+2,none⟩=some d)(l:w.cell? ⟨b,o+3,none⟩=some e)(m:w.cell? ⟨b,o+4,none⟩=some f)
  (j:g (.tmp 10)=.pointer (some ⟨b,o,none⟩)):(execOp g pP[1]).run Tryz.prog w=.ok (.value (.agg #[a,c,d,e,f])) w:=by
 simp[go_sem,j,h,i,k,l,m]
theorem Yw(a:cL->aq)(w:ag):(execOp a pP[2]).run Tryz.prog w=.ok (.value w.1) {w with heap:=w.1.push (.cells #[.string ⟨#[]⟩,.int .u64 0,.int .u64 0,.int .u64 0,.bool false] 156)}:=by
 simp[go_sem]
theorem pq{b o:Nat}(a)(c:d.1[b]?=some (.cells t C x)):
  (d.setCell ⟨b,o,none⟩ a).1=d.1.setIfInBounds b (.cells (t.setIfInBounds o a) C x)∧(d.setCell ⟨b,o,none⟩ a).1[b]?=some (.cells (t.setIfInBounds o a) C x):=by
 have h:(d.setCell ⟨b,o,none⟩ a).1=d.1.setIfInBounds b (.cells (t.setIfInBounds o a) C x):=by
  unfold Dl;rw[yH _ _ _ _ c];rfl
 grind
theorem Pa(h:Array bI)(b)(o a:bI):(h.setIfInBounds b o).setIfInBounds b a=h.setIfInBounds b a:=by
 grind
theorem YE(c:cL->aq)(w:ag)(b)(nm:ByteArray)(p q r)(g:Bool)(d e f h i)(a:w.1[b]?=some (.cells #[d,e,f,h,i] 156 (0,0)))
  (k:c (.tmp 5)=.pointer (some ⟨b,0,none⟩))(j:c (.tmp 11)=.agg #[.string nm,.int .u64 p,.int .u64 q,.int .u64 r,.bool g]):
  ∃w1,(execOp c pP[3]).run Tryz.prog w=.ok .skip w1∧w1.1=w.1.setIfInBounds b (.cells #[.string nm,.int .u64 p,.int .u64 q,.int .u64 r,.bool g] 156 (0,0))∧w1.2=w.2∧w1.3=w.3:=by
 have ax:w.cell? ⟨b,0,none⟩=some d:=by simp[gK,a]
 have c1:w.cell? ⟨b,1,none⟩=some e:=by simp[gK,a]
 have c2:w.cell? ⟨b,2,none⟩=some f:=by simp[gK,a]
 have c3:w.cell? ⟨b,3,none⟩=some h:=by simp[gK,a]
 have c4:w.cell? ⟨b,4,none⟩=some i:=by simp[gK,a]
 have d:∀i,w.frozen? ⟨b,i,none⟩=false:=λi=>by simp[zO,a]
 have e:(execOp c pP[3]).run Tryz.prog w=.ok .skip (((((w.setCell ⟨b,0,none⟩ (.string nm)).setCell ⟨b,1,none⟩ (.int .u64 p)).setCell ⟨b,2,none⟩ (.int .u64 q)).setCell ⟨b,3,none⟩ (.int .u64 r)).setCell ⟨b,4,none⟩ (.bool g)):=by
  simp[go_sem,k,j,ax,c1,c2,c3,c4,d]
 refine⟨_,e,?_,by simp,by simp⟩;obtain⟨a1,b1⟩:=pq (o:=0) _ a;obtain⟨a2,b2⟩:=pq (o:=1) _ b1;obtain⟨a3,a⟩:=pq (o:=2) _ b2;obtain⟨a4,b⟩:=pq (o:=3) _ a;obtain⟨a5,_⟩:=pq (o:=4) (.bool g) b;rw[a5,a4,a3,a2,a1];simp only[Pa];simp
structure bn where
 nm:ByteArray
 p:Int
 q:Int
 r:Int
 g:Bool
def bn.B(x:bn):List Value:= [.string x.1,.int .u64 x.p,.int .u64 x.q,.int .u64 x.r,.bool x.g]
def bn.I(x:bn):Value:=.agg #[.string x.1,.int .u64 x.p,.int .u64 x.q,.int .u64 x.r,.bool x.g]
def iv(v:ag)(s:aq)(b:List bn):Prop:=
 (b= []∧∃c a,s=.slice c 0 a)∨∃d o a c e fr,s=.slice (some ⟨d,o,none⟩) b a∧v.1[d]?=some (.cells c e fr)∧
  ∀j x,b[j]?=some x->c[o+j*5]?=some x.1∧c[o+j*5+1]?=some (.int .u64 x.p)∧c[o+j*5+2]?=some (.int .u64 x.q)∧c[o+j*5+3]?=some (.int .u64 x.r)∧c[o+j*5+4]?=some x.g
variable{w:bn}{i:List bn}
theorem iv.B{v a:ag}{s:aq}(h:iv v s i)(j:∀(b:Nat) o,v.1[b]?=some o->a.1[b]?=some o):iv a s i:=by
 rcases h with h|⟨b,o,a,c,e,fr,d,f,g⟩;exact .inl h;exact .inr ⟨b,o,a,c,e,fr,d,j _ _ f,g⟩
theorem bn.U(x:bn):av A j x.I x.I:=
 .agg (.cons (.string _) (.cons (.int _ _) (.cons (.int _ _) (.cons (.int _ _) (.cons (.bool _) .nil)))))
theorem bn.O(h:av A j w.I c):c=w.I:=by
 cases h with
 |agg h=>
  rename_i a;obtain⟨l⟩:=a;cases h with
  |cons b t=>cases b;cases t with
   |cons d t=>cases d;cases t with
    |cons e t=>cases e;cases t with
     |cons f t=>cases f;cases t with
      |cons g t=>cases g;cases t;rfl
abbrev Yb:Array Oper:= #[{dst:=some 6,op:=iI (bz 1),type:=93,pos:= "pipe.go:81",after:= #[],guard:=none},
 {dst:=some 7,op:=nE {callee:=zC JM,args:= #[bz 6],argTypes:= #[93]},type:=3,pos:= "pipe.go:81",after:= #[{on:=0,ground:=cY}],guard:=none},
 {dst:=some 8,op:=iI (qA (rI tA 0)),type:=3,pos:= "pipe.go:81",after:= #[],guard:=none}]
abbrev Zo:Array Oper:= #[{dst:=some 9,op:=DJ Q9 3 (bz 8) (bz 7) 3,type:=0,pos:= "pipe.go:81",after:= #[],guard:=none}]
abbrev FP:Array Oper:= #[{dst:=some 14,op:=DJ JN 3 (bz 8) (qA (rI tA 1)) 3,type:=3,pos:= "pipe.go:81",after:= #[],guard:=none},
 {dst:=some 8,op:=iI (bz 14),type:=3,pos:= "pipe.go:81",after:= #[{on:=0,ground:=cY}],guard:=none}]
abbrev aem:Code:=rJ 1 ((bH 2 pP false).seq (bH 3 tj false))
abbrev qT:Code:=(bH 1 Zo false).seq ((mX (bz 9) mY (u_ 0)).seq (aem.seq (bH 4 FP false)))
section
variable{F:bw->Bool}{Stop:aG->az->List az->Prop}{e s:Nat->Option bI}{c:az}{cs:List az}
theorem Zj{l a1 a2 a3 a4 a5 j b d e f h i:aq}{n:Nat}
  (k:∀T,T[15]?.getD aj=.chan (some a)->ar Tryz.prog false F Stop g ((base 152).at ⟨T,[]⟩ [.inRegion mB [1]]) (c::cs)):
  ar Tryz.prog false F Stop g ((base 152).at ⟨#[.chan (some a),a1,a2,a3,a4,a5,l,.int .i64 n,.int .i64 n,j,b,d,e,f,h,i],[]⟩ [.code qT,.inLoop qT,.inBlock 0,.code (.region 5 mB false)]) (c::cs):=by
 apply ar.B (λw=>cM);apply ar.B (λw=>fK);apply ar.I (.bool false) rfl rfl (base_kind _) (λw=>aZ) (λw=>aZ);apply ar.B (λw=>cE);apply ar.B (λw=>cM);apply ar.B (λw=>zE (t:=false) rfl);apply ar.B (λw=>H0 (k':= [.code _]) rfl);apply ar.B (λw=>fK);apply ar.I (.chan (some a)) rfl rfl (base_kind _) (λw=>aZ) (λw=>aZ);exact k _ rfl
end
section
variable{F:bw->Bool}{Stop:aG->az->List az->Prop}{e s:Nat->Option bI}{c:az}{cs:List az}
theorem wL(b:(∃w,g.Fits q A w)->ar q o A K g f h):ar q o A K g f h:=by
 by_cases a:∃w,g.Fits q A w;exact b a;exact .U λw b=>absurd ⟨w,b⟩ a
theorem P2:uL Tryz.prog 156=true:=bb
def Grown(v a:ag):Prop:=∀(b:Nat)(o:bI),v.1[b]?=some o->a.1[b]?=some o
theorem Zi(H:Held Tryz.prog F){m:Nat}{s0 f a1 a2 a3 a4 a5 u n p q r g h:aq}(b:i[a]?=some w)(v:iv d s0 i)(x:av F j s0 f)
  (G:∀k l iX y,j.O k->Grown d l->ar Tryz.prog false F Stop ⟨some (k,l),e,s⟩ ((base 152).at ⟨#[.chan (some m),a1,a2,a3,a4,iX,f,.int .i64 i,.int .i64 a,.bool true,y,w.I,.chan (some m),w.I,g,h],[]⟩ [.inRegion tj [2],.inBlock 1,.code (.region 4 FP false),.inLoop qT,.inBlock 0,.code (.region 5 mB false)]) (c::cs)):
  ar Tryz.prog false F Stop ⟨some (j,d),e,s⟩ ((base 152).at ⟨#[.chan (some m),a1,a2,a3,a4,a5,f,.int .i64 i,.int .i64 a,u,n,p,q,r,g,h],[]⟩ [.code qT,.inLoop qT,.inBlock 0,.code (.region 5 mB false)]) (c::cs):=by
 have r:=(iw.1 b).1;have g:(a:Int)<i.length:=aa;rcases v with⟨rfl,_⟩|⟨h,o,k,cc,n,fr,rfl,q,f⟩;simp at b;let⟨v,z,A,B,D⟩:=f a w b;apply ar.B (λb=>cM);apply ar.B (λb=>fK);apply ar.I (.bool true) rfl rfl (base_kind _) (λb=>by simp[go_sem,g]) (λb=>aZ);walk_nrm;apply ar.B (λb=>cE);apply ar.B (λb=>cM);apply ar.B (λb=>zE (t:=true) rfl);simp;apply ar.B (λb=>qo);apply ar.B (λb=>cM);apply ar.B (λb=>vA);apply ar.B (λb=>cM);apply ar.B (λb=>fK);have l:∀(g:ag)(T:Nat->Question->Nat),g.1=d.1->∀f y,cc[f]?=some y->(aN g T).cell? ⟨h,f,none⟩=some y:=by
  intro g T p f y f;have:(aN g T).1[h]?=some (.cells cc n fr):=by show g.1[h]?=_;rw[p];exact q
  simp[gK,this,f]
 refine ar.T (o:=pP[0]) H rfl rfl (base_kind _) (by simp[jh,c0,fF]) (ρ:=λ| .tmp 6=>.slice (some ⟨h,o,none⟩) i.length k| .tmp 8=>.int .i64 a|_=>aj)
  (Q:=λu g=>u=.pointer (some ⟨h,o+a*5,none⟩)∧g.1=d.1) ?_ (λT=>⟨_,_,aN d T,YA _ _ ⟨h,o,none⟩ i.length k a rfl rfl r,.inl rfl,by simp[tF],rfl⟩) ?_
 intro y f;simp[c0]at f;rcases f with rfl|rfl;exact x;exact .int _ _;rintro k u k g C q ⟨rfl,k⟩;walk_nrm;refine ar.T (o:=pP[1]) H rfl rfl (base_kind _) (by simp[jh,c0,fF]) (ρ:=λ| .tmp 10=>.pointer (some ⟨h,o+a*5,none⟩)|_=>aj)
  (Q:=λu n=>u=w.I∧n.1=d.1) ?_ (λT=>⟨_,_,aN g T,YC _ _ h (o+a*5) _ _ _ _ _ (l g T k _ _ v) (l g T k _ _ z) (l g T k _ _ A) (l g T k _ _ B) (l g T k _ _ D) rfl,.inl rfl,rfl,k⟩) ?_
 intro y f;simp[c0]at f;subst f;exact q;rintro g u g n D k ⟨rfl,h⟩;have g:=bn.O k;subst g;walk_nrm;refine ar.T (o:=pP[2]) H rfl rfl (base_kind _) (by simp[jh,c0,P2]) (ρ:=λ_=>aj)
  (Q:=λu g=>u=.pointer _∧g.1=d.1.push _) ?_ (λT=>⟨_,_,_,Yw _ _,.inl rfl,by show Value.pointer (some ⟨n.1.size,0,none⟩)=_;rw[h],by show n.1.push _=_;rw[h]⟩) ?_
 intro y f;simp[c0]at f;rintro h u h g E v ⟨rfl,h⟩;have l:∀T,(aN g T).1[d.1.size]?=some (.cells #[.string ⟨#[]⟩,.int .u64 0,.int .u64 0,.int .u64 0,.bool false] 156 (0,0)):=by
  intro T;show g.1[d.1.size]?=_;rw[h];simp
 refine ar.T (o:=pP[3]) H rfl rfl (base_kind _) (by simp[jh,c0,fF]) (ρ:=λ| .tmp 5=>.pointer (some ⟨d.1.size,0,none⟩)| .tmp 11=>w.I|_=>aj)
  (Q:=λ_ k=>k.1=(d.1.push (.cells #[.string ⟨#[]⟩,.int .u64 0,.int .u64 0,.int .u64 0,.bool false] 156)).setIfInBounds d.1.size (.cells #[.string w.1,.int .u64 w.p,.int .u64 w.q,.int .u64 w.r,.bool w.g] 156 (0,0))) ?_ (λT=>?_) ?_
 intro y f;simp[c0]at f;rcases f with rfl|rfl;exact v;exact w.U;obtain⟨w1,p,h,_,_⟩:=YE (λ| .tmp 5=>.pointer (some ⟨d.1.size,0,none⟩)| .tmp 11=>w.I|_=>aj) (aN g T) d.1.size w.1 w.p w.q w.r w.g _ _ _ _ _ (l T) rfl rfl;exact⟨_,aj,w1,p,af,by rw[h];show g.1.setIfInBounds _ _=_;grind⟩;rintro g u g k r _ h;have B:Grown d k:=by
  intro q x g;have:=(fU.1 g).1;rw[h,mQ aa,H2,if_neg aa];exact g
 have A:k.1[d.1.size]?=some (.cells #[.string w.1,.int .u64 w.p,.int .u64 w.q,.int .u64 w.r,.bool w.g] 156 (0,0)):=aJ
 apply ar.B (λb=>cE);apply ar.B (λb=>fK);refine ar.I (.chan (some m)) rfl rfl (base_kind _) (λb=>aZ) (λb=>aZ) ?_;walk_nrm;have I:∀(ρ:cL->aq)(b:ag)(g l m n p:aq),b.1[d.1.size]?=some (.cells #[g,l,m,n,p] 156 (0,0))->ρ (.tmp 5)=.pointer (some ⟨d.1.size,0,none⟩)->(execOp ρ tj[1]).run Tryz.prog b=.ok (.value (.agg #[g,l,m,n,p])) b:=by
  intro ρ b g l m n p h z;have ax:b.cell? ⟨d.1.size,0,none⟩=some g:=by simp[gK,h]
  have c1:b.cell? ⟨d.1.size,1,none⟩=some l:=by simp[gK,h]
  have c2:b.cell? ⟨d.1.size,2,none⟩=some m:=by simp[gK,h]
  have c3:b.cell? ⟨d.1.size,3,none⟩=some n:=by simp[gK,h]
  have c4:b.cell? ⟨d.1.size,4,none⟩=some p:=by simp[gK,h]
  simp[go_sem,z,ax,c1,c2,c3,c4]
 refine ar.T (o:=tj[1]) H rfl rfl (base_kind _) (by simp[jh,c0,fF]) (ρ:=λ| .tmp 5=>.pointer (some ⟨d.1.size,0,none⟩)|_=>aj)
  (Q:=λu b=>u=w.I∧b.1=k.1) ?_ (λT=>⟨_,w.I,aN k T,I _ _ _ _ _ _ _ A rfl,.inl rfl,rfl,rfl⟩) ?_
 intro y f;simp[c0]at f;subst f;exact v.B r;rintro g u f b k l ⟨rfl,m⟩;have f:=bn.O l;subst f;walk_nrm;exact G g b _ _ (Ren.B C (Ren.B D (Ren.B E (Ren.B r k)))) (λq x h=>aw m (B q x h))
end
section
variable{F:bw->Bool}{k:Nat->Nat}{Pre:Nat->List aq->Ren->ag->Prop}{Dn:Nat->aG->az->List az->Prop}{i:Nat}{e s:Nat->Option bI}{c:az}{cs:List az}
def vo(p:Nat)(v:aq):Prop:=p<1099511627776∧∃x:bn,v=x.I
theorem ach(H:Held Tryz.prog F){b:List bn}{s0 n:aq}(d:b.length<=1099511627776)(B:∀f l v o,Pre i (b.map bn.I) f v->f.O l->Grown v o->(∃w,Fit Tryz.prog F l o w)->Pre i (b.map bn.I) l o)
  (x:∀T,ar Tryz.prog false F (Dn i) ⟨none,e,s⟩ ((base 152).at ⟨T,[]⟩ [.inRegion mB []]) (c::cs)):
  ∀d(j),b.drop j=d->j<=b->∀f(v:ag)(a1 a2 a3 a4 a5 u p q r t g h),Pre i (b.map bn.I) f v->iv v s0 b->av F f s0 n->
   ar Tryz.prog false F (Sends Tryz.prog F k Pre vo Dn i (b.map bn.I) (d.map bn.I)) ⟨some (f,v),e,s⟩
    ((base 152).at ⟨#[.chan (some (k i)),a1,a2,a3,a4,a5,n,.int .i64 b,.int .i64 j,u,p,q,r,t,g,h],[]⟩ [.code qT,.inLoop qT,.inBlock 0,.code (.region 5 mB false)]) (c::cs):=by
 intro d;induction d with
 |nil=>
  intro j m D f v a1 a2 a3 a4 a5 u p q r t g h z y A;have:j=b.length:=by
   have:=List.drop_eq_nil_iff.1 m;omega
  subst this;exact Zj λT C=>.O ⟨⟨f,v,rfl,z⟩,rfl,_,_,⟨_,e,s⟩,⟨rfl,af,rfl⟩,x _,λw _ x x x tm x=>S0 (a:=⟨T,[]⟩) C w x⟩
 |cons x d C=>
  intro j m D f v a1 a2 a3 a4 a5 u p q r t g h z y A;have p:=by
   have:=congrArg (·[0]?) m;simpa using this
  have q:b.drop (j+1)=d:=by
   rw[<-JO,m];rfl
  refine Zi H p y A λl o iX m l d=>wL λ⟨t,r⟩=>.O ⟨⟨bQ,x,rfl⟩,⟨.tuple #[],λw _=>?_⟩,?_⟩;exact S2 (a:=⟨_,[]⟩) rfl rfl w;have o:((base _).at ⟨#[.chan _,a1,a2,a3,a4,iX,n,.int .i64 _,.int _ j,.bool _,m,x.I,.chan _,x.I,g,h],[]⟩ [.inRegion tj [2],.inBlock 1,.code (.region 4 FP false),.inLoop qT,.inBlock 0,.code (.region 5 mB false)]).finish aj=
    (base 152).at ⟨#[.chan (some (k i)),a1,a2,a3,a4,iX,n,.int _ b.length,.int .i64 j,.bool true,m,x.I,.chan (some (k i)),x.I,g,h],[]⟩ _:=rfl
  rw[o];apply ar.B (λw=>cE);apply ar.B (λw=>DK);apply ar.B (λw=>fK);refine ar.I (.int .i64 ((j+1:Nat):Int)) rfl rfl (base_kind _) (λw=>?_) (λw=>aZ) ?_;simp[go_sem];rw[H3];omega;apply ar.I (.int .i64 ((j+1:Nat):Int)) rfl rfl (base_kind _) (λw=>aZ) (λw=>aZ);apply ar.B (λw=>cE);apply ar.B (λw=>Ap);exact C _ q ((iw.1 p).1) _ _ _ _ _ _ _ _ _ _ _ _ _ _ (B f _ v _ z l d ⟨t,r.1 _ _ rfl⟩) (y.B d) (A.B l)
theorem O7(H:Held Tryz.prog F){a:List bn}{s0 b:aq}(q:a.length<=1099511627776)(p:∀j f d g,Pre i (a.map bn.I) j d->j.O f->Grown d g->(∃w,Fit Tryz.prog F f g w)->Pre i (a.map bn.I) f g)
  (o:∀T,ar Tryz.prog false F (Dn i) ⟨none,e,s⟩ ((base 152).at ⟨T,[]⟩ [.inRegion mB []]) (c::cs))
  (r:Pre i (a.map bn.I) j d)(l:iv d s0 a)(h:av F j s0 b):
  ar Tryz.prog false F (EA Tryz.prog F k Pre vo Dn i) ⟨some (j,d),e,s⟩ (ej Tryz.prog 152 #[.chan (some (k i)),b] .normal) (c::cs):=by
 have n:ej Tryz.prog 152 #[.chan (some (k i)),b] .normal=(base 152).at ⟨#[.chan (some (k i)),b,aj,aj,aj,aj,aj,aj,aj,aj,aj,aj,aj,aj,aj,aj],[]⟩ [.code (((bH 0 Yb false).seq (rJ 0 qT.loop)).seq (bH 5 mB false))]:=by
  unfold ej;rw[func152];rfl
 obtain⟨g,f,m⟩:∃g f,b=.slice g a.length f:=by
  rcases l with⟨rfl,g,f,rfl⟩|⟨g,g,f,cc,f,fr,rfl,_,_⟩;cases h;grind;grind;cases h;grind
 rw[n];apply ar.B (λw=>cM);apply ar.B (λw=>cM);apply ar.B (λw=>fK);apply ar.I b rfl rfl (base_kind _) (λw=>aZ) (λw=>aZ);walk_nrm;refine ar.I (.int .i64 a.length) rfl rfl (base_kind _) (λw=>by simp[go_sem,m]) (λw=>by simp[go_sem,m]) ?_;apply ar.I (.int .i64 (0:Nat)) rfl rfl (base_kind _) (λw=>aZ) (λw=>aZ);exact ar.B (λw=>cE) (ar.B (λw=>vA) (ar.B (λw=>DL) ((ach H q p o _ 0 rfl aa j d _ _ _ _ _ _ _ _ _ _ _ _ r l h).Y λr fr cs h=>⟨_,h⟩)))
end
def rL(c:Array aq):Prop:=∀(i:Nat) x,c[i]?=some x->(∃s,x=.string s)∨(∃k n,x=.int k n)∨∃b,x=.bool b
theorem rL.I{F:bw->Bool}(h:rL t)(f:Ren):RelA F f t t:=by
 refine bM.dz rfl λi x a a b=>?_;rw[a]at b;cases b;rcases h i x (aV a)with⟨s,rfl⟩|⟨k,n,rfl⟩|⟨b,rfl⟩;exact .string s;exact .int k n;exact .bool b
theorem rL.B{f:Ren}{c a:Array aq}(h:rL c)(b:RelA A f c a):a=c:=by
 apply Array.ext_getElem?;intro i;cases a:c[i]? with
 |none=>exact b.V i a
 |some x=>
  obtain⟨d,d,e⟩:=b.O i x a;rw[d];rcases h i x a with⟨s,rfl⟩|⟨k,n,rfl⟩|⟨b,rfl⟩<;>cases e<;>rfl
def Ren.T(f:Ren)(a b:Nat):Ren:=λx=>if x=a then some b else f x
section
variable{P:bj}{F:bw->Bool}{f g:Ren}{v u w:ag}
theorem Fit.V(h:Fit P F f v w)(n:w.1[a]?=some (.cells t C x))(p:rL t)(q:P.globals<=a)(b:∀b,f b≠some a)
  (j:d.1=v.1.push (.cells t C x)):f.O (f.T v a)∧Fit P F (f.T v a) d w:=by
 have l:∀b e,f b=some e->b<v.1.size:=λb e c=>by
  obtain⟨o,_,m,_⟩:=h.3 b e c;grind
 have k:f.O (f.T _ a):=λb e c=>by
  have:=l b e c;show(if b=v.1.size then _ else _)=_
  grind
 have g:∀b e,f.T v.1.size a b=some e->(b=v.1.size∧e=a)∨f b=some e:=by
  intro b e c;by_cases i:b=v.1.size;have:f.T v.1.size a b=some a:=if_pos i;rw[this]at c;exact .inl ⟨i,(dw c).symm⟩;have:f.T v.1.size a b=f b:=if_neg i;rw[this]at c;exact .inr c
 refine⟨k,⟨λb e c=>?_,⟨h.2.1.I λe c=>by rw[j,H2,if_neg (aI h.2.1.B)],h.2.2⟩,λb e c=>?_,λb a' e c i=>?_⟩⟩;rcases g b e c with⟨rfl,rfl⟩|c;exact⟨h.2.1.B,q⟩;exact h.1 b e c;rcases g b e c with⟨rfl,rfl⟩|c;exact⟨_,_,cw j,n,.cells C _ (p.I _)⟩;obtain⟨o,j,n,i2,i3⟩:=h.3 b e c;have:=l b e c;exact⟨o,j,by grind,i2,i3.B k⟩;rcases g b e c with⟨rfl,rfl⟩|c<;>rcases g a' _ i with⟨rfl,m⟩|i
 rfl;grind;grind;exact h.4 b _ e c i
theorem ady{k s:Nat->Option bI}(i:g e=some a)(E:u.1[e]?=some (.cells t C x))(n:rL t){v1:ag}(z:v1.1=v.1.push (.cells t C x)):
  AV P F ⟨some (g,u),k,s⟩ f v ⟨some (f.T v a,v1),k,s⟩:=by
 have l:∀y c,f.T v.1.size a y=some c->c=a∨f y=some c:=by
  intro y c b;by_cases d:y=v.1.size;have:f.T v.1.size a y=some a:=if_pos d;rw[this]at b;exact .inl (dw b).symm;have:f.T v.1.size a y=f y:=if_neg d;rw[this]at b;exact .inr b
 refine⟨λw j A o=>?_,λc b=>?_,af⟩;have p:=j.1 g u rfl;let⟨G,H,q,i2,i3⟩:=p.3 e a i;rw[E]at q;cases q;cases i3 with
 |cells _ _ D=>
  have:=n.B D;subst this;have B:∀y,f y≠some a:=λy d=>o y a d (.inl (.inr ⟨g,u,e,rfl,i⟩));refine⟨λm r h=>?_,j.e,j.s,λm r h y c b=>?_,j.5⟩;obtain⟨rfl,rfl⟩:=h;exact(A.V i2 n (p.1 e a i).2 B z).2;obtain⟨rfl,rfl⟩:=h;rcases l y c b with rfl|b;exact j.4 g u rfl e c i;have:=o y c b;refine⟨?_,?_⟩;cases h:k c with
  |none=>omega
  |some G=>exact absurd (.inl (.inl (by grind))) this
  grind
 rcases b with b|⟨m,r,y,h,d⟩;exact .inl (.inl b);obtain⟨rfl,rfl⟩:=h;rcases l y c d with rfl|d;exact .inl (.inr ⟨g,u,e,rfl,i⟩);grind
end
def fy(v:ag)(s:aq)(a:List bn):Prop:=
 (a= []∧s=.slice none 0 0)∨∃g b c,s=.slice (some ⟨g,0,none⟩) a b∧v.1[g]?=some (.cells c 156 (0,0))∧a<=b∧b<=maxLen∧c=b*5∧c.1.take (a*5)=a.flatMap bn.B∧rL c
theorem zb:Tryz.prog.underlying 93=some (.slice 156):=ah
theorem FQ:(Tryz.prog.info? 156).map (λi=>(i.8,i.3,i.4))=some (some (.agg #[.string ⟨#[]⟩,.int .u64 0,.int .u64 0,.int .u64 0,.bool false]),5,48):=ah
theorem vW(a:List bn):(a.flatMap bn.B)=a.length*5:=by
 induction a with
 |nil=>rfl
 |cons y a a=>simp[a,bn.B];omega
theorem Wp(h:w.B[a]?=some c):(∃s,c=.string s)∨(∃k n,c=.int k n)∨∃b,c=.bool b:=by
 have:=cA h;simp[bn.B]at this;grind
def zU(u:aq):Prop:=(∃s,u=.string s)∨(∃k n,u=.int k n)∨∃b,u=.bool b
theorem Bl:rL t↔∀u∈t.1,zU u:=by
 constructor;intro h u b;obtain⟨i,a⟩:=H4.1 b;exact h i u (aV a);exact λh i x a=>h x (cA (i:=i) (aV a))
theorem E5(x:bn):∀u∈x.B,zU u:=λu b=>by
 obtain⟨i,a⟩:=H4.1 b;exact Wp a
theorem Wq(a:List bn):∀u∈a.flatMap bn.B,zU u:=λu a=>by
 obtain⟨x,_,h⟩:=JP.1 a;exact E5 x u h
theorem aey(n):∀u∈(qd #[.string ⟨#[]⟩,.int .u64 0,.int .u64 0,.int .u64 0,.bool false] n).1,zU u:=by
 intro u b;simp[qd]at b;obtain⟨a,_,rfl⟩:=b;have:a % 5=0∨a % 5=1∨a % 5=2∨a % 5=3∨a % 5=4:=aa;rcases this with e|e|e|e|e<;>rw[e];exact .inl af;exact .inr af;exact .inr af;exact .inr af;exact .inr af
theorem fy.O(h:fy d c i)(l:∀(b:Nat) o,d.1[b]?=some o->d4.1[b]?=some o):fy d4 c i:=by
 rcases h with h|⟨g,a,e,f,j,k⟩;exact .inl h;exact .inr ⟨g,a,e,f,l _ _ j,k⟩
theorem fy.B{s:aq}{x:bn}(h:fy d s i)(a:i.length<1099511627776){ad:bC}{c:Nat}(f:∀j u,x.B[j]?=some u->d.cell? (ad.add j)=some u):
  ∃a w',(rZ #[93,93] 93 #[s,.slice (some ad) 1 c]).run Tryz.prog d=.ok a w'∧fy w' a (i++ [x]):=by
 obtain⟨b,m,s,t,z⟩:=H5 FQ;have n:x.B.length=1*b.3:=dh t;have A:∀u∈x.B,u.oneCell'=true:=by
  intro u a;simp[bn.B]at a;rcases a with rfl|rfl|rfl|rfl|rfl<;>rfl
 have e:(i++ [x]).flatMap bn.B=i.flatMap bn.B++x.B:=af;have q:((i++ [x]).flatMap _).length=(i.length+1)*5:=cw vW;have v:∀(old:Nat),old<i.length+1->fy (d.drew.alloc (.cells ((i.flatMap bn.B).toArray++x.B.toArray++qd (Value.agg #[.string ⟨#[]⟩,.int .u64 0,.int .u64 0,.int .u64 0,.bool false]).cells (grownCap d (i.length+1) old 156-(i.length+1))) 156))
   (.slice (some ⟨d.1.size,0,none⟩) (i.length+1) (grownCap d (i.length+1) old 156)) (i++ [x]):=by
  intro old g;have g:=grownCap_ge d (i.length+1) old 156;have k:=grownCap_le_maxLen d (i.length+1) old 156 (by simp only[maxLen];omega);refine .inr ⟨d.1.size,_,_,af,cz d.drew _,aV g,k,?_,?_,?_⟩;simp only[Array.size_append,qp,size_zeroCells,vW,bn.B,Value.cells,uS,List.length_nil];omega;rw[e,DM,DM,kK,DN,<-q,e];exact List.take_left;rw[Bl];intro u a;simp only[DM,gX]at a;rcases a with(a|a)|a;exact Wq i u a;exact E5 x u a;exact aey _ u a
 rcases h with⟨rfl,rfl⟩|⟨g,o,p,rfl,l,r,k,r,r,w⟩;exact⟨_,_,(run_append_nil (P:=Tryz.prog) d _ _ _ b _ zb m s _ 1 c _ n f aa aa aa),aV aa⟩;by_cases y:i.length+1<=o;have w:i.length*b.3+x.B.length<=p.size:=aJ
 refine⟨_,_,(run_append_room (P:=Tryz.prog) d _ _ _ b zb m g _ _ _ l _ 1 c _ n f A aa w),.inr ⟨g,o,_,af,setRow_heap d g _ _ _ _ l,aV y,k,?_,?_,?_⟩⟩;grind;rw[t,r,kK,DN,<-q,e];grind;rw[Bl];intro u a;simp only[gX]at a;rcases a with(a|a)|a;exact Bl.1 aa u (qq a);exact E5 x u a;exact Bl.1 aa u (tK a);have e:∀j u,(i.flatMap bn.B)[j]?=some u->d.cell? ((⟨g,0,none⟩:bC).add j)=some u:=by
  intro j u a;have e:(⟨g,0,none⟩:bC).add j=⟨g,j,none⟩:=by unfold tF;split<;>simp_all
  rw[e,cI d g j p 156 (0,0) l];rw[<-r,Aq]at a;split at a;simpa using a;cases a
 exact⟨_,_,(run_append_grow (P:=Tryz.prog) d _ _ _ b _ zb m s _ _ _ _ (by grind) aa _ 1 c _ n f aa aa (growslice_fits aa (dT z))),v _ aa⟩
abbrev sW:Array Oper:= #[{dst:=some 6,op:=Op.recv 354 (bz 5) true,type:=0,pos:= "pipe.go:74",after:= #[],guard:=none},
 {dst:=some 7,op:=Rb (bz 6) 1,type:=4,pos:= "pipe.go:74",after:= #[{on:=0,ground:=cY}],guard:=none}]
abbrev wP:Array Oper:= #[{dst:=some 8,op:=Rb (bz 6) 0,type:=156,pos:= "pipe.go:74",after:= #[],guard:=none},
 {dst:=some 4,op:=zD 156,type:=0,pos:= "pipe.go:74",after:= #[],guard:=none},
 {dst:=none,op:=Ao 156 (bz 4) (bz 8),type:=0,pos:= "pipe.go:74",after:= #[{on:=1,ground:=cY},{on:=0,ground:=cY},{on:=0,ground:=gQ},{on:=1,ground:=gQ}],guard:=none}]
abbrev qE:Array Oper:= #[{dst:=some 9,op:=iI (bz 3),type:=93,pos:= "pipe.go:75",after:= #[],guard:=none},
 {dst:=some 10,op:=qm 156 (bz 4),type:=156,pos:= "pipe.go:75",after:= #[],guard:=none},
 {dst:=some 11,op:=Op.buildSlice 93 1 #[(0,bz 10)],type:=93,pos:= "pipe.go:75",after:= #[{on:=1,ground:=cY}],guard:=none},
 {dst:=some 12,op:=nE {callee:=zC Rc,args:= #[bz 9,bz 11],argTypes:= #[93,93]},type:=93,pos:= "pipe.go:75",after:= #[{on:=0,ground:=cY},{on:=2,ground:=cY}],guard:=none},
 {dst:=some 3,op:=pB (bz 12),type:=93,pos:= "pipe.go:75",after:= #[{on:=3,ground:=cY},{on:=3,ground:=vd},{on:=0,ground:=gQ},{on:=1,ground:=gQ},{on:=2,ground:=gQ},{on:=3,ground:=gQ}],guard:=none}]
abbrev aaD:Array Oper:= #[{dst:=some 13,op:=iI (bz 3),type:=93,pos:= "pipe.go:77",after:= #[],guard:=none},
 {dst:=some 2,op:=pB (bz 13),type:=93,pos:= "pipe.go:77",after:= #[{on:=0,ground:=cY},{on:=0,ground:=gQ}],guard:=none}]
abbrev aa8:Array Oper:= #[{dst:=some 2,op:=pB (qA (oD none 0 0)),type:=93,pos:= "pipe.go:72",after:= #[],guard:=none}]
abbrev abv:Array Oper:= #[{dst:=some 3,op:=pB (qA (oD none 0 0)),type:=93,pos:= "pipe.go:73",after:= #[],guard:=none}]
abbrev abw:Array Oper:= #[{dst:=some 5,op:=iI (bz 0),type:=354,pos:= "pipe.go:74",after:= #[],guard:=none}]
abbrev MU:Code:=(mX (bz 7) mY (u_ 0)).seq (rJ 1 ((bH 4 wP false).seq (bH 5 qE false)))
abbrev NH:Code:=(bH 3 sW false).seq MU
abbrev N7:Code:=(bH 6 aaD false).seq kL
abbrev sH:Value:=.agg #[.string ⟨#[]⟩,.int .u64 0,.int .u64 0,.int .u64 0,.bool false]
theorem S1(b:F.1[5]?.getD aj=.chan (some a))(w:ag):
  stepG Tryz.prog o (G ((base 155).at F (.inRegion sW [0,1]::P)) h) w=.comm (G ((base 155).at F (.inRegion sW [0,1]::P)) h) #[rcase a sH] true (.recv true) w #[]:=by
 rw[stepG_comm (w':=w) (cases:= #[rcase a sH]) (blocking:=true) (shape:=.recv true) (ops:=sW) (i:=0) rfl rfl (base_kind _)];rw[H'];simp[go_sem];simp[go_sem,b,rcase]
theorem YF(c:cL->aq)(w:ag)(b)(nm:ByteArray)(p q r)(g:Bool)(d e f h i)(a:w.1[b]?=some (.cells #[d,e,f,h,i] 156 (0,0)))
  (j:c (.tmp 4)=.pointer (some ⟨b,0,none⟩))(k:c (.tmp 8)=.agg #[.string nm,.int .u64 p,.int .u64 q,.int .u64 r,.bool g]):
  ∃w1,(execOp c wP[2]).run Tryz.prog w=.ok .skip w1∧w1.1=w.1.setIfInBounds b (.cells #[.string nm,.int .u64 p,.int .u64 q,.int .u64 r,.bool g] 156 (0,0)):=by
 have ax:w.cell? ⟨b,0,none⟩=some d:=by simp[gK,a]
 have c1:w.cell? ⟨b,1,none⟩=some e:=by simp[gK,a]
 have c2:w.cell? ⟨b,2,none⟩=some f:=by simp[gK,a]
 have c3:w.cell? ⟨b,3,none⟩=some h:=by simp[gK,a]
 have c4:w.cell? ⟨b,4,none⟩=some i:=by simp[gK,a]
 have d:∀i,w.frozen? ⟨b,i,none⟩=false:=λi=>by simp[zO,a]
 have e:(execOp c wP[2]).run Tryz.prog w=.ok .skip (((((w.setCell ⟨b,0,none⟩ (.string nm)).setCell ⟨b,1,none⟩ (.int .u64 p)).setCell ⟨b,2,none⟩ (.int .u64 q)).setCell ⟨b,3,none⟩ (.int .u64 r)).setCell ⟨b,4,none⟩ (.bool g)):=by
  simp[go_sem,j,k,ax,c1,c2,c3,c4,d]
 refine⟨_,e,?_⟩;obtain⟨a1,b1⟩:=pq (o:=0) _ a;obtain⟨a2,b2⟩:=pq (o:=1) _ b1;obtain⟨a3,a⟩:=pq (o:=2) _ b2;obtain⟨a4,b⟩:=pq (o:=3) _ a;obtain⟨a5,_⟩:=pq (o:=4) (.bool g) b;rw[a5,a4,a3,a2,a1];simp only[Pa];simp
theorem Yx(a:cL->aq)(w:ag):(execOp a wP[1]).run Tryz.prog w=.ok (.value w.1) {w with heap:=w.1.push (.cells #[.string ⟨#[]⟩,.int .u64 0,.int .u64 0,.int .u64 0,.bool false] 156)}:=by
 simp[go_sem]
theorem YD(h:cL->aq)(w:ag)(b)(c d e f g)(a:w.1[b]?=some (.cells #[c,d,e,f,g] 156 (0,0)))
  (i:h (.tmp 4)=.pointer (some ⟨b,0,none⟩)):(execOp h qE[1]).run Tryz.prog w=.ok (.value (.agg #[c,d,e,f,g])) w:=by
 have ax:w.cell? ⟨b,0,none⟩=some c:=by simp[gK,a]
 have c1:w.cell? ⟨b,1,none⟩=some d:=by simp[gK,a]
 have c2:w.cell? ⟨b,2,none⟩=some e:=by simp[gK,a]
 have c3:w.cell? ⟨b,3,none⟩=some f:=by simp[gK,a]
 have c4:w.cell? ⟨b,4,none⟩=some g:=by simp[gK,a]
 simp[go_sem,i,ax,c1,c2,c3,c4]
theorem Yz(a:cL->aq)(w:ag)(x:bn)(h:a (.tmp 10)=x.I):(execOp a qE[2]).run Tryz.prog w=.ok (.value (.slice (some ⟨w,0,none⟩) 1 1)) {w with heap:=w.1.push (.cells x.B.toArray 156)}:=by
 simp[go_sem,h,bn.I,bn.B]
theorem Yy(f:cL->aq)(w:ag)(s)(e:List bn)(x:bn)(b)(i:fy w s e)(j:e.length<1099511627776)(k:w.1[b]?=some (.cells x.B.toArray 156 (0,0)))
  (h:f (.tmp 9)=s)(g:f (.tmp 11)=.slice (some ⟨b,0,none⟩) 1 1):∃a d,(execOp f qE[3]).run Tryz.prog w=.ok (.value a) d∧fy d a (e++ [x]):=by
 obtain⟨a,d,e,f⟩:=i.B (x:=x) (ad:=⟨b,0,none⟩) (c:=1) j (λj u l=>by
  have i:(⟨b,0,none⟩:bC).add j=⟨b,j,none⟩:=by unfold tF;split<;>simp_all
  rw[i,cI w b j _ 156 (0,0) k]
  simpa using l)
 exact⟨a,d,by simp[execOp,resolve,invoke,builtin,h,g,e],f⟩
section
variable{mb:Bool}{F:bw->Bool}{Stop:aG->az->List az->Prop}{e s:Nat->Option bI}{c:az}{cs:List az}
abbrev CH:List Item:= [.code MU,.inLoop NH,.inBlock 0,.code N7]
inductive sq(F:bw->Bool)(kk:Nat)(e s:Nat->Option bI)(c:az)(cs:List az):List aq->aG->az->List az->Prop
 |mk (xs:List bn) (f:Ren) (u:ag) (s0 s' a1 a4 a6 a7 a8 a9 a10 a11 a12 a13:aq) (hn:xs.length<=1099511627776) (hG:fy u s0 xs) (hr:av F f s0 s'):
  sq F kk e s c cs (xs.map bn.I) ⟨some (f,u),e,s⟩ ((base 155).at ⟨#[.chan (some kk),a1,.slice none 0 0,s',a4,.chan (some kk),a6,a7,a8,a9,a10,a11,a12,a13],[]⟩ (.inRegion sW [0,1]::CH)) (c::cs)
theorem OM(b:sq F a e s c cs D g f h)(w:ag):stepG Tryz.prog mb (G f h) w=.comm (G f h) #[rcase a sH] true (.recv true) w #[]:=by
 cases b with
 |mk b b u s0 b a1 a4 b b b b b b b b b b b=>exact S1 rfl w
theorem GS:uE Tryz.prog 93=true:=bb
theorem KS:qE[3].2.operands= #[.tmp 9,.tmp 11]:=ah
theorem aaq:jh Tryz.prog F qE[3].2=true:=by
 unfold jh;rw[KS];simp[fF,pW,GS]
theorem OS(H:Held Tryz.prog F){x:aq}(b:sq F a e s c cs D g f h)(r:vo D x):
  ar Tryz.prog mb F (sq F a e s c cs (D++ [x])) g (f.finish (.tuple #[x,.bool true])) h:=by
 cases b with
 |mk j b u s0 q a1 a4 p l m n b d i k v B K=>
 obtain⟨z,x,rfl⟩:=r;rw[di]at z;have r:((base _).at ⟨#[.chan _,a1,.slice none 0 0,q,a4,.chan _,p,l,m,n,b,d,i,k],[]⟩ (.inRegion sW [0,1]::CH)).finish _=
   (base 155).at ⟨#[.chan (some a),a1,.slice _ 0 0,q,a4,.chan (some a),.tuple #[x.I,.bool true],l,m,n,b,d,i,k],[]⟩ _:=rfl
 rw[r];apply ar.I (.bool true) rfl rfl (base_kind _) (λw=>aZ) (λw=>aZ);apply ar.B (λw=>cE);apply ar.B (λw=>cM);apply ar.B (λw=>zE (t:=true) rfl);apply ar.B (λw=>qo);apply ar.B (λw=>vA);apply ar.B (λw=>cM);apply ar.B (λw=>fK);apply ar.I x.I rfl rfl (base_kind _) (λw=>aZ) (λw=>aZ);refine ar.T (o:=wP[1]) H rfl rfl (base_kind _) (by simp[jh,c0,P2]) (ρ:=λ_=>aj)
  (Q:=λv d=>v=.pointer (some ⟨u.1.size,0,_⟩)∧d.1=u.1.push _) ?_ (λT=>⟨_,_,_,Yx _ _,.inl rfl,rfl,rfl⟩) ?_
 intro y b;simp[c0]at b;rintro i v i d G A ⟨rfl,i⟩;have k:∀T,(aN d T).1[u.1.size]?=some (.cells #[.string ⟨#[]⟩,.int .u64 0,.int .u64 0,.int .u64 0,.bool false] 156 (0,0)):=by
  intro T;show d.1[u.1.size]?=_;rw[i];simp
 refine ar.T (o:=wP[2]) H rfl rfl (base_kind _) (by simp[jh,c0,fF]) (ρ:=λ| .tmp 4=>.pointer (some ⟨u.1.size,0,none⟩)| .tmp 8=>x.I|_=>aj)
  (Q:=λ_ i=>i.1=(u.1.push (.cells #[.string ⟨#[]⟩,.int .u64 0,.int .u64 0,.int .u64 0,.bool false] 156)).setIfInBounds u.1.size (.cells #[.string x.1,.int .u64 x.p,.int .u64 x.q,.int .u64 x.r,.bool x.g] 156 (0,0))) ?_ (λT=>?_) ?_
 intro y b;simp[c0]at b;rcases b with rfl|rfl;exact A;exact x.U;obtain⟨w1,m,n⟩:=YF (λ| .tmp 4=>.pointer (some ⟨u.1.size,0,none⟩)| .tmp 8=>x.I|_=>aj) (aN d T) u.1.size x.1 x.p x.q x.r x.g _ _ _ _ _ (k T) rfl rfl;exact⟨_,aj,w1,m,af,by rw[n];show d.1.setIfInBounds _ _=_;grind⟩;rintro d _ _ i r _ d;have E:Grown u i:=by
  intro l p k;have:=(fU.1 k).1;rw[d,mQ aa,H2,if_neg aa];exact k
 have C:i.1[u.1.size]?=some (.cells #[.string x.1,.int .u64 x.p,.int .u64 x.q,.int .u64 x.r,.bool x.g] 156 (0,0)):=aJ
 apply ar.B (λw=>cE);apply ar.B (λw=>fK);apply ar.I q rfl rfl (base_kind _) (λw=>aZ) (λw=>aZ);refine ar.T (o:=qE[1]) H rfl rfl (base_kind _) (by simp[jh,c0,fF]) (ρ:=λ| .tmp 4=>.pointer (some ⟨u.1.size,0,none⟩)|_=>aj)
  (Q:=λv d=>v=x.I∧d.1=i.1) ?_ (λT=>⟨_,x.I,aN i T,YD _ _ _ _ _ _ _ _ C rfl,.inl rfl,rfl,rfl⟩) ?_
 intro y b;simp[c0]at b;subst b;exact A.B r;rintro i v i d I q ⟨rfl,L⟩;have i:=bn.O q;subst i;walk_nrm;refine ar.T (o:=qE[2]) H rfl rfl (base_kind _) (by simp[jh,c0,fF,GS]) (ρ:=λ| .tmp 10=>x.I|_=>aj)
  (Q:=λv i=>v=.slice (some ⟨d.1.size,0,none⟩) 1 1∧i.1=d.1.push (.cells x.B.toArray 156)) ?_ (λT=>⟨_,_,_,Yz _ (aN d T) x rfl,.inl rfl,rfl,rfl⟩) ?_
 intro y b;simp[c0]at b;subst b;exact x.U;rintro q v q i J M ⟨rfl,A⟩;walk_nrm;have C:Grown u i:=by
  intro l p k;have q:d.1[l]?=some p:=aw L (E l p k);have:=(fU.1 q).1;rw[A,H2,if_neg aa];exact q
 have l:i.1[d.1.size]?=some (.cells x.B.toArray 156 (0,0)):=cw A;refine ar.T (o:=qE[3]) H rfl rfl (base_kind _) aaq (ρ:=λ| .tmp 9=>s0| .tmp 11=>.slice (some ⟨d.1.size,0,none⟩) 1 1|_=>aj)
  (Q:=λv k=>fy k v (j++ [x])) ?_ (λT=>?_) ?_
 intro y b;rw[KS]at b;simp at b;rcases b with rfl|rfl;exact K.B (Ren.B G (Ren.B r (Ren.B I J)));exact M;obtain⟨b,p,m,n⟩:=Yy (λ| .tmp 9=>s0| .tmp 11=>.slice (some ⟨d.1.size,0,none⟩) 1 1|_=>aj) (aN i T) s0 j x d.1.size (B.O C) z l rfl rfl;exact⟨_,b,p,m,.inl rfl,n⟩;rintro i n b k d m l;walk_nrm;refine ar.I b rfl rfl (base_kind _) (λw=>aZ) (λw=>aZ) ?_;walk_nrm;refine ar.B (λw=>cE) ?_;refine ar.B (λw=>DK) ?_;refine ar.B (λw=>Ap) ?_;refine ar.B (λw=>cM) ?_;refine ar.B (λw=>fK) ?_;have d:j.map bn.I++ [x.I]=(j++ [x]).map bn.I:=af;rw[d];exact .O (.mk (j++ [x]) i k n b _ _ _ _ _ _ _ _ _ _ bQ l m)
theorem OQ{b a1 a4 l i j k d e f h:aq}(n:ar Tryz.prog mb F Stop g (c.finish b) cs):
  ar Tryz.prog mb F Stop g (((base 155).at ⟨#[.chan (some a),a1,.slice none 0 0,b,a4,.chan (some a),l,i,j,k,d,e,f,h],[]⟩ (.inRegion sW [0,1]::CH)).finish (.tuple #[sH,.bool false])) (c::cs):=by
 have m:((base _).at ⟨#[.chan _,a1,.slice _ 0 0,b,a4,.chan _,l,i,j,k,d,e,f,h],[]⟩ (.inRegion sW [0,1]::CH)).finish _=
   (base 155).at ⟨#[.chan (some a),a1,.slice none 0 0,b,a4,.chan (some a),.tuple #[sH,.bool false],i,j,k,d,e,f,h],[]⟩ _:=rfl
 rw[m];apply ar.I (.bool false) rfl rfl (base_kind _) (λw=>aZ) (λw=>aZ);apply ar.B (λw=>cE);apply ar.B (λw=>cM);apply ar.B (λw=>zE (t:=false) rfl);apply ar.B (λw=>H0 (k':= [.code _]) rfl);apply ar.B (λw=>cM);apply ar.B (λw=>fK);apply ar.I b rfl rfl (base_kind _) (λw=>aZ) (λw=>aZ);apply ar.I b rfl rfl (base_kind _) (λw=>aZ) (λw=>aZ);walk_nrm;exact ar.B (λw=>cE) (ar.B (λw=>pI) (ar.B (λw=>DO rfl rfl func155 (by simp[results]) (by simp[results])) n))
end
section
variable{mb:Bool}{F:bw->Bool}{Stop:aG->az->List az->Prop}{e s:Nat->Option bI}{c:az}{cs:List az}
theorem OO:ar Tryz.prog mb F (sq F a e s c cs []) ⟨some (j,d),e,s⟩ (ej Tryz.prog 155 #[.chan (some a)] .normal) (c::cs):=by
 have b:ej Tryz.prog 155 #[.chan (some a)] .normal=(base 155).at ⟨#[.chan (some a),aj,aj,aj,aj,aj,aj,aj,aj,aj,aj,aj,aj,aj],[]⟩ [.code ((bH 0 aa8 false).seq ((bH 1 abv false).seq (((bH 2 abw false).seq (rJ 0 NH.loop)).seq N7)))]:=by
  unfold ej;rw[func155];rfl
 rw[b];apply ar.B (λw=>cM);apply ar.B (λw=>fK);apply ar.I (.slice none 0 0) rfl rfl (base_kind _) (λw=>aZ) (λw=>aZ);apply ar.B (λw=>cE);apply ar.B (λw=>cM);apply ar.B (λw=>fK);apply ar.I (.slice none 0 0) rfl rfl (base_kind _) (λw=>aZ) (λw=>aZ);apply ar.B (λw=>cE);apply ar.B (λw=>cM);apply ar.B (λw=>cM);apply ar.B (λw=>fK);apply ar.I (.chan (some a)) rfl rfl (base_kind _) (λw=>aZ) (λw=>aZ);exact ar.B (λw=>cE) (ar.B (λw=>vA) (ar.B (λw=>DL) (ar.B (λw=>cM) (ar.B (λw=>fK) (.O (.mk [] j d _ _ _ _ _ _ _ _ _ _ _ _ af (.inl af) (.nA 0 0)))))))
def mV(f:Ren)(v:ag):Prop:=∀a x,f a=some x->a<v
theorem OP{S:Nat}(o:sq F S e s c cs D g f h)(q:mV j d)
  (C:∀b(v1:ag)(s0 w) (l:List bn),D=l.map bn.I->l.length<=1099511627776->j.O b->Grown d v1->mV b v1->fy v1 s0 l->av F b s0 w->(∀z E I,s0=.slice (some z) E I->d<=z.1)->ar Tryz.prog mb F Stop ⟨some (b,v1),e,s⟩ (c.finish w) cs):
  ∃G,AV Tryz.prog F g j d G∧ar Tryz.prog mb F Stop G (f.finish (.tuple #[sH,.bool false])) h:=by
 cases o with
 |mk l a5 a9 s0 w a1 a4 Y Z a0 a2 U V W X m K B=>
 rcases K with⟨rfl,rfl⟩|⟨a,A,J,rfl,L,Q,M,N,a7,a6⟩;cases B
 refine⟨⟨some (j,d),e,s⟩,⟨λb0 t r R=>⟨λb H i=>?_,t.e,t.s,λb H i y x k=>?_,t.5⟩,λn p=>?_,af⟩,
  OQ (C j d _ _ _ rfl m (Ren.I j) (λ_ _ o=>o) q (.inl af) (.nA 0 0) af)⟩
 obtain⟨rfl,rfl⟩:=i;exact r;obtain⟨rfl,rfl⟩:=i;have m:=R y x k;refine⟨?_,?_⟩;cases i:e x with
 |none=>omega
 |some T=>exact absurd (.inl (.inl (by grind))) m
 grind
 rcases p with p|⟨b,H,y,i,u⟩;exact .inl (.inl p);obtain⟨rfl,rfl⟩:=i;grind;cases B with
 |sl E a3 O=>
 rename_i n;have a8:j d.1.size=none:=by
  cases r:j d.1.size with
  |none=>rfl
  |some x=>exact absurd (q _ _ r) aa
 have P:j.O (j.T _ n):=λy x k=>by
  show(if y=d.1.size then _ else _)=_
  grind
 refine⟨_,ady O L aa (v:=d) (v1:={d with heap:=d.1.push _}) rfl,OQ (C _ _ (.slice (some ⟨d.1.size,0,none⟩) l.length A) _ _ rfl m P ?_ ?_ ?_ ?_ af)⟩;intro y T u;grind;intro y x k;rw[Array.size_push];by_cases u:y=d.1.size;omega;have:j.T _ n y=j y:=if_neg u;rw[this]at k;have:=q y x k;omega;exact .inr ⟨_,A,J,rfl,af,Q,M,N,aa,aa⟩;exact .sl (a:=⟨_,0,_⟩) _ _ (by show(if d.1.size=d.1.size then _ else _)=_;grind)
end
end
abbrev G7:aeB:={add:=149,done:=151,wait:=156,relMerge:=201,disable:=202,enable:=203,inBubble:=204,associate:=205,fatal:=206,uOr:=207,uAdd:=208,raceRead:=209,uLoad:=210,uStore:=211,disassociate:=212,semrelease:=213,acquire:=214,isAssociated:=215,uCas:=216,raceWrite:=217,semacquire:=218,orU64:=255,addU64:=256,loadU64:=257,storeU64:=258,casU64:=259,tWgP:=341,tUP:=343,tAssoc:=344,tWg:=272,tAU:=269,tU64:=110,tUint:=262,tU32:=270,tPU32:=348,tPAU:=390,tPU64:=392,tNoCopy:=265,tANoCopy:=266,tAlign64:=267}
theorem C8:aeC Tryz.prog G7:=
 ⟨func149,func151,func156,func201,func202,func203,func204,func205,func206,func207,func208,func209,func210,func211,func212,func213,func214,func215,func216,func217,func218,func255,func256,func257,func258,func259,underlying341,runUnderlying341,sizeOf341,isAgg341,zeroValue341,underlying343,runUnderlying343,sizeOf343,isAgg343,zeroValue343,underlying344,runUnderlying344,sizeOf344,isAgg344,zeroValue344,underlying272,runUnderlying272,sizeOf272,isAgg272,zeroValue272,underlying269,runUnderlying269,sizeOf269,isAgg269,zeroValue269,underlying110,runUnderlying110,sizeOf110,isAgg110,zeroValue110,underlying262,runUnderlying262,sizeOf262,isAgg262,zeroValue262,underlying270,runUnderlying270,sizeOf270,isAgg270,zeroValue270,underlying348,runUnderlying348,sizeOf348,isAgg348,zeroValue348,underlying390,runUnderlying390,sizeOf390,isAgg390,zeroValue390,underlying392,runUnderlying392,sizeOf392,isAgg392,zeroValue392,underlying0,runUnderlying0,sizeOf0,isAgg0,zeroValue0,underlying3,runUnderlying3,sizeOf3,isAgg3,zeroValue3,underlying4,runUnderlying4,sizeOf4,isAgg4,zeroValue4,underlying9,runUnderlying9,sizeOf9,isAgg9,zeroValue9,underlying20,runUnderlying20,sizeOf20,isAgg20,zeroValue20,underlying21,runUnderlying21,sizeOf21,isAgg21,zeroValue21,ah,ah⟩
section
open Go.Conc Go.ConcN Go.Conc.Lib Go.ConcR.Gen Go.ConcN.Gen
open Go.ConcR (KK wgBlock WgAt stA smA rd wr mk DC0)
section
variable(P:bj)(ty:bB)(Wg:Nat)(R:ag->ag->Prop)(AnchW Stop:cf->ag->Prop)
def KE(g:cf)(w:ag):Prop:=g.3=.running∧∃a,stepG P true g w=.go a w #[mk (.acquire (stA Wg))]∧∃m,Goes P true R DC0 Stop m a w
def EE(g:cf)(w:ag):Prop:=g.3=.running∧∃a,stepG P true g w=.go a w #[mk .enable]∧∃m,Goes P true R DC0 (KE P Wg R Stop) m a w
def KD(g:cf)(w:ag):Prop:=g.3=.running∧(WgAt ty Wg w 0 0->∃a,stepG P true g w=.go a w #[rd (stA Wg)]∧∃m,Goes P true R DC0 (EE P Wg R Stop) m a w)
def W3(g:cf)(w:ag):Prop:=
 g.3=.running∧g.5=none∧((∃st,WgAt ty Wg w st 0)->stepG P true g w=.go {g with status:=.blocked} w #[])∧
  (WgAt ty Wg w 0 1->∃a,stepG P true g w=.go a (w.setCell (smA Wg) (.int .u32 0)) (semEvents (smA Wg))∧∃m,Goes P true R DC0 (KD P ty Wg R Stop) m a (w.setCell (smA Wg) (.int .u32 0)))
def KF(g:cf)(w:ag):Prop:=g.3=.running∧∃a,stepG P true g w=.go a w #[mk (.write (smA Wg))]∧∃m,Goes P true R DC0 (W3 P ty Wg R Stop) m a w
def W2(b:Nat)(g:cf)(w:ag):Prop:=
 g.3=.running∧∀v:Nat,v<2147483648->WgAt ty Wg w (v*KK) 0->
  (v=b->∃a,stepG P true g w=.go a (w.setCell (stA Wg) (.int .u64 (v*KK+1))) #[rd (stA Wg),wr (stA Wg)]∧∃m,Goes P true R DC0 (KF P ty Wg R Stop) m a (w.setCell (stA Wg) (.int .u64 (v*KK+1))))∧
  (v≠b->∃a,stepG P true g w=.go a w #[rd (stA Wg)]∧∃m,Goes P true R DC0 AnchW m a w)
def W1(g:cf)(w:ag):Prop:=
 g.3=.running∧∀v:Nat,v<2147483648->WgAt ty Wg w (v*KK) 0->∃a,stepG P true g w=.go a w #[rd (stA Wg)]∧
  (v=0->∃m,Goes P true R DC0 (EE P Wg R Stop) m a w)∧(v≠0->∃m,Goes P true R DC0 (W2 P ty Wg R AnchW Stop v) m a w)
def ED(g:cf)(w:ag):Prop:=g.3=.running∧∃a,stepG P true g w=.go a w #[mk .disable]∧∃m,Goes P true R DC0 AnchW m a w
end
def AX(L:WgLink)(F:ag->Prop)(a:Nat)(c:az)(cs:List az)(g:cf)(w:ag):Prop:=
 ∃T,g=G ((base L.3).at ⟨T,[]⟩ [.code (L7 L),.inLoop (L7 L),.inBlock 0]) (c::cs)∧T.size=84∧T[0]?=some (.pointer (some ⟨a,0,none⟩))∧F w∧WgLive L.30 a w
section
variable{L:WgLink}{Wg:Nat}{F:ag->Prop}{R:ag->ag->Prop}{Stop:cf->ag->Prop}
 {b₀:az} {a₀:bK} {ops₀:Array bG} {i₀:Nat} {rest₀:List Nat} {k₀:List fJ} {cs:List az} {mT:Nat}
theorem ad6{P:bj}(H:WgLib P L)(a:∀ {w e},F w∧WgLive L.30 Wg w->R w e->F e∧WgLive L.30 Wg e)(o:∀w k v,k.1=Wg->F w->F (w.setCell k v))
  (p:∀w,F w->WgLive L.30 Wg w->Goes P true R DC0 Stop mT (G (b₀.at (a₀.put ((ops₀[i₀]?).bind (·.1)) (.tuple #[])) (.inRegion ops₀ rest₀::k₀)) cs) w)
  m(w:ag)(h:AX L F Wg (b₀.at a₀ (.inRegion ops₀ (i₀::rest₀)::k₀)) cs m w):
  ∃z,Goes P true R DC0 (W1 P L.30 Wg R (AX L F Wg (b₀.at a₀ (.inRegion ops₀ (i₀::rest₀)::k₀)) cs) Stop) z m w:=by
 lib_facts
 obtain⟨T,rfl,t,q,hF⟩:=h;obtain⟨O,Q,a5,b8,d0,e1,f2,g3,h4,h9,U,V,W,X,Y,Z,a0,a2,a3,a4,a6,a7,a8,a9,b0,b3,b4,b5,b6,b7,b9,ax,c2,c3,c4,aK,c6,c7,c8,c9,d1,d2,d3,d4,d5,d6,d7,d8,d9,e0,e2,e3,e4,e5,e6,e7,e8,br,f0,f1,f3,f4,f5,f6,f7,f8,f9,g0,g1,g2,g4,g5,g6,g7,g8,g9,h0,h1,h2,h3,h5,h6,h7,h8,rfl⟩:=array84 T t;simp only[List.getElem?_toArray,List.getElem?_cons_zero,vB]at q;subst q;refine⟨30,?_⟩;simp[L7,body_wait,waitFn];u_c vA a hF;u_c cM a hF;u_reg a hF;iterate 3 u_op a hF
 u_call H.13 (nm_uLoad L) uLoadFn a hF
 u_c cM a hF;u_reg a hF;u_op a hF;u_c cE a hF;u_c cM a hF;u_reg a hF;iterate 3 u_op a hF
 refine mS (λe u=>?_);replace hF:=a hF u;refine⟨rfl,λv D b=>?_⟩;rcases rC v with rfl|I
 -- none is counted:behind the join
 replace b:WgAt _ _ _ 0 0:=aV b;refine⟨_,JR (v:=0) rfl rfl (by k_ne) rfl H.24 (x_loadU64_n L) (x_loadU64_b L) (x_loadU64_x L) .u64 (x_loadU64_f L) rfl b.cellSt,λ_=>⟨50,?_⟩,λh=>absurd rfl h⟩;walk_nrm;u_op a hF;u_c cE a hF;u_c pI a hF
 u_leave1 H.13 a hF
 u_op a hF;u_c cE a hF;iterate 2
  u_c cM a hF;u_reg a hF;iterate 4 u_op a hF
  u_c cE a hF
 iterate 2 u_c cM a hF
 u_reg a hF;iterate 2 u_op a hF
 u_c cE a hF;u_cond true a hF;u_c cM a hF;u_cond true a hF;u_c cM a hF;u_reg a hF;refine mS (λB i=>?_);replace hF:=a hF i;refine⟨rfl,_,DR .enable af rfl rfl (by k_ne) rfl H.6 (x_enable_n L) (x_enable_b L) (x_enable_x L) (x_enable_f L),12,?_⟩;walk_nrm;u_c cE a hF;u_reg a hF;u_op a hF
 u_conv H.27 H.112 (WgLive.cell0 hF.2).choose_spec a hF
 refine mS (λC j=>?_);replace hF:=a hF j;refine⟨rfl,_,DT .acquire af rfl rfl (by k_ne) rfl H.17 (x_acquire_n L) (x_acquire_b L) (x_acquire_x L) (x_acquire_f L) (by simp[lH,stA]),⟨mT+20,?_⟩⟩;walk_nrm;u_c cE a hF;iterate 2 u_c cM a hF
 u_reg a hF;iterate 8 u_op a hF
 iterate 2 u_skip a hF
 u_op a hF;u_c cE a hF;u_cond false a hF;u_c qo a hF;u_c pI a hF
 u_leave0 H.3 a hF
 exact p _ hF.1 hF.2;obtain⟨S,c⟩:∃S:Int,(v:Int)*KK=S:=⟨_,rfl⟩;have a1:S/4294967296=(v:Int):=by rw[<-c];simp only[KK];omega
 have b1:bits .and .u64 S 2147483648=0:=by rw[<-c];have:=st_flag v 0 aa aa;simpa[KK]using this
 have b2:bits .and .u64 S 2147483647=0:=by rw[<-c];have:=st_waiters v 0 aa aa;simpa[KK]using this
 have c1:Re.wrap (v:Int)=(v:Int):=dT IntKind.wrap_i32;have w1:se.wrap (S+1)=S+1:=by rw[IntKind.wrap_u64,<-c];simp only[KK];omega
 have J:decide ((v:Int)<0)=false:=decide_eq_false aa;have K:decide (0<(v:Int))=true:=decide_eq_true aa;have M:((v:Int)==0)=false:=bQ;have N:decide ((v:Int)=0)=false:=decide_eq_false aa;rw[c]at b;refine⟨_,JR (v:=S) rfl rfl (by k_ne) rfl H.24 (x_loadU64_n L) (x_loadU64_b L) (x_loadU64_x L) .u64 (x_loadU64_f L) rfl b.cellSt,λs=>absurd s aa,λ_=>⟨60,?_⟩⟩;walk_nrm;u_op a hF;u_c cE a hF;u_c pI a hF
 u_leave1 H.13 a hF
 u_op a hF;u_c cE a hF;iterate 2
  u_c cM a hF;u_reg a hF;iterate 4 u_op a hF
  u_c cE a hF
 iterate 2 u_c cM a hF
 u_reg a hF;iterate 2 u_op a hF
 u_c cE a hF
 u_cnd false a hF
 u_c qo a hF;u_c cM a hF;u_reg a hF;iterate 6 u_op a hF
 u_call H.19 (nm_uCas L) uCasFn a hF
 u_c cM a hF;u_reg a hF;u_op a hF;u_c cE a hF;u_c cM a hF;u_reg a hF;iterate 5 u_op a hF
 refine mS (λr x=>?_);replace hF:=a hF x;refine⟨rfl,λA E b=>⟨λl=>?_,λl=>?_⟩⟩
 -- registered
 subst l;rw[c]at b⊢;refine⟨_,(stepG_cas_hit (v:=S) (n:=S+1) rfl rfl (by k_ne) rfl H.26 (x_casU64_n L) (x_casU64_b L) (x_casU64_x L) .u64 (x_casU64_f L) rfl rfl rfl b.cellSt (b.thaw 0)).trans bf,70,?_⟩;replace hF:F (r.setCell (stA Wg) (.int .u64 (S+1)))∧WgLive L.30 Wg (r.setCell (stA Wg) (.int .u64 (S+1))):=⟨o _ _ _ rfl hF.1,⟨_,_,b.setSt _⟩⟩;walk_nrm;u_op a hF;u_c cE a hF;u_c pI a hF
 u_leave1 H.19 a hF
 u_c cE a hF;u_cond true a hF;iterate 2 u_c cM a hF
 u_reg a hF;iterate 4 u_op a hF
 u_c cE a hF;u_cond true a hF;u_reg a hF;iterate 3 u_op a hF
 u_conv H.67 H.113 (WgLive.cell1 hF.2).choose_spec a hF
 refine mS (λf d=>?_);replace hF:=a hF d;refine⟨rfl,_,DT .write af rfl rfl (by k_ne) rfl H.20 (x_raceWrite_n L) (x_raceWrite_b L) (x_raceWrite_x L) (x_raceWrite_f L) (ad:=⟨Wg,1,none⟩) (by simp<;>rfl),40,?_⟩;walk_nrm;u_c cE a hF;u_c cM a hF;u_reg a hF;u_op a hF;u_c cE a hF;iterate 2 u_c cM a hF
 u_reg a hF;iterate 4 u_op a hF
 u_skip a hF
 u_op a hF;u_c cE a hF;u_cond false a hF;u_c qo a hF;u_c cM a hF;u_reg a hF;iterate 4 u_op a hF
 refine mS (λf d=>?_);replace hF:=a hF d;refine⟨rfl,rfl,λ⟨st,b⟩=>stepG_semacquire_wait rfl rfl rfl H.21 (x_semacquire_n L) (x_semacquire_b L) (x_semacquire_x L) (x_semacquire_f L) (by simp[lH,smA]) b.cellSm,λg=>?_⟩;refine⟨_,(stepG_semacquire (n:=1) rfl rfl (by k_ne) rfl H.21 (x_semacquire_n L) (x_semacquire_b L) (x_semacquire_x L) (x_semacquire_f L) (by simp[lH,smA]) g.cellSm (by k_ne) (g.thaw 1)).trans bf,30,?_⟩;replace hF:F (f.setCell (smA Wg) (.int .u32 0))∧WgLive L.30 Wg (f.setCell (smA Wg) (.int .u32 0)):=⟨o _ _ _ rfl hF.1,⟨_,_,g.setSm 0⟩⟩;walk_nrm;u_c cE a hF;u_c cM a hF;u_reg a hF;iterate 3 u_op a hF
 u_call H.13 (nm_uLoad L) uLoadFn a hF
 u_c cM a hF;u_reg a hF;u_op a hF;u_c cE a hF;u_c cM a hF;u_reg a hF;iterate 3 u_op a hF
 refine mS (λi0 y=>?_);replace hF:=a hF y;refine⟨rfl,λb=>⟨_,JR (v:=0) rfl rfl (by k_ne) rfl H.24 (x_loadU64_n L) (x_loadU64_b L) (x_loadU64_x L) .u64 (x_loadU64_f L) rfl b.cellSt,30,?_⟩⟩;walk_nrm;u_op a hF;u_c cE a hF;u_c pI a hF
 u_leave1 H.13 a hF
 iterate 2 u_op a hF
 u_c cE a hF;u_c cM a hF;u_cond true a hF;u_c cM a hF;u_reg a hF;refine mS (λB i=>?_);replace hF:=a hF i;refine⟨rfl,_,DR .enable af rfl rfl (by k_ne) rfl H.6 (x_enable_n L) (x_enable_b L) (x_enable_x L) (x_enable_f L),12,?_⟩;walk_nrm;u_c cE a hF;u_reg a hF;u_op a hF
 u_conv H.27 H.112 (WgLive.cell0 hF.2).choose_spec a hF
 refine mS (λC j=>?_);replace hF:=a hF j;refine⟨rfl,_,DT .acquire af rfl rfl (by k_ne) rfl H.17 (x_acquire_n L) (x_acquire_b L) (x_acquire_x L) (x_acquire_f L) (by simp[lH,stA]),⟨mT+10,?_⟩⟩;walk_nrm;u_c cE a hF;iterate 2 u_c cM a hF
 u_reg a hF;u_op a hF;u_c cE a hF;u_cond false a hF;u_c qo a hF;u_c pI a hF
 u_leave0 H.3 a hF
 exact p _ hF.1 hF.2
 -- missed:around again
 refine⟨_,stepG_cas_miss (v:=(A:Int)*KK) (old:=S) (n:=S+1) rfl rfl (by k_ne) rfl H.26 (x_casU64_n L) (x_casU64_b L) (x_casU64_x L) .u64 (x_casU64_f L) rfl rfl rfl b.cellSt (b.thaw 0) (by simp[KK];omega),20,?_⟩;walk_nrm;u_op a hF;u_c cE a hF;u_c pI a hF
 u_leave1 H.19 a hF
 u_c cE a hF;u_cond false a hF;u_c qo a hF;u_c DK a hF;u_c Ap a hF;refine mS (λf d=>?_);replace hF:=a hF d;exact⟨_,rfl,af,af,hF⟩
theorem ad7(H:WgLib q L)(a:∀ {w b},F w∧WgLive L.30 Wg w->R w b->F b∧WgLive L.30 Wg b)(w:ag)(hF:F w∧WgLive L.30 Wg w):
  Goes q true R DC0 (ED q R (AX L F Wg (b₀.at a₀ (.inRegion ops₀ (i₀::rest₀)::k₀)) cs)) 3
   (G (ej q L.3 #[Wg] .normal) (b₀.at a₀ (.inRegion ops₀ (i₀::rest₀)::k₀)::cs)) w:=by
 have e:ej q L.3 #[.pointer (some ⟨Wg,0,none⟩)] .normal=(base L.3).at ⟨#[.pointer (some ⟨Wg,0,none⟩)]++Array.replicate 83 aj,[]⟩ [.code (body_wait L)]:=by
  unfold ej;rw[H.3];rfl
 rw[e]
 lib_facts
 simp[body_wait,waitFn];u_c cM a hF;u_cond true a hF;u_reg a hF;refine mS (λb b=>?_);replace hF:=a hF b;refine⟨rfl,_,DR .disable af rfl rfl (by k_ne) rfl H.5 (x_disable_n L) (x_disable_b L) (x_disable_x L) (x_disable_f L),3,?_⟩;walk_nrm;u_c cE a hF;u_c vA a hF;u_c DL a hF;exact mS (λb b=>⟨_,rfl,af,af,a hF b⟩)
end
end
section
open Go.Conc Go.ConcN Go.Conc.Lib Go.ConcR.Gen Go.ConcN.Gen
open Go.ConcR (KK wgBlock WgAt stA smA rd wr mk DC0)
section
variable(P:bj)(ty:bB)(Wg:Nat)(R:ag->ag->Prop)(d:Nat)(Stop:cf->ag->Prop)
def IW(g:cf)(w:ag):Prop:=g.3=.running∧∃a,stepG P true g w=.go a w #[mk .enable]∧∃m,Goes P true R DC0 Stop m a w
def IX(g:cf)(w:ag):Prop:=g.3=.running∧∃a,stepG P true g w=.go a w #[mk (.read (smA Wg))]∧∃m,Goes P true R DC0 (IW P R Stop) m a w
def IV(g:cf)(w:ag):Prop:=
 g.3=.running∧(WgAt ty Wg w 0 0->∃a,stepG P true g w=.go a (w.setCell (stA Wg) (.int .u64 (d*KK))) #[rd (stA Wg),wr (stA Wg)]∧∃m,Goes P true R DC0 (IX P Wg R Stop) m a (w.setCell (stA Wg) (.int .u64 (d*KK))))
def zT(g:cf)(w:ag):Prop:=g.3=.running∧∃a,stepG P true g w=.go a w #[mk .disable]∧∃m,Goes P true R DC0 (IV P ty Wg R d Stop) m a w
end
section
variable{L:WgLink}{Wg d:Nat}{F:ag->Prop}{R:ag->ag->Prop}{Stop:cf->ag->Prop}
 {b₀:az} {a₀:bK} {ops₀:Array bG} {i₀:Nat} {rest₀:List Nat} {k₀:List fJ} {cs:List az} {mT:Nat}
theorem Xa(H:WgLib q L):ej q L.1 #[Wg,.int .i64 d] .normal=(base L.1).at ⟨#[Wg,.int .i64 d,aj,aj,aj,aj,aj,aj,aj,aj,aj,aj,aj,aj,aj,aj,aj,aj,aj,aj,aj,aj,aj,aj,aj,aj,aj,aj,aj,aj,aj,aj,aj,aj,aj,aj,aj,aj,aj,aj,aj,aj,aj,aj,aj,aj,aj,aj,aj,aj,aj,aj,aj,aj,aj,aj,aj,aj,aj,aj,aj,aj,aj,aj,aj,aj,aj,aj,aj,aj,aj,aj,aj,aj,aj,aj,aj,aj,aj,aj,aj,aj,aj,aj,aj,aj,aj,aj,aj,aj,aj,aj,aj,aj,aj,aj,aj,aj,aj,aj,aj,aj,aj,aj,aj,aj,aj,aj,aj,aj,aj,aj,aj,aj,aj,aj,aj],[]⟩ [.code<|body_add L]:=by
 unfold ej;rw[H.1];kernel_rfl
theorem SG{P:bj}(H:WgLib P L)(a:0<d)(a:d<2147483648)(a:∀ {w b},F w∧WgLive L.30 Wg w->R w b->F b∧WgLive L.30 Wg b)(f:∀w c v,c.1=Wg->F w->F (w.setCell c v))
  (g:∀w,F w->WgLive L.30 Wg w->Goes P true R DC0 Stop mT (G (b₀.at (a₀.put ((ops₀[i₀]?).bind (·.1)) (.tuple #[])) (.inRegion ops₀ rest₀::k₀)) cs) w)
  w(hF:F w∧WgLive L.30 Wg w):
  Goes P true R DC0 (zT P L.30 Wg R d Stop) 12
   (G (ej P L.1 #[Wg,.int .i64 d] .normal) (b₀.at a₀ (.inRegion ops₀ (i₀::rest₀)::k₀)::cs)) w:=by
 rw[Xa H]
 lib_facts
 have c:decide ((d:Int)<0)=false:=af;have c:=decide_eq_true aa;simp only[body_add,addFn,Option.getD_some];u_c cM a hF;u_cond true a hF;iterate 2 u_c cM a hF
 u_reg a hF;iterate 2 u_op a hF
 u_c cE a hF
 u_cnd false a hF
 u_c qo a hF;u_c cM a hF;u_reg a hF;refine mS (λb c=>?_);replace hF:=a hF c;refine⟨rfl,_,DR _ af rfl rfl (by k_ne) rfl H.5 (x_disable_n L) (x_disable_b L) (x_disable_x L) (x_disable_f L),40,?_⟩;walk_nrm;u_c cE a hF;u_reg a hF
 u_defer a hF
 u_c cE a hF;u_c cM a hF;u_reg a hF;u_op a hF;u_c cE a hF;iterate 2 u_c cM a hF
 u_reg a hF
 u_bub a hF
 u_c cE a hF;u_cond false a hF;u_c qo a hF;u_c cM a hF;u_reg a hF;iterate 6 u_op a hF
 u_call H.11 (nm_uAdd L) uAddFn a hF
 u_c cM a hF;u_reg a hF;u_op a hF;u_c cE a hF;u_c cM a hF;u_reg a hF;iterate 4 u_op a hF
 refine mS (λb c=>?_);replace hF:=a hF c;refine⟨rfl,λe=>?_⟩;obtain⟨S,c⟩:∃S:Int,(d:Int)*KK=S:=⟨_,rfl⟩;have a1:S/4294967296=(d:Int):=by rw[<-c];simp only[KK];omega
 have b1:bits .and .u64 S 2147483648=0:=by rw[<-c];have:=st_flag d 0 aa aa;simpa[KK]using this
 have b2:bits .and .u64 S 2147483647=0:=by rw[<-c];have:=st_waiters d 0 aa aa;simpa[KK]using this
 have c1:Re.wrap (d:Int)=(d:Int):=dT IntKind.wrap_i32;have w1:se.wrap (0+S)=S:=by rw[IntKind.wrap_u64,<-c];simp only[KK];omega
 have h:(d:Int) % 18446744073709551616*4294967296 % 18446744073709551616=S:=by rw[<-c];simp only[KK];omega
 rw[c,h];refine⟨_,(stepG_add_atomic rfl rfl (by k_ne) rfl H.23 (x_addU64_n L) (x_addU64_b L) (x_addU64_x L) _ (x_addU64_f L) rfl rfl e.cellSt (e.thaw 0)).trans (dh w1),80,?_⟩;replace hF:F (b.setCell (stA _) (.int .u64 S))∧WgLive _ _ (b.setCell _ (.int _ S)):=⟨f _ _ _ rfl hF.1,⟨_,_,e.setSt _⟩⟩;walk_nrm;u_op a hF;u_c cE a hF;u_c pI a hF
 u_leave1 H.11 a hF
 u_op a hF;u_c cE a hF;iterate 2 u_c cM a hF
 u_reg a hF;iterate 4 u_op a hF
 iterate 2 u_skip a hF
 u_op a hF;u_c cE a hF;u_cond false a hF;u_c qo a hF;iterate 2
  u_c cM a hF;u_reg a hF;iterate 4 u_op a hF
  u_c cE a hF
 iterate 2 u_c cM a hF
 u_reg a hF;iterate 10 u_op a hF
 u_c cE a hF;u_cond true a hF;u_reg a hF;iterate 3 u_op a hF
 u_conv H.67 H.113 (WgLive.cell1 hF.2).choose_spec a hF
 refine mS (λb b=>?_);replace hF:=a hF b;refine⟨rfl,_,DT .read af rfl rfl (by k_ne) rfl H.12 (x_raceRead_n L) (x_raceRead_b L) (x_raceRead_x L) (x_raceRead_f L) (ad:=⟨Wg,1,none⟩) (by simp[lH]),60,?_⟩;walk_nrm;u_c cE a hF;iterate 2 u_c cM a hF
 u_reg a hF;iterate 2 u_op a hF
 u_c cE a hF
 u_cnd false a hF
 u_c qo a hF;iterate 2 u_c cM a hF
 u_reg a hF;iterate 3 u_op a hF
 iterate 2 u_skip a hF
 iterate 2 u_op a hF
 iterate 4 u_skip a hF
 u_op a hF;u_c cE a hF;u_cond false a hF;u_c qo a hF;iterate 2 u_c cM a hF
 u_reg a hF;iterate 3 u_op a hF
 iterate 2 u_skip a hF
 u_op a hF;u_c cE a hF;u_cond true a hF;u_c pI a hF;refine mS (λb b=>?_);replace hF:=a hF b;clear b;refine⟨rfl,_,stepG_unwind_entry (v:=.tuple #[]) (evs:= #[mk .enable]) rfl H.6 (x_enable_n L) (x_enable_b L) (x_enable_x L) (x_enable_f L) (by simp[aeD]) (by simp[mk]) (by simp[mk]),mT+1,?_⟩
 u_leave0 H.1 a hF
 exact g _ hF.1 hF.2
end
end
section
open Go.Conc
open Go.ConcN (upd upd_same upd_ne sumTo WD CTag WSit RW DWs AtR0 WgLive ShN RelBy Has)
open Go.ConcR (KK WgAt stA smA rd wr mk DC0 Bk)
def vt:Nat->Loc->Prop:=λ_ _=>False
structure dn where
 P:bj
 F:bw->Bool
 n:Nat
 ty:bB
 wg:Nat
 z:aq
 Pre:Nat->List aq->Ren->ag->Prop
 kj:Nat->aq->Prop
 A:Nat->Nat->Nat->List aq->aG->az->List az->Prop
 AM:Nat->List aq->aG->az->List az->Prop
 Fin:aG->az->List az->Prop
def cn(P:bj)(F:bw->Bool)(r:aG)(ty:bB)(wg:Nat)(w a:ag):Prop:=(r.Fits P F w->r.Fits P F a)∧(WgLive ty wg w->WgLive ty wg a)
section
variable(X:dn)
def tW(r:aG)(fr:az)(cs:List az):Prop:=
 ∃(a:bB)(C:Nat)(x:aq)(N:Nat),r.1=none∧r.e C=some (.cells #[x] a)∧
  ∀w,r.Fits X.P X.F w->WgLive X.4 X.5 w->Goes X.P false (@RW ⟨a⟩ X.4 X.5 C 1 0 0) DC0 (@AtR0 ⟨a⟩ X.P X.4 X.5 C 1 0 1 x) N (G fr cs) w
structure qB(r:aG)(d:WD)(g:cf)(w:ag):Prop where
 it:∃(ety:bB)(C:Nat)(x:aq),r.1=none∧r.e C=some (.cells #[x] ety)∧
  ((d.1=7∧d.3=0∧Goes X.P false (@RW ⟨ety⟩ X.4 X.5 C 1 0 0) DC0 (@AtR0 ⟨ety⟩ X.P X.4 X.5 C 1 0 1 x) d.2 g w)∨(d.1<=6∧ @WSit ⟨ety⟩ X.P X.4 X.5 C 1 vt vt 0 1 x d.1 d.2 d.3 g w))
abbrev su(i b:Nat):aG->az->List az->Prop:=EA X.P X.F (λ_=>b) X.7 X.kj (λ_=>tW X) i
abbrev xK(i b:Nat)(c a:List aq):aG->az->List az->Prop:=Sends X.P X.F (λ_=>b) X.7 X.kj (λ_=>tW X) i c a
inductive fB(i a b:Nat)(bA out:cx)(r:aG)(w:ag):cf->WD->aU->Prop
 |recv {g:cf} {fr:az} {cs:List az} {t:cZ} (hi:0<i) (hg:jT g fr cs) (h:Walk X.P false X.F (X.A i a b (bA.1.take bA.2)) t r fr cs) (ho:out.1= []∧out.3=false)
   (hp:bA.3=true->∃f v,bA.5=some (f,v)∧X.7 (i- 1) bA.1 f v):fB i a b bA out r w g ⟨7,0,0⟩ (12,2*(bA.1.length- bA.2)+1,t)
 |eV {fr:az} {cs:List az} (hi:0<i) (h:X.A i a b (bA.1.take bA.2) r fr cs) (he:bA.2=bA.1.length∧bA.3=false) (ho:out.1= []∧out.3=false):
   fB i a b bA out r w (parked (G fr cs) #[rcase a X.z] (.recv true)) ⟨7,0,0⟩ (12,0,.leaf)
 |work {g:cf} {fr:az} {cs:List az} {t:cZ} (hg:jT g fr cs) (h:Walk X.P false X.F (su X i b) t r fr cs) (ho:out.1= []∧out.3=false):fB i a b bA out r w g ⟨7,0,0⟩ (11,0,t)
 |send {g:cf} {fr:az} {cs:List az} {t:cZ} {rest:List aq} (hg:jT g fr cs) (h:Walk X.P false X.F (xK X i b (out.1++rest) rest) t r fr cs) (ho:out.3=false):fB i a b bA out r w g ⟨7,0,0⟩ (10,2*rest.length+1,t)
 |iE {fr:az} {cs:List az} {x zz:aq} {rest:List aq} (hx:X.kj out.1.length x) (h:ar X.P false X.F (xK X i b (out.1++x::rest) rest) r (fr.finish aj) cs) (ho:out.3=false) (hf:room<=out.1.length- out.2):
   fB i a b bA out r w (parked (G fr cs) #[scase b x zz] .send) ⟨7,0,0⟩ (10,2*rest.length+2,.leaf)
 |shut {fr:az} {cs:List az} {t:cZ} (h:Walk X.P false X.F (tW X) t r fr cs) (ho:out.3=true):fB i a b bA out r w (G fr cs) ⟨7,0,0⟩ (9,0,t)
 |tail {g:cf} {d:WD} (h:qB X r d g w) (ho:out.3=true):fB i a b bA out r w g d (d.1,d.2,.leaf)
def cZ.B:Nat->cZ
 |0=>.leaf
 |k+1=>.node λ_=>cZ.B k
theorem cZ.I(k):cZ.vq (cZ.B k)<|cZ.B<|k+1:=.child (λ_=>cZ.B k) default
def fD:cx:=⟨[],0,false,false,none⟩
structure En(r:aG)(b:Nat)(rc rm:aG):Prop where
 chan:r.e b=some fD.B
 fits:∀w,r.Fits X.P X.F w->rc.Fits X.P X.F w∧rm.Fits X.P X.F w
 afg:∀x,rc.B x->r.B x∧x≠b∧¬rm.O x
 afh:∀x,rm.B x->r.B x∧x≠b∧¬rc.O x
 sC:∀x,rc.s x≠none->r.O x∧x≠b
 afp:∀x,rm.s x≠none->r.O x∧x≠b
def m_:Nat->Nat->(Nat->Nat)->aG->az->List az->Prop
 |0,_,k,r,fr,cs=>X.AM (k X.n) [] r fr cs
 |q+1,j,k,r,fr,cs=>∃(b:Nat)(d:az)(c:List az)(a:az)(rc e:aG),
   (∀w,r.Fits X.P X.F w->stepG X.P true (G fr cs) w=.spawn (G d c) (G a []) w #[])∧En X r b rc e∧
   (j=0->ar X.P false X.F (su X 0 b) rc a [])∧(0<j->ar X.P false X.F (X.A j (k (j- 1)) b []) rc a [])∧
   ar X.P true X.F (λr fr cs=>m_ q (j+1) (upd k j b) r fr cs) e d c
def jr(r:aG)(g:cf)(_:ag):Prop:=∃fr cs,g=G fr cs∧X.11 r fr cs
def xL(r:aG)(fr:az)(cs:List az):Prop:=
 ¬r.O X.5->∃(a:cf->ag->Prop)(N:Nat),(∀w,r.Fits X.P X.F w->WgLive X.4 X.5 w->Goes X.P true (cn X.P X.F r X.4 X.5) DC0 (ED X.P (cn X.P X.F r X.4 X.5) a) N (G fr cs) w)∧
  ∀g w,a g w->g.3=.running∧∃m,Goes X.P true (cn X.P X.F r X.4 X.5) DC0 (W1 X.P X.4 X.5 (cn X.P X.F r X.4 X.5) a (jr X r)) m g w
def rP(r:aG)(g:cf)(_:ag):Prop:=∃fr cs,g=G fr cs∧∃k,ar X.P true X.F (m_ X (X.n+1) 0 k) r fr cs
def xp(r:aG)(fr:az)(cs:List az):Prop:=
 ¬r.O X.5->∃N,∀w,r.Fits X.P X.F w->WgLive X.4 X.5 w->Goes X.P true (cn X.P X.F r X.4 X.5) DC0 (zT X.P X.4 X.5 (cn X.P X.F r X.4 X.5) (X.n+1) (rP X r)) N (G fr cs) w
inductive ja(v:Nat)(r:aG)(w:ag)(Anch:cf->ag->Prop):cf->CTag->Nat->Nat×Nat->Prop
 |kd {g:cf} {N:Nat} (h:Goes X.P true (cn X.P X.F r X.4 X.5) DC0 (ED X.P (cn X.P X.F r X.4 X.5) Anch) N g w):ja v r w Anch g .kd 0 (8*X.n+30,N)
 |anch {g:cf} {N:Nat} (h:Goes X.P true (cn X.P X.F r X.4 X.5) DC0 Anch N g w):ja v r w Anch g .anch 1 (8*v+6,N)
 |w1 {g:cf} {N:Nat} (h:Goes X.P true (cn X.P X.F r X.4 X.5) DC0 (W1 X.P X.4 X.5 (cn X.P X.F r X.4 X.5) Anch (jr X r)) N g w):ja v r w Anch g .w1 1 (8*v+5,N)
 |w2 {g:cf} {N vs:Nat} (h:Goes X.P true (cn X.P X.F r X.4 X.5) DC0 (W2 X.P X.4 X.5 (cn X.P X.F r X.4 X.5) Anch (jr X r) vs) N g w):ja v r w Anch g (.w2 vs) 1 (8*vs+4,N)
 |said {g:cf} {N:Nat} (h:Goes X.P true (cn X.P X.F r X.4 X.5) DC0 (KF X.P X.4 X.5 (cn X.P X.F r X.4 X.5) (jr X r)) N g w):ja v r w Anch g .w3 1 (7,N)
 |w3 {g:cf} {N:Nat} (h:Goes X.P true (cn X.P X.F r X.4 X.5) DC0 (W3 X.P X.4 X.5 (cn X.P X.F r X.4 X.5) (jr X r)) N g w):ja v r w Anch g .w3 1 (6,N)
 |blk {g:cf} (h:∀w₁,cn X.P X.F r X.4 X.5 w w₁->W3 X.P X.4 X.5 (cn X.P X.F r X.4 X.5) (jr X r) g w₁):ja v r w Anch {g with status:=.blocked} .blk 1 (5,0)
 |w4 {g:cf} {N:Nat} (h:Goes X.P true (cn X.P X.F r X.4 X.5) DC0 (KD X.P X.4 X.5 (cn X.P X.F r X.4 X.5) (jr X r)) N g w):ja v r w Anch g .w4 1 (4,N)
 |ke {g:cf} {N:Nat} (h:Goes X.P true (cn X.P X.F r X.4 X.5) DC0 (EE X.P X.5 (cn X.P X.F r X.4 X.5) (jr X r)) N g w):ja v r w Anch g .ke 1 (3,N)
 |acq {g:cf} {N:Nat} (h:Goes X.P true (cn X.P X.F r X.4 X.5) DC0 (KE X.P X.5 (cn X.P X.F r X.4 X.5) (jr X r)) N g w):ja v r w Anch g .acq 0 (2,N)
 |fin {g:cf} {N:Nat} (h:Goes X.P true (cn X.P X.F r X.4 X.5) DC0 (jr X r) N g w):ja v r w Anch g .ret 0 (1,N)
inductive dM(j v:Nat)(k:Nat->Nat)(bA:cx)(r:aG)(w:ag):cf->CTag->Bool->Nat->aU->aU->Prop
 |pre {fr:az} {cs:List az} {t:cZ} (hj:j=0) (h:Walk X.P true X.F (xp X) t r fr cs):dM j v k bA r w (G fr cs) .kd false 0 (2,9,t) (0,0,.leaf)
 |a1 {g:cf} {N:Nat} (hj:j=0) (h:Goes X.P true (cn X.P X.F r X.4 X.5) DC0 (zT X.P X.4 X.5 (cn X.P X.F r X.4 X.5) (X.n+1) (rP X r)) N g w):dM j v k bA r w g .kd false 0 (2,8,.B N) (0,0,.leaf)
 |a2 {g:cf} {N:Nat} (hj:j=0) (h:Goes X.P true (cn X.P X.F r X.4 X.5) DC0 (IV X.P X.4 X.5 (cn X.P X.F r X.4 X.5) (X.n+1) (rP X r)) N g w):dM j v k bA r w g .kd false 1 (2,7,.B N) (0,0,.leaf)
 |a3 {g:cf} {N:Nat} (hj:j=0) (h:Goes X.P true (cn X.P X.F r X.4 X.5) DC0 (IX X.P X.5 (cn X.P X.F r X.4 X.5) (rP X r)) N g w):dM j v k bA r w g .kd true 1 (2,6,.B N) (0,0,.leaf)
 |a4 {g:cf} {N:Nat} (hj:j=0) (h:Goes X.P true (cn X.P X.F r X.4 X.5) DC0 (IW X.P (cn X.P X.F r X.4 X.5) (rP X r)) N g w):dM j v k bA r w g .kd true 1 (2,5,.B N) (0,0,.leaf)
 |a5 {g:cf} {N:Nat} (hj:j=0) (h:Goes X.P true (cn X.P X.F r X.4 X.5) DC0 (rP X r) N g w):dM j v k bA r w g .kd true 0 (2,4,.B N) (0,0,.leaf)
 |spawn {g:cf} {fr:az} {cs:List az} {t:cZ} {q:Nat} (hq:j+(q+1)=X.n+1) (hg:jT g fr cs) (h:Walk X.P true X.F (m_ X (q+1) j k) t r fr cs):dM j v k bA r w g .kd true 0 (1,q+1,t) (0,0,.leaf)
 |recv {g:cf} {fr:az} {cs:List az} {t:cZ} (hj:j=X.n+1) (hg:jT g fr cs) (h:Walk X.P true X.F (X.AM (k X.n) (bA.1.take bA.2)) t r fr cs)
   (hp:bA.3=true->∃f v,bA.5=some (f,v)∧X.7 X.n bA.1 f v):dM j v k bA r w g .kd true 0 (0,0,.leaf) (12,2*(bA.1.length- bA.2)+1,t)
 |eV {fr:az} {cs:List az} (hj:j=X.n+1) (h:X.AM (k X.n) (bA.1.take bA.2) r fr cs) (he:bA.2=bA.1.length∧bA.3=false):
   dM j v k bA r w (parked (G fr cs) #[rcase (k X.n) X.z] (.recv true)) .kd true 0 (0,0,.leaf) (12,0,.leaf)
 |post {fr:az} {cs:List az} {t:cZ} (hj:j=X.n+1) (h:Walk X.P true X.F (xL X) t r fr cs):dM j v k bA r w (G fr cs) .kd true 0 (0,0,.leaf) (11,0,t)
 |wait {g:cf} {tag:CTag} {dd:Nat} {μ:Nat×Nat} (Anch:cf->ag->Prop) (hj:j=X.n+1)
   (hA:∀g w,Anch g w->g.3=.running∧∃m,Goes X.P true (cn X.P X.F r X.4 X.5) DC0 (W1 X.P X.4 X.5 (cn X.P X.F r X.4 X.5) Anch (jr X r)) m g w)
   (h:ja X v r w Anch g tag dd μ):dM j v k bA r w g tag true dd (0,0,.leaf) (2,μ.1,.B μ.2)
def AcqAll(m n wg:Nat)(t:ez):Prop:=
 ∃q,t.act? q=some (.mark (.acquire (stA wg)))∧t.g? q=some 0∧t.heard q∧∀i,i<n+1->∃r,RelBy (stA wg) t (m+i) r∧r<q
def gid(m n i:Nat):Nat:=if i<=n then m+i else 0
def bA(c:dx)(i:Nat):cx:=(c.2 (i- 1)).getD fD
def aQ(c:dx)(i:Nat):cx:=(c.2 i).getD fD
structure jc where
 m:Nat
 tape:Nat->Question->Nat
 os:Os
 output:Array (Nat×ByteArray)
structure dN where
 c:dx
 k:Nat->Nat
 j:Nat
 D:Nat->WD
 q:Nat->Nat
 tag:CTag
 added:Bool
 dd:Nat
 μ:Nat->aU
 μs:aU
 μr:aU
def ik(S:dN)(c:Nat):aU:=if c+1<=X.n then S.μ (c+1)else S.μr
structure bo(W:jc)(S:dN)(gs:Array cf)(w:ag)(t:ez):Prop where
 m0:0<W.m
 size:gs.size=W.m+S.j
 FU:S.j<=X.n+1
 main:∃a,gs[0]?=some a∧dM X S.j (pJ (X.n+1) S.D) S.k (bA S.c (X.n+1)) (S.c.r (X.n+1)) w a S.6 S.7 S.8 S.μs S.μr
 old:∀i g,0<i->i<W.m->gs[i]?=some g->H6 X.P (S.q i) (jN t i) g
 wk:∀i,i<S.j->∃g,gs[W.m+i]?=some g∧fB X i (S.k (i- 1)) (S.k i) (bA S.c i) (aQ S.c i) (S.c.r i) w g (S.D i) (S.μ i)
 off:∀i,S.j<=i->i≠X.n+1->(∀b,¬(S.c.r i).O b)∧(S.c.r i).1=none
 stage:∀i,S.j<=i->S.D i=⟨7,0,0⟩
 E8:∀i,S.c.2 i≠none↔i<S.j
 yq:fX X.P X.F S.k X.5 S.c w
 told:Told (gid W.m X.n) S.c w t
 handed:Handed S.k S.c t
 xW:∀i,i<S.j->mi t (W.m+i) (S.k i)
 items:∀i,i<S.j->∀p x,(aQ S.c i).1[p]?=some x->X.kj p x
 G6:∀i,i+1=S.j->S.j<=X.n->(aQ S.c i).2=0∧((aQ S.c i).3=true->∃f v,(aQ S.c i).5=some (f,v)∧X.7 i (aQ S.c i).1 f v)
 Cx:∀c,c<S.j->(c+1<S.j∨c=X.n)->(aQ S.c c).3=false->(ik X S c).1=12
 quiet:Quiet (ShN X.5) t
 norel:∀op∈t,∀a,op.4≠ .mark (.release a)
 low:∀op∈t,op.4.low w.1.size
 gs:∀op∈t,op.g<W.m+S.j
 d0:jN t 0=S.8
 lM:∀i,i<S.j->jN t (W.m+i)=(S.D i).3
 rel:∀i,i<S.j->(S.D i).1<=6->∃r,RelBy (stA X.5) t (W.m+i) r
 over:∀x g,t.g? x=some g->g≠0->g<W.m->t.counts x->∃y,t.g? y=some 0∧Rf t x y
 acq:S.6=.ret->AcqAll W.m X.n X.5 t
 zh:∃st sm,WgAt X.4 X.5 w st sm∧((S.7=false∧st=0∧sm=0)∨(S.7=true∧oF (X.n+1) S.D S.6 st sm))
 tape:w.2=W.2
 os:w.4=W.3
 output:w.5=W.4
def dN.I(S:dN)(m n:Nat):Nat->aU
 |0=>(0,sumTo m S.q,.leaf)
 |1=>S.μs
 |x+2=>if x<=n then S.μ x else S.μr
def dN.B(S:dN)(m n:Nat):Row (n+4):=wJ (S.I m n) (n+4) 0
structure dn.Ok:Prop where
 abR:∀i a b,0<i->i<=X.n->Recvs X.P X.F (λ_=>a) X.7 X.kj false (i- 1) X.z (X.A i a b) (su X i b)
 abQ:∀a,Recvs X.P X.F (λ_=>a) X.7 X.kj true X.n X.z (X.AM a) (xL X)
 small:X.n+1<2147483647
end
end
section
open Go.Conc
open Go.ConcN (upd upd_same upd_ne sumTo WD CTag WSit RW RW.trans RW.refl DWs AtR0 WgLive ShN RelBy Has)
open Go.ConcR (KK WgAt stA smA rd wr mk DC0 Bk)
theorem cn.B w:cn q A g C a w w:=⟨id,id⟩
theorem cn.I{P:bj}{F:bw->Bool}{r:aG}{ty:bB}{wg:Nat}(a b c:ag)(h:cn P F r ty wg a b)(d:cn P F r ty wg b c):cn P F r ty wg a c:=⟨d.1 ∘ h.1,d.2 ∘ h.2⟩
section
variable{X:dn}{r:aG}{w w':ag}
theorem L8(b:r.Fits q A w)(h:r.e a=some (.cells #[c] C)):w.1[a]?=some (.cells #[c] C)∧w.cell? ⟨a,0,none⟩=some c:=by
 have:=b.e _ _ h;exact⟨this,by simp[gK,this]⟩
theorem O3(h:r.e a=some (.cells #[c] C))(d:r.Fits X.P X.F w)(f:r.Fits X.P X.F w')(g:WgLive X.4 X.5 w->WgLive X.4 X.5 w'): @RW ⟨C⟩ X.4 X.5 a 1 0 0 w w':=by
 obtain⟨b,b⟩:=L8 d h;obtain⟨d,e⟩:=L8 f h;refine @RW.mk ⟨C⟩ _ _ _ _ _ _ _ _ aa g (λ_=>⟨_,d,rfl⟩)<|e.trans b.symm
variable{z:WD}
theorem qB.I(h:qB X r z b w)(d:r.Fits X.P X.F w)(e:r.Fits X.P X.F w')(f:WgLive X.4 X.5 w->WgLive X.4 X.5 w'):qB X r z b w':=by
 obtain⟨a,C,x,g,c,i⟩:=h;refine⟨a,C,x,g,c,?_⟩;obtain⟨a1,a2,a3⟩|⟨a1,a2⟩:=i;exact .inl ⟨a1,a2,kS (R:= @RW ⟨a⟩ _ _ C 1 0 0) (λg h i p q=> @RW.trans ⟨a⟩ _ _ _ _ _ _ g h i p q) a3<|O3 c d e f⟩;exact .inr ⟨a1,@WSit.rely ⟨a⟩ _ _ _ _ _ _ _ _ _ _ _ _ _ _ _ _ a2<|O3 c d e f⟩
theorem qB.B(h:qB X r z b w):b.3=.running∨b.3=.finished:=by
 obtain⟨a,C,x,_,_,c⟩:=h;obtain⟨_,_,a3⟩|⟨_,a2⟩:=c;exact .inl<|rD (λ_ _ x=>x.1) w (@RW.refl ⟨a⟩ _ _ _ _ _ _ w) a3;exact @WSit.status ⟨a⟩ _ _ _ _ _ _ _ _ _ _ _ _ _ _ _ a2
theorem tv{P:bj}{g g' o:cf}(h:o.again d=o):woken P g g' d o=o:=by
 unfold woken;grind
theorem EK{a c s q:Nat}(f:e3.1=.chan (some a))(e:d.1[a]?=some (.chan c t false s q o)):(parked b #[e3] f1).again d=parked b #[e3] f1:=by
 simp[JS,parked,f,e]
theorem SI{a cap s q:Nat}{buf:Array aq}{tm:Bool}(e:e3.1=.chan (some a))(c:d.1[a]?=some (.chan cap buf true s q tm)):(parked b #[e3] f1).again d={parked b #[e3] f1 with status:=.running}:=by
 simp[JS,parked,e,c]
theorem fB.B{i a f:Nat}(h:fB X i a f b7 y r w b z k)(l:r.Fits X.P X.F w)(m:r.Fits X.P X.F w')(n:WgLive X.4 X.5 w->WgLive X.4 X.5 w')
  (j:(∃fr cs,b=parked (G fr cs) #[rcase a X.z] (.recv true))->0<i->w'.1[a]?=some b7.B)(e:w'.1[f]?=some y.B∨y.3=true∨∀fr cs v c,b≠parked (G fr cs) #[scase f v c] .send)(c d:cf):fB X i a f b7 y r w' (woken X.P c d w' b) z k:=by
 have run:∀ {fr cs},jT b fr cs->woken X.P c d w' b=b:=λd=>tv<|DU _<|.inl d.2.2.1;cases h with
 |recv g d h c i=>rw[run d];exact .recv g d h c i
 |eV g h i c=>
  rw[tv<|EK (a:=a) rfl (by rw[j ⟨_,_,rfl⟩ g];unfold cx.B;rw[i.2])];exact .eV g h i c
 |work d h c=>rw[run d];exact .work d h c
 |send d h c=>rw[run d];exact .send d h c
 |iE g h c d=>
  obtain e|e|e:=e;rw[tv<|EK (a:=f) rfl (by rw[e];unfold cx.B;rw[c])];exact .iE g h c d;rw[c]at e;cases e;exact absurd rfl<|e _ _ _ _
 |shut h c=>rw[run<|kD _ _];exact .shut h c
 |tail h c=>
  rw[tv<|DU _ h.B];exact .tail (h.I l m n) c
theorem fB.T(h:fB X a e n y b7 r w b z k):awake b:=by
 intro tm;cases h with
 |recv f d h c g=>rw[d.2.2.1];simp
 |eV f h f c=>simp[parked]
 |work d h c=>rw[d.2.2.1];simp
 |send d h c=>rw[d.2.2.1];simp
 |iE d h c d=>simp[parked]
 |shut h c=>simp[G]
 |tail h c=>rcases h.B with h|h<;>rw[h]<;>simp
theorem ja.B{v:Nat}(c:∀b w,R b w->b.3=.running){tag:CTag}{d:Nat×Nat}(h:ja X v r w R b tag a d):
  (b.3=.running∧tag≠ .blk)∨(b.3=.blocked∧tag=.blk):=by
 cases h with
 |kd h=>exact .inl ⟨rD (λ_ _ x=>x.1) w (.B w) h,af⟩
 |anch h=>exact .inl ⟨rD c w (.B w) h,af⟩
 |w1 h=>exact .inl ⟨rD (λ_ _ x=>x.1) w (.B w) h,af⟩
 |w2 h=>exact .inl ⟨rD (λ_ _ x=>x.1) w (.B w) h,af⟩
 |said h=>exact .inl ⟨rD (λ_ _ x=>x.1) w (.B w) h,af⟩
 |w3 h=>exact .inl ⟨rD (λ_ _ x=>x.1) w (.B w) h,af⟩
 |blk h=>grind
 |w4 h=>exact .inl ⟨rD (λ_ _ x=>x.1) w (.B w) h,af⟩
 |ke h=>exact .inl ⟨rD (λ_ _ x=>x.1) w (.B w) h,af⟩
 |acq h=>exact .inl ⟨rD (λ_ _ x=>x.1) w (.B w) h,af⟩
 |fin h=>exact .inl ⟨rD (λ_ _ x=>by obtain⟨_,_,rfl,_⟩:=x;rfl) w (.B w) h,af⟩
theorem ja.I(d){tag:CTag}(h:ja X a r w R b tag e x)(c:cn X.P X.F r X.4 X.5 w w'):∃f,ja X d r w' R b tag e f∧(d=a->f=x):=by
 have d:=λf g i=>cn.I (P:=X.P) (F:=X.F) (r:=r) (ty:=X.4) (wg:=X.5) f g i;cases h with
 |kd h=>exact⟨_,.kd<|kS d h c,af⟩
 |anch h=>exact⟨_,.anch<|kS d h c,λf=>fN f⟩
 |w1 h=>exact⟨_,.w1<|kS d h c,λf=>fN f⟩
 |w2 h=>exact⟨_,.w2<|kS d h c,af⟩
 |said h=>exact⟨_,.said<|kS d h c,af⟩
 |w3 h=>exact⟨_,.w3<|kS d h c,af⟩
 |blk h=>exact⟨_,.blk λf f=>h _<|d _ _ _ c f,af⟩
 |w4 h=>exact⟨_,.w4<|kS d h c,af⟩
 |ke h=>exact⟨_,.ke<|kS d h c,af⟩
 |acq h=>exact⟨_,.acq<|kS d h c,af⟩
 |fin h=>exact⟨_,.fin<|kS d h c,af⟩
theorem pO{c:ag->ag->Prop}{D:ag->ag->Array gY->Prop}(d:∀w,c w w)(e:∀b w,R b w->b.3=.running)(h:Goes q o c D R a b w):b.3=.running:=
 rD e w (d w) h
theorem dM.B{j v:Nat}{k:Nat->Nat}{tag:CTag}{ad:Bool}{d c:aU}(h:dM X j v k y r w b tag ad a d c):
  b.3=.running∨(b.3=.blocked∧(tag=.blk∨∃fr cs,b=parked (G fr cs) #[rcase (k X.n) X.z] (.recv true)∧j=X.n+1∧y.2=y.1∧y.3=false)):=by
 cases h with
 |pre _ _=>exact .inl rfl
 |a1 _ h=>exact .inl<|pO cn.B (λ_ _ x=>x.1) h
 |a2 _ h=>exact .inl<|pO cn.B (λ_ _ x=>x.1) h
 |a3 _ h=>exact .inl<|pO cn.B (λ_ _ x=>x.1) h
 |a4 _ h=>exact .inl<|pO cn.B (λ_ _ x=>x.1) h
 |a5 _ h=>exact .inl<|pO cn.B (λ_ _ x=>by obtain⟨_,_,rfl,_⟩:=x;rfl) h
 |spawn _ c _=>exact .inl c.2.2.1
 |recv _ c _ _=>exact .inl c.2.2.1
 |eV c h d=>exact .inr ⟨rfl,.inr ⟨_,_,rfl,c,d⟩⟩
 |post _ _=>exact .inl rfl
 |wait d c c h=>exact(h.B λb w h=>(c b w h).1).imp (λh=>h.1) λh=>⟨h.1,.inl h.2⟩
theorem dM.I{t O:Nat}(A){tag:CTag}(h:dM X t O W y r w b tag o e k J)(H:r.Fits X.P X.F w')(I:WgLive X.4 X.5 w->WgLive X.4 X.5 w')
  (E:(∃fr cs,b=parked (G fr cs) #[rcase (W X.n) X.z] (.recv true))->t=X.n+1->w'.1[W X.n]?=some y.B)(g d:cf):
  ∃n B,dM X t A W y r w' (woken X.P g d w' b) n o e k B∧(n=tag∨(tag=.blk∧n=.w3))∧(mayWake X.P g=true->d.3=.running->n≠ .blk)∧B.1=J.1:=by
 have run:b.3=.running->woken X.P g d w' b=b:=λf=>tv<|DU _<|.inl f;have i:cn _ _ r _ _ w _:=⟨λ_=>H,I⟩;have j:=λa C D=>cn.I (P:=X.P) (F:=X.F) (r:=r) (ty:=X.4) (wg:=X.5) a C D;cases h with
 |pre c h=>rw[run rfl];exact⟨_,_,.pre c h,af,af,rfl⟩
 |a1 c h=>rw[run<|pO cn.B (λ_ _ x=>x.1) h];exact⟨_,_,.a1 c<|kS j h i,af,af,rfl⟩
 |a2 c h=>rw[run<|pO cn.B (λ_ _ x=>x.1) h];exact⟨_,_,.a2 c<|kS j h i,af,af,rfl⟩
 |a3 c h=>rw[run<|pO cn.B (λ_ _ x=>x.1) h];exact⟨_,_,.a3 c<|kS j h i,af,af,rfl⟩
 |a4 c h=>rw[run<|pO cn.B (λ_ _ x=>x.1) h];exact⟨_,_,.a4 c<|kS j h i,af,af,rfl⟩
 |a5 c h=>rw[run<|pO cn.B (λ_ _ x=>by obtain⟨_,_,rfl,_⟩:=x;rfl) h];exact⟨_,_,.a5 c<|kS j h i,af,af,rfl⟩
 |spawn M f h=>rw[run f.2.2.1];exact⟨_,_,.spawn M f h,af,af,rfl⟩
 |recv c f h L=>rw[run f.2.2.1];exact⟨_,_,.recv c f h L,af,af,rfl⟩
 |eV c h v=>
  rw[tv<|EK (a:=W _) rfl (by rw[E ⟨_,_,rfl⟩ c];unfold cx.B;rw[v.2])];exact⟨_,_,.eV c h v,af,af,rfl⟩
 |post c h=>rw[run rfl];exact⟨_,_,.post c h,af,af,rfl⟩
 |wait Q c m h=>
  obtain⟨T,p,_⟩:=h.I A i;obtain⟨z,K⟩|⟨z,rfl⟩:=p.B λb w h=>(m b w h).1;rw[run z];exact⟨_,_,.wait _ c m p,af,λ_ _=>K,rfl⟩;cases p with
  |blk q=>
   rename_i l _;have u:=q _<|.B _;by_cases s:(mayWake X.P g&&d.3 !=.blocked&&d.3 !=.waiting)=true;have:woken X.P g d w' {l with status:=.blocked}=l:=by
    unfold woken;rw[if_pos s];exact Go.ConcR.again_blocked u.1 u.2.1 w'
   rw[this];exact⟨_,_,.wait _ c m<|.w3 (N:=0) q,af,af,rfl⟩;have:woken X.P g d w' {l with status:=.blocked}={l with status:=.blocked}:=by
    unfold woken;rw[if_neg s]
   rw[this];exact⟨_,_,.wait _ c m<|.blk q,af,λR S=>absurd (by grind) s,rfl⟩
end
end
section
open Go.Conc
open Go.ConcN (upd upd_same upd_ne sumTo WD CTag WSit RW DWs AtR0 WgLive ShN RelBy Has)
open Go.ConcR (KK WgAt stA smA rd wr mk DC0 Bk)
theorem Ze{l:Loc}(h:ShN a l)(b:gP e l):e=a:=by
 obtain⟨c,rfl,rfl⟩:=h;exact b.symm
section
variable{gi:Nat->Nat}{c:dx}{w w1:ag}{t u:ez}
theorem Told.B(h:Told gi c w t)(a:∀said,¬zy said (t++u))(g:∀op∈u,∀x,op.4.touch?=some x->∀b,gP b x.1->(∀i,¬(c.r i).O b)∧b<w1)(j:w<=w1.1.size):Told gi c w1<|t++u:=
 ⟨a,λi b a=>(h.2 i b a).B λop e x f d=>absurd (.inl a)<|(g op e x f b d).1 i,λi b a=>(h.3 i b a).B λop e x f d _=>absurd (.inr a)<|(g op e x f b d).1 i,(h.4.B j).I λop e x f b d=>(g op e x f b d).2⟩
theorem Mn(h:t[a]?=some e7)(b:e7.4.touch?=none): ¬t.counts a:=by
 rintro⟨x,c,_⟩;have:(t.act? a).bind (·.touch?)=none:=by rw[act?_of h];exact b
 grind
theorem yT(h:RelBy e6 t a e)(f:∀op∈u,op.g=a->op.4.touch?=none):RelBy e6 (t++u) a e:=by
 refine h.app λi b c=>?_;obtain⟨op,b,d⟩:=mR.1 c;obtain⟨c,_⟩|⟨_,c⟩:=DF b;omega;exact Mn b<|f _ c d
theorem AcqAll.B{m n wg:Nat}(h:AcqAll m n wg t)(f:∀op∈u,∀i,i<n+1->op.g=m+i->op.4.touch?=none):AcqAll m n wg<|t++u:=by
 obtain⟨q,b,a,c,d⟩:=h;have a:=lt_of_act? b;exact⟨q,by rw[act?_old a];omega,by rw[g?_old a];omega,(DG a).2 c,λi a=>let⟨r,b,c⟩:=d i a; ⟨r,yT b λop b e=>f _ b i a e,c⟩⟩
end
section
variable{X:dn}{W:jc}{S S':dN}{gs gs':Array cf}{w w':ag}{t u:ez}
theorem bo.am(h:bo X W S gs w t)(d:S'.j=S.j)(l:S'.k=S.k)(q:S'.q=S.q)(c:gs'.size=gs.size)(I:∀i g,0<i->i<W.m->gs'[i]?=some g->∃a,gs[i]?=some a∧(g.3=.running∨g.3=.finished->g=a)∧(a.3=.running∨a.3=.finished->g=a))
  (b:∃b,gs'[0]?=some b∧dM X S.j (pJ (X.n+1) S'.D) S.k (bA S'.c<|X.n+1) (S'.c.r<|X.n+1) w' b S'.6 S'.7 S'.8 S'.μs S'.μr)
  (e:∀i,i<S.j->∃g,gs'[W.m+i]?=some g∧fB X i (S.k<|i- 1) (S.k i) (bA S'.c i) (aQ S'.c i) (S'.c.r i) w' g (S'.D i) (S'.μ i))
  (o:∀i,S.j<=i->i≠X.n+1->S'.c.r i=S.c.r i) (y:∀i,S.j<=i->S'.D i=S.D i) (z:∀i,S'.c.2 i≠none↔S.c.2 i≠none)
  (e:∀i,i<S.j->∀p x,(Go.Proofs.aQ S'.c i).1[p]?=some x->X.kj p x) (e:∀i,i+1=S.j->S.j<=X.n->(aQ S'.c i).2=0∧((aQ S'.c i).3=true->∃f v,(aQ S'.c i).5=some (f,v)∧X.7 i (aQ S'.c i).1 f v)) (E:fX X.P X.F S.k X.5 S'.c w') (K:Told (gid W.m X.n) S'.c w'<|t++u) (F:Handed S.k S'.c<|t++u) (s:w.1.size<=w'.1.size) (e:∀f,f<S.j->(f+1<S.j∨f=X.n)->(Go.Proofs.aQ S'.c f).3=false->(ik X S' f).1=12)
  (p:∀op∈u,op.g=0∨∃i,i<S.j∧op.g=W.m+i) (k:∀op∈u,∀x,op.4.touch?=some x->ShN X.5 x.1->x.3≠ .plain∧(x.3=.said->op.g=0))
  (A:∀op∈u,∀x,op.4.touch?=some x->x.2=true->∀i,i<S.j->¬gP (S.k i) x.1)
  (H:∀op∈u,∀b,op.4≠ .mark (.release b)) (G:∀op∈u,op.4.low w'.1.size) (B:jN (t++u) 0=S'.8) (D:∀i,i<S.j->jN (t++u) (W.m+i)=(S'.D i).3)
  (C:∀i,0<i->i<W.m->jN (t++u) i=jN t i)
  (hrel:∀i,i<S.j->(S'.D i).1<=6->((S.D i).1<=6∧∀op∈u,op.g=W.m+i->op.4.touch?=none)∨∃r,RelBy (stA X.5) (t++u) (W.m+i) r)
  (v:S'.6=.ret->AcqAll W.m X.n X.5 (t++u))
  (M:∃st b,WgAt X.4 X.5 w' st b∧((S'.7=false∧st=0∧b=0)∨(S'.7=true∧oF (X.n+1) S'.D S'.6 st b)))
  (L:w'.2=w.2) (J:w'.4=w.4) (e:w'.5=w.5):bo X W S' gs' w' (t++u) where
 m0:=h.1
 size:=by rw[c,d];exact h.2
 FU:=aw d h.3
 main:=by grind
 old:=λi g m n b=>by
  obtain⟨a,a,c,j⟩:=I i g m n b;have k:=h.5 i _ m n a;rw[j k.status,q,C i m n];exact k
 wk:=by grind
 off:=λi a c=>by rw[d]at a;rw[o i a c];exact h.7 i a c
 stage:=λi a=>by rw[d]at a;rw[y i a];exact h.8 i a
 E8:=λi=>by rw[d,z i];exact h.9 i
 yq:=aw l E
 told:=K
 handed:=aw l F
 xW:=λi b=>by
  rw[d]at b;rw[l];exact(h.13 i b).B λop e x n l m=>absurd l<|A _ e x n m i b
 items:=λi b=>by grind
 G6:=λi a c=>by grind
 Cx:=λf a c j=>by grind
 quiet:=h.17.app k
 norel:=λop e=>(mP.1 e).elim (h.18 op)<|H op
 low:=λop e=>(mP.1 e).elim (λa=>MemAct.low_mono s<|h.19 op a)<|G op
 gs:=λop e=>by
  rw[d];obtain a|a:=mP.1 e;exact h.gs _ a;have:=h.1;rcases p op a with c|⟨i,c,j⟩<;>omega
 d0:=B
 lM:=λi b=>by rw[d]at b;exact D i b
 rel:=λi b f=>by
  rw[d]at b;obtain⟨a,c⟩|a:=hrel i b f;obtain⟨r,o⟩:=h.23 i b a;exact⟨r,yT o c⟩;exact a
 over:=λx g a l k f=>by
  unfold rB at a;obtain⟨op,d,n⟩:=mR.1 a;obtain⟨b,m⟩|⟨_,o⟩:=DF d;obtain⟨y,a,d⟩:=h.24 x g (by simp[rB,m,n]) l k<|(counts_old b).1 f;have b:y<t.size:=by
   unfold rB at a;obtain⟨z,f,_⟩:=mR.1 a;exact zA f
  exact⟨y,by rw[g?_old b];exact a,vz u d⟩;rcases p op o with c|⟨i,_,j⟩<;>omega
 acq:=v
 zh:=M
 tape:=L.trans h.27
 os:=J.trans h.os
 output:=e.trans h.29
theorem bo.ao(h:bo X W S gs w t):WgLive X.4 X.5 w:=let⟨st,b,a,_⟩:=h.26; ⟨st,b,a⟩
theorem bo.B(h:bo X W S gs w t)(b:a<S.j):S.c.2 a=some (aQ S.c a):=by
 have:=(h.9 a).2 b;unfold Go.Proofs.aQ;cases b:S.c.2 a with
 |none=>grind
 |some x=>rfl
theorem nX(i):bA d1 (i+1)=aQ d1 i:=rfl
theorem BU(i):bA d1 i=aQ d1 (i- 1):=rfl
theorem bo.dz(h:bo X W S gs w t)(b:a<S.j):w.1[S.k a]?=some (Go.Proofs.aQ S.c a).B:=h.10.3 a _<|h.B b
end
def ki(wg:Nat)(og:Bool)(e:gY):Prop:=
 (∃m,e.1=.mark m∧(m=.disable∨m=.enable∨m=.acquire (stA wg)∨m=.releaseMerge (stA wg)∨(og=true∧(m=.read (smA wg)∨m=.write (smA wg)))))∨∃a wr,e=⟨.cell a,wr,true⟩∧a.1=wg
section
variable{wg:Nat}{og:Bool}{e:gY}
variable{b8:Mark}{a0:Touch}
theorem Gc(h:a8.1=.mark b8):pz a8=.mark b8:=by
 obtain⟨a,wr,a⟩:=a8;subst h;cases wr<;>cases a<;>rfl
theorem ki.I(h:ki wg og e)(a:(pz e).touch?=some a0):ShN wg a0.1∧a0.3≠ .plain∧(a0.3=.said->og=true):=by
 obtain⟨m,f,g⟩|⟨c,wr,rfl,d⟩:=h;rw[Gc f]at a;obtain rfl|rfl|rfl|rfl|⟨b,rfl|rfl⟩:=g;simp[r_]at a;simp[r_]at a;simp[r_]at a;simp[r_]at a;simp[r_]at a;subst a;exact⟨⟨_,rfl,rfl⟩,af,λ_=>b⟩;simp[r_]at a;subst a;exact⟨⟨_,rfl,rfl⟩,af,λ_=>b⟩;simp[pz,r_]at a;subst a;exact⟨⟨c,rfl,d⟩,af,af⟩
theorem ki.T(h:ki wg og e)(c:wg<a):(pz e).low a:=by
 obtain⟨m,d,f⟩|⟨b,wr,rfl,g⟩:=h;rw[Gc d];rcases f with rfl|rfl|rfl|rfl|⟨_,rfl|rfl⟩<;>first|trivial|exact c
 show b.1<a;omega
theorem ki.O(h:ki wg og e)(b:bC):pz e≠ .mark (.release b):=by
 obtain⟨m,a,c⟩|⟨c,wr,rfl,_⟩:=h;rw[Gc a];grind;simp[pz]
theorem ki.B(h:Bk wg e):ki wg og e:=by
 obtain h|h|⟨a,w,c,b⟩:=h;exact .inl ⟨_,h,af⟩;exact .inl ⟨_,h,af⟩;exact .inr ⟨a,w,c,b⟩
end
section
variable{P:bj}{F:bw->Bool}{k:Nat->Nat}{wg:Nat}{c:dx}{w w1:ag}
theorem fX.I(h:fX P F k wg c w)(d:∀b,b≠wg->w1.1[b]?=w.1[b]?)(f:w1=w.1.size):fX P F k wg c w1:=by
 refine⟨λj=>(h.1 j).I (λb a=>d b λe=>h.8 j<|e▸a)<|vu aa,h.2,λj x a=>?_,h.4,h.5,h.6,aw f h.7,h.8,h.9,λj x f v a g=>?_,h.11⟩;rw[d _<|h.9 j x a];exact h.3 j x a;exact(h.10 j x f v a g).I (λi b l=>d b λe=>(h.11 j x f v i b a g l).2.1 e)<|vu aa
end
section
variable{X:dn}{W:jc}{S:dN}{gs:Array cf}{w w':ag}{t:ez}
theorem nZ:∀ {op:tJ}{fn:bw}{pos:String}{b:Array gY},op∈eH a fn pos b->op.g=a:=λb=>by
 obtain⟨e,_,rfl⟩:=qs b;rfl
theorem bo.t_(h:bo X W S gs w t){G:Nat}{fn:bw}{pos:String}(n:∀e∈l,ki X.5 o e)(p:o=true->G=0)(a:∀b,b≠X.5->w'.1[b]?=w.1[b]?)(s:w'=w.1.size):
  fX X.P X.F S.k X.5 S.c w'∧Told (gid W.m X.n) S.c w' (t++eH G fn pos l)∧Handed S.k S.c (t++eH G fn pos l)∧
  (∀op∈eH G fn pos l,∀x,op.4.touch?=some x->ShN X.5 x.1->x.3≠ .plain∧(x.3=.said->op.g=0))∧
  (∀op∈eH G fn pos l,∀x,op.4.touch?=some x->x.2=true->∀i,i<S.j->¬gP (S.k i) x.1)∧
  (∀op∈eH G fn pos l,∀d,op.4≠ .mark (.release d))∧(∀op∈eH G fn pos l,op.4.low w'):=by
 have r:=h.10.I a s;have q:∀op∈eH G fn pos l,∀x,op.4.touch?=some x->ShN X.5 x.1∧x.3≠ .plain∧(x.3=.said->op.g=0):=by
  intro op a x c;obtain⟨e,g,rfl⟩:=qs a;obtain⟨j,k,m⟩:=(n e g).I c;exact⟨j,k,λf=>p<|m f⟩
 have blk:∀op∈eH G _ _ _,∀x,op.4.touch?=some x->∀b,gP b _->b=X.5:=λop a x c b f=>Ze (q _ a x c).1 f;refine⟨r,?_,?_,λop a x c _=>(q _ a x c).2,λop a x c _ i y p=>?_,λop a=>?_,λop a=>?_⟩;refine h.11.B (λsaid=>Am (h.11.1 _) (λop a=>nZ a) λi d u op a b f v=>?_) (λop a x c b f=>?_)<|vu aa;obtain⟨j,k,m⟩:=q op a b f;exact h.17.known j k (λe=>(nZ a).symm.trans<|m e) i d u v;rw[blk _ a x c b f];exact⟨h.10.8,aw s h.10.7⟩;exact h.12.B λi x f v d b c k j op a q m p=>(h.10.11 i x f v d b c k j).2.1<|blk _ a q m b p;have:=blk _ a x c _ p;exact h.10.9 i _ (h.B y) this;obtain⟨e,g,rfl⟩:=qs a;exact(n e g).O;obtain⟨e,g,rfl⟩:=qs a;exact(n e g).T r.7
theorem MB(h:lB g a8)(c:∀b,g.O b->b<a):(pz a8).low a:=by
 unfold lB at h;split at h;rename_i d wr s;obtain⟨rfl,h⟩:=h;have:g.O _:=h.imp id af;cases wr<;>exact c _ this;rename_i o wr s;obtain⟨rfl,h⟩:=h;have:g.O o:=h.imp id af;cases wr<;>exact c _ this;trivial;trivial;exact h.elim
theorem bo.tZ(h:bo X W S gs w t){p:Nat}{fn:bw}{pos:String}(v:Only (S.c.r p) g w w')(u:g.Fits X.P X.F w')(j:∀e∈l,lB g e):
  fX X.P X.F S.k X.5 {S.c with r:=upd S.c.r p g} w'∧Told (gid W.m X.n) {S.c with r:=upd S.c.r p g} w' (t++eH (gid W.m X.n p) fn pos l)∧Handed S.k {S.c with r:=upd S.c.r p g} (t++eH (gid W.m X.n p) fn pos l)∧
  (∀op∈eH (gid W.m X.n p) fn pos l,∀x,op.4.touch?=some x->ShN X.5 x.1->x.3≠ .plain∧(x.3=.said->op.g=0))∧
  (∀op∈eH (gid W.m X.n p) fn pos l,∀x,op.4.touch?=some x->x.2=true->∀i,i<S.j->¬gP (S.k i) x.1)∧
  (∀op∈eH (gid W.m X.n p) fn pos l,∀k,op.4≠ .mark (.release k))∧(∀op∈eH (gid W.m X.n p) fn pos l,op.4.low w')∧w'.1[X.5]?=w.1[X.5]? ∧∀o,deafBehind o l=o:=by
 have q:=h.10.V (i:=p) v u;have s:∀op∈eH (gid W.m X.n p) fn pos l,∀x,op.4.touch?=some x->∀b,gP b x.1->((upd S.c.r p g) p).O b:=by
  intro op a x f b m;obtain⟨e,d,rfl⟩:=qs a;rw[upd_same];exact((C3 (j e d) f).2 b m).imp id λh=>h.2
 refine⟨q,h.11.O (i:=p) h.10 v u j,?_,λop a x f C=>?_,λop a x f _ i A n=>?_,λop a=>?_,λop a=>?_,?_,?_⟩;exact Handed.B (c:={S.c with r:=upd _ p _}) h.12 λi x y E k b f B z op a F D n=>(q.11 i x y E k b f B z).1 p<|s _ a F D b n;obtain⟨y,n,m⟩:=C;have:=s _ a x f _<|aw n m;exact absurd this<|q.8 p;exact q.5 i _ p (h.B A)<|s _ a x f _ n;obtain⟨e,d,rfl⟩:=qs a;intro k f;have:=(wB<|j e d).2.2 k;exact this<|H7 f;obtain⟨e,d,rfl⟩:=qs a;exact MB (j e d) λb m=>u.B m;exact v.5 _ h.10.7 λa=>h.10.8 p<|.inl a;exact λo=>deafBehind_still (λe d=>⟨(wB<|j e d).1,(wB<|j e d).2.1⟩) o
end
end
section
open Go.Conc
open Go.ConcN (upd upd_same upd_ne sumTo WD CTag WSit RW DWs AtR0 WgLive ShN RelBy Has get_map_set get_map_set_same)
open Go.ConcR (KK WgAt stA smA rd wr mk DC0 Bk)
section
variable{X:dn}{W:jc}{S:dN}{gs:Array cf}{w w':ag}{t:ez}{sl:Option (Nat×Nat)}
theorem aU.O{a b:Nat}(h:cZ.vq b9 e1):aU.B (a,b,b9) (a,b,e1):=.right _<|.right _ h
theorem aU.I(h:e<n):aU.B (a,e,b9) (a,n,e1):=.right _<|.left _ _ h
theorem aU.T{s t:cZ}(h:a<e):aU.B (a,n,s) (e,L,t):=.left _ _ h
variable{H p:dN}{z:WD}
theorem uA(b:e<=a)(c:H.q=p.q)(d:H.μs=p.μs)(hμ:∀x,x<e->H.μ x=p.μ x)(c:aU.B (H.μ e)<|p.μ e):Row.B _ (H.B n a)<|p.B n a:=by
 refine yV (k:=e+2) (by show aU.B (if e<=a then _ else _) (if e<=a then _ else _);rw[if_pos b,if_pos b];exact c) (a+4) 0 aa aa λx _ b=>?_
 match x with
 |0=>show((0,sumTo n H.q,cZ.leaf):aU)=(0,sumTo n p.q,cZ.leaf);grind
 |1=>exact d
 |x+2=>
  show(if x<=a then H.μ x else H.μr)=if x<=a then p.μ x else p.μr
  grind
theorem O_(b:H.q=p.q)(b:aU.B H.μs p.μs):Row.B _ (H.B a e)<|p.B a e:=by
 refine yV (k:=1) b (e+4) 0 aa aa λx _ b=>?_;obtain rfl:x=0:=aa;show((0,sumTo a H.q,cZ.leaf):aU)=(0,sumTo a p.q,cZ.leaf);grind
theorem OY(b:H.q=p.q)(c:H.μs=p.μs)(hμ:∀x,x<=a->H.μ x=p.μ x)(b:aU.B H.μr p.μr):Row.B _ (H.B e a)<|p.B e a:=by
 refine yV (k:=a+3) (by show aU.B (if a+1<=a then _ else _) (if a+1<=a then _ else _);rw[if_neg aa,if_neg aa];exact b) (a+4) 0 aa aa λx _ b=>?_
 match x with
 |0=>show((0,sumTo e H.q,cZ.leaf):aU)=(0,sumTo e p.q,cZ.leaf);grind
 |1=>exact c
 |x+2=>
  show(if x<=a then H.μ x else H.μr)=if x<=a then p.μ x else p.μr
  grind
theorem ab0(b:sumTo a H.q<sumTo a p.q):Row.B _ (H.B a e)<|p.B a e:=
 yV (k:=0) (.right _<|.left _ _ b) (e+4) 0 aa aa λx _ b=>aa
theorem jA(h:a<=n):gid e n a=e+a:=if_pos h
theorem pN:gid e a (a+1)=0:=if_neg aa
theorem bo.le(h:bo X W S gs w t)(b:a<S.j):a<=X.n:=aI h.3
theorem bo.tX(h:bo X W S gs w t)(c:a=0∨W.m<=a):∀i x,0<i->i<W.m->((gs.map<|woken X.P v b w').setIfInBounds a b)[i]?=some x->
  ∃c,gs[i]?=some c∧(x.3=.running∨x.3=.finished->x=c)∧(c.3=.running∨c.3=.finished->x=c):=by
 intro i x d e c;have f:a≠i:=aa;rw[get_map_set _ _ _ _ f]at c;obtain⟨y,f,rfl⟩:=mR.1 c;have:=tv (P:=X.P) (g:=v) (g':=b)<|DU w' (h.5 i y d e f).status;grind
theorem bo.iO(h:bo X W S gs w t)(F:a<S.j)(V:gs[W.m+a]?=some b)(Y:stepG X.P false b w=.go v w' l){r1:aG}
  (n:fX X.P X.F S.k X.5 {S.c with r:=upd S.c.r a r1} w')(O:Told (gid W.m X.n) {S.c with r:=upd S.c.r a r1} w' (t++eH (W.m+a) b.1.1 b.1.place l))
  (N:Handed S.k {S.c with r:=upd S.c.r a r1} (t++eH (W.m+a) b.1.1 b.1.place l))(M:w<=w'.1.size)
  (a7:∀op∈eH (W.m+a) b.1.1 b.1.place l,∀x,op.4.touch?=some x->ShN X.5 x.1->x.3≠ .plain∧(x.3=.said->op.g=0))
  (T:∀op∈eH (W.m+a) b.1.1 b.1.place l,∀x,op.4.touch?=some x->x.2=true->∀a,a<S.j->¬gP (S.k a) x.1)
  (a5:∀op∈eH (W.m+a) b.1.1 b.1.place l,∀B,op.4≠ .mark (.release B))(a1:∀op∈eH (W.m+a) b.1.1 b.1.place l,op.4.low w')
  (a9:fB X a (S.k (a- 1)) (S.k a) (bA S.c a) (Go.Proofs.aQ S.c a) r1 w' v z k)(U:deafBehind (S.D a).3 l=z.3)
  (hrel:z.1<=6->∃b3,RelBy (stA X.5) (t++eH (W.m+a) b.1.1 b.1.place l) (W.m+a) b3)
  (b0:w'.2=w.2)(a6:w'.4=w.4)(f:w'.5=w.5)(G:WgLive X.4 X.5 w')
  (b1:∀j,(j=S.6∨(S.6=.blk∧j=.w3))->(mayWake X.P b=true->v.3=.running->j≠ .blk)->
   ∃st y,WgAt X.4 X.5 w' st y∧((S.7=false∧st=0∧y=0)∨(S.7=true∧oF (X.n+1) (upd S.D a z) j st y)))
  (R:S.6=.ret->AcqAll W.m X.n X.5 (t++eH (W.m+a) b.1.1 b.1.place l))(a2:aU.B k (S.μ a))(J:k.1=12∨(S.μ a).1≠12):
  ∃A E,runT X.P (crowd gs w sl) (W.m+a)=(.next (crowd E w' sl),eH (W.m+a) b.1.1 b.1.place l)∧
   bo X W A E w' (t++eH (W.m+a) b.1.1 b.1.place l)∧Row.B _ (A.B W.m X.n) (S.B W.m X.n):=by
 have a0:=h.le F;have b6:=h.1;have Z:(W.m+a==0)=false:=bQ;let⟨B,Q,a3⟩:=h.4;have q:∀x,x≠a->upd _ a r1 x=S.c.r x:=λx s=>upd_ne _ _ s;obtain⟨j,b4,a4,H,b2,a8⟩:=a3.I (w':=w') _ (by have:=n.1 (X.n+1);rw[show({S.c with r:=upd _ a _}:dx).r _=S.c.r (X.n+1)from q _ aa]at this;exact this) (λ_=>G)
  (λ_ b5=>n.3 X.n _ (h.B aa)) b v
 refine⟨{S with c:={S.c with r:=upd S.c.r a r1},D:=upd S.D a z,tag:=j,μ:=upd S.μ a k,μr:=b4},_,(zF (P:=X.P) (sl:=sl) (i:=W.m+a) V (aw Z Y)),?_,?_⟩;refine h.am rfl rfl rfl af (h.tX (.inr aa)) ⟨_,by rw[get_map_set _ _ _ _ aa,Q];rfl,?_⟩ (λd o=>?_) (λd g _=>q d aa) (λd g=>upd_ne _ _ aa) (λ_=>Iff.rfl) h.14 h.15 n O N M (λC g K L=>?_)
  (λop f=>.inr ⟨a,F,nZ f⟩) a7 T a5 a1 ?_ (λd o=>?_) (λd I g=>?_) (λd o m=>?_) ?_ ?_ b0 a6 f
 dsimp only;rw[q _ aa];exact a4;by_cases e:d=a;subst e;exact⟨v,get_map_set_same _ _ _ (dT h.2),by simp only;rw[upd_same,upd_same,upd_same];exact a9⟩;obtain⟨x,s,m⟩:=h.6 d o;refine⟨_,by rw[get_map_set _ _ _ _ aa,s];rfl,?_⟩;simp only;rw[q _ e,upd_ne _ _ e,upd_ne _ _ e];refine m.B (h.10.1 d) (by have:=n.1 d;rw[show({S.c with r:=upd _ a _}:dx).r _=S.c.r _ from q _ e]at this;exact this) (λ_=>G) (λ_ I=>?_) (.inl (n.3 d _ (h.B o))) b v;exact n.3 _ _ (h.B aa);have p:=h.16 C g K L;unfold ik at p⊢;dsimp only;split;rename_i u;rw[if_pos u]at p;by_cases e:C+1=a;subst e;rw[upd_same];exact J.elim id λh=>absurd p h;rw[upd_ne _ _ e];exact p;rename_i u;rw[if_neg u]at p;rw[a8];exact p;rw[vC t (g':=W.m+a) aa _ λop f=>nZ f];exact h.d0;dsimp only;by_cases e:d=a;subst e;rw[DV,h.lM d o,upd_same];exact U;rw[vC t (g':=W.m+a) aa _ λop f=>nZ f,h.lM d o,upd_ne _ _ e];exact vC t (g':=W.m+a) aa _ λop f=>nZ f;dsimp only at m⊢;by_cases e:d=a;subst e;rw[upd_same]at m;exact .inr (hrel m);rw[upd_ne _ _ e]at m;exact .inl ⟨m,λop f g=>aI (nZ f)⟩;intro e;rcases H with g|⟨_,g⟩;exact R (jy g e);rw[show j=CTag.ret from e]at g;cases g;exact b1 j H b2;exact uA a0 rfl rfl (λx s=>upd_ne _ _ aa) (by simp only;rw[upd_same];exact a2)
end
end
section
open Go.Conc
open Go.ConcN (upd upd_same upd_ne sumTo WD CTag WSit RW DWs AtR0 WgLive ShN RelBy Has get_map_set get_map_set_same Mode.retag)
open Go.ConcR (KK WgAt stA smA rd wr mk DC0 Bk)
theorem G3{b:Type}f(i){x:b}(h:f i=x):upd f i x=f:=by
 funext a;by_cases e:a=i;subst e;rw[upd_same];grind;exact upd_ne _ _ e
section
variable{X:dn}{W:jc}{S:dN}{gs:Array cf}{w w':ag}{t:ez}{sl:Option (Nat×Nat)}
def gz(X:dn)(W:jc)(S:dN)(gs:Array cf)(w:ag)(t:ez)(sl:Option (Nat×Nat))(G:Nat):Prop:=
 ∃a b w' c,runT X.P (crowd gs w sl) G=(.next (crowd b w' sl),c)∧bo X W a b w' (t++c)∧Row.B (X.n+4) (a.B W.m X.n) (S.B W.m X.n)
variable{r:CTag}{Q:Nat->WD}
theorem dM.T{c:Nat->Nat}(h:dM X a e c y g w b r o n k J)(c:o=false):r=.kd:=by
 cases h<;>first|rfl|cases c
theorem dM.U{j v:Nat}{c:Nat->Nat}(h:dM X j v c y g w b r o a k J)(c:0<j):o=true:=by
 cases h<;>first|rfl|omega
theorem bo.cW(h:bo X W S gs w t)(b:a<=X.n)(d:(S.D a).1≠1):S.6≠ .ret:=by
 obtain⟨b,_,c⟩:=h.4;obtain⟨st,b,_,b|b⟩:=h.26;rw[c.T b.1];simp;exact b.2.not_ret aa d
theorem bo.I(h:bo X W S gs w t)(e:w'.1[X.5]?=w.1[X.5]?)(b:Q=S.D)(d:r=S.6∨(S.6=.blk∧r=.w3)):
  ∃st a,WgAt X.4 X.5 w' st a∧((S.7=false∧st=0∧a=0)∨(S.7=true∧oF (X.n+1) Q r st a)):=by
 subst b;obtain⟨st,a,c,b⟩:=h.26;exact⟨st,a,e.trans c,b.imp id λb=>⟨b.1,b.2.retag d⟩⟩
theorem bo.iz(c:bo X W S gs w t)(k:a<S.j)(C:gs[W.m+a]?=some b)(E:jT b f h)
  (l:Walk X.P false X.F K (.node b3) (S.c.r a) f h)(j:S.D a=⟨7,0,0⟩)(hμ:S.μ a=(e,n,.node b3))
  (D:∀g cs1 i w1 d,Walk X.P false X.F K d i g cs1->fB X a (S.k<|a- 1) (S.k a) (bA S.c a) (Go.Proofs.aQ S.c a) i w1 (G g cs1) ⟨7,0,0⟩ (e,n,d)):gz X W S gs w t sl<|W.m+a:=by
 obtain⟨g,cs1,w1,d,i,y,z,d,A,B⟩:=l w<|c.10.1 a;have x:gid _ _ a=W.m+a:=jA<|c.le k;let⟨H,m,o,q,r,s,u,v,I⟩:=c.tZ (p:=a) (fn:=b.1.1) (pos:=b.1.place) d z A;rw[x]at m o q r s u;have z:stepG _ _ b w=.go _ _ _:=aw E.B y;have y:WgLive X.4 X.5 w1:=by
  obtain⟨st,x,l,_⟩:=c.26;exact⟨st,x,v.trans l⟩
 obtain⟨l,x,F,E,A⟩:=c.iO (sl:=sl) k C z H m o d.4 q r s u (D g cs1 i w1 (b3 w) B) (by rw[I,j]) (λg=>na g) d.1 d.2 d.3 y
  (λd d _=>c.I v (G3 _ _ j) d) (λd=>absurd d<|c.cW (c.le k)<|cw j) (aw hμ (aU.O<|.child b3 w))<|aw hμ (Classical.em _)
 exact⟨l,x,w1,_,F,E,A⟩
theorem bo.aE(i:bo X W S gs w t)(x:a<S.j)(s:gs[W.m+a]?=some b)(u:stepG X.P false b w=.go v w' l)(c:Ar X.5 w w'){h g:Int}(j:WgAt X.4 X.5 w' h g)
  (k:∀e∈l,ki X.5 false e){d':WD}(B:qB X (S.c.r a) d' v w')(q:(Go.Proofs.aQ S.c a).3=true)(r:deafBehind (S.D a).3 l=d'.3)
  (hrel:d'.1<=6->∃d,RelBy (stA X.5) (t++eH (W.m+a) b.1.1 b.1.place l) (W.m+a) d)(p:S.7=true)
  (y:∀d,(d=S.6∨(S.6=.blk∧d=.w3))->(mayWake X.P b=true->v.3=.running->d≠ .blk)->oF (X.n+1) (upd S.D a d') d h g)
  (o:S.6=.ret->AcqAll W.m X.n X.5 (t++eH (W.m+a) b.1.1 b.1.place l))(f:aU.B (d'.1,d'.2,.leaf)<|S.μ a)(n:(S.μ a).1≠12):gz X W S gs w t sl<|W.m+a:=by
 obtain⟨C,D,E,F,H,I,J⟩:=i.t_ (G:=W.m+a) (fn:=b.1.1) (pos:=b.1.place) k af c.5 c.4;have e:upd _ a _=S.c.r:=G3 _ _ rfl;obtain⟨k,m,A,z,f⟩:=i.iO (sl:=sl) (r1:=S.c.r a) x s u (aw e C) (aw e D) (aw e E) (vu c.4.symm) F H I J (.tail B q) r hrel c.1 c.2 c.3 ⟨_,_,j⟩
  (λd e c=>⟨h,g,j,.inr ⟨p,y d e c⟩⟩) o f<|.inr n
 exact⟨k,m,w',_,A,z,f⟩
theorem bo.tY(h:bo X W S gs w t)(b:a<S.j):S.7=true:=by
 obtain⟨b,_,b⟩:=h.4;exact b.U aa
theorem bo.an(h:bo X W S gs w t){i:Nat}(b:i<S.j):∃st a,WgAt X.4 X.5 w st a∧oF (X.n+1) S.D S.6 st a:=by
 obtain⟨st,a,a,a⟩:=h.26;obtain a|a:=a;rw[h.tY b]at a;grind;grind
end
end
section
open Go.Conc Go.ConcN Go.Conc.Lib Go.ConcR.Gen Go.ConcN.Gen
open Go.ConcR (KK wgBlock WgAt stA smA rd wr mk DC0)
section
variable(P:bj)(Wg:Nat)(R:ag->ag->Prop)
def AtRel(g:cf)(w:ag):Prop:=
 g.3=.running∧∃a,stepG P false g w=.go a w #[mk (.releaseMerge (stA Wg))]∧∃m,Goes P false R DC0 (λb w=>b.3=.running∧∃c,stepG P false b w=.go c w #[mk .disable]) m a w
end
section
variable[Rg]{P:bj}{ty:bB}{Wg C n Low k:Nat}{Own Rd:Nat->Loc->Prop}{v:aq}
theorem aaf:∀(m) {a:Nat}{g:cf}{w:ag},Goes P false (RW ty Wg C n Low<|k- 1) DC0 (λc w=>c.3=.running∧∃b,stepG P false c w=.go b w #[mk .disable]) m g w->
  Goes P false (RW ty Wg C n Low<|k- 1) (DWs Wg Own Rd C n k) (AtR0 P ty Wg C n Low k v) a g w->False:=by
 have e:∀ {a:Nat} {g:cf} {w:ag},(∃b,stepG P false g w=.go b w #[mk .disable])->Goes P false (RW ty Wg C n Low<|k- 1) (DWs Wg Own Rd C n k) (AtR0 P ty Wg C n Low k v) a g w->False:=by
  rintro a g w ⟨b,b⟩ h;have f:∀x,¬(AtR0 P ty Wg C n Low k v g w∧x=0):=by
   rintro x ⟨⟨_,_,i,d,_⟩,_⟩;rw[b]at d;simp[mk]at d
  cases a with
  |zero=>exact f 0 ⟨h w<|RW.refl w,rfl⟩
  |succ a=>
   obtain h|⟨_,h⟩:=h;exact f 0 ⟨h w<|RW.refl w,rfl⟩;have:=h w<|RW.refl w;rw[b,goes_go]at this;exact(this.1.2 (mk _) af).2.1 rfl
 intro m;induction m with
 |zero=>intro a g w h b;exact e (h w<|RW.refl w).2 b
 |succ m f=>
  intro a g w h b;obtain h|⟨_,h⟩:=h;exact e (h w<|RW.refl w).2 b;obtain⟨i,e,f,f,⟨rfl,rfl⟩,f⟩:=goes_elim<|h w<|RW.refl w;cases a with
  |zero=>
   obtain⟨_,_,c,d,_⟩:=b e<|RW.refl e;grind
  |succ a=>
   obtain b|⟨_,b⟩:=b;obtain⟨_,_,c,d,_⟩:=b e<|RW.refl e;grind;have:=b _<|RW.refl _;simp_all
theorem KV(h:AtRel P Wg (RW ty Wg C n Low<|k- 1) b d)(c:Goes P false (RW ty Wg C n Low<|k- 1) (DWs Wg Own Rd C n k) (AtR0 P ty Wg C n Low k v) a b d):AtR0 P ty Wg C n Low k v b d:=by
 obtain⟨_,e,e,m,f⟩:=h;cases a with
 |zero=>exact c d<|RW.refl d
 |succ a=>
  obtain c|⟨_,c⟩:=c;exact c d<|RW.refl d;have:=c d<|RW.refl d;rw[e,goes_go]at this;exact(aaf m f this.2).elim
theorem aa6:∀(c) {d:Nat}{g:cf}{w:ag},Goes P false (RW ty Wg C n Low<|k- 1) DC0 (AtRel P Wg<|RW ty Wg C n Low<|k- 1) c g w->
  Goes P false (RW ty Wg C n Low<|k- 1) (DWs Wg Own Rd C n k) (AtR0 P ty Wg C n Low k v) d g w->Goes P false (RW ty Wg C n Low<|k- 1) DC0 (AtR0 P ty Wg C n Low k v) c g w:=by
 have i:∀a b e,RW _ _ C n _ _ a b->RW ty Wg C n _ _ b e->RW _ _ C n Low (k- 1) a e:=λ_ _ _ a b=>a.trans b;intro c;induction c with
 |zero=>intro d g w h b w1 a;exact KV (h _ a) (kS i b a)
 |succ c j=>
  intro d g w h b;obtain h|⟨c,h⟩:=h;exact .inl λw1 a=>KV (h _ a) (kS i b a);refine .inr ⟨c,λw1 a=>?_⟩;obtain⟨c,f,c,e,⟨rfl,rfl⟩,g⟩:=goes_elim<|h w1 a;rw[e,goes_go];refine⟨⟨rfl,rfl⟩,?_⟩;have c:=kS i b a;cases d with
  |zero=>
   obtain⟨_,_,b,a,_⟩:=c f<|RW.refl f;rw[e]at a;simp[mk]at a
  |succ d=>
   obtain c|⟨_,c⟩:=c;obtain⟨_,_,b,a,_⟩:=c f<|RW.refl f;rw[e]at a;simp[mk]at a;have:=c _<|RW.refl _;rw[e,goes_go]at this;exact j g this.2
end
section
variable[Rg]{L:WgLink}{Wg C n Low k:Nat}{val:aq}{c:az}{cs:List az}{qt:Nat}
theorem WT{P:bj}(H:WgLib P L)(d:c.5=.returning)(b:H6 P qt 0<|G c cs)(w:ag)(a:WgLive L.30 Wg w∧Has C (k- 1) val w):
  Goes P false (RW L.30 Wg C n Low<|k- 1) DC0 (AtR0 P L.30 Wg C n Low k val) 23 (G ((baseD L.2).at ⟨#[Wg,aj,aj,aj],[]⟩ [.code<|body_done L])<|c::cs) w:=by
 refine aa6 (Own:=λ_ _=>False) (Rd:=λ_ _=>False) _ ?_<|doneN H d b w a
 simp[body_done,doneFn];u_reg kn_rely a;u_op kn_rely a
 u_in kn_rely a
 refine goes_call rfl rfl (by k_ne) rfl H.1 (nm_add L) rfl ⟨by u_nil,?_⟩
 walk_nrmf addFn
 u_c cM kn_rely a;u_cond true kn_rely a;iterate 2 u_c cM kn_rely a
 u_reg kn_rely a;iterate 2 u_op kn_rely a
 u_c cE kn_rely a;u_cond true kn_rely a;u_reg kn_rely a;u_op kn_rely a
 u_conv H.27 H.112 (WgLive.cell0 a.1).choose_spec kn_rely a
 refine mS λd b=>?_;replace a:=kn_rely a b;refine⟨rfl,_,DT _ af rfl rfl (by k_ne) rfl H.4 (x_relMerge_n L) (x_relMerge_b L) (x_relMerge_x L) (x_relMerge_f L) (by simp[lH,stA]),10,?_⟩;u_c cE kn_rely a;u_c cM kn_rely a;u_reg kn_rely a;exact mS λd b=>⟨rfl,_,DR _ af rfl rfl (by k_ne) rfl H.5 (x_disable_n L) (x_disable_b L) (x_disable_x L)<|x_disable_f L⟩
end
end
section
open Go.Conc
open Go.ConcN (upd upd_same upd_ne sumTo WD CTag WSit RW RW.refl DWs AtR0 WgLive ShN RelBy Has RelBy.new RelBy.book Vc Vc_upd Vc_le cnt pend isOpen isW3 OpenSt bk_cell others_uncounted le_sumTo)
open Go.ConcR (KK WgAt stA smA rd wr mk DC0 Bk bk_of_mute ofEvent_loc_mark)
variable{r:CTag}{Q:Nat->WD}{z:WD}
theorem ZT(c:oF a Q r M S)(d:e<a)(b:(Q e).1=5):
  S=0∧OpenSt a Q∧((isOpen r∧(∀b,r=.w2 b->Vc a Q<=b∧1<=b)∧M=((Vc a Q+pend r:Nat))*KK)∨(isW3 r∧1<=Vc a Q∧M=((Vc a Q))*KK+1)):=by
 cases c with
 |opn f b c=>grind
 |reg f b c=>grind
 |last L _ b c c=>
  grind
 |sema b=>have:=b e d;omega
 |fin _ b=>have:=b e d;omega
section
variable{X:dn}{W:jc}{S:dN}{gs:Array cf}{w:ag}{t:ez}{sl:Option (Nat×Nat)}
theorem bo.qH(h:bo X W S gs w t)(c:X.n+1<2147483647)(q:a<S.j)(U:gs[W.m+a]?=some b)(E:(S.D a).1=z.1)(B:(S.D a).3=z.3)(e:qB X (S.c.r a) z b w)(T:(Go.Proofs.aQ S.c a).3=true)(P:b.3=.running)
  (hμ:∀c,aU.B c (z.1,z.2,.leaf)->aU.B c (S.μ a))(Q:(S.μ a).1≠12):gz X W S gs w t sl<|W.m+a:=by
 obtain⟨d,o,A,L,M,I⟩:=e;obtain⟨st,c,n,J⟩:=h.an q;have R:=h.tY q;have x:a<X.n+1:=Nat.lt_succ_of_le<|h.le q;have c:=Vc_le (X.n+1) S.D;have C:=h.lM a q;rw[B]at C;obtain⟨m,V,dd⟩:=z;dsimp only at E B hμ I C;have G:m≠1->S.6≠ .ret:=λe=>h.cW (h.le q)<|aw E e;have Z:∀u:ag,Ar X.5 w u->o≠X.5-> @Has o 0 A w-> @Has o 0 A u:=λu c g k=>(Go.ConcN.cell_of_block (c.5 o g) 0).trans k;have H:∀ {k:cf} {u:ag} {es:Array gY} {r p v:Nat} {y g:Int},stepG X.P false b w=.go k u es->Ar X.5 w u->WgAt X.4 X.5 u y g->(∀e∈es,Bk X.5 e)->
   (∀l e,es[l]?=some e->(pz e).touch?=none∨0<deafBehind dd (es.extract 0 l))->r<=6-> @WSit ⟨d⟩ X.P X.4 X.5 o 1 vt vt 0 1 A r p v k u->deafBehind dd es=v->m<=6->
   (∀s,(s=S.6∨(S.6=.blk∧s=.w3))->(mayWake X.P b=true->k.3=.running->s≠ .blk)->oF (X.n+1) (upd S.D a ⟨r,p,v⟩) s y g)->
   (S.6=.ret->AcqAll W.m X.n X.5 (t++eH (W.m+a) b.1.1 b.1.place es))->(r<m∨(r=m∧p<V))->gz X W S gs w t sl (W.m+a):=by
  intro k u es r p v y g g c a3 O N a2 F Y y a1 K a0;refine h.aE q U g c a3 (λe c=>.B<|O e c) (d':=⟨r,p,v⟩) ⟨d,o,A,L,M,.inr ⟨a2,F⟩⟩ T (aw B Y) (λ_=>?_) R a1 K ?_ Q;obtain⟨v,r⟩:=h.23 a q<|aw E y;exact⟨v,r.book C _ _ O N⟩;refine hμ _ ?_;obtain e|⟨rfl,e⟩:=a0;exact aU.T e;exact aU.I e
 have N:∀ {k:cf} {p:Nat},stepG X.P false b w=.go k w #[]-> @WSit ⟨d⟩ X.P X.4 X.5 o 1 vt vt 0 1 A m p dd k w->p+1=V->m<=6->m≠1->gz X W S gs w t sl (W.m+a):=by
  intro k p g F m y r;exact H g (.refl X.5 w) n af af y F rfl y (λs m _=>by have:=J.same (i:=a) p dd;rw[E]at this;exact this.retag m) (λe=>absurd e<|G r)<|.inr ⟨rfl,aa⟩
 obtain⟨r,v,K⟩|⟨y,Y⟩:=I
 subst r v;obtain F|⟨p,rfl,y⟩:=mm K;obtain⟨_,Z,k,g,K,I⟩:=F w<|@RW.refl ⟨d⟩ _ _ _ _ _ _ w;refine h.aE q U g (.refl X.5 w) n (d':=⟨6,K,0⟩) (by intro e c;simp at c;subst c;exact .inl ⟨_,rfl,af⟩) ⟨d,o,A,L,M,.inr ⟨cP _,@WSit.k1 ⟨d⟩ _ _ _ _ _ _ _ _ _ _ _ _ _ I⟩⟩ T (dh B) (λ_=>⟨t.size,RelBy.new C _ _⟩) R
  (λs m _=>(J.counted x aa (.inl rfl) _ _).retag m) (λe=>absurd e<|G aa) (hμ _<|aU.T af) Q
 obtain⟨k,u,es,g,⟨rfl,rfl⟩,C⟩:=y w<|@RW.refl ⟨d⟩ _ _ _ _ _ _ w;refine h.aE q U g (.refl X.5 u) n (d':=⟨7,p,0⟩) af ⟨d,o,A,L,M,.inl ⟨rfl,rfl,C⟩⟩ T (dh B) (λe=>na e) R
  (λs m _=>by have:=J.same (i:=a) p 0;rw[E]at this;exact this.retag m) (λe=>absurd e<|G aa) (hμ _<|aU.I af) Q
 cases Y with
 |r0 h=>omega
 |k1 h=>
  obtain F|⟨p,rfl,y⟩:=mm h;obtain⟨_,k,g,K,I⟩:=F w<|@RW.refl ⟨d⟩ _ _ _ _ _ _ w;exact H g (.refl X.5 w) n (by intro e c;simp at c;subst c;exact .inl rfl) (by intro l e c;exact .inl (by have:=Au c;simp at this;subst this;rfl)) aa (@WSit.d1 ⟨d⟩ _ _ _ _ _ _ _ _ _ _ _ _ _ I) rfl aa
   (λs m _=>(J.counted x aa (.inr rfl) _ _).retag m) (λe=>absurd e<|G aa)<|.inl aa
  obtain⟨k,u,es,g,⟨rfl,rfl⟩,C⟩:=y w<|@RW.refl ⟨d⟩ _ _ _ _ _ _ w;exact N g (@WSit.k1 ⟨d⟩ _ _ _ _ _ _ _ _ _ _ _ _ _ C) rfl aa aa
 |d1 h=>
  obtain F|⟨p,rfl,y⟩:=mm h;obtain⟨_,Z⟩:=F w<|@RW.refl ⟨d⟩ _ _ _ _ _ _ w;have a4:cnt (S.D a)=1:=by simp[cnt,E]
  have o:1<=Vc (X.n+1) S.D:=by have:=le_sumTo (f:=λA=>cnt<|S.D A) x;simp[Vc];omega
  have R:∀e∈ #[rd<|stA X.5,wr<|stA X.5],Bk X.5 e:=by intro e c;simp at c;rcases c with rfl|rfl<;>exact bk_cell _ _ rfl
  have T:∀l e,(#[rd<|stA X.5,wr<|stA X.5]:Array gY)[l]?=some e->(pz e).touch?=none∨0<deafBehind 1 ((#[rd<|stA X.5,wr<|stA X.5]:Array gY).extract 0 l):=by
   intro l e c
   match l,c with
   |0,_=>exact .inr (by simp[deafBehind])
   |1,_=>exact .inr (by simp[deafBehind,rd])
   |l+2,c=>grind
  have a0:∀q,cnt (⟨1,q,1⟩:WD)=0:=λ_=>rfl;have a2:∀q,OpenSt (X.n+1) S.D->OpenSt (X.n+1) (upd S.D a ⟨1,q,1⟩):=λq h o B=>by
   by_cases e:o=a;subst e;rw[upd_same];simp;rw[upd_ne _ _ e];exact h o B
  obtain⟨rfl,U,⟨M,Y,rfl⟩|⟨M,Y,rfl⟩⟩:=ZT aa x E;obtain⟨v,Q⟩:∃v,Vc (X.n+1) S.D+pend S.6=v+1:=⟨Vc (X.n+1) S.D+pend S.6- 1,aa⟩;have a1:v<2147483647:=by
   have:pend S.6<=1:=by unfold pend;split<;>(try split)<;>omega
   omega
  rw[Q]at n;have L:WgAt X.4 X.5 w (((v:Nat)+1)*KK+((0:Nat):Int)) 0:=aJ;obtain⟨k,g,_,r⟩:=Z v 0 aa a1 L;let⟨q,r⟩:=r aa;have a1:Vc (X.n+1) (upd S.D a ⟨1,q,1⟩)+pend S.6=v:=dX (Vc_upd S.D (⟨1,q,1⟩:WD) x)<|a0 q;refine H g (xf w (stA X.5) _) (n.setSt _) R T aa (@WSit.quit ⟨d⟩ _ _ _ _ _ _ _ _ _ _ _ _ _ _ r) rfl aa (λs m _=>?_) (λe=>absurd e<|G aa)<|.inl aa;have e:((v:Nat):Int)*KK+((0:Nat):Int)=((Vc (X.n+1) (upd S.D a ⟨1,q,1⟩)+pend S.6:Nat):Int)*KK:=aJ;rw[e];exact(Rh M (a2 q U) λa3 a3=>aI<|Y _ a3).retag m;obtain⟨v,Q⟩:∃v,Vc (X.n+1) S.D=v+1:=⟨Vc (X.n+1) S.D- 1,aa⟩;rw[Q]at n;have L:WgAt X.4 X.5 w (((v:Nat)+1)*KK+((1:Nat):Int)) 0:=aV n;obtain⟨k,g,Y,r⟩:=Z v 1 aa aa L;by_cases L:v=0;subst L;obtain⟨K,I⟩:=Y ⟨rfl,rfl⟩;refine H g (xf w (stA X.5) _) (n.setSt _) R T aa (@WSit.d2 ⟨d⟩ _ _ _ _ _ _ _ _ _ _ _ _ _ I) rfl aa (λs m _=>?_) (λe=>absurd e<|G aa)<|.inl aa;have L:∀o,o<X.n+1->o≠a->(S.D o).1=1:=λo B e=>by
   have ax:=others_uncounted x Q a4 o B e;have:=U o B;simp only[cnt]at ax;split at ax<;>omega
  have:=JU (j:=X.n+1) (D:=upd S.D a ⟨4,K,1⟩) (tag:=S.6) a M x (cw upd_same) (λo B e=>by rw[upd_ne S.D _ e];exact L o B e);rw[upd_same]at this;exact JV (aV this) m;obtain⟨q,r⟩:=r aa;have a1:Vc (X.n+1) (upd S.D a ⟨1,q,1⟩)=v:=dX (Vc_upd S.D (⟨1,q,1⟩:WD) x)<|a0 q;refine H g (xf w (stA X.5) _) (n.setSt _) R T aa (@WSit.quit ⟨d⟩ _ _ _ _ _ _ _ _ _ _ _ _ _ _ r) rfl aa (λs m _=>?_) (λe=>absurd e<|G aa)<|.inl aa;have e:((v:Nat):Int)*KK+((1:Nat):Int)=((Vc (X.n+1) (upd S.D a ⟨1,q,1⟩):Nat):Int)*KK+1:=cw a1;rw[e];exact(aeE M (a2 q U) aa).retag m;obtain⟨k,u,es,g,⟨rfl,rfl⟩,C⟩:=y w<|@RW.refl ⟨d⟩ _ _ _ _ _ _ w;exact N g (@WSit.d1 ⟨d⟩ _ _ _ _ _ _ _ _ _ _ _ _ _ C) rfl aa aa
 |d2 h=>
  obtain F|⟨p,rfl,y⟩:=mm h;obtain⟨_,M⟩:=F w<|@RW.refl ⟨d⟩ _ _ _ _ _ _ w;obtain⟨v,L,rfl,rfl⟩:=J.isLast x aa;simp[E]at n;obtain⟨k,g,K,I⟩:=M<|aV n;refine H g (.refl X.5 w) n (by intro e c;simp at c;subst c;exact bk_cell _ _ rfl) (by intro l e c;match l,c with|0,_=>exact .inr (by simp[deafBehind])|l+1,c=>simp at c) aa (@WSit.d3 ⟨d⟩ _ _ _ _ _ _ _ _ _ _ _ _ _ I) rfl aa (λs m _=>?_) (λe=>absurd e<|G aa)<|.inl aa;have:=JU (j:=X.n+1) (D:=upd S.D a ⟨3,K,1⟩) (tag:=S.6) a v x (cw upd_same) (λo B e=>by rw[upd_ne S.D _ e];exact L o B e);rw[upd_same]at this;exact JV (aV this) m;obtain⟨k,u,es,g,⟨rfl,rfl⟩,C⟩:=y w<|@RW.refl ⟨d⟩ _ _ _ _ _ _ w;exact N g (@WSit.d2 ⟨d⟩ _ _ _ _ _ _ _ _ _ _ _ _ _ C) rfl aa aa
 |d3 h=>
  obtain F|⟨p,rfl,y⟩:=mm h;obtain⟨_,M⟩:=F w<|@RW.refl ⟨d⟩ _ _ _ _ _ _ w;obtain⟨v,L,rfl,rfl⟩:=J.isLast x aa;simp only[E]at n;obtain⟨k,g,K,I⟩:=M<|aV n;refine H g (xf w (stA X.5) _) (n.setSt 0) (by intro e c;simp at c;subst c;exact bk_cell _ _ rfl) (by intro l e c;match l,c with|0,_=>exact .inr (by simp[deafBehind])|l+1,c=>simp at c) aa (@WSit.d4 ⟨d⟩ _ _ _ _ _ _ _ _ _ _ _ _ _ I) rfl aa (λs m _=>?_) (λe=>absurd e<|G aa)<|.inl aa;have:=JU (j:=X.n+1) (D:=upd S.D a ⟨2,K,1⟩) (tag:=S.6) a v x (cw upd_same) (λo B e=>by rw[upd_ne S.D _ e];exact L o B e);rw[upd_same]at this;exact JV (aV this) m;obtain⟨k,u,es,g,⟨rfl,rfl⟩,C⟩:=y w<|@RW.refl ⟨d⟩ _ _ _ _ _ _ w;exact N g (@WSit.d3 ⟨d⟩ _ _ _ _ _ _ _ _ _ _ _ _ _ C) rfl aa aa
 |d4 h=>
  obtain F|⟨p,rfl,y⟩:=mm h;obtain⟨_,I,M⟩:=F w<|@RW.refl ⟨d⟩ _ _ _ _ _ _ w;obtain⟨v,L,rfl,rfl⟩:=J.isLast x aa;simp only[E]at n;obtain⟨k,g,q,r⟩:=M<|aV n;have x:k.3=.running:=by
   cases q with
   |zero=>exact absurd r.2 aA
   |succ q=>exact r.elim (λA=>absurd A.2 aA) λA=>A.1
  refine H g (xf w (smA X.5) _) (n.setSm 1) (es:=semEvents<|smA X.5) ?_ ?_ aa (@WSit.quit ⟨d⟩ _ _ _ _ _ _ _ _ _ _ _ _ _ _ r) (by simp[deafBehind,semEvents]) aa ?_ (λe=>absurd e<|G aa)<|.inl aa;intro e c;simp[semEvents]at c;obtain rfl|rfl|rfl|rfl:=c;exact .inl rfl;exact bk_cell _ _ rfl;exact bk_cell _ _ rfl;exact .inr<|.inl rfl;intro l e c
  match l,c with
  |0,c=>simp[semEvents]at c;subst c;exact .inl rfl
  |1,_=>exact .inr (by simp[deafBehind,semEvents])
  |2,_=>exact .inr (by simp[deafBehind,semEvents])
  |3,c=>simp[semEvents]at c;subst c;exact .inl rfl
  |l+4,c=>simp[semEvents]at c
  intro s m A;have p:=A I x;have x:s=.w3:=by
   obtain rfl|⟨_,rfl⟩:=m;generalize S.6=A at v p;cases A<;>first|rfl|exact v.elim|exact absurd rfl p
   rfl
  subst x;simp only[if_true];exact .sema λo B=>by
   by_cases e:o=a;subst e;rw[upd_same];rw[upd_ne S.D _ e];exact L o B e
  obtain⟨k,u,es,g,⟨rfl,rfl⟩,C⟩:=y w<|@RW.refl ⟨d⟩ _ _ _ _ _ _ w;exact N g (@WSit.d4 ⟨d⟩ _ _ _ _ _ _ _ _ _ _ _ _ _ C) rfl aa aa
 |quit r=>
  cases V with
  |zero=>rw[r.1]at P;cases P
  |succ q=>
   obtain⟨o,_⟩|⟨_,k,es,g,y,r⟩:=r;rw[o]at P;cases P;have O:∀e∈es,Bk X.5 e:=λe c=>bk_of_mute<|g e c;have k:∀l e,es[l]?=some e->(pz e).touch?=none∨0<deafBehind dd (es.extract 0 l):=λl e c=>.inl<|H8<|g e<|Au c;refine H (y w) (.refl X.5 w) n O k aa (@WSit.quit ⟨d⟩ _ _ _ _ _ _ _ _ _ _ _ _ _ _ r) rfl aa (λs m _=>by have:=J.same (i:=a) q<|deafBehind dd es;rw[E]at this;exact this.retag m) (λe=>(h.25 e).B λop d h _ _=>?_)<|.inr ⟨rfl,aa⟩;obtain⟨e,c,rfl⟩:=qs d;exact H8<|g e c
end
end
section
open Go.Conc
open Go.ConcN (upd upd_same upd_ne sumTo WD CTag WgLive ShN RelBy)
open Go.ConcR (KK WgAt stA smA)
def jP(X:dn)(W:jc)(S:dN)(gs:Array cf)(w:ag)(p:Nat):Prop:=
 (p=X.n+1->∃a,gs[0]?=some a∧dM X S.j (pJ (X.n+1) S.D) S.k (bA S.c (X.n+1)) (S.c.r (X.n+1)) w a S.6 S.7 S.8 S.μs S.μr)∧
 (p<S.j->∃g,gs[W.m+p]?=some g∧fB X p (S.k (p- 1)) (S.k p) (bA S.c p) (aQ S.c p) (S.c.r p) w g (S.D p) (S.μ p))
section
variable{X:dn}{W:jc}{S S':dN}{gs gs':Array cf}{w w':ag}{t:ez}
theorem bo.qI(h:bo X W S gs w t)(p):jP X W S gs w p:=⟨λ_=>h.4,h.6 p⟩
theorem aae(P:bj)(a:cf)(w':ag)(g:cf):woken P default a w' g=g:=by
 unfold woken;have:mayWake P default=false:=rfl;grind
variable{r:CTag}{z:WD}
theorem fB.I{r:aG}(h:fB X a e n y b7 r w b z k)(f:r.Fits X.P X.F w)(g:r.Fits X.P X.F w')(i:WgLive X.4 X.5 w->WgLive X.4 X.5 w')
  (c:0<a->w'.1[e]?=some y.B)(d:w'.1[n]?=some b7.B):fB X a e n y b7 r w' b z k:=by
 have:=h.B f g i (λ_=>c) (.inl d) default default;rwa [aae]at this
theorem dM.O{l:Nat->Nat}{j:cf}{tag:CTag}(h:dM X e a l y g w j tag o n k J)(v:g.Fits X.P X.F w')(x:WgLive X.4 X.5 w->WgLive X.4 X.5 w'):
  dM X e a l y g w' j tag o n k J:=by
 have d:cn _ _ g _ _ w _:=⟨λ_=>v,x⟩;have f:=λm b p=>cn.I (P:=X.P) (F:=X.F) (r:=g) (ty:=X.4) (wg:=X.5) m b p;cases h with
 |pre c h=>exact .pre c h
 |a1 c h=>exact .a1 c<|kS f h d
 |a2 c h=>exact .a2 c<|kS f h d
 |a3 c h=>exact .a3 c<|kS f h d
 |a4 c h=>exact .a4 c<|kS f h d
 |a5 c h=>exact .a5 c<|kS f h d
 |spawn A i h=>exact .spawn A i h
 |recv c i h z=>exact .recv c i h z
 |eV c h u=>exact .eV c h u
 |post c h=>exact .post c h
 |wait B c t h=>
  let⟨C,s,q⟩:=h.I a d;rw[<-q rfl];exact .wait _ c t s
theorem jP.B(h:jP X W S gs w a)(p:S'.j=S.j)(q:S'.k=S.k)(n:S'.D=S.D)(F:S'.6=S.6)(y:S'.7=S.7)(z:S'.8=S.8)(E:S'.μs=S.μs)(r:S'.c.r a=S.c.r a)
  (o:0<a->aQ S'.c (a- 1)=aQ S.c (a- 1))(D:a<S.j->aQ S'.c a=aQ S.c a)(eμ:S'.μ a=S.μ a)(eμr:a=X.n+1->S'.μr=S.μr)(A:a<S.j->gs'[W.m+a]?=gs[W.m+a]?)(B:a=X.n+1->gs'[0]?=gs[0]?)
  (t:(S.c.r a).Fits X.P X.F w)(j:(S.c.r a).Fits X.P X.F w')(l:WgLive X.4 X.5 w->WgLive X.4 X.5 w')(G:0<a->a<S.j->w'.1[S.k<|a- 1]?=some (aQ S.c<|a- 1).B)(s:a<S.j->w'.1[S.k a]?=some (aQ S.c a).B):jP X W S' gs' w' a:=by
 refine⟨λx=>?_,λc=>?_⟩;subst x;obtain⟨v,i,d⟩:=h.1 rfl;refine⟨v,aw (B rfl) i,?_⟩;have C:bA _ _=bA _ _:=o<|Nat.succ_pos _;rw[p,q,n,F,y,z,E,r,C,eμr rfl];exact d.O j l;rw[p]at c;obtain⟨g,i,d⟩:=h.2 c;refine⟨g,aw (A c) i,?_⟩;rw[q,n,r,D c,eμ];obtain f|f:=rC a;subst f;have:∀u e m,fB X 0 (S.k<|0- 1) (S.k 0) u (aQ S.c 0) (S.c.r 0) w g e m->fB X 0 (S.k<|0- 1) (S.k 0) (bA S'.c 0) (aQ S.c 0) (S.c.r 0) w g e m:=by
  intro u e m J;cases J with
  |recv I=>omega
  |eV I=>omega
  |work k h b=>exact .work k h b
  |send k h b=>exact .send k h b
  |iE K h b H=>exact .iE K h b H
  |shut h b=>exact .shut h b
  |tail h b=>exact .tail h b
 exact(this _ _ _ d).I t j l aa<|s c;rw[BU]at d⊢;rw[o f];exact d.I t j l (λh=>G h c)<|s c
theorem aao(h:b.5=none)(a)(s:Bool):offersAt {b with status:=.blocked} a s= []:=by
 unfold offersAt;rw[h]
theorem bo.O(h:bo X W S gs w t){y:cf}(f:gs[a]?=some y)(b)(s:Bool):offersAt y b s= []∨
  (∃fr cs,a=0∧S.j=X.n+1∧y=parked (G fr cs) #[rcase (S.k X.n) X.z] (.recv true)∧s=false∧b=S.k X.n)∨
  (∃i fr cs,0<i∧i<S.j∧a=W.m+i∧y=parked (G fr cs) #[rcase (S.k<|i- 1) X.z] (.recv true)∧s=false∧b=S.k (i- 1))∨
  (∃i fr cs C D,i<S.j∧a=W.m+i∧y=parked (G fr cs) #[scase (S.k i) C D] .send∧s=true∧b=S.k i):=by
 have run:y.3=.running∨y.3=.finished->offersAt y b s= []:=λh=>offersAt_of_not_blocked (by grind) b s;obtain rfl|A:=rC a;let⟨n,I,e⟩:=h.4;obtain rfl:y=n:=by grind
 have L:∀(tag:CTag)(j:Bool)(dd:Nat)(m l:aU),dM X S.j (pJ (X.n+1) S.D) S.k (bA S.c<|X.n+1) (S.c.r<|X.n+1) w y tag j dd m l->offersAt y b s= []∨(∃fr cs,S.j=X.n+1∧y=parked (G fr cs) #[rcase (S.k X.n) X.z] (.recv true)∧s=false∧b=S.k X.n):=by
  intro tag j dd m l e;obtain d|⟨d,_⟩:=e.B;exact .inl<|run<|.inl d;cases e with
  |eV u h q=>
   cases s with
   |true=>exact .inl<|offersAt_parked_recv' ..
   |false=>
    rw[JW];grind
  |wait E u o k=>
   obtain⟨H,_⟩|⟨_,rfl⟩:=k.B λg w h=>(o g w h).1;grind;cases k with
   |blk p=>exact .inl<|aao (p w<|.B w).2.1 b s
  |pre _ _=>grind
  |a1 _ h=>grind
  |a2 _ h=>grind
  |a3 _ h=>grind
  |a4 _ h=>grind
  |a5 _ h=>grind
  |spawn _ c _=>grind
  |recv _ c _ _=>rw[c.2.2.1]at d;grind
  |post _ _=>cases d
 grind;by_cases B:a<W.m;exact .inl<|run (h.5 a y A B f).status;have v:=(fU.1 f).1;rw[h.2]at v;obtain⟨i,rfl⟩:∃i,a=W.m+i:=⟨a- W.m,aa⟩;have r:i<S.j:=aa;let⟨g,c,d⟩:=h.6 i r;obtain rfl:y=g:=by grind
 generalize S.D i=F at d;generalize S.μ i=M at d;cases d with
 |recv _ c _ _ _=>exact .inl<|run<|.inl c.2.2.1
 |eV K h q x=>
  cases s with
  |true=>exact .inl<|offersAt_parked_recv' ..
  |false=>
   rw[JW];grind
 |work c _ _=>exact .inl<|run<|.inl c.2.2.1
 |send c _ _=>exact .inl<|run<|.inl c.2.2.1
 |iE f h x J=>
  cases s with
  |false=>exact .inl<|offersAt_parked_send' ..
  |true=>
   rw[offersAt_parked_send];grind
 |shut _ _=>exact .inl<|run<|.inl rfl
 |tail z _=>exact .inl<|run z.B
theorem bo.ac(h:bo X W S gs w t)(c:a<S.j)(d:e<S.j)(b:S.k a=S.k e):a=e:=h.10.6 a e _ _ (h.B c) (h.B d) b
theorem bo.al(h:bo X W S gs w t){c G:Nat}(d:c<S.j)(k:∀fr cs v b,gs[W.m+c]? ≠some (parked (HY fr cs) #[scase (S.k c) v b] .send)∨G=W.m+c):partners (gs.setIfInBounds G ph) (S.k c) true= []:=by
 refine partners_nil λx y i=>?_;obtain⟨_,rfl⟩|⟨j,g⟩:=H9 gs G x y i;rfl;obtain a|⟨_,_,_,_,_,a,_⟩|⟨_,_,_,_,_,_,_,a,_⟩|⟨l,fr,cs,v,b,e,rfl,rfl,_,f⟩:=h.O g (S.k c) true;omega;grind;grind;cases h.ac d e f;grind
theorem bo.EG(h:bo X W S gs w t){c G:Nat}(b:c<S.j)(d:∀fr cs,gs[gid W.m X.n<|c+1]? ≠some (parked (HY fr cs) #[rcase (S.k c) X.z]<|.recv true)∨G=gid W.m X.n (c+1)):partners (gs.setIfInBounds G ph) (S.k c) false= []:=by
 refine partners_nil λx y a=>?_;obtain⟨_,rfl⟩|⟨e,g⟩:=H9 gs G x y a;rfl;obtain e|⟨fr,cs,rfl,a,rfl,_,a⟩|⟨i,fr,cs,f,f,rfl,rfl,_,a⟩|⟨_,_,_,_,_,_,_,_,e,_⟩:=h.O g (S.k c) false;omega;cases h.ac b aa a;rw[pN]at d;grind;have e:=h.ac b aa a;obtain rfl:i=c+1:=aa;rw[jA (h.le f)]at d;grind;grind
theorem bo.oQ(b:bo X W S gs w t)(k:a<S.j)(o:gs[W.m+a]?=some (parked (HY f h) #[scase (S.k a) c s] .send))(i:e≠W.m+a):partners (gs.setIfInBounds e ph) (S.k a) true= [(W.m+a,0)]:=by
 rw[partners_one (j:=W.m+a) (g:=parked _ _ _) (by rw[mQ i];exact o) λx y n q=>?_];rw[offersAt_parked_send,if_pos rfl];rfl;obtain⟨_,rfl⟩|⟨_,p⟩:=H9 gs e x y q;rfl;obtain d|⟨_,_,_,_,_,d,_⟩|⟨_,_,_,_,_,_,_,d,_⟩|⟨r,f,h,c,s,l,rfl,rfl,_,m⟩:=b.O p (S.k a) true;omega;grind;grind;exact absurd (fN<|b.ac k l m) n
theorem bo.xN(b:bo X W S gs w t)(d:a<S.j)(i:gs[gid W.m X.n<|a+1]?=some (parked (HY f h) #[rcase (S.k a) X.z]<|.recv true))(c:e≠gid W.m X.n (a+1)):partners (gs.setIfInBounds e ph) (S.k a) false= [(gid W.m X.n<|a+1,0)]:=by
 rw[partners_one (j:=gid _ _<|a+1) (g:=parked _ _<|.recv _) (by rw[mQ c];exact i) λx y i c=>?_];rw[JW,if_pos rfl];rfl;obtain⟨_,rfl⟩|⟨_,m⟩:=H9 gs e x y c;rfl;obtain k|⟨f,h,rfl,c,rfl,_,c⟩|⟨n,f,h,l,l,rfl,rfl,_,c⟩|⟨_,_,_,_,_,_,_,_,k,_⟩:=b.O m (S.k a) false;omega;cases b.ac d aa c;rw[pN]at i;omega;have k:=b.ac d aa c;obtain rfl:n=a+1:=aa;rw[jA (b.le l)]at i;omega;grind
end
end
section
open Go.Conc Go.Conc.Lib
open Go.ConcN (RW AtR0 WgLive Has)
open Go.ConcR (DC0)
section
variable{P:bj}{mb:Bool}{F:bw->Bool}{Stop:aG->az->List az->Prop}{r:aG}{c:az}{cs:List az}
variable{b5:Func}
theorem CU(b:P.funcs[d6]?=some b5)(a:b5.8= #[])(h:ar P mb F Stop r (c.finish<|.tuple #[]) cs):ar P mb F Stop r ((base d6).at ⟨t,[]⟩ [])<|c::cs:=by
 exact ar.B (λw=>stepG_end) (ar.B (λw=>DO rfl rfl b (DW a _ P w)<|events_results_none a _ _) h)
theorem CV{c:az}{b:bK}{k:List fJ}{f:bw}{args:Array aq}(g:a6[a]?=some a9)(j:cV a9 (yielded a6 b.1)=true)(e:c.6≠ .early)
  (i:∀w,(execOp b.eval a9).run P w=.ok (.enter f args) w)(d:∀w,(execOp b.eval a9).events P w #[]= #[])(h:ar P mb F Stop r (ej P f args .normal)<|c.at b (.inRegion a6 (a::N)::k)::cs):
  ar P mb F Stop r (c.at b<|.inRegion a6 (a::N)::k) cs:=by
 refine .V (λw _=>⟨_,stepG_enter g j e<|i w,λe b=>?_⟩) h;have:=uR b;rw[d w]at this;simp at this
theorem rh{c:az}{b:bK}{k:List fJ}{f:bw}{d:Array bB}{vals:Array aq}(j:a6[a]?=some a9)(m:cV a9 (yielded a6 b.1)=true)(i:c.6≠ .early)
  (g:a9.2=.call {callee:=.value<|.func f,args:=f5,argTypes:=d})(e:P.funcs[f]?=some b5)(d:(b5.1== "runtime.NumGoroutine")=false)(d:b5.9.isNone=false)(l:f5.map b.eval=vals)
  (h:ar P mb F Stop r (ej P f vals .normal)<|c.at b (.inRegion a6 (a::N)::k)::cs):
  ar P mb F Stop r (c.at b<|.inRegion a6 (a::N)::k) cs:=by
 subst l;exact CV j m i (λw=>JX g e aa d) (λw=>JY g e aa d _) h
theorem td{b:bK}{k:List fJ}{blk:Nat}{x:aq}{ety:bB}(e:a6[a]?=some a9)(i:cV a9 (yielded a6 b.1)=true)(d:f.6≠ .early)
  (c:r.e blk=some (.cells #[x] ety (0,0))∨r.s blk=some (.cells #[x] ety (0,0)))
  (g:∀w,w.cell? ⟨blk,0,none⟩=some x->(execOp b.eval a9).run P w=.ok (.value x) w∧(execOp b.eval a9).events P w #[]= #[⟨.cell ⟨blk,0,none⟩,false,false⟩])
  (h:ar P mb F Stop r (f.at (b.put a9.1 x)<|.inRegion a6 N::k) cs):ar P mb F Stop r (f.at b<|.inRegion a6 (a::N)::k) cs:=by
 refine .Z x e i d (λw b=>?_) h;obtain⟨d,e⟩:=g w (by simp[gK,(c.elim (b.e _ _)<|b.s _ _)]);refine⟨d,λb b=>?_⟩;rw[e]at b;simp at b;subst b;exact⟨rfl,c.elim (λh=>.inl<|.inl<|cw h) λh=>.inr ⟨rfl,cw h⟩⟩
noncomputable def bot:Frame:={ (default:az)with fn:=Tryz.prog.funcs.size,defers:= [],mode:=.panicking [goexitEntry]}
theorem baseD_kind(f:bw):(baseD f).6≠ .early:=by unfold baseD;simp
theorem aa7(a:Tryz.prog.funcs[d6]?=some b5)(b:b5.8= #[]):H6 Tryz.prog 2 0<|G { (baseD d6).at ⟨t,[]⟩ []with mode:=.returning} [bot]:=by
 refine QuitsD.ctl (g':=G bot []) rfl (λw=>?_) ?_;simp[G,stepG,unwind,doReturn,Frame.at,baseD,bot,a,results,b,seen,tS,goexitEntry];refine QuitsD.ctl (g':={G bot []with status:=.finished}) rfl (λw=>?_) ⟨rfl,rfl⟩;rfl
end
section
variable{X:dn}{r:aG}
variable{b5:Func}
theorem Pq(d:X.P=Tryz.prog)(i:X.4=272){f:bw}{T:Array aq}(e:Tryz.prog.funcs[f]?=some b5)(h:b5.8= #[])(g:r.1=none)(b:r.e a=some (.cells #[c] C)):
  ar X.P false X.F (tW X) r ((baseD f).at ⟨T,[dcall 151 #[X.5]]⟩ []) [bot]:=by
 rw[d];apply ar.B (λw=>stepG_end);refine ar.B (λw=>stepG_unwind_enter rfl func151 rfl rfl) ?_;refine .O ⟨C,a,c,23,g,b,λw j g=>?_⟩;rw[d,i]at*;have:= @WT ⟨C⟩ G7 X.5 a 1 0 1 c ({ (baseD f).at ⟨T,[]⟩ []with mode:=.returning}) [bot] 2 Tryz.prog C8 rfl (aa7 e h) w ⟨g,?_⟩;exact this;have:=j.e a _ b;simp[Has,gK,this]
end
end
section
open Go.Conc Go.Conc.Lib
structure oI(X:dn):Prop where
 P:X.P=Tryz.prog
 ty:X.4=272
 item:X.kj=vo
 held:Held Tryz.prog X.F
 z:X.z=sH
 grow:∀i xs f f' v v',X.7 i xs f v->f.O f'->Grown v v'->(∃w,Fit Tryz.prog X.F f' v' w)->X.7 i xs f' v'
 dom:∀i xs f v,X.7 i xs f v->mV f v
abbrev BJ(wg b a:Nat):Deferred:={target:=.fn (.func 150) #[wg,b,a],args:= #[]}
abbrev C_(wg a d b c:Nat):Deferred:={target:=.fn (.func 153) #[wg,a,d,b,c],args:= #[]}
abbrev Fs:Array Oper:= #[{dst:=some 3,op:=qm 274 (bz 1),type:=274,pos:= "pipe.go:49",after:= #[],guard:=none},
 {dst:=some 4,op:=qm 93 (bz 2),type:=93,pos:= "pipe.go:49",after:= #[],guard:=none},
 {dst:=some 5,op:=nE {callee:=nD (oG 152),args:= #[bz 3,bz 4],argTypes:= #[353,93]},type:=0,pos:= "pipe.go:49",after:= #[{on:=0,ground:=cY},{on:=1,ground:=cY}],guard:=none}]
abbrev Fi:Array Oper:= #[{dst:=none,op:=Ri {callee:=nD (oG 151),args:= #[bz 0],argTypes:= #[272]},type:=0,pos:= "pipe.go:48",after:= #[],guard:=none}]
theorem Tv:f150.9=some ((bH 0 Fi false).seq<|bH 1 Fs false):=rfl
theorem TA(c b a)(w:ag):stepG Tryz.prog false (G (born Tryz.prog<|BJ c b a).1 []) w=
  .go (G ((baseD 150).at ⟨#[c,b,a,aj,aj,aj],[]⟩ [.code<|(bH 0 Fi false).seq<|bH 1 Fs false]) [bot]) w #[]:=by
 have a:(f150.1== "runtime.NumGoroutine")=false:=rfl;simp at a;simp[born,stepG,unwind,callDeferred,invoke,callFunc,Tv,a,seen,tS,G,ej,Frame.at,baseD,bot]
section
variable{X:dn}{e s:Nat->Option bI}
variable{i:List bn}
theorem XM(a:oI X){b b8 b4:Nat}{s0 c:aq}{g:List bn}(l:e b8=some (.cells #[.chan<|some b] 274 (0,0))∨s b8=some (.cells #[.chan<|some b] 274 (0,0)))(h:e b4=some (.cells #[c] 93 (0,0)))
  (n:g.length<=1099511627776)(p:X.7 0 (g.map bn.I) j d)(m:iv d s0 g)(g:av X.F j s0 c):
  ar X.P false X.F (su X 0 b) ⟨some (j,d),e,s⟩ (born Tryz.prog<|BJ X.5 b8 b4).1 []:=by
 unfold su;rw[a.P,a.3];apply ar.B (λw=>TA _ _ _ w);apply ar.B (λw=>cM);apply ar.B (λw=>fK);apply ar.B (λw=>stepG_defer (ops:=Fi) (i:=0) rfl rfl (baseD_kind _) rfl);apply ar.B (λw=>cE);apply ar.B (λw=>fK);refine td (blk:=b8) (x:=.chan<|some _) (ety:=274) rfl rfl (baseD_kind _) l (λw ax=>⟨by simp[go_sem,ax],by simp[go_sem,ax]⟩) ?_;refine td (blk:=b4) (x:=c) (ety:=93) rfl rfl (baseD_kind _) (.inl h) (λw ax=>⟨by simp[go_sem,ax],by simp[go_sem,ax]⟩) ?_;walk_nrm;apply rh (f:=152) (vals:= #[.chan<|some b,c]) rfl rfl (baseD_kind _) rfl func152 rfl rfl (by simp[lH]);refine O7 (k:=λ_=>b) (Dn:=λ_=>tW X) a.4 n (a.6 0 _) (λT=>?_) p m g;apply ar.B (λw=>cE);apply CU func152 rfl;rw[Frame.B (o:=Fs[2]) rfl];apply ar.B (λw=>cE);have:=Pq (X:=X) (r:=⟨_,e,s⟩) a.P a.2 (f:=150) (T:= #[X.5,b8,b4,.chan<|some b,c,.tuple #[]]) func150 rfl rfl h;rw[a.P]at this;exact this
end
end
section
open Go.Conc
theorem MM(t)(a:t<5):∀(a:List bn)(j) (x:bn),a[j]?=some x->(a.flatMap bn.B)[j*5+t]?=x.B[t]? :=by
 intro a;induction a with
 |nil=>grind
 |cons z a a=>
  intro j x h;have a:z.B.length=5:=rfl;grind
variable{e8 i:List bn}
theorem fy.I{w:ag}(h:fy w c i):w.ownsRow 0 156 5 c i<|i.flatMap bn.B:=by
 refine⟨vW _,?_⟩;obtain⟨rfl,rfl⟩|⟨g,a,a,rfl,a,a,a,a,a,_⟩:=h;grind;grind
theorem Nw(h:d.ownsRow 0 156 5 c i<|i.flatMap bn.B):iv d c i:=by
 obtain⟨rfl,e⟩|⟨g,a,b,rfl,_,f,j,j,j,k⟩:=h.2;exact .inl ⟨Ia e,_,0,rfl⟩;refine .inr ⟨g,0,a,b,156,_,rfl,f,λj x e=>?_⟩;have a:=(iw.1 e).1;have a:∀t,t<5->b[0+j*5+t]?=x.B[t]? :=by
  intro t f;have b:=MM t f i j x e;rw[<-k,Aq,if_pos aa]at b;rw[nJ];simpa using b
 exact⟨a 0 aa,a 1 aa,a 2 aa,a 3 aa,a 4 aa⟩
theorem YB{w:ag}(b:fy w c e8)(p:iv w s i)(a:e8+i.length<=1099511627776):
  ∃e a,(rZ #[93,93] 93 #[c,s]).run Tryz.prog w=.ok e a∧iv a e (e8++i)∧w.grownBy a c.ownBlock:=by
 obtain⟨m,l,q,r,t⟩:=H5 FQ;have k:=b.I;have v:∀u∈i.flatMap bn.B,u.oneCell'=true:=by
  intro u g;obtain⟨x,_,h⟩:=JP.1 g;simp[bn.B]at h;rcases h with rfl|rfl|rfl|rfl|rfl<;>rfl
 have y:∀d f,s=.slice (some d) i.length f->(∀j u,(i.flatMap bn.B)[j]?=some u->w.cell? (d.add j)=some u)->
   ∃e a,(rZ #[93,93] 93 #[c,s]).run Tryz.prog w=.ok e a∧iv a e (e8++i)∧w.grownBy a c.ownBlock:=by
  rintro d f rfl h;obtain⟨e,a,b,n,o,_⟩:=run_append_own (P:=Tryz.prog) w 0 93 93 156 m _ 5 48 zb l q r t rfl aa c e8.length _ k d i.length f _ (vW i) h v (by simp[maxLen];omega) aa<|nK _;refine⟨e,a,b,Nw ?_,o⟩;rw[kK,JZ];exact n
 obtain⟨rfl,d,f,rfl⟩|⟨a,o,f,cc,e,fr,rfl,e,h⟩:=p;cases d with
 |some d=>simp_all
 |none=>
  have b:=run_append_owned_none (P:=Tryz.prog) w 0 _ 93 _ m 5 zb l _ _ _ k;refine⟨c,w,?_,aw vD<|Nw k,World.grownBy.refl _ _⟩;first|exact b|simpa using b
 refine y _ _ rfl λj u g=>?_;have d:(⟨a,o,_⟩:bC).add j=⟨a,o+j,_⟩:=Addr.add_lit ..;rw[d];have d:=(iw.1 g).1;rw[vW]at d;let⟨x,d⟩:∃x,i[j/5]?=some x:=⟨_,cy aa⟩;have b:=MM (j % 5) aa _ _ x d;rw[show j/5*5+j % 5=j by omega,g]at b;let⟨f,g,k,l,m⟩:=h _ x d;have d:w.cell? ⟨a,o+j,none⟩=cc[o+j]? :=by simp[gK,e]
 rw[d];have:j % 5=0∨j % 5=1∨j % 5=2∨j % 5=3∨j % 5=4:=aa;rcases this with e|e|e|e|e<;>rw[e]at b<;>rw[b];rw[show o+j=o+j/5*5 by omega,f];rfl;rw[show o+j=o+j/5*5+1 by omega,g];rfl;rw[show o+j=o+j/5*5+2 by omega,k];rfl;rw[show o+j=o+j/5*5+3 by omega,l];rfl;rw[show o+j=o+j/5*5+4 by omega,m];rfl
end
section
open Go.Conc Go.Conc.Lib
abbrev PM:Array Oper:= #[{dst:=some 9,op:=iI (bz 2),type:=354,pos:= "pipe.go:68",after:= #[],guard:=none},
 {dst:=some 10,op:=nE {callee:=nD (oG 155),args:= #[bz 9],argTypes:= #[354]},type:=93,pos:= "pipe.go:68",after:= #[{on:=0,ground:=cY}],guard:=none},
 {dst:=some 8,op:=pB (bz 10),type:=93,pos:= "pipe.go:68",after:= #[{on:=1,ground:=cY},{on:=1,ground:=vd},{on:=0,ground:=gQ},{on:=1,ground:=gQ}],guard:=none}]
abbrev qc:Array Oper:= #[{dst:=some 11,op:=iI (bz 3),type:=353,pos:= "pipe.go:69",after:= #[],guard:=none},
 {dst:=some 12,op:=iI (bz 8),type:=93,pos:= "pipe.go:69",after:= #[],guard:=none},
 {dst:=some 13,op:=iI (bz 1),type:=169,pos:= "pipe.go:69",after:= #[],guard:=none},
 {dst:=some 14,op:=iI (bz 0),type:=171,pos:= "pipe.go:69",after:= #[],guard:=none},
 {dst:=some 15,op:=iI (bz 8),type:=93,pos:= "pipe.go:69",after:= #[],guard:=none},
 {dst:=some 16,op:=nE {callee:=nD (bz 13),args:= #[bz 14,bz 15],argTypes:= #[171,93]},type:=93,pos:= "pipe.go:69",after:= #[{on:=2,ground:=cY},{on:=3,ground:=cY},{on:=4,ground:=cY}],guard:=none},
 {dst:=some 17,op:=nE {callee:=zC Rc,args:= #[bz 12,bz 16],argTypes:= #[93,93]},type:=93,pos:= "pipe.go:69",after:= #[{on:=1,ground:=cY},{on:=5,ground:=cY},{on:=5,ground:=vd}],guard:=none},
 {dst:=some 18,op:=nE {callee:=nD (oG 152),args:= #[bz 11,bz 17],argTypes:= #[353,93]},type:=0,pos:= "pipe.go:69",after:= #[{on:=0,ground:=cY},{on:=6,ground:=cY},{on:=6,ground:=vd}],guard:=none}]
abbrev Fj:Array Oper:= #[{dst:=none,op:=Ri {callee:=nD (oG 151),args:= #[bz 0],argTypes:= #[272]},type:=0,pos:= "pipe.go:55",after:= #[],guard:=none}]
abbrev BG:Array Oper:= #[{dst:=some 5,op:=qm 171 (bz 1),type:=171,pos:= "pipe.go:56",after:= #[],guard:=none},
 {dst:=some 6,op:=qm 169 (bz 2),type:=169,pos:= "pipe.go:56",after:= #[],guard:=none},
 {dst:=some 7,op:=qm 274 (bz 3),type:=274,pos:= "pipe.go:56",after:= #[],guard:=none},
 {dst:=some 8,op:=qm 274 (bz 4),type:=274,pos:= "pipe.go:56",after:= #[],guard:=none},
 {dst:=some 9,op:=nE {callee:=nD (oG 154),args:= #[bz 5,bz 6,bz 7,bz 8],argTypes:= #[171,169,354,353]},type:=0,pos:= "pipe.go:56",after:= #[{on:=0,ground:=cY},{on:=1,ground:=cY},{on:=2,ground:=cY},{on:=3,ground:=cY}],guard:=none}]
theorem Tw:f153.9=some ((bH 0 Fj false).seq<|bH 1 BG false):=rfl
theorem TB(e a d b c)(w:ag):stepG Tryz.prog false (G (born Tryz.prog<|C_ e a d b c).1 []) w=
  .go (G ((baseD 153).at ⟨#[e,a,d,b,c,aj,aj,aj,aj,aj],[]⟩ [.code<|(bH 0 Fj false).seq<|bH 1 BG false]) [bot]) w #[]:=by
 have a:(f153.1== "runtime.NumGoroutine")=false:=rfl;simp at a;simp[born,stepG,unwind,callDeferred,invoke,callFunc,Tw,a,seen,tS,G,ej,Frame.at,baseD,bot]
abbrev Ha(lay part:aq)(a b:Nat):Frame:=(base 154).at ⟨#[lay,part,.chan (some a),.chan (some b),aj,aj,aj,aj,aj,.chan (some a),aj,aj,aj,aj,aj,aj,aj,aj,aj],[]⟩ [.inRegion PM [1,2],.code (.region 1 qc false)]
abbrev Pf(wg c f d e:Nat)(lay part:aq)(a b:Nat):Frame:=(baseD 153).at ⟨#[wg,c,f,d,e,lay,part,.chan (some a),.chan (some b),aj],[dcall 151 #[wg]]⟩ [.inRegion BG [4]]
def tQ(F:bw->Bool)(Pre:Nat->List aq->Ren->ag->Prop)(l:Nat)(lay part:aq)(k s:Nat->Option bI):Prop:=
 ∀j(a:bK)m(cs:List az)d f(c v:ag)(s0 e) (b:List bn),
  Pre (l- 1) (b.map bn.I) d c->d.O f->Grown c v->mV f v->fy v s0 b->av F f s0 e->(∀d n g,s0=.slice (some d) n g->c<=d.1)->
  a.eval (.tmp 13)=part->a.eval (.tmp 14)=lay->a.eval (.tmp 15)=e->
  (∀c(d:ag)(e n) (i:List bn),f.O c->fy d s0 b->iv d e i->av F c e n->b+i.length<=1099511627776->
   (∀g(h:ag),c.O g->(∀(e) (o:bI),d.1[e]?=some o->some e≠s0.ownBlock->h.1[e]?=some o)->(∃w,Fit Tryz.prog F g h w)->Pre l ((b++i).map bn.I) g h)->
   ar Tryz.prog false F j ⟨some (c,d),k,s⟩ ((base 154).at (a.put (some 16) n) (.inRegion qc [6,7]::m)) cs)->
  ar Tryz.prog false F j ⟨some (f,v),k,s⟩ ((base 154).at a (.inRegion qc [5,6,7]::m)) cs
def AU(F:bw->Bool)(Pre:Nat->List aq->Ren->ag->Prop)(wg i a b:Nat)(h:List aq)(r:aG)(fr:az)(cs:List az):Prop:=
 ∃(e s:Nat->Option bI)(c g d f:Nat)(lay part:aq),e c=some (.cells #[lay] 171 (0,0))∧tQ F Pre i lay part e s∧sq F a e s (Ha lay part a b) [Pf wg c g d f lay part a b,bot] h r fr cs
section
variable{X:dn}{e s:Nat->Option bI}
theorem acS(p:oI X){i a b k h c g:Nat}{lay part:aq}(l:e k=some (.cells #[lay] 171 (0,0)))(o:e h=some (.cells #[part] 169 (0,0))∨s h=some (.cells #[part] 169 (0,0)))
  (m:e c=some (.cells #[.chan<|some a] 274 (0,0))∨s c=some (.cells #[.chan<|some a] 274 (0,0)))(n:e g=some (.cells #[.chan<|some b] 274 (0,0))∨s g=some (.cells #[.chan<|some b] 274 (0,0)))
  (q:tQ X.F X.7 i lay part e s):
  ar X.P false X.F (AU X.F X.7 X.5 i a b []) ⟨some (j,d),e,s⟩ (born Tryz.prog<|C_ X.5 k h c g).1 []:=by
 rw[p.P];apply ar.B (λw=>TB _ _ _ _ _ w);apply ar.B (λw=>cM);apply ar.B (λw=>fK);apply ar.B (λw=>stepG_defer (ops:=Fj) (i:=0) rfl rfl (baseD_kind _) rfl);walk_nrm;apply ar.B (λw=>cE);apply ar.B (λw=>fK);refine td (blk:=k) (x:=lay) (ety:=171) rfl rfl (baseD_kind _) (.inl l) (λw ax=>⟨by simp[go_sem,ax],by simp[go_sem,ax]⟩) ?_;walk_nrm;refine td (blk:=h) (x:=part) (ety:=169) rfl rfl (baseD_kind _) o (λw ax=>⟨by simp[go_sem,ax],by simp[go_sem,ax]⟩) ?_;walk_nrm;refine td (blk:=c) (x:=.chan<|some a) (ety:=274) rfl rfl (baseD_kind _) m (λw ax=>⟨by simp[go_sem,ax],by simp[go_sem,ax]⟩) ?_;walk_nrm;refine td (blk:=g) (x:=.chan<|some b) (ety:=274) rfl rfl (baseD_kind _) n (λw ax=>⟨by simp[go_sem,ax],by simp[go_sem,ax]⟩) ?_;walk_nrm;apply rh (f:=154) (vals:= #[lay,part,.chan<|some a,.chan<|some b]) rfl rfl (baseD_kind _) rfl func154 rfl rfl (by simp[lH]);have m:ej Tryz.prog 154 #[lay,part,.chan<|some a,.chan<|some b] .normal=(base 154).at ⟨#[lay,part,.chan<|some a,.chan<|some b,aj,aj,aj,aj,aj,aj,aj,aj,aj,aj,aj,aj,aj,aj,aj],[]⟩ [.code<|(bH 0 PM false).seq<|bH 1 qc false]:=by
  unfold ej;rw[func154];rfl
 rw[m];apply ar.B (λw=>cM);apply ar.B (λw=>fK);apply ar.I (.chan<|some a) rfl rfl (base_kind _) (λw=>aZ) (λw=>aZ);walk_nrm;exact rh (f:=155) (vals:= #[.chan<|some a]) rfl rfl (base_kind _) rfl func155 rfl rfl (by simp[lH]) (OO.Y λr fr cs a=>⟨e,s,k,h,c,g,lay,_,l,q,a⟩)
end
theorem Na:qc[6].2.operands= #[.tmp 12,.tmp 16]:=ah
theorem aar:jh Tryz.prog A qc[6].2=true:=by
 unfold jh;rw[Na];simp[fF,pW,GS]
section
variable{X:dn}{e s:Nat->Option bI}
variable{i:List bn}
theorem acQ(c:oI X){h a b l q n p:Nat}{lay part s0 g:aq}(v:e l=some (.cells #[lay] 171 (0,0)))(C:tQ X.F X.7 h lay part e s)
  (D:X.7 (h- 1) (i.map bn.I) g3 d4)(B:g3.O j)(A:Grown d4 d)(y:mV j d)(x:fy d s0 i)(u:av X.F j s0 g)(z:∀m E t,s0=.slice (some m) E t->d4<=m.1):
  ar Tryz.prog false X.F (EA Tryz.prog X.F (λ_=>b) X.7 vo (λ_=>tW X) h) ⟨some (j,d),e,s⟩ ((Ha lay part a b).finish g) [Pf X.5 l q n p lay part a b,bot]:=by
 have m:(Ha _ _ a b).finish _=(base 154).at ⟨#[lay,part,.chan<|some a,.chan<|some b,aj,aj,aj,aj,aj,.chan<|some a,g,aj,aj,aj,aj,aj,aj,aj,aj],[]⟩ _:=rfl;rw[m];apply ar.I g rfl rfl (base_kind _) (λw=>aZ) (λw=>aZ);apply ar.B (λw=>cE);apply ar.B (λw=>fK);apply ar.I (.chan<|some b) rfl rfl (base_kind _) (λw=>aZ) (λw=>aZ);apply ar.I g rfl rfl (base_kind _) (λw=>aZ) (λw=>aZ);apply ar.I part rfl rfl (base_kind _) (λw=>aZ) (λw=>aZ);apply ar.I lay rfl rfl (base_kind _) (λw=>aZ) (λw=>aZ);apply ar.I g rfl rfl (base_kind _) (λw=>aZ) (λw=>aZ);walk_nrm;refine C _ _ _ _ _ j _ d _ _ _ D B A y x u z rfl rfl rfl λg C g m D x y z B t A=>?_;refine ar.T (o:=qc[6]) c.4 rfl rfl (base_kind _) aar (ρ:=λ| .tmp 12=>s0| .tmp 16=>g|_=>aj)
  (Q:=λg m=>iv m g (i++D)∧∀(b:Nat)(o:bI),C.1[b]?=some o->some b≠s0.ownBlock->m.1[b]?=some o) ?_ (λT=>?_) ?_
 intro g g;rw[Na]at g;simp at g;obtain rfl|rfl:=g;exact u.B x;exact B;obtain⟨B,C,g,u,x⟩:=YB (w:=aN _ T) y z t;refine⟨_,B,C,by simp[execOp,resolve,invoke,builtin,g],.inl rfl,u,λb o g u=>?_⟩;rw[x.5 b (fU.1 g).1 u];exact g;rintro g g y m m u ⟨g,x⟩;walk_nrm;refine wL λ⟨z,x⟩=>?_;apply rh (f:=152) (vals:= #[.chan<|some b,y]) rfl rfl (base_kind _) rfl func152 rfl rfl (by simp[lH]);refine O7 (k:=λ_=>b) (Dn:=λ_=>tW X) c.4 (aw kK t) (c.6 h _) (λT=>?_) (A _ _ m aa ⟨z,x.1 _ _ rfl⟩) g u;apply ar.B (λw=>cE);apply CU func152 rfl;rw[Frame.B (o:=qc[7]) rfl];apply ar.B (λw=>cE);apply CU func154 rfl;rw[Frame.B (o:=BG[4]) rfl];apply ar.B (λw=>cE);have:=Pq (X:=X) (r:=⟨_,e,s⟩) c.P c.2 (f:=153) (T:= #[X.5,l,q,n,p,lay,part,.chan<|some a,.chan<|some b,.tuple #[]]) func153 rfl rfl v;rw[c.P]at this;exact this
theorem acR(a:oI X)(o:∀i b c,X.A i b c=AU X.F X.7 X.5 i b c)(i b c):Recvs X.P X.F (λ_=>b) X.7 X.kj false (i- 1) X.z (X.A i b c)<|su X i c:=by
 unfold su;rw[a.P,a.3,a.z,o];refine⟨λn r fr cs h z _=>?_,λn r fr cs G h x=>?_,λn r fr cs A E h m=>?_⟩;obtain⟨e,s,g,l,j,k,lay,part,d,f,h⟩:=h;exact OM h z;obtain⟨e,s,g,l,j,k,lay,part,d,f,h⟩:=h;exact(OS a.4 h x).Y λr fr cs h=>⟨e,s,g,l,j,k,lay,_,d,f,h⟩;obtain⟨e,s,g,l,j,k,lay,part,d,f,h⟩:=h;refine OP h (a.7 _ _ _ _ m) λB F s0 D H y C v u q p w t=>?_;subst y;exact acQ a d f m v u q p w t
end
end
section
open Go.Conc
open Go.ConcN (upd upd_same upd_ne sumTo WD CTag WgLive ShN RelBy Deaf_still)
open Go.ConcR (KK WgAt stA smA)
section
variable{X:dn}{W:jc}{S:dN}{gs gs':Array cf}{w w':ag}{t u:ez}
def zW(B:Nat)(G a:Nat)(op:tJ):Prop:=op.4.touch?=none∧(∀m,op.4≠ .mark m)∧op.4.low B∧(op.g=G∨op.g=a)
theorem Oq(h:∀said,¬zy said t)(q:∀op∈u,zW a e n op):∀said,¬zy said (t++u):=by
 rintro said ⟨i,j,p,⟨c,d,k,m,o⟩,r,s⟩;have g:∀l x,touchAt (t++u) l=some x->touchAt t l=some x:=by
  intro l x l;obtain b|⟨op,b,_,f⟩:=p5 l;exact b;rw[(q op b).1]at f;cases f
 exact h _ ⟨i,j,p,⟨c,d,g i c k,g j d m,o⟩,λb=>r<|vz u b,λb=>s<|vz u b⟩
theorem bo.cB(h:bo X W S gs w t)(v:a<S.j){c':dx}{μr':aU}(y:∀i,i≠a->c'.2 i=S.c.2 i)(P:c'.2 a≠none)(H:∀p,p≠a->p≠a+1->c'.r p=S.c.r p)(a8:a+1<=X.n->S.j<=a+1->c'.r (a+1)=S.c.r (a+1))
  (R:∀p x,(Go.Proofs.aQ c' a).1[p]?=some x->X.kj p x)(b0:a+1=S.j->S.j<=X.n->(Go.Proofs.aQ c' a).2=0∧((Go.Proofs.aQ c' a).3=true->∃D J,(Go.Proofs.aQ c' a).5=some (D,J)∧X.7 a (Go.Proofs.aQ c' a).1 D J))(o:fX X.P X.F S.k X.5 c' w')(O:Told (gid W.m X.n) c' w'<|t++u)(L:Handed S.k c'<|t++u)(a9:w'=w.1.size)(I:w'.1[X.5]?=w.1[X.5]?)(a1:w'.2=w.2)(V:w'.4=w.4)(Y:w'.5=w.5)
  (a0:gs'=gs.size)(A:∀x,x≠W.m+a->x≠gid W.m X.n (a+1)->gs'[x]?=gs[x]?)(hμ:∀p,p≠a->p≠a+1->b6 p=S.μ p)(hμr:a≠X.n->μr'=S.μr)
  (N:jP X W {S with c:=c',μ:=b6,μr:=μr'} gs' w' a)(M:jP X W {S with c:=c',μ:=b6,μr:=μr'} gs' w'<|a+1)
  (f:∀op∈u,zW w' (W.m+a) (gid W.m X.n<|a+1) op)(a2:a+1<=X.n->S.j<=a+1->∀op∈u,op.g=W.m+a)
  (K:(a+1<S.j∨a=X.n)->(Go.Proofs.aQ c' a).3=false->(if a+1<=X.n then b6 (a+1)else μr').1=12)(a5:(b6 a).1=12∨(S.μ a).1≠12):bo X W {S with c:=c',μ:=b6,μr:=μr'} gs' w'<|t++u:=by
 have U:WgLive X.4 X.5 w':=by obtain⟨st,a4,j⟩:=h.ao;exact⟨st,a4,I.trans j⟩
 have a6:=h.le v;have a7:=h.1;have m:∀i,i≠a->Go.Proofs.aQ _ i=Go.Proofs.aQ S.c i:=λi d=>by unfold Go.Proofs.aQ;rw[y i d]
 have B:=λr=>Deaf_still t r u λop b=>⟨(f _ b).2.1 _,(f _ b).2.1 _⟩;have G:∀p,jP X W {S with c:=c',μ:=b6,μr:=μr'} gs' w' p:=by
  intro p;by_cases k:p=a;subst k;exact N;by_cases n:p=a+1;subst n;exact M;have Q:gid W.m X.n (a+1)=if a+1<=X.n then W.m+(a+1)else 0:=rfl
  refine(h.qI p).B rfl rfl rfl rfl rfl rfl rfl (H p k n) (λE=>m _ aa) (λ_=>m _ k) (hμ p k n) (λe=>hμr aa) (λq=>A _ aa ?_) (λe=>A 0 aa ?_) (h.10.1 p) (by have:=o.1 p;rwa [H p k n]at this) (λ_=>U) (λE q=>?_) λq=>?_;have:=h.le q;rw[Q];split<;>omega;rw[jA aa];omega;by_cases e:p- 1=a;omega;have:=o.3 (p- 1) _<|(y _ e).trans<|h.B aa;exact this;exact o.3 p _<|(y _ k).trans<|h.B q
 refine h.am rfl rfl rfl a0 (λi r E d g=>?_) ((G<|X.n+1).1 rfl) (λi d=>(G i).2 d) (λi j l=>?_) af (λi=>?_) (λi d p x g=>?_) (λi j l=>?_) o O L aa (λC j l s=>?_) (λop b=>?_) (λop b x g=>by rw[(f _ b).1]at g;grind)
  (λop b x g=>by rw[(f _ b).1]at g;grind) (λop b _=>(f _ b).2.1 _) (λop b=>(f _ b).2.2.1) ((B 0).trans h.d0) (λi d=>(B _).trans<|h.lM i d) (λi _ _=>B _) (λi d Z=>.inl ⟨Z,λop b _=>(f _ b).1⟩) (λe=>(h.25 e).B λop b _ _ _=>(f _ b).1) ?_ a1 V Y
 refine⟨r,?_,af,af⟩;rw[<-g];refine(A i aa ?_).symm;unfold gid;grind;grind;by_cases e:i=a;subst e;exact⟨λ_=>(h.9 i).2 v,λ_=>P⟩;grind;by_cases e:i=a;subst e;exact R p x g;rw[m i e]at g;exact h.14 i d p x g;by_cases e:i=a;grind;rw[m i e];exact h.15 i j l;by_cases e:C=a;subst e;exact K l s;rw[m C e]at s;have F:=h.16 C j l s;unfold ik at F⊢;simp only;split;grind;rename_i a3;rw[if_neg a3]at F;rw[hμr (aI<|h.le j)];omega;rcases(f op b).2.2.2 with e|e
 simp_all;by_cases z:a+1<=X.n;by_cases T:S.j<=a+1;exact .inr ⟨a,v,a2 z T _ b⟩;exact .inr ⟨a+1,aa,by rw[e,jA z]⟩;exact .inl<|aw e<|if_neg z;exact h.I I rfl<|.inl rfl
end
end
section
open Go.Conc
open Go.ConcN (upd upd_same upd_ne)
section
variable{P:bj}{F:bw->Bool}{k:Nat->Nat}{wg:Nat}{c:dx}{w w1:ag}{gi:Nat->Nat}{t u:ez}
theorem aG.Sub.B(h:aG.Sub g d3)(b:g.B a):d3.B a:=by
 obtain b|⟨f,v,c,c,_⟩:=b;obtain⟨o,d⟩:=pH.1 b;exact .inl<|cw<|h.e a o d;rw[h.1]at c;cases c
theorem aG.Sub.I{c r:aG}(h:aG.Sub c r)(b:c.O a):r.O a:=b.imp h.B λb=>jy h.s b
theorem aG.Sub.O(h:aG.Sub g d3)(d:d3.Fits P F w):g.Fits P F w:=
 ⟨λf v c=>(by rw[h.1]at c;cases c),λb o a=>d.e b o<|h.e b o a,λb o a=>d.s b o<|jy h.s a,λf v c=>(by rw[h.1]at c;grind),λb o a=>aw h.s<|d.5 b o<|h.e b o a⟩
theorem fX.U(h:fX P F k wg c w){n p:Nat}{A y:cx}{v:ag}(B:c.2 n=some A)(a8:y.2<=y.1)(R:y.5=some (j,v))(S:(c.r p).1=some (j,v))(x:aG.Sub g<|c.r p)(a6:w1.1=w.1.setIfInBounds (k n) y.B):
  fX P F k wg ⟨upd c.r p g,upd c.2 n<|some y⟩ w1:=by
 have a7:=(fU.1<|h.3 n A B).1;have H:∀b,b≠k n->w1.1[b]?=w.1[b]? :=aJ
 have J:w.1.size<=w1.1.size:=aJ;have old:∀a z,upd _ n _ a=some z->a≠n->c.2 a=some z:=λa z f e=>by rwa [upd_ne _ (some y) e]at f
 have C:∀a z,upd c.2 n (some y) a=some z->∃s,c.2 a=some s:=aJ
 have M:∀a b,(upd _ p g a).O b->(c.r a).O b:=λa b d=>by
  by_cases e:a=p;subst e;rw[upd_same]at d;exact x.I d;rwa [upd_ne _ _ e]at d
 have a3:∀a b,(upd _ p g a).B b->(c.r a).B b:=λa b d=>by
  by_cases e:a=p;subst e;rw[upd_same]at d;exact x.B d;rwa [upd_ne _ _ e]at d
 have D:∀l b,j l=some b->(c.r p).B b:=λl b o=>.inr ⟨j,v,l,S,o⟩;have a4:∀l b,j l=some b->∀a,¬(upd c.r p g a).O b:=by
  intro l b o a d;by_cases e:a=p;subst e;rw[upd_same]at d;obtain⟨W,a1⟩:=(h.1 a).4 j v S l b o;obtain (d|⟨G,L,E,U,_⟩)|d:=d;obtain⟨a2,a0⟩:=pH.1 d;rw[x.e b a2 a0]at W;cases W;rw[x.1]at U;cases U;rw[x.s]at d;exact d a1;rw[upd_ne c.r g e]at d;exact h.2 p a b (λm=>e m.symm) (D l b o) d
 refine⟨λa=>?_,λa i b Z d Y=>h.2 a _ b Z (a3 a b d)<|M _ b Y,λa z f=>?_,λa z f=>?_,λa z i f d=>?_,λa i z r f q m=>?_,kJ h.7 J,λa d=>h.8 a<|M a _ d,λa z f=>?_,λa z G L f u=>?_,λa z G L l b f u o=>?_⟩;simp only;by_cases e:a=p;subst e;rw[upd_same];exact(x.O<|h.1 a).I (λb d=>H b λm=>h.5 n A a B<|m▸x.I d) J;rw[upd_ne _ _ e];exact(h.1 a).I (λb d=>H b λm=>h.5 n A a B<|m▸d) J;simp only at f;by_cases e:a=n;subst e;rw[upd_same]at f;grind;have K:=old a z f e;rw[H _ λm=>e<|h.6 a n z A K B m];exact h.3 a z K;simp only at f;by_cases e:a=n;subst e;rw[upd_same]at f;grind;exact h.4 a z<|old a z f e;obtain⟨s,t⟩:=C a z f;exact h.5 a s i t<|M i _ d;obtain⟨s,t⟩:=C a z f;obtain⟨a5,X⟩:=C i r q;exact h.6 a i s a5 t X m;obtain⟨s,t⟩:=C a z f;exact h.9 a s t;dsimp only at f;by_cases e:a=n;subst e;rw[upd_same]at f;cases f;rw[R]at u;cases u;exact ((h.1 p).1 j v S).I (λl b o=>H b λm=>h.5 a A p B<|m▸ .inl (D l b o)) J;have K:=old a z f e;exact(h.10 a z G L K u).I (λl b o=>H b λm=>(h.11 a z G L l b K u o).2.2.1 n A B m.symm) J;dsimp only at f;by_cases e:a=n;subst e;rw[upd_same]at f;cases f;rw[R]at u;cases u;refine⟨a4 l b o,λm=>h.8 p<|m▸ .inl (D l b o),λi r q m=>?_,λi r N T E Q q I O=>?_⟩;obtain⟨s,t⟩:=C i r q;exact h.5 i s p t<|m▸ .inl (D l b o);exact(h.11 i r N T E b (old i r q Q) I O).1 p<|.inl<|D l b o;obtain⟨p1,p2,p3,p4⟩:=h.11 a z G L l b (old a z f e) u o;refine⟨λi d=>p1 i<|M i b d,p2,λi r q=>?_,λi r N T E Q q I=>?_⟩;obtain⟨s,t⟩:=C i r q;exact p3 i s t;dsimp only at q;by_cases V:i=n;subst V;rw[upd_same]at q;cases q;rw[R]at I;cases I;intro O;exact p1 p<|.inl<|D E b O;exact p4 i r N T E Q (old i r q V) I
theorem fX.T(h:fX P F k wg c w){r p:Nat}{x y:cx}{r1:aG}(D:c.2 r=some x)(K:x.5=some (j,d))(g:y.B=x.B)(b:y.2=x.2∧y.1=x.1)(e:y.5=none)(q:AV P F (c.r p) j d r1):
  fX P F k wg ⟨upd c.r p r1,upd c.2 r<|some y⟩ w:=by
 have old:∀a z,upd c.2 r (some y) a=some z->∃m,c.2 a=some m∧z.B=m.B∧(z.2=m.2∧z.1=m.1)∧(a≠r->z=m)∧(a=r->z.5=none):=by
  intro a z i;by_cases f:a=r;subst f;rw[upd_same]at i;cases i;exact⟨x,D,g,b,λt=>absurd rfl t,λ_=>e⟩;rw[upd_ne c.2 (some y) f]at i;exact⟨z,i,rfl,⟨rfl,rfl⟩,λ_=>rfl,λt=>absurd t f⟩
 have I:=λl b u=>h.11 r x j d l b D K u;have apart:∀l b,j l=some b->¬((c.r p).B b∨(c.r p).s b≠none):=λl b u e=>(I l b u).1 p e;have uv:=q.2;have n:∀b,r1.O b->(c.r p).O b∨∃l,j l=some b:=by
  rintro b (e|e);exact(uv b e).imp .inl id;obtain⟨o,g⟩:=pH.1 e;exact .inl<|.inr<|cw<|q.3 b o g
 have C:∀a b,(upd c.r p r1 a).O b->(c.r a).O b∨(a=p∧∃l,j l=some b):=λa b e=>by
  by_cases f:a=p;subst f;rw[upd_same]at e;grind;rw[upd_ne _ _ f]at e;grind
 have g:∀a b,(upd c.r p r1 a).B b->(c.r a).B b∨(a=p∧∃l,j l=some b):=λa b e=>by
  by_cases f:a=p;subst f;rw[upd_same]at e;grind;rw[upd_ne _ _ f]at e;grind
 refine⟨λa=>?_,λa n b M e B=>?_,λa z i=>?_,λa z i=>?_,λa z n i e=>?_,λa n z A i v t=>?_,h.7,λa e=>?_,λa z i=>?_,λa z G L i s=>?_,λa z G L l b i s u=>?_⟩;simp only;by_cases f:a=p;subst f;rw[upd_same];exact q.1 w (h.1 a) (h.10 r x j d D K) aa;rw[upd_ne _ _ f];exact h.1 a;rcases g a b e with g|⟨q,l,H⟩<;>rcases C n b B with E|⟨q,B,J⟩
 exact h.2 a _ b M g E;exact(I _ b J).1 a<|.inl g;grind;omega;obtain⟨m,q,g,_⟩:=old a z i;rw[g];exact h.3 a _ q;obtain⟨m,q,_,⟨g,E⟩,_⟩:=old a z i;rw[g,E];exact h.4 a _ q;obtain⟨m,q,_⟩:=old a z i;obtain g|⟨_,l,H⟩:=C _ _ e;exact h.5 a _ _ q g;grind;obtain⟨m,q,_⟩:=old a z i;obtain⟨E,g,_⟩:=old n A v;exact h.6 a _ _ _ q g t;obtain g|⟨_,l,H⟩:=C a _ e;exact h.8 a g;grind;obtain⟨m,q,_⟩:=old a z i;exact h.9 a m q;obtain⟨m,q,_,_,H,I⟩:=old a z i;by_cases f:a=r;rw[I f]at s;cases s;rw[H f]at s;exact h.10 a m G L q s;obtain⟨m,q,_,_,H,I⟩:=old a z i;by_cases f:a=r;rw[I f]at s;cases s;rw[H f]at s;obtain⟨p1,p2,p3,p4⟩:=h.11 a m G L l b q s u;refine⟨λn e=>?_,p2,λn A v=>?_,λn A i m B l v a=>?_⟩;obtain g|⟨_,B,J⟩:=C n b e;exact p1 n g;exact p4 r x j d B (λt=>f t.symm) D K J;obtain⟨E,g,_⟩:=old n A v;exact p3 n E g;obtain⟨E,g,_,_,e,f⟩:=old n A v;by_cases b:n=r;rw[f b]at a;cases a;rw[e b]at a;exact p4 n E i m B l g a
end
end
section
open Go.Conc
open Go.ConcN (upd upd_same upd_ne sumTo WD CTag WgLive ShN RelBy)
open Go.ConcR (KK WgAt stA smA)
def lz(X:dn)(S:dN)(c:Nat):List aq->aG->az->List az->Prop:=if c+1<=X.n then X.A (c+1) (S.k c) (S.k (c+1))else X.AM (S.k c)
def xt(X:dn)(S:dN)(c:Nat):aG->az->List az->Prop:=if c+1<=X.n then su X (c+1) (S.k (c+1))else xL X
theorem FH(h:e+1<=a):(gid n a (e+1)==0)=false:=cw<|jA h
theorem qO(h: ¬e+1<=a):gid n a (e+1)=0:=if_neg h
variable{p:dN}{u:dn}
theorem dn.Ok.B(ok:u.Ok){m:Nat}S{c:Nat}(a:c<=u.n):Recvs u.P u.F (λ_=>S.k c) u.7 u.kj (gid m u.n (c+1)==0) c u.z (lz u S c)<|xt u S c:=by
 unfold lz xt;by_cases h:c+1<=u.n;rw[if_pos h,if_pos h,FH h];exact ok.1 _ _ _ aa h;rw[if_neg h,if_neg h,qO h];obtain rfl:c=u.n:=aa;exact ok.2<|S.k _
structure sk(X:dn)(S:dN)(c:Nat):Prop where
 wk:c+1<=X.n->c+1<S.j∧(aQ S.c (c+1)).1= []∧(aQ S.c (c+1)).3=false∧S.D (c+1)=⟨7,0,0⟩
 og:c=X.n->S.j=X.n+1∧S.6=.kd∧S.7=true∧S.8=0∧S.μs=(0,0,.leaf)
section
variable{X:dn}{W:jc}{S:dN}{gs gs':Array cf}{w w':ag}{t:ez}{c:Nat}{c':dx}{y:cx}{μ':Nat->aU}{μr' ν:aU}{g':cf}{fr:az}{cs:List az}{tr:cZ}
theorem sk.B(h:sk X S c)(a:S.j<=X.n+1)(a:c<=X.n)(b:c'.2 c=some y)(o:c+1<=X.n->c'.2 (c+1)=S.c.2 (c+1))(hμ:c+1<=X.n->μ' (c+1)=(12,2*(y.1- y.2)+1,tr))(hμr:c=X.n->μr'=(12,2*(y.1- y.2)+1,tr))
  (d:gs'[gid W.m X.n<|c+1]?=some g')(m:jT g' fr cs)(a:Walk X.P (gid W.m X.n (c+1)==0) X.F (lz X S c<|y.1.take y.2) tr (c'.r<|c+1) fr cs)(l:y.3=true->∃f v,y.5=some (f,v)∧X.7 c y.1 f v):
  jP X W {S with c:=c',μ:=μ',μr:=μr'} gs' w'<|c+1:=by
 have j:aQ c' c=y:=by unfold aQ;rw[b];rfl
 refine⟨λe=>?_,λb=>?_⟩;obtain rfl:c=X.n:=aa;obtain⟨k,e,g,i,n⟩:=h.2 rfl;have b: ¬X.n+1<=X.n:=aa;rw[qO b]at d a;unfold lz at a;rw[if_neg b]at a;refine⟨g',d,?_⟩;rw[e,g,i,n,hμr rfl,nX,j];exact .recv k m a l;have b:c+1<=X.n:=aJ
 let⟨k,e,g,i⟩:=h.1 b;rw[jA b]at d;rw[FH b]at a;unfold lz at a;rw[if_pos b]at a;have k:aQ c' (c+1)=aQ S.c (c+1):=by unfold aQ;rw[o b]
 refine⟨g',d,?_⟩;simp only;rw[i,hμ b,nX,j,k];exact .recv aa m a ⟨e,g⟩ l
theorem sk.O(h:sk X S c)(a:S.j<=X.n+1)(a:c<=X.n)(b:c'.2 c=some y)(m:c+1<=X.n->c'.2 (c+1)=S.c.2 (c+1))(hμ:c+1<=X.n->μ' (c+1)=(12,0,.leaf))(hμr:c=X.n->μr'=(12,0,.leaf))
  (d:gs'[gid W.m X.n<|c+1]?=some (parked (G fr cs) #[rcase (S.k c) X.z]<|.recv true))(a:lz X S c (y.1.take y.2) (c'.r<|c+1) fr cs)(k:y.2=y.1∧y.3=false):
  jP X W {S with c:=c',μ:=μ',μr:=μr'} gs' w'<|c+1:=by
 have i:aQ c' c=y:=by unfold aQ;rw[b];rfl
 unfold lz at a;refine⟨λe=>?_,λb=>?_⟩;obtain rfl:c=X.n:=aa;obtain⟨j,e,f,g,l⟩:=h.2 rfl;have b: ¬X.n+1<=X.n:=aa;rw[qO b]at d;rw[if_neg b]at a;refine⟨_,d,?_⟩;rw[e,f,g,l,hμr rfl,nX,i];exact .eV j a k;have b:c+1<=X.n:=aJ
 let⟨j,e,f,g⟩:=h.1 b;rw[jA b]at d;rw[if_pos b]at a;have j:aQ c' (c+1)=aQ S.c (c+1):=by unfold aQ;rw[m b]
 refine⟨_,d,?_⟩;simp only;rw[g,hμ b,nX,i,j];exact .eV aa a k ⟨e,f⟩
theorem sk.I(h:sk X S c)(a:S.j<=X.n+1)(a:c<=X.n)(k:c+1<=X.n->c'.2 (c+1)=S.c.2 (c+1))(hμ:c+1<=X.n->μ' (c+1)=(11,0,tr))(hμr:c=X.n->μr'=(11,0,tr))
  (d:gs'[gid W.m X.n<|c+1]?=some (G fr cs))(a:Walk X.P (gid W.m X.n (c+1)==0) X.F (xt X S c) tr (c'.r<|c+1) fr cs):
  jP X W {S with c:=c',μ:=μ',μr:=μr'} gs' w'<|c+1:=by
 refine⟨λe=>?_,λb=>?_⟩;obtain rfl:c=X.n:=aa;obtain⟨i,e,f,g,j⟩:=h.2 rfl;have b: ¬X.n+1<=X.n:=aa;rw[qO b]at d a;unfold xt at a;rw[if_neg b]at a;refine⟨_,d,?_⟩;rw[e,f,g,j,hμr rfl];exact .post i a;have b:c+1<=X.n:=aJ
 let⟨i,e,f,g⟩:=h.1 b;rw[jA b]at d;rw[FH b]at a;unfold xt at a;rw[if_pos b]at a;have h:aQ c' (c+1)=aQ S.c (c+1):=by unfold aQ;rw[k b]
 refine⟨_,d,?_⟩;simp only;rw[g,hμ b,h];exact .work (kD _ _) a ⟨e,f⟩
theorem bo.U(h:bo X W S gs w t)(b:c<S.j)(a:gs[gid W.m X.n<|c+1]?=some (parked (G fr cs) #[rcase (S.k c) X.z]<|.recv true)):
  sk X S c∧lz X S c ((aQ S.c c).1.take (aQ S.c c).2) (S.c.r<|c+1) fr cs∧(aQ S.c c).2=(aQ S.c c).1∧(aQ S.c c).3=false∧ik X S c=(12,0,.leaf):=by
 have d:=h.le b;have b:∀ {fr d:az} {cs b:List az} {j e:Nat},parked (G fr cs) #[rcase j X.z] (.recv true)=parked (G d b) #[rcase e X.z] (.recv true)->fr=d∧cs=b:=by
  intro fr d cs b j e e;simp only[parked,G,HR]at e;exact⟨e.1,e.2.1⟩
 by_cases f:c+1<=X.n;have o:c+1<S.j:=by
  have b:=(fU.1 a).1;rw[jA f,h.2]at b;omega
 obtain⟨g,b,k⟩:=h.6 (c+1) o;rw[jA f,b]at a;have a:=dw a;have n:∀d b,fB X (c+1) (S.k<|c+1- 1) (S.k<|c+1) (bA S.c<|c+1) (Go.Proofs.aQ S.c<|c+1) (S.c.r<|c+1) w g d b->X.A (c+1) (S.k c) (S.k<|c+1) ((bA S.c<|c+1).1.take (bA S.c<|c+1).2) (S.c.r<|c+1) fr cs∧((bA S.c<|c+1).2=(bA S.c<|c+1).1.length∧(bA S.c<|c+1).3=false)∧((Go.Proofs.aQ S.c<|c+1).1= []∧(Go.Proofs.aQ S.c<|c+1).3=false)∧d=⟨7,0,0⟩∧b=(12,0,.leaf):=by
  intro d b k;subst a;generalize b:parked (G fr cs) #[rcase (S.k c) X.z] (.recv true)=g at k;cases k with
  |recv _ d _ _ _=>rw[<-b]at d;exact absurd d.2.2.1 (by simp[parked])
  |eV i h r i=>
   grind
  |work d _ _=>rw[<-b]at d;exact absurd d.2.2.1 (by simp[parked])
  |send d _ _=>rw[<-b]at d;exact absurd d.2.2.1 (by simp[parked])
  |iE _ _ _ _=>simp[parked]at b
  |shut _ _=>simp[parked,G]at b
  |tail d _=>
   rw[<-b]at d;rcases d.B with e|e<;>simp[parked]at e
 obtain⟨m,i,l,d,q⟩:=n _ _ k;exact⟨⟨λ_=>⟨o,l.1,l.2,d⟩,λe=>aa⟩,by unfold lz;rw[if_pos f];exact m,i.1,i.2,by unfold ik;grind⟩;obtain rfl:c=X.n:=aa;rw[qO f]at a;obtain⟨j,d,k⟩:=h.4;rw[d]at a;have a:=dw a;have n:∀tag d dd p o,dM X S.j (pJ (X.n+1) S.D) S.k (bA S.c<|X.n+1) (S.c.r<|X.n+1) w j tag d dd p o->X.AM (S.k X.n) ((bA S.c<|X.n+1).1.take (bA S.c<|X.n+1).2) (S.c.r<|X.n+1) fr cs∧((bA S.c<|X.n+1).2=(bA S.c<|X.n+1).1.length∧(bA S.c<|X.n+1).3=false)∧(S.j=X.n+1∧tag=.kd∧d=true∧dd=0∧p=(0,0,.leaf))∧o=(12,0,.leaf):=by
  intro tag d dd p o k;subst a;have d:(parked (G fr cs) #[rcase (S.k X.n) X.z]<|.recv true).3=.blocked:=rfl;generalize b:parked (G fr cs) #[rcase (S.k X.n) X.z] _=g at k d;cases k with
  |eV j h r=>
   grind
  |pre _ _=>omega
  |a1 _ h=>omega
  |a2 _ h=>omega
  |a3 _ h=>omega
  |a4 _ h=>omega
  |a5 _ h=>omega
  |spawn _ a _=>omega
  |recv _ a _ _=>rw[a.2.2.1]at d;grind
  |post _ _=>cases d
  |wait a j j a=>
   obtain⟨e,_⟩|⟨_,rfl⟩:=a.B λg w h=>(j g w h).1;rw[e]at d;cases d;cases a with
   |blk a=>
    have:=(a w<|.B w).2.1;simp only[parked,HR]at b;rw[this]at b;exact absurd b.2.2.2.2 af
 obtain⟨m,i,l,q⟩:=n _ _ _ _ _ k;exact⟨⟨λe=>absurd e f,λ_=>l⟩,by unfold lz;rw[if_neg f];exact m,i.1,i.2,by unfold ik;rw[if_neg f];exact q⟩
end
def rμ(X:dn)(S:dN)(c:Nat)(a:aU):Nat->aU:=if c+1<=X.n then upd S.μ (c+1) a else S.μ
def rμr(X:dn)(S:dN)(c:Nat)(a:aU):aU:=if c+1<=X.n then S.μr else a
theorem rμ_ne(h:a≠e+1):rμ u p e k a=p.μ a:=by
 unfold rμ;split;exact upd_ne _ _ h;rfl
theorem rμ_eq(h:a+1<=u.n):rμ u p a k (a+1)=k:=by unfold rμ;rw[if_pos h,upd_same]
theorem rμr_eq(h:a=u.n):rμr u p a k=k:=if_neg aa
theorem Gz(c:a<=u.n)(h:k.1=12):(if a+1<=u.n then rμ u p a k (a+1)else rμr u p a k).1=12:=by
 split;rename_i b;rw[rμ_eq b];omega;rw[rμr_eq aa];omega
theorem GA(b:a<=u.n)(h:k.1=12):(if a+1<=u.n then upd (rμ u p a k) a J (a+1)else rμr u p a k).1=12:=by
 rw[upd_ne _ _ aa];exact Gz b h
theorem rμr_ne(h:a<=u.n)(b:a≠u.n):rμr u p a k=p.μr:=if_pos aa
section
variable{X:dn}{W:jc}{S:dN}{gs gs':Array cf}{w w':ag}{t u:ez}{c:Nat}{sl:Option (Nat×Nat)}
theorem GI(a:c<=X.n)(a:aU.B k<|ik X S c)(hμ:∀x,x≠c+1->b6 x=S.μ x)(hμ1:c+1<=X.n->b6 (c+1)=k)(d:c=X.n->J=k):
  Row.B _ (({S with c:=d1,μ:=b6,μr:=J}:dN).B W.m X.n)<|S.B W.m X.n:=by
 unfold ik at a;by_cases b:c+1<=X.n;rw[if_pos b]at a;exact uA b rfl rfl (λx e=>hμ x aa) (by show aU.B (b6<|c+1) _;rw[hμ1 b];exact a);rw[if_neg b]at a;exact OY rfl rfl (λx e=>hμ x aa) (by rw[d aa];exact a)
theorem Told.T{a:Nat->Nat}(h:Told a d1 w t)(b:Nat->Option cx):Told a ⟨d1.r,b⟩ w t:=⟨h.1,h.2,h.3,h.4⟩
theorem bo.mr(h:bo X W S gs w t)(g:c<S.j){y:cx}{μ':Nat->aU}{μr':aU}(B:y.2<=y.1)(l:y.5=(aQ S.c c).5)(d:∀p x,y.1[p]?=some x->X.kj p x)(a:c+1=S.j->S.j<=X.n->y.2=0∧(y.3=true->∃f v,y.5=some (f,v)∧X.7 c y.1 f v))(e:w'.1=w.1.setIfInBounds (S.k c) y.B)(E:w'.2=w.2)(z:w'.4=w.4)(A:w'.5=w.5)
  (C:gs'=gs.size)(r:∀x,x≠W.m+c->x≠gid W.m X.n (c+1)->gs'[x]?=gs[x]?)(hμ:∀p,p≠c->p≠c+1->μ' p=S.μ p)(hμr:c≠X.n->μr'=S.μr)
  (q:jP X W {S with c:={S.c with ch:=upd S.c.2 c (some y)},μ:=μ',μr:=μr'} gs' w' c)(o:jP X W {S with c:={S.c with ch:=upd S.c.2 c (some y)},μ:=μ',μr:=μr'} gs' w'<|c+1)
  (j:∀op∈u,zW w' (W.m+c) (gid W.m X.n<|c+1) op)(F:c+1<=X.n->S.j<=c+1->∀op∈u,op.g=W.m+c)
  (m:(c+1<S.j∨c=X.n)->y.3=false->(if c+1<=X.n then μ' (c+1)else μr').1=12)(n:(μ' c).1=12∨(S.μ c).1≠12):bo X W {S with c:={S.c with ch:=upd S.c.2 c (some y)},μ:=μ',μr:=μr'} gs' w'<|t++u:=by
 have D:w'.1.size=w.1.size:=aJ;have s:∀b,b≠S.k c->w'.1[b]?=w.1[b]? :=aJ
 refine h.cB g (λi a=>upd_ne _ _ a) (by simp only;rw[upd_same];simp) af af (λp x a=>d p x ?_) (λk d=>?_) (h.10.B (h.B g) B l e) ?_ ?_ D (s _ λe=>h.10.9 c _ (h.B g) aa) E z A C r hμ hμr q o j F (λk d=>m k (by unfold aQ at d;simp only at d;rw[upd_same]at d;grind)) n;unfold aQ at a;simp only at a;rw[upd_same]at a;grind;have e:aQ {S.c with ch:=upd S.c.2 c (some y)} c=y:=by unfold aQ;dsimp only;rw[upd_same];rfl
 grind;exact(h.11.B (w1:=w') (Oq h.11.1 j) (λop d x a=>by rw[(j _ d).1]at a;grind)<|vu aa).T _;have:Handed S.k {S.c with ch:=upd S.c.2 c (some y)} t:=by
  intro i x f v a k;by_cases e:i=c;subst e;dsimp only at a;rw[upd_same]at a;cases a;exact h.12 i _ f v (h.B g)<|jy l k;exact h.12 i x f v (jy (upd_ne S.c.2 (some y) e) a) k
 exact this.B λi x f v e b a k a op d z a _=>by rw[(j _ d).1]at a;grind
theorem pV(g)(fn:bw)(pos:String):eH g fn pos #[]= #[]:=cw HX
theorem bo.eT(i:bo X W S gs w t)(j:c<S.j){v e:aq}(a:gs[W.m+c]?=some (parked (G f h) #[scase (S.k c) v e] .send)):
  ∃b,X.kj (aQ S.c c).1 v∧ar X.P false X.F (xK X c (S.k c) ((aQ S.c c).1++v::b) b) (S.c.r c) (f.finish aj) h∧(aQ S.c c).3=false∧room<=(aQ S.c c).1-(aQ S.c c).2∧S.D c=⟨7,0,0⟩∧S.μ c=(10,2*b.length+2,.leaf):=by
 obtain⟨g,b,d⟩:=i.6 c j;rw[b]at a;have a:=dw a;generalize S.D c=b at d⊢;generalize S.μ c=b at d⊢;subst a;generalize b:parked (G f h) #[scase (S.k c) v e] .send=g at d;cases d with
 |recv _ a _ _ _=>rw[<-b]at a;exact absurd a.2.2.1 (by simp[parked])
 |eV _ _ _ _=>simp[parked]at b
 |work a _ _=>rw[<-b]at a;exact absurd a.2.2.1 (by simp[parked])
 |send a _ _=>rw[<-b]at a;exact absurd a.2.2.1 (by simp[parked])
 |iE a a a a=>
  obtain⟨rfl,rfl,_,_,⟨⟨_,rfl,_⟩,_⟩,_⟩:=b;grind
 |shut _ _=>simp[parked,G]at b
 |tail a _=>
  rw[<-b]at a;rcases a.B with e|e<;>simp[parked]at e
theorem Ps(h:a<D):D.take (a+1)=D.take a++ [D.getD a aj]:=by
 simp_all
theorem bo.m(h:bo X W S gs w t)(ok:X.Ok)(i:c<S.j)(r:sk X S c){g:Goroutine}{fr:Frame}{cs:List Frame}(a0:gs[gid W.m X.n<|c+1]?=some g)(e7:jT g fr cs)(M:lz X S c ((aQ S.c c).1.take (aQ S.c c).2) (S.c.r<|c+1) fr cs)
  (a3:(aQ S.c c).3=true->∃F v,(aQ S.c c).5=some (F,v)∧X.7 c (aQ S.c c).1 F v)(hν:ik X S c=(12,2*((aQ S.c c).1-(aQ S.c c).2)+1,.leaf)):gz X W S gs w t sl<|gid W.m X.n<|c+1:=by
 have k:=h.le i;have a1:=h.3;have g1:=h.1;have R:=ok.B (m:=W.m) S k;have V:=h.dz i;have g2:=h.10.4 c _<|h.B i;have a9:=h.14 c i;have b0:S.k c<w.1.size:=aJ;have e0:stepG X.P (gid W.m X.n (c+1)==0) g w=.comm (G fr cs) #[rcase (S.k c) X.z] true (.recv true) w #[]:=by rw[e7.B];exact R.1 _ _ _ _ M w<|h.10.1<|c+1
 have b2:gid W.m X.n (c+1)≠W.m+c:=by unfold gid;split<;>omega
 have a7:gid W.m X.n (c+1)<gs.size:=aJ;have b6:c+1<=X.n->S.j<=c+1->∀u:Trace,∀op∈u,op.g=W.m+c:=λa b=>by have:=(r.1 a).1;omega
 have a6:=(h.qI c);generalize J:aQ S.c c=o at*;have Y:S.c.2 c=some o:=by rw[<-J];exact h.B i
 obtain b1|g0:=Nat.lt_or_ge o.2 o.1.length;have g3:0<(o.1.drop o.2).toArray.size:=aJ
 have c4:X.kj (o.1.take o.2).length<|o.1.getD o.2 undef:=aJ
 by_cases b3:∃fr cs v D,gs[W.m+c]?=some (parked (G fr cs) #[scase (S.k c) v D] .send)
 obtain⟨d5,d0,v,D,a8⟩:=b3;let⟨f5,f,⟨ts,c8⟩,s,I,d7,hμs⟩:=h.eT i a8;rw[J]at f c8 s I;have z:=WL (P:=X.P) (sl:=sl) a0 aa (show w.1[S.k c]?=some (.chan _ _ _ _ _ _)from V) aa aa a8<|h.oQ i a8 b2;rw[pV,cx.T,finishComm_recv,finishComm_send]at z;let⟨tr,Q⟩:=R.2 _ _ _ _ _ M c4;have U:=cx.U (h:=o) (v:=v) b1;refine⟨{S with c:={S.c with ch:=upd S.c.2 c (some {o with mD:=o.1++ [v],rc:=o.2+1})},μ:=upd (rμ X S c (12,2*((o.1++ [v]).length-(o.2+1))+1,tr)) c (10,2*f5.length+1,ts),μr:=rμr X S c (12,2*((o.1++ [v]).length-(o.2+1))+1,tr)},_,_,_,z,?_,?_⟩;refine h.mr i (y:={o with mD:=o.1++ [v],rc:=o.2+1}) bQ (by grind) (FT aa f) (λa b=>absurd (r.1 aa).1 aa) (by rw[U];rfl) rfl rfl rfl af (λx a b=>?_) (λp a b=>?_) (λe=>rμr_ne k e) ?_ ?_ (λop j=>?_) (λa b op j=>b6 a b _ _ j) (λ_ _=>GA k rfl)<|.inr (by grind);grind;rw[upd_ne _ _ a,rμ_ne b];refine⟨aa,λa3=>⟨Go.Conc.served (G d5 d0) undef,?_,?_⟩⟩;grind;simp only;have K:aQ ({S.c with ch:=upd S.c.2 c (some {o with mD:=o.1++ [v],rc:=o.2+1})}:dx) c={o with mD:=o.1++ [v],rc:=o.2+1}:=by unfold aQ;dsimp only;rw[upd_same];rfl
 rw[K,d7,upd_same];exact .send (yX _ _ _) (by rw[List.append_assoc];exact c8) s;refine r.B a1 k (upd_same _ _ _) (λ_=>upd_ne _ _ aa) (λa=>?_) (λa=>rμr_eq a) (by rw[Array.getElem?_setIfInBounds_self_of_lt (by grind)]) (yX _ _ _) (tr:=tr) ?_ λe=>?_;rw[upd_ne _ _ aa,rμ_eq a];simp only;rw[List.take_append_of_le_length aa,Ps b1];exact Q;grind;simp[List.mem_cons]at j;have l:S.k c<(w.setChan (S.k c) room (((o.1.drop o.2).toArray.extract 1 (o.1.drop o.2).toArray.size).push v) o.3 (o.1.length+1) (o.2+1) o.4).1.size:=by simp[World.setChan];exact b0
 rcases j with rfl|rfl|rfl|rfl<;>refine⟨rfl,by simp,l,?_⟩<;>first|exact .inr rfl|exact .inl rfl
 exact uA k rfl rfl (λx f=>by simp only;rw[upd_ne _ _ aa,rμ_ne aa]) (by simp only;rw[upd_same,hμs];exact aU.I aa)
 have a2:=h.al (G:=gid W.m X.n<|c+1) i λfr cs v D=>.inl λe=>b3 ⟨fr,cs,v,D,e⟩;have z:=crowd_recv_buf (P:=X.P) (sl:=sl) a0 aa (show w.1[S.k c]?=some (.chan _ _ _ _ _ _)from V) aa a2;rw[pV,cx.T,finishComm_recv]at z;let⟨tr,Q⟩:=R.2 _ _ _ _ _ M c4;have U:=cx.O (h:=o);refine⟨{S with c:={S.c with ch:=upd S.c.2 c (some {o with rc:=o.2+1})},μ:=rμ X S c (12,2*(o.1.length-(o.2+1))+1,tr),μr:=rμr X S c (12,2*(o.1.length-(o.2+1))+1,tr)},_,_,_,z,?_,?_⟩;refine h.mr i (y:={o with rc:=o.2+1}) bQ (by grind) a9 (λa b=>absurd (r.1 aa).1 aa) (by rw[U];rfl) rfl rfl rfl af (λx a b=>?_) (λp a b=>?_) (λe=>rμr_ne k e) ?_ ?_ (λop j=>?_) (λa b op j=>b6 a b _ op j) (λ_ _=>Gz k rfl) (by rw[rμ_ne aa];omega);rw[Array.getElem?_setIfInBounds_ne<|Ne.symm b];exact rμ_ne b;refine⟨λe=>by omega,λ_=>?_⟩;obtain⟨L,N,A⟩:=a6.2 i;refine⟨L,by grind,?_⟩;have K:aQ ({S.c with ch:=upd S.c.2 c (some {o with rc:=o.2+1})}:dx) c={o with rc:=o.2+1}:=by unfold aQ;dsimp only;rw[upd_same];rfl
 dsimp only;have d2:rμ X S c (12,2*(o.1.length-(o.2+1))+1,tr) c=S.μ c:=rμ_ne aa;rw[K,d2];rw[J]at A;have a4:0<c->bA ({S.c with ch:=upd S.c.2 c (some {o with rc:=o.2+1})}:dx) c=bA S.c c:=λd6=>by unfold bA;simp only;rw[upd_ne _ _ aa]
 have f9:=(h.10.B (h.B i) (y:={o with rc:=o.2+1}) bQ (by grind) (show(w.setChan (S.k c) room ((o.1.drop o.2).toArray.extract 1 (o.1.drop o.2).toArray.size) o.3 o.1.length (o.2+1) o.4).1=_ by rw[U];rfl)).1 c
 have e4:WgLive X.4 X.5 w->WgLive X.4 X.5 (w.setChan (S.k c) room ((o.1.drop o.2).toArray.extract 1 (o.1.drop o.2).toArray.size) o.3 o.1.length (o.2+1) o.4):=λ⟨st,f6,q⟩=>⟨st,f6,by
  have:X.5≠S.k c:=λe=>h.10.9 c _ aa aa;unfold WgAt World.setChan;rw[Array.getElem?_setIfInBounds_ne<|Ne.symm this];exact q⟩
 generalize S.D c=d1 at A⊢;generalize S.μ c=f8 at A⊢;cases A with
 |recv C E q d aK=>rw[a4 C];exact .recv C E q d aK
 |eV C b9 c3 d=>rw[a4 C];exact .eV C b9 c3 d
 |work E q d=>exact .work E q d
 |send E q d=>exact .send E q d
 |iE f e8 d I=>exact absurd ⟨_,_,_,_,N⟩ b3
 |shut q d=>exact .shut q d
 |tail b5 d=>exact .tail (b5.I (h.10.1 c) aa e4) d
 refine r.B a1 k (upd_same _ _ _) (λ_=>upd_ne _ _ aa) (λa=>?_) (λa=>rμr_eq a) (by rw[Array.getElem?_setIfInBounds_self_of_lt a7]) (yX _ _ _) (tr:=tr) ?_ λe=>?_;exact rμ_eq a;rw[Ps b1];exact Q;exact a3 e;simp only[List.mem_toArray,List.mem_cons,List.not_mem_nil,or_false,Array.empty_append]at j;have l:S.k c<(w.setChan (S.k c) room ((o.1.drop o.2).toArray.extract 1 (o.1.drop o.2).toArray.size) o.3 o.1.length (o.2+1) o.4).1.size:=by simp[World.setChan];exact b0
 rcases j with rfl|rfl<;>exact⟨rfl,by simp,l,.inr rfl⟩;exact GI k (by rw[hν];exact aU.I aa) (λx f=>rμ_ne f) (λa=>rμ_eq a) λa=>rμr_eq a;have Z:o.2=o.1.length:=by omega
 have c1:(o.1.drop o.2).toArray= #[]:=by rw[Z];simp
 have e5:∀fr cs v D,gs[W.m+c]? ≠some (parked (G fr cs) #[scase (S.k c) v D] .send):=λfr cs v D e=>by
  obtain⟨_,_,_,_,I,_⟩:=h.eT i e;rw[J,Z]at I;simp[room]at I
 have a2:=h.al (G:=gid W.m X.n<|c+1) i λfr cs v D=>.inl<|e5 fr cs v D;have br:o.1.take o.2=o.1:=by rw[Z];exact List.take_length
 cases s:o.3 with
 |true=>
  let⟨F,v,c6,d8⟩:=a3 s;have a5:w.1[S.k c]?=some (.chan room #[] true o.1.length o.2 o.4):=by rw[V];unfold cx.B;rw[c1,s]
  have z:=crowd_recv_closed (P:=X.P) (sl:=sl) a0 aa a5 a2;rw[pV,finishComm_recv]at z;let⟨T,b4,tr,Q⟩:=R.3 _ _ _ _ F v M (by rw[br];exact d8);have e1:Deaf t (gid W.m X.n<|c+1)=0:=by
   by_cases a:c+1<=X.n;rw[jA a,h.lM (c+1) (r.1 a).1,(r.1 a).2.2.2];rw[qO a,h.d0,(r.2 aa).2.2.2.1]
  have iD:=h.10.T (p:=c+1) (y:={o with pend:=none}) Y c6 rfl af rfl b4;refine⟨{S with c:=⟨upd S.c.r (c+1) T,upd S.c.2 c<|some {o with pend:=none}⟩,μ:=rμ X S c (11,0,tr),μr:=rμr X S c (11,0,tr)},_,_,_,z,?_,?_⟩;have O:∀op∈(#[]++ #[({g:=gid W.m X.n<|c+1,fn:=(G fr cs).1.1,pos:=(G fr cs).1.place,act:=.recvClosed (S.k c)}:MemOp)]:Trace),zW w.1.size (W.m+c) (gid W.m X.n<|c+1) op:=by
   intro op j;simp only[List.mem_toArray,List.mem_cons,List.not_mem_nil,or_false,Array.empty_append]at j;subst j;exact⟨rfl,by simp,b0,.inr rfl⟩
  refine h.cB i (λB C=>upd_ne _ _ C) (by simp only;rw[upd_same];simp) (λp _ b=>upd_ne _ _ b) (λa b=>absurd (r.1 a).1 aa) (λp x f=>a9 p x (by unfold aQ at f;simp only at f;rw[upd_same]at f;grind)) (λa b=>absurd (r.1 aa).1 aa) iD ?_ ?_ rfl rfl rfl rfl rfl af (λx a b=>?_) (λp a b=>rμ_ne b) (λe=>rμr_ne k e) ?_ ?_ O (λa b op j=>b6 a b _ op j) (λ_ b=>by unfold aQ at b;simp only at b;rw[upd_same]at b;grind) (by rw[rμ_ne aa];omega);obtain⟨p,op,f0,i2,i3,f1⟩:=h.12 c o F v Y c6;have kx:∀H n,F H=some n->lF (t++(#[]++ #[({g:=gid W.m X.n<|c+1,fn:=(G fr cs).1.1,pos:=(G fr cs).1.place,act:=.recvClosed (S.k c)}:MemOp)])) (gid W.m X.n<|c+1) n:=by
   intro H n ax f2 x f e3;rw[Array.empty_append]at f⊢;have e2:=WC (g:=gid W.m X.n<|c+1) (y:={g:=gid W.m X.n<|c+1,fn:=(G fr cs).1.1,pos:=(G fr cs).1.place,act:=.recvClosed (S.k c)}) f0 i2 i3 rfl rfl e1;obtain b7|⟨f4,b7,_,b8⟩:=p5 f;exact Knows.of_before ((f1 H n ax f2 x b7 e3).app _) e2;rw[(O f4 (by grind)).1]at b8;cases b8
  have base:=(h.11.B (w1:=w) (Oq h.11.1 O) (λop j x f=>by rw[(O _ j).1]at f;grind)<|Nat.le_refl _);refine⟨base.1,λB n l=>?_,λB n l=>?_,base.4⟩;dsimp only at l;by_cases e:B=c+1;subst e;rw[upd_same]at l;obtain a|⟨H,d9⟩:=b4.2 n l;exact base.2 _ n a;exact kx H n d9;rw[upd_ne _ _ e]at l;exact base.2 B n l;dsimp only at l;by_cases e:B=c+1;subst e;rw[upd_same]at l;obtain⟨f3,e6⟩:=Option.ne_none_iff_exists'.1 l;exact base.3 _ n (by rw[b4.3 n f3 e6];simp);rw[upd_ne _ _ e]at l;exact base.3 B n l;have:Handed S.k ⟨upd S.c.r (c+1) T,upd S.c.2 c<|some {o with pend:=none}⟩ t:=by
   intro B x d4 f7 f c7;by_cases e:B=c;subst e;dsimp only at f;rw[upd_same]at f;cases f;cases c7;exact h.12 B x d4 f7 (by rw[<-upd_ne S.c.2 (some {o with pend:=none}) e];exact f) c7
  exact this.B λB x F v H n f a3 ax op j g4 c9 _=>by rw[(O op j).1]at c9;cases c9
  rw[Array.getElem?_setIfInBounds_ne<|Ne.symm b];refine⟨λe=>by omega,λ_=>?_⟩;obtain⟨L,N,A⟩:=a6.2 i;refine⟨L,by rw[Array.getElem?_setIfInBounds_ne b2];exact N,?_⟩;have K:aQ (⟨upd S.c.r (c+1) T,upd S.c.2 c<|some {o with pend:=none}⟩:dx) c={o with pend:=none}:=by unfold aQ;dsimp only;rw[upd_same];rfl
  have a4:0<c->bA (⟨upd S.c.r (c+1) T,upd S.c.2 c<|some {o with pend:=none}⟩:dx) c=bA S.c c:=λd6=>by unfold bA;dsimp only;rw[upd_ne _ _ aa]
  have d3:upd S.c.r (c+1) T c=S.c.r c:=upd_ne _ _ aa;dsimp only;rw[K,rμ_ne aa,d3];rw[J]at A;generalize S.D c=d1 at A⊢;generalize S.μ c=f8 at A⊢;cases A with
  |recv C E q d aK=>rw[s]at d;exact absurd d.2 af
  |eV C b9 c3 d=>rw[s]at d;exact absurd d.2 af
  |work E q d=>rw[s]at d;exact absurd d.2 af
  |send E q d=>rw[s]at d;cases d
  |iE f e8 d I=>rw[s]at d;cases d
  |shut q d=>exact .shut q d
  |tail b5 d=>exact .tail b5 d
  exact r.I a1 k (λ_=>upd_ne _ _ aa) (λa=>rμ_eq a) (λa=>rμr_eq a) (by rw[Array.getElem?_setIfInBounds_self_of_lt a7];rfl) (by dsimp only;rw[upd_same];exact Q);exact GI k (by rw[hν];exact aU.T aa) (λx f=>rμ_ne f) (λa=>rμ_eq a) λa=>rμr_eq a
 |false=>
  have a5:w.1[S.k c]?=some (.chan room #[] false o.1.length o.2 o.4):=by rw[V];unfold cx.B;rw[c1,s]
  have z:=crowd_waits (P:=X.P) (sl:=sl) a0 e0 (λcc c2=>by simp at c2;subst c2;exact ways_recv_none a5 a2);rw[pV]at z;refine⟨{S with μ:=rμ X S c (12,0,.leaf),μr:=rμr X S c (12,0,.leaf)},_,_,_,z,?_,?_⟩;refine h.cB (c':=S.c) i (λ_ _=>rfl) (by rw[Y];simp) (λ_ _ _=>rfl) (λ_ _=>rfl) (by rw[J];exact a9) (h.15 c) h.10 (by simpa using h.11) (by simpa using h.12) rfl rfl rfl rfl rfl af (λx a b=>?_) (λp a b=>rμ_ne b) (λe=>rμr_ne k e) ?_ ?_ af af (λ_ _=>Gz k rfl) (by rw[rμ_ne aa];exact Classical.em _);rw[Array.getElem?_setIfInBounds_ne<|Ne.symm b];refine⟨λe=>by omega,λ_=>?_⟩;obtain⟨L,N,A⟩:=a6.2 i;exact⟨L,by rw[Array.getElem?_setIfInBounds_ne b2];exact N,by dsimp only;rw[rμ_ne aa];exact A⟩;exact r.O a1 k Y (λ_=>rfl) (λa=>rμ_eq a) (λa=>rμr_eq a) (by rw[Array.getElem?_setIfInBounds_self_of_lt a7]) M ⟨Z,s⟩;exact GI k (by rw[hν];exact aU.I aa) (λx f=>rμ_ne f) (λa=>rμ_eq a) λa=>rμr_eq a
end
section
variable{X:dn}{W:jc}{S:dN}{gs gs':Array cf}{w w':ag}{t u:ez}{c:Nat}{sl:Option (Nat×Nat)}
theorem bo.A_(h:bo X W S gs w t)(b:c<S.j){y:cx}(e:y.2=(aQ S.c c).2∧(∃x,y.1=(aQ S.c c).1++ [x])∧y.3=false)(r:∀fr cs,gs[gid W.m X.n<|c+1]? ≠some (parked (G fr cs) #[rcase (S.k c) X.z]<|.recv true))
  (k:gs'[gid W.m X.n<|c+1]?=gs[gid W.m X.n<|c+1]?)(p:(S.c.r<|c+1).Fits X.P X.F w')(q:WgLive X.4 X.5 w->WgLive X.4 X.5 w')(d:aU):
  ∃a,a.1=(ik X S c).1∧jP X W {S with c:={S.c with ch:=upd S.c.2 c (some y)},μ:=upd (rμ X S c a) c d,μr:=rμr X S c a} gs' w' (c+1):=by
 have f:=h.le b;obtain⟨f,⟨x,g⟩,i⟩:=e;have m:aQ {S.c with ch:=upd S.c.2 c (some y)} c=y:=by unfold aQ;dsimp only;rw[upd_same];rfl
 have o:aQ {S.c with ch:=upd S.c.2 c (some y)} (c+1)=aQ S.c (c+1):=by unfold aQ;dsimp only;rw[upd_ne _ _ aa]
 have l:y.1.take y.2=(aQ S.c c).1.take (aQ S.c c).2:=by rw[g,f,Rj (h.10.4 c _<|h.B b)]
 by_cases i:c+1<=X.n;by_cases n:c+1<S.j;let⟨g,j,b⟩:=h.6 _ n;rw[jA i]at k r;have fin:∀f a,S.D (c+1)=f->fB X (c+1) (S.k<|c+1- 1) (S.k<|c+1) y (aQ S.c<|c+1) (S.c.r<|c+1) w' g f a->jP X W {S with c:={S.c with ch:=upd S.c.2 c (some y)},μ:=upd (rμ X S c a) c d,μr:=rμr X S c a} gs' w' (c+1):=by
  intro f a d b;refine⟨λe=>aa,λ_=>⟨g,aw k j,?_⟩⟩;dsimp only;rw[nX,m,o,d,upd_ne _ _ aa,rμ_eq i];exact b
 generalize d:S.D (c+1)=f at b;have f:ik X S c=S.μ (c+1):=by unfold ik;rw[if_pos i]
 rw[f];generalize S.μ (c+1)=f at b⊢;cases b with
 |recv o g f b u=>exact⟨(12,2*(y.1.length- y.2)+1,_),rfl,fin _ _ d<|.recv o g (aw l f) b (λe=>by grind)⟩
 |eV o o s b=>grind
 |work g f b=>exact⟨_,rfl,fin _ _ d<|.work g f b⟩
 |send g f b=>exact⟨_,rfl,fin _ _ d<|.send g f b⟩
 |iE x v b g=>exact⟨_,rfl,fin _ _ d<|.iE x v b g⟩
 |shut f b=>exact⟨_,rfl,fin _ _ d<|.shut f b⟩
 |tail f b=>exact⟨_,rfl,fin _ _ d<|.tail (f.I (h.10.1 _) p q) b⟩
 exact⟨ik X S c,rfl,λe=>aa,λe=>absurd e n⟩;obtain rfl:c=X.n:=aa;obtain⟨f,n,d⟩:=h.4;rw[qO i]at k r;have r:∀tag b dd i g,dM X S.j (pJ (X.n+1) S.D) S.k (bA S.c<|X.n+1) (S.c.r<|X.n+1) w f tag b dd i g->∃a,a.1=g.1∧dM X S.j (pJ (X.n+1) S.D) S.k y (S.c.r<|X.n+1) w' f tag b dd i a:=by
  intro tag b dd i g d;have d:=d.O (w':=w') p q;rw[nX]at d;cases d with
  |pre b h=>omega
  |a1 b h=>omega
  |a2 b h=>omega
  |a3 b h=>omega
  |a4 b h=>omega
  |a5 b h=>omega
  |spawn g j h=>omega
  |recv b j h u=>exact⟨(12,2*(y.1.length- y.2)+1,_),rfl,.recv b j (aw l h) (λe=>by grind)⟩
  |eV b h s=>grind
  |post b h=>exact⟨_,rfl,.post b h⟩
  |wait g b o h=>exact⟨_,rfl,.wait _ b o h⟩
 obtain⟨a,hν',b⟩:=r _ _ _ _ _ d;refine⟨a,by unfold ik;grind,λ_=>⟨f,aw k n,?_⟩,λe=>?_⟩;rw[nX,m,rμr_eq rfl];exact b;have:=h.3;have:X.n+1<S.j:=e;omega
theorem bo.Z(h:bo X W S gs w t)(ok:X.Ok)(g:c<S.j){cs:List az}{x:aq}(A:gs[W.m+c]?=some b)(d:jT b f cs)(e:xK X c (S.k c) ((aQ S.c c).1++x::D) (x::D) (S.c.r c) f cs)(i:(aQ S.c c).3=false)
  (K:S.D c=⟨7,0,0⟩)(hμ:∀a,aU.B a (10,2*(D+1)+1,.leaf)->aU.B a (S.μ c))(C:(S.μ c).1≠12):gz X W S gs w t sl<|W.m+c:=by
 have j:=h.le g;have a:=h.1;have F:=h.dz g;have a0:=h.10.4 c _<|h.B g;have I:=h.14 c g;have M:=(fU.1 F).1;obtain⟨q,⟨l,k⟩,ts,Q⟩:=e;replace q:X.kj _ x:=aV q;have a:(W.m+c==0)=false:=bQ;have L:stepG X.P (W.m+c==0) b w=.comm (G f cs) #[scase (S.k c) x l] true .send w #[]:=by rw[a,d.B];exact k w<|h.10.1 c
 have J:gid W.m X.n (c+1)≠W.m+c:=by unfold gid;split<;>omega
 have H:=(fU.1 A).1;have Z:∀w':ag,(∀r,r≠S.k c->w'.1[r]?=w.1[r]?)->WgLive _ _ w->WgLive X.4 X.5 _:=λw' p ⟨st,d,a⟩=>⟨st,d,(p _ λe=>h.10.9 c _ (h.B g) aa).trans a⟩;have V:=λ(gs':Array _)(w':ag)(y:cx)=>h.A_ (gs':=gs') (w':=w') g (y:=y);have a1:c+1=S.j->S.j<=X.n->(aQ _ c).2=0:=λa d=>(h.15 c a d).1;have N:(c+1<S.j∨c=X.n)->(ik X S c).1=12:=λa=>h.16 c g a i;generalize n:aQ S.c c=o at*;have Y:S.c.2 c=some o:=jy n<|h.B g;have U:∀(y:cx)(c':dx)(gs':Array _)(w':ag)(μ':Nat->aU)(μr':aU),c'.2 c=some y->y.1=o.1++ [x]->y.3=false->c'.r c=S.c.r c->gs'[W.m+c]?=some (JK (G f cs) aj)->μ' c=(10,2*D.length+1,ts)->jP X W {S with c:=c',μ:=μ',μr:=μr'} gs' w' c:=by
  intro y c' gs' w' μ' μr' a d l s k u;refine⟨λe=>aa,λ_=>⟨_,k,?_⟩⟩;have k:aQ c' c=y:=by unfold aQ;rw[a];rfl
  dsimp only;rw[k,K,s,u];exact .send (yX _ _ _) (by rw[d,Av];exact Q) l
 by_cases O:∃l k,gs[gid W.m X.n<|c+1]?=some (parked (G l k) #[rcase (S.k c) X.z]<|.recv true)
 obtain⟨l,k,k⟩:=O;obtain⟨E,z,u,_,hν⟩:=h.U g k;rw[n]at z u;have l:(o.1.drop o.2).toArray= #[]:=aJ;have s:w.1[S.k c]?=some (.chan room #[] false o.1.length o.2 o.4):=by rw[F];unfold cx.B;rw[l,i]
 have l:=crowd_send_meets (P:=X.P) (sl:=sl) A aa s J k<|h.xN g k<|kg J;rw[pV,Ib,J_]at l;obtain⟨tr,a2⟩:=(ok.B (m:=W.m) S j).2 _ _ _ _ _ z (by rw[u,zG];exact q);have B:=cx.Y (h:=o) (v:=x) u;have R:=(fU.1 k).1;refine⟨{S with c:={S.c with ch:=upd S.c.2 c (some {o with mD:=o.1++ [x],rc:=o.2+1})},μ:=upd (rμ X S c (12,2*((o.1++ [x]).length-(o.2+1))+1,tr)) c (10,2*D.length+1,ts),μr:=rμr X S c (12,2*((o.1++ [x]).length-(o.2+1))+1,tr)},_,_,_,l,?_,?_⟩;refine h.mr g (y:={o with mD:=o.1++ [x],rc:=o.2+1}) bQ (fN n) (FT I q) (λa d=>absurd (E.1 aa).1 aa) (by rw[B,i];rfl) rfl rfl rfl af (λz a d=>?_) (λT a d=>?_) (λe=>rμr_ne j e) (U _ _ _ _ _ _ (upd_same _ _ _) rfl i rfl ?_<|upd_same _ _ _) ?_ (λop k=>?_) (λa d op k=>absurd (E.1 a).1 aa) (λ_ _=>GA j rfl)<|.inr C;grind;rw[upd_ne _ _ a,rμ_ne d];rw[vE<|aV H];refine E.B h.3 j (upd_same _ _ _) (λ_=>upd_ne _ _ aa) (λa=>?_) (λa=>rμr_eq a) (by rw[mQ<|kg J,vE R]) (yX _ _ _) (tr:=tr) ?_ λe=>?_;rw[upd_ne _ _ aa,rμ_eq a];have:(o.1++ [x]).take (o.2+1)=o.1.take o.2++ [x]:=by rw[u,zG,show o.1.length+1=(o.1++ [x]).length by simp,zG]
 rw[this];exact a2;rw[i]at e;cases e;simp only[DX,pF,DY,or_false,Aw]at k;have p:S.k c<(w.setChan (S.k c) room #[] false (o.1.length+1) (o.2+1) o.4).1.size:=by simp[DD];exact M
 rcases k with rfl|rfl|rfl|rfl<;>refine⟨rfl,af,p,?_⟩<;>first|exact .inr rfl|exact .inl rfl
 exact uA j rfl rfl (λz R=>by simp only;rw[upd_ne _ _ aa,rμ_ne aa]) (by simp only;rw[upd_same];exact hμ _<|aU.I aa);have J:∀f cs,gs[gid W.m X.n<|c+1]? ≠some (parked (G f cs) #[rcase (S.k c) X.z]<|.recv true):=λf cs e=>O ⟨f,cs,e⟩;have E:=h.EG (G:=W.m+c) g λf cs=>.inl<|J f cs;have s:w.1[S.k c]?=some (.chan room (o.1.drop o.2).toArray false o.1.length o.2 o.4):=by rw[F];unfold cx.B;rw[i]
 by_cases u:o.1.length- o.2<room
 have l:=crowd_send_room (P:=X.P) (sl:=sl) A L s (aw cx.I u) E;rw[pV,J_]at l;have B:=cx.V (h:=o) (v:=x) a0;have u:(w.setChan (S.k c) room ((o.1.drop o.2).toArray.push x) false (o.1.length+1) o.2 o.4).1=w.1.setIfInBounds (S.k c) ({o with mD:=o.1++ [x]}:cx).B:=by rw[B,i];rfl
 have B:({o with mD:=o.1++ [x]}:cx).2<=({o with mD:=o.1++ [x]}:cx).1.length:=bQ;have O:=h.10.B (h.B g) B (fN n) u;obtain⟨F,hν',a0⟩:=V (gs.setIfInBounds (W.m+c)<|JK (G f cs) aj) (w.setChan (S.k c) room ((o.1.drop o.2).toArray.push x) false (o.1.length+1) o.2 o.4) {o with mD:=o.1++ [x]} ⟨rfl,⟨x,rfl⟩,i⟩ J
  (by grind) (O.1<|c+1) (Z _ λr p=>by grind) (10,2*D.length+1,ts)
 refine⟨_,_,_,_,l,h.mr g (y:={o with mD:=o.1++ [x]}) (μ':=upd (rμ X S c F) c (10,2*D.length+1,ts)) (μr':=rμr X S c F) B (fN n) (FT I q) (λa d=>⟨a1 a d,λe=>by grind⟩) u rfl rfl rfl af (λz a d=>?_) (λT a d=>?_) (λe=>rμr_ne j e) (U _ _ _ _ _ _ (upd_same _ _ _) rfl i rfl ?_<|upd_same _ _ _) a0 (λop k=>?_) (λa d op k=>?_) (λa d=>GA j<|aw hν' (N a))<|.inr C,?_⟩;rw[mQ<|kg a];rw[upd_ne _ _ a,rμ_ne d];rw[vE H];simp only[DX,pF,DY,or_false,Aw]at k;have p:S.k c<(w.setChan (S.k c) room ((o.1.drop o.2).toArray.push x) false (o.1.length+1) o.2 o.4).1.size:=by simp[DD];exact M
 rcases k with rfl|rfl<;>exact⟨rfl,af,p,.inl rfl⟩;simp only[DX,pF,DY,or_false,Aw]at k;rcases k with rfl|rfl<;>rfl;exact uA j rfl rfl (λz R=>by simp only;rw[upd_ne _ _ aa,rμ_ne aa]) (by simp only;rw[upd_same];exact hμ _<|aU.I aa)
 have p:room<=o.1.length- o.2:=aa;have l:=crowd_waits (P:=X.P) (sl:=sl) A L (λcc k=>by simp at k;subst k;exact ways_send_none s (dT cx.I) E);rw[pV]at l;refine⟨{S with μ:=upd S.μ c (10,2*D.length+2,.leaf)},_,_,_,l,?_,?_⟩;refine h.cB (c':=S.c) (μr':=S.μr) g (λ_ _=>rfl) (cw Y) (λ_ _ _=>rfl) (λ_ _=>rfl) (aw n I) (h.15 c) h.10 (aV h.11) (aV h.12) rfl rfl rfl rfl rfl af (λz a d=>?_) (λT a d=>upd_ne _ _ a) (λe=>rfl) ?_ ?_ af af (λa _=>by rw[upd_ne _ _ aa];exact N a)<|.inr C;rw[mQ<|kg a];refine⟨λe=>aa,λ_=>⟨_,by rw[vE H],?_⟩⟩;dsimp only;rw[n,K,upd_same];exact .iE q ⟨ts,Q⟩ i p;have a:=h.qI<|c+1;refine⟨λe=>?_,λg=>?_⟩;obtain⟨d,i,i⟩:=a.1 e;refine⟨d,by grind,i⟩;obtain⟨d,e,e⟩:=a.2 g;refine⟨d,by grind,?_⟩;dsimp only;rw[upd_ne _ _ aa];exact e;exact uA j rfl rfl (λz R=>upd_ne _ _ aa) (by simp only;rw[upd_same];exact hμ _<|aU.I aa)
end
end
section
open Go.Conc
open Go.ConcN (upd upd_same upd_ne sumTo WD CTag WgLive ShN RelBy get_map_set get_map_set_same)
open Go.ConcR (KK WgAt stA smA)
theorem SH(h:(b.again d).3=.blocked):b.again d=b:=by
 unfold JS at h⊢;grind
theorem PO(h:(woken q v g0 d b).3=.blocked):woken q v g0 d b=b:=by
 unfold woken at h⊢;split at h;rename_i a;rw[if_pos a];exact SH h;grind
variable{u:dn}{z:WD}
theorem fB.O{w:ag}{a b:Nat}{c:cf}(h:fB u 0 a b b7 y g w c z k)(d:cx):fB u 0 a b d y g w c z k:=by
 cases h with
 |recv a=>omega
 |eV a=>omega
 |work c h a=>exact .work c h a
 |send c h a=>exact .send c h a
 |iE d h a c=>exact .iE d h a c
 |shut h a=>exact .shut h a
 |tail h a=>exact .tail h a
section
variable{X:dn}{W:jc}{S:dN}{gs gs':Array cf}{w w':ag}{t u:ez}{c:Nat}{sl:Option (Nat×Nat)}
theorem bo.pL(h:bo X W S gs w t)(K:c<S.j){y:cx}{f:Ren}{v:ag}(aK:y.2=(aQ S.c c).2∧y.1=(aQ S.c c).1∧y.3=true∧y.5=some (f,v))(E:X.7 c y.1 f v){l g1':cf}(d5:mayWake X.P l=true)(d4:g1'.3=.running){c':dx}(b4:c'.2 c=some y)(b5:c'.2 (c+1)=S.c.2 (c+1))(Y:c'.r (c+1)=S.c.r (c+1))
  (a0:∀a9,gs[gid W.m X.n<|c+1]?=some a9->gs'[gid W.m X.n<|c+1]?=some (woken X.P l g1' w' a9))(Z:(S.c.r<|c+1).Fits X.P X.F w')(a7:WgLive X.4 X.5 w->WgLive X.4 X.5 w')(b6:w'.1[S.k c]?=some y.B)(b7:c+1<S.j->w'.1[S.k<|c+1]?=some (aQ S.c<|c+1).B)(T:aU):
  ∃d b,(b=S.6∨(S.6=.blk∧b=.w3))∧jP X W {S with c:=c',μ:=upd (rμ X S c d) c T,μr:=rμr X S c d,tag:=b} gs' w' (c+1):=by
 have d2:=h.le K;obtain⟨d6,d7,c6,H⟩:=aK;have V:aQ c' c=y:=by unfold aQ;rw[b4];rfl
 have b1:aQ c' (c+1)=aQ S.c (c+1):=by unfold aQ;rw[b5]
 have C:y.1.take y.2=(aQ S.c c).1.take (aQ S.c c).2:=aJ
 have U:∀(fr:az)(cs:List az),woken X.P l g1' w' (parked (G fr cs) #[rcase (S.k c) X.z]<|.recv true)={parked (G fr cs) #[rcase (S.k c) X.z] (.recv true)with status:=.running}:=by
  intro fr cs;unfold woken;rw[if_pos (by grind)];refine SI (a:=S.k c) rfl (cap:=room) (buf:=(y.1.drop y.2).toArray) (s:=y.1.length) (q:=y.2) (tm:=y.4) ?_;rw[b6];unfold cx.B;rw[c6]
 by_cases o:c+1<=X.n;by_cases I:c+1<S.j;let⟨D,F,A⟩:=h.6 _ I;rw[jA o]at a0;have fin:∀B d k,woken X.P l g1' w' D=k->S.D (c+1)=B->fB X (c+1) (S.k<|c+1- 1) (S.k<|c+1) y (aQ S.c<|c+1) (S.c.r<|c+1) w' k B d->∃d b,(b=S.6∨(S.6=.blk∧b=.w3))∧jP X W {S with c:=c',μ:=upd (rμ X S c d) c T,μr:=rμr X S c d,tag:=b} gs' w' (c+1):=by
  intro B d k m p A;refine⟨d,S.6,.inl rfl,λn=>aa,λ_=>⟨k,by grind,?_⟩⟩;dsimp only;rw[nX,V,b1,p,Y,upd_ne _ _ aa,rμ_eq o];exact A
 generalize p:S.D (c+1)=B at A;generalize S.μ (c+1)=d8 at A;by_cases r:∃fr cs,D=parked (G fr cs) #[rcase (S.k c) X.z] (.recv true);obtain⟨fr,cs,rfl⟩:=r;have L:gs[gid _ _<|c+1]?=some _:=aw (jA o) F;obtain⟨J,j,_⟩:=h.U K L;obtain⟨_,P,Q,R⟩:=J.1 o;unfold lz at j;rw[if_pos o]at j;exact fin _ (12,2*(y.1.length- y.2)+1,.leaf) _ (U _ _) R<|.recv aa (O2 _ _ _ _) (aw C j) ⟨P,Q⟩ λ_=>⟨f,v,H,E⟩;have a8:=A.B (w':=w') (h.10.1 _) Z a7 (λn _=>absurd n r) (.inl<|b7 I) l g1';generalize i:woken X.P l g1' w' D=x at a8;have c9:∀fr cs,x≠parked (G fr cs) #[rcase (S.k c) X.z] (.recv true):=by
  rintro fr cs rfl;have:D=parked (G fr cs) #[rcase (S.k c) X.z] (.recv true):=i▸ (PO<|dh i).symm;exact r ⟨fr,cs,this⟩
 cases a8 with
 |recv a6 z m g c1=>exact fin _ _ _ i p<|.recv a6 z (aw C m) g λ_=>⟨f,v,H,E⟩
 |eV a6 j b9 g=>grind
 |work z m g=>exact fin _ _ _ i p<|.work z m g
 |send z m g=>exact fin _ _ _ i p<|.send z m g
 |iE c4 c2 g ax=>exact fin _ _ _ i p<|.iE c4 c2 g ax
 |shut m g=>exact fin _ _ _ i p<|.shut m g
 |tail c3 g=>exact fin _ _ _ i p<|.tail c3 g
 exact⟨(0,0,.leaf),S.6,af,aa,λn=>absurd n I⟩;obtain rfl:c=X.n:=aa;obtain⟨a,b2,M⟩:=h.4;rw[qO o]at a0;have fin:∀b d k,woken X.P l g1' w' a=k->(b=S.6∨(S.6=.blk∧b=.w3))->dM X S.j (pJ (X.n+1) S.D) S.k y (S.c.r<|X.n+1) w' k b S.7 S.8 S.μs d->
   ∃d b,(b=S.6∨(S.6=.blk∧b=.w3))∧jP X W {S with c:=c',μ:=upd (rμ X S X.n d) X.n T,μr:=rμr X S X.n d,tag:=b} gs' w' (X.n+1):=by
  intro b d k m O M;refine⟨d,b,O,λ_=>⟨k,by grind,?_⟩,λn=>?_⟩;rw[nX,V,Y,rμr_eq rfl];exact M;have:=h.3;have:X.n+1<S.j:=n;omega
 by_cases r:∃fr cs,a=parked (G fr cs) #[rcase (S.k X.n) X.z] (.recv true);obtain⟨fr,cs,rfl⟩:=r;have L:gs[gid W.m X.n<|X.n+1]?=some _:=aw (qO o) b2;obtain⟨J,j,_⟩:=h.U K L;obtain⟨c7,P,Q,R,c8⟩:=J.2 rfl;unfold lz at j;rw[if_neg o]at j;exact fin S.6 (12,2*(y.1.length- y.2)+1,.leaf) _ (U fr cs) (.inl rfl) (by rw[P,Q,R,c8];exact .recv c7 (O2 _ _ _ _) (aw C j) λ_=>⟨f,v,H,E⟩);obtain⟨b,d9,u,O,_,_⟩:=M.I (w':=w') _ Z a7 (λn _=>absurd n r) l g1';rw[nX]at u;generalize i:woken X.P l g1' w' a=x at u;have c9:∀fr cs,x≠parked (G fr cs) #[rcase (S.k X.n) X.z] (.recv true):=by
  rintro fr cs rfl;have:a=parked (G fr cs) #[rcase (S.k X.n) X.z] (.recv true):=i▸ (PO<|dh i).symm;exact r ⟨fr,cs,this⟩
 generalize b8:S.8=dd at u;generalize b3:S.7=b0 at u;generalize hμs:S.μs=d0 at u;have N:∃d,dM X S.j (pJ (X.n+1) S.D) S.k y (S.c.r<|X.n+1) w' x b b0 dd d0 d:=by
  cases u with
  |pre e h=>omega
  |a1 e h=>omega
  |a2 e h=>omega
  |a3 e h=>omega
  |a4 e h=>omega
  |a5 e h=>omega
  |spawn d3 F h=>omega
  |recv e F h c1=>exact⟨_,.recv e F (aw C h) λ_=>⟨f,v,H,E⟩⟩
  |eV e h b9=>grind
  |post e h=>exact⟨_,.post e h⟩
  |wait d1 e j h=>exact⟨_,.wait _ e j h⟩
 obtain⟨d,N⟩:=N;subst b8 b3 hμs;exact fin b d x i O N
theorem bo.V(h:bo X W S gs w t)(u:c<S.j){fr:az}{cs:List az}(aK:gs[W.m+c]?=some b)(d2:jT b fr cs)(h1:xK X c (S.k c) (aQ S.c c).1 [] (S.c.r c) fr cs)(f3:(aQ S.c c).3=false)(T:S.D c=⟨7,0,0⟩)
  (hμ:∀e2,aU.B e2 (10,1,.leaf)->aU.B e2 (S.μ c))(e6:(S.μ c).1≠12):gz X W S gs w t sl (W.m+c):=by
 have a4:=h.le u;have j3:=h.3;have j4:=h.1;have c3:=h.dz u;have g9:=h.10.4 c _ (h.B u);have c7:S.k c<w.1.size:=(fU.1 c3).1;obtain⟨⟨f,v,d5,c2⟩,g4,p,cs1,q,b4,⟨ts,h7⟩,h2⟩:=h1;have g6:gid W.m X.n (c+1)≠W.m+c:=by unfold gid;split<;>omega
 have f6:W.m+c<gs.size:=(fU.1 aK).1;have f5:jN t (W.m+c)=0:=by rw[h.lM c u,T]
 have e4:gid W.m X.n c=W.m+c:=jA a4;have f9:=h.14 c u;have h6:c+1=S.j->S.j<=X.n->(aQ S.c c).2=0:=λm D=>(h.15 c m D).1;generalize b2:aQ S.c c=o at*;have J:S.c.2 c=some o:=jy b2 (h.B u);have f1:w.1[S.k c]?=some (.chan room (o.1.drop o.2).toArray false o.1.length o.2 o.4):=by rw[c3];unfold cx.B;rw[f3]
 have f7:stepG X.P false b w=.go (G p cs1) (w.setChan (S.k c) room (o.1.drop o.2).toArray true o.1.length o.2 o.4) #[⟨.obj (S.k c),false,true⟩,⟨.obj (S.k c),true,true⟩]:=by
  rw[d2.B];exact h2 w (h.10.1 c) _ _ _ _ f1
 have f8:(W.m+c==0)=false:=bQ;have L:=zF (P:=X.P) (sl:=sl) (i:=W.m+c) aK (aw f8 f7);have e5:eH (W.m+c) b.1.1 b.1.place #[⟨.obj (S.k c),false,true⟩,⟨.obj (S.k c),true,true⟩]= #[{g:=W.m+c,fn:=b.1.1,pos:=b.1.place,act:=.access ⟨.obj (S.k c),false,true⟩},{g:=W.m+c,fn:=b.1.1,pos:=b.1.place,act:=.close (S.k c)}]:=by
  rw[HX];simp[pz]
 rw[e5]at L;generalize b6:({g:=W.m+c,fn:=b.1.1,pos:=b.1.place,act:=.access ⟨.obj (S.k c),false,true⟩}:tJ)=n at L;generalize N:({g:=W.m+c,fn:=b.1.1,pos:=b.1.place,act:=.close (S.k c)}:tJ)=l at L;generalize ax:w.setChan (S.k c) room (o.1.drop o.2).toArray true o.1.length o.2 o.4=w' at L;have d6:w'.1=w.1.setIfInBounds (S.k c) ({o with cl:=true,pend:=some (f,v)}:cx).B:=EF ax;have b5:w'.2=w.2∧w'.4=w.4∧w'.5=w.5:=by rw[<-ax];exact⟨rfl,rfl,rfl⟩
 have V:w'.1.size=w.1.size:=cw d6;have f0:∀d,d≠S.k c->w'.1[d]?=w.1[d]? :=λd k=>by grind
 have g0:S.k c≠X.5:=h.10.9 c _ (h.B u);have d7:w'.1[X.5]?=w.1[X.5]? :=f0 _ (kg g0);have a8:WgLive X.4 X.5 w->WgLive X.4 X.5 w':=λ⟨st,i5,h5⟩=>⟨st,i5,d7.trans h5⟩;have z:=h.10.U (y:={o with cl:=true,pend:=some (f,v)}) J g9 rfl d5 b4 d6;have c8:∀op∈(#[n,l]:ez),op=n∨op=l:=λop j=>aV j;have a5:∀op∈(#[n,l]:ez),op.g=W.m+c:=λop j=>by grind
 have Y:∀op∈(#[n,l]:ez),∀x,op.4.touch?=some x->x.1=.obj (S.k c)∧x.2=false∧x.3=.atomic:=by
  intro op j x a;rcases c8 op j with rfl|rfl;rw[<-b6]at a;simp only[r_,vB]at a;subst a;exact⟨rfl,rfl,rfl⟩;rw[<-N]at a;cases a
 have a9:∀op∈(#[n,l]:ez),∀x,op.4.touch?=some x->∀d,gP d x.1->d=S.k c:=λop j x a d k=>by
  rw[(Y _ j x a).1]at k;exact k.symm
 have b1:∀op∈(#[n,l]:ez),∀e0,op.4≠ .mark e0:=λop j e0=>by
  grind
 have b9:∀b,jN (t++ #[n,l]) b=jN t b:=λb=>Go.ConcN.Deaf_still t b _ λop j=>⟨b1 op j _,b1 op j _⟩;have f4:∀said,¬zy said (t++ #[n,l]):=λsaid=>Am (h.11.1 said) a5 λi r a3 op j d k f2=>by
  obtain⟨Q,B,_⟩:=Y op j d k;obtain⟨i1,_,i4,_⟩:=f2;exact h.13 c u i r a3 (by rw[i1,Q];exact rfl) (i4.resolve_right (cw B))
 have br:Told (gid W.m X.n) ⟨upd S.c.r c q,upd S.c.2 c (some {o with cl:=true,pend:=some (f,v)})⟩ w' (t++ #[n,l]):=by
  have base:=h.11.B (w1:=w') f4 (λop j x a d k=>by rw[a9 _ j x a d k];exact⟨λi=>h.10.5 c _ i J,aa⟩) (vu V.symm);refine⟨base.1,λi d k=>?_,λi d k=>?_,base.4⟩;dsimp only at k;by_cases e:i=c;subst e;rw[upd_same]at k;exact base.2 _ d (b4.B k);rw[upd_ne _ _ e]at k;exact base.2 i d k;dsimp only at k;by_cases e:i=c;subst e;rw[upd_same,b4.s]at k;exact base.3 _ d k;rw[upd_ne _ _ e]at k;exact base.3 i d k
 have g7:(t++ #[n,l])[t.size]?=some n:=by rw[Rk (cP _)];simp
 have d0:(t++ #[n,l])[t.size+1]?=some l:=by rw[Rk aa];simp
 have e8:Handed S.k ⟨upd S.c.r c q,upd S.c.2 c (some {o with cl:=true,pend:=some (f,v)})⟩ (t++ #[n,l]):=by
  intro i x c1 e1 a b3;by_cases e:i=c;subst e;dsimp only at a;rw[upd_same]at a;cases a;cases b3;refine⟨t.size+1,l,d0,xM N,⟨W.m+i,by simp[rB,<-N],?_⟩,λr d U b7 x a A=>?_⟩;rw[deaf_succ g7,deaf_old (cP _)];have:Trace.deaf t (W.m+i) t.size=0:=f5;rw[this,<-b6];rfl;have c9:(S.c.r i).B d:=.inr ⟨f,v,r,d5,U⟩;rcases p5 a with C|⟨b8,C,_,a2⟩;have c6:=h.11.2 i d c9 b7 x C A;rw[e4]at c6;exact .inr (c6.hb_new (zw _) d0 (xM N));exact absurd (.inl c9) (a9 b8 C x a2 d A▸h.10.5 i _ i J);obtain⟨a0,op,h9,i2,i3,i0⟩:=h.12 i x c1 e1 (by rw[<-upd_ne S.c.2 (some {o with cl:=true,pend:=some (f,v)}) e];omega) b3;have b0:=zA h9;refine⟨a0,op,by grind,i2,(DG b0).2 i3,λr d U b7 y d9 A=>?_⟩;rcases p5 d9 with C|⟨b8,C,_,a2⟩;exact(i0 r d U b7 y C A).app _;have k:=a9 b8 C y a2 d A;have h8:S.c.2 i=some x:=by rw[<-upd_ne S.c.2 (some {o with cl:=true,pend:=some (f,v)}) e];exact a
  exact absurd k.symm ((h.10.11 i x c1 e1 r d h8 b3 U).2.2.1 c o J)
 have a6:∀x y,x≠W.m+c->gs[x]?=some y->((gs.map (woken X.P b (G p cs1) w')).setIfInBounds (W.m+c) (G p cs1))[x]?=some (woken X.P b (G p cs1) w' y):=λx y a d9=>by
  grind
 have g5:mayWake X.P b=true:=by
  rw[<-g4];unfold mayWake;rw[d2.1];rfl
 obtain⟨i9,i6,h4,d1⟩:=h.pL (f:=f) (v:=v) (gs':=(gs.map (woken X.P b (G p cs1) w')).setIfInBounds (W.m+c) (G p cs1)) (w':=w') u (y:={o with cl:=true,pend:=some (f,v)}) ⟨fN b2,fN b2,rfl,rfl⟩ c2 g5 (g1':=G p cs1) rfl (c':=⟨upd S.c.r c q,upd S.c.2 c (some {o with cl:=true,pend:=some (f,v)})⟩) (upd_same _ _ _) (upd_ne _ _ aa) (upd_ne _ _ aa)
  (λx a=>a6 _ x g6 a) (by have:=z.1 (c+1);rwa [show(⟨_,_⟩:dx).r _=S.c.r (c+1)from upd_ne _ _ aa]at this) a8 (by grind)
  (λb0=>by have:=z.3 _ _ ((upd_ne _ _ aa).trans (h.B b0));omega) (9,0,ts)
 obtain⟨F,a1,d4,g8,g3⟩:∃F a1,(F=S.6∨(S.6=.blk∧F=.w3))∧(c≠X.n->a1.1=S.μr.1)∧∃r,((gs.map (woken X.P b (G p cs1) w')).setIfInBounds (W.m+c) (G p cs1))[0]?=some r∧
   dM X S.j (pJ (X.n+1) S.D) S.k (bA (⟨upd S.c.r c q,upd S.c.2 c (some {o with cl:=true,pend:=some (f,v)})⟩:dx) (X.n+1)) (upd S.c.r c q (X.n+1)) w' r F S.7 S.8 S.μs a1:=by
  by_cases e:c=X.n;subst e;exact⟨i6,_,h4,λe=>absurd rfl e,d1.1 rfl⟩;obtain⟨r,a3,g2⟩:=h.4;have Q:(⟨upd S.c.r c q,upd S.c.2 c (some {o with cl:=true,pend:=some (f,v)})⟩:dx).r (X.n+1)=S.c.r (X.n+1):=upd_ne _ _ aa;have a7:bA (⟨upd S.c.r c q,upd S.c.2 c (some {o with cl:=true,pend:=some (f,v)})⟩:dx) (X.n+1)=bA S.c (X.n+1):=by
   show aQ _ X.n=aQ _ X.n;unfold aQ;dsimp only;rw[upd_ne _ _ (λe3=>e e3.symm)]
  obtain⟨i7,i8,g1,h3,_,e7⟩:=g2.I (w':=w') (pJ (X.n+1) S.D) (by have:=z.1 (X.n+1);rwa [Q]at this) a8
   (λ_ j2=>by have:=z.3 X.n _ ((upd_ne _ _ aa).trans (h.B aa));exact this) b (G p cs1)
  exact⟨i7,i8,h3,λ_=>e7,_,a6 0 r aa a3,by rw[a7];rw[show upd _ c _ _=S.c.r (X.n+1)from Q];exact g1⟩
 refine⟨{S with c:=⟨upd S.c.r c q,upd S.c.2 c (some {o with cl:=true,pend:=some (f,v)})⟩,μ:=upd (rμ X S c i9) c (9,0,ts),μr:=a1,tag:=F},_,w',_,L,?_,?_⟩;have K:∀i,i≠c->aQ (⟨upd S.c.r c q,upd S.c.2 c (some {o with cl:=true,pend:=some (f,v)})⟩:dx) i=aQ S.c i:=λi s=>by unfold aQ;dsimp only;rw[upd_ne _ _ s]
 have R:aQ (⟨upd S.c.r c q,upd S.c.2 c (some {o with cl:=true,pend:=some (f,v)})⟩:dx) c={o with cl:=true,pend:=some (f,v)}:=by unfold aQ;dsimp only;rw[upd_same];rfl
 refine h.am rfl rfl rfl af (h.tX (.inr aa)) g3 (λi s=>?_) (λi m _=>upd_ne _ _ aa) (λ_ _=>rfl) (λi=>?_) (λi s a0 x a=>?_) (λi m D=>?_) z br e8 (vu V.symm) (λO m D I=>?_) (λop j=>.inr ⟨c,u,a5 op j⟩) (λop j x a h0=>?_) (λop j x a d8=>?_) (λop j _=>b1 op j _) (λop j=>?_) ((b9 0).trans h.d0) (λi s=>(b9 _).trans (h.lM i s)) (λi _ _=>b9 _)
  (λi s M=>.inl ⟨M,λop j e=>?_⟩) (λe=>?_) (h.I d7 rfl d4) b5.1 b5.2.1 b5.2.2
 by_cases e:i=c;subst e;refine⟨G p cs1,get_map_set_same _ _ _ f6,?_⟩;dsimp only;rw[R,T,upd_same,upd_same];exact .shut h7 rfl;by_cases B:i=c+1;subst B;exact d1.2 s;obtain⟨x,a,M⟩:=h.6 i s;have j1:=h.le s;refine⟨_,a6 _ x aa a,?_⟩;dsimp only;rw[K i e,upd_ne _ _ e,upd_ne _ _ e,rμ_ne B];have c4:=z.1 i;rw[show(⟨upd S.c.r c q,upd S.c.2 c (some {o with cl:=true,pend:=some (f,v)})⟩:dx).r i=S.c.r i from upd_ne _ _ e]at c4;have a7:0<i->bA (⟨upd S.c.r c q,upd S.c.2 c (some {o with cl:=true,pend:=some (f,v)})⟩:dx) i=bA S.c i:=λH=>K (i- 1) aa;have d3:=M.B (w':=w') (h.10.1 i) c4 a8 (λ_ H=>by have:=z.3 (i- 1) _ ((upd_ne _ _ aa).trans (h.B aa));exact this) (.inl (z.3 i _ ((upd_ne _ _ e).trans (h.B s)))) b (G p cs1);rcases rC i with H|H;subst H;exact d3.O _;rw[a7 H];exact d3;dsimp only;by_cases e:i=c;subst e;rw[upd_same];exact⟨λ_=>cw J,λ_=>af⟩;rw[upd_ne _ _ e];dsimp only at a;by_cases e:i=c;subst e;rw[R]at a;exact f9 a0 x a;rw[K i e]at a;exact h.14 i s a0 x a;dsimp only;by_cases e:i=c;subst e;rw[R];exact⟨h6 m D,λ_=>⟨f,v,rfl,c2⟩⟩;rw[K i e];exact h.15 i m D;dsimp only at I;by_cases e:O=c;subst e;rw[R]at I;cases I;rw[K O e]at I;have E:=h.16 O m D I;unfold ik at E⊢;dsimp only;split;rename_i Z;rw[if_pos Z]at E;by_cases B:O+1=c;subst B;exact absurd E e6;rw[upd_ne _ _ B,rμ_ne aa];exact E;rename_i Z;rw[if_neg Z]at E;rw[g8 (aI (h.le m))];exact E;obtain⟨j0,A,_⟩:=h0;rw[(Y op j x a).1]at A;cases A;rw[(Y op j x a).2.1]at d8;cases d8;rcases c8 op j with rfl|rfl;rw[<-b6];show S.k c<_;rw[V];exact c7;rw[<-N];show S.k c<_;rw[V];exact c7;rw[a5 op j]at e;have:i=c:=aa;subst this;rw[show S.D i=⟨7,0,0⟩from T]at M;simp at M;have:S.6=.ret:=by
  rcases d4 with m|⟨_,m⟩;rw[<-m];exact e;rw[show F=CTag.ret from e]at m;cases m
 exact absurd this (h.cW a4 (cw T));exact uA a4 rfl rfl (λO Z=>by dsimp only;rw[upd_ne _ _ aa,rμ_ne aa]) (by dsimp only;rw[upd_same];exact hμ _ (aU.T aa))
end
end
section
open Go.Conc
open Go.ConcN (upd upd_same upd_ne sumTo WD CTag WgLive ShN RelBy get_map_set get_map_set_same)
open Go.ConcR (KK WgAt stA smA rd wr mk DC0 Bk)
section
variable{X:dn}{W:jc}{S:dN}{gs gs':Array cf}{w w':ag}{t u:ez}{c:Nat}{sl:Option (Nat×Nat)}
variable{r:CTag}
theorem bo.lK(h:bo X W S gs w t)(j:gs[0]?=some b)(u:stepG X.P true b w=.go v w' l){r1:aG}{e:CTag}
  (f:fX X.P X.F S.k X.5 {S.c with r:=upd S.c.r (X.n+1) r1} w')(s:Told (gid W.m X.n) {S.c with r:=upd S.c.r (X.n+1) r1} w' (t++eH 0 b.1.1 b.1.place l))
  (q:Handed S.k {S.c with r:=upd S.c.r (X.n+1) r1} (t++eH 0 b.1.1 b.1.place l))(n:w<=w'.1.size)
  (F:∀op∈eH 0 b.1.1 b.1.place l,∀x,op.4.touch?=some x->ShN X.5 x.1->x.3≠ .plain∧(x.3=.said->op.g=0))
  (z:∀op∈eH 0 b.1.1 b.1.place l,∀x,op.4.touch?=some x->x.2=true->∀i,i<S.j->¬gP (S.k i) x.1)
  (D:∀op∈eH 0 b.1.1 b.1.place l,∀b,op.4≠ .mark (.release b))(A:∀op∈eH 0 b.1.1 b.1.place l,op.4.low w')
  (G:dM X S.j (pJ (X.n+1) S.D) S.k (bA S.c (X.n+1)) r1 w' v e o a k J)(d:deafBehind S.8 l=a)
  (H:w'.2=w.2)(E:w'.4=w.4)(d:w'.5=w.5)(B:WgLive X.4 X.5 w')
  (I:∃st g,WgAt X.4 X.5 w' st g∧((o=false∧st=0∧g=0)∨(o=true∧oF (X.n+1) S.D e st g)))
  (y:e=.ret->AcqAll W.m X.n X.5 (t++eH 0 b.1.1 b.1.place l))(C:aU.B k S.μs∨(k=S.μs∧aU.B J S.μr))(g:J.1=12∨S.μr.1≠12):gz X W S gs w t sl 0:=by
 have g:=h.1;have m:∀x,x≠X.n+1->upd _ _ r1 x=S.c.r x:=λx p=>upd_ne _ _ p;refine⟨{S with c:={S.c with r:=upd S.c.r (X.n+1) r1},tag:=e,added:=o,dd:=a,μs:=k,μr:=J},_,w',_,(zF (P:=X.P) (sl:=sl) (i:=0) j (show stepG X.P (0==0) b w=_ from u)),?_,?_⟩;refine h.am rfl rfl rfl af (h.tX aa) ⟨v,get_map_set_same _ _ _ ((fU.1 j).1),by simp only;rw[upd_same];exact G⟩ (λi e=>?_) (λi g j=>m i j) af af h.14 h.15 f s q n (λc g j u=>?_)
  (λop d=>.inl (nZ d)) F z D A ?_ (λi e=>?_) (λi s g=>?_) (λi e n=>.inl ⟨n,λop d q=>?_⟩) y I H E d
 have y:=h.le e;let⟨x,p,n⟩:=h.6 i e;refine⟨_,by rw[get_map_set _ _ _ _ aa,p];rfl,?_⟩;simp only;rw[m i aa];refine n.B (h.10.1 i) (by have:=f.1 i;rw[show({S.c with r:=upd _ _ _}:dx).r i=S.c.r i from m i aa]at this;exact this) (λ_=>B) (λ_ s=>?_) (.inl (f.3 i _ (h.B e))) b v;exact f.3 _ _ (h.B aa);have f:=h.16 c g j u;unfold ik at f⊢;grind;rw[DV,h.d0];omega;rw[vC t (g':=0) aa _ λop d=>nZ d,h.lM i e];exact vC t (g':=0) aa _ λop d=>nZ d;have:=nZ d;omega;rcases C with q|⟨d,e⟩;exact O_ rfl q;exact OY rfl d af e
theorem bo.dY(c:bo X W S gs w t)(u:gs[0]?=some b){μs' μr':cZ->aU}(z:jT b f h)(g:Walk X.P true X.F K (.node b3) (S.c.r<|X.n+1) f h)
  (x:∀d cs1 e w1 a,Walk X.P true X.F K a e d cs1->dM X S.j (pJ (X.n+1) S.D) S.k (bA S.c<|X.n+1) e w1 (G d cs1) S.6 S.7 S.8 (μs' a) (μr' a))(y:S.6≠ .ret)
  (v:∀a,cZ.vq a (.node b3)->aU.B (μs' a) S.μs∨(μs' a=S.μs∧aU.B (μr' a) S.μr))(o:∀a,(μr' a).1=12∨S.μr.1≠12):gz X W S gs w t sl 0:=by
 obtain⟨d,cs1,w1,a,e,n,q,a,r,s⟩:=g w<|c.10.1<|X.n+1;have m:gid W.m X.n _=0:=pN;let⟨A,d,e,g,i,j,k,l,B⟩:=c.tZ (p:=X.n+1) (fn:=b.1.1) (pos:=b.1.place) a q r;rw[m]at d e g i j k;have m:stepG _ _ b w=.go _ _ _:=aw z.B n;let⟨st,q,n⟩:=c.ao;exact c.lK (sl:=sl) u m A d e a.4 g i j k (x _ _ _ _ _ s) (B _) a.1 a.2 a.3 ⟨st,q,l.trans n⟩ (c.I l rfl<|.inl rfl) (λe=>absurd e y) (v _<|.child b3 w)<|o _
theorem bo.sy(h:bo X W S gs w t)(j:gs[0]?=some b)(q:stepG X.P true b w=.go v w' l)(c:Ar X.5 w w'){e d:Int}(g:WgAt X.4 X.5 w' e d)(p:∀f∈l,ki X.5 true f)
  (u:dM X S.j (pJ (X.n+1) S.D) S.k (bA S.c<|X.n+1) (S.c.r<|X.n+1) w' v r o a k J)(n:deafBehind S.8 l=a)(f:(o=false∧e=0∧d=0)∨(o=true∧oF (X.n+1) S.D r e d))
  (m:r=.ret->AcqAll W.m X.n X.5 (t++eH 0 b.1.1 b.1.place l))(s:aU.B k S.μs∨(k=S.μs∧aU.B J S.μr))(i:J.1=12∨S.μr.1≠12):gz X W S gs w t sl 0:=by
 obtain⟨x,y,z,A,B,C,D⟩:=h.t_ (G:=0) (fn:=b.1.1) (pos:=b.1.place) p (λ_=>rfl) c.5 c.4;have f:upd _ (X.n+1) _=S.c.r:=G3 _ _ rfl;exact h.lK (sl:=sl) (r1:=S.c.r<|X.n+1) j q (aw f x) (aw f y) (aw f z) (vu c.4.symm) A B C D u n c.1 c.2 c.3 ⟨_,_,g⟩ ⟨e,d,g,aa⟩ m s i
end
end
section
open Go.Conc
open Go.ConcN (upd upd_same upd_ne sumTo WD CTag WgLive ShN RelBy Vc Vc_le isOpen isW3 isFin OpenSt AllQuit allQuit_of cnt pend bk_cell Mode.reopen Mode.open_inv Mode.fin_inv)
open Go.ConcR (KK WgAt stA smA rd wr mk DC0 Bk ofEvent_mk)
variable{r:CTag}{b8:Mark}{Q:Nat->WD}
theorem ZU(h:oF a Q .w3 S M):(M=0∧oF a Q .blk S M)∨(S=0∧M=1∧AllQuit a Q):=by
 cases h with
 |opn b _ _=>exact b.elim
 |reg b c d=>exact .inl ⟨rfl,.reg trivial c d⟩
 |last L b c d e=>exact .inl ⟨rfl,.last L trivial c d e⟩
 |sema c=>grind
 |fin b _=>exact b.elim
section
variable{X:dn}{W:jc}{S:dN}{gs gs':Array cf}{w w':ag}{t u:ez}{c:Nat}{sl:Option (Nat×Nat)}
theorem uj(h:b8=.disable∨b8=.enable∨b8=.acquire (stA a)∨b8=.releaseMerge (stA a)∨(o=true∧(b8=.read (smA a)∨b8=.write (smA a)))):∀e∈ #[mk b8],ki a o e:=by
 intro e b;simp at b;subst b;exact .inl ⟨b8,rfl,h⟩
theorem BM:∀e∈ #[rd<|stA a],ki a o e:=by
 intro e b;simp at b;subst b;exact .B<|bk_cell _ _ rfl
theorem MX:∀e∈ #[rd<|stA a,wr<|stA a],ki a o e:=by
 intro e b;simp at b;rcases b with rfl|rfl<;>exact .B<|bk_cell _ _ rfl
theorem XO:∀e∈semEvents (smA a),ki a o e:=by
 intro e b;simp[semEvents]at b;obtain rfl|rfl|rfl|rfl:=b;exact .inl af;exact .B<|bk_cell _ _ rfl;exact .B<|bk_cell _ _ rfl;exact .inl af
theorem bo.Y(h:bo X W S gs w t)(ok:X.Ok)(T:gs[0]?=some b)(U:S.j=X.n+1)
  (G:∀F w,R F w->F.3=.running∧∃c1,Goes X.P true (cn X.P X.F (S.c.r<|X.n+1) X.4 X.5) DC0 (W1 X.P X.4 X.5 (cn X.P X.F (S.c.r<|X.n+1) X.4 X.5) R<|jr X<|S.c.r<|X.n+1) c1 F w)
  (b6:ja X (Vc (X.n+1) S.D) (S.c.r<|X.n+1) w R b r a x)(M:S.6=r)(I:S.8=a)(hμs:S.μs=(0,0,.leaf))(hμr:∀a0,aU.B a0 (2,x.1,.B x.2)->aU.B a0 S.μr)(Q:S.μr.1≠12)(c7:b.3=.running):
  gz X W S gs w t sl 0∨(S.6=.ret∧jr X (S.c.r<|X.n+1) b w):=by
 obtain⟨st,c3,m,p⟩:=h.an (i:=0) aa;have aK:=Vc_le (X.n+1) S.D;have c8:=ok.3;rw[M]at p;have q:∀ {d:cf} {w':ag} {n:Array gY} {C:CTag} {D:Nat} {u:Nat×Nat} {P O:Int},stepG X.P true b w=.go d w' n->Ar X.5 w w'->WgAt X.4 X.5 w' P O->(∀o∈n,ki X.5 true o)->
   ja X (Vc (X.n+1) S.D) (S.c.r<|X.n+1) w' R d C D u->deafBehind a n=D->oF (X.n+1) S.D C P O->(C=.ret->AcqAll W.m X.n X.5 (t++eH 0 b.1.1 b.1.place n))->(u.1<x.1∨(u.1=x.1∧u.2+1=x.2))->gz X W S gs w t sl 0:=by
  intro d w' n C D u P O c a2 b8 a8 L a5 J a3 b1;refine h.sy T c a2 b8 a8 (.wait R U G L) (aw I a5) (.inr ⟨rfl,J⟩) a3 (.inr ⟨hμs.symm,?_⟩)<|.inr Q;refine hμr _ ?_;obtain o|⟨A,E⟩:=b1;exact aU.I o;rw[A,<-E];exact aU.O<|cZ.I _
 have v:∀ {d:cf} {u:Nat×Nat},stepG X.P true b w=.go d w #[]->ja X (Vc (X.n+1) S.D) (S.c.r<|X.n+1) w R d r a u->u.1=x.1->u.2+1=x.2->gz X W S gs w t sl 0:=by
  intro d u c L A E;exact q c (.refl _ w) m af L rfl p (λo=>by have:=h.25<|M.trans o;rw[pV];simpa using this)<|.inr ⟨A,E⟩
 have w1:∀ {N:Nat},(8*Vc (X.n+1) S.D+5<x.1∨(8*Vc (X.n+1) S.D+5=x.1∧N=x.2))->a=1->oF (X.n+1) S.D .w1 st c3->Goes X.P true (cn X.P X.F (S.c.r<|X.n+1) X.4 X.5) DC0 (W1 X.P X.4 X.5 (cn X.P X.F (S.c.r<|X.n+1) X.4 X.5) R<|jr X<|S.c.r<|X.n+1) N b w->gz X W S gs w t sl 0:=by
  intro N V a7 p f;subst a7;obtain l|⟨y,rfl,k⟩:=mm f;obtain⟨_,H⟩:=l w<|.B w;obtain⟨K,rfl,rfl,_⟩:=p.open_inv trivial;obtain⟨d,c,a1,b3⟩:=H (Vc (X.n+1) S.D) aa (by simpa[pend]using m);by_cases B:Vc (X.n+1) S.D=0;obtain⟨s,e⟩:=a1 B;refine q c (.refl _ w) m BM (.ke e) rfl ?_ af<|.inl (by omega);have o:((Vc (X.n+1) S.D+pend .w1:Nat):Int)*KK=0:=by rw[B];simp[pend]
  rw[o];exact .fin trivial<|allQuit_of K B;obtain⟨s,e⟩:=b3 B;exact q c (.refl _ w) m BM (.w2 e) rfl (p.reopen trivial trivial rfl (λZ o=>by grind)) af<|.inl (by omega);obtain⟨d,w',n,c,⟨rfl,rfl⟩,j⟩:=k w<|.B w;exact q c (.refl _ w') m af (.w1 j) rfl p af<|V.imp id λo=>⟨o.1,by omega⟩
 cases b6 with
 |kd f=>
  obtain l|⟨y,rfl,k⟩:=mm f;obtain⟨_,d,c,s,e⟩:=l w<|.B w;exact .inl<|q c (.refl _ w) m (uj<|.inl rfl) (.anch e) rfl (p.reopen trivial trivial rfl af) af<|.inl aa;obtain⟨d,w',n,c,⟨rfl,rfl⟩,j⟩:=k w<|.B w;exact .inl<|v c (.kd j) rfl rfl
 |anch f=>
  obtain l|⟨y,rfl,k⟩:=mm f;obtain⟨_,s,e⟩:=G b w<|l w<|.B w;exact .inl<|w1 aa rfl (p.reopen trivial trivial rfl af) e;obtain⟨d,w',n,c,⟨rfl,rfl⟩,j⟩:=k w<|.B w;exact .inl<|v c (.anch j) rfl rfl
 |w1 f=>grind
 |w2 f=>
  rename_i N Z;obtain l|⟨y,rfl,k⟩:=mm f;obtain⟨_,H⟩:=l w<|.B w;obtain⟨K,rfl,rfl,b7⟩:=p.open_inv trivial;obtain⟨V,c4⟩:=b7 _ rfl;let⟨a9,b2⟩:=H (Vc (X.n+1) S.D) aa (by simpa[pend]using m);by_cases o:Vc (X.n+1) S.D=Z;let⟨d,c,s,e⟩:=a9 o;exact .inl<|q c (xf w (stA _) _) (m.setSt _) MX (.said e) rfl (.reg trivial K aa) af<|.inl aa;let⟨d,c,s,e⟩:=b2 o;exact .inl<|q c (.refl _ w) m BM (.anch e) rfl (p.reopen trivial trivial rfl af) af<|.inl aa;obtain⟨d,w',n,c,⟨rfl,rfl⟩,j⟩:=k w<|.B w;exact .inl<|v c (.w2 j) rfl rfl
 |said f=>
  obtain l|⟨y,rfl,k⟩:=mm f;obtain⟨_,d,c,s,e⟩:=l w<|.B w;exact .inl<|q c (.refl _ w) m (uj<|.inr<|.inr<|.inr<|.inr af) (.w3 e) rfl aa af<|.inl aa;obtain⟨d,w',n,c,⟨rfl,rfl⟩,j⟩:=k w<|.B w;exact .inl<|v c (.said j) rfl rfl
 |w3 f=>
  obtain l|⟨y,rfl,k⟩:=mm f;obtain⟨_,c6,a4,b5⟩:=l w<|.B w;obtain⟨rfl,J⟩|⟨rfl,rfl,z⟩:=ZU aa;exact .inl<|h.sy T (a4 ⟨_,m⟩) (.refl _ w) m af (.wait _ U G<|.blk aa) (dh I) (.inr ⟨rfl,J⟩) af (.inr ⟨hμs.symm,hμr _<|aU.I aa⟩)<|.inr Q;let⟨d,c,s,e⟩:=b5 m;exact .inl<|q c (xf w (smA _) _) (m.setSm 0) XO (.w4 e) (by simp[deafBehind,semEvents]) (.fin trivial z) af<|.inl aa;obtain⟨d,w',n,c,⟨rfl,rfl⟩,j⟩:=k w<|.B w;exact .inl<|v c (.w3 j) rfl rfl
 |blk h=>grind
 |w4 f=>
  obtain l|⟨y,rfl,k⟩:=mm f;obtain⟨_,b9⟩:=l w<|.B w;obtain⟨z,rfl,rfl⟩:=p.fin_inv trivial;obtain⟨d,c,s,e⟩:=b9 m;exact .inl<|q c (.refl _ w) m BM (.ke e) rfl (.fin trivial z) af<|.inl (by dsimp only;omega);obtain⟨d,w',n,c,⟨rfl,rfl⟩,j⟩:=k w<|.B w;exact .inl<|v c (.w4 j) rfl rfl
 |ke f=>
  obtain l|⟨y,rfl,k⟩:=mm f;obtain⟨_,d,c,s,e⟩:=l w<|.B w;obtain⟨z,rfl,rfl⟩:=p.fin_inv trivial;exact .inl<|q c (.refl _ w) m (uj<|.inr<|.inl rfl) (.acq e) rfl (.fin trivial z) af<|.inl (by dsimp only;omega);obtain⟨d,w',n,c,⟨rfl,rfl⟩,j⟩:=k w<|.B w;exact .inl<|v c (.ke j) rfl rfl
 |acq f=>
  obtain l|⟨y,rfl,k⟩:=mm f;obtain⟨_,d,c,s,e⟩:=l w<|.B w;obtain⟨z,rfl,rfl⟩:=p.fin_inv trivial;refine .inl<|q c (.refl _ w) m (uj<|.inr<|.inr<|.inl rfl) (.fin e) rfl (.fin trivial z) (λ_=>?_)<|.inl (by dsimp only;omega);have A:eH 0 b.1.1 b.1.place #[aeF<|.acquire<|stA X.5]= #[{g:=0,fn:=b.1.1,pos:=b.1.place,act:=.mark (.acquire<|stA X.5)}]:=by rw[HX];simp[ofEvent_mk]
  have ax:(t++ #[({g:=0,fn:=b.1.1,pos:=b.1.place,act:=.mark (.acquire<|stA X.5)}:tJ)])[t.size]?=some {g:=0,fn:=b.1.1,pos:=b.1.place,act:=.mark (.acquire<|stA X.5)}:=af;have a6:jN t 0=0:=by rw[h.d0,I]
  refine⟨t.size,by rw[A,act?_of ax],by rw[A];simp[rB],by rw[A];exact⟨0,by simp[rB],by rw[deaf_old<|cP _];exact a6⟩,λi b0=>?_⟩;obtain⟨c2,Y⟩:=h.23 i aa<|dT<|z i b0;exact⟨c2,yT Y λop b4 o=>dX (nZ b4) h.1,lt_of_act? Y.1⟩;obtain⟨d,w',n,c,⟨rfl,rfl⟩,j⟩:=k w<|.B w;exact .inl<|v c (.acq j) rfl rfl
 |fin f=>
  obtain l|⟨y,rfl,k⟩:=mm f;exact .inr ⟨M,l w<|.B w⟩;obtain⟨d,w',n,c,⟨rfl,rfl⟩,j⟩:=k w<|.B w;exact .inl<|v c (.fin j) rfl rfl
end
end
section
open Go.Conc
open Go.ConcN (upd upd_same upd_ne sumTo WD CTag WgLive ShN RelBy Deaf_still Deaf_absent)
open Go.ConcR (KK WgAt stA smA)
theorem XL(d:e7.g=0∧e7.4=.go a)(f:f4.g=a∧f4.4=.start)(b:jN b4 0=0)(c:jN b4 a=0)(h:zx b4 0 e):zx (b4++ #[e7,f4]) a e:=Go.ConcN.fork_knows d f b c h
section
variable{X:dn}{k:Nat->Nat}{wg:Nat}{c:dx}{w:ag}
theorem fX.O(h:fX X.P X.F k wg c w){j p b:Nat}(a:c.2 j=none)(a:∀x,¬(c.r j).O x)(E:p≠j)(q:En X (c.r p) b g d3):fX X.P X.F (upd k j b) wg ⟨upd (upd c.r j g) p d3,upd c.2 j<|some fD⟩ w:=by
 have A:(c.r p).B b:=.inl<|cw q.1;have own:∀i x,(upd (upd c.r j g) p d3 i).B x->((i=p∨i=j)∧(c.r p).B x∧x≠b)∨(i≠p∧i≠j∧(c.r i).B x):=by
  intro i x a;by_cases f:i=p;subst f;rw[upd_same]at a;obtain⟨m,n,_⟩:=q.4 x a;exact .inl ⟨.inl rfl,m,n⟩;rw[upd_ne _ _ f]at a;by_cases l:i=j;subst l;rw[upd_same]at a;obtain⟨m,n,_⟩:=q.3 x a;exact .inl ⟨.inr rfl,m,n⟩;rw[upd_ne _ _ l]at a;exact .inr ⟨f,l,a⟩
 have y:∀i x,(upd (upd c.r j g) p d3 i).O x->((i=p∨i=j)∧(c.r p).O x∧x≠b)∨(i≠p∧i≠j∧(c.r i).O x):=by
  intro i x a;obtain a|a:=a;obtain⟨m,n,v⟩|⟨m,n,v⟩:=own i x a;exact .inl ⟨m,.inl n,v⟩;exact .inr ⟨m,n,.inl v⟩;by_cases f:i=p;subst f;rw[upd_same]at a;obtain⟨m,n⟩:=q.6 x a;exact .inl ⟨.inl rfl,m,n⟩;rw[upd_ne _ _ f]at a;by_cases l:i=j;subst l;rw[upd_same]at a;obtain⟨m,n⟩:=q.5 x a;exact .inl ⟨.inr rfl,m,n⟩;rw[upd_ne _ _ l]at a;exact .inr ⟨f,l,.inr a⟩
 have old:∀i z,upd c.2 j (some fD) i=some z->(i=j∧z=fD)∨(i≠j∧c.2 i=some z):=by
  intro i z d;by_cases e:i=j;subst e;rw[upd_same]at d;cases d;exact .inl ⟨rfl,rfl⟩;rw[upd_ne _ _ e]at d;exact .inr ⟨e,d⟩
 have fits:=q.2 w<|h.1 p;refine⟨λi=>?_,λi u x H a t=>?_,λi z d=>?_,λi z d=>?_,λi z o d a=>?_,λi u z s d r e=>?_,h.7,λi a=>?_,λi z d e=>?_,λi z C D d B=>?_,λi z C D F x d B G=>?_⟩;simp only;by_cases f:i=p;subst f;rw[upd_same];exact fits.2;rw[upd_ne _ _ f];by_cases l:i=j;subst l;rw[upd_same];exact fits.1;rw[upd_ne _ _ l];exact h.1 i;simp only at a t;obtain⟨m,n,v⟩|⟨m,n,v⟩:=own i x a;obtain⟨s1,s2,j⟩|⟨s1,s2,j⟩:=y u x t;rcases m with rfl|rfl<;>rcases s1 with rfl|rfl
 omega;rw[upd_same]at a;rw[upd_ne _ _<|kg E,upd_same]at t;exact(q.4 x a).2.2 t;rw[upd_ne _ _<|kg E,upd_same]at a;rw[upd_same]at t;exact(q.3 x a).2.2 t;omega;exact h.2 p _ x aa n j;obtain⟨s1,s2,j⟩|⟨s1,s2,j⟩:=y u x t;exact h.2 i p x m v s2;exact h.2 i u x H v j;obtain⟨rfl,rfl⟩|⟨e,d⟩:=old i z d;rw[upd_same];exact(h.1 p).e _ _ q.1;rw[upd_ne _ _ e];exact h.3 i z d;obtain⟨rfl,rfl⟩|⟨e,d⟩:=old i z d;exact cP _;exact h.4 i z d;obtain⟨rfl,rfl⟩|⟨e,d⟩:=old i z d;rw[upd_same]at a;obtain⟨_,_,j⟩|⟨s1,_,j⟩:=y o b a;exact j rfl;exact h.2 p o b (λe=>s1 e.symm) A j;rw[upd_ne _ _ e]at a;obtain⟨_,s2,_⟩|⟨_,_,j⟩:=y o _ a;exact h.5 i z p d s2;exact h.5 i z o d j;rcases old i z d with⟨q,_⟩|⟨f,m⟩<;>rcases old u s r with⟨t,_⟩|⟨l,n⟩
 exact q.trans t.symm;rw[q,upd_same,upd_ne _ _ l]at e;exact absurd (.inl<|e▸A)<|h.5 u s p n;rw[t,upd_same,upd_ne _ _ f]at e;exact absurd (.inl<|e▸A)<|h.5 i z p m;rw[upd_ne _ _ f,upd_ne _ _ l]at e;exact h.6 i u z s m n e;obtain⟨_,s2,_⟩|⟨_,_,j⟩:=y i wg a;exact h.8 p s2;exact h.8 i j;obtain⟨rfl,rfl⟩|⟨f,d⟩:=old i z d;rw[upd_same]at e;exact h.8 p<|.inl<|e▸A;rw[upd_ne _ _ f]at e;exact h.9 i z d e;obtain⟨rfl,rfl⟩|⟨f,d⟩:=old i z d;cases B;exact h.10 i z C D d B;obtain⟨rfl,rfl⟩|⟨f,d⟩:=old i z d;cases B;obtain⟨p1,p2,p3,p4⟩:=h.11 i z C D F x d B G;refine⟨λo a=>?_,p2,λo s r e=>?_,λo s m q f n r d=>?_⟩;obtain⟨_,s2,_⟩|⟨_,_,j⟩:=y o x a;exact p1 p s2;exact p1 o j;obtain⟨rfl,rfl⟩|⟨l,r⟩:=old o s r;rw[upd_same]at e;exact p1 p<|.inl<|e▸A;rw[upd_ne _ _ l]at e;exact p3 o s r e;obtain⟨rfl,rfl⟩|⟨l,r⟩:=old o s r;cases d;exact p4 o s m q f n r d
end
section
variable{X:dn}{W:jc}{S:dN}{gs:Array cf}{w:ag}{t:ez}{sl:Option (Nat×Nat)}
theorem bo.T(h:bo X W S gs w t){q:Nat}(j4:S.j+(q+1)=X.n+1){cs:List az}(f1:gs[0]?=some b)(b7:jT b f cs)(A:m_ X (q+1) S.j S.k (S.c.r<|X.n+1) f cs)(d5:S.6=.kd)(f3:S.7=true)(c8:S.8=0)
  (hμ:∀e4,aU.B e4 (1,q+1,.leaf)->aU.B e4 S.μs):gz X W S gs w t sl 0:=by
 have g6:=h.1;obtain⟨u,F,E,H,rc,s,h6,K,f6,f9,⟨tm,d6⟩⟩:=A;have d1:S.j<=X.n:=aa;have g4:S.c.2 S.j=none:=by
  cases j3:S.c.2 S.j with
  |none=>rfl
  |some B=>exact absurd ((h.9 _).1<|cw aa) aa
 have g5:=h.7 S.j aa aa;have b3:=h.8 _<|cP _;have h5:stepG X.P (0==0) b w=.spawn (G F E) (G H []) w #[]:=by show stepG X.P true b w=_;rw[b7.B];exact h6 w<|h.10.1 _
 have L:=runT_crowd_spawn (P:=X.P) (sl:=sl) (i:=0) f1 h5;rw[pV]at L;have h7:=h.2;generalize d:({g:=0,fn:=b.1.1,pos:=b.1.place,act:=.go gs.size}:tJ)=x at L;generalize d7:({g:=gs.size,fn:=(G H []).1.1,pos:=b.1.place,act:=.start}:tJ)=y at L;have M:x.g=0∧x.4=.go (W.m+S.j):=aJ
 have O:y.g=W.m+S.j∧y.4=.start:=aJ
 have e5:((#[]:ez).push x).push y= #[x,y]:=rfl;rw[e5]at L;have a2:∀op∈(#[x,y]:ez),op=x∨op=y:=af;have d3:∀op∈(#[x,y]:ez),op.4.touch?=none:=λop a=>by
  obtain rfl|rfl:=a2 op a;rw[M.2];rfl;rw[O.2];rfl
 have b5:∀op∈(#[x,y]:ez),∀i6,op.4≠ .mark i6:=aJ
 have c3:∀o,jN (t++ #[x,y]) o=jN t o:=λo=>Deaf_still t o _ λop a=>⟨b5 _ a _,b5 _ a _⟩;have g2:jN t 0=0:=by rw[h.d0,c8]
 have c9:jN t (W.m+S.j)=0:=Deaf_absent λi op a e=>by
  have:=h.gs _<|Au a;omega
 have aK:∀ {i:Nat},zx t 0 i->zx _ _ i:=λv=>XL M O g2 c9 v;have U:∀i a8,touchAt (t++ #[x,y]) i=some a8->touchAt t i=some _:=λi a8 N=>by
  obtain m|⟨op,m,_,a0⟩:=p5 N;omega;grind
 have g0:∀said,¬zy said (t++ #[x,y]):=by
  rintro said ⟨i,R,g3,⟨p,e2,h0,h1,f5⟩,i7,i8⟩;exact h.11.1 said ⟨i,R,g3,⟨p,e2,U i p h0,U R e2 h1,f5⟩,λe=>i7<|vz _ e,λe=>i8<|vz _ e⟩
 have Y:gid W.m X.n _=0:=pN;have c4:gid _ _ _=W.m+S.j:=jA d1;have a6:∀x,(S.c.r<|X.n+1).B x->lF t 0 x:=λx d=>Y▸h.11.2 _ x d;have c7:∀x,(S.c.r<|X.n+1).O x->mi t 0 x:=λx d=>d.elim (λd=>(a6 x d).I) λd=>Y▸h.11.3 _ x d;have br:=h.10.O g4 g5.1 (p:=X.n+1) aa aa;have f4:(S.c.r<|X.n+1).B u:=.inl<|cw K.1;have a7:∀i,i≠X.n+1->i≠S.j->upd (upd _ _ rc) _ s i=S.c.r i:=λi m D=>by rw[upd_ne _ _ m,upd_ne _ _ D]
 have c2:upd (upd S.c.r S.j rc) (X.n+1) s S.j=rc:=by rw[upd_ne _ _ aa,upd_same]
 have c1:upd (upd S.c.r S.j rc) (X.n+1) _ _=s:=upd_same _ _ _;have e0:∀ {o l},lF t o _->lF (t++ #[x,y]) o l:=λv=>v.B λop a x d _=>by grind
 have ax:∀ {o l},mi t o _->mi (t++ #[x,y]) o l:=λv=>v.B λop a x d _ _=>by grind
 have e1:∀ {l},lF t 0 _->lF _ _ l:=λv i a8 N z=>aK<|v i _ (U i _ N) z;have i5:∀ {l},mi t 0 _->mi _ _ l:=λv i a8 N z h8=>aK<|v i _ (U i _ N) z h8;have f0:Told (gid W.m X.n) ⟨upd (upd S.c.r S.j rc) (X.n+1) s,upd S.c.2 S.j<|some fD⟩ w<|t++ #[x,y]:=by
  refine⟨g0,λi l n=>?_,λi l n=>?_,h.11.4.I λop a x d u z=>by grind⟩;dsimp only at n;by_cases J:i=X.n+1;subst J;rw[c1]at n;rw[Y];exact e0<|a6 l (K.4 l n).1;by_cases C:i=S.j;subst C;rw[c2]at n;rw[c4];exact e1<|a6 l (K.3 l n).1;rw[a7 i J C]at n;exact e0<|h.11.2 i l n;dsimp only at n;by_cases J:i=X.n+1;subst J;rw[c1]at n;rw[Y];exact ax<|c7 l (K.6 l n).1;by_cases C:i=S.j;subst C;rw[c2]at n;rw[c4];exact i5<|c7 l (K.5 l n).1;rw[a7 i J C]at n;exact ax<|h.11.3 i l n
 have T:∀i,i<S.j->aQ (⟨upd (upd S.c.r S.j rc) (X.n+1) s,upd _ S.j<|some fD⟩:dx) i=aQ S.c i:=λi r=>by unfold aQ;simp only;rw[upd_ne _ _ aa]
 have a5:aQ (⟨upd (upd S.c.r S.j rc) (X.n+1) s,upd S.c.2 S.j<|some fD⟩:dx) S.j=fD:=by unfold aQ;dsimp only;rw[upd_same];rfl
 have a4:∀i,i<S.j->upd _ S.j u i=S.k i:=λi r=>upd_ne _ _ aa;have b2:0<gs.size:=aa;have c6:∀i,i≠0->i<gs.size->((gs.setIfInBounds 0<|G F E).push<|G H [])[i]?=gs[i]? :=λi r z=>by
  rw[Array.getElem?_push_lt<|aV z,<-rE (aV z),mQ<|kg r]
 have e7:((gs.setIfInBounds 0<|G F E).push<|G H [])[0]?=some (G F E):=by
  rw[Array.getElem?_push_lt<|aV b2,<-rE (aV b2),vE b2]
 have e8:((gs.setIfInBounds 0<|G F E).push<|G H [])[W.m+S.j]?=some (G H []):=by
  rw[<-h7,show gs.size=(gs.setIfInBounds 0<|G F E).size by simp,Array.getElem?_push_size]
 obtain⟨a9,f7,f8⟩:∃a9,(0<S.j->a9.1=12)∧fB X S.j (upd S.k S.j u<|S.j- 1) u (bA (⟨upd (upd S.c.r S.j rc) (X.n+1) s,upd S.c.2 S.j<|some fD⟩:dx) S.j) fD rc w (G H []) ⟨7,0,0⟩ a9:=by
  obtain e|e:=rC S.j;obtain⟨j0,b8⟩:=f6 e;exact⟨_,λj2=>aa,.work (kD _ _) (aw e b8) ⟨rfl,rfl⟩⟩;obtain⟨j0,b8⟩:=f9 e;have b4:bA (⟨upd (upd S.c.r S.j rc) (X.n+1) s,upd S.c.2 S.j<|some fD⟩:dx) S.j=aQ S.c (S.j- 1):=T (S.j- 1) aa;obtain⟨h4,h2⟩:=h.15 (S.j- 1) aa d1;rw[b4,a4 (S.j- 1) aa];exact⟨_,λ_=>rfl,.recv e (kD _ _) (aw h4 b8) ⟨rfl,rfl⟩ h2⟩
 obtain⟨V,b0,I,h3,g7⟩:∃V b0,aU.B V (1,q+1,.leaf)∧(S.j=X.n->b0.1=12)∧dM X (S.j+1) (pJ (X.n+1) S.D) (upd S.k S.j u) (bA (⟨upd (upd S.c.r S.j rc) (X.n+1) s,upd S.c.2 S.j<|some fD⟩:dx)<|X.n+1) s w (G F E) .kd true 0 V b0:=by
  cases q with
  |zero=>
   have b1:S.j=X.n:=aa;have b4:bA (⟨upd (upd S.c.r S.j rc) (X.n+1) s,upd S.c.2 S.j<|some fD⟩:dx) (X.n+1)=fD:=by
    show aQ _ X.n=fD;rw[<-b1];exact a5
   rw[b4];exact⟨(0,0,.leaf),_,aU.T aa,λ_=>rfl,.recv aa (kD _ _) d6 λe=>by cases e⟩
  |succ q=>exact⟨(1,q+1,tm),_,aU.I aa,λe=>aa,.spawn aa (kD _ _) d6⟩
 refine⟨{S with c:=⟨upd (upd S.c.r S.j rc) (X.n+1) s,upd S.c.2 S.j<|some fD⟩,k:=upd S.k S.j u,j:=S.j+1,μ:=upd S.μ S.j a9,μs:=V,μr:=b0},_,w,_,L,?_,O_ rfl<|hμ V I⟩
 refine{
  m0:=g6
  size:=bQ
  FU:=by dsimp only;omega
  main:=⟨_,e7,by dsimp only;rw[c1,d5,f3,c8];exact g7⟩
  old:=λi o Z r a1=>by rw[c6 i aa aa]at a1;rw[c3];exact h.5 i o Z r a1
  wk:=λi r=>?_
  off:=λi m D=>by dsimp only at m⊢;rw[a7 i D aa];exact h.7 i aa D
  stage:=λi m=>h.8 i (by dsimp only at m;omega)
  E8:=λi=>?_
  yq:=br
  told:=f0
  handed:=?_
  xW:=λi r=>?_
  items:=λi r p x d=>?_
  G6:=λi m D=>?_
  Cx:=λB m D a0=>?_
  quiet:=h.17.app λop a x d _=>by rw[d3 op a]at d;cases d
  norel:=λop a=>(mP.1 a).elim (h.18 op) λm _=>b5 op m _
  low:=λop a=>(mP.1 a).elim (h.19 op) λm=>by
   obtain rfl|rfl:=a2 op m;rw[M.2];trivial;rw[O.2];trivial
  gs:=λop a=>by
   obtain m|m:=mP.1 a;have:=h.gs op m;dsimp only;omega;obtain rfl|rfl:=a2 op m;rw[M.1];omega;rw[O.1];dsimp only;omega
  d0:=(c3 0).trans h.d0
  lM:=λi r=>?_
  rel:=λi r A=>?_
  over:=λB o d8 d2 I g1=>?_
  acq:=λe=>by rw[show S.6=_ from d5]at e;cases e
  zh:=h.26
  tape:=h.27
  os:=h.os
  output:=h.29}
 dsimp only at r⊢;by_cases e:i=S.j;subst e;exact⟨_,e8,by rw[c2,a5,b3,upd_same,upd_same];exact f8⟩;obtain⟨o,a1,A⟩:=h.6 i aa;refine⟨o,by rw[c6 _ aa aa];exact a1,?_⟩;rw[a7 i aa e,T i aa,a4 i aa,upd_ne S.μ _ e];obtain Z|Z:=rC i;subst Z;rw[a4 0 aa];exact A.O _;have:bA (⟨upd (upd S.c.r S.j rc) (X.n+1) s,upd S.c.2 S.j<|some fD⟩:dx) i=bA S.c i:=T (i- 1) aa;rw[this,a4 (i- 1) aa];exact A;dsimp only;by_cases e:i=S.j;subst e;rw[upd_same];simp;rw[upd_ne _ _ e,h.9 i];omega;intro i B e6 j1 Q d4;dsimp only at Q;by_cases e:i=S.j;subst e;rw[upd_same]at Q;cases Q;cases d4;rw[upd_ne _ _ e]at Q;dsimp only;rw[upd_ne _ _ e];obtain⟨p,op,d9,i2,i3,i4⟩:=h.12 i B e6 j1 Q d4;have I:=zA d9;exact⟨p,op,by rw[getElem?_append_old I];exact d9,i2,(DG I).2 i3,λb u f2 R y d7 z=>(i4 b u f2 R y (U R y d7) z).app _⟩;dsimp only at r⊢;by_cases e:i=S.j;subst e;rw[upd_same];exact(e1<|a6 u f4).I;rw[upd_ne _ _ e];exact ax<|h.13 i aa;dsimp only at r d;by_cases e:i=S.j;subst e;rw[a5]at d;simp[fD]at d;rw[T i aa]at d;exact h.14 i aa p x d;dsimp only at m D⊢;obtain rfl:i=S.j:=aa;rw[a5];exact⟨rfl,λe=>by cases e⟩;dsimp only at m D a0;unfold ik;dsimp only;by_cases e:B=S.j;subst e;have b1:S.j=X.n:=aa;rw[if_neg aa];exact h3 b1;rw[T B aa]at a0;rw[if_pos aa];by_cases C:B+1=S.j;rw[C,upd_same];exact f7 aa;rw[upd_ne _ _ C];have b6:=h.16 B aa (.inl aa) a0;unfold ik at b6;rw[if_pos aa]at b6;exact b6;dsimp only at r⊢;rw[c3];by_cases e:i=S.j;subst e;rw[c9,b3];exact h.lM i aa;dsimp only at r A;by_cases e:i=S.j;subst e;rw[b3]at A;simp at A;obtain⟨i9,b7⟩:=h.23 i aa A;exact⟨i9,yT b7 λop a _=>d3 op a⟩;unfold rB at d8;obtain⟨op,a,a3⟩:=mR.1 d8;obtain⟨i1,g8⟩|⟨_,g9⟩:=DF a;obtain⟨e3,b9,n⟩:=h.24 B o (by simp[rB,g8,a3]) d2 I<|(counts_old i1).1 g1;have h9:e3<t.size:=by
  unfold rB at b9;obtain⟨j5,i0,_⟩:=mR.1 b9;exact zA i0
 exact⟨e3,by rw[g?_old h9];exact b9,vz _ n⟩;obtain rfl|rfl:=a2 op g9;rw[M.1]at a3;exact absurd a3.symm d2;rw[O.1]at a3;omega
end
end
section
open Go.Conc
open Go.ConcN (upd upd_same upd_ne sumTo sumTo_upd WD CTag WgLive ShN RelBy get_map_set get_map_set_same Vc cnt isOpen isW3 exists_counted)
open Go.ConcR (KK WgAt stA smA rd wr mk DC0)
section
variable{X:dn}{W:jc}{S:dN}{gs:Array cf}{w:ag}{t:ez}{sl:Option (Nat×Nat)}
theorem bo.at(h:bo X W S gs w t)(d):bo X W S gs (w.at d) t:=by
 have a:fX _ _ _ _ _<|w.at d:=h.10.I (λ_ _=>rfl) rfl;have c:WgLive _ _ w->WgLive X.4 X.5 (w.at d):=id
 refine{h with
  main:=?_
  wk:=λi b=>?_
  yq:=a
  told:=⟨h.11.1,h.11.2,h.11.3,h.11.4⟩
  low:=h.19
  zh:=h.26
  tape:=h.27
  os:=h.os
  output:=h.29}
 obtain⟨d,e,f⟩:=h.4;exact⟨d,e,f.O (a.1 _) c⟩;obtain⟨g,d,e⟩:=h.6 i b;exact⟨g,d,e.I (h.10.1 i) (a.1 i) c (λc=>aw BU<|a.3 (i- 1) _<|h.B aa)<|a.3 i _<|h.B b⟩
theorem bo.AZ(h:bo X W S gs w t)(T:0<a)(H:a<W.m)(z:gs[a]?=some b)(p:b.3=.running):gz X W S gs w t sl a:=by
 have o:=h.5 a b T H z;have a0:(a==0)=false:=bQ;cases B:S.q a with
 |zero=>rw[B]at o;rw[o.1]at p;cases p
 |succ m=>
  rw[B]at o;obtain⟨Z,_⟩|⟨_,g',Q,A,b2,a9⟩:=o;rw[Z]at p;cases p;have k:∀op∈eH a b.1.1 b.1.place Q,op.g=a∧op.4.touch?=none∧(∀n,op.4≠ .mark (.release n))∧op.4.low w.1.size:=by
   intro op c;obtain⟨e,v,rfl⟩:=qs c;refine⟨rfl,H8<|A e v,λn s=>?_,low_mute (A e v) _⟩;have:=A e v;rw[H7 s|>λa2=>show e.mute=false from by obtain⟨c1,wr,c2⟩:=e;subst a2;rfl]at this;cases this
  have r:∀j,j≠a->jN _ j=jN t j:=λj f=>vC t (g':=a) aa _ λop c=>(k _ c).1;let⟨n,s,a3⟩:=h.4;obtain⟨M,ax,a4,J,_,b1⟩:=a3.I (w':=w) (Vc (X.n+1) S.D) (h.10.1 _) id (λ_ f=>h.10.3 X.n _<|h.B aa) b g';have E:∀x y,x≠a->gs[x]?=some y->((gs.map<|woken X.P b g' w).setIfInBounds a g')[x]?=some _:=λx y D g=>by
   rw[get_map_set _ _ _ _<|kg D,g];rfl
  refine⟨{S with q:=upd S.q a m,tag:=M,μr:=ax},_,w,_,(zF (P:=X.P) (sl:=sl) (i:=a) z<|aw a0<|b2 w),?_,ab0 ?_⟩
  refine{h with
   size:=by simp;exact h.2
   main:=⟨_,E 0 n aa s,a4⟩
   old:=λj y G a1 g=>?_
   wk:=λj f=>?_
   told:=h.11.I (λop c=>(k _ c).2.1)<|cP _
   handed:=h.12.B λ_ _ _ _ _ _ _ _ _ op c y g _=>by grind
   xW:=λj f=>(h.13 j f).B λop c x D _ _=>by grind
   Cx:=λO d U V=>?_
   quiet:=h.17.app λop c x D _=>by grind
   norel:=λop c=>(mP.1 c).elim (h.18 _) λd=>(k _ d).2.2.1
   low:=λop c=>(mP.1 c).elim (h.19 _) λd=>(k _ d).2.2.2
   gs:=λop c=>(mP.1 c).elim (h.gs _) λd=>by grind
   d0:=(r 0 aa).trans h.d0
   lM:=λj f=>(r _ aa).trans<|h.lM j f
   rel:=λj f C=>let⟨b8,b0⟩:=h.23 j f C; ⟨b8,yT b0 λop c _=>(k _ c).2.1⟩
   over:=λb9 R L a5 b7 F=>?_
   acq:=λe=>?_
   zh:=h.I rfl rfl J}
  simp only;by_cases e:j=a;subst e;rw[get_map_set_same _ _ _ ((fU.1 z).1)]at g;cases dw g;rw[upd_same,DV];exact a9;rw[get_map_set _ _ _ _<|kg e]at g;obtain⟨c3,b3,rfl⟩:=mR.1 g;have I:=h.5 j _ G a1 b3;rw[woken_quitsD I,upd_ne _ _ e,r j e];exact I;obtain⟨y,g,C⟩:=h.6 j f;refine⟨_,E _ y aa g,?_⟩;exact C.B (h.10.1 j) (h.10.1 j) id (λ_ G=>aw BU<|h.10.3 (j- 1) _<|h.B<|J0 (Nat.sub_le _ _) f) (.inl<|h.10.3 j _<|h.B f) b g';have l:=h.16 O d U V;unfold ik at l⊢;split;rename_i u;rw[if_pos u]at l;exact l;rename_i u;rw[if_neg u]at l;rw[b1];exact l;unfold rB at L;obtain⟨op,c,a6⟩:=mR.1 L;obtain⟨b6,a7⟩|⟨_,a8⟩:=DF c;obtain⟨N,K,Y⟩:=h.24 b9 R (by simp[rB,a7,a6]) a5 b7<|(counts_old b6).1 F;have b4:N<t.size:=by
   unfold rB at K;obtain⟨c4,b5,_⟩:=mR.1 K;exact zA b5
  exact⟨N,by rw[g?_old b4];omega,vz _ Y⟩;exact absurd F<|Mn c (k op a8).2.1;have:S.6=.ret:=by
   obtain d|⟨_,d⟩:=J;rw[<-d];exact e;rw[show M=CTag.ret from e]at d;cases d
  exact(h.25 this).B λop c _ _ _=>(k op c).2.1;have:sumTo W.m (upd S.q a m)+(m+1)=sumTo W.m S.q+m:=by
   have:=sumTo_upd S.q m id H;simpa[B]using this
  dsimp only;omega
theorem aU.U(h:aU.B k (a,n,b9))(b:a<e):aU.B k (e,L,e1):=by
 obtain h|⟨h,_⟩:=Prod.lex_def.1 h;exact aU.T<|Nat.lt_trans h b;exact aU.T aa
theorem R8(h:a+1<=X.n):lz X S a=X.A (a+1) (S.k a) (S.k<|a+1):=if_pos h
theorem R7:lz X S X.n=X.AM (S.k X.n):=if_neg aa
theorem NY(h:a+1<=X.n):ik X S a=S.μ (a+1):=if_pos h
theorem NX:ik X S X.n=S.μr:=if_neg aa
theorem bo.oV(h:bo X W S gs w t)(ok:X.Ok)(e:a<S.j)(g:gs[W.m+a]?=some b)(q:b.3=.running):gz X W S gs w t sl<|W.m+a:=by
 obtain⟨B,K,r⟩:=h.6 a e;obtain rfl:b=B:=by grind
 have n:=h.le e;generalize j:S.D a=I at r;generalize hμ:S.μ a=L at r;cases r with
 |recv G i f d y=>
  rename_i fr cs l;cases l with
  |node c=>exact h.iz e g i f j hμ λp cs1 s w1 v k=>.recv G (kD _ _) k d y
  |leaf=>
   obtain⟨c,rfl⟩:∃c,a=c+1:=⟨a- 1,by omega⟩;rw[<-jA n];exact h.m ok (c:=c) aa ⟨λ_=>⟨e,d.1,d.2,j⟩,aa⟩ (by rw[jA n];omega) i (by rw[R8 n];exact f) y (by rw[NY n];exact hμ)
 |eV _ _ _ _=>cases q
 |work i f d=>
  rename_i fr cs l;cases l with
  |node c=>exact h.iz e g i f j hμ λp cs1 s w1 v k=>.work (kD _ _) k d
  |leaf=>
   obtain⟨H,z⟩:=f;cases H with
   |nil=>exact h.V e g i (by rw[d.1];exact z) d.2 j (fun m hν=>by rw[hμ];exact aU.U hν aa) (by grind)
   |cons x u=>exact h.Z ok e g i (by rw[d.1];exact z) d.2 j (fun m hν=>by rw[hμ];exact aU.U hν aa) (by grind)
 |send i f d=>
  rename_i fr cs l u;cases l with
  |node c=>exact h.iz e g i f j hμ λp cs1 s w1 v k=>.send (kD _ _) k d
  |leaf=>
   cases u with
   |nil=>exact h.V e g i (by have:=f;rw[vD]at this;exact this) d j (fun m hν=>by rw[hμ];exact hν) (by grind)
   |cons x u=>exact h.Z ok e g i f d j (fun m hν=>by rw[hμ];exact hν) (by grind)
 |iE _ _ _ _=>cases q
 |shut f d=>
  rename_i fr cs l;cases l with
  |node c=>exact h.iz e g (kD _ _) f j hμ λp cs1 s w1 v k=>.shut k d
  |leaf=>
   obtain⟨A,C,x,N,D,E,F⟩:=f;have o:qB X _ ⟨7,N,0⟩ _ w:=⟨A,C,x,D,E,.inl ⟨rfl,rfl,F w (h.10.1 a) h.ao⟩⟩;exact h.qH ok.3 e g (by grind) (by grind) o d rfl (fun m hν=>by rw[hμ];exact aU.U hν af) (by grind)
 |tail o d=>exact h.qH ok.3 e g (by grind) (by grind) o d q (fun m hν=>by rw[hμ];exact hν) (by
   rw[hμ];obtain⟨_,_,_,_,_,J⟩:=o
   omega)
end
end
section
open Go.Conc
open Go.ConcN (upd upd_same upd_ne sumTo WD CTag WgLive ShN RelBy Vc cnt isOpen isW3 exists_counted OpenSt pend)
open Go.ConcR (KK WgAt stA smA rd wr mk DC0)
variable{Q:Nat->WD}
theorem PI(h:∀i,Q i=⟨7,0,0⟩):∀j,Vc j Q=j
 |0=>rfl
 |j+1=>by
  have:=PI h j;simp[Vc,sumTo]at this⊢;rw[this,show cnt _=1 by rw[h j];rfl]
theorem aU.Y{a b c:Nat}(h:aU.B k (a,b,b9))(d:b<c):aU.B k (a,c,e1):=by
 obtain⟨x,y,z⟩:=k;obtain h|⟨h,a⟩:=Prod.lex_def.1 h;exact aU.T h;subst h;rcases Prod.lex_def.1 a with h|⟨h,_⟩<;>exact aU.I (by dsimp only at h;omega)
section
variable{X:dn}{W:jc}{S:dN}{gs:Array cf}{w:ag}{t:ez}{sl:Option (Nat×Nat)}
theorem bo.ua(h:bo X W S gs w t)(a:S.j=0)(a:Nat->Nat)(d:∃c,gs[0]?=some c∧dM X S.j (Vc (X.n+1) S.D) a (bA S.c<|X.n+1) (S.c.r<|X.n+1) w c S.6 S.7 S.8 S.μs S.μr):bo X W {S with k:=a} gs w t:=by
 have b:∀i z,S.c.2 i≠some z:=λi z e=>by
  have:=(h.9 i).1<|cw e;omega
 refine{h with
  main:=d
  wk:=λi d=>absurd d (by grind)
  yq:=⟨h.10.1,h.10.2,λi z a=>absurd a<|b i z,h.10.4,λi z j a=>absurd a<|b i z,λi j z e a=>absurd a<|b i z,h.10.7,h.10.8,λi z a=>absurd a<|b i z,h.10.10,λi z f v c c a=>absurd a<|b i z⟩
  handed:=λi z f v a=>absurd a<|b i z
  xW:=λi d=>absurd d (by grind)}
theorem gz.B{k':Nat->Nat}(h:gz X W {S with k:=k'} gs w t sl 0):gz X W S gs w t sl 0:=h
theorem bo.nd(h:bo X W S gs w t)(ok:X.Ok)(m:gs[0]?=some b)(Y:b.3=.running):gz X W S gs w t sl 0∨(S.6=.ret∧jr X (S.c.r<|X.n+1) b w):=by
 obtain⟨g,d0,E⟩:=h.4;obtain rfl:b=g:=by grind
 generalize e:S.6=tag at E;generalize o:S.7=T at E;generalize n:S.8=dd at E;generalize hμs:S.μs=b5 at E;generalize hμr:S.μr=b4 at E;have c3:=h.ao;have c2:=h.10.1<|X.n+1;have r:∀ {g:cf} {l:ag} {s:Array gY} {K:Bool} {U:Nat} {μs':aU} {R Q:Int},b4=(0,0,.leaf)->stepG X.P true b w=.go g l s->Ar X.5 w l->WgAt X.4 X.5 l R Q->(∀G∈s,ki X.5 true G)->
   dM X S.j (Vc (X.n+1) S.D) S.k (bA S.c<|X.n+1) (S.c.r<|X.n+1) l g .kd K U μs' (0,0,.leaf)->deafBehind dd s=U->((K=false∧R=0∧Q=0)∨(K=true∧oF (X.n+1) S.D .kd R Q))->aU.B μs' b5->gz X W S gs w t sl 0:=by
  intro g l s K U μs' R Q c9 d b9 c7 c1 c6 d1 aK M;exact h.sy m d b9 c7 c1 c6 (by grind) aK af (.inl (by rw[hμs];exact M))<|.inr (by grind)
 have a8:T=false->WgAt X.4 X.5 w 0 0:=λG=>by
  obtain⟨st,C,H,a9⟩:=h.26;obtain⟨_,rfl,rfl⟩|⟨a6,_⟩:=a9;exact H;rw[o,G]at a6;cases a6
 have a0:T=true->∃st C,WgAt X.4 X.5 w st C∧oF (X.n+1) S.D tag st C:=λG=>by
  obtain⟨st,C,H,a9⟩:=h.26;grind
 have a1:∀ {N:Nat},S.j=0->T=false->dd=0->b4=(0,0,.leaf)->(∀F,aU.B F (2,8,.B N)->aU.B F b5)->Goes X.P true (cn X.P X.F (S.c.r<|X.n+1) X.4 X.5) DC0 (zT X.P X.4 X.5 (cn X.P X.F (S.c.r<|X.n+1) X.4 X.5) (X.n+1)<|rP X<|S.c.r<|X.n+1) N b w->gz X W S gs w t sl 0:=by
  intro N a b7 b8 a7 M i;subst b7 b8;have k:=a8 rfl;obtain x|⟨O,rfl,v⟩:=mm i;obtain⟨_,g,d,Z,B⟩:=x w<|.B w;exact r a7 d (.refl _ w) k (uj<|.inl rfl) (.a2 a B) rfl (.inl ⟨rfl,rfl,rfl⟩)<|M _<|aU.I aa;obtain⟨g,l,s,d,⟨rfl,rfl⟩,u⟩:=v w<|.B w;exact r a7 d (.refl _ l) k af (.a1 a u) rfl (.inl ⟨rfl,rfl,rfl⟩)<|M _<|aU.O<|cZ.I _
 cases E with
 |pre a f=>
  rename_i fr cs p;cases p with
  |node c=>exact .inl<|h.dY m (kD _ _) f (μs':=λt=>(2,9,t)) (μr':=λ_=>(0,0,.leaf)) (λL cs1 P w1 z y=>by rw[e,o,n];exact .pre a y) (by grind) (λz A=>.inl (by rw[hμs];exact aU.O A)) λ_=>.inr (by grind)
  |leaf=>
   obtain⟨N,i⟩:=f<|h.10.8 _;grind
 |a1 a i=>grind
 |a2 a i=>
  have k:=a8 rfl;obtain x|⟨O,rfl,v⟩:=mm i;obtain⟨_,c8⟩:=x w<|.B w;let⟨g,d,Z,B⟩:=c8 k;have ax:=λb3=>h.8 b3 aa;have c4:oF (X.n+1) S.D .kd (((X.n+1:Nat):Int)*KK) 0:=by
   have:=Rh (j:=X.n+1) (D:=S.D) (tag:=.kd) trivial (λb3 _=>.inl (by grind)) af;rw[PI ax]at this;simpa[pend]using this
  exact .inl<|r rfl d (xf w (stA _) _) (k.setSt _) MX (.a3 a B) rfl (.inr ⟨rfl,c4⟩)<|aU.I aa;obtain⟨g,l,s,d,⟨rfl,rfl⟩,u⟩:=v w<|.B w;exact .inl<|r rfl d (.refl _ _) k af (.a2 a u) rfl af<|aU.O<|cZ.I _
 |a3 a i=>
  obtain⟨st,C,k,J⟩:=a0 rfl;obtain x|⟨O,rfl,v⟩:=mm i;obtain⟨_,g,d,Z,B⟩:=x w<|.B w;exact .inl<|r rfl d (.refl _ w) k (uj<|.inr<|.inr<|.inr<|.inr af) (.a4 a B) rfl (.inr ⟨rfl,aa⟩)<|aU.I aa;obtain⟨g,l,s,d,⟨rfl,rfl⟩,u⟩:=v w<|.B w;exact .inl<|r rfl d (.refl _ _) k af (.a3 a u) rfl (.inr ⟨rfl,aa⟩)<|aU.O<|cZ.I _
 |a4 a i=>
  obtain⟨st,C,k,J⟩:=a0 rfl;obtain x|⟨O,rfl,v⟩:=mm i;obtain⟨_,g,d,Z,B⟩:=x w<|.B w;exact .inl<|r rfl d (.refl _ w) k (uj<|.inr<|.inl rfl) (.a5 a B) rfl (.inr ⟨rfl,J⟩)<|aU.I aa;obtain⟨g,l,s,d,⟨rfl,rfl⟩,u⟩:=v w<|.B w;exact .inl<|r rfl d (.refl _ l) k af (.a4 a u) rfl (.inr ⟨rfl,J⟩)<|aU.O<|cZ.I _
 |a5 a i=>
  obtain⟨st,C,k,J⟩:=a0 rfl;obtain x|⟨O,rfl,v⟩:=mm i;obtain⟨fr,cs,rfl,k',p,f⟩:=x w<|.B w;have H:=h.ua a k' ⟨_,m,by rw[e,o,n,hμs,hμr];exact .a5 a i⟩;have b2:Walk X.P true X.F (m_ X (X.n+1) S.j k') p (S.c.r<|X.n+1) fr cs:=by rw[a];exact f
  refine .inl<|gz.B (k':=k') ?_;cases p with
  |node c=>
   exact H.dY m (kD _ _) b2 (μs':=λt=>(1,X.n+1,t)) (μr':=λ_=>(0,0,.leaf)) (λL cs1 P w1 z y=>by dsimp only;rw[e,o,n];exact .spawn aa (kD _ _) y) (by dsimp only;rw[e];simp) (λz A=>.inl (by dsimp only;rw[hμs];exact aU.T aa)) λ_=>.inr (by dsimp only;rw[hμr];simp)
  |leaf=>exact H.T (q:=X.n) (by dsimp only;omega) m (kD _ _) b2 e o n (fun F hν=>by dsimp only;rw[hμs];exact aU.U hν aa)
  obtain⟨g,l,s,d,⟨rfl,rfl⟩,u⟩:=v w<|.B w;exact .inl<|r rfl d (.refl _ l) k af (.a5 a u) rfl (.inr ⟨rfl,J⟩)<|aU.O<|cZ.I _
 |spawn b1 I f=>
  rename_i fr cs p q;cases p with
  |node c=>exact .inl<|h.dY m I f (μs':=λt=>(1,q+1,t)) (μr':=λ_=>(0,0,.leaf)) (λL cs1 P w1 z y=>by rw[e,o,n];exact .spawn b1 (kD _ _) y) (by rw[e];simp) (λz A=>.inl (by rw[hμs];exact aU.O A)) λ_=>.inr (by rw[hμr];simp)
  |leaf=>exact .inl<|h.T b1 m I f e o n (fun F hν=>by rw[hμs];exact hν)
 |recv a I f b0=>
  rename_i fr cs p;cases p with
  |node c=>exact .inl<|h.dY m I f (μs':=λ_=>(0,0,.leaf)) (μr':=λt=>(12,2*((bA S.c<|X.n+1).1.length-(bA S.c<|X.n+1).2)+1,t)) (λL cs1 P w1 z y=>by rw[e,o,n];exact .recv a (kD _ _) y b0) (by rw[e];simp) (λz A=>.inr ⟨hμs.symm,by rw[hμr];exact aU.O A⟩) λ_=>.inl rfl
  |leaf=>
   have:=h.m (sl:=sl) ok (c:=X.n) aa ⟨λG=>by omega,λ_=>⟨a,e,o,n,hμs⟩⟩ (by rw[pN];exact m) I (by rw[R7];exact f) b0 (by rw[NX];exact hμr);rw[pN]at this;exact .inl this
 |eV _ _ _=>cases Y
 |post a f=>
  rename_i fr cs p;cases p with
  |node c=>exact .inl<|h.dY m (kD _ _) f (μs':=λ_=>(0,0,.leaf)) (μr':=λt=>(11,0,t)) (λL cs1 P w1 z y=>by rw[e,o,n];exact .post a y) (by rw[e];simp) (λz A=>.inr ⟨hμs.symm,by rw[hμr];exact aU.O A⟩) λ_=>.inr (by rw[hμr];simp)
  |leaf=>
   obtain⟨b6,N,i,V⟩:=f<|h.10.8 _;have:=h.Y (sl:=sl) ok m a V (.kd<|i w c2 c3) e n hμs (fun F hν=>by rw[hμr];exact aU.U hν aa) (by rw[hμr];simp) Y;rw[e]at this;exact this
 |wait b6 a V f=>
  have:=h.Y (sl:=sl) ok m a V f e n hμs (fun F hν=>by rw[hμr];exact hν) (by rw[hμr];simp) Y;rw[e]at this;exact this
theorem bo.ku(h:bo X W S gs w t)(E:S.j=X.n+1)(s:∀e,gs[0]?=some e->e.3≠ .running)(m:a<S.j)(q:(aQ S.c a).3=false)(D:0<a->(aQ S.c<|a- 1).3=true):∃(x:Nat)(i:cf),gs[x]?=some i∧i.3=.running:=by
 obtain⟨i,j,k⟩:=h.6 a m;generalize S.D a=n at k;generalize S.μ a=y at k;cases k with
 |recv _ b _ _ _=>exact⟨_,_,j,b.2.2.1⟩
 |eV B _ c _=>rw[BU]at c;grind
 |work b _ _=>exact⟨_,_,j,b.2.2.1⟩
 |send b _ _=>exact⟨_,_,j,b.2.2.1⟩
 |shut _ u=>grind
 |tail _ u=>grind
 |iE _ _ _ g=>
  have f:=h.16 a m aa q;by_cases o:a+1<=X.n;rw[NY o]at f;let⟨A,r,l⟩:=h.6 (a+1) aa;generalize S.D (a+1)=n at l;generalize S.μ (a+1)=y at l f;cases l with
  |recv _ b _ _ _=>exact⟨_,_,r,b.2.2.1⟩
  |eV _ _ c _=>rw[nX]at c;rw[c.1]at g;simp[room]at g
  |work _ _ _=>omega
  |send _ _ _=>omega
  |iE _ _ _ _=>omega
  |shut _ _=>omega
  |tail v _=>
   obtain⟨_,_,_,_,_,C⟩:=v;omega
  obtain rfl:a=X.n:=aa;rw[NX]at f;let⟨e,p,d⟩:=h.4;generalize S.6=tag at d;generalize S.7=z at d;generalize S.8=dd at d;generalize S.μs=G at d;generalize S.μr=F at d f;cases d with
  |eV _ _ c=>rw[nX]at c;rw[c.1]at g;simp[room]at g
  |recv _ b _ _=>exact absurd b.2.2.1 (s e p)
  |pre _ _=>omega
  |a1 _ _=>omega
  |a2 _ _=>omega
  |a3 _ _=>omega
  |a4 _ _=>omega
  |a5 _ _=>omega
  |spawn _ _ _=>omega
  |post _ _=>omega
  |wait _ _ _ _=>omega
theorem bo.bN(h:bo X W S gs w t)(c:S.j=X.n+1)(d:∀a,gs[0]?=some a->a.3≠ .running):∀i,i<S.j->(aQ S.c i).3=false->∃(x:Nat)(g:cf),gs[x]?=some g∧g.3=.running:=by
 intro i;induction i with
 |zero=>exact λb a=>h.ku c d b a aa
 |succ i e=>
  intro b a;cases e:(aQ S.c i).3 with
  |false=>grind
  |true=>exact h.ku c d b a (λ_=>by grind)
theorem bo.nN(h:bo X W S gs w t):∃(x:Nat)(g:cf),gs[x]?=some g∧g.3=.running:=by
 obtain⟨b,a,a⟩:=h.4;by_cases c:b.3=.running;grind;have j:∀b,gs[0]?=some b->b.3≠ .running:=aJ
 obtain c|⟨_,e|⟨fr,cs,_,b,d,d⟩⟩:=a.B;grind
 have b:S.j=X.n+1:=by
  generalize S.6=tag at a e;subst e;generalize S.7=f at a;generalize S.8=dd at a;generalize S.μs=f at a;generalize S.μr=f at a;cases a with
  |wait _ b _ _=>omega
 obtain⟨st,a,_,f⟩:=h.an (i:=0) aa;rw[e]at f;have fin:∀i,i<X.n+1->(S.D i).1≠1->∃(x:Nat)(g:cf),gs[x]?=some g∧g.3=.running:=by
  intro i l k;obtain⟨g,e,c⟩:=h.6 i aa;cases d:(aQ S.c i).3 with
  |false=>exact h.bN b j i aa d
  |true=>
   generalize S.D i=a at c k;generalize S.μ i=a at c;cases c with
   |recv _ a _ _ _=>grind
   |eV _ _ _ c=>grind
   |work a _ _=>grind
   |send a _ _=>grind
   |iE _ _ c _=>grind
   |shut _ _=>exact⟨_,_,e,rfl⟩
   |tail g _=>
    obtain⟨a,C,x,_,_,c⟩:=g;refine⟨_,_,e,?_⟩;obtain⟨_,_,a3⟩|⟨_,a2⟩:=c;exact rD (λ_ _ x=>x.1) w (@Go.ConcN.RW.refl ⟨a⟩ _ _ _ _ _ _ w) a3;exact @Go.ConcN.WSit.running_of ⟨a⟩ _ _ _ _ _ _ _ _ _ _ _ _ _ _ _ a2 k
 cases f with
 |opn a _ _=>exact a.elim
 |reg _ _ e=>
  let⟨i,l,f⟩:=exists_counted e;grind
 |last L _ c e _=>grind
 |fin a _=>exact a.elim
 exact h.bN b j _ aa d
theorem bo.xO(h:bo X W S gs w t):∀g∈gs,awake g:=by
 intro g j;obtain⟨x,a⟩:=Array.mem_iff_getElem?.1 j;obtain rfl|e:=rC x;obtain⟨l,f,c⟩:=h.4;rw[f]at a;cases a;intro tm;rcases c.B with b|⟨b,_⟩<;>rw[b]<;>simp;by_cases c:x<W.m;exact awake_of<|(h.5 x g e c a).status.elim .inl λx=>.inr<|.inr x;have k:=(fU.1 a).1;rw[h.2]at k;obtain⟨i,rfl⟩:∃i,x=W.m+i:=⟨x- W.m,aa⟩;let⟨m,d,b⟩:=h.6 i aa;rw[a]at d;cases d;exact b.T
theorem bo.A4(ok:X.Ok):∀S(gs:Array cf)w(sl:Option<|Nat×Nat)t,bo X W S gs w t->
  ∃(N:Nat)(b:dN)(c:Array cf)(d:ag)(e:Option<|Nat×Nat)(f:ez)(a:cf),runNT X.P N (crowd gs w sl) t=(.next<|crowd c d e,f)∧bo X W b c d f∧c[0]?=some a∧b.6=.ret∧jr X (b.c.r<|X.n+1) a d:=by
 intro S
 refine(InvImage.wf (λS:dN=>S.B W.m _)<|Row.I<|X.n+4).induction (C:=λS=>∀(gs:Array _)(w:ag)(sl:Option<|Nat×Nat)(t:ez),bo X W S gs w t->
  ∃(N:Nat)(b:dN)(c:Array _)(d:ag)(e:Option<|Nat×Nat)(f:ez)(a:cf),runNT _ N (crowd gs w sl) t=(.next<|crowd c d e,f)∧bo X W b c d f∧c[0]?=some a∧b.6=.ret∧jr X (b.c.r<|X.n+1) a d) S ?_
 intro S B gs w sl t h;by_cases p:∃a,gs[0]?=some a∧S.6=.ret∧jr X (S.c.r<|X.n+1) a w;obtain⟨a,g,l,s⟩:=p;exact⟨0,S,gs,w,sl,t,a,rfl,h,g,l,s⟩;obtain⟨j,q,o,e,i,n,A⟩:=crowd_pick (P:=X.P) (w:=w) (sl:=sl) h.xO h.nN;have k:=h.at o;have v:gz X W S gs (w.at o) t e j:=by
  obtain rfl|r:=rC j;obtain g|⟨g,l⟩:=k.nd (sl:=e) ok i n;exact g;exact absurd ⟨q,i,g,l⟩ p;by_cases u:j<W.m;exact k.AZ r u i n;have m:=(fU.1 i).1;rw[h.2]at m;obtain⟨x,rfl⟩:∃x,j=W.m+x:=⟨j- W.m,aa⟩;exact k.oV ok aa i n
 obtain⟨E,F,w1,H,z,y,m⟩:=v;let⟨N,b,c,d,D,f,a,G,i2⟩:=B _ m _ _ e _ y;exact⟨N+1,b,c,d,D,f,a,by simp[runNT,A,z];omega,i2⟩
end
end
section
open Go.Conc
open Go.ConcN (upd upd_same upd_ne sumTo sumTo_upd get_map_set get_map_set_same)
structure Fm(P:bj)(F:bw->Bool)(r:aG)(gs:Array cf)(w:ag)(t:ez)(q:Nat->Nat):Prop where
 pos:0<gs.size
 old:∀i g,0<i->gs[i]?=some g->H6 P (q i) (jN t i) g
 XW:∀op∈t,op.g<gs.size
 fits:r.Fits P F w
 clean:∀said,¬zy said t
 own:∀b,r.B b->lF t 0 b
 read:∀b,r.s b≠none->mi t 0 b
 NJ:pE t w.1.size
 low:∀op∈t,op.4.low w.1.size
 norel:∀op∈t,∀a,op.4≠ .mark (.release a)
 over:t.HandedOver
 d0:jN t 0=0
section
variable{P:bj}{F:bw->Bool}{r r1:aG}{gs:Array cf}{w w1:ag}{t:ez}{q:Nat->Nat}{sl:Option (Nat×Nat)}{fr:az}{cs:List az}
theorem Fm.Z(h:Fm P F r gs w t q)(d):Fm P F r gs (w.at d) t q:=
 {h with fits:=h.4.I (λ_ _=>rfl)<|cP _,NJ:=h.8,low:=h.9}
theorem Fm.O(h:Fm P F r gs w t q){i:Nat}(H:0<i){g:cf}(s:gs[i]?=some g)(M:g.3=.running)(o:gs[0]?=some v)(I:v.3=.running):
  ∃l D k,runT P (crowd gs w sl) i=(.next<|crowd l w sl,D)∧Fm P F r l w (t++D) (upd q i k)∧l[0]?=some v∧l=gs.size∧sumTo gs (upd q i k)<sumTo gs q:=by
 have m:=h.2 i g H s;have J:(i==0)=false:=bQ;have A:=(fU.1 s).1;cases x:q i with
 |zero=>rw[x]at m;rw[m.1]at M;grind
 |succ k=>
  rw[x]at m;obtain⟨Q,_⟩|⟨_,g',G,u,N,L⟩:=m;grind;have f:∀op∈eH i g.1.1 g.1.place G,op.g=i∧op.4.touch?=none∧(∀v,op.4≠ .mark (.release v))∧op.4.low w.1.size:=by
   intro op a;obtain⟨e,p,rfl⟩:=qs a;refine⟨rfl,H8<|u e p,λv o=>?_,low_mute (u e p) _⟩;have:=u e p;rw[H7 o|>λK=>show e.mute=false from by obtain⟨R,wr,S⟩:=e;subst K;rfl]at this;cases this
  have y:∀j,j≠i->jN _ j=jN t j:=λj z=>vC t (g':=i) aa _ λop a=>(f _ a).1;refine⟨_,_,k,(zF (P:=P) (sl:=sl) (i:=i) s<|aw J<|N w),⟨by grind,λj T z n=>?_,λop a=>?_,h.4,λsaid=>?_,λb d=>(h.6 b d).B λop a E C _=>?_,λb d=>(h.7 b d).B λop a E C _ _=>?_,h.8.I λop a E C _ _=>?_,λop a=>?_,λop a=>?_,J1 h.11 λop a=>.inr (f _ a).2.1,(y 0 aa).trans h.d0⟩,?_,af,?_⟩;by_cases e:j=i;subst e;rw[get_map_set_same _ _ _ A]at n;cases dw n;rw[upd_same,DV];exact L;rw[get_map_set _ _ _ _<|kg e]at n;obtain⟨U,O,rfl⟩:=mR.1 n;have B:=h.2 j _ z O;rw[woken_quitsD B,upd_ne _ _ e,y j e];exact B;simp;obtain c|c:=mP.1 a;exact h.3 _ c;grind;exact Am (h.5 _) (λop a=>(f _ a).1) λ_ _ _ op a b d _=>by rw[(f _ a).2.1]at d;cases d
  grind;grind;grind;exact(mP.1 a).elim (h.9 _) λc=>(f _ c).2.2.2;exact(mP.1 a).elim (h.10 _) λc=>(f _ c).2.2.1;rw[get_map_set _ _ _ _ aa,o];exact congrArg _<|tv<|DU _<|.inl I;have:sumTo gs.size (upd q i k)+(k+1)=sumTo gs.size q+k:=by
   have:=sumTo_upd q k id A;simpa[x]using this
  omega
theorem Fm.B(h:Fm P F r gs w t q)(d:gs[0]?=some b)(e:b.3=.running):∀g∈gs,awake g:=by
 intro g c;obtain⟨i,a⟩:=Array.mem_iff_getElem?.1 c;obtain rfl|c:=rC i;rw[d]at a;cases a;exact awake_of<|.inl e;exact awake_of<|(h.2 i g c a).status.elim .inl λx=>.inr<|.inr x
theorem Fm.I:∀(M) {gs:Array cf}{w:ag}{t:ez}{q:Nat->Nat}{sl:Option _}{d:cf},sumTo gs q<=M->Fm P F r gs w t q->gs[0]?=some d->d.3=.running->
  ∃(N:Nat)(f:Array cf)(w':ag)(n:ez)(I:Nat->Nat)(c m:Option<|Nat×Nat)(e o:Nat),runNT P N (crowd gs w sl) t=(.next<|crowd f w' c,n)∧Fm P F r f w' n I∧f[0]?=some d∧w'=w.at o∧stepT P (crowd f w' c)=runT P (crowd f (w'.at e) m) 0:=by
 intro M;induction M with
 |zero=>
  intro gs w t q sl d y h a b;obtain⟨l,u,e,c,j,k,g⟩:=crowd_pick (P:=P) (w:=w) (sl:=sl) (h.B a b) ⟨0,d,a,b⟩;obtain rfl|i:=rC l;exact⟨0,gs,w,t,q,sl,c,e,_,rfl,h,a,rfl,g⟩;obtain⟨_,_,_,_,_,_,_,A⟩:=h.O (sl:=sl) i j k a b;omega
 |succ M H=>
  intro gs w t q sl d y h a b;obtain⟨l,u,e,c,j,k,g⟩:=crowd_pick (P:=P) (w:=w) (sl:=sl) (h.B a b) ⟨0,d,a,b⟩;obtain rfl|i:=rC l;exact⟨0,gs,w,t,q,sl,c,e,_,rfl,h,a,rfl,g⟩;obtain⟨f,Q,O,B,x,z,C,A⟩:=(h.Z e).O (sl:=c) i j k a b;obtain⟨N,v,w2,L,J,m,K,p,s,D,i2,i3,E,G⟩:=H (sl:=c) (dT C) x z b;exact⟨N+1,v,w2,L,J,m,K,p,s,by simp[runNT,g,B];exact D,i2,i3,E,G⟩
theorem Fm.T(h:Fm P F r gs w t q)(L:gs[0]?=some (G fr cs)){cs1:List az}(N:stepG P true (G fr cs) w=.go (G f cs1) w1 l)(v:Only r r1 w w1)(u:r1.Fits P F w1)(s:∀e∈l,lB r1 e):
  ∃A K,runT P (crowd gs w sl) 0=(.next<|crowd A w1 sl,K)∧Fm P F r1 A w1 (t++K) q∧A[0]?=some (G f cs1):=by
 have m:∀op∈eH 0 (G fr cs).1.1 (G fr cs).1.place l,op.g=0∧∀x,op.4.touch?=some x->x.3=.plain∧∀b,gP b x.1->r1.B b∨(x.2=false∧r1.s b≠none):=by
  intro op a;obtain⟨e,c,rfl⟩:=qs a;exact⟨rfl,λx g=>C3 (s e c) g⟩
 have kx:∀b,r1.B b->lF t 0 b:=by
  intro b d;obtain c|c:=v.6 b d;exact h.6 b c;exact λj x g n=>absurd (h.8 j x g b n) aa
 have J:∀b,r1.s b≠none->mi t 0 b:=by
  intro b d;obtain⟨o,R⟩:=pH.1 d;exact h.7 b<|cw<|v.7 b o R
 have D:∀j,jN (t++eH 0 (G fr cs).1.1 (G fr cs).1.place l) j=jN t j:=by
  intro j;obtain rfl|V:=rC j;rw[DV];exact deafBehind_still (λe c=>⟨(wB<|s e c).1,(wB<|s e c).2.1⟩) _;exact vC t (g':=0) aa _ λop a=>(m op a).1
 refine⟨_,_,(zF (P:=P) (sl:=sl) (i:=0) L (show stepG P _ _ w=_ from N)),⟨by grind,λj y O I=>?_,λop a=>?_,u,λsaid=>Am (h.5 _) (λop a=>(m _ a).1) λj z C op a x g M=>?_,λb d=>(kx b d).B λop a x g n=>(m _ a).1,λb d=>(J b d).B λop a x g n _=>(m _ a).1,(h.8.B v.4).I λop a x g b n=>?_,λop a=>?_,λop a=>?_,J1 h.11 λop a=>.inl (m _ a).1,(D 0).trans h.d0⟩,get_map_set_same _ _ _ h.1⟩;rw[get_map_set _ _ _ _ aa]at I;obtain⟨W,T,rfl⟩:=mR.1 I;have H:=h.2 j _ O T;rw[woken_quitsD H,D];exact H;simp;obtain c|c:=mP.1 a;exact h.3 _ c;grind;obtain⟨Q,E,S,_⟩:=M;obtain⟨_,p⟩:=(m op a).2 x g;have:∃b,gP b z.1:=by
  cases n:z.1 with
  |cell U=>exact⟨_,rfl⟩
  |obj o=>exact⟨_,rfl⟩
  |_=>rw[n]at E;simp[JJ]at E
 obtain⟨b,d⟩:=this;obtain k|⟨k,B⟩:=p b<|Q▸d;exact kx b k j _ C d;exact J b B j _ C d<|S.resolve_right<|cw k;rcases((m op a).2 x g).2 b n with k|⟨_,B⟩
 exact u.B<|.inl k;exact u.B<|.inr B;obtain c|c:=mP.1 a;exact MemAct.low_mono v.4<|h.9 _ c;obtain⟨e,p,rfl⟩:=qs c;exact MB (s e p) λb d=>u.B d;obtain c|c:=mP.1 a;exact h.10 _ c;obtain⟨e,p,rfl⟩:=qs c;exact λz k=>(wB<|s e p).2.2 _<|H7 k
def Comes(P:bj)(F:bw->Bool)(r:aG)(fr:az)(cs:List az)(Q:aG->az->List az->Prop):Prop:=
 ∀(gs:Array cf)(w:ag)(sl:Option (Nat×Nat))(t:ez)(q:Nat->Nat),Fm P F r gs w t q->gs[0]?=some (G fr cs)->
  ∃(N:Nat)(b:Array cf)(a:ag)(h:Option (Nat×Nat))(f:ez)(g:Nat->Nat)(e:aG)(d:az)(c:List az),runNT P N (crowd gs w sl) t=(.next (crowd b a h),f)∧Fm P F e b a f g∧b[0]?=some (G d c)∧Q e d c∧
   a.2=w.2∧a.4=w.4∧a.5=w.5
theorem Comes.U(h:K r fr cs):Comes P F r fr cs K:=λgs w sl t q a b=>⟨0,gs,w,sl,t,q,r,fr,cs,rfl,a,b,h,rfl,rfl,rfl⟩
theorem Comes.B(h:Comes P F r fr cs K)(e:∀r fr cs,K r fr cs->Comes P F r fr cs f2):Comes P F r fr cs f2:=by
 intro gs w sl t q a b;obtain⟨N,c,w1,z,c,v,r1,c,cs1,f,i2,i3,g,i,j,k⟩:=h _ w sl t q a b;obtain⟨a,d,w2,A,B,x,y,c,b,l,m,n,o,p,s,u⟩:=e _ _ _ g _ _ z _ v i2 i3;exact⟨N+a,d,w2,A,B,x,y,c,b,by rw[DZ,f];exact l,m,n,o,p.trans i,s.trans j,u.trans k⟩
theorem Comes.Y(h:Comes P F r fr cs K)(a:∀r fr cs,K r fr cs->f2 r fr cs):Comes P F r fr cs f2:=h.B λr fr cs b=>.U<|a r fr cs b
variable{f7 f8:Machine}
theorem GK{x:Stepped}(h:runNT P a f7 b4=(.next f8,g1))(b:stepT P f8=(x,g2)):runNT P (a+1) f7 b4=(x,g1++g2):=by
 rw[DZ,h];simp[runNT,b];grind
theorem Comes.O{Q:aG->az->List az->Prop}(h:ar P true F Q r fr cs):Comes P F r fr cs Q:=by
 obtain⟨a,h⟩:=h;induction a generalizing r fr cs with
 |leaf=>exact .U h
 |node c l=>
  intro gs w sl t q a c;obtain⟨N,b,w1,b,B,b,b,d,e,i,i2,i3,j,k⟩:=Fm.I _ (sl:=sl) (cP _) a c rfl;obtain⟨a,a,w2,a,a,c,e,a,f,m⟩:=h (w1.at d) (i2.Z d).4;obtain⟨g,g,n,o,p⟩:=(i2.Z d).T (sl:=b) i3 c a e f;obtain⟨c,g,w3,E,G,C,D,f,e,s,u,v,x,y,z,A⟩:=l _ m _ _ b _ B o p;have b:(w1.at d).2=w.2∧(w1.at d).4=w.4∧(w1.at d).5=w.5:=by rw[j];exact⟨rfl,rfl,rfl⟩
  exact⟨N+1+c,g,w3,E,G,C,D,f,e,by rw[DZ,GK i<|k.trans n];exact s,u,v,x,y.trans<|a.1.trans b.1,z.trans<|a.2.trans b.2.1,A.trans<|a.3.trans b.2.2⟩
theorem Comes.m(S:Comes P F r fr cs K)
  (X:∀y E C,K y E C->∀w1,y.Fits P F w1->w1.2=w.2->w1.4=w.4->w1.5=w.5->∃v e,stepG P true (G E C) w1=.ended (.done v) w1 e∧(∀h∈e,lB y h)∧f9 v w1)
  {sl:Option _}(Y:Fm P F r gs w t q)(Z:gs[0]?=some (G fr cs)):
  ∃N last o z R,runNT P (N+1) (crowd gs w sl) t=(.ended o z,R)∧runN P N (crowd gs w sl)=.next last∧step P last=.ended o z∧Go.Conc.Good P f9 last o z R:=by
 obtain⟨A,b9,w1,b5,c1,ax,r1,f,cs1,a3,i2,i3,a4,a5,a6,a7⟩:=S _ w sl t q Y Z;obtain⟨B,H,w2,k,b4,Q,b6,D,b8,a8,a9,b0,u,O⟩:=Fm.I _ (sl:=b5) (cP _) i2 i3 rfl;have c:=a9.Z D;obtain⟨v,e,b1,b2,b3⟩:=X _ _ _ a4 _ c.4 (aw u a5) (aw u a6)<|aw u a7;have M:=runT_many_ended (P:=P) (sl:=b6) (i:=0) b0 (show stepG P (0==0) _ (w2.at D)=_ from b1);have L:runNT P (A+B) (crowd gs w sl) t=(.next<|crowd H w2 Q,k):=by rw[DZ,a3];exact a8
 have m:∀op∈eH 0 (G f cs1).1.1 (G f cs1).1.place e,op.g=0∧∀x,op.4.touch?=some x->x.3=.plain∧∀b,gP b x.1->r1.B b∨(x.2=false∧r1.s b≠none):=by
  intro op a;obtain⟨h,T,rfl⟩:=qs a;exact⟨rfl,λx d=>C3 (b2 h T) d⟩
 refine⟨A+B,crowd H w2 Q,_,_,_,GK L<|O.trans M,by rw[<-runNT_fst P _ _ t,L],?_,v,rfl,b3,λsaid=>Am (c.5 said) (λop a=>(m op a).1) λj l I op a x d W=>?_,J1 c.11 λop a=>.inl (m op a).1,⟨λx d=>?_,rfl⟩,λj x d s=>?_⟩;have:=O.trans M;simp[step,this];obtain⟨a1,J,a2,_⟩:=W;obtain⟨_,U⟩:=(m op a).2 x d;have:∃b,gP b l.1:=by
  cases a0:l.1 with
  |cell b7=>exact⟨_,rfl⟩
  |obj o=>exact⟨_,rfl⟩
  |_=>rw[a0]at J;simp[JJ]at J
 obtain⟨b,p⟩:=this;obtain n|⟨n,V⟩:=U b<|a1▸p;exact c.6 b n j l I p;exact c.7 b V j l I p<|a2.resolve_right<|cw n;obtain⟨j,s⟩:=H4.1 d;rw[Ax]at s;exact⟨_,(c.2 (1+j) x aa (by simpa[crowd]using s)).leaves⟩;refine⟨b4 j,?_⟩;have h:(k++eH 0 (G f cs1).1.1 (G f cs1).1.place e).deaf j (k++eH 0 (G f cs1).1.1 (G f cs1).1.place e).size=jN k j:=
  vC k (g:=j) (g':=0) aa _ λop a=>(m op a).1
 rw[h];exact (c.2 j x aa d).hears _
end
end
section
open Go.Conc
open Go.ConcN (upd upd_same upd_ne sumTo WD CTag WSit WgLive ShN RelBy)
open Go.ConcR (KK WgAt wgBlock stA smA)
def wH:aG:=⟨none,λ_=>none,λ_=>none⟩
theorem GD(b): ¬wH.B b:=by
 rintro(h|⟨_,_,_,h,_⟩);exact h rfl;cases h
theorem GC(b): ¬wH.O b:=λh=>h.elim (GD b) λh=>h rfl
theorem abM(P:bj)(F:bw->Bool)(w:ag):wH.Fits P F w:=⟨λ_ _ h=>(by cases h),λ_ _ h=>(by cases h),λ_ _ h=>(by cases h),λ_ _ h=>(by cases h),λ_ _ h=>(by cases h)⟩
section
variable{X:dn}{r:aG}{gs:Array cf}{w0 w:ag}{t:ez}{q:Nat->Nat}{sl:Option (Nat×Nat)}{fr:az}{cs:List az}
theorem Fm.Y(h:Fm X.P X.F r gs w t q)(d:gs[0]?=some (G fr cs))(p:pE t w0)(a:∀b,r.O b->b<w0)(a:X.5=w0)(a:w.1[X.5]?=some (wgBlock X.4 0 0))(e:Walk X.P true X.F (xp X) b9 r fr cs):
  bo X ⟨gs,w.2,w.4,w.5⟩ {c:=⟨λi=>if i=X.n+1 then r else wH,λ_=>none⟩,k:=λ_=>0,j:=0,D:=λ_=>⟨7,0,0⟩,q:=q,tag:=.kd,added:=false,dd:=0,μ:=λ_=>(0,0,.leaf),μs:=(2,9,b9),μr:=(0,0,.leaf)} gs w t:=by
 have m:∀i,i≠X.n+1->(if i=X.n+1 then r else wH)=wH:=aJ;have f: ¬r.O X.5:=aJ
 refine{
  m0:=h.1
  size:=rfl
  FU:=nK _
  main:=⟨_,d,by dsimp only;rw[if_pos rfl];exact .pre rfl e⟩
  old:=λi g e _ d=>h.2 i g e d
  wk:=λi d=>absurd d<|zH _
  off:=λi _ d=>by simp only;rw[m i d];exact⟨GC,rfl⟩
  stage:=λ_ _=>rfl
  E8:=λi=>⟨af,af⟩
  yq:=⟨λi=>?_,λi s b e a f=>?_,af,af,af,af,(fU.1 a).1,λi a=>?_,af,af,af⟩
  told:=⟨h.5,λi b a=>?_,λi b a=>?_,h.8⟩
  handed:=λ_ _ _ _ h=>(by grind)
  xW:=λi d=>absurd d<|zH _
  items:=λi d=>absurd d<|zH _
  G6:=λi d=>absurd d<|Nat.succ_ne_zero _
  Cx:=λi d=>absurd d<|zH _
  quiet:=λi op x d l o=>?_
  norel:=h.10
  low:=h.9
  gs:=h.3
  d0:=h.d0
  lM:=λi d=>absurd d<|zH _
  rel:=λi d=>absurd d<|zH _
  over:=λx g l n _ e=>h.11 x g l n e
  acq:=λe=>(by cases e)
  zh:=⟨0,0,a,af⟩
  tape:=rfl
  os:=rfl
  output:=rfl}
 simp only;by_cases e:i=X.n+1;rw[if_pos e];exact h.4;rw[if_neg e];exact abM ..;simp only at a f;by_cases e:i=X.n+1;rw[m s aa]at f;exact GC _ f;rw[m i e]at a;exact GD _ a;simp only at a;by_cases e:i=X.n+1;grind;rw[if_neg e]at a;exact GC _ a;simp only at a;by_cases e:i=X.n+1;subst e;rw[if_pos rfl]at a;rw[pN];exact h.6 b a;rw[if_neg e]at a;exact absurd a<|GD _;simp only at a;by_cases e:i=X.n+1;subst e;rw[if_pos rfl]at a;rw[pN];exact h.7 b a;rw[if_neg e]at a;exact absurd rfl a;obtain⟨e,e,a⟩:=o;have:=p i x (aw (touchAt_of d) l) _<|aw e a;omega
variable{p:dN}
theorem bo.Ba{W:jc}(h:bo X W p gs w t)(f:p.6=.ret):Fm X.P X.F (p.c.r<|X.n+1) gs w t (λi=>if i<W.m then p.q i else(p.D<|i- W.m).2):=by
 obtain⟨R,Y,c⟩:=h.4;obtain⟨D,B⟩:p.j=X.n+1∧p.8=0:=by
  generalize p.6=tag at c f;generalize p.7=S at c;generalize p.8=dd at c⊢;generalize p.μs=b2 at c;generalize p.μr=b1 at c;subst f;cases c with
  |wait _ D _ K=>cases K with|fin _=>omega
 obtain⟨st,a8,_,s⟩:=h.an (i:=0) aa;rw[f]at s;obtain⟨m,_,_⟩:=s.fin_inv trivial;refine⟨dT h.2,λi g z r=>?_,λop l=>aw h.2<|h.gs _ l,h.10.1 _,h.11.1,λj k=>?_,λj k=>?_,h.11.4,h.19,h.18,λi g d E q=>?_,h.d0.trans B⟩
 by_cases a:i<W.m;rw[if_pos a];exact h.5 i g z a r;rw[if_neg a];have I:=(fU.1 r).1;rw[h.2]at I;obtain⟨x,rfl⟩:∃x,i=W.m+x:=⟨i- W.m,aa⟩;let⟨y,Z,n⟩:=h.6 x aa;obtain rfl:g=y:=by grind
 have b:=m x aa;rw[h.lM x aa,show W.m+x- W.m=x by omega];generalize p.D x=v at n b;generalize p.μ x=b0 at n;cases n with
 |recv=>simp at b
 |eV=>simp at b
 |work=>simp at b
 |send=>simp at b
 |iE=>simp at b
 |shut=>simp at b
 |tail J _=>
  obtain⟨U,Q,a9,_,_,A⟩:=J;obtain⟨o,_⟩|⟨_,a2⟩:=A;omega;obtain⟨a7,V,T⟩:=v;subst b;cases a2 with
  |quit m=>exact m
 have:=h.11.2 _ j k;rwa [pN]at this;have:=h.11.3 _ j k;rwa [pN]at this;by_cases a:g<W.m;exact h.24 i g d E a q;have C:=d;let⟨op,l,a4⟩:=mR.1 C;have a1:=h.gs _<|Au l;let⟨u,L,M,N,O⟩:=(h.25 f);obtain⟨x,rfl⟩:∃x,g=W.m+x:=⟨g- W.m,aa⟩;let⟨P,e,H⟩:=O x aa
 have Ms:Rf t _ u:=.single<|.inr ⟨.marked H (.inr e.1) L (λa5 _ _ o=>by
  obtain⟨a6,F,G⟩:=mR.1 o
  exact h.18 _ (Au F) _ G),e.3,N⟩
 have a3:=Nat.le_of_not_lt λa=>e.4 i a d q;obtain a|a0:=tE i P;exact⟨u,M,.trans (.single<|.inl ⟨a,_,d,e.g⟩) Ms⟩;grind
end
theorem Comes.Z{P:bj}{F:bw->Bool}{ty:bB}{cs cs1:List az}{fr1:Nat->az}{X:Nat->dn}(A:∀a,(X a).P=P)(hF:∀a,(X a).F=F)(K:∀a,(X a).4=ty)(O:∀a,(X a).5=a)(ok:∀a,(X a).Ok)
  (J:∀w,g.Fits P F w->stepG P true (G f cs) w=.go (G (fr1 w) cs1) {w with heap:=w.1.push (wgBlock ty 0 0)} #[])(C:∀a,ar P true F (xp<|X a) g (fr1 a) cs1):
  Comes P F g f cs λa2 j e=>∃a,(X a).11 a2 j e:=by
 intro gs w sl b3 b0 D H;obtain⟨N,a9,w1,a4,b1,b2,l,n,a8,Q,i2,i3,R,S⟩:=Fm.I _ (sl:=sl) (cP _) D H rfl;have b:=i2.Z n;generalize L:w1.at n=v at*;have p:=J v b.4;obtain⟨y,r,q,Z,a0⟩:=b.T (sl:=l) i3 p (r1:=g) ⟨rfl,rfl,rfl,af,λm c _=>by grind,λ_ k=>.inl k,λ_ _ k=>k⟩
  (b.4.I (λm c=>by have:=b.4.B c;grind) af) af
 have I:pE (a4++r) v.1.size:=by
  have:r= #[]:=by
   have:=zF (P:=P) (sl:=l) (i:=0) i3 (show stepG P (0==0) (G f cs) v=_ from p);rw[q,pV]at this;exact(Prod.mk.inj this).2
  rw[this];simpa using b.8
 obtain⟨b4,M⟩:=C v.1.size;have t:=A v.1.size;have u:=hF v.1.size;have x:=K v.1.size;have o:=O v.1.size;have a1:=ok v.1.size;generalize B:X v.1.size=Y at*;subst t u x;obtain⟨s,a6,z,w3,a3,a5,a7,T,d,U,V,W⟩:=bo.A4 a1 _ y _ l _ (Fm.Y (X:=Y) Z a0 (w0:=v) I (λm c=>b.4.B c) o (cw o) M);obtain⟨j,e,rfl,E⟩:=W;have h:v.2=w.2∧v.4=w.4∧v.5=w.5:=by rw[<-L,R];exact⟨rfl,rfl,rfl⟩
 exact⟨N+1+s,z,w3,a3,a5,_,_,j,e,by rw[DZ,GK Q<|S.trans q];exact T,d.Ba V,U,⟨_,aw B E⟩,d.27.trans h.1,d.os.trans h.2.1,d.29.trans h.2.2⟩
end
section
open Go.Conc Go.Conc.Lib
open Go.ConcN (WgLive)
theorem MK(h:g.Fits q A d)(a: ¬g.O e6.1):g.Fits q A<|d.setCell e6 c:=by
 refine h.I (λb a=>?_) af;have a:e6.1≠b:=aJ;simp[Dl,Ic,a]
section
variable{X:dn}{r:aG}{b₀:az}{a₀:bK}{ops₀:Array bG}{i₀:Nat}{rest₀:List Nat}{k₀:List fJ}{cs:List az}
theorem ad5(a:oI X)(e:X.11 r (b₀.at (a₀.put ((ops₀[i₀]?).bind (·.1)) (.tuple #[])) (.inRegion ops₀ rest₀::k₀)) cs):
  xL X r (ej Tryz.prog 156 #[X.5] .normal) (b₀.at a₀ (.inRegion ops₀ (i₀::rest₀)::k₀)::cs):=by
 intro g;have c:∀ {w d:ag},r.Fits _ _ w∧WgLive X.4 X.5 w->cn _ _ r _ _ w _->r.Fits X.P X.F _∧WgLive _ _ d:=λh b=>⟨b.1 h.1,b.2 h.2⟩;have f:∀(w:ag)(b:bC)(v:aq),b.1=X.5->r.Fits _ X.F w->r.Fits X.P _ (w.setCell b v):=λw b v b h=>MK h (b▸g);have b:∀w,r.Fits X.P X.F w->WgLive X.4 X.5 w->Goes X.P true (cn X.P X.F r X.4 X.5) Rl (jr X r) 0 _ w:=
  λw _ _=>mS λd _=>⟨_,_,rfl,e⟩
 refine⟨AX G7 (λw=>r.Fits X.P X.F w) X.5 (b₀.at a₀ (.inRegion ops₀ (i₀::rest₀)::k₀)) cs,3,λw d e=>?_,λg w h=>?_⟩;rw[a.P,a.2]at*;exact ad7 C8 c w ⟨d,aa⟩;refine⟨by obtain⟨T,rfl,_⟩:=h;rfl,?_⟩;rw[a.P,a.2]at*;exact ad6 C8 c f b g w h
theorem SF(b:oI X)(g:X.n+1<2147483648)(d:∃k,ar X.P true X.F (m_ X (X.n+1) 0 k) r (b₀.at (a₀.put ((ops₀[i₀]?).bind (·.1)) (.tuple #[])) (.inRegion ops₀ rest₀::k₀)) cs):
  xp X r (ej Tryz.prog 149 #[X.5,.int .i64 ((X.n+1:Nat))] .normal) (b₀.at a₀ (.inRegion ops₀ (i₀::rest₀)::k₀)::cs):=by
 intro i;have e:∀ {w c:ag},r.Fits _ _ w∧WgLive X.4 X.5 w->cn _ _ r _ _ w _->r.Fits X.P X.F _∧WgLive _ _ c:=λh a=>⟨a.1 h.1,a.2 h.2⟩;have f:∀(w:ag)(a:bC)(v:aq),a.1=X.5->r.Fits _ X.F w->r.Fits X.P _ (w.setCell a v):=λw a v a h=>MK h (a▸i);have a:∀w,r.Fits X.P X.F w->WgLive X.4 X.5 w->Goes X.P true (cn X.P X.F r X.4 X.5) Rl (rP X r) 0 _ w:=
  λw _ _=>mS λc _=>⟨_,_,rfl,d⟩
 refine⟨12,λw c d=>?_⟩;rw[b.P,b.2]at*;exact SG C8 aa g e f a w ⟨c,aa⟩
end
end
section
open Go.Conc Go.Conc.Lib
abbrev CG:Array Oper:= #[{dst:=some 39,op:=iI (bz 9),type:=274,pos:= "pipe.go:60",after:= #[],guard:=none},
 {dst:=some 40,op:=nE {callee:=nD (oG 155),args:= #[bz 39],argTypes:= #[354]},type:=93,pos:= "pipe.go:60",after:= #[{on:=0,ground:=cY}],guard:=none},
 {dst:=some 14,op:=pB (bz 40),type:=93,pos:= "pipe.go:60",after:= #[{on:=1,ground:=cY},{on:=1,ground:=vd},{on:=0,ground:=gQ},{on:=1,ground:=gQ}],guard:=none}]
abbrev OA:Array Oper:= #[{dst:=some 41,op:=nE {callee:=nD (oG 156),args:= #[bz 7],argTypes:= #[272]},type:=0,pos:= "pipe.go:61",after:= #[],guard:=none}]
abbrev OB:Array Oper:= #[{dst:=some 42,op:=iI (bz 14),type:=93,pos:= "pipe.go:62",after:= #[],guard:=none},
 {dst:=some 6,op:=pB (bz 42),type:=93,pos:= "pipe.go:62",after:= #[{on:=0,ground:=cY},{on:=0,ground:=gQ}],guard:=none}]
abbrev CO:Code:=(bH 14 OA false).seq ((bH 15 OB false).seq kL)
inductive AR(F:bw->Bool)(Pre:Nat->List aq->Ren->ag->Prop)(K:(Nat->Option bI)->(Nat->Option bI)->Prop)(n:Nat)(c:az)(cs:List az):aG->az->List az->Prop
 |mk (e s:Nat->Option bI) (f0 f:Ren) (v0 v:ag) (s0 s':aq) (xs:List bn) (x0 x1 x2 x3 x4 x5 x6 x7 x8 x9 x10 x11 x12 x13 x15 x16 x17 x18 x19 x20 x21 x22 x23 x24 x25 x26 x27 x28 x29 x30 x31 x32 x33 x34 x35 x36 x37 x38 x39 x40 x41 x42:aq) (hK:K e s)
  (hpre:Pre n (xs.map bn.I) f0 v0) (hle:f0.O f) (hg:Grown v0 v) (hd:mV f v) (hG:fy v s0 xs) (hr:av F f s0 s') (hfr:∀ad n cp,s0=.slice (some ad) n cp->v0.1.size<=ad.1):
  AR F Pre K n c cs ⟨some (f,v),e,s⟩ ((base 90).at ⟨#[x0,x1,x2,x3,x4,x5,x6,x7,x8,x9,x10,x11,x12,x13,s',x15,x16,x17,x18,x19,x20,x21,x22,x23,x24,x25,x26,x27,x28,x29,x30,x31,x32,x33,x34,x35,x36,x37,x38,x39,x40,x41,x42],[]⟩ [.inRegion OA [],.code ((bH 15 OB false).seq kL)]) (c::cs)
inductive xz(F:bw->Bool)(K:(Nat->Option bI)->(Nat->Option bI)->Prop)(wg:Nat)(c:az)(cs:List az)(a:Nat):List aq->aG->az->List az->Prop
 |mk (e s:Nat->Option bI) (x0 x1 x2 x3 x4 x5 x6 x8 x9 x10 x11 x12 x13 x14 x15 x16 x17 x18 x19 x20 x21 x22 x23 x24 x25 x26 x27 x28 x29 x30 x31 x32 x33 x34 x35 x36 x37 x38 x40 x41 x42:aq) (hK:K e s) {ys:List aq} {r:aG} {fr:az} {cs':List az}
  (h:sq F a e s ((base 90).at ⟨#[x0,x1,x2,x3,x4,x5,x6,.pointer (some ⟨wg,0,none⟩),x8,x9,x10,x11,x12,x13,x14,x15,x16,x17,x18,x19,x20,x21,x22,x23,x24,x25,x26,x27,x28,x29,x30,x31,x32,x33,x34,x35,x36,x37,x38,.chan (some a),x40,x41,x42],[]⟩ [.inRegion CG [1,2],.code CO]) (c::cs) ys r fr cs'):xz F K wg c cs a ys r fr cs'
section
variable{X:dn}{e s:Nat->Option bI}{K:(Nat->Option bI)->(Nat->Option bI)->Prop}{c:az}{cs:List az}
theorem ZA(b:oI X)(a5:∀a,X.AM a=xz X.F K X.5 c cs a)(hF:X.11=AR X.F X.7 K X.n c cs)(a):Recvs X.P X.F (λ_=>a) X.7 X.kj true X.n X.z (X.AM a) (xL X):=by
 rw[b.P,b.3,b.z,a5];refine⟨λa3 Z fr cs h w _=>?_,λa3 Z fr cs b8 h b2=>?_,λa3 Z fr cs f b4 h a2=>?_⟩;cases h with
 |mk e s g i u G R U V W Y j k l m n o p q r t v x y z A B C D E F H I J L M N O P Q a1 S T d h=>exact OM h w
 cases h with
 |mk e s g i u G R U V W Y j k l m n o p q r t v x y z A B C D E F H I J L M N O P Q a1 S T d h=>exact(OS b.4 h b2).Y λZ fr cs h=>.mk e s _ _ _ _ _ _ _ _ _ _ _ _ _ _ _ _ _ _ _ _ _ _ _ _ _ _ _ _ _ _ _ _ _ _ _ _ _ _ _ _ _ d h
 cases h with
 |mk e s g i u G R U V W Y j k l m n o p q r t v x y z A B C D E F H I J L M N O P Q a1 S T d h=>
 refine OP h (b.7 _ _ _ _ a2) λb5 b7 s0 a0 b9 b3 b6 b0 a9 a7 a6 b1 a8=>?_;subst b3;have a4:((base 90).at ⟨#[g,i,u,G,R,U,V,X.5,W,Y,j,k,l,m,n,o,p,q,r,t,v,x,y,z,A,B,C,D,E,F,H,I,J,L,M,N,O,P,Q,.chan (some a),a1,S,T],[]⟩ [.inRegion CG [1,2],.code CO]).finish a0=(base 90).at ⟨#[g,i,u,G,R,U,V,X.5,W,Y,j,k,l,m,n,o,p,q,r,t,v,x,y,z,A,B,C,D,E,F,H,I,J,L,M,N,O,P,Q,.chan (some a),a0,S,T],[]⟩ [.inRegion CG [2],.code CO]:=rfl;rw[a4];apply ar.I a0 rfl rfl (base_kind _) (λw=>aZ) (λw=>aZ);walk_nrm;apply ar.B (λw=>cE);apply ar.B (λw=>cM);apply ar.B (λw=>fK);apply rh (f:=156) (vals:= #[X.5]) rfl rfl (base_kind _) rfl func156 rfl rfl (by simp[lH]);refine .O (ad5 b ?_);rw[hF];exact .mk e s f _ b4 _ _ _ _ _ _ _ _ _ _ _ _ _ _ _ _ _ _ _ _ _ _ _ _ _ _ _ _ _ _ _ _ _ _ _ _ _ _ _ _ _ _ _ _ _ _ d a2 b0 a9 a7 a6 b1 a8
theorem acb{Pre:Nat->List aq->Ren->ag->Prop}{l:aG->az->List az->Prop}(p:AR A Pre K a c cs g f h)
  (q:∀e s(j b:Ren)i v(s0 d) (k:List bn),K e s->Pre a (k.map bn.I) j i->j.O b->Grown i v->mV b v->fy v s0 k->av A b s0 d->(∀m a n,s0=.slice (some m) a n->i<=m.1)->ar Tryz.prog o A l ⟨some (b,v),e,s⟩ (c.finish d) cs):
  ar Tryz.prog o A l g f h:=by
 cases p with
 |mk e s j b i v s0 d k x0 x1 x2 x3 x4 x5 x6 x7 x8 x9 x10 x11 x12 x13 x15 x16 x17 x18 x19 x20 x21 x22 x23 x24 x25 x26 x27 x28 x29 x30 x31 x32 x33 x34 x35 x36 x37 x38 x39 x40 x41 x42 hK hpre hle hg hd hG hr hfr=>
 apply ar.B (λw=>cE);apply ar.B (λw=>cM);apply ar.B (λw=>fK);apply ar.I d rfl rfl (base_kind _) (λw=>aZ) (λw=>aZ);apply ar.I d rfl rfl (base_kind _) (λw=>aZ) (λw=>aZ);walk_nrm;exact ar.B (λw=>cE) (ar.B (λw=>pI) (ar.B (λw=>DO rfl rfl func90 (by simp[results]) (by simp[results]))<|q e s _ b _ v _ _ _ hK hpre hle hg hd hG hr hfr))
end
end
section
open Go.Conc
section
variable{P:bj}{mb:Bool}{F:bw->Bool}{Stop:aG->az->List az->Prop}{r:aG}{c:az}{cs:List az}{b:az}{a:bK}{k:List fJ}{ops:Array bG}{i:Nat}{rest:List Nat}{o:bG}
def tP(r:aG)(x:Nat):Prop:=¬r.O x
theorem aan(h:r.Fits P F d):tP r d:=λa=>Hh _<|h.B a
theorem th(c:bI)(val:Nat->aq)(e:ops[i]?=some o)(g:cV o (yielded ops a.1)=true)(d:b.6≠ .early)
  (f:∀w,(execOp a.eval o).run P w=.ok (.value<|val w) {w with heap:=w.1.push c}∧(execOp a.eval o).events P w #[]= #[])
  (h:∀x,tP r x->ar P mb F Stop (r.I x c) (b.at (a.put o.1<|val x)<|.inRegion ops rest::k) cs):ar P mb F Stop r (b.at a<|.inRegion ops (i::rest)::k) cs:=by
 refine ar.bN e g d λw c=>?_;obtain⟨d,e⟩:=f w;exact⟨_,_,_,_,d,af,(cw e),c.O rfl,.I rfl rfl rfl rfl,h _<|aan c⟩
theorem CW{blk:Nat}{x y:aq}{ety:bB}(e:ops[i]?=some o)(g:cV o (yielded ops a.1)=true)(d:b.6≠ .early)(c:r.e blk=some (.cells #[y] ety (0,0)))
  (f:∀w,w.cell? ⟨blk,0,none⟩=some y->w.frozen? ⟨blk,0,none⟩=false->(execOp a.eval o).run P w=.ok .skip (w.setCell ⟨blk,0,none⟩ x)∧(execOp a.eval o).events P w #[]= #[⟨.cell ⟨blk,0,none⟩,true,false⟩])
  (h:ar P mb F Stop (r.I blk<|.cells #[x] ety (0,0)) (b.at (a.put o.1 aj)<|.inRegion ops rest::k) cs):ar P mb F Stop r (b.at a<|.inRegion ops (i::rest)::k) cs:=by
 refine ar.bN e g d λw e=>?_;have d:=e.e _ _ c;let⟨j,l⟩:=f w (by simp[gK,d]) (by simp[zO,d]);have f:(w.setCell ⟨blk,0,none⟩ x).1=w.1.setIfInBounds blk (.cells #[x] ety (0,0)):=by
  obtain⟨g,_⟩:=pq (o:=0) x d;rw[g];rfl
 refine⟨_,_,_,_,j,af,λd d=>?_,e.T c f,.O c f rfl rfl rfl,h⟩;rw[l]at d;simp at d;subst d;exact⟨rfl,.inl<|.inl (by simp[aG.I])⟩
theorem GP{blk off:Nat}{x:aq}{c:Nat×Nat}(f:ops[i]?=some o)(j:cV o (yielded ops a.1)=true)(e:b.6≠ .early)
  (d:r.e blk=some (.cells t C c)∨r.s blk=some (.cells t C c))(l:t[off]?=some x)
  (g:∀w,w.cell? ⟨blk,off,none⟩=some x->(execOp a.eval o).run P w=.ok (.value x) w∧(execOp a.eval o).events P w #[]= #[⟨.cell ⟨blk,off,none⟩,false,false⟩])
  (h:ar P mb F Stop r (b.at (a.put o.1 x)<|.inRegion ops rest::k) cs):ar P mb F Stop r (b.at a<|.inRegion ops (i::rest)::k) cs:=by
 refine .Z x f j e (λw c=>?_) h;obtain⟨e,f⟩:=g w (by simp[gK,(d.elim (c.e _ _)<|c.s _ _),l]);refine⟨e,λe c=>?_⟩;rw[f]at c;simp at c;subst c;exact⟨rfl,d.elim (λh=>.inl<|.inl<|cw h) λh=>.inr ⟨rfl,cw h⟩⟩
theorem CC{x:Nat}:(r.I x d2).e x=some d2:=by simp[aG.I]
theorem uy{x y:Nat}(h:y≠x):(r.I x d2).e y=r.e y:=by simp[aG.I,h]
theorem N_{x:Nat}(h:tP r x):r.e x=none:=by
 cases a:r.e x with
 |none=>rfl
 |some o=>exact absurd (.inl<|.inl<|cw a) h
theorem N0{x:Nat}(h:tP r x):r.s x=none:=by
 cases a:r.s x with
 |none=>rfl
 |some o=>exact absurd (.inr<|cw a) h
theorem pn{x y:Nat}{o:bI}(h:tP r x)(a:r.e y=some o):y≠x:=λe=>by rw[e,N_ h]at a;grind
theorem afe{x y:Nat}(h:tP r x)(a:r.s y=some d2):y≠x:=λe=>by rw[e,N0 h]at a;grind
end
def iC(a:Ren×ag)(e s:Nat->Option bI)(C S:Nat->Bool):aG:=⟨some a,λx=>if C x then e x else none,λx=>if S x then(e x).or (s x)else none⟩
def fu(tm:Ren×ag)(e s:Nat->Option bI)(C S:Nat->Bool)(b:Nat):aG:=⟨some tm,λx=>if C x||S x||x==b then none else e x,λx=>if S x then(e x).or (s x)else s x⟩
section
variable{X:dn}{f:Ren}{v:ag}{e s:Nat->Option bI}{b:Nat}{C S:Nat->Bool}
theorem MJ(h:Fit q A j d d4):Fit q A (λ_=>none) d d4:=⟨λa x h=>na h,h.2,λa x h=>na h,λa a x h=>na h⟩
theorem or_some(h:e5.or f0=some d2):e5=some d2∨f0=some d2:=by cases e5<;>simp_all
theorem N6(h:e5.or f0≠none):e5≠none∨f0≠none:=by grind
theorem Ob(i:∃J,(⟨some (f,v),e,s⟩:aG).Fits X.P X.F J)(A:e b=some fD.B)(G:∀x,C x=true->S x=false∧x≠b)(H:∀x,S x=true->x≠b)(q:Bool):
  En X ⟨some (f,v),e,s⟩ b (iC (if q then f else λ_=>none,v) e s C S)<|fu (if q then λ_=>none else f,v) e s C S b:=by
 obtain⟨M,F⟩:=i;have apart:∀c x,f c=some x->e x=none∧s x=none:=λc x n=>F.4 f v rfl c x n;have alone:∀x o,e x=some o->s x=none:=F.5;have D:∀(t:Bool) c x,(if t then f else λ_=>none) c=some x->f c=some x:=by intro t c x n;cases t<;>simp_all
 have E:∀(t:Bool) c x,(if t then λ_=>none else f) c=some x->f c=some x:=by intro t c x n;cases t<;>simp_all
 have I:∀c r x,(if q then f else λ_=>none) c=some x->(if q then λ_=>none else f) r=some x->False:=by intro c r x n L;cases q<;>simp_all
 have K:s b=none:=aJ;refine⟨A,λJ i=>⟨⟨?_,?_,?_,?_,?_⟩,⟨?_,?_,?_,?_,?_⟩⟩,λx a=>?_,λx a=>?_,λx a=>?_,λx a=>?_⟩;intro k m d;obtain⟨rfl,rfl⟩:=d;cases q;exact MJ<|i.1 f v rfl;exact i.1 f v rfl;intro x o a;simp only[iC]at a;split at a;exact i.e x o a;grind;intro x o a;simp only[iC]at a;split at a;exact(or_some a).elim (i.e x o)<|i.s x o;grind;intro k m d c x a;obtain⟨rfl,rfl⟩:=d;obtain⟨h,p⟩:=apart c x<|D _ _ _ a;simp[iC,h,p];intro x o a;simp only[iC]at a⊢;grind;intro k m d;obtain⟨rfl,rfl⟩:=d;cases q;exact i.1 f v rfl;exact MJ<|i.1 f v rfl;intro x o a;simp only[fu]at a;split at a;grind;exact i.e x o a;intro x o a;simp[fu]at a;split at a;exact(or_some a).elim (i.e x o)<|i.s x o;exact i.s x o a;intro k m d c x a;obtain⟨rfl,rfl⟩:=d;obtain⟨h,p⟩:=apart c x<|E _ _ _ a;simp[fu,h,p];intro x o a;simp only[fu]at a⊢;split at a;cases a;rename_i j;simp only[Ag,not_or,Bool.not_eq_true]at j;rw[j.1.2];simpa using alone x o a;obtain a|⟨k,m,c,d,l⟩:=a;simp only[iC]at a;split at a;rename_i j;refine⟨.inl a,(G x j).2,?_⟩;obtain⟨o,u⟩:=pH.1 a;rintro((g|⟨k,m,c,d,l⟩)|g);simp[fu,j]at g;simp only[fu,vB,zI]at d;obtain⟨rfl,rfl⟩:=d;rw[(apart c x<|E _ _ _ l).1]at u;cases u;simp only[fu,(G x j).1]at g;exact g<|alone x o u;exact absurd rfl a;simp only[iC,vB,zI]at d;obtain⟨rfl,rfl⟩:=d;have y:=D _ _ _ l;obtain⟨h,p⟩:=apart c x y;refine⟨.inr ⟨f,v,c,rfl,y⟩,λw=>(by rw[w,A]at h;cases h),?_⟩;rintro((g|⟨k,m,r,d,z⟩)|g);simp[fu,h]at g;simp only[fu,vB,zI]at d;obtain⟨rfl,rfl⟩:=d;exact I c r x l z;simp[fu,h,p]at g;obtain a|⟨k,m,c,d,l⟩:=a;simp only[fu]at a;split at a;exact absurd rfl a;rename_i j;simp only[Ag,not_or,Bool.not_eq_true,beq_eq_false_iff_ne]at j;refine⟨.inl a,j.2,?_⟩;obtain⟨o,u⟩:=pH.1 a;rintro((g|⟨k,m,c,d,l⟩)|g);simp[iC,j.1.1]at g;simp only[iC,vB,zI]at d;obtain⟨rfl,rfl⟩:=d;rw[(apart c x<|D _ _ _ l).1]at u;cases u;simp[iC,j.1.2]at g;simp only[fu,vB,zI]at d;obtain⟨rfl,rfl⟩:=d;have y:=E _ _ _ l;obtain⟨h,p⟩:=apart c x y;refine⟨.inr ⟨f,v,c,rfl,y⟩,λw=>(by rw[w,A]at h;cases h),?_⟩;rintro((g|⟨k,m,r,d,z⟩)|g);simp[iC,h]at g;simp only[iC,vB,zI]at d;obtain⟨rfl,rfl⟩:=d;exact I r c x z l;simp[iC,h,p]at g;simp only[iC]at a;split at a;rename_i B;exact⟨(N6 a).elim (λn=>.inl<|.inl n) .inr,H x B⟩;exact absurd rfl a;simp only[fu]at a;split at a;rename_i B;exact⟨(N6 a).elim (λn=>.inl<|.inl n) .inr,H x B⟩;exact⟨.inr a,λw=>a<|aw w K⟩
end
abbrev Zp:Array Oper:= #[{dst:=some 4,op:=Op.box 93 (bz 1),type:=0,pos:= "pipe.go:43",after:= #[],guard:=none},{dst:=some 5,op:=Op.box 169 (bz 2),type:=0,pos:= "pipe.go:43",after:= #[],guard:=none},{dst:=some 6,op:=pB (qA (oD none 0 0)),type:=93,pos:= "pipe.go:43",after:= #[],guard:=none}]
abbrev Cg:Array Oper:= #[{dst:=some 7,op:=zD 272,type:=0,pos:= "pipe.go:44",after:= #[],guard:=none}]
abbrev Ch:Array Oper:= #[{dst:=some 15,op:=iI (bz 0),type:=100,pos:= "pipe.go:45",after:= #[],guard:=none},{dst:=some 16,op:=Rm (bz 15),type:=0,pos:= "pipe.go:45",after:= #[{on:=0,ground:=cY}],guard:=none},{dst:=some 17,op:=Rn 185 (bz 16) 0,type:=0,pos:= "pipe.go:45",after:= #[{on:=1,ground:=cY}],guard:=none},{dst:=some 18,op:=qm 182 (bz 17),type:=182,pos:= "pipe.go:45",after:= #[{on:=2,ground:=cY}],guard:=none},{dst:=some 19,op:=nE {callee:=zC JM,args:= #[bz 18],argTypes:= #[182]},type:=3,pos:= "pipe.go:45",after:= #[{on:=3,ground:=cY}],guard:=none},{dst:=some 20,op:=DJ JN 3 (qA (rI tA 1)) (bz 19) 3,type:=3,pos:= "pipe.go:45",after:= #[{on:=4,ground:=cY}],guard:=none},{dst:=some 21,op:=nE {callee:=nD (oG 149),args:= #[bz 7,bz 20],argTypes:= #[272,3]},type:=0,pos:= "pipe.go:45",after:= #[{on:=5,ground:=cY}],guard:=none}]
abbrev Zq:Array Oper:= #[{dst:=some 22,op:=Ro 274 (qA (rI tA 64)),type:=274,pos:= "pipe.go:46",after:= #[],guard:=none},{dst:=some 8,op:=zD 274,type:=0,pos:= "pipe.go:46",after:= #[],guard:=none},{dst:=none,op:=Ao 274 (bz 8) (bz 22),type:=0,pos:= "pipe.go:46",after:= #[{on:=1,ground:=cY},{on:=0,ground:=cY},{on:=0,ground:=gQ},{on:=1,ground:=gQ}],guard:=none}]
abbrev F7:Array Oper:= #[{dst:=some 23,op:=Rp (Fn.func 150) #[] #[bz 7,bz 8,bz 4],type:=1,pos:= "pipe.go:47",after:= #[],guard:=none},{dst:=none,op:=Op.go {callee:=nD (bz 23),args:= #[],argTypes:= #[]},type:=0,pos:= "pipe.go:47",after:= #[{on:=0,ground:=cY}],guard:=none}]
abbrev F8:Array Oper:= #[{dst:=some 24,op:=qm 274 (bz 8),type:=274,pos:= "pipe.go:51",after:= #[],guard:=none},{dst:=some 9,op:=pB (bz 24),type:=274,pos:= "pipe.go:51",after:= #[{on:=0,ground:=cY},{on:=0,ground:=gQ}],guard:=none}]
abbrev Zr:Array Oper:= #[{dst:=some 25,op:=iI (bz 0),type:=100,pos:= "pipe.go:52",after:= #[],guard:=none},{dst:=some 26,op:=Rm (bz 25),type:=0,pos:= "pipe.go:52",after:= #[{on:=0,ground:=cY}],guard:=none},{dst:=some 27,op:=Rn 185 (bz 26) 0,type:=0,pos:= "pipe.go:52",after:= #[{on:=1,ground:=cY}],guard:=none},{dst:=some 28,op:=qm 182 (bz 27),type:=182,pos:= "pipe.go:52",after:= #[{on:=2,ground:=cY}],guard:=none},{dst:=some 29,op:=nE {callee:=zC JM,args:= #[bz 28],argTypes:= #[182]},type:=3,pos:= "pipe.go:52",after:= #[{on:=3,ground:=cY}],guard:=none},{dst:=some 30,op:=iI (qA (rI tA 0)),type:=3,pos:= "pipe.go:52",after:= #[],guard:=none}]
abbrev Zs:Array Oper:= #[{dst:=some 31,op:=DJ Q9 3 (bz 30) (bz 29) 3,type:=0,pos:= "pipe.go:52",after:= #[],guard:=none}]
abbrev Zt:Array Oper:= #[{dst:=some 32,op:=Q8 182 (bz 28) (bz 30),type:=0,pos:= "pipe.go:52",after:= #[],guard:=none},{dst:=some 33,op:=qm 171 (bz 32),type:=171,pos:= "pipe.go:52",after:= #[{on:=0,ground:=cY}],guard:=none},{dst:=some 11,op:=zD 171,type:=0,pos:= "pipe.go:52",after:= #[],guard:=none},{dst:=none,op:=Ao 171 (bz 11) (bz 33),type:=0,pos:= "pipe.go:52",after:= #[{on:=2,ground:=cY},{on:=1,ground:=cY},{on:=0,ground:=gQ},{on:=1,ground:=gQ},{on:=2,ground:=gQ}],guard:=none}]
abbrev eZ:Array Oper:= #[{dst:=some 34,op:=iI (bz 9),type:=274,pos:= "pipe.go:53",after:= #[],guard:=none},{dst:=some 35,op:=Ro 274 (qA (rI tA 64)),type:=274,pos:= "pipe.go:53",after:= #[],guard:=none},{dst:=some 12,op:=zD 274,type:=0,pos:= "pipe.go:53",after:= #[],guard:=none},{dst:=some 13,op:=zD 274,type:=0,pos:= "pipe.go:53",after:= #[],guard:=none},{dst:=none,op:=Ao 274 (bz 12) (bz 34),type:=0,pos:= "pipe.go:53",after:= #[{on:=2,ground:=cY},{on:=0,ground:=cY},{on:=0,ground:=gQ},{on:=1,ground:=Ground.textOnly aeG},{on:=2,ground:=gQ},{on:=3,ground:=gQ}],guard:=none},{dst:=none,op:=Ao 274 (bz 13) (bz 35),type:=0,pos:= "pipe.go:53",after:= #[{on:=3,ground:=cY},{on:=1,ground:=cY},{on:=4,ground:=vd},{on:=0,ground:=gQ},{on:=1,ground:=gQ},{on:=2,ground:=gQ},{on:=3,ground:=gQ},{on:=4,ground:=gQ}],guard:=none}]
abbrev F4:Array Oper:= #[{dst:=some 36,op:=Rp (Fn.func 153) #[] #[bz 7,bz 11,bz 5,bz 12,bz 13],type:=1,pos:= "pipe.go:54",after:= #[],guard:=none},{dst:=none,op:=Op.go {callee:=nD (bz 36),args:= #[],argTypes:= #[]},type:=0,pos:= "pipe.go:54",after:= #[{on:=0,ground:=cY}],guard:=none}]
abbrev F5:Array Oper:= #[{dst:=some 37,op:=qm 274 (bz 13),type:=274,pos:= "pipe.go:58",after:= #[],guard:=none},{dst:=some 9,op:=pB (bz 37),type:=274,pos:= "pipe.go:58",after:= #[{on:=0,ground:=cY},{on:=0,ground:=gQ}],guard:=none}]
abbrev F6:Array Oper:= #[{dst:=some 38,op:=DJ JN 3 (bz 30) (qA (rI tA 1)) 3,type:=3,pos:= "pipe.go:52",after:= #[],guard:=none},{dst:=some 30,op:=iI (bz 38),type:=3,pos:= "pipe.go:52",after:= #[{on:=0,ground:=cY}],guard:=none}]
abbrev Ll:Code:=(rJ 1 ((bH 8 Zt false).seq ((bH 9 eZ true).seq ((bH 10 F4 false).seq (bH 11 F5 false))))).seq (bH 12 F6 false)
abbrev yD:Code:=(bH 7 Zs false).seq ((mX (bz 31) mY (u_ 0)).seq Ll)
abbrev Bj:Code:=(bH 13 CG false).seq CO
abbrev Fa:Code:=((bH 6 Zr false).seq (rJ 0 yD.loop)).seq Bj
abbrev BC:Code:=(bH 3 Zq false).seq ((bH 4 F7 false).seq ((bH 5 F8 false).seq Fa))
def dR(a s0 e s:Nat->Option bI):Prop:=(∀x o,a x=some o->e x=some o)∧∀x o,s0 x=some o->s x=some o
section
variable{e0 s0 e s:Nat->Option bI}{x b:Nat}{obj:bI}{C S:Nat->Bool}{tm:Ren×ag}
theorem dR.O:dR e0 s0 e0 s0:=⟨λ_ _ h=>h,λ_ _ h=>h⟩
theorem dR.B(h:dR e0 s0 e s)(a:e0 x=none):dR e0 s0 (λy=>if y=x then some obj else e y) s:=by
 refine⟨λy o a=>?_,h.2⟩;simp only;rw[if_neg (λb=>by grind)];exact h.1 y o a
theorem dR.I(h:dR e0 s0 e s)(a:∀y,C y=true∨S y=true∨y=b->e0 y=none)(a:∀y,S y=true->e y=none∨s0 y=none):dR e0 s0 (fu tm e s C S b).e (fu tm e s C S b).s:=by
 refine⟨λy o a=>?_,λy o a=>?_⟩;have c:=h.1 y o a;have d:C y=false:=aJ
 have f:S y=false:=aJ
 have g:(y==b)=false:=aJ
 simp only[fu,d,f,g];grind;have c:=h.2 y o a;simp[fu];grind
theorem sS(h:dR e0 s0 e s)(b:tP ⟨some (j,d),e,s⟩ x):e0 x=none∧s0 x=none:=by
 refine⟨?_,?_⟩
 ·cases a:e0 x with
  |none=>rfl
  |some o=>have:=h.1 x o a;rw[show e x=none from N_ b]at this;grind
 ·cases a:s0 x with
  |none=>rfl
  |some o=>have:=h.2 x o a;rw[show s x=none from N0 b]at this;grind
end
inductive vp(e0 s0:Nat->Option bI)(part lv:aq)(n wg b5:Nat)(j ka:Nat):aG->az->Prop
 |mk (g:Ren) (u:ag) (e s:Nat->Option bI) (x0 x1 x2 x3 x4 x6 x8 x10 x11 x12 x13 x14 x15 x16 x17 x18 x19 x20 x21 x22 x23 x24 x25 x26 x27 x31 x32 x33 x34 x35 x36 x37 x38 x39 x40 x41 x42:aq) (hK:dR e0 s0 e s) (h5:s b5=some (.cells #[part] 169 (0,0))) (h50:e0 b5=none∧s0 b5=none):
  vp e0 s0 part lv n wg b5 j ka ⟨some (g,u),e,s⟩ ((base 90).at ⟨#[x0,x1,x2,x3,x4,.pointer (some ⟨b5,0,none⟩),x6,.pointer (some ⟨wg,0,none⟩),x8,.chan (some ka),x10,x11,x12,x13,x14,x15,x16,x17,x18,x19,x20,x21,x22,x23,x24,x25,x26,x27,lv,.int .i64 n,.int .i64 j,x31,x32,x33,x34,x35,x36,x37,x38,x39,x40,x41,x42],[]⟩ [.code yD,.inLoop yD,.inBlock 0,.code Bj])
end
