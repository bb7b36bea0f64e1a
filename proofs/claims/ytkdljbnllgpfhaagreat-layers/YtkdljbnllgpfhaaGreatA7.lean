import Derived.Test.YtkdljbnllgpfhaaGreatA5
import Derived.Test.YtkdljbnllgpfhaaGreatA6
import Derived.Conc.SmallLaws
import Derived.Orders
import Derived.Conc.CompanyDraw
set_option maxRecDepth 100000
set_option maxHeartbeats 8000000
open Go.Operand renaming tmp→apH,const→apX,func→arp
open Go.Ground renaming data→apI,phase→apK,chain→arD
open Go.Conc renaming stepG_region_end→apQ,stepG_region→apR,stepG_seq→apU,mem_ofEvents→aqO,handedOver_app→asq,runT_crowd_go→ar2,noRace_append→ass,listed_nil→asA,Deaf_other→ara,Deaf→arf,woken_quitsD→asK,stepG_spawn→asM,stepG_block→aqE
open Go renaming Frame→aoz,Value→aad,World→aly,Goroutine→aqi,FuncId→alB,Program→alu,Obj→am2,runNT_add→aso,Trace→ap8,Addr→alA,TypeId→acs
open Go.Code renaming region→apN,block→aqj,ret→asJ
open Option.some renaming injEq→apx,inj→alN
open Go.Region renaming ready→asi,wanted→apY
open Prod.mk renaming injEq→ae
open Nat renaming not_lt_zero→asj,eq_zero_or_pos→arG,le_refl→agl,succ_ne_zero→asw,lt_irrefl→asB
open Go.MemOp renaming ofEvents→ap6
open Array renaming mem_append→aoi,getElem?_eq_some_iff→ad3,size_setIfInBounds→asp,mem_of_getElem?→arF,getElem?_push→alD,size_map→asy
open Go.Region.linearise renaming go→asl
open Option renaming map_eq_some_iff→ant,ne_none_iff_exists'→apO
open Go.Frame renaming enter→ao7
open Go.Callee renaming value→aro,builtin→apW
open Go.IntKind renaming i64→apt,wrap_i64→ast
open Go.Value renaming int→aqu
open Go.Op renaming move→ap1,assign→aqb,alloc→aqK,load→aqv,call→aqw,store→aqI,binOp→aqJ,fieldAddr→asD,nilCheck→asF,makeFunc→asG,makeChan→asH
open Bool renaming and_eq_true→anh,or_eq_true→asm,not_eq_true→asv
open Go.ConcR renaming loc_of_ofEvent→ark,wgBlock→asr,DC0→asu
open Go.Act renaming put→asn,eval→aqV
open Ne renaming symm→arz
open Go.Instr renaming makeChan→asx
open Go.World renaming setCell→amJ,cell?→alH
open Go.Builtin renaming len→asz
open Go.Loc renaming isMemory→asC
open Go.BinOp renaming add→asE
open Go.Conc.Goes renaming stop→aqN
open Go.Obj renaming cells→asI
open Go.Departure renaming lateStoresUnsure→asL
namespace Go.Upr
open Go.Conc
open Go.ConcN (upd upd_same upd_ne sumTo sumTo_upd get_map_set get_map_set_same)
structure Fm(P:alu)(F:alB→Bool)(r:bF)(gs:Array aqi)(w:aly)(t:ap8)(q:Nat→Nat):Prop where
 pos:0<gs.size
 old: ∀i g,0<i→gs[i]? =some g→QuitsD P (q i) (arf t i) g
 gsb: ∀op∈t,op.g<gs.size
 fits:r.Fits P F w
 clean: ∀said,¬Race said t
 own: ∀b,r.Own b→Kn t 0 b
 read: ∀b,r.s b≠none→NM t 0 b
 Hx:Dt t w.heap.size
 low: ∀op∈t,op.act.low w.heap.size
 norel: ∀op∈t,∀a,op.act≠ .mark (.release a)
 over:t.HandedOver
 d0:arf t 0=0
section
variable{P:alu}{F:alB→Bool}{r r1:bF}{gs:Array aqi}{w w1:aly}{t:ap8}{q:Nat→Nat}{sl:Option (Nat×Nat)}{fr:aoz}{cs:List aoz}
theorem Fm.at(h:Fm P F r gs w t q)(d:Nat):Fm P F r gs (w.at d) t q:=
 {h with fits:=h.fits.other (λ_ _=>rfl) (agl _),Hx:=h.Hx,low:=h.low}
theorem Fm.leave(h:Fm P F r gs w t q){i:Nat}(h0:0<i){g:aqi}(hg:gs[i]? =some g)(hrun:g.status= .running){a:aqi}(ha:gs[0]? =some a)(R6:a.status= .running):
  ∃gs' ops k,runT P (crowd gs w sl) i=(.next (crowd gs' w sl),ops)∧Fm P F r gs' w (t++ops) (upd q i k)∧gs'[0]? =some a∧gs'.size=gs.size∧sumTo gs.size (upd q i k)<sumTo gs.size q:=by
 have hq:=h.old i g h0 hg;have Km:(i==0)=false:=by simp;omega
 have hlt:i<gs.size:=(ad3.1 hg).1;cases hqi:q i with
 |zero=>rw[hqi]at hq;rw[hq.1]at hrun;cases hrun
 |succ k=>
  rw[hqi]at hq;rcases hq with⟨hf,_⟩|⟨_,g',es,s6,abh,hq'⟩
  ·rw[hf]at hrun;cases hrun
  have D6:=ar2 (P:=P) (sl:=sl) (i:=i) hg (by rw[Km];exact abh w);have np: ∀op∈ap6 i g.frame.fn g.frame.place es,op.g=i∧op.act.touch?=none∧(∀a,op.act≠ .mark (.release a))∧op.act.low w.heap.size:=by
   intro op hop;obtain⟨e,he,rfl⟩:=aqO hop;refine⟨rfl,touch_mute (s6 e he),λa ha=>?_,low_mute (s6 e he) _⟩;have:=s6 e he;rw[ark ha|>λhl=>show e.mute=false from by obtain⟨loc,wr,sy⟩:=e;dsimp only at hl;subst hl;rfl]at this;cases this
  have dne: ∀j,j≠i→arf (t++ap6 i g.frame.fn g.frame.place es) j=arf t j:=λj hj=>ara t (g':=i) (arz hj) _ λop hop=>(np op hop).1;refine⟨_,_,k,D6,⟨by simp;exact h.pos,λj y hj hy=>?_,λop hop=>?_,h.fits,λsaid=>?_,λb hb=>(h.own b hb).app λop hop x hx _=>?_,λb hb=>(h.read b hb).app λop hop x hx _ _=>?_,h.Hx.app λop hop x hx _ _=>?_,λop hop=>?_,λop hop=>?_,asq h.over λop hop=> .inr (np op hop).2.1,(dne 0 aj).trans h.d0⟩,?_,by simp,?_⟩
  ·by_cases e:j=i
   ·subst e;rw[get_map_set_same _ _ _ hlt]at hy;obtain rfl:=alN hy;rw[upd_same,Deaf_own];exact hq'
   ·rw[get_map_set _ _ _ _ (arz e)]at hy;obtain⟨y0,hy0,rfl⟩:=ant.1 hy;have hqj:=h.old j y0 hj hy0;rw[asK hqj,upd_ne _ _ e,dne j e];exact hqj
  ·simp only[asp,asy];rcases aoi.1 hop with h1|h1
   ·exact h.gsb op h1
   ·rw[(np op h1).1];exact hlt
  ·exact ass (h.clean said) (λop hop=>(np op hop).1) λ_ _ _ op hop b hb _=>by rw[(np op hop).2.1]at hb;cases hb
  ·rw[(np op hop).2.1]at hx;cases hx
  ·rw[(np op hop).2.1]at hx;cases hx
  ·rw[(np op hop).2.1]at hx;cases hx
  ·exact(aoi.1 hop).elim (h.low op) λh1=>(np op h1).2.2.2
  ·exact(aoi.1 hop).elim (h.norel op) λh1=>(np op h1).2.2.1
  ·rw[get_map_set _ _ _ _ aj,ha];exact congrArg some (my (again_running _ (.inl R6)))
  ·have:sumTo gs.size (upd q i k)+(k+1)=sumTo gs.size q+k:=by
    have:=sumTo_upd q k id hlt;simpa[hqi]using this
   omega
theorem Fm.F3(h:Fm P F r gs w t q){a:aqi}(ha:gs[0]? =some a)(R6:a.status= .running): ∀g∈gs,awake g:=by
 intro g hg;obtain⟨i,hi⟩:=Array.mem_iff_getElem?.1 hg;rcases arG i with rfl|h0
 ·rw[ha]at hi;cases hi;exact awake_of (.inl R6)
 ·exact awake_of ((h.old i g h0 hi).status.elim .inl λx=> .inr (.inr x))
theorem Fm.turn: ∀ (M:Nat) {gs:Array aqi} {w:aly} {t:ap8} {q:Nat→Nat} {sl:Option (Nat×Nat)} {a:aqi},sumTo gs.size q≤M→Fm P F r gs w t q→gs[0]? =some a→a.status= .running→
  ∃ (N:Nat) (gs':Array aqi) (w':aly) (t':ap8) (q':Nat→Nat) (sl' He:Option (Nat×Nat)) (d d':Nat),runNT P N (crowd gs w sl) t=(.next (crowd gs' w' sl'),t')∧Fm P F r gs' w' t' q'∧gs'[0]? =some a∧w'=w.at d'∧stepT P (crowd gs' w' sl')=runT P (crowd gs' (w'.at d) He) 0:=by
 intro M
 induction M with
 |zero=>
  intro gs w t q sl a hM h ha R6;obtain⟨i,g,d,sl',hg,hrun,hst⟩:=crowd_pick (P:=P) (w:=w) (sl:=sl) (h.F3 ha R6) ⟨0,a,ha,R6⟩;rcases arG i with rfl|h0
  ·exact⟨0,gs,w,t,q,sl,sl',d,w.drawn,rfl,h,ha,rfl,hst⟩
  ·obtain⟨_,_,_,_,_,_,_,hlt⟩:=h.leave (sl:=sl) h0 hg hrun ha R6;omega
 |succ M ih=>
  intro gs w t q sl a hM h ha R6;obtain⟨i,g,d,sl',hg,hrun,hst⟩:=crowd_pick (P:=P) (w:=w) (sl:=sl) (h.F3 ha R6) ⟨0,a,ha,R6⟩;rcases arG i with rfl|h0
  ·exact⟨0,gs,w,t,q,sl,sl',d,w.drawn,rfl,h,ha,rfl,hst⟩
  ·obtain⟨gs',ops,k,hr,h',ha',hsz,hlt⟩:=(h.at d).leave (sl:=sl') h0 hg hrun ha R6;obtain⟨N,W7,w2,t2,q2,He,sl3,d2,d3,i1,i2,i3,i4,i5⟩:=ih (sl:=sl') (by rw[hsz];omega) h' ha' R6;exact⟨N+1,W7,w2,t2,q2,He,sl3,d2,d3,by simp only[runNT,hst,hr];exact i1,i2,i3,i4,i5⟩
theorem Fm.Ae(h:Fm P F r gs w t q)(ha:gs[0]? =some (G fr cs)){fr1:aoz}{cs1:List aoz}{es:Array Event}(hgo:stepG P true (G fr cs) w= .go (G fr1 cs1) w1 es)(ho:Only r r1 w w1)(hf:r1.Fits P F w1)(he: ∀e∈es,Ku r1 e):
  ∃gs' ops,runT P (crowd gs w sl) 0=(.next (crowd gs' w1 sl),ops)∧Fm P F r1 gs' w1 (t++ops) q∧gs'[0]? =some (G fr1 cs1):=by
 have hrun:=ar2 (P:=P) (sl:=sl) (i:=0) ha (show stepG P (0==0) (G fr cs) w=_ from hgo);have hall: ∀op∈ap6 0 (G fr cs).frame.fn (G fr cs).frame.place es,op.g=0∧∀x,op.act.touch?=some x→x.kind= .plain∧∀b,iK b x.loc→r1.Own b∨(x.write=false∧r1.s b≠none):=by
  intro op hop;obtain⟨e,h1,rfl⟩:=aqO hop;exact⟨rfl,λx hx=>um (he e h1) hx⟩
 have kn: ∀b,r1.Own b→Kn t 0 b:=by
  intro b hb;rcases ho.fresh b hb with h1|h1
  ·exact h.own b h1
  ·intro j x hx hl;exact absurd (h.Hx j x hx b hl) aj
 have knw: ∀b,r1.s b≠none→NM t 0 b:=by
  intro b hb;obtain⟨o,hs⟩:=apO.1 hb;exact h.read b (by rw[ho.seen b o hs];simp)
 have hd: ∀j,arf (t++ap6 0 (G fr cs).frame.fn (G fr cs).frame.place es) j=arf t j:=by
  intro j;rcases arG j with rfl|h0
  ·rw[Deaf_own];exact deafBehind_still (λe h1=>⟨(qw (he e h1)).1,(qw (he e h1)).2.1⟩) _
  ·exact ara t (g':=0) aj _ λop hop=>(hall op hop).1
 refine⟨_,_,hrun,⟨by simp;exact h.pos,λj y hj hy=>?_,λop hop=>?_,hf,λsaid=>ass (h.clean said) (λop hop=>(hall op hop).1) λj a' ha' op hop x hx hc=>?_,λb hb=>(kn b hb).app λop hop x hx hl=>(hall op hop).1,λb hb=>(knw b hb).app λop hop x hx hl _=>(hall op hop).1,(h.Hx.mono ho.size).app λop hop x hx b hl=>?_,λop hop=>?_,λop hop=>?_,asq h.over λop hop=> .inl (hall op hop).1,(hd 0).trans h.d0⟩,get_map_set_same _ _ _ h.pos⟩
 ·rw[get_map_set _ _ _ _ aj]at hy;obtain⟨y0,hy0,rfl⟩:=ant.1 hy;have hqj:=h.old j y0 hj hy0;rw[asK hqj,hd];exact hqj
 ·simp only[asp,asy];rcases aoi.1 hop with h1|h1
  ·exact h.gsb op h1
  ·rw[(hall op h1).1];exact h.pos
 ·obtain⟨hloc,gJ,hwr,_⟩:=hc;obtain⟨_,h2⟩:=(hall op hop).2 x hx;have: ∃b,iK b a'.loc:=by
   cases hl:a'.loc with
   |cell ad=>exact⟨_,rfl⟩
   |obj o=>exact⟨_,rfl⟩
   |_=>rw[hl]at gJ;simp[asC]at gJ
  obtain⟨b,hb⟩:=this;rcases h2 b (hloc▸hb)with h3|⟨h3,h4⟩
  ·exact kn b h3 j a' ha' hb
  ·exact knw b h4 j a' ha' hb (hwr.resolve_right (by rw[h3];simp))
 ·rcases((hall op hop).2 x hx).2 b hl with h3|⟨_,h4⟩
  ·exact hf.lS (.inl h3)
  ·exact hf.lS (.inr h4)
 ·rcases aoi.1 hop with h1|h1
  ·exact MemAct.low_mono ho.size (h.low op h1)
  ·obtain⟨e,h2,rfl⟩:=aqO h1;exact O5 (he e h2) λb hb=>hf.lS hb
 ·rcases aoi.1 hop with h1|h1
  ·exact h.norel op h1
  ·obtain⟨e,h2,rfl⟩:=aqO h1;intro a' h3;exact(qw (he e h2)).2.2 a' (ark h3)
def Comes(P:alu)(F:alB→Bool)(r:bF)(fr:aoz)(cs:List aoz)(Q:bF→aoz→List aoz→Prop):Prop:=
 ∀ (gs:Array aqi) (w:aly) (sl:Option (Nat×Nat)) (t:ap8) (q:Nat→Nat),Fm P F r gs w t q→gs[0]? =some (G fr cs)→
  ∃ (N:Nat) (gs':Array aqi) (w':aly) (sl':Option (Nat×Nat)) (t':ap8) (q':Nat→Nat) (r':bF) (fr':aoz) (cs':List aoz),runNT P N (crowd gs w sl) t=(.next (crowd gs' w' sl'),t')∧Fm P F r' gs' w' t' q'∧gs'[0]? =some (G fr' cs')∧Q r' fr' cs'∧
   w'.tape=w.tape∧w'.os=w.os∧w'.output=w.output
theorem Comes.here{Q:bF→aoz→List aoz→Prop}(h:Q r fr cs):Comes P F r fr cs Q:=λgs w sl t q hf hg=>⟨0,gs,w,sl,t,q,r,fr,cs,rfl,hf,hg,h,rfl,rfl,rfl⟩
theorem Comes.bind{Q Q':bF→aoz→List aoz→Prop}(h:Comes P F r fr cs Q)(hk: ∀r fr cs,Q r fr cs→Comes P F r fr cs Q'):Comes P F r fr cs Q':=by
 intro gs w sl t q hf hg;obtain⟨N,gs1,w1,sl1,t1,q1,r1,fr1,cs1,i1,i2,i3,i4,i5,i6,i7⟩:=h gs w sl t q hf hg;obtain⟨N',W7,w2,He,t2,q2,r2,fr2,cs2,j1,j2,j3,j4,j5,j6,j7⟩:=hk r1 fr1 cs1 i4 gs1 w1 sl1 t1 q1 i2 i3;exact⟨N+N',W7,w2,He,t2,q2,r2,fr2,cs2,by rw[aso,i1];exact j1,j2,j3,j4,j5.trans i5,j6.trans i6,j7.trans i7⟩
theorem Comes.mono{Q Q':bF→aoz→List aoz→Prop}(h:Comes P F r fr cs Q)(hk: ∀r fr cs,Q r fr cs→Q' r fr cs):Comes P F r fr cs Q':=h.bind λr fr cs hq=> .here (hk r fr cs hq)
theorem vV{N:Nat}{m m':Machine}{t t':ap8}{x:Stepped}{ops:ap8}(h:runNT P N m t=(.next m',t'))(hs:stepT P m'=(x,ops)):runNT P (N+1) m t=(x,t'++ops):=by
 rw[aso,h];simp only[runNT,hs];cases x<;>rfl
theorem Comes.RN{Q:bF→aoz→List aoz→Prop}(h:aK P true F Q r fr cs):Comes P F r fr cs Q:=by
 obtain⟨tr,h⟩:=h
 induction tr generalizing r fr cs with
 |leaf=>exact .here h
 |node c ih=>
  intro gs w sl t q hf hg;obtain⟨N,gs1,w1,t1,q1,sl1,He,d,d',i1,i2,i3,i4,i5⟩:=Fm.turn _ (sl:=sl) (agl _) hf hg rfl;obtain⟨fr2,cs2,w2,es,r2,j1,j2,j3,j4,j5⟩:=h (w1.at d) (i2.at d).fits;obtain⟨W7,ops,k1,k2,k3⟩:=(i2.at d).Ae (sl:=He) i3 j1 j3 j2 j4;obtain⟨N',gs3,w3,sl3,t3,q3,r3,fr3,cs3,l1,l2,l3,l4,l5,l6,l7⟩:=ih _ j5 W7 w2 He (t1++ops) q1 k2 k3;have e1:(w1.at d).tape=w.tape∧(w1.at d).os=w.os∧(w1.at d).output=w.output:=by rw[i4];exact⟨rfl,rfl,rfl⟩
  exact⟨N+1+N',gs3,w3,sl3,t3,q3,r3,fr3,cs3,by rw[aso,vV i1 (i5.trans k1)];exact l1,l2,l3,l4,l5.trans (j3.tape.trans e1.1),l6.trans (j3.os.trans e1.2.1),l7.trans (j3.output.trans e1.2.2)⟩
theorem Comes.ends{Q:bF→aoz→List aoz→Prop}{Post:aad→aly→Prop}(h:Comes P F r fr cs Q)
  (hend: ∀r' fr' cs',Q r' fr' cs'→∀w1,r'.Fits P F w1→w1.tape=w.tape→w1.os=w.os→w1.output=w.output→∃v es,stepG P true (G fr' cs') w1= .ended (.done v) w1 es∧(∀e∈es,Ku r' e)∧Post v w1)
  {sl:Option (Nat×Nat)} (hf:Fm P F r gs w t q) (hg:gs[0]? =some (G fr cs)):
  ∃N last o w' t',runNT P (N+1) (crowd gs w sl) t=(.ended o w',t')∧runN P N (crowd gs w sl)= .next last∧step P last= .ended o w'∧Go.Conc.Good P Post last o w' t':=by
 obtain⟨N1,gs1,w1,sl1,t1,q1,r1,fr1,cs1,i1,i2,i3,i4,i5,i6,i7⟩:=h gs w sl t q hf hg;obtain⟨N2,W7,w2,t2,q2,He,sl3,d,d',j1,j2,j3,j4,j5⟩:=Fm.turn _ (sl:=sl1) (agl _) i2 i3 rfl;have hf2:=j2.at d;obtain⟨v,es,k1,k2,k3⟩:=hend r1 fr1 cs1 i4 (w2.at d) hf2.fits (by rw[j4];exact i5) (by rw[j4];exact i6) (by rw[j4];exact i7);have D6:=runT_many_ended (P:=P) (sl:=sl3) (i:=0) j3 (show stepG P (0==0) (G fr1 cs1) (w2.at d)=_ from k1);have hrun:runNT P (N1+N2) (crowd gs w sl) t=(.next (crowd W7 w2 He),t2):=by rw[aso,i1];exact j1
 have hall: ∀op∈ap6 0 (G fr1 cs1).frame.fn (G fr1 cs1).frame.place es,op.g=0∧∀x,op.act.touch?=some x→x.kind= .plain∧∀b,iK b x.loc→r1.Own b∨(x.write=false∧r1.s b≠none):=by
  intro op hop;obtain⟨e,h1,rfl⟩:=aqO hop;exact⟨rfl,λx hx=>um (k2 e h1) hx⟩
 refine⟨N1+N2,crowd W7 w2 He,_,_,_,vV hrun (j5.trans D6),by rw[←runNT_fst P _ _ t,hrun],?_,v,rfl,k3,λsaid=>ass (hf2.clean said) (λop hop=>(hall op hop).1) λj a' ha' op hop x hx hc=>?_,asq hf2.over λop hop=> .inl (hall op hop).1,⟨λx hx=>?_,rfl⟩,λj x hx hj=>?_⟩
 ·have:=j5.trans D6;simp[step,this]
 ·obtain⟨hloc,gJ,hwr,_⟩:=hc;obtain⟨_,h2⟩:=(hall op hop).2 x hx;have: ∃b,iK b a'.loc:=by
   cases hl:a'.loc with
   |cell ad=>exact⟨_,rfl⟩
   |obj o=>exact⟨_,rfl⟩
   |_=>rw[hl]at gJ;simp[asC]at gJ
  obtain⟨b,hb⟩:=this;rcases h2 b (hloc▸hb)with h3|⟨h3,h4⟩
  ·exact hf2.own b h3 j a' ha' hb
  ·exact hf2.read b h4 j a' ha' hb (hwr.resolve_right (by rw[h3];simp))
 ·obtain⟨j,hj⟩:=List.mem_iff_getElem?.1 hx;rw[List.getElem?_drop]at hj;exact⟨_,(hf2.old (1+j) x aj (by simpa[crowd]using hj)).leaves⟩
 ·have hq:=hf2.old j x aj hx;refine⟨q2 j,?_⟩;have e:(t2++ap6 0 (G fr1 cs1).frame.fn (G fr1 cs1).frame.place es).deaf j (t2++ap6 0 (G fr1 cs1).frame.fn (G fr1 cs1).frame.place es).size=arf t2 j:=
   ara t2 (g:=j) (g':=0) aj _ λop hop=>(hall op hop).1
  rw[e];exact hq.hears _
end
end Go.Upr
section
namespace Go.Upr
open Go.Conc
open Go.ConcN (upd upd_same upd_ne sumTo WD CTag WSit WgLive ShN RelBy)
open Go.ConcR (KK WgAt wgBlock stA smA)
def rE:bF:=⟨none,λ_=>none,λ_=>none⟩
theorem Lv(b:Nat): ¬rE.Own b:=by
 rintro(h|⟨_,_,_,h,_⟩)
 ·exact h rfl
 ·cases h
theorem Lx(b:Nat): ¬rE.Has b:=λh=>h.elim (Lv b) λh=>h rfl
theorem YZ(P:alu)(F:alB→Bool)(w:aly):rE.Fits P F w:=⟨λ_ _ h=>(by cases h),λ_ _ h=>(by cases h),λ_ _ h=>(by cases h),λ_ _ h=>(by cases h),λ_ _ h=>(by cases h)⟩
section
variable{X:Pl}{r:bF}{gs:Array aqi}{w0 w:aly}{t:ap8}{q:Nat→Nat}{sl:Option (Nat×Nat)}{fr:aoz}{cs:List aoz}
theorem Fm.into(h:Fm X.P X.F r gs w t q)(hg:gs[0]? =some (G fr cs))(hw0:Dt t w0.heap.size)(hr0: ∀b,r.Has b→b<w0.heap.size)(ij:X.wg=w0.heap.size)(hb:w.heap[X.wg]? =some (wgBlock X.ty 0 0)){tr:Tr}(hw:Walk X.P true X.F (IG X) tr r fr cs):
  PI X ⟨gs.size,w.tape,w.os,w.output⟩ {c:=⟨λi=>if i=X.n+1 then r else rE,λ_=>none⟩,k:=λ_=>0,j:=0,D:=λ_=>⟨7,0,0⟩,q:=q,tag:= .kd,added:=false,dd:=0,μ:=λ_=>(0,0,.leaf),μs:=(2,9,tr),μr:=(0,0,.leaf)} gs w t:=by
 have rn:(λi=>if i=X.n+1 then r else rE) (X.n+1)=r:=if_pos rfl;have ro: ∀i,i≠X.n+1→(if i=X.n+1 then r else rE)=rE:=λi hi=>if_neg hi;have ahB: ¬r.Has X.wg:=λhh=>by have:=hr0 _ hh;omega
 refine{
  m0:=h.pos
  size:=rfl
  Sm:=Nat.zero_le _
  main:=⟨_,hg,by dsimp only;rw[if_pos rfl];exact .pre rfl hw⟩
  old:=λi g h0 _ hi=>h.old i g h0 hi
  wk:=λi hi=>absurd hi (asj _)
  off:=λi _ hi=>by dsimp only;rw[ro i hi];exact⟨Lx,rfl⟩
  stage:=λ_ _=>rfl
  XM:=λi=>⟨λh=>absurd rfl h,λh=>absurd h (asj _)⟩
  dp:=⟨λi=>?_,λi j b tX hb hb'=>?_,λ_ _ h=>(by cases h),λ_ _ h=>(by cases h),λ_ _ _ h=>(by cases h),λ_ _ _ _ h=>(by cases h),(ad3.1 hb).1,λi hb=>?_,λ_ _ h=>(by cases h),λ_ _ _ _ h=>(by cases h),λ_ _ _ _ _ _ h=>(by cases h)⟩
  told:=⟨h.clean,λi b hb=>?_,λi b hb=>?_,h.Hx⟩
  handed:=λ_ _ _ _ h=>(by cases h)
  XN:=λi hi=>absurd hi (asj _)
  items:=λi hi=>absurd hi (asj _)
  rT:=λi hi=>absurd hi (asw _)
  mI:=λi hi=>absurd hi (asj _)
  quiet:=λi op x hi hx hs=>?_
  norel:=h.norel
  low:=h.low
  gs:=h.gsb
  d0:=h.d0
  dW:=λi hi=>absurd hi (asj _)
  rel:=λi hi=>absurd hi (asj _)
  over:=λx g hx hne _ hc=>h.over x g hx hne hc
  acq:=λe=>(by cases e)
  wI:=⟨0,0,hb,.inl ⟨rfl,rfl,rfl⟩⟩
  tape:=rfl
  os:=rfl
  output:=rfl}
 ·dsimp only;by_cases e:i=X.n+1
  ·rw[if_pos e];exact h.fits
  ·rw[if_neg e];exact YZ ..
 ·dsimp only at hb hb';by_cases e:i=X.n+1
  ·rw[ro j aj]at hb';exact Lx _ hb'
  ·rw[ro i e]at hb;exact Lv _ hb
 ·dsimp only at hb;by_cases e:i=X.n+1
  ·rw[if_pos e]at hb;exact ahB hb
  ·rw[if_neg e]at hb;exact Lx _ hb
 ·dsimp only at hb;by_cases e:i=X.n+1
  ·subst e;rw[if_pos rfl]at hb;rw[u7];exact h.own b hb
  ·rw[if_neg e]at hb;exact absurd hb (Lv _)
 ·dsimp only at hb;by_cases e:i=X.n+1
  ·subst e;rw[if_pos rfl]at hb;rw[u7];exact h.read b hb
  ·rw[if_neg e]at hb;exact absurd rfl hb
 ·obtain⟨ad,hl,hb⟩:=hs;have:=hw0 i x (by rw[touchAt_of hi];exact hx) X.wg (by rw[hl];exact hb);omega
theorem PI.out{W:D1}{S:nY}(h:PI X W S gs w t)(H0:S.tag= .ret):Fm X.P X.F (S.c.r (X.n+1)) gs w t (λi=>if i<W.m then S.q i else(S.D (i- W.m)).fuel):=by
 have hm:=h.m0;obtain⟨a,ha,DL⟩:=h.main;obtain⟨hj,hdd⟩:S.j=X.n+1∧S.dd=0:=by
  generalize S.tag=tag at DL H0;generalize S.added=ad at DL;generalize S.dd=dd at DL⊢;generalize S.μs=μs at DL;generalize S.μr=μr at DL;subst H0;cases DL with
  |wait _ hj _ hw=>cases hw with|fin _=>exact⟨hj,rfl⟩
 obtain⟨st,sm,_,dv⟩:=h.mode (i:=0) aj;rw[H0]at dv;obtain⟨hq,_,_⟩:=dv.fin_inv trivial;have vE:=h.acq H0;refine⟨by rw[h.size];omega,λi g h0 hi=>?_,λop hop=>by rw[h.size];exact h.gs op hop,h.dp.fits _,h.told.clean,λb hb=>?_,λb hb=>?_,h.told.low,h.low,h.norel,λi g wD hne hc=>?_,h.d0.trans hdd⟩
 ·skip
  by_cases hlt:i<W.m
  ·rw[if_pos hlt];exact h.old i g h0 hlt hi
  ·rw[if_neg hlt];have hsz:=(ad3.1 hi).1;rw[h.size]at hsz;obtain⟨x,rfl⟩: ∃x,i=W.m+x:=⟨i- W.m,by omega⟩;obtain⟨g',jW,hs⟩:=h.wk x aj;obtain rfl:g=g':=by rw[hi]at jW;exact alN jW
   have h1:=hq x aj;rw[h.dW x aj,show W.m+x- W.m=x by omega];generalize S.D x=d at hs h1;generalize S.μ x=μ at hs;cases hs with
   |recv=>simp at h1
   |cf=>simp at h1
   |work=>simp at h1
   |send=>simp at h1
   |dD=>simp at h1
   |shut=>simp at h1
   |tail iu _=>
    obtain⟨ety,C,y,_,_,h2⟩:=iu;rcases h2 with⟨e,_⟩|⟨_,a2⟩
    ·omega
    ·obtain⟨s,fu,de⟩:=d;dsimp only at h1 a2⊢;subst h1;cases a2 with
     |quit hq=>exact hq
 ·have:=h.told.own (X.n+1) b hb;rwa [u7]at this
 ·have:=h.told.read (X.n+1) b hb;rwa [u7]at this
 ·by_cases hlt:g<W.m
  ·exact h.over i g wD hne hlt hc
  ·have ad0:=wD;unfold Trace.g? at ad0;obtain⟨op,hop,Sx⟩:=ant.1 ad0;have o8:=h.gs op (arF hop);obtain⟨p,k1,k2,k3,k4⟩:=vE;obtain⟨x,rfl⟩: ∃x,g=W.m+x:=⟨g- W.m,by omega⟩;obtain⟨rr,hr,hrq⟩:=k4 x aj
   have Al:HappensBefore t rr p:= .single (.inr ⟨.marked hrq (.inr hr.act) k1 (λk _ _ e=>by
    obtain⟨Xa,m_,hoa⟩:=ant.1 e
    exact h.norel Xa (arF m_) _ hoa),hr.heard,k3⟩)
   have hle:i≤rr:=Nat.le_of_not_lt λhlt=>hr.after i hlt wD hc;rcases Nat.lt_or_ge i rr with hlt|hge
   ·exact⟨p,k2,.trans (.single (.inl ⟨hlt,_,wD,hr.g⟩)) Al⟩
   ·obtain rfl:i=rr:=by omega
    exact⟨p,k2,Al⟩
end
theorem Comes.pipe{P:alu}{F:alB→Bool}{ty:acs}{r:bF}{fr:aoz}{cs cs1:List aoz}{fr1:Nat→aoz}{X:Nat→Pl}(hP: ∀g,(X g).P=P)(hF: ∀g,(X g).F=F)(hty: ∀g,(X g).ty=ty)(ij: ∀g,(X g).wg=g)(ok: ∀g,(X g).Ok)
  (hstep: ∀w,r.Fits P F w→stepG P true (G fr cs) w= .go (G (fr1 w.heap.size) cs1) {w with heap:=w.heap.push (wgBlock ty 0 0)} #[]) (Lc: ∀g,aK P true F (IG (X g)) r (fr1 g) cs1):
  Comes P F r fr cs λr' fr' cs'=>∃g,(X g).Fin r' fr' cs':=by
 intro gs w sl t q hf hg;obtain⟨N,gs1,w1,t1,q1,sl1,He,d,d',i1,i2,i3,i4,i5⟩:=Fm.turn _ (sl:=sl) (agl _) hf hg rfl;have Pz:=i2.at d;generalize hv:w1.at d=v at*;have hs:=hstep v Pz.fits;obtain⟨W7,ops,k1,k2,k3⟩:=Pz.Ae (sl:=He) i3 hs (r1:=r) ⟨rfl,rfl,rfl,by simp,λb hb _=>by rw[alD,if_neg aj],λ_ h=> .inl h,λ_ _ h=>h⟩
  (Pz.fits.other (λb hb=>by have:=Pz.fits.lS hb;rw[alD,if_neg aj]) bz) bz
 have fD:Dt (t1++ops) v.heap.size:=by
  have:ops= #[]:=by
   have:=ar2 (P:=P) (sl:=He) (i:=0) i3 (show stepG P (0==0) (G fr cs) v=_ from hs);rw[k1,eR]at this;exact(Prod.mk.inj this).2
  rw[this];simpa using Pz.Hx
 obtain⟨tr,hw⟩:=Lc v.heap.size;have e1:=hP v.heap.size;have e2:=hF v.heap.size;have e3:=hty v.heap.size;have e4:=ij v.heap.size;have okv:=ok v.heap.size;generalize hX:X v.heap.size=Y at*;subst e1 e2 e3;have hpi:=Fm.into (X:=Y) k2 k3 (w0:=v) fD (λb hb=>Pz.fits.lS hb) e4 (by rw[e4];simp) hw;obtain⟨N',S',gs3,w3,sl3,t3,a,j1,j2,j3,j4,j5⟩:=PI.runs okv _ W7 _ He _ hpi;obtain⟨fr',cs',rfl,K_⟩:=j5;have ev:v.tape=w.tape∧v.os=w.os∧v.output=w.output:=by rw[←hv,i4];exact⟨rfl,rfl,rfl⟩
 exact⟨N+1+N',gs3,w3,sl3,t3,_,_,fr',cs',by rw[aso,vV i1 (i5.trans k1)];exact j1,j2.out j4,j3,⟨_,by rw[hX];exact K_⟩,j2.tape.trans ev.1,j2.os.trans ev.2.1,j2.output.trans ev.2.2⟩
end Go.Upr
end
section
namespace Go.Proofs.YtkdljbnllgpfhaaGreat
open Go.Upr Go.Conc Go.Conc.Lib
open Go.ConcN (WgLive)
theorem xI{P:alu}{F:alB→Bool}{r:bF}{w:aly}{a:alA}{v:aad}(h:r.Fits P F w)(hn: ¬r.Has a.block):r.Fits P F (w.setCell a v):=by
 refine h.other (λb hb=>?_) (by simp[amJ]);have hne:a.block≠b:=λe=>hn (e▸hb);simp[amJ,Array.getElem?_modify,hne]
section
variable{X:Pl}{r:bF}{b₀:aoz}{a₀:Act}{ops₀:Array Oper}{i₀:Nat}{rest₀:List Nat}{k₀:List Item}{cs:List aoz}
theorem YD(hX:nM X)(aiN:X.Fin r (b₀.at (a₀.put ((ops₀[i₀]?).bind (·.dst)) (.tuple #[])) (.inRegion ops₀ rest₀::k₀)) cs):
  BU X r (ao7 Tryz.prog 156 #[.pointer (some ⟨X.wg,0,none⟩)] .normal) (b₀.at a₀ (.inRegion ops₀ (i₀::rest₀)::k₀)::cs):=by
 intro ij;have hR: ∀ {w w₁:aly},r.Fits X.P X.F w∧WgLive X.ty X.wg w→RM X.P X.F r X.ty X.wg w w₁→r.Fits X.P X.F w₁∧WgLive X.ty X.wg w₁:=λh hr=>⟨hr.1 h.1,hr.2 h.2⟩;have hS: ∀ (w:aly) (a:alA) (v:aad),a.block=X.wg→r.Fits X.P X.F w→r.Fits X.P X.F (w.setCell a v):=λw a v ha h=>xI h (ha▸ij);have hT: ∀w,r.Fits X.P X.F w→WgLive X.ty X.wg w→Goes X.P true (RM X.P X.F r X.ty X.wg) asu (ix X r) 0 (G (b₀.at (a₀.put ((ops₀[i₀]?).bind (·.dst)) (.tuple #[])) (.inRegion ops₀ rest₀::k₀)) cs) w:=
  λw _ _=>aqN λw₁ _=>⟨_,_,rfl,aiN⟩
 refine⟨Oe Ln (λw=>r.Fits X.P X.F w) X.wg (b₀.at a₀ (.inRegion ops₀ (i₀::rest₀)::k₀)) cs,3,λw hw jk=>?_,λg w h=>?_⟩
 ·rw[hX.P,hX.ty]at*;exact L8 NQ hR w ⟨hw,jk⟩
 ·refine⟨by obtain⟨T,rfl,_⟩:=h;rfl,?_⟩;rw[hX.P,hX.ty]at*;exact L9 NQ hR hS hT g w h
theorem adj(hX:nM X)(hn:X.n+1<2147483648)(hGo: ∃k,aK X.P true X.F (jB X (X.n+1) 0 k) r (b₀.at (a₀.put ((ops₀[i₀]?).bind (·.dst)) (.tuple #[])) (.inRegion ops₀ rest₀::k₀)) cs):
  IG X r (ao7 Tryz.prog 149 #[.pointer (some ⟨X.wg,0,none⟩),.int .i64 ((X.n+1:Nat):Int)] .normal) (b₀.at a₀ (.inRegion ops₀ (i₀::rest₀)::k₀)::cs):=by
 intro ij;have hR: ∀ {w w₁:aly},r.Fits X.P X.F w∧WgLive X.ty X.wg w→RM X.P X.F r X.ty X.wg w w₁→r.Fits X.P X.F w₁∧WgLive X.ty X.wg w₁:=λh hr=>⟨hr.1 h.1,hr.2 h.2⟩;have hS: ∀ (w:aly) (a:alA) (v:aad),a.block=X.wg→r.Fits X.P X.F w→r.Fits X.P X.F (w.setCell a v):=λw a v ha h=>xI h (ha▸ij);have hT: ∀w,r.Fits X.P X.F w→WgLive X.ty X.wg w→Goes X.P true (RM X.P X.F r X.ty X.wg) asu (Ib X r) 0 (G (b₀.at (a₀.put ((ops₀[i₀]?).bind (·.dst)) (.tuple #[])) (.inRegion ops₀ rest₀::k₀)) cs) w:=
  λw _ _=>aqN λw₁ _=>⟨_,_,rfl,hGo⟩
 refine⟨12,λw hw jk=>?_⟩;rw[hX.P,hX.ty]at*;exact RG NQ aj hn hR hS hT w ⟨hw,jk⟩
end
end Go.Proofs.YtkdljbnllgpfhaaGreat
end
section
namespace Go.Proofs.YtkdljbnllgpfhaaGreat
open Go.Upr Go.Conc Go.Conc.Lib
abbrev FP:Array Oper:= #[{dst:=some 39,op:=ap1 (apH 9),type:=274,pos:= "pipe.go:60",after:= #[],guard:=none},
 {dst:=some 40,op:=aqw {callee:=aro (arp 155),args:= #[apH 39],argTypes:= #[354]},type:=93,pos:= "pipe.go:60",after:= #[{on:=0,ground:=apI}],guard:=none},
 {dst:=some 14,op:=aqb (apH 40),type:=93,pos:= "pipe.go:60",after:= #[{on:=1,ground:=apI},{on:=1,ground:=arD},{on:=0,ground:=apK},{on:=1,ground:=apK}],guard:=none}]
abbrev Uc:Array Oper:= #[{dst:=some 41,op:=aqw {callee:=aro (arp 156),args:= #[apH 7],argTypes:= #[272]},type:=0,pos:= "pipe.go:61",after:= #[],guard:=none}]
abbrev Ub:Array Oper:= #[{dst:=some 42,op:=ap1 (apH 14),type:=93,pos:= "pipe.go:62",after:= #[],guard:=none},
 {dst:=some 6,op:=aqb (apH 42),type:=93,pos:= "pipe.go:62",after:= #[{on:=0,ground:=apI},{on:=0,ground:=apK}],guard:=none}]
abbrev NT:Code:=(apN 14 Uc false).seq ((apN 15 Ub false).seq asJ)
inductive F_(F:alB→Bool)(Pre:Nat→List aad→Ren→aly→Prop)(K:(Nat→Option am2)→(Nat→Option am2)→Prop)(n:Nat)(c:aoz)(cs:List aoz):bF→aoz→List aoz→Prop
 |mk (e s:Nat→Option am2) (f0 f:Ren) (v0 v:aly) (s0 s':aad) (xs:List dU) (x0 x1 x2 x3 x4 x5 x6 x7 x8 x9 rP zV zq zo zn zm zk zi zh zg zf AE AD ze zb y_ y9 EZ EY EX Bb Ba A_ y8 y7 AB y6 yZ EW zU yY yX:aad) (hK:K e s)
  (nj:Pre n (xs.map dU.val) f0 v0) (hle:f0.le f) (hg:Grown v0 v) (hd:PH f v) (hG:wH v s0 xs) (hr:aA F f s0 s') (jg: ∀ad n cp,s0= .slice (some ad) n cp→v0.heap.size≤ad.block):
  F_ F Pre K n c cs ⟨some (f,v),e,s⟩ ((base 90).at ⟨#[x0,x1,x2,x3,x4,x5,x6,x7,x8,x9,rP,zV,zq,zo,s',zn,zm,zk,zi,zh,zg,zf,AE,AD,ze,zb,y_,y9,EZ,EY,EX,Bb,Ba,A_,y8,y7,AB,y6,yZ,EW,zU,yY,yX],[]⟩ [.inRegion Uc [],.code ((apN 15 Ub false).seq asJ)]) (c::cs)
inductive BV(F:alB→Bool)(K:(Nat→Option am2)→(Nat→Option am2)→Prop)(wg:Nat)(c:aoz)(cs:List aoz)(a:Nat):List aad→bF→aoz→List aoz→Prop
 |mk (e s:Nat→Option am2) (x0 x1 x2 x3 x4 x5 x6 x8 x9 rP zV zq zo Bc zn zm zk zi zh zg zf AE AD ze zb y_ y9 EZ EY EX Bb Ba A_ y8 y7 AB y6 yZ zU yY yX:aad) (hK:K e s) {ys:List aad} {r:bF} {fr:aoz} {cs':List aoz}
  (h:tq F a e s ((base 90).at ⟨#[x0,x1,x2,x3,x4,x5,x6,.pointer (some ⟨wg,0,none⟩),x8,x9,rP,zV,zq,zo,Bc,zn,zm,zk,zi,zh,zg,zf,AE,AD,ze,zb,y_,y9,EZ,EY,EX,Bb,Ba,A_,y8,y7,AB,y6,yZ,.chan (some a),zU,yY,yX],[]⟩ [.inRegion FP [1,2],.code NT]) (c::cs) ys r fr cs'):BV F K wg c cs a ys r fr cs'
section
variable{X:Pl}{e s:Nat→Option am2}{K:(Nat→Option am2)→(Nat→Option am2)→Prop}{c:aoz}{cs:List aoz}
theorem ME(hX:nM X)(hA: ∀a,X.AM a=BV X.F K X.wg c cs a)(hF:X.Fin=F_ X.F X.Pre K X.n c cs)(a:Nat):Recvs X.P X.F (λ_=>a) X.Pre X.Item true X.n X.z (X.AM a) (BU X):=by
 rw[hX.P,hX.item,hX.z,hA];refine⟨λys r fr cs h w _=>?_,λys r fr cs x h hx=>?_,λys r fr cs f v h nj=>?_⟩
 ·cases h with
  |mk e s x0 x1 x2 x3 x4 x5 x6 x8 x9 rP zV zq zo Bc zn zm zk zi zh zg zf AE AD ze zb y_ y9 EZ EY EX Bb Ba A_ y8 y7 AB y6 yZ zU yY yX hK h=>exact El h w
 ·cases h with
  |mk e s x0 x1 x2 x3 x4 x5 x6 x8 x9 rP zV zq zo Bc zn zm zk zi zh zg zf AE AD ze zb y_ y9 EZ EY EX Bb Ba A_ y8 y7 AB y6 yZ zU yY yX hK h=>exact(I0 hX.held h hx).mono λr fr cs h=> .mk e s _ _ _ _ _ _ _ _ _ _ _ _ _ _ _ _ _ _ _ _ _ _ _ _ _ _ _ _ _ _ _ _ _ _ _ _ _ _ _ _ _ hK h
 ·cases h with
  |mk e s x0 x1 x2 x3 x4 x5 x6 x8 x9 rP zV zq zo Bc zn zm zk zi zh zg zf AE AD ze zb y_ y9 EZ EY EX Bb Ba A_ y8 y7 AB y6 yZ zU yY yX hK h=>
  refine I2 h (hX.dom _ _ _ _ nj) λf' v1 s0 s' xs mL hn hle hg hd hG hr jg=>?_;subst mL;have FH:((base 90).at ⟨#[x0,x1,x2,x3,x4,x5,x6,.pointer (some ⟨X.wg,0,none⟩),x8,x9,rP,zV,zq,zo,Bc,zn,zm,zk,zi,zh,zg,zf,AE,AD,ze,zb,y_,y9,EZ,EY,EX,Bb,Ba,A_,y8,y7,AB,y6,yZ,.chan (some a),zU,yY,yX],[]⟩ [.inRegion FP [1,2],.code NT]).finish s'=(base 90).at ⟨#[x0,x1,x2,x3,x4,x5,x6,.pointer (some ⟨X.wg,0,none⟩),x8,x9,rP,zV,zq,zo,Bc,zn,zm,zk,zi,zh,zg,zf,AE,AD,ze,zb,y_,y9,EZ,EY,EX,Bb,Ba,A_,y8,y7,AB,y6,yZ,.chan (some a),s',yY,yX],[]⟩ [.inRegion FP [2],.code NT]:=rfl;rw[FH];refine aK.pure s' rfl rfl (base_kind _) (λw=>by simp[go_sem]) (λw=>by simp[go_sem]) ?_;walk_nrm;refine aK.ctl (λw=>apQ) ?_;refine aK.ctl (λw=>apU) ?_;refine aK.ctl (λw=>apR) ?_;refine kX (f:=156) (vals:= #[.pointer (some ⟨X.wg,0,none⟩)]) rfl rfl (base_kind _) rfl Tryz.func156 rfl rfl (by simp[aqV]) ?_;refine .stop (YD hX ?_);rw[hF];exact .mk e s f f' v v1 s0 s' xs _ _ _ _ _ _ _ _ _ _ _ _ _ _ _ _ _ _ _ _ _ _ _ _ _ _ _ _ _ _ _ _ _ _ _ _ _ _ _ _ _ _ hK nj hle hg hd hG hr jg
theorem YS{mb:Bool}{F:alB→Bool}{Pre:Nat→List aad→Ren→aly→Prop}{n:Nat}{Stop:bF→aoz→List aoz→Prop}{r:bF}{fr:aoz}{cs':List aoz}(h:F_ F Pre K n c cs r fr cs')
  (hs: ∀ (e s:Nat→Option am2) (f0 f:Ren) (v0 v:aly) (s0 s':aad) (xs:List dU),K e s→Pre n (xs.map dU.val) f0 v0→f0.le f→Grown v0 v→PH f v→wH v s0 xs→aA F f s0 s'→(∀ad n cp,s0= .slice (some ad) n cp→v0.heap.size≤ad.block)→aK Tryz.prog mb F Stop ⟨some (f,v),e,s⟩ (c.finish s') cs):
  aK Tryz.prog mb F Stop r fr cs':=by
 cases h with
 |mk e s f0 f v0 v s0 s' xs x0 x1 x2 x3 x4 x5 x6 x7 x8 x9 rP zV zq zo zn zm zk zi zh zg zf AE AD ze zb y_ y9 EZ EY EX Bb Ba A_ y8 y7 AB y6 yZ EW zU yY yX hK nj hle hg hd hG hr jg=>
 refine aK.ctl (λw=>apQ) ?_;refine aK.ctl (λw=>apU) ?_;refine aK.ctl (λw=>apR) ?_;refine aK.pure s' rfl rfl (base_kind _) (λw=>by simp[go_sem]) (λw=>by simp[go_sem]) ?_;walk_nrm;refine aK.pure s' rfl rfl (base_kind _) (λw=>by simp[go_sem]) (λw=>by simp[go_sem]) ?_;walk_nrm;refine aK.ctl (λw=>apQ) ?_;refine aK.ctl (λw=>stepG_ret') ?_;exact aK.ctl (λw=>stepG_leave rfl rfl Tryz.func90 (by simp[go_sem,results]) (by simp[go_sem,results])) (hs e s f0 f v0 v s0 s' xs hK nj hle hg hd hG hr jg)
end
end Go.Proofs.YtkdljbnllgpfhaaGreat
end
namespace Go.Proofs.YtkdljbnllgpfhaaGreat
open Go.Upr Go.Conc
section
variable{P:alu}{mb:Bool}{F:alB→Bool}{Stop:bF→aoz→List aoz→Prop}{r:bF}{c:aoz}{cs:List aoz}{b:aoz}{a:Act}{k:List Item}{ops:Array Oper}{i:Nat}{rest:List Nat}{o:Oper}
def Off(r:bF)(x:Nat):Prop:=¬r.Has x
theorem Vk{w:aly}(h:r.Fits P F w):Off r w.heap.size:=λhh=>asB _ (h.lS hh)
theorem mz(obj:am2)(val:Nat→aad)(ho:ops[i]? =some o)(hw:apY o (yielded ops a.tmps)=true)(hk:b.kind≠ .early)
  (hr: ∀w:aly,(execOp a.eval o).run P w= .ok (.value (val w.heap.size)) {w with heap:=w.heap.push obj}∧(execOp a.eval o).events P w #[]= #[])
  (h: ∀x,Off r x→aK P mb F Stop (r.plus x obj) (b.at (a.put o.dst (val x)) (.inRegion ops rest::k)) cs):aK P mb F Stop r (b.at a (.inRegion ops (i::rest)::k)) cs:=by
 refine aK.turn ho hw hk λw hf=>?_;obtain⟨h1,h2⟩:=hr w;exact⟨_,_,_,r.plus w.heap.size obj,h1,.inl rfl,(by rw[h2];simp),hf.push rfl,.push rfl rfl rfl rfl,h _ (Vk hf)⟩
theorem uo{blk:Nat}{x y:aad}{ety:acs}(ho:ops[i]? =some o)(hw:apY o (yielded ops a.tmps)=true)(hk:b.kind≠ .early)(hb:r.e blk=some (.cells #[y] ety (0,0)))
  (hr: ∀w:aly,w.cell? ⟨blk,0,none⟩=some y→w.frozen? ⟨blk,0,none⟩=false→(execOp a.eval o).run P w= .ok .skip (w.setCell ⟨blk,0,none⟩ x)∧(execOp a.eval o).events P w #[]= #[⟨.cell ⟨blk,0,none⟩,true,false⟩])
  (h:aK P mb F Stop (r.plus blk (.cells #[x] ety (0,0))) (b.at (a.put o.dst undef) (.inRegion ops rest::k)) cs):aK P mb F Stop r (b.at a (.inRegion ops (i::rest)::k)) cs:=by
 refine aK.turn ho hw hk λw hf=>?_;have hc:w.heap[blk]? =some (.cells #[y] ety (0,0)):=hf.e _ _ hb;obtain⟨h1,h2⟩:=hr w (by simp[alH,hc]) (by simp[World.frozen?,hc]);have hh:(w.setCell ⟨blk,0,none⟩ x).heap=w.heap.setIfInBounds blk (.cells #[x] ety (0,0)):=by
  obtain⟨e1,_⟩:=eh (o:=0) x hc;rw[e1];rfl
 refine⟨_,undef,_,r.plus blk (.cells #[x] ety (0,0)),h1,.inr ⟨rfl,rfl⟩,λe he=>?_,hf.put hb hh,.put hb hh rfl rfl rfl,h⟩;rw[h2]at he;simp at he;subst he;exact⟨rfl,.inl (.inl (by simp[bF.plus]))⟩
theorem vU{blk off:Nat}{x:aad}{cc:Array aad}{ety:acs}{fz:Nat×Nat}(ho:ops[i]? =some o)(hw:apY o (yielded ops a.tmps)=true)(hk:b.kind≠ .early)
  (hb:r.e blk=some (.cells cc ety fz)∨r.s blk=some (.cells cc ety fz)) (hx:cc[off]? =some x)
  (hr: ∀w:aly,w.cell? ⟨blk,off,none⟩=some x→(execOp a.eval o).run P w= .ok (.value x) w∧(execOp a.eval o).events P w #[]= #[⟨.cell ⟨blk,off,none⟩,false,false⟩])
  (h:aK P mb F Stop r (b.at (a.put o.dst x) (.inRegion ops rest::k)) cs):aK P mb F Stop r (b.at a (.inRegion ops (i::rest)::k)) cs:=by
 refine .value x ho hw hk (λw hf=>?_) h;have hc:w.heap[blk]? =some (.cells cc ety fz):=hb.elim (hf.e _ _) (hf.s _ _);obtain⟨h1,h2⟩:=hr w (by simp[alH,hc,hx]);refine⟨h1,λe he=>?_⟩;rw[h2]at he;simp at he;subst he;exact⟨rfl,hb.elim (λh=> .inl (.inl (by rw[h];simp))) λh=> .inr ⟨rfl,by rw[h];simp⟩⟩
theorem jD{x:Nat}{obj:am2}:(r.plus x obj).e x=some obj:=by simp[bF.plus]
theorem qY{x y:Nat}{obj:am2}(h:y≠x):(r.plus x obj).e y=r.e y:=by simp[bF.plus,h]
theorem aat{x:Nat}(h:Off r x):r.e x=none:=by
 cases he:r.e x with
 |none=>rfl
 |some o=>exact absurd (.inl (.inl (by rw[he];simp))) h
theorem aas{x:Nat}(h:Off r x):r.s x=none:=by
 cases he:r.s x with
 |none=>rfl
 |some o=>exact absurd (.inr (by rw[he];simp)) h
theorem nH{x y:Nat}{o:am2}(h:Off r x)(hy:r.e y=some o):y≠x:=λe=>by rw[e,aat h]at hy;cases hy
theorem Vl{x y:Nat}{o:am2}(h:Off r x)(hy:r.s y=some o):y≠x:=λe=>by rw[e,aas h]at hy;cases hy
end
def fJ(tc:Ren×aly)(e s:Nat→Option am2)(C S:Nat→Bool):bF:=⟨some tc,λx=>if C x then e x else none,λx=>if S x then(e x).or (s x)else none⟩
def cG(tm:Ren×aly)(e s:Nat→Option am2)(C S:Nat→Bool)(b:Nat):bF:=⟨some tm,λx=>if C x||S x||x==b then none else e x,λx=>if S x then(e x).or (s x)else s x⟩
section
variable{X:Pl}{f:Ren}{v:aly}{e s:Nat→Option am2}{b:Nat}{C S:Nat→Bool}
theorem Ji{P:alu}{F:alB→Bool}{f:Ren}{v w:aly}(h:Fit P F f v w):Fit P F (λ_=>none) v w:=⟨λa x h=>by simp at h,h.big,λa x h=>by simp at h,λa a' x h=>by simp at h⟩
theorem or_some{x y:Option am2}{o:am2}(h:x.or y=some o):x=some o∨y=some o:=by cases x<;>simp_all
theorem aar{x y:Option am2}(h:x.or y≠none):x≠none∨y≠none:=by cases x<;>simp_all
theorem zO(hw: ∃w,(⟨some (f,v),e,s⟩:bF).Fits X.P X.F w)(hb:e b=some uS.obj)(hC: ∀x,C x=true→S x=false∧x≠b)(hS: ∀x,S x=true→x≠b)(qW:Bool):
  zD X ⟨some (f,v),e,s⟩ b (fJ (if qW then f else λ_=>none,v) e s C S) (cG (if qW then λ_=>none else f,v) e s C S b):=by
 obtain⟨w0,h0⟩:=hw;have apart: ∀a x,f a=some x→e x=none∧s x=none:=λa x h=>h0.apart f v rfl a x h;have alone: ∀x o,e x=some o→s x=none:=h0.alone;have ren: ∀ (t:Bool) a x,(if t then f else λ_=>none) a=some x→f a=some x:=by intro t a x h;cases t<;>simp_all
 have ren': ∀ (t:Bool) a x,(if t then λ_=>none else f) a=some x→f a=some x:=by intro t a x h;cases t<;>simp_all
 have one: ∀a a' x,(if qW then f else λ_=>none) a=some x→(if qW then λ_=>none else f) a'=some x→False:=by intro a a' x h h';cases qW<;>simp_all
 have hb0:s b=none:=alone b _ hb;refine⟨hb,λw hw=>⟨⟨?_,?_,?_,?_,?_⟩,⟨?_,?_,?_,?_,?_⟩⟩,λx hx=>?_,λx hx=>?_,λx hx=>?_,λx hx=>?_⟩
 ·intro f' v' he;simp only[fJ,apx,ae]at he;obtain⟨rfl,rfl⟩:=he;cases qW
  ·exact Ji (hw.tok f v rfl)
  ·exact hw.tok f v rfl
 ·intro x o hx;simp only[fJ]at hx;split at hx
  ·exact hw.e x o hx
  ·cases hx
 ·intro x o hx;simp only[fJ]at hx;split at hx
  ·exact(or_some hx).elim (hw.e x o) (hw.s x o)
  ·cases hx
 ·intro f' v' he a x hx;simp only[fJ,apx,ae]at he;obtain⟨rfl,rfl⟩:=he;obtain⟨h1,h2⟩:=apart a x (ren _ _ _ hx);simp[fJ,h1,h2]
 ·intro x o hx;simp only[fJ]at hx⊢;split at hx
  ·rename_i hc;simp[(hC x hc).1]
  ·cases hx
 ·intro f' v' he;simp only[cG,apx,ae]at he;obtain⟨rfl,rfl⟩:=he;cases qW
  ·exact hw.tok f v rfl
  ·exact Ji (hw.tok f v rfl)
 ·intro x o hx;simp only[cG]at hx;split at hx
  ·cases hx
  ·exact hw.e x o hx
 ·intro x o hx;simp only[cG]at hx;split at hx
  ·exact(or_some hx).elim (hw.e x o) (hw.s x o)
  ·exact hw.s x o hx
 ·intro f' v' he a x hx;simp only[cG,apx,ae]at he;obtain⟨rfl,rfl⟩:=he;obtain⟨h1,h2⟩:=apart a x (ren' _ _ _ hx);simp[cG,h1,h2]
 ·intro x o hx;simp only[cG]at hx⊢;split at hx
  ·cases hx
  ·rename_i hc;simp only[asm,not_or,asv]at hc;rw[hc.1.2];simpa using alone x o hx
 ·rcases hx with hx|⟨f',v',a,he,ha⟩
  ·simp only[fJ]at hx;split at hx
   ·rename_i hc;refine⟨.inl hx,(hC x hc).2,?_⟩;obtain⟨o,ho⟩:=apO.1 hx;rintro((hm|⟨f',v',a,he,ha⟩)|hm)
    ·simp[cG,hc]at hm
    ·simp only[cG,apx,ae]at he;obtain⟨rfl,rfl⟩:=he;rw[(apart a x (ren' _ _ _ ha)).1]at ho;cases ho
    ·simp only[cG,(hC x hc).1]at hm;exact hm (alone x o ho)
   ·exact absurd rfl hx
  ·simp only[fJ,apx,ae]at he;obtain⟨rfl,rfl⟩:=he;have hfa:=ren _ _ _ ha;obtain⟨h1,h2⟩:=apart a x hfa;refine⟨.inr ⟨f,v,a,rfl,hfa⟩,λe'=>(by rw[e',hb]at h1;cases h1),?_⟩;rintro((hm|⟨f',v',a',he,ha'⟩)|hm)
   ·simp[cG,h1]at hm
   ·simp only[cG,apx,ae]at he;obtain⟨rfl,rfl⟩:=he;exact one a a' x ha ha'
   ·simp[cG,h1,h2]at hm
 ·rcases hx with hx|⟨f',v',a,he,ha⟩
  ·simp only[cG]at hx;split at hx
   ·exact absurd rfl hx
   ·rename_i hc;simp only[asm,not_or,asv,beq_eq_false_iff_ne]at hc;refine⟨.inl hx,hc.2,?_⟩;obtain⟨o,ho⟩:=apO.1 hx;rintro((hm|⟨f',v',a,he,ha⟩)|hm)
    ·simp[fJ,hc.1.1]at hm
    ·simp only[fJ,apx,ae]at he;obtain⟨rfl,rfl⟩:=he;rw[(apart a x (ren _ _ _ ha)).1]at ho;cases ho
    ·simp[fJ,hc.1.2]at hm
  ·simp only[cG,apx,ae]at he;obtain⟨rfl,rfl⟩:=he;have hfa:=ren' _ _ _ ha;obtain⟨h1,h2⟩:=apart a x hfa;refine⟨.inr ⟨f,v,a,rfl,hfa⟩,λe'=>(by rw[e',hb]at h1;cases h1),?_⟩;rintro((hm|⟨f',v',a',he,ha'⟩)|hm)
   ·simp[fJ,h1]at hm
   ·simp only[fJ,apx,ae]at he;obtain⟨rfl,rfl⟩:=he;exact one a' a x ha' ha
   ·simp[fJ,h1,h2]at hm
 ·simp only[fJ]at hx;split at hx
  ·rename_i hs;exact⟨(aar hx).elim (λh=> .inl (.inl h)) .inr,hS x hs⟩
  ·exact absurd rfl hx
 ·simp only[cG]at hx;split at hx
  ·rename_i hs;exact⟨(aar hx).elim (λh=> .inl (.inl h)) .inr,hS x hs⟩
  ·exact⟨.inr hx,λe'=>hx (by rw[e'];exact hb0)⟩
end
abbrev af8:Array Oper:= #[{dst:=some 4,op:=Op.box 93 (apH 1),type:=0,pos:= "pipe.go:43",after:= #[],guard:=none},{dst:=some 5,op:=Op.box 169 (apH 2),type:=0,pos:= "pipe.go:43",after:= #[],guard:=none},{dst:=some 6,op:=aqb (apX (Value.slice none 0 0)),type:=93,pos:= "pipe.go:43",after:= #[],guard:=none}]
abbrev Ip:Array Oper:= #[{dst:=some 7,op:=aqK 272,type:=0,pos:= "pipe.go:44",after:= #[],guard:=none}]
abbrev Io:Array Oper:= #[{dst:=some 15,op:=ap1 (apH 0),type:=100,pos:= "pipe.go:45",after:= #[],guard:=none},{dst:=some 16,op:=asF (apH 15),type:=0,pos:= "pipe.go:45",after:= #[{on:=0,ground:=apI}],guard:=none},{dst:=some 17,op:=asD 185 (apH 16) 0,type:=0,pos:= "pipe.go:45",after:= #[{on:=1,ground:=apI}],guard:=none},{dst:=some 18,op:=aqv 182 (apH 17),type:=182,pos:= "pipe.go:45",after:= #[{on:=2,ground:=apI}],guard:=none},{dst:=some 19,op:=aqw {callee:=apW asz,args:= #[apH 18],argTypes:= #[182]},type:=3,pos:= "pipe.go:45",after:= #[{on:=3,ground:=apI}],guard:=none},{dst:=some 20,op:=aqJ asE 3 (apX (aqu apt 1)) (apH 19) 3,type:=3,pos:= "pipe.go:45",after:= #[{on:=4,ground:=apI}],guard:=none},{dst:=some 21,op:=aqw {callee:=aro (arp 149),args:= #[apH 7,apH 20],argTypes:= #[272,3]},type:=0,pos:= "pipe.go:45",after:= #[{on:=5,ground:=apI}],guard:=none}]
abbrev af7:Array Oper:= #[{dst:=some 22,op:=asH 274 (apX (aqu apt 64)),type:=274,pos:= "pipe.go:46",after:= #[],guard:=none},{dst:=some 8,op:=aqK 274,type:=0,pos:= "pipe.go:46",after:= #[],guard:=none},{dst:=none,op:=aqI 274 (apH 8) (apH 22),type:=0,pos:= "pipe.go:46",after:= #[{on:=1,ground:=apI},{on:=0,ground:=apI},{on:=0,ground:=apK},{on:=1,ground:=apK}],guard:=none}]
abbrev TG:Array Oper:= #[{dst:=some 23,op:=asG (Fn.func 150) #[] #[apH 7,apH 8,apH 4],type:=1,pos:= "pipe.go:47",after:= #[],guard:=none},{dst:=none,op:=Op.go {callee:=aro (apH 23),args:= #[],argTypes:= #[]},type:=0,pos:= "pipe.go:47",after:= #[{on:=0,ground:=apI}],guard:=none}]
abbrev TF:Array Oper:= #[{dst:=some 24,op:=aqv 274 (apH 8),type:=274,pos:= "pipe.go:51",after:= #[],guard:=none},{dst:=some 9,op:=aqb (apH 24),type:=274,pos:= "pipe.go:51",after:= #[{on:=0,ground:=apI},{on:=0,ground:=apK}],guard:=none}]
abbrev af6:Array Oper:= #[{dst:=some 25,op:=ap1 (apH 0),type:=100,pos:= "pipe.go:52",after:= #[],guard:=none},{dst:=some 26,op:=asF (apH 25),type:=0,pos:= "pipe.go:52",after:= #[{on:=0,ground:=apI}],guard:=none},{dst:=some 27,op:=asD 185 (apH 26) 0,type:=0,pos:= "pipe.go:52",after:= #[{on:=1,ground:=apI}],guard:=none},{dst:=some 28,op:=aqv 182 (apH 27),type:=182,pos:= "pipe.go:52",after:= #[{on:=2,ground:=apI}],guard:=none},{dst:=some 29,op:=aqw {callee:=apW asz,args:= #[apH 28],argTypes:= #[182]},type:=3,pos:= "pipe.go:52",after:= #[{on:=3,ground:=apI}],guard:=none},{dst:=some 30,op:=ap1 (apX (aqu apt 0)),type:=3,pos:= "pipe.go:52",after:= #[],guard:=none}]
abbrev af5:Array Oper:= #[{dst:=some 31,op:=aqJ BinOp.lss 3 (apH 30) (apH 29) 3,type:=0,pos:= "pipe.go:52",after:= #[],guard:=none}]
abbrev af4:Array Oper:= #[{dst:=some 32,op:=Op.indexAddr 182 (apH 28) (apH 30),type:=0,pos:= "pipe.go:52",after:= #[],guard:=none},{dst:=some 33,op:=aqv 171 (apH 32),type:=171,pos:= "pipe.go:52",after:= #[{on:=0,ground:=apI}],guard:=none},{dst:=some 11,op:=aqK 171,type:=0,pos:= "pipe.go:52",after:= #[],guard:=none},{dst:=none,op:=aqI 171 (apH 11) (apH 33),type:=0,pos:= "pipe.go:52",after:= #[{on:=2,ground:=apI},{on:=1,ground:=apI},{on:=0,ground:=apK},{on:=1,ground:=apK},{on:=2,ground:=apK}],guard:=none}]
abbrev fU:Array Oper:= #[{dst:=some 34,op:=ap1 (apH 9),type:=274,pos:= "pipe.go:53",after:= #[],guard:=none},{dst:=some 35,op:=asH 274 (apX (aqu apt 64)),type:=274,pos:= "pipe.go:53",after:= #[],guard:=none},{dst:=some 12,op:=aqK 274,type:=0,pos:= "pipe.go:53",after:= #[],guard:=none},{dst:=some 13,op:=aqK 274,type:=0,pos:= "pipe.go:53",after:= #[],guard:=none},{dst:=none,op:=aqI 274 (apH 12) (apH 34),type:=0,pos:= "pipe.go:53",after:= #[{on:=2,ground:=apI},{on:=0,ground:=apI},{on:=0,ground:=apK},{on:=1,ground:=Ground.textOnly asL},{on:=2,ground:=apK},{on:=3,ground:=apK}],guard:=none},{dst:=none,op:=aqI 274 (apH 13) (apH 35),type:=0,pos:= "pipe.go:53",after:= #[{on:=3,ground:=apI},{on:=1,ground:=apI},{on:=4,ground:=arD},{on:=0,ground:=apK},{on:=1,ground:=apK},{on:=2,ground:=apK},{on:=3,ground:=apK},{on:=4,ground:=apK}],guard:=none}]
abbrev LM:Array Oper:= #[{dst:=some 36,op:=asG (Fn.func 153) #[] #[apH 7,apH 11,apH 5,apH 12,apH 13],type:=1,pos:= "pipe.go:54",after:= #[],guard:=none},{dst:=none,op:=Op.go {callee:=aro (apH 36),args:= #[],argTypes:= #[]},type:=0,pos:= "pipe.go:54",after:= #[{on:=0,ground:=apI}],guard:=none}]
abbrev LK:Array Oper:= #[{dst:=some 37,op:=aqv 274 (apH 13),type:=274,pos:= "pipe.go:58",after:= #[],guard:=none},{dst:=some 9,op:=aqb (apH 37),type:=274,pos:= "pipe.go:58",after:= #[{on:=0,ground:=apI},{on:=0,ground:=apK}],guard:=none}]
abbrev LJ:Array Oper:= #[{dst:=some 38,op:=aqJ asE 3 (apH 30) (apX (aqu apt 1)) 3,type:=3,pos:= "pipe.go:52",after:= #[],guard:=none},{dst:=some 30,op:=ap1 (apH 38),type:=3,pos:= "pipe.go:52",after:= #[{on:=0,ground:=apI}],guard:=none}]
abbrev jl:Code:=(aqj 1 ((apN 8 af4 false).seq ((apN 9 fU true).seq ((apN 10 LM false).seq (apN 11 LK false))))).seq (apN 12 LJ false)
abbrev Iq:Code:=(apN 7 af5 false).seq ((Code.cond (apH 31) Code.skip (Code.exit 0)).seq jl)
abbrev IE:Code:=(apN 13 FP false).seq NT
abbrev TX:Code:=((apN 6 af6 false).seq (aqj 0 Iq.loop)).seq IE
abbrev IC:Code:=(apN 3 af7 false).seq ((apN 4 TG false).seq ((apN 5 TF false).seq TX))
def K0(e0 s0 e s:Nat→Option am2):Prop:=(∀x o,e0 x=some o→e x=some o)∧∀x o,s0 x=some o→s x=some o
section
variable{e0 s0 e s:Nat→Option am2}{x b:Nat}{obj:am2}{C S:Nat→Bool}{tm:Ren×aly}
theorem K0.refl:K0 e0 s0 e0 s0:=⟨λ_ _ h=>h,λ_ _ h=>h⟩
theorem K0.plus(h:K0 e0 s0 e s)(hx:e0 x=none):K0 e0 s0 (λy=>if y=x then some obj else e y) s:=by
 refine⟨λy o hy=>?_,h.2⟩;dsimp only;rw[if_neg (λe'=>by rw[e',hx]at hy;cases hy)];exact h.1 y o hy
theorem K0.Um(h:K0 e0 s0 e s)(hC: ∀y,C y=true∨S y=true∨y=b→e0 y=none)(hS: ∀y,S y=true→e y=none∨s0 y=none):K0 e0 s0 (cG tm e s C S b).e (cG tm e s C S b).s:=by
 refine⟨λy o hy=>?_,λy o hy=>?_⟩
 ·have h1:=h.1 y o hy;have n1:C y=false:=by cases hc:C y with|false=>rfl|true=>rw[hC y (.inl hc)]at hy;cases hy
  have n2:S y=false:=by cases hc:S y with|false=>rfl|true=>rw[hC y (.inr (.inl hc))]at hy;cases hy
  have n3:(y==b)=false:=by
   cases hc:(y==b)with
   |false=>rfl
   |true=>rw[hC y (.inr (.inr (by simpa using hc)))]at hy;cases hy
  simp only[cG,n1,n2,n3,Bool.or_false];exact h1
 ·have h1:=h.2 y o hy;simp only[cG];split
  ·rename_i hs;rcases hS y hs with h2|h2
   ·rw[h2];exact h1
   ·rw[h2]at hy;cases hy
  ·exact h1
theorem s7{f:Ren}{v:aly}(h:K0 e0 s0 e s)(hx:Off ⟨some (f,v),e,s⟩ x):e0 x=none∧s0 x=none:=by
 refine⟨?_,?_⟩
 ·cases hy:e0 x with
  |none=>rfl
  |some o=>have:=h.1 x o hy;rw[show e x=none from aat hx]at this;cases this
 ·cases hy:s0 x with
  |none=>rfl
  |some o=>have:=h.2 x o hy;rw[show s x=none from aas hx]at this;cases this
end
inductive yF(e0 s0:Nat→Option am2)(part lv:aad)(n wg b5:Nat)(j ka:Nat):bF→aoz→Prop
 |mk (g:Ren) (u:aly) (e s:Nat→Option am2) (x0 x1 x2 x3 x4 x6 x8 rP zV zq zo Bc zn zm zk zi zh zg zf AE AD ze zb y_ y9 Bb Ba A_ y8 y7 AB y6 yZ EW zU yY yX:aad) (hK:K0 e0 s0 e s) (h5:s b5=some (.cells #[part] 169 (0,0))) (h50:e0 b5=none∧s0 b5=none):
  yF e0 s0 part lv n wg b5 j ka ⟨some (g,u),e,s⟩ ((base 90).at ⟨#[x0,x1,x2,x3,x4,.pointer (some ⟨b5,0,none⟩),x6,.pointer (some ⟨wg,0,none⟩),x8,.chan (some ka),rP,zV,zq,zo,Bc,zn,zm,zk,zi,zh,zg,zf,AE,AD,ze,zb,y_,y9,lv,.int .i64 n,.int .i64 j,Bb,Ba,A_,y8,y7,AB,y6,yZ,EW,zU,yY,yX],[]⟩ [.code Iq,.inLoop Iq,.inBlock 0,.code IE])
end Go.Proofs.YtkdljbnllgpfhaaGreat
namespace Go.Proofs.YtkdljbnllgpfhaaGreat
open Go.Upr Go.Conc
open Go.ConcN (upd upd_same upd_ne)
theorem IK:Tryz.prog.underlying 274=some (.chan .both 156):=by kernel_rfl
theorem xG{ρ:Operand→aad}(w:aly){o:Oper}(ho:o.op= .makeChan 274 (.const (.int .i64 64)))(hc:ρ (.const (.int .i64 64))= .int .i64 64):(execOp ρ o).run Tryz.prog w= .ok (.value (.chan (some w.heap.size))) {w with heap:=w.heap.push uS.obj}∧(execOp ρ o).events Tryz.prog w #[]= #[]:=by
 obtain⟨i,hi,hz0,hz1,hz2⟩:=info_parts Gj;have h1:(asx 274 (.int .i64 64)).run Tryz.prog w= .ok (.chan (some w.heap.size)) (w.alloc (.chan 64 #[] false 0 0 false)):=run_makeChan (w:=w) IK hi .i64 64 aj (by rw[hz2];omega);have h2:(asx 274 (.int .i64 64)).events Tryz.prog w #[]= #[]:=events_makeChan (w:=w) IK hi .i64 64 aj (by rw[hz2];omega) #[];unfold execOp;rw[ho];dsimp only;rw[hc];simp[h1,h2];rfl
section
variable{X:Pl}{e0 s0 e s:Nat→Option am2}{c:aoz}{cs:List aoz}
theorem QA(hX:nM X){k:Nat→Nat}{f:Ren}{v:aly}{bs base' part:aad}{xs:List dU}{bp b4 b5 tp n:Nat}{pc:Array aad}{fz:Nat×Nat}{p_:Option alA}{cp:Nat}{x1 x2 x3 x6 x8 x9 rP zV zq zo Bc zn zm zk zi zh zg zf AE AD ze zb y_ y9 EZ EY EX Bb Ba A_ y8 y7 AB y6 yZ EW zU yY yX:aad}
  (hK:K0 e0 s0 e s) (h4:e b4=some (.cells #[base'] 93 (0,0))) (h5:e b5=some (.cells #[part] 169 (0,0))) (XG:b4≠b5) (h40:e0 b4=none∧s0 b4=none) (h50:e0 b5=none∧s0 b5=none) (R3:e0 bp=some (.cells pc tp fz)) (hpc:pc[0]? =some (.slice p_ n cp))
  (hn:xs.length≤1099511627776) (hp:X.Pre 0 (xs.map dU.val) f v) (hL:gN v bs xs) (hr:aA X.F f bs base')
  (aaG: ∀k0 r fr,yF e0 s0 part (.slice p_ n cp) n X.wg b5 0 k0 r fr→aK X.P true X.F (λr fr cs=>jB X X.n 1 (upd k 0 k0) r fr cs) r fr (c::cs)):
  aK X.P true X.F (jB X (X.n+1) 0 k) ⟨some (f,v),e,s⟩ ((base 90).at ⟨#[.pointer (some ⟨bp,0,none⟩),x1,x2,x3,.pointer (some ⟨b4,0,none⟩),.pointer (some ⟨b5,0,none⟩),x6,.pointer (some ⟨X.wg,0,none⟩),x8,x9,rP,zV,zq,zo,Bc,zn,zm,zk,zi,zh,zg,zf,AE,AD,ze,zb,y_,y9,EZ,EY,EX,Bb,Ba,A_,y8,y7,AB,y6,yZ,EW,zU,yY,yX],[]⟩ [.inRegion Io [],.code IC]) (c::cs):=by
 rw[hX.P]at aaG⊢;refine aK.ctl (λw=>apQ) ?_;refine aK.ctl (λw=>apU) ?_;refine aK.ctl (λw=>apR) ?_;refine mz uS.obj (λx=> .chan (some x)) rfl rfl (base_kind _) (λw=>xG w rfl rfl) λk0 hk0=>?_;walk_nrm;obtain⟨ek0,sk0⟩:=s7 hK hk0;have n4:b4≠k0:=nH hk0 h4;have n5:b5≠k0:=nH hk0 h5;refine mz (.cells #[.chan none] 274 (0,0)) (λx=> .pointer (some ⟨x,0,none⟩)) rfl rfl (base_kind _) (λw=>by simp[go_sem]) λb8 Fe=>?_;walk_nrm;have WY:=hK.plus (obj:=uS.obj) ek0;obtain⟨e8,s8⟩:=s7 WY Fe;have n84:b4≠b8:=nH (o:= .cells #[base'] 93 (0,0)) Fe (by rw[qY n4];exact h4);have n85:b5≠b8:=nH (o:= .cells #[part] 169 (0,0)) Fe (by rw[qY n5];exact h5);have n8k:k0≠b8:=nH (o:=uS.obj) Fe jD;refine uo (blk:=b8) (x:= .chan (some k0)) (y:= .chan none) (ety:=274) rfl rfl (base_kind _) jD (λw c0 f0=>by simp[go_sem,c0,f0]) ?_;walk_nrm;refine aK.ctl (λw=>apQ) ?_;refine aK.ctl (λw=>apU) ?_;refine aK.ctl (λw=>apR) ?_;refine aK.pure (.func (.func 150) #[] #[.pointer (some ⟨X.wg,0,none⟩),.pointer (some ⟨b8,0,none⟩),.pointer (some ⟨b4,0,none⟩)]) rfl rfl (base_kind _) (λw=>by simp[go_sem]) (λw=>by simp[go_sem]) ?_;walk_nrm;refine qs λhw=> .stop ?_
 let e3:Nat→Option Obj:=λy=>if y=b8 then some (.cells #[.chan (some k0)] 274 (0,0))else if y=b8 then some (.cells #[.chan none] 274 (0,0))else if y=k0 then some uS.obj else e y
 have hr3:(((⟨some (f,v),e,s⟩:bF).plus k0 uS.obj).plus b8 (.cells #[.chan none] 274 (0,0))).plus b8 (.cells #[.chan (some k0)] 274 (0,0))=⟨some (f,v),e3,s⟩:=rfl;rw[hr3]at hw⊢;have q8:e3 b8=some (.cells #[.chan (some k0)] 274 (0,0)):=if_pos rfl;have qk:e3 k0=some uS.obj:=by dsimp only[e3];rw[if_neg n8k,if_neg n8k,if_pos rfl]
 have qe: ∀y,y≠b8→y≠k0→e3 y=e y:=λy h1 h2=>by dsimp only[e3];rw[if_neg h1,if_neg h1,if_neg h2]
 have hK3:K0 e0 s0 e3 s:=((hK.plus (obj:=uS.obj) ek0).plus (obj:= .cells #[.chan none] 274 (0,0)) e8).plus (obj:= .cells #[.chan (some k0)] 274 (0,0)) e8
 let C:Nat→Bool:=λy=>y==b4
 let S:Nat→Bool:=λy=>y==b8||y==b5
 rw[←hX.P]at hw
 have pS:=zO (X:=X) (C:=C) (S:=S) hw qk (λx hx=>by
   have:x=b4:=by simpa[C]using hx
   subst this
   exact⟨by simp[S,n84,XG],n4⟩) (λx hx=>by
   have:x=b8∨x=b5:=by simpa[S]using hx
   rcases this with rfl|rfl
   ·exact λe'=>n8k e'.symm
   ·exact n5) true
 refine⟨k0,(base 90).at (asn ⟨#[.pointer (some ⟨bp,0,none⟩),x1,x2,x3,.pointer (some ⟨b4,0,none⟩),.pointer (some ⟨b5,0,none⟩),x6,.pointer (some ⟨X.wg,0,none⟩),.pointer (some ⟨b8,0,none⟩),x9,rP,zV,zq,zo,Bc,zn,zm,zk,zi,zh,zg,zf,.chan (some k0),.func (.func 150) #[] #[.pointer (some ⟨X.wg,0,none⟩),.pointer (some ⟨b8,0,none⟩),.pointer (some ⟨b4,0,none⟩)],ze,zb,y_,y9,EZ,EY,EX,Bb,Ba,A_,y8,y7,AB,y6,yZ,EW,zU,yY,yX],[]⟩ none undef) [.inRegion TG [],.code ((apN 5 TF false).seq TX)],c::cs,(born Tryz.prog (FX X.wg b8 b4)).frame,_,_,λw _=>?_,pS,λ_=>?_,λh=>absurd h (asB _),?_⟩
 ·rw[hX.P];have:=asM (P:=Tryz.prog) (main:=true) (b:=base 90) (ops:=TG) (i:=1) (rest:= []) (w:=w) (w':=w) (d:=FX X.wg b8 b4) (f:= .func 150) (c:= #[.pointer (some ⟨X.wg,0,none⟩),.pointer (some ⟨b8,0,none⟩),.pointer (some ⟨b4,0,none⟩)]) (a:=⟨#[.pointer (some ⟨bp,0,none⟩),x1,x2,x3,.pointer (some ⟨b4,0,none⟩),.pointer (some ⟨b5,0,none⟩),x6,.pointer (some ⟨X.wg,0,none⟩),.pointer (some ⟨b8,0,none⟩),x9,rP,zV,zq,zo,Bc,zn,zm,zk,zi,zh,zg,zf,.chan (some k0),.func (.func 150) #[] #[.pointer (some ⟨X.wg,0,none⟩),.pointer (some ⟨b8,0,none⟩),.pointer (some ⟨b4,0,none⟩)],ze,zb,y_,y9,EZ,EY,EX,Bb,Ba,A_,y8,y7,AB,y6,yZ,EW,zU,yY,yX],[]⟩) (k:= [.code ((apN 5 TF false).seq TX)]) (cs:=c::cs) rfl rfl (base_kind _) (by simp[go_sem]) rfl;rw[this,asA (by simp[go_sem])];rfl
 ·refine Rf hX (b8:=b8) (b4:=b4) (.inr ?_) ?_ hn hp hL hr
  ·simp[S,q8]
  ·simp[C,qe b4 n84 n4,h4]
 ·rw[hX.P];walk_nrm;have m8:(cG (λ_=>none,v) e3 s C S k0).s b8=some (.cells #[.chan (some k0)] 274 (0,0)):=by simp[cG,S,q8]
  have m5:(cG (λ_=>none,v) e3 s C S k0).s b5=some (.cells #[part] 169 (0,0)):=by simp[cG,S,qe b5 n85 n5,h5]
  have mK:K0 e0 s0 (cG (λ_=>none,v) e3 s C S k0).e (cG (λ_=>none,v) e3 s C S k0).s:=hK3.Um (λy hy=>by
    have:y=b4∨(y=b8∨y=b5)∨y=k0:=by simpa[C,S]using hy
    rcases this with rfl|(rfl|rfl)|rfl
    ·exact h40.1
    ·exact e8
    ·exact h50.1
    ·exact ek0) (λy hy=>by
    have:y=b8∨y=b5:=by simpa[S]using hy
    rcases this with rfl|rfl
    ·exact .inr s8
    ·exact .inr h50.2)
  refine aK.ctl (λw=>apQ) ?_;refine aK.ctl (λw=>apU) ?_;refine aK.ctl (λw=>apR) ?_;refine mA (blk:=b8) (x:= .chan (some k0)) (ety:=274) rfl rfl (base_kind _) (.inr m8) (λw c0=>⟨by simp[go_sem,c0],by simp[go_sem,c0]⟩) ?_;walk_nrm;refine aK.pure (.chan (some k0)) rfl rfl (base_kind _) (λw=>by simp[go_sem]) (λw=>by simp[go_sem]) ?_;walk_nrm;refine aK.ctl (λw=>apQ) ?_;refine aK.ctl (λw=>apU) ?_;refine aK.ctl (λw=>apU) ?_;refine aK.ctl (λw=>apR) ?_;refine aK.pure (.pointer (some ⟨bp,0,none⟩)) rfl rfl (base_kind _) (λw=>by simp[go_sem]) (λw=>by simp[go_sem]) ?_;walk_nrm;refine aK.pure (.pointer (some ⟨bp,0,none⟩)) rfl rfl (base_kind _) (λw=>by simp[go_sem]) (λw=>by simp[go_sem]) ?_;walk_nrm;refine aK.pure (.pointer (some ⟨bp,0,none⟩)) rfl rfl (base_kind _) (λw=>by simp[go_sem]) (λw=>by simp[go_sem]) ?_;walk_nrm;refine vU (blk:=bp) (off:=0) (x:= .slice p_ n cp) rfl rfl (base_kind _) (.inl (mK.1 _ _ R3)) hpc (λw c0=>⟨by simp[go_sem,c0],by simp[go_sem,c0]⟩) ?_;walk_nrm;refine aK.pure (.int .i64 n) rfl rfl (base_kind _) (λw=>by simp[go_sem]) (λw=>by simp[go_sem]) ?_;walk_nrm;refine aK.pure (.int .i64 (0:Nat)) rfl rfl (base_kind _) (λw=>by simp[go_sem]) (λw=>by simp[go_sem]) ?_;walk_nrm;refine aK.ctl (λw=>apQ) ?_;refine aK.ctl (λw=>aqE) ?_;refine aK.ctl (λw=>stepG_loop) ?_;exact aaG k0 _ _ (.mk _ _ _ _ _ _ _ _ _ _ _ _ _ _ _ _ _ _ _ _ _ _ _ _ _ _ _ _ _ _ _ _ _ _ _ _ _ _ _ _ _ mK m5 h50)
end
end Go.Proofs.YtkdljbnllgpfhaaGreat
namespace Go.Proofs.YtkdljbnllgpfhaaGreat
open Go.Upr Go.Conc
def Fx(d0 d1 d2 d3 d4 d5:Bool)(i:Nat):Bool:=(i==0&& !d0)||(i==1&& !d1)||(i==2&& !d2)||(i==3&& !d3)||(i==4&& !d4&&d0&&d2)||(i==5&& !d5&&d0&&d1&&d2&&d3&&d4)
noncomputable def ab6(d0 d1 d2 d3 d4 d5:Bool):Bool:=(!(asi .any fU #[d0,d1,d2,d3,d4,d5]).isEmpty||d5)&&(asi .any fU #[d0,d1,d2,d3,d4,d5]).all (Fx d0 d1 d2 d3 d4 d5)
theorem EM: ∀d0 d1 d2 d3 d4 d5:Bool,ab6 d0 d1 d2 d3 d4 d5=true:=by decide+kernel
theorem mixed:Tryz.prog.follows .mixedOrders=true:=by kernel_rfl
structure Lit(lit:aad→aad→aad→aad→Array aad)(ka:Nat):Prop where
 p12: ∀a b c d v,asn ⟨lit a b c d,[]⟩ (some 12) v=⟨lit v b c d,[]⟩
 p13: ∀a b c d v,asn ⟨lit a b c d,[]⟩ (some 13) v=⟨lit a v c d,[]⟩
 p34: ∀a b c d v,asn ⟨lit a b c d,[]⟩ (some 34) v=⟨lit a b v d,[]⟩
 p35: ∀a b c d v,asn ⟨lit a b c d,[]⟩ (some 35) v=⟨lit a b c v,[]⟩
 e9: ∀a b c d,(lit a b c d)[9]?.getD undef= .chan (some ka)
 e12: ∀a b c d,(lit a b c d)[12]?.getD undef=a
 e13: ∀a b c d,(lit a b c d)[13]?.getD undef=b
 e34: ∀a b c d,(lit a b c d)[34]?.getD undef=c
 e35: ∀a b c d,(lit a b c d)[35]?.getD undef=d
def KM(lit:aad→aad→aad→aad→Array aad)(ka:Nat)(e0 s0 s:Nat→Option am2)(g:Ren)(u:aly)(b11:Nat)(lay:aad)(d0 d1 d2 d3 d4 d5:Bool)(a:Act)(r:bF):Prop:=
 ∃ (e:Nat→Option am2) (a12 tY Hr a35:aad) (kb kI kz:Nat),a=⟨lit a12 tY Hr a35,[]⟩∧r=⟨some (g,u),e,s⟩∧K0 e0 s0 e s∧e b11=some (.cells #[lay] 171 (0,0))∧
  (d0=true→Hr= .chan (some ka))∧(d1=true→a35= .chan (some kb)∧e kb=some uS.obj∧e0 kb=none∧s0 kb=none)∧
  (d2=true→a12= .pointer (some ⟨kI,0,none⟩)∧e kI=some (.cells #[if d4 then .chan (some ka)else .chan none] 274 (0,0))∧e0 kI=none∧s0 kI=none)∧
  (d3=true→tY= .pointer (some ⟨kz,0,none⟩)∧e kz=some (.cells #[if d5 then .chan (some kb)else .chan none] 274 (0,0))∧e0 kz=none∧s0 kz=none)∧(d2=true→d3=true→kI≠kz)
section
variable{lit:aad→aad→aad→aad→Array aad}{ka:Nat}{e0 s0 s:Nat→Option am2}{g:Ren}{u:aly}{b11:Nat}{lay:aad}{d0 d1 d2 d3 d4 d5:Bool}{a:Act}{r:bF}
variable{F:alB→Bool}{Stop:bF→aoz→List aoz→Prop}{rest:List Nat}{k:List Item}{cs:List aoz}
theorem afa(L:Lit lit ka)(h:KM lit ka e0 s0 s g u b11 lay d0 d1 d2 d3 d4 d5 a r)(hs: ∀a' r',KM lit ka e0 s0 s g u b11 lay true d1 d2 d3 d4 d5 a' r'→aK Tryz.prog true F Stop r' ((base 90).at a' (.inRegion fU rest::k)) cs):
  aK Tryz.prog true F Stop r ((base 90).at a (.inRegion fU (0::rest)::k)) cs:=by
 obtain⟨e,a12,tY,Hr,a35,kb,kI,kz,rfl,rfl,hK,h11,h0,h1,h2,h3,hne⟩:=h;refine aK.pure (.chan (some ka)) rfl rfl (base_kind _) (λw=>by simp[go_sem,L.e9]) (λw=>by simp[go_sem]) ?_;exact hs _ _ ⟨e,a12,tY,.chan (some ka),a35,kb,kI,kz,L.p34 ..,rfl,hK,h11,λ_=>rfl,h1,h2,h3,hne⟩
theorem ae9(L:Lit lit ka)(h:KM lit ka e0 s0 s g u b11 lay d0 false d2 d3 d4 d5 a r)(hd:d5=false)(hs: ∀a' r',KM lit ka e0 s0 s g u b11 lay d0 true d2 d3 d4 d5 a' r'→aK Tryz.prog true F Stop r' ((base 90).at a' (.inRegion fU rest::k)) cs):
  aK Tryz.prog true F Stop r ((base 90).at a (.inRegion fU (1::rest)::k)) cs:=by
 obtain⟨e,a12,tY,Hr,a35,kb,kI,kz,rfl,rfl,hK,h11,h0,h1,h2,h3,hne⟩:=h;refine mz uS.obj (λx=> .chan (some x)) rfl rfl (base_kind _) (λw=>xG w rfl rfl) λx hx=>?_;obtain⟨ex,sx⟩:=s7 hK hx;have ne: ∀y o,e y=some o→(((⟨some (g,u),e,s⟩:bF).plus x uS.obj).e y)=some o:=λy o hy=>by rw[qY (nH hx hy)];exact hy
 subst hd;exact hs _ _ ⟨_,a12,tY,Hr,.chan (some x),x,kI,kz,L.p35 ..,rfl,hK.plus ex,ne _ _ h11,h0,λ_=>⟨rfl,jD,ex,sx⟩,λh=>⟨(h2 h).1,ne _ _ (h2 h).2.1,(h2 h).2.2⟩,λh=>⟨(h3 h).1,ne _ _ (h3 h).2.1,(h3 h).2.2⟩,hne⟩
theorem ae8(L:Lit lit ka)(h:KM lit ka e0 s0 s g u b11 lay d0 d1 false d3 d4 d5 a r)(hd:d4=false)(hs: ∀a' r',KM lit ka e0 s0 s g u b11 lay d0 d1 true d3 d4 d5 a' r'→aK Tryz.prog true F Stop r' ((base 90).at a' (.inRegion fU rest::k)) cs):
  aK Tryz.prog true F Stop r ((base 90).at a (.inRegion fU (2::rest)::k)) cs:=by
 obtain⟨e,a12,tY,Hr,a35,kb,kI,kz,rfl,rfl,hK,h11,h0,h1,h2,h3,hne⟩:=h;refine mz (.cells #[.chan none] 274 (0,0)) (λx=> .pointer (some ⟨x,0,none⟩)) rfl rfl (base_kind _) (λw=>by simp[go_sem]) λx hx=>?_;obtain⟨ex,sx⟩:=s7 hK hx;have ne: ∀y o,e y=some o→(((⟨some (g,u),e,s⟩:bF).plus x (.cells #[.chan none] 274 (0,0))).e y)=some o:=λy o hy=>by rw[qY (nH hx hy)];exact hy
 subst hd;exact hs _ _ ⟨_,.pointer (some ⟨x,0,none⟩),tY,Hr,a35,kb,x,kz,L.p12 ..,rfl,hK.plus ex,ne _ _ h11,h0,λh=>⟨(h1 h).1,ne _ _ (h1 h).2.1,(h1 h).2.2⟩,λ_=>⟨rfl,jD,ex,sx⟩,λh=>⟨(h3 h).1,ne _ _ (h3 h).2.1,(h3 h).2.2⟩,λ_ h=>(nH hx (h3 h).2.1).symm⟩
theorem ae7(L:Lit lit ka)(h:KM lit ka e0 s0 s g u b11 lay d0 d1 d2 false d4 d5 a r)(hd:d5=false)(hs: ∀a' r',KM lit ka e0 s0 s g u b11 lay d0 d1 d2 true d4 d5 a' r'→aK Tryz.prog true F Stop r' ((base 90).at a' (.inRegion fU rest::k)) cs):
  aK Tryz.prog true F Stop r ((base 90).at a (.inRegion fU (3::rest)::k)) cs:=by
 obtain⟨e,a12,tY,Hr,a35,kb,kI,kz,rfl,rfl,hK,h11,h0,h1,h2,h3,hne⟩:=h;refine mz (.cells #[.chan none] 274 (0,0)) (λx=> .pointer (some ⟨x,0,none⟩)) rfl rfl (base_kind _) (λw=>by simp[go_sem]) λx hx=>?_;obtain⟨ex,sx⟩:=s7 hK hx;have ne: ∀y o,e y=some o→(((⟨some (g,u),e,s⟩:bF).plus x (.cells #[.chan none] 274 (0,0))).e y)=some o:=λy o hy=>by rw[qY (nH hx hy)];exact hy
 subst hd;exact hs _ _ ⟨_,a12,.pointer (some ⟨x,0,none⟩),Hr,a35,kb,kI,x,L.p13 ..,rfl,hK.plus ex,ne _ _ h11,h0,λh=>⟨(h1 h).1,ne _ _ (h1 h).2.1,(h1 h).2.2⟩,λh=>⟨(h2 h).1,ne _ _ (h2 h).2.1,(h2 h).2.2⟩,λ_=>⟨rfl,jD,ex,sx⟩,λh _=>nH hx (h2 h).2.1⟩
theorem ae6(L:Lit lit ka)(h:KM lit ka e0 s0 s g u b11 lay true d1 true d3 false d5 a r)(hs: ∀a' r',KM lit ka e0 s0 s g u b11 lay true d1 true d3 true d5 a' r'→aK Tryz.prog true F Stop r' ((base 90).at a' (.inRegion fU rest::k)) cs):
  aK Tryz.prog true F Stop r ((base 90).at a (.inRegion fU (4::rest)::k)) cs:=by
 obtain⟨e,a12,tY,Hr,a35,kb,kI,kz,rfl,rfl,hK,h11,h0,h1,h2,h3,hne⟩:=h;obtain⟨rfl,h22,ex,sx⟩:=h2 rfl;have NI:=h0 rfl;subst NI;refine uo (blk:=kI) (x:= .chan (some ka)) (y:= .chan none) (ety:=274) rfl rfl (base_kind _) h22 (λw c0 f0=>by simp[go_sem,L.e12,L.e34,c0,f0]) ?_;have ne: ∀y o,y≠kI→e y=some o→(((⟨some (g,u),e,s⟩:bF).plus kI (.cells #[.chan (some ka)] 274 (0,0))).e y)=some o:=λy o hn hy=>by rw[qY hn];exact hy
 have n11:b11≠kI:=λe'=>by rw[e',h22]at h11;simp at h11
 refine hs _ _ ⟨_,.pointer (some ⟨kI,0,none⟩),tY,.chan (some ka),a35,kb,kI,kz,rfl,rfl,hK.plus ex,ne _ _ n11 h11,h0,λh=>⟨(h1 h).1,ne _ _ (λe'=>?_) (h1 h).2.1,(h1 h).2.2⟩,λ_=>⟨rfl,jD,ex,sx⟩,λh=>⟨(h3 h).1,ne _ _ (λe'=>hne rfl h e'.symm) (h3 h).2.1,(h3 h).2.2⟩,hne⟩;have:=(h1 h).2.1;rw[e',h22]at this;simp[Ch.obj]at this
theorem ae5(L:Lit lit ka)(h:KM lit ka e0 s0 s g u b11 lay true true true true true false a r)(hs: ∀a' r',KM lit ka e0 s0 s g u b11 lay true true true true true true a' r'→aK Tryz.prog true F Stop r' ((base 90).at a' (.inRegion fU rest::k)) cs):
  aK Tryz.prog true F Stop r ((base 90).at a (.inRegion fU (5::rest)::k)) cs:=by
 obtain⟨e,a12,tY,Hr,a35,kb,kI,kz,rfl,rfl,hK,h11,h0,h1,h2,h3,hne⟩:=h;obtain⟨rfl,ky,e12,s12⟩:=h1 rfl;obtain⟨rfl,h33,ex,sx⟩:=h3 rfl;obtain⟨rfl,h22,XK,s22⟩:=h2 rfl;refine uo (blk:=kz) (x:= .chan (some kb)) (y:= .chan none) (ety:=274) rfl rfl (base_kind _) h33 (λw c0 f0=>by simp[go_sem,L.e13,L.e35,c0,f0]) ?_;have ne: ∀y o,y≠kz→e y=some o→(((⟨some (g,u),e,s⟩:bF).plus kz (.cells #[.chan (some kb)] 274 (0,0))).e y)=some o:=λy o hn hy=>by rw[qY hn];exact hy
 have n11:b11≠kz:=λe'=>by rw[e',h33]at h11;simp at h11
 have nk:kb≠kz:=λe'=>by rw[e',h33]at ky;simp[Ch.obj]at ky
 exact hs _ _ ⟨_,.pointer (some ⟨kI,0,none⟩),.pointer (some ⟨kz,0,none⟩),Hr,.chan (some kb),kb,kI,kz,rfl,rfl,hK.plus ex,ne _ _ n11 h11,h0,λ_=>⟨rfl,ne _ _ nk ky,e12,s12⟩,λ_=>⟨rfl,ne _ _ (hne rfl rfl) h22,XK,s22⟩,λ_=>⟨rfl,jD,ex,sx⟩,hne⟩
theorem Zh{d0 d1 d2 d3 d4 d5:Bool}{i:Nat}(hi:i∈asi .any fU #[d0,d1,d2,d3,d4,d5]):Fx d0 d1 d2 d3 d4 d5 i=true:=by
 have h:=EM d0 d1 d2 d3 d4 d5;unfold ab6 at h;rw[anh]at h;exact List.all_eq_true.1 h.2 i hi
theorem ZP{d0 d1 d2 d3 d4 d5:Bool}(hi:asi .any fU #[d0,d1,d2,d3,d4,d5]= []):d5=true:=by
 have h:=EM d0 d1 d2 d3 d4 d5;unfold ab6 at h;rw[anh,hi]at h;simpa using h.1
def cnt(d0 d1 d2 d3 d4 d5:Bool):Nat:=(if d0 then 0 else 1)+(if d1 then 0 else 1)+(if d2 then 0 else 1)+(if d3 then 0 else 1)+(if d4 then 0 else 1)+(if d5 then 0 else 1)
theorem akd(L:Lit lit ka)(hs: ∀a' r',KM lit ka e0 s0 s g u b11 lay true true true true true true a' r'→aK Tryz.prog true F Stop r' ((base 90).at a' (.inRegion fU []::k)) cs):
  ∀ (fuel t:Nat) (d0 d1 d2 d3 d4 d5:Bool) (a:Act) (r:bF),cnt d0 d1 d2 d3 d4 d5=fuel→(d5=true→d0=true∧d1=true∧d2=true∧d3=true∧d4=true)→(d4=true→d0=true∧d2=true)→KM lit ka e0 s0 s g u b11 lay d0 d1 d2 d3 d4 d5 a r→
   aK Tryz.prog true F Stop r ((base 90).at a (.inRegion fU (asl .any fU fuel t #[d0,d1,d2,d3,d4,d5] [])::k)) cs:=by
 intro fuel
 induction fuel with
 |zero=>
  intro t d0 d1 d2 d3 d4 d5 a r hc h5 h4 h;have:d5=true:=by cases d5<;>simp[cnt]at hc⊢
  subst this;obtain⟨rfl,rfl,rfl,rfl,rfl⟩:=h5 rfl;simpa[asl]using hs a r h
 |succ fuel ih=>
  intro t d0 d1 d2 d3 d4 d5 a r hc h5 h4 h;simp only[asl]
  change aK Tryz.prog true F Stop r ((base 90).at a (.inRegion fU (match(asi .any fU #[d0,d1,d2,d3,d4,d5])[t % (asi .any fU #[d0,d1,d2,d3,d4,d5]).length]? with
   |some i=>asl .any fU fuel (t/ (asi .any fU #[d0,d1,d2,d3,d4,d5]).length) ((#[d0,d1,d2,d3,d4,d5]:Array Bool).setIfInBounds i true) [i]
   |none=> [].reverse)::k)) cs
  cases hi:(asi .any fU #[d0,d1,d2,d3,d4,d5])[t % (asi .any fU #[d0,d1,d2,d3,d4,d5]).length]? with
  |none=>
   have hnil:asi .any fU #[d0,d1,d2,d3,d4,d5]= []:=by
    cases hr:asi .any fU #[d0,d1,d2,d3,d4,d5]with
    |nil=>rfl
    |cons x xs=>
     rw[hr]at hi;have hlt:t % (x::xs).length<(x::xs).length:=Nat.mod_lt _ bz;simp at hi;simp at hlt;omega
   have:=ZP hnil;subst this;obtain⟨rfl,rfl,rfl,rfl,rfl⟩:=h5 rfl;simp[cnt]at hc
  |some i=>
   have hm:=Zh (List.mem_of_getElem? hi);simp only[];rw[linearise_go_acc,List.reverse_singleton,List.singleton_append];have h6:i=0∨i=1∨i=2∨i=3∨i=4∨i=5:=by
    simp only[Fx,asm,anh,beq_iff_eq]at hm;rcases hm with((((h|h)|h)|h)|h)|h
    ·exact .inl h.1
    ·exact .inr (.inl h.1)
    ·exact .inr (.inr (.inl h.1))
    ·exact .inr (.inr (.inr (.inl h.1)))
    ·exact .inr (.inr (.inr (.inr (.inl h.1.1.1))))
    ·exact .inr (.inr (.inr (.inr (.inr h.1.1.1.1.1.1))))
   rcases h6 with rfl|rfl|rfl|rfl|rfl|rfl
   ·have:d0=false:=by simpa[Fx]using hm
    subst this;exact afa L h λa' r' h'=>ih _ true d1 d2 d3 d4 d5 a' r' (by simp[cnt]at hc⊢;omega) (λe=>by have:=h5 e;simp at this) (λe=>by have:=h4 e;simp at this) h'
   ·have:d1=false:=by simpa[Fx]using hm
    subst this;have e5:d5=false:=by cases d5 with|false=>rfl|true=>have:=h5 rfl;simp at this
    exact ae9 L h e5 λa' r' h'=>ih _ d0 true d2 d3 d4 d5 a' r' (by simp[cnt]at hc⊢;omega) (λe=>by rw[e5]at e;cases e) h4 h'
   ·have:d2=false:=by simpa[Fx]using hm
    subst this;have e4:d4=false:=by cases d4 with|false=>rfl|true=>have:=h4 rfl;simp at this
    exact ae8 L h e4 λa' r' h'=>ih _ d0 d1 true d3 d4 d5 a' r' (by simp[cnt]at hc⊢;omega) (λe=>by have:=h5 e;simp at this) (λe=>by rw[e4]at e;cases e) h'
   ·have:d3=false:=by simpa[Fx]using hm
    subst this;have e5:d5=false:=by cases d5 with|false=>rfl|true=>have:=h5 rfl;simp at this
    exact ae7 L h e5 λa' r' h'=>ih _ d0 d1 d2 true d4 d5 a' r' (by simp[cnt]at hc⊢;omega) (λe=>by rw[e5]at e;cases e) h4 h'
   ·have:(d4=false∧d0=true)∧d2=true:=by simpa[Fx]using hm
    obtain⟨⟨rfl,rfl⟩,rfl⟩:=this;have e5:d5=false:=by cases d5 with|false=>rfl|true=>have:=h5 rfl;simp at this
    exact ae6 L h λa' r' h'=>ih _ true d1 true d3 true d5 a' r' (by simp[cnt]at hc⊢;omega) (λe=>by rw[e5]at e;cases e) (λ_=>⟨rfl,rfl⟩) h'
   ·have:((((d5=false∧d0=true)∧d1=true)∧d2=true)∧d3=true)∧d4=true:=by simpa[Fx]using hm
    obtain⟨⟨⟨⟨⟨rfl,rfl⟩,rfl⟩,rfl⟩,rfl⟩,rfl⟩:=this;exact ae5 L h λa' r' h'=>ih _ true true true true true true a' r' (by simp[cnt]at hc⊢;omega) (λ_=>⟨rfl,rfl,rfl,rfl,rfl⟩) (λ_=>⟨rfl,rfl⟩) h'
theorem YX(L:Lit lit ka){e:Nat→Option am2}{zq zo y8 y7:aad}(hK:K0 e0 s0 e s)(h11:e b11=some (.cells #[lay] 171 (0,0)))
  (hs: ∀a' r',KM lit ka e0 s0 s g u b11 lay true true true true true true a' r'→aK Tryz.prog true F Stop r' ((base 90).at a' (.inRegion fU []::k)) cs):
  aK Tryz.prog true F Stop ⟨some (g,u),e,s⟩ ((base 90).at ⟨lit zq zo y8 y7,[]⟩ (.code (.region 9 fU true)::k)) cs:=by
 refine .step λw hf=>⟨_,cs,{w with drawn:=w.drawn+1},#[],_,stepG_region_draw,hf.other (λ_ _=>rfl) (agl _),⟨rfl,rfl,rfl,agl _,λ_ _ _=>rfl,λ_ h=> .inl h,λ_ _ h=>h⟩,by simp,?_⟩;simp only[Region.schedule,mixed,Bool.true_or,if_true];exact akd L hs 6 _ false false false false false false _ _ rfl (λh=>by cases h) (λh=>by cases h) ⟨e,zq,zo,y8,y7,0,0,0,rfl,rfl,hK,h11,λh=>(by cases h),λh=>(by cases h),λh=>(by cases h),λh=>(by cases h),λh=>(by cases h)⟩
end
end Go.Proofs.YtkdljbnllgpfhaaGreat
namespace Go.Proofs.YtkdljbnllgpfhaaGreat
open Go.Upr Go.Conc
open Go.ConcN (upd upd_same upd_ne)
theorem C0(P:alu)(w:aly)(es:Array Event)(a:alA)(m:Mode)(t:acs)(x:aad):(store a (.iface t x) m).events P w es=storedEv P w es a (.iface t x) m:=events_store P w es a _ m rfl
section
variable{X:Pl}{e0 s0:Nat→Option am2}{c:aoz}{cs:List aoz}{part:aad}{p_:Option alA}{cp b5:Nat}
theorem VE(hX:nM X)(hAM: ∀a,X.AM a=BV X.F (K0 e0 s0) X.wg c cs a){k:Nat→Nat}{ka:Nat}{r:bF}{fr:aoz}(hk:k X.n=ka)(h:yF e0 s0 part (.slice p_ X.n cp) X.n X.wg b5 X.n ka r fr):
  aK X.P true X.F (λr fr cs=>jB X 0 (X.n+1) k r fr cs) r fr (c::cs):=by
 have e1:(λr fr cs=>jB X 0 (X.n+1) k r fr cs)=BV X.F (K0 e0 s0) X.wg c cs ka []:=by
  funext r fr cs';show X.AM (k X.n) [] r fr cs'=_;rw[hk,hAM]
 rw[e1,hX.P];cases h with
 |mk g u e s x0 x1 x2 x3 x4 x6 x8 rP zV zq zo Bc zn zm zk zi zh zg zf AE AD ze zb y_ y9 Bb Ba A_ y8 y7 AB y6 yZ EW zU yY yX hK h5 h50=>
 refine aK.ctl (λw=>apU) ?_;refine aK.ctl (λw=>apR) ?_;refine aK.pure (.bool false) rfl rfl (base_kind _) (λw=>by simp[go_sem]) (λw=>by simp[go_sem]) ?_;walk_nrm;refine aK.ctl (λw=>apQ) ?_;refine aK.ctl (λw=>apU) ?_;refine aK.ctl (λw=>stepG_cond (t:=false) rfl) ?_;simp only[Bool.false_eq_true,if_false];refine aK.ctl (λw=>stepG_exit (k':= [.code IE]) rfl) ?_;refine aK.ctl (λw=>apU) ?_;refine aK.ctl (λw=>apR) ?_;refine aK.pure (.chan (some ka)) rfl rfl (base_kind _) (λw=>by simp[go_sem]) (λw=>by simp[go_sem]) ?_;walk_nrm;refine kX (f:=155) (vals:= #[.chan (some ka)]) rfl rfl (base_kind _) rfl Tryz.func155 rfl rfl (by simp[aqV]) ?_;exact CB.mono λr fr cs h=> .mk e s _ _ _ _ _ _ _ _ _ _ _ _ _ _ _ _ _ _ _ _ _ _ _ _ _ _ _ _ _ _ _ _ _ _ _ _ _ _ _ _ _ hK h
theorem QY(hX:nM X)(hA: ∀i a b,X.A i a b=A9 X.F X.Pre X.wg i a b){k:Nat→Nat}{ka j q:Nat}{r:bF}{fr:aoz}{bl lo tl ty:Nat}{x:aad}{lc:Array aad}{Sh:Nat×Nat}(hj:j<X.n)(hk:k j=ka)(P0:p_=some ⟨bl,lo,none⟩)
  (hbl:e0 bl=some (.cells lc tl Sh)) (hlc:lc[lo+j]? =some (.iface ty x)) (Ix: ∀e s,nR X.F X.Pre (j+1) (.iface ty x) part e s)
  (N6: ∀kb r fr,yF e0 s0 part (.slice p_ X.n cp) X.n X.wg b5 (j+1) kb r fr→aK X.P true X.F (λr fr cs=>jB X q (j+2) (upd k (j+1) kb) r fr cs) r fr (c::cs)) (hsm:X.n+1<2147483648)
  (h:yF e0 s0 part (.slice p_ X.n cp) X.n X.wg b5 j ka r fr):
  aK X.P true X.F (λr fr cs=>jB X (q+1) (j+1) k r fr cs) r fr (c::cs):=by
 rw[hX.P]at N6⊢;cases h with
 |mk g u e s x0 x1 x2 x3 x4 x6 x8 rP zV zq zo Bc zn zm zk zi zh zg zf AE AD ze zb y_ y9 Bb Ba A_ y8 y7 AB y6 yZ EW zU yY yX hK h5 h50=>
 have ma:(j:Int)<X.n:=by omega
 refine aK.ctl (λw=>apU) ?_;refine aK.ctl (λw=>apR) ?_;refine aK.pure (.bool true) rfl rfl (base_kind _) (λw=>by simp[go_sem,ma]) (λw=>by simp[go_sem]) ?_;walk_nrm;refine aK.ctl (λw=>apQ) ?_;refine aK.ctl (λw=>apU) ?_;refine aK.ctl (λw=>stepG_cond (t:=true) rfl) ?_;simp only[if_true];refine aK.ctl (λw=>stepG_skip) ?_;refine aK.ctl (λw=>apU) ?_;refine aK.ctl (λw=>aqE) ?_;refine aK.ctl (λw=>apU) ?_;refine aK.ctl (λw=>apR) ?_;refine aK.pure (.pointer (some ⟨bl,lo+j,none⟩)) rfl rfl (base_kind _) (λw=>by simp[go_sem,P0,ma,Addr.add_lit]) (λw=>by simp[go_sem,P0,ma]) ?_;walk_nrm;refine vU (blk:=bl) (off:=lo+j) (x:= .iface ty x) rfl rfl (base_kind _) (.inl (hK.1 _ _ hbl)) hlc (λw c0=>⟨by simp[go_sem,c0],by simp[go_sem,c0]⟩) ?_;walk_nrm;refine mz (.cells #[.nilIface] 171 (0,0)) (λx=> .pointer (some ⟨x,0,none⟩)) rfl rfl (base_kind _) (λw=>by simp[go_sem]) λb11 aee=>?_;walk_nrm;obtain⟨e11,s11⟩:=s7 hK aee;have aht:b5≠b11:=Vl aee h5;refine uo (blk:=b11) (x:= .iface ty x) (y:= .nilIface) (ety:=171) rfl rfl (base_kind _) jD (λw c0 f0=>by simp[go_sem,c0,f0,C0,storedEv]) ?_;walk_nrm;refine aK.ctl (λw=>apQ) ?_;refine aK.ctl (λw=>apU) ?_;have hKb:=(hK.plus (obj:= .cells #[.nilIface] 171 (0,0)) e11).plus (obj:= .cells #[.iface ty x] 171 (0,0)) e11;refine YX (lit:=λa12 tY Hr a35=> #[x0,x1,x2,x3,x4,.pointer (some ⟨b5,0,none⟩),x6,.pointer (some ⟨X.wg,0,none⟩),x8,.chan (some ka),rP,.pointer (some ⟨b11,0,none⟩),a12,tY,Bc,zn,zm,zk,zi,zh,zg,zf,AE,AD,ze,zb,y_,y9,.slice p_ X.n cp,.int .i64 X.n,.int .i64 j,.bool true,.pointer (some ⟨bl,lo+j,none⟩),.iface ty x,Hr,a35,AB,y6,yZ,EW,zU,yY,yX]) (ka:=ka) (b11:=b11) (lay:= .iface ty x) ⟨λ_ _ _ _ _=>rfl,λ_ _ _ _ _=>rfl,λ_ _ _ _ _=>rfl,λ_ _ _ _ _=>rfl,λ_ _ _ _=>rfl,λ_ _ _ _=>rfl,λ_ _ _ _=>rfl,λ_ _ _ _=>rfl,λ_ _ _ _=>rfl⟩ hKb (if_pos rfl) λa' r' h'=>?_;obtain⟨e3,a12,tY,Hr,a35,kb,kI,kz,rfl,rfl,hK3,h11,_,h1,h2,h3,hne⟩:=h';obtain⟨rfl,qk,ek,sk⟩:=h1 rfl;obtain⟨rfl,q12,e12,s12⟩:=h2 rfl;obtain⟨rfl,WE,e13,s13⟩:=h3 rfl;simp only[if_true]at q12 WE;have hne:=hne rfl rfl;dsimp only;refine aK.ctl (λw=>apQ) ?_;refine aK.ctl (λw=>apU) ?_;refine aK.ctl (λw=>apR) ?_;refine aK.pure (.func (.func 153) #[] #[.pointer (some ⟨X.wg,0,none⟩),.pointer (some ⟨b11,0,none⟩),.pointer (some ⟨b5,0,none⟩),.pointer (some ⟨kI,0,none⟩),.pointer (some ⟨kz,0,none⟩)]) rfl rfl (base_kind _) (λw=>by simp[go_sem]) (λw=>by simp[go_sem]) ?_;walk_nrm;refine qs λhw=> .stop ?_;have akn:b11≠kI:=λe'=>by rw[e',q12]at h11;simp at h11
 have afZ:b11≠kz:=λe'=>by rw[e',WE]at h11;simp at h11
 have ahq:b11≠kb:=λe'=>by rw[e',qk]at h11;simp[Ch.obj]at h11
 have ahp:kI≠kb:=λe'=>by rw[e',qk]at q12;simp[Ch.obj]at q12
 have aho:kz≠kb:=λe'=>by rw[e',qk]at WE;simp[Ch.obj]at WE
 obtain⟨w0,hw0⟩:=hw;have X2: ∀y o,e3 y=some o→b5≠y:=λy o hy e'=>by
  have:=hw0.alone y o hy;rw[←e']at this;rw[show(⟨some (g,u),e3,s⟩:bF).s b5=some _ from h5]at this;cases this
 have ahs:=X2 _ _ q12;have akA:=X2 _ _ WE;have n5k:=X2 _ _ qk;have e5:e3 b5=none:=by
  cases h:e3 b5 with
  |none=>rfl
  |some o=>exact absurd rfl (X2 _ _ h)
 let C:Nat→Bool:=λy=>y==b11||y==kI
 let S:Nat→Bool:=λy=>y==kz||y==b5
 have pS:=zO (X:=X) (C:=C) (S:=S) ⟨w0,by rw[hX.P];exact hw0⟩ qk (λy hy=>by
   have:y=b11∨y=kI:=by simpa[C]using hy
   rcases this with rfl|rfl
   ·exact⟨by simp[S,afZ,arz aht],ahq⟩
   ·exact⟨by simp[S,hne,arz ahs],ahp⟩) (λy hy=>by
   have:y=kz∨y=b5:=by simpa[S]using hy
   rcases this with rfl|rfl
   ·exact aho
   ·exact n5k) false
 refine⟨kb,(base 90).at (asn ⟨#[x0,x1,x2,x3,x4,.pointer (some ⟨b5,0,none⟩),x6,.pointer (some ⟨X.wg,0,none⟩),x8,.chan (some ka),rP,.pointer (some ⟨b11,0,none⟩),.pointer (some ⟨kI,0,none⟩),.pointer (some ⟨kz,0,none⟩),Bc,zn,zm,zk,zi,zh,zg,zf,AE,AD,ze,zb,y_,y9,.slice p_ X.n cp,.int .i64 X.n,.int .i64 j,.bool true,.pointer (some ⟨bl,lo+j,none⟩),.iface ty x,Hr,.chan (some kb),.func (.func 153) #[] #[.pointer (some ⟨X.wg,0,none⟩),.pointer (some ⟨b11,0,none⟩),.pointer (some ⟨b5,0,none⟩),.pointer (some ⟨kI,0,none⟩),.pointer (some ⟨kz,0,none⟩)],y6,yZ,EW,zU,yY,yX],[]⟩ none undef) [.inRegion LM [],.code (.region 11 LK false),.inBlock 1,.code (.region 12 LJ false),.inLoop Iq,.inBlock 0,.code IE],c::cs,(born Tryz.prog (FN X.wg b11 b5 kI kz)).frame,_,_,λw _=>?_,pS,λh=>absurd h (asw _),λ_=>?_,?_⟩
 ·rw[hX.P];have:=asM (P:=Tryz.prog) (main:=true) (b:=base 90) (ops:=LM) (i:=1) (rest:= []) (w:=w) (w':=w) (d:=FN X.wg b11 b5 kI kz) (f:= .func 153) (c:= #[.pointer (some ⟨X.wg,0,none⟩),.pointer (some ⟨b11,0,none⟩),.pointer (some ⟨b5,0,none⟩),.pointer (some ⟨kI,0,none⟩),.pointer (some ⟨kz,0,none⟩)]) (a:=⟨#[x0,x1,x2,x3,x4,.pointer (some ⟨b5,0,none⟩),x6,.pointer (some ⟨X.wg,0,none⟩),x8,.chan (some ka),rP,.pointer (some ⟨b11,0,none⟩),.pointer (some ⟨kI,0,none⟩),.pointer (some ⟨kz,0,none⟩),Bc,zn,zm,zk,zi,zh,zg,zf,AE,AD,ze,zb,y_,y9,.slice p_ X.n cp,.int .i64 X.n,.int .i64 j,.bool true,.pointer (some ⟨bl,lo+j,none⟩),.iface ty x,Hr,.chan (some kb),.func (.func 153) #[] #[.pointer (some ⟨X.wg,0,none⟩),.pointer (some ⟨b11,0,none⟩),.pointer (some ⟨b5,0,none⟩),.pointer (some ⟨kI,0,none⟩),.pointer (some ⟨kz,0,none⟩)],y6,yZ,EW,zU,yY,yX],[]⟩) (k:= [.code (.region 11 LK false),.inBlock 1,.code (.region 12 LJ false),.inLoop Iq,.inBlock 0,.code IE]) (cs:=c::cs) rfl rfl (base_kind _) (by simp[go_sem]) rfl;rw[this,asA (by simp[go_sem])];rfl
 ·rw[hA,Nat.add_sub_cancel,hk];have g11:(fJ (if false=true then g else λ_=>none,u) e3 s C S).e b11=some (.cells #[.iface ty x] 171 (0,0)):=by simp[fJ,C,h11]
  have g12:(fJ (if false=true then g else λ_=>none,u) e3 s C S).e kI=some (.cells #[.chan (some ka)] 274 (0,0)):=by simp[fJ,C,q12]
  have g5:(fJ (if false=true then g else λ_=>none,u) e3 s C S).s b5=some (.cells #[part] 169 (0,0)):=by simp[fJ,S,e5,h5]
  have g13:(fJ (if false=true then g else λ_=>none,u) e3 s C S).s kz=some (.cells #[.chan (some kb)] 274 (0,0)):=by simp[fJ,S,WE]
  exact Qq hX g11 (.inr g5) (.inl g12) (.inr g13) (Ix _ _)
 ·rw[hX.P];walk_nrm;have m13:(cG (g,u) e3 s C S kb).s kz=some (.cells #[.chan (some kb)] 274 (0,0)):=by simp[cG,S,WE]
  have m5:(cG (g,u) e3 s C S kb).s b5=some (.cells #[part] 169 (0,0)):=by simp[cG,S,e5,h5]
  have mK:K0 e0 s0 (cG (g,u) e3 s C S kb).e (cG (g,u) e3 s C S kb).s:=hK3.Um (λy hy=>by
    have:(y=b11∨y=kI)∨(y=kz∨y=b5)∨y=kb:=by simpa[C,S]using hy
    rcases this with(rfl|rfl)|(rfl|rfl)|rfl
    ·exact e11
    ·exact e12
    ·exact e13
    ·exact h50.1
    ·exact ek) (λy hy=>by
    have:y=kz∨y=b5:=by simpa[S]using hy
    rcases this with rfl|rfl
    ·exact .inr s13
    ·exact .inr h50.2)
  refine aK.ctl (λw=>apQ) ?_;refine aK.ctl (λw=>apR) ?_;refine mA (blk:=kz) (x:= .chan (some kb)) (ety:=274) rfl rfl (base_kind _) (.inr m13) (λw c0=>⟨by simp[go_sem,c0],by simp[go_sem,c0]⟩) ?_;walk_nrm;refine aK.pure (.chan (some kb)) rfl rfl (base_kind _) (λw=>by simp[go_sem]) (λw=>by simp[go_sem]) ?_;walk_nrm;refine aK.ctl (λw=>apQ) ?_;refine aK.ctl (λw=>stepG_inBlock) ?_;refine aK.ctl (λw=>apR) ?_;refine aK.pure (.int .i64 ((j+1:Nat):Int)) rfl rfl (base_kind _) (λw=>?_) (λw=>by simp[go_sem]) ?_
  ·simp[go_sem];rw[ast];omega
  walk_nrm;refine aK.pure (.int .i64 ((j+1:Nat):Int)) rfl rfl (base_kind _) (λw=>by simp[go_sem]) (λw=>by simp[go_sem]) ?_;walk_nrm;refine aK.ctl (λw=>apQ) ?_;refine aK.ctl (λw=>stepG_inLoop) ?_;exact N6 kb _ _ (.mk _ _ _ _ _ _ _ _ _ _ _ _ _ _ _ _ _ _ _ _ _ _ _ _ _ _ _ _ _ _ _ _ _ _ _ _ _ _ _ _ _ mK m5 h50)
end
noncomputable def wW(F:alB→Bool)(Pre:Nat→List aad→Ren→aly→Prop)(e0 s0:Nat→Option am2)(c:aoz)(cs:List aoz)(n g:Nat):Pl:=
 {P:=Tryz.prog,F,n,ty:=272,wg:=g,z:=FJ,Pre,Item:=D_,A:=λi a b=>A9 F Pre g i a b,AM:=λa=>BV F (K0 e0 s0) g c cs a,Fin:=F_ F Pre (K0 e0 s0) n c cs}
structure vR(F:alB→Bool)(Pre:Nat→List aad→Ren→aly→Prop)(e0:Nat→Option am2)(part:aad)(p_:Option alA)(n:Nat):Prop where
 held:Held Tryz.prog F
 grow: ∀i xs f f' v v',Pre i xs f v→f.le f'→Grown v v'→(∃w,Fit Tryz.prog F f' v' w)→Pre i xs f' v'
 dom: ∀i xs f v,Pre i xs f v→PH f v
 small:n+1<2147483647
 lay: ∀j,j<n→∃ (bl lo tl ty:Nat) (x:aad) (lc:Array aad) (Sh:Nat×Nat),p_=some ⟨bl,lo,none⟩∧e0 bl=some (.cells lc tl Sh)∧lc[lo+j]? =some (.iface ty x)∧∀e s,nR F Pre (j+1) (.iface ty x) part e s
section
variable{F:alB→Bool}{Pre:Nat→List aad→Ren→aly→Prop}{e0 s0 e:Nat→Option am2}{c:aoz}{cs:List aoz}{part base' bs:aad}{p_:Option alA}{cp n:Nat}{f:Ren}{v:aly}{xs:List dU}{bp tp:Nat}{pc:Array aad}{fz:Nat×Nat}
theorem yB(hl:vR F Pre e0 part p_ n)(g:Nat):nM (wW F Pre e0 s0 c cs n g):=⟨rfl,rfl,rfl,hl.held,rfl,hl.grow,hl.dom⟩
theorem acK(hl:vR F Pre e0 part p_ n)(g:Nat):(wW F Pre e0 s0 c cs n g).Ok where
 aai:=λi a b _ _=>JM (yB hl g) (λ_ _ _=>rfl) i a b
 aaj:=λa=>ME (yB hl g) (λ_=>rfl) rfl a
 small:=hl.small
theorem MF(hl:vR F Pre e0 part p_ n){g b5:Nat}: ∀ (q j ka:Nat) (k:Nat→Nat) (r:bF) (fr:aoz),j+q=n→k j=ka→yF e0 s0 part (.slice p_ n cp) n g b5 j ka r fr→
  aK Tryz.prog true F (λr fr cs'=>jB (wW F Pre e0 s0 c cs n g) q (j+1) k r fr cs') r fr (c::cs):=by
 intro q
 induction q with
 |zero=>
  intro j ka k r fr hj hk h;obtain rfl:j=n:=by omega
  exact VE (X:=wW F Pre e0 s0 c cs j g) (yB hl g) (λ_=>rfl) hk h
 |succ q ih=>
  intro j ka k r fr hj hk h;obtain⟨bl,lo,tl,ty,x,lc,Sh,h1,h2,h3,h4⟩:=hl.lay j aj;exact QY (X:=wW F Pre e0 s0 c cs n g) (yB hl g) (λ_ _ _=>rfl) (q:=q) (show j<n by omega) hk h1 h2 h3 h4 (λkb r fr h=>ih (j+1) kb _ r fr aj (upd_same _ _ _) h) (by have:=hl.small;show n+1<_;omega) h
inductive Pr(e0 s0:Nat→Option am2)(f:Ren)(v:aly)(bp:Nat)(base' part:aad)(c:aoz)(cs:List aoz):bF→aoz→List aoz→Prop
 |mk (e:Nat→Option am2) (b4 b5:Nat) (x3 x6 x7 x8 x9 rP zV zq zo Bc zn zm zk zi zh zg zf AE AD ze zb y_ y9 EZ EY EX Bb Ba A_ y8 y7 AB y6 yZ EW zU yY yX:aad) (hK:K0 e0 s0 e s0) (h4:e b4=some (.cells #[base'] 93 (0,0))) (h5:e b5=some (.cells #[part] 169 (0,0))) (XG:b4≠b5) (h40:e0 b4=none∧s0 b4=none) (h50:e0 b5=none∧s0 b5=none):
  Pr e0 s0 f v bp base' part c cs ⟨some (f,v),e,s0⟩ ((base 90).at ⟨#[.pointer (some ⟨bp,0,none⟩),base',part,x3,.pointer (some ⟨b4,0,none⟩),.pointer (some ⟨b5,0,none⟩),x6,x7,x8,x9,rP,zV,zq,zo,Bc,zn,zm,zk,zi,zh,zg,zf,AE,AD,ze,zb,y_,y9,EZ,EY,EX,Bb,Ba,A_,y8,y7,AB,y6,yZ,EW,zU,yY,yX],[]⟩ [.inRegion Ip [0],.code ((apN 2 Io false).seq IC)]) (c::cs)
theorem QB{Pf:Fn}{p1 p2:Array aad}{bad:Option alA}{m bc:Nat}(Ix:part= .func Pf p1 p2)(hbase:base'= .slice bad m bc):
  aK Tryz.prog true F (Pr e0 s0 f v bp base' part c cs) ⟨some (f,v),e0,s0⟩ (ao7 Tryz.prog 90 #[.pointer (some ⟨bp,0,none⟩),base',part] .normal) (c::cs):=by
 have e1:ao7 Tryz.prog 90 #[.pointer (some ⟨bp,0,none⟩),base',part] .normal=(base 90).at ⟨#[.pointer (some ⟨bp,0,none⟩),base',part,undef,undef,undef,undef,undef,undef,undef,undef,undef,undef,undef,undef,undef,undef,undef,undef,undef,undef,undef,undef,undef,undef,undef,undef,undef,undef,undef,undef,undef,undef,undef,undef,undef,undef,undef,undef,undef,undef,undef,undef],[]⟩ [.code ((apN 0 af8 false).seq ((apN 1 Ip false).seq ((apN 2 Io false).seq IC)))]:=by
  unfold ao7;rw[Tryz.func90]
  kernel_rfl
 rw[e1];refine aK.ctl (λw=>apU) ?_;refine aK.ctl (λw=>apR) ?_;refine mz (.cells #[base'] 93 (0,0)) (λx=> .pointer (some ⟨x,0,none⟩)) rfl rfl (base_kind _) (λw=>by simp[go_sem,hbase]) λb4 hb4=>?_;walk_nrm;obtain⟨e4,s4⟩:=s7 (e0:=e0) (s0:=s0) .refl hb4;have hK4:=(K0.refl (e0:=e0) (s0:=s0)).plus (obj:= .cells #[base'] 93 (0,0)) e4;refine mz (.cells #[part] 169 (0,0)) (λx=> .pointer (some ⟨x,0,none⟩)) rfl rfl (base_kind _) (λw=>by simp[go_sem,Ix]) λb5 sI=>?_;walk_nrm;obtain⟨e5,s5⟩:=s7 hK4 sI;have n45:b4≠b5:=nH (o:= .cells #[base'] 93 (0,0)) sI jD;refine aK.pure (.slice none 0 0) rfl rfl (base_kind _) (λw=>by simp[go_sem]) (λw=>by simp[go_sem]) ?_;walk_nrm;refine aK.ctl (λw=>apQ) ?_;refine aK.ctl (λw=>apU) ?_;refine aK.ctl (λw=>apR) ?_;have q4:(λy=>if y=b5 then some (asI #[part] 169 (0,0))else if y=b4 then some (asI #[base'] 93 (0,0))else e0 y) b4=some (.cells #[base'] 93 (0,0)):=by
  dsimp only;rw[if_neg n45,if_pos rfl]
 refine .stop (.mk _ b4 b5 _ _ _ _ _ _ _ _ _ _ _ _ _ _ _ _ _ _ _ _ _ _ _ _ _ _ _ _ _ _ _ _ _ _ _ _ _ _ (hK4.plus e5) q4 (if_pos rfl) n45 ⟨e4,s4⟩ ⟨e5,s5⟩)
theorem YT(hl:vR F Pre e0 part p_ n){g b4 b5:Nat}{x1 x2 x3 x6 x8 x9 rP zV zq zo Bc zn zm zk zi zh zg zf AE AD ze zb y_ y9 EZ EY EX Bb Ba A_ y8 y7 AB y6 yZ EW zU yY yX:aad}(hK:K0 e0 s0 e s0)(h4:e b4=some (.cells #[base'] 93 (0,0)))(h5:e b5=some (.cells #[part] 169 (0,0)))(XG:b4≠b5)(h40:e0 b4=none∧s0 b4=none)(h50:e0 b5=none∧s0 b5=none)
  (R3:e0 bp=some (.cells pc tp fz)) (hpc:pc[0]? =some (.slice p_ n cp)) (hn:xs.length≤1099511627776) (hp:Pre 0 (xs.map dU.val) f v) (hL:gN v bs xs) (hr:aA F f bs base'):
  aK Tryz.prog true F (IG (wW F Pre e0 s0 c cs n g)) ⟨some (f,v),e,s0⟩ ((base 90).at ⟨#[.pointer (some ⟨bp,0,none⟩),x1,x2,x3,.pointer (some ⟨b4,0,none⟩),.pointer (some ⟨b5,0,none⟩),x6,.pointer (some ⟨g,0,none⟩),x8,x9,rP,zV,zq,zo,Bc,zn,zm,zk,zi,zh,zg,zf,AE,AD,ze,zb,y_,y9,EZ,EY,EX,Bb,Ba,A_,y8,y7,AB,y6,yZ,EW,zU,yY,yX],[]⟩ [.inRegion Ip [],.code ((apN 2 Io false).seq IC)]) (c::cs):=by
 have hs:=hl.small;refine aK.ctl (λw=>apQ) ?_;refine aK.ctl (λw=>apU) ?_;refine aK.ctl (λw=>apR) ?_;refine aK.pure (.pointer (some ⟨bp,0,none⟩)) rfl rfl (base_kind _) (λw=>by simp[go_sem]) (λw=>by simp[go_sem]) ?_;walk_nrm;refine aK.pure (.pointer (some ⟨bp,0,none⟩)) rfl rfl (base_kind _) (λw=>by simp[go_sem]) (λw=>by simp[go_sem]) ?_;walk_nrm;refine aK.pure (.pointer (some ⟨bp,0,none⟩)) rfl rfl (base_kind _) (λw=>by simp[go_sem]) (λw=>by simp[go_sem]) ?_;walk_nrm;refine vU (blk:=bp) (off:=0) (x:= .slice p_ n cp) rfl rfl (base_kind _) (.inl (hK.1 _ _ R3)) hpc (λw c0=>⟨by simp[go_sem,c0],by simp[go_sem,c0]⟩) ?_;walk_nrm;refine aK.pure (.int .i64 n) rfl rfl (base_kind _) (λw=>by simp[go_sem]) (λw=>by simp[go_sem]) ?_;walk_nrm;refine aK.pure (.int .i64 ((n+1:Nat):Int)) rfl rfl (base_kind _) (λw=>?_) (λw=>by simp[go_sem]) ?_
 ·simp[go_sem];rw[ast];omega
 walk_nrm;refine kX (f:=149) (vals:= #[.pointer (some ⟨g,0,none⟩),.int .i64 ((n+1:Nat):Int)]) rfl rfl (base_kind _) rfl Tryz.func149 rfl rfl (by simp[aqV]) ?_;refine .stop (adj (X:=wW F Pre e0 s0 c cs n g) (yB hl g) (by show n+1<_;omega) ⟨λ_=>0,?_⟩);exact QA (X:=wW F Pre e0 s0 c cs n g) (yB hl g) hK h4 h5 XG h40 h50 R3 hpc hn hp hL hr λk0 r fr h=>MF hl n 0 k0 _ r fr aj (upd_same _ _ _) h
theorem EJ(hl:vR F Pre e0 part p_ n){Pf:Fn}{p1 p2:Array aad}{bad:Option alA}{m bc:Nat}(Ix:part= .func Pf p1 p2)(hbase:base'= .slice bad m bc)
  (R3:e0 bp=some (.cells pc tp fz)) (hpc:pc[0]? =some (.slice p_ n cp)) (hn:xs.length≤1099511627776) (hp:Pre 0 (xs.map dU.val) f v) (hL:gN v bs xs) (hr:aA F f bs base'):
  Go.Upr.Comes Tryz.prog F (⟨some (f,v),e0,s0⟩:bF) (ao7 Tryz.prog 90 #[.pointer (some ⟨bp,0,none⟩),base',part] .normal) (c::cs) λr' fr' cs'=>
   ∃ (e s:Nat→Option am2) (f0 f':Ren) (v0 v':aly) (r0 r1:aad) (ys:List dU),K0 e0 s0 e s∧Pre n (ys.map dU.val) f0 v0∧f0.le f'∧Grown v0 v'∧PH f' v'∧wH v' r0 ys∧(∀ad n cp,r0= .slice (some ad) n cp→v0.heap.size≤ad.block)∧aA F f' r0 r1∧r'=⟨some (f',v'),e,s⟩∧fr'=c.finish r1∧cs'=cs:=by
 refine(Go.Upr.Comes.RN (QB (e0:=e0) (s0:=s0) Ix hbase)).bind λr fr cs1 h=>?_;cases h with
 |mk e b4 b5 x3 x6 x7 x8 x9 rP zV zq zo Bc zn zm zk zi zh zg zf AE AD ze zb y_ y9 EZ EY EX Bb Ba A_ y8 y7 AB y6 yZ EW zU yY yX hK h4 h5 XG h40 h50=>
 refine(Go.Upr.Comes.pipe (P:=Tryz.prog) (F:=F) (X:=λg=>wW F Pre e0 s0 c cs n g) (λ_=>rfl) (λ_=>rfl) (ty:=272) (λ_=>rfl) (λ_=>rfl) (λg=>acK hl g)
  (fr1:=λg=>(base 90).at ⟨#[.pointer (some ⟨bp,0,none⟩),base',part,x3,.pointer (some ⟨b4,0,none⟩),.pointer (some ⟨b5,0,none⟩),x6,.pointer (some ⟨g,0,none⟩),x8,x9,rP,zV,zq,zo,Bc,zn,zm,zk,zi,zh,zg,zf,AE,AD,ze,zb,y_,y9,EZ,EY,EX,Bb,Ba,A_,y8,y7,AB,y6,yZ,EW,zU,yY,yX],[]⟩ [.inRegion Ip [],.code ((apN 2 Io false).seq IC)]) (cs1:=c::cs) (λw _=>?_) (λg=>YT hl hK h4 h5 XG h40 h50 R3 hpc hn hp hL hr)).bind λr fr cs1 h=>?_
 ·rw[stepG_value (v:= .pointer (some ⟨w.heap.size,0,none⟩)) (w':={w with heap:=w.heap.push (asr 272 0 0)}) (ops:=Ip) (i:=0) rfl rfl (base_kind _) (by simp[go_sem,asr]),asA (by simp[go_sem])];rfl
 ·obtain⟨g,h⟩:=h;refine Go.Upr.Comes.RN (YS h λe s f0 f' v0 v' r0 r1 ys h1 h2 h3 h4 h5 h6 h7 h8=> .stop ⟨e,s,f0,f',v0,v',r0,r1,ys,h1,h2,h3,h4,h5,h6,h8,h7,rfl,rfl,rfl⟩)
end
end Go.Proofs.YtkdljbnllgpfhaaGreat
namespace Go.Upr
open Go.Conc
section
variable{P:alu}{F:alB→Bool}{r r1:bF}{fr:aoz}{cs:List aoz}{gs:Array aqi}{w:aly}{t:ap8}{q:Nat→Nat}
theorem Fm.shift(h:Fm P F r gs w t q)(hf:r1.Fits P F w)(ho: ∀b,r1.Own b→r.Own b)(hs: ∀b,r1.s b≠none→r.Own b∨r.s b≠none):Fm P F r1 gs w t q:=
 {h with
  fits:=hf
  own:=λb hb=>h.own b (ho b hb)
  read:=λb hb=>(hs b hb).elim (λh1=>(h.own b h1).w) (h.read b)}
theorem Comes.shift{Q:bF→aoz→List aoz→Prop}(h: ∀w,r.Fits P F w→∃r1:bF,r1.Fits P F w∧(∀b,r1.Own b→r.Own b)∧(∀b,r1.s b≠none→r.Own b∨r.s b≠none)∧Comes P F r1 fr cs Q):Comes P F r fr cs Q:=by
 intro gs w sl t q hf hg;obtain⟨r1,h1,h2,h3,h4⟩:=h w hf.fits;exact h4 gs w sl t q (hf.shift h1 h2 h3) hg
end
end Go.Upr
