import Derived.Test.YtkdljbnllgpfhaaGreatA5
import Derived.Great.Frames
import Derived.Ground.Names2Prog
import Derived.Shelf.SlIter.Collect
import Derived.Shelf.SlSortCmp.KitK
import Derived.Shelf.Slices.In.SortNone
import Derived.Shelf.Sort.Plain
import Derived.Shelf.Strings.BuilderCap
set_option maxRecDepth 100000
set_option maxHeartbeats 8000000
open Go renaming World->ag,FuncId->bw,Value->aq,Addr->bC,TypeId->bB,Program->bj,Obj->bI,Question->jq,Operand->cL,Oper->bG,Item->fJ,Frame->az,undef->aj,Act->bK,DataW->IQ
open List renaming replicate->Dg,range->iK
open UInt8 renaming ofNat->wX
open Array renaming replicate->ml
open Go.Region renaming wanted->cV,ready->er
open Go.Op renaming move->iI
open Go.Operand renaming tmp->bz,func->oG
open Go.Ground renaming data->cY
open Go.Code renaming block->rJ,region->bH,cond->mX,skip->mY,exit->u_,ret->kL
open Go.Callee renaming value->nD
open Go.Region.linearise renaming go->xG
open Prod renaming fst->bD,snd->js
open Go.Shelf renaming Ren->mf
open Go.Lib renaming compareBytes->Rt,join->tU,byteCells->zM,strCells->RZ,BuilderAtF->R_
open Go.RowKit renaming Hid->ay
open ByteArray renaming empty->iJ
open Go.Value renaming oneCell'->eP,string->cr
open Go.Fence renaming wide->mU
open Go.Sort renaming ahead->RP,Holds->qg,insertionSort->pC,grow->RV,HoldsK->oH
open Subtype renaming val->Kt
open Go.Proofs.SlLaysZ renaming n7->RQ,n8->aeP
open Go.DataW renaming insert->Ku
open Go.WideElems renaming rg->RR,rd->RU
open Go.Proofs.SlLaysF0 renaming n20->RX
open Go.Proofs.Lays renaming n190->aeQ
namespace Go.Proofs
open Tryz
open Go.RowKit
abbrev IP:=@List.getElem?_eq_none
abbrev vI:=@Array.size_setIfInBounds
abbrev dS:=@Go.Act.eval_put_ne
abbrev xo:=@Go.Act.eval_put_same
abbrev RY:=@Go.Proofs.AnyQ.insertionSortCmpFunc
abbrev IU:=@Int.emod_nonneg
abbrev AO:=@List.eq_nil_iff_forall_not_mem
abbrev R1:=@List.extract_eq_take_drop
variable{h:Type}{v:Array bV}{D:Array aq}{w:Array aC}{a8:Array h}{d3 z:bS}{L:Bool->ByteArray->Seen}{N d d4:ByteArray}{k:ai}{Q:ai->List aq->h->Prop}{a0 b5:Int}{a6 j:List ByteArray}{i:List bV}{c:List bk}{K:List Lay}{r:List Nat}{b6:List az}{n:List aC}{d5 g:List _}{y:List h}{A M b b7 d6 f l s:Nat}{a9 d1:Nat->jq->Nat}{R:Nat->aW->Prop}{p:bO}{S:gq}{F:Option Nat}{q:Option bC}{W X:Prop}{a d7 t:ag}{C e:aq}{e4:aq->ag->Prop}{d2:bB}{a7:bj}{P:cL->aq}{x:bG}{b3:az}{b4:bW}{o:aW}{b8:aG->az->List az->Prop}{b9:fC}{u:h->Prop}{H:h->aq}
section
open Go.Lib Go.Sort
theorem XD(a:List ByteArray):(a.map λx=> [cr x]).flatten=a.map cr:=by
 induction a with
 |nil=>rfl
 |cons a l a=>grind
theorem aM.am(h:aM a b 9 1 ib k e j)(c:j≠ []):∃g f d,e=.slice (some ⟨g,0,none⟩) j f∧b<=g∧a.1[g]?=some (.cells d 9)∧∀(i:Nat) x,j[i]?=some x->d[i]?=some (cr x):=by
 obtain⟨_,_,c,l,_,m,n⟩:=h;obtain⟨_,h⟩|⟨g,f,d,rfl,h,o,_,_,_,l⟩:=n.2;grind;refine⟨g,f,d,rfl,h,o,λi x d=>?_⟩;have h:c=j.map λx=> [cr x]:=by
  apply rH;intro d;rw[nI];by_cases n:d<j.length;have f:c[d]?=some c[d]:=cy aa;have g:=cy n;rw[f,g];exact congrArg some<|m d _ _ f g;rw[IP aa,IP aa];rfl
 have d:c.flatten=j.map cr:=by
  rw[h];exact XD j
 rw[d,AD]at l;have c:=congrArg (λc=>c[i]?) l;grind
def vO(ab:List (ByteArray×ByteArray))(a:ByteArray)(f:List (ByteArray×Int))(b:ByteArray):List (ByteArray×Int):=if bL ab (a,b)||decide (a=b)then cK f a (iD f a+1)else f
def nW(ab:List (ByteArray×ByteArray))(b:List ByteArray)(f:List (ByteArray×Int))(a:ByteArray):List (ByteArray×Int):=b.foldl (vO ab a) f
def mL(ab:List (ByteArray×ByteArray))(b a:List ByteArray):List (ByteArray×Int):=a.foldl (nW ab b) []
theorem X8(a:j[b]?=some N):nW g (j.take<|b+1) d5 d=vO g d (nW g (j.take b) d5 d) N:=by
 unfold nW;rw[eA,a,sj,iZ];rfl
theorem adW(a:a6[b]?=some d):mL g j (a6.take<|b+1)=nW g j (mL g j<|a6.take b) d:=by
 unfold mL;rw[eA,a,sj,iZ];rfl
def qy(f:List (ByteArray×Int))(n:Nat):Prop:=∀x,0<=iD f x∧iD f x<=n
theorem Sy{ab:List _}{a b:ByteArray}{n:Nat}(h:qy g n):qy (vO ab a g b)<|n+1:=λx=>by
 have c:=h x;have c:=h a;unfold vO;split;have c:iD (cK g a<|iD g a+1) x=if x=a then iD g a+1 else iD g x:=by
  unfold iD;rw[Gt];split<;>rfl
 omega;omega
theorem M5{ab:List _}{ns:List ByteArray}{a:ByteArray}:∀ {f:List _}{n:Nat},qy f n->qy (nW ab ns f a) (n+ns):=by
 induction ns with
 |nil=>exact λh=>h
 |cons b l d=>
  intro f n h;have c:=d<|Sy (ab:=ab) (a:=a) (b:=b) h;have d:n+1+l.length=n+(b::l).length:=bQ;rw[d]at c;exact c
theorem adV{ab:List _}{ns ms:List ByteArray}:qy (mL ab ns ms)<|ms*ns:=by
 have h:∀(ms:List _)(f:List<|ByteArray×Int)(n:Nat),qy f n->qy (ms.foldl (nW ab ns) f) (n+ms.length*ns.length):=by
  intro ms;induction ms with
  |nil=>grind
  |cons a l c=>
   intro f n h;have b:=c _ _<|M5 (ab:=ab) (ns:=ns) (a:=a) h;have c:n+ns.length+l.length*ns.length=n+(a::l).length*ns.length:=aJ
   rw[c]at b;exact b
 have:=h ms [] 0 λx=>⟨Int.le_refl _,Int.le_refl _⟩;rwa [nJ]at this
def lg(a:List ByteArray)(h:∀x∈a,aL x):Array uM:=(a.pmap (λx a=>⟨x,a⟩) h).toArray
theorem sT{h:∀x∈j,aL x}:(lg j h).size=j:=by simp[lg]
theorem aap{h:∀x∈j,aL x}(e:a.1[b]?=some (.cells D 9))(f:∀(i:Nat) x,j[i]?=some x->D[i]?=some (cr x)):qg nT a b 0<|lg j h:=λd c=>by
 rw[sT]at c;refine⟨?_,kH e⟩;rw[nJ];refine(cI a b d _ 9 _ e).trans ?_;rw[f d _<|cy c];unfold nT;rw[getElem!_pos _ d<|aw sT c];simp[lg]
theorem TW{w:ag}(c1:k.In w)(b2:k.list 3 dg (.slice q f l) c)(b6:c.length<=1099511627776)(b8:∀cl∈c,Small 1099511627776 cl)
  (a3:∀e,(bl<|c.take e).length<=1099511627776)(N:∀Z∈bl c,aL Z)(b7:bl c≠ [])(c4:(bl c).length<20)(a4:kU w b g):
  aH 138 #[.slice q f l,some b] w λv r=>∃d cap,v=.returned (.slice (some ⟨d,0,none⟩) (bl c) cap)∧w<=d∧d<r∧au w r∧qg nT r d 0 (pC (ltOf<|nk<|mL g (bl c)<|bl c) (lg (bl c) N) 0 (bl c)):=by
 have br:= @iW Tryz.prog;have V:=Lx c1 b2 b6 b8 a3;obtain⟨ns,I⟩:=aT<|bl c;have D:∀Z∈ns,aL Z:=I▸N
 suffices c2:aH 138 #[.slice q f l,some b] w λv r=>∃d cap,v=.returned (.slice (some ⟨d,0,none⟩) ns.length cap)∧w.1.size<=d∧d<r.1.size∧au w r∧qg nT r d 0 (pC (ltOf<|nk<|mL g ns ns) (lg ns D) 0 ns.length) by
  subst I;exact c2
 rw[<-I]at V b7 c4;clear I N b2 b6 b8 a3 c1;go_enter func138,ntmps138;go_wp2_with (go_at_call 185;refine V.mono ?_;clear V;rintro v w2 ⟨f2,rfl,b9,b5⟩;obtain⟨d,cap,d9,rfl,c7,R,O⟩:=aM.am b5 b7);obtain⟨M,C⟩:=aT w2.1.size;obtain⟨P,F⟩:=aT<|w2.1.size+1;obtain⟨w3,J,X,-⟩:=nc w2 (.map #[] 0)<|.cells #[some M] 307
 have a5:aF w3 aL cr oX M []:=by rw[J,C];exact(aF.I (w:=w2)).B ae.al id
 have a8:w3.1[P]?=some (.cells #[some M] 307):=by rw[J,F];exact eK _ _ _
 rw[<-C]at F⊢;rw[<-J,<-F];have e4:w.1.size<=M:=aI b9.4
 have e6:d<M:=aw C<|aP R
 have e5:M<P:=aa
 have Q:=X.O R id;have a9:=b9.B X;have aK:=a4.B a9 id;have e8:=a4.O;have e3:=X.4;clear C F J R b5
 go_loopw [18] (λp wr=>∃(e:Nat)(n:List<|ByteArray×Int),e<=ns.length∧p=.int .i64 e∧ae (·=M) w3 wr∧aF wr aL cr oX M n∧ay (n=mL g ns (ns.take e))) (λp _=>ns.length-(intOf p).toNat)
 case atStart=>exact⟨0,[],aa,rfl,.T _ _,a5,(rfl:([]:List<|ByteArray×Int)=mL _ _ _)⟩
 case round=>
  clear a5;obtain⟨e,n,d1,rfl,y,a7,G⟩:=hrel;by_cases d4:e<ns.length
  ·obtain⟨a,b0⟩:∃a0,ns[e]?=some a0:=⟨_,cy d4⟩;have s:aL a:=aJ;have e0:=(cI _ d e _ 9 _<|y.O Q aa).trans<|O e a b0;have e1:wr.cell? ⟨d,0+e,none⟩=some (.string a):=aJ
   have a1:ay<|mL _ ns _=nW g _ _ a:=adW b0;have d3:ay<|qy n<|e*ns.length:=by
    have:=adV (ab:=g) (ns:=ns) (ms:=ns.take e);rw[<-G.out,ix,D5 d1]at this;exact this
   rw[<-G.out]at a1;go_wp2
   go_loopw [24] (λp wr=>∃(j:Nat)(m:List<|ByteArray×Int),j<=ns.length∧p=.int .i64 j∧ae (·=M) w3 wr∧aF wr aL cr oX M m∧ay (m=nW g (ns.take j) n a)) (λp _=>ns.length-(intOf p).toNat)
   case atStart=>exact⟨0,n,aa,rfl,y,a7,(rfl:n=nW _ _ n a)⟩
   case round=>
    obtain⟨j,m,c8,rfl,z,a6,H⟩:=hrel;by_cases d0:j<ns.length
    ·obtain⟨i,t⟩:∃a0,ns[j]?=some a0:=⟨_,cy d0⟩;have b1:aL i:=D i<|cA t;have c3:wr.cell? ⟨d,j,none⟩=some (.string i):=(cI wr d j _ 9 (0,0)<|z.O Q aa).trans<|O j i t;have e2:wr.cell? ⟨d,0+j,none⟩=some (.string i):=aw nJ c3
     have B:ay<|nW g (ns.take<|j+1) n a=vO g a (nW g (ns.take j) n a) i:=X8 t;have b4:qy m<|e*ns.length+j:=by
      have:=M5 (ab:=g) (ns:=ns.take j) (a:=a) d3.out;rw[<-H.out,ix,D5 c8]at this;exact this
     obtain⟨d6,d7⟩:=b4 a;have e7:e*ns.length<=400:=by
      have:=Nat.mul_le_mul (show e<=20 by omega) (show ns.length<=20 by omega);omega
     rw[<-H.out]at B;have o:ay<|vO g a m i=if bL g (a,i)||decide (a=i)then cK m a (iD m a+1)else m:=rfl;have T:=FN m a;clear b4 t;generalize iD m a=K at d6 d7 T o;have f1:wrap64 (K+1)=K+1:=by unfold wrap64;omega
     have E:=z.O a8 aa;have p0:wr.cell? ⟨P,0,none⟩=some (.map<|some M):=(cI wr P 0 _ 307 (0,0) E).trans rfl;have f0:=aP E;have a2:kU wr b g:=aK.B z aa;have x:=a6.B ((ae.T bE wr).I<|.cells #[] 251) id;have Y:=(z.I<|.cells #[] 251);cases u:bL g (a,i)with
     |true=>
      have S:aB (aR g) (a,i)=some ():=by rw[hE,if_pos u]
      rw[u]at o;clear u;go_wp2_with (first|(at_lookup;refine gJ iR underlying247 ea rfl (.tmp 29) (.tmp 32) rfl rfl (bU _) a2.T rfl ⟨s,b1⟩ S ?_)|(at_lookup;refine iH bZ underlying307 rv rfl (.tmp 42) (.tmp 43) rfl rfl (bU _) x.T rfl s T ?_)|(at_mapUpdate;refine hZ bZ underlying307 rfl (.tmp 42) (.tmp 43) (.tmp 45) rfl rfl x rfl s (K+1) rfl ?_;intro d8 U L));go_roundw
      case rel=>exact⟨j+1,_,aa,ba,Y.B U,L,by rw[B.out,o.out];rfl⟩
      case measure=>simp[intOf];omega
     |false=>
      have S:aB (aR g) (a,i)=none:=by rw[hE,if_neg<|cw u]
      rw[u]at o;clear u;go_wp2_with (first|(at_lookup;refine jo iR underlying247 ea rfl (.tmp 29) (.tmp 32) rfl rfl (bU _) a2.T rfl ⟨s,b1⟩ S ?_)|(at_lookup;refine iH bZ underlying307 rv rfl (.tmp 42) (.tmp 43) rfl rfl (bU _) x.T rfl s T ?_)|(at_mapUpdate;refine hZ bZ underlying307 rfl (.tmp 42) (.tmp 43) (.tmp 45) rfl rfl x rfl s (K+1) rfl ?_;intro d8 U L))
      ·rename_i A;rw[C0]at A;rw[A]at o;go_roundw
       case rel=>exact⟨j+1,_,aa,ba,Y.B U,L,by rw[B.out,o.out];rfl⟩
       case measure=>simp[intOf];omega
      ·rename_i A;rw[C0]at A;rw[A]at o;go_roundw
       case rel=>exact⟨j+1,_,aa,ba,Y,x,by rw[B.out,o.out];rfl⟩
       case measure=>simp[intOf];omega
    ·have c9:ns.take j=ns:=fo aa;rw[c9]at H;go_wp2;go_roundw
     case rel=>exact⟨e+1,m,aa,ba,z,a6,aw a1.out H.out⟩
     case measure=>simp[intOf];omega
  ·have d2:ns.take e=ns:=fo aa;rw[d2]at G;have E:=y.O a8 aa;have p0:wr.cell? ⟨P,0,none⟩=some (.map<|some M):=(cI wr P 0 _ 307 (0,0) E).trans rfl;have b3:=y.O Q aa;have d5:(lg ns D).size=ns.length:=sT;have W:=Ue (cap:=cap) a7 p0 aa aa (aap (h:=D) b3 O) aa;rw[d5,G.out]at W;go_wp2_with (go_at_call 187;refine W.mono ?_;clear W;rintro v f3 ⟨rfl,ax,c6⟩);go_ret;exact⟨d,cap,rfl,c7,kJ (aP b3) ax.4,(a9.V y λi (t:i=M)=>.inl aa).V ax λi (t:i=d)=>.inl aa,c6⟩
theorem Mu:fW Tryz.prog 152 245 2 32:=.B underlying152 (z:=.agg #[.slice none 0 0,false]) ah rfl aA
def lS(ab:List (ByteArray×ByteArray))(a:List ByteArray)(h:∀x∈a,aL x):List ByteArray:=(pC (ltOf (nk (mL ab a a))) (lg a h) 0 a).1.map Kt
def lq(ab:List (ByteArray×ByteArray))(cs:List bk)(a:List ByteArray)(st:List ByteArray×List Lay)(n:ByteArray):List ByteArray×List Lay:=
 if bL st.1 n then st else(st.1++lu ab n a,if fG (lu ab n a) cs= []then st.2 else st.2++ [⟨fG (lu ab n a) cs,bL ab (n,n)⟩])
def jl(ab:List (ByteArray×ByteArray))(cs:List bk)(b a:List ByteArray):List ByteArray×List Lay:=a.foldl (lq ab cs b) ([],[])
theorem ac5(a:a6[b]?=some d):jl g c j (a6.take<|b+1)=lq g c j (jl g c j<|a6.take b) d:=by
 unfold jl;rw[eA,a,sj,iZ];rfl
theorem ac4{ab:List _}{cs:List bk}{ns ms:List ByteArray}:(jl ab cs ns ms).2<=ms.length:=by
 have h:∀(ms:List _)(st:List _×List _),(ms.foldl (lq ab cs ns) st).2.length<=st.2.length+ms.length:=by
  intro ms;induction ms with
  |nil=>grind
  |cons a l b=>
   intro st;have c:=b<|lq ab cs ns st a;have b:(lq ab cs ns st a).2.length<=st.2.length+1:=by
    unfold lq;split;omega;dsimp only;split;omega;simp
   grind
 have:=h ms ([],[]);exact dI this af
theorem oM.B{h k:ai}(e:h.le k){c:List aq}{x:Lay}(H:oM h c x):oM k c x:=by
 obtain⟨v,a,b⟩:=H;exact⟨v,a,ai.list.B (h:=h) (k:=k) (λ_ _=>dg.I e) b e⟩
theorem Vt{h:ai}{w:ag}(Q:h.In w)(a1:h.list 3 dg (.slice q f b) c)(a7:c.length<=1099511627776)(a9:∀cl∈c,Small 1099511627776 cl)
  (b9:∀k,(bl<|c.take k).length<=1099511627776)(t:∀x∈bl c,aL x)(i5:bl c≠ [])(g4:(bl c).length<20):
  aH 78 #[.slice q f b] w λp U=>∃f5 f6 K,p=.returned (.slice f5 (jl (fR c) c (bl c)<|lS (fR c) (bl c) t).2 f6)∧au w U∧K.In U∧ai.Ext w h K∧K.list 2 oM (.slice f5 (jl (fR c) c (bl c)<|lS (fR c) (bl c) t).2 f6) (jl (fR c) c (bl c)<|lS (fR c) (bl c) t).2:=by
 have l7:= @iW Tryz.prog;have d3:=Lr Q a1 a7 a9 b9 t;obtain⟨ab,e6⟩:=aT<|fR c;rw[<-e6]at d3⊢;clear e6;have b5:=λU R (i7:au w U) (g6:kU U R ab)=>TW (Q.B i7 λ_ _ _=>id) a1 a7 a9 b9 t i5 g4 g6;obtain⟨M,a2⟩:=aT<|pC (ltOf<|nk<|mL ab (bl c)<|bl c) (lg (bl c) t) 0 (bl c).length;obtain⟨sl,d0⟩:=aT<|lS ab (bl c) t;have f0:sl=M.1.map Kt:=by rw[d0,a2];rfl
 have h6:M.size=(bl c).length:=by
  have i:=((IM (FM<|mL ab (bl c)<|bl c) (lg (bl c) t) 0 (bl c).length (nK _)<|aw sT<|cP _).1).1;rw[<-a2,sT]at i;exact i
 rw[<-a2]at b5;rw[<-d0];clear d0 a2;go_enter func78,ntmps78;go_wp2_with (first|(go_at_call 137;refine d3.mono ?_;clear d3;rintro p w2 ⟨R,rfl,l6,b1,X⟩;have T:=(ae.T bE w2).I<|.map #[] 0;have f4:=b5 _ R (b1.B T)<|X.B T id;clear b5;have e2:aF (w2.alloc<|.map #[] 0) aL cr bX w2.1.size<|aR ([]:List ByteArray):=aF.I)|(go_at_call 138;refine f4.mono ?_;clear f4;rintro p w4 ⟨b4,k0,rfl,h9,l2,b2,g9⟩));obtain⟨S,e5⟩:=aT w2.1.size;have Y:=e2.B b2 id;have O:=(b1.B T).B b2;have e0:=(X.B T id).B b2 id;have i4:=X.O;have h3:=Y.O;rw[<-e5]at Y i4 h3⊢;have k7:w.1.size<=S:=aI b1.4
 have l0:S<b4:=by simp at h9;omega
 have i8:=Q.B O λ_ _ _=>id;have c6:aM w4 w4.1.size 245 2 oM h (.slice none 0 0) ([]:List Lay):=.m i8;have k2:=O.4;clear e2 e5 T b1 b2 X;obtain⟨L,h2⟩:=aT w4.1.size;have m3:sl.length=(bl c).length:=by rw[f0,di,rY,h6]
 have l8:S<L:=aa
 have l9:w.1.size<=L:=aa
 rw[<-h2]at c6
 go_loopw [4,22] (λj8 d2 wr=>∃(k:Nat)(l:List ByteArray)(K:ai),k<=(bl c).length∧d2=.int .i64 k∧ae (·=S) w4 wr∧aF wr aL cr bX S (aR l)∧ay (∀x,x∈l↔x∈(jl ab c (bl c)<|sl.take k).1)∧ai.Ext L h K∧aM wr L 245 2 oM K j8 (jl ab c (bl c)<|sl.take k).2) (λ_ d2 _=>(bl c).length-(intOf d2).toNat)
 case atStart=>exact⟨0,[],h,aa,rfl,.T _ _,Y,(λx=>Iff.rfl:∀x,x∈([]:List _)↔x∈(jl _ _ _<|sl.take 0).1),ai.Ext.I _ _,c6⟩
 case round=>
  clear c6 Y;obtain⟨k,l,K,br,rfl,z,N,P,j,u⟩:=hrel;have m6:=z.4;by_cases l4:k<(bl c).length
  ·obtain⟨nm,a8⟩:∃y,sl[k]?=some y:=⟨_,cy aa⟩;have c4:(M[k]!).1=nm:=by
    rw[f0,nI,xb,rE aa]at a8;rw[getElem!_pos M k aa];exact dw a8
   have B:aL nm:=c4▸ (M[k]!).2;have d7:wr.cell? ⟨b4,0+k,none⟩=some (.string nm):=by
    rw[<-c4];exact z.Y (g9 k aa).1 aa
   have k1:wr.cell? ⟨b4,k,none⟩=some (.string nm):=by rw[nJ]at d7;exact d7
   have s:ay<|jl ab c (bl c) (sl.take<|k+1)=lq ab c (bl c) (jl ab c (bl c)<|sl.take k) nm:=ac5 a8;have i6:(jl ab c (bl c)<|sl.take k).2.length<=20:=by
    have:=ac4 (ab:=ab) (cs:=c) (ns:=bl c) (ms:=sl.take k);rw[ix]at this;omega
   clear a8 c4;generalize jl ab c (bl c) (sl.take k)=st at P u s i6;have h0:∀a o,K a=some o->¬a=S:=λa o d p=>by
    obtain i|i:=j.2 a o d
    ·have:=Q.O i;omega
    omega
   have J:=(ae.T bE wr).I<|.cells #[] 251;cases F:bL l nm with
   |true=>
    have a4:aB (aR l) nm=some ():=by rw[hE,if_pos F]
    have b0:bL st.1 nm=true:=by
     rw[bL,rF]at F⊢;obtain⟨y,i,b6⟩:=F;exact⟨y,(P.out y).1 i,b6⟩
    have g:ay<|lq ab c (bl c) st nm=st:=by show _=_;unfold lq;rw[if_pos b0]
    go_wp2_with (at_lookup;refine gJ bZ underlying249 ea rfl (.tmp 27) (.tmp 28) rfl rfl (bU _) N.T rfl B a4 ?_);go_roundw
    case rel=>exact⟨k+1,l,K,aa,ba,z.ac J,N.B J id,by rw[s.out,g.out];exact P,j,by rw[s.out,g.out];exact u.I J i2 i3⟩
    case measure=>simp[intOf];omega
   |false=>
    have a4:aB (aR l) nm=none:=by rw[hE,if_neg<|cw F]
    have b0: ¬bL st.1 nm=true:=by
     intro i;rw[bL,rF]at i;obtain⟨y,b6,g5⟩:=i;have d9:bL l nm=true:=by
      rw[bL,rF];exact⟨y,(P.out y).2 b6,g5⟩
     rw[F]at d9;cases d9
    have g:ay<|lq ab c (bl c) st nm=(st.1++lu ab nm (bl c),if fG (lu ab nm<|bl c) c= []then st.2 else st.2++ [⟨fG (lu ab nm<|bl c) c,bL ab (nm,nm)⟩]):=by show _=_;unfold lq;rw[if_neg b0]
    clear F b0;have h4:au w wr:=O.V z λa (d:a=S)=>.inl aa;have g7:kU wr R ab:=e0.B z aa;have d4:=TX (Q.B (h4.B J) λ_ _ _=>id) B (g7.B J id) a1 a7 a9 b9 t;generalize lu ab nm (bl c)=m at d4 g;go_wp2_with (first|(at_lookup;refine jo bZ underlying249 ea rfl (.tmp 27) (.tmp 28) rfl rfl (bU _) N.T rfl B a4 ?_)|(go_at_call 139;refine d4.mono ?_;clear d4;rintro p j9 ⟨d8,rfl,h7,f2,ax⟩)|(at_range;refine lY underlying249 rfl (.tmp 37) rfl rfl ax ?_;intro f8 f3 j1 c2));have b3:au wr f8:=(J.B f2).B f3;have l1:wr.1.size<d8:=by simp at h7;omega
    have h8:=ax.O;have m4:=b3.4;obtain⟨it,e8⟩:=aT j9.1.size;rw[<-e8]at c2 j1 h8⊢;have k6:S<wr.1.size:=N.O;have e3:=N.B b3 id;have l3:wr.1.size<=it:=aa
    clear e8 a4 f2 f3 ax;go_frame
    go_loopg [] (aR m).length (λgk d6=>∃(came:List<|ByteArray×Unit)(n:List ByteArray),came.length+gk=(aR m).length∧ae (λa=>a=S∨a=it) f8 d6∧aF d6 aL cr bX S (aR n)∧ay (∀x,x∈n↔x∈l∨(x,())∈came)∧fA d6 aL cr bX d8 it (aR m) came)
    case atStart=>exact⟨[],l,af,.T _ _,e3,(λx=>af:∀x,x∈l↔x∈l∨(x,())∈([]:List<|ByteArray×Unit)),c2⟩
    case round=>
     clear c2 e3;obtain⟨came,n,k9,c3,Z,d1,c1⟩:=hrel;go_wp2_with (at_next;refine lX bZ rfl (.tmp 38) rfl rfl c1 aa ?_ ?_)
     ·intro e7;have h5:∀x∈m,(x,())∈came:=λx j=>e7 x ()<|ei.2 ⟨x,j,rfl⟩;have f1:=c1.I;have c9:ay (∀x,x∈n↔x∈st.1++m):=λx=>by
       rw[d1.out,P.out,gX];constructor
       ·rintro(i|i)
        grind
        ·obtain⟨y,j0,p⟩:=ei.1<|f1.1 _ i;cases p;exact .inr j0
       grind
      clear e7 h5 f1 d1;have I:ae (·=S) w4 wr:=(z.ac b3).V c3 λa d=>d.elim .inr λp=>.inl aa;have k8:au w wr:=O.V I λa (d:a=S)=>.inl aa;have g8:=c1.T;have e1:kU wr R ab:=e0.B I aa;have a6:aM wr L 245 2 oM K u4 st.2:=(u.I b3 i2 λ_ _ _=>id).T c3 (λa d h=>by have i:=u.B a d;omega) λa j3 d h=>h.elim (h0 a j3 d) λh=>aI<|u.V.O d
      have m5:=I.4;have C:=TY a6.V g8 (ai.list.B (h:=h) (k:=K) (λ_ _=>dg.I j.1) a1 j.1) a7 a9;by_cases G:fG m c= []
      ·rw[G]at C;rw[if_pos G]at g;clear G;go_wp2_with (go_at_call 140;refine C.mono ?_;clear C;rintro p E ⟨W,c7,rfl,e,V,a3,r,a5⟩);go_roundw
       case rel=>exact⟨k+1,n,K,aa,ba,I.ac e,Z.B e id,by rw[s.out,g.out];exact c9,j,by rw[s.out,g.out];exact a6.I e i2 i3⟩
       case measure=>simp[intOf];omega
      ·rw[if_neg G]at g;have m2:0<(fG m c).length:=by
        cases i0:fG m c with
        |nil=>exact absurd i0 G
        |cons _ _=>simp
       clear G;cases H:bL ab (nm,nm)with
       |false=>
        have aK:aB (aR ab) (nm,nm)=none:=by rw[hE,if_neg<|cw H]
        rw[H]at g;clear H;go_wp2_with (first|(go_at_call 140;refine C.mono ?_;clear C;rintro p E ⟨W,c7,rfl,e,V,a3,r,a5⟩;have b8:=e1.B e id;have D:=(ae.T bE E).I<|.cells #[] 251;have A:=(a6.dY e r a3 λ_ _=>oM.B r.1).I D i2 λ_ _ _=>id;have j2:=e.4)|(at_lookup;refine jo iR underlying247 ea rfl (.tmp 53) (.tmp 56) rfl rfl (bU _) b8.T rfl ⟨B,B⟩ aK ?_)|(at_builtin;refine kI Mu rfl (.tmp 60) (.tmp 64) rfl A rfl ⟨fG m c,false⟩ #[.slice W (fG m c).length c7,false] ⟨_,rfl,a5⟩ rfl (by simp[eP]) rfl af aa aa bQ ?_;intro g3 g2 f9 c8 v _));go_roundw
        case rel=>
         refine⟨k+1,n,V,aa,ba,(I.ac<|e.B D).V v λa d=>.inl<|aI<|(A.B a d).1,(((Z.B e id).B D id).B v λh=>aI<|(A.B _ h).1),by rw[s.out,g.out];exact c9,⟨j.1.B r.1,λa o d=>(r.2 a o d).elim (j.2 a o) λh=>.inr aa⟩,by rw[s.out,g.out];exact c8⟩
        case measure=>simp[intOf];omega
       |true=>
        have aK:aB (aR ab) (nm,nm)=some ():=by rw[hE,if_pos H]
        rw[H]at g;clear H;go_wp2_with (first|(go_at_call 140;refine C.mono ?_;clear C;rintro p E ⟨W,c7,rfl,e,V,a3,r,a5⟩;have b8:=e1.B e id;have D:=(ae.T bE E).I<|.cells #[] 251;have A:=(a6.dY e r a3 λ_ _=>oM.B r.1).I D i2 λ_ _ _=>id;have j2:=e.4)|(at_lookup;refine gJ iR underlying247 ea rfl (.tmp 53) (.tmp 56) rfl rfl (bU _) b8.T rfl ⟨B,B⟩ aK ?_)|(at_builtin;refine kI Mu rfl (.tmp 60) (.tmp 64) rfl A rfl ⟨fG m c,true⟩ #[.slice W (fG m c).length c7,true] ⟨_,rfl,a5⟩ rfl (by simp[eP]) rfl af aa aa bQ ?_;intro g3 g2 f9 c8 v _));go_roundw
        case rel=>
         refine⟨k+1,n,V,aa,ba,(I.ac<|e.B D).V v λa d=>.inl<|aI<|(A.B a d).1,(((Z.B e id).B D id).B v λh=>aI<|(A.B _ h).1),by rw[s.out,g.out];exact c9,⟨j.1.B r.1,λa o d=>(r.2 a o d).elim (j.2 a o) λh=>.inr aa⟩,by rw[s.out,g.out];exact c8⟩
        case measure=>simp[intOf];omega
     ·intro x d5 E m1 m0 l5 e a0;obtain⟨f7,rfl⟩:=jX gk;have i9:aL x:=a0.I.2.2 (x,d5) af;have e4:=Z.B e aa;have g0:ay<|cK (aR n) x ()=aR (gA n x):=wM n x;have k4:=e4.B ((ae.T bE E).I<|.cells #[] 251) id;have k5:=a0.B ((ae.T bE E).I<|.cells #[] 251) id id;go_wp2_with (first|(refine lx rfl (.tmp 38) rfl rfl a0 ?_)|(at_mapUpdate;refine hZ bZ underlying249 rfl (.tmp 43) (.tmp 44) (.tmp 45) rfl rfl e4 rfl i9 () rfl ?_;intro f9 v h1))
      go_roundg f7
      case measure=>exact pG f7
      case rel=>
       refine⟨came++ [(x,d5)],gA n x,bQ,(c3.B<|e.cW λa _ d=>.inr d).B<|v.cW λa _ d=>.inl d,jy g0.out h1,(λy=>?_:∀y,y∈gA n x↔y∈l∨(y,())∈came++ [(x,d5)]),a0.B v aa aa⟩;rw[KM,d1.out];simp[or_assoc]
  ·have i1:sl.take k=sl:=fo aa;rw[i1]at u;obtain⟨m8,m9,rfl⟩:=u.O;obtain⟨g1,j4,j5,j6,j7⟩:=u.U λm7 br b x=>oM.B br;go_wp2;go_ret
   exact⟨_,_,g1,rfl,O.V z λa (d:a=S)=>.inl aa,j4,⟨j.1.B j5,λa o d=>by
    obtain b7|b7:=j6 a o d
    ·exact(j.2 a o b7).imp id λk3=>aa
    ·exact .inr<|aI<|(u.B a b7).1⟩,j7⟩
end
section
open Go.Conc
def pv(a:cL->aq)(o:bG):Option Value:=
 match o.2 with
 | .move x| .assign x=>some (a x)
 | .extract x i=>match a x with
  | .tuple b=>b[i]?
  |_=>none
 | .pick c x y=>match a c with
  | .bool b=>some (a (if b then x else y))
  |_=>none
 |_=>none
section
variable{P:bj}{F:bw->Bool}{Q:aG->az->List az->Prop}{f:Ren}{v:ag}{e s:Nat->Option bI}{b:az}{a0 a1:bK}{k k1:List fJ}{cs:List az}{ops:Array bG}
theorem aa5{a:cL->aq}{u:aq}(h:pv a x=some u)(w:ag):(execOp a x).run P w=.ok (.value u) w:=by
 obtain⟨i,op,ty,pos,f,j⟩:=x;unfold pv at h;dsimp only at h;split at h;cases h;simp[go_sem];cases h;simp[go_sem];split at h;rename_i e k l d;simp[go_sem,d,h];grind;split at h;rename_i g e y b c;cases h;cases b<;>simp[go_sem,c];grind;grind
theorem aY.T(H:Held P F){i:Nat}{o:bG}(u)(d:ops[i]?=some o)(j:cV o (yielded ops a0.1)=true)(a:b.6≠ .early)(g:lh P F o=true)
  (c:∀T,(execOp a0.eval o).run P (aN v T)=.ok (.value u) (aN v T))(h:aY P F Q f v e s b (a0.put o.1 u) (.inRegion ops r::k) cs):aY P F Q f v e s b a0 (.inRegion ops (i::r)::k) cs:=by
 refine aY.op H d j a g (Y:=λa w=>a=u∧∃T,w=aN v T) (λT _=>⟨_,u,_,c T,af,rfl,T,rfl⟩) λa a d=>?_;obtain⟨rfl,T,c⟩:=d a.2 λ_ _=>rfl;have d:aN a v.2=v:=by
  have:=congrArg (λx=>aN x v.2) c;exact this
 exact aY.O _<|aw d h
theorem aY.ab(H:Held P F){i:Nat}(u)(a:bI)(g:ops[i]?=some x)(l:cV x (yielded ops a0.1)=true)(c:b.6≠ .early)(h:lh P F x=true)
  (d:∀T,(execOp a0.eval x).run P (aN v T)=.ok (.value u) (aN (v.alloc a) T))(j:aY P F Q f (v.alloc a) e s b (a0.put x.1 u) (.inRegion ops r::k) cs):aY P F Q f v e s b a0 (.inRegion ops (i::r)::k) cs:=by
 refine aY.op H g l c h (Y:=λc w=>c=u∧∃T,w=aN _ T) (λT _=>⟨_,u,_,d T,af,rfl,T,rfl⟩) λc c g=>?_;obtain⟨rfl,T,d⟩:=g c.2 λ_ _=>rfl;have g:aN c (v.alloc a).2=v.alloc a:=by
  have:=congrArg (λc=>aN c (v.alloc a).2) d;exact this
 exact aY.O _<|aw g j
def nth:List bG->Nat->Option bG
 | [],_=>none
 |o::_,0=>some o
 |_::l,n+1=>nth l n
theorem NW:∀l(i),nth l i=l[i]?
 | [],_=>rfl
 |_::_,0=>rfl
 |_::l,n+1=>NW l n
theorem wD{i:Nat}(h:nth ops.1 i=some x):ops[i]?=some x:=by rw[NW]at h;grind
def sY:Code->List (Array bG)
 | .region _ o _=> [o]
 | .seq a b=>sY a++sY b
 | .cond _ a b=>sY a++sY b
 | .block _ a=>sY a
 | .loop a=>sY a
 | .scope a=>sY a
 |_=> []
def NV:List (Array bG)->Nat->Array bG
 | [],_=> #[]
 |o::_,0=>o
 |_::l,n+1=>NV l n
def rg(f:Func)(i:Nat):Array Oper:=match f.9 with
 |some c=>NV (sY c) i
 |none=> #[]
inductive KB where
 |st (a:bK) (k:List fJ)
 |no
def Bc(a:bK):List fJ->KB
 | .code (.seq x y)::k=>.st a (.code x:: .code y::k)
 | .code .skip::k=>.st a k
 | .code (.region _ ops false)::k=>.st a (.inRegion ops (iK ops.size)::k)
 | .inRegion _ []::k=>.st a k
 | .inRegion ops (i::l)::k=>match nth ops.1 i with
  |some o=>bif cV o (yielded ops a.1)then(match pv a.eval o with
   |some u=>.st (a.put o.1 u) (.inRegion ops l::k)
   |none=>.no)else .st (a.put o.1 aj) (.inRegion ops l::k)
  |none=>.no
 | .code (.cond (.tmp t) c1 c2)::k=>match a.eval (.tmp t)with
  | .bool x=>.st a (.code (bif x then c1 else c2)::k)
  |_=>.no
 | .code (.block id c)::k=>.st a (.code c:: .inBlock id::k)
 | .inBlock _::k=>.st a k
 | .code (.loop c)::k=>.st a (.code c:: .inLoop c::k)
 | .inLoop c::k=>.st a (.code c:: .inLoop c::k)
 | .code (.exit id)::k=>match exitTo id k with
  |some b=>.st a b
  |none=>.no
 |_=>.no
def Ge(P:bj)(F:bw->Bool):List fJ->Bool
 | .inRegion ops (i::_)::_=>(ops[i]?).elim true (lh P F)
 |_=>true
theorem aY.cB(H:Held P F)(l:b.6≠ .early)(h:Go.Proofs.Bc a0 k=.st a1 k1)(g:Ge P F k=true)(a:aY P F Q f v e s b a1 k1 cs):aY P F Q f v e s b a0 k cs:=by
 unfold Go.Proofs.Bc at h;split at h;cases h;exact .I (λc w=>cM) a;cases h;exact .I (λc w=>qo) a;cases h;exact .I (λc w=>fK) a;cases h;exact .I (λc w=>cE) a;split at h;rename_i o d;replace d:=wD d;cases i:cV o (yielded _ a0.1)with
 |false=>rw[i]at h;cases h;exact .U d i a
 |true=>
  rw[i]at h;split at h;rename_i u n;cases h;have m:lh P F o=true:=by unfold Ge at g;dsimp only at g;rw[d]at g;exact g
  exact .T H _ d i l m (λT=>aa5 n _) a;cases h
 cases h;split at h;rename_i x j;cases h;refine .cW j ?_;rw[<-Bool.cond_eq_ite];exact a;cases h;cases h;exact .I (λc w=>vA) a;cases h;exact .I (λc w=>DK) a;cases h;exact .I (λc w=>DL) a;cases h;exact .I (λc w=>Ap) a;split at h;rename_i j;cases h;exact .I (λc w=>H0 j) a;cases h;cases h
def Bb:Nat->bK->List fJ->KB
 |0,a,k=>.st a k
 |n+1,a,k=>match Bc a k with
  | .st a1 k1=>Bb n a1 k1
  | .no=>.st a k
def Bd(P:bj)(F:bw->Bool):Nat->bK->List fJ->Bool
 |0,_,_=>true
 |n+1,a,k=>match Bc a k with
  | .st a1 k1=>Ge P F k&&Bd P F n a1 k1
  | .no=>true
theorem aY.dz(H:Held P F)(g:b.6≠ .early):∀(n) {a0:bK}{k:List fJ},Go.Proofs.Bb n a0 k=.st a1 k1->Bd P F n a0 k=true->aY P F Q f v e s b a1 k1 cs->aY P F Q f v e s b a0 k cs
 |0,_,_,h,_,c=>by cases h;exact c
 |n+1,_,_,h,a,c=>by
  unfold Go.Proofs.Bb at h;unfold Bd at a;split at h;rename_i d;rw[d]at a;rw[j_]at a;exact .cB H g d a.1<|aY.dz H g n h a.2 c;cases h;exact c
end
section
variable{Q:aG->az->List az->Prop}{f:Ren}{v:ag}{e s:Nat->Option bI}{fn g:bw}{a0 a1:bK}{k k1:List fJ}{cs:List az}{ops:Array bG}{i:Nat}{rest:List Nat}{o:bG}{oa:Array cL}{ats:Array bB}{x:Func}
theorem yz(f:bw):(base f).6≠ .early:=by unfold base;simp
theorem eo(n:Nat)(h:Bb n a0 k=.st a1 k1)(b:aY Tryz.prog cH Q f v e s (base fn) a1 k1 cs)(a:Bd Tryz.prog cH n a0 k=true:=by kernel_rfl):aY Tryz.prog cH Q f v e s (base fn) a0 k cs:=aY.dz mH (yz _) n h a b
theorem dZ(u:aq)(c:aY Tryz.prog cH Q f v e s (base fn) (a0.put o.1 u) (.inRegion ops rest::k) cs)(a:nth ops.1 i=some o:=by rfl)(d:Region.wanted o (yielded ops a0.1)=true:=by rfl)(b:lh Tryz.prog cH o=true:=by decide+kernel)
  (hl:∀T,(execOp a0.eval o).run Tryz.prog (aN v T)=.ok (.value u) (aN v T):=by intro T;simp[go_sem]):aY Tryz.prog cH Q f v e s (base fn) a0 (.inRegion ops (i::rest)::k) cs:=aY.T mH u (wD a) d (yz _) b hl c
theorem ask(b:aY Tryz.prog cH Q f v e s (base fn) (a0.put o.1 aj) (.inRegion ops rest::k) cs)(a:nth ops.1 i=some o:=by rfl)(c:Region.wanted o (yielded ops a0.1)=false:=by rfl):aY Tryz.prog cH Q f v e s (base fn) a0 (.inRegion ops (i::rest)::k) cs:=aY.U (wD a) c b
theorem Be(u:aq)(a:bI)(d:aY Tryz.prog cH Q f (v.alloc a) e s (base fn) (a0.put o.1 u) (.inRegion ops rest::k) cs)(b:nth ops.1 i=some o:=by rfl)(g:Region.wanted o (yielded ops a0.1)=true:=by rfl)(c:lh Tryz.prog cH o=true:=by decide+kernel)
  (hl:∀T,(execOp a0.eval o).run Tryz.prog (aN v T)=.ok (.value u) (aN (v.alloc a) T):=by intro T;rw[hB];simp[go_sem,aN];rfl):aY Tryz.prog cH Q f v e s (base fn) a0 (.inRegion ops (i::rest)::k) cs:=aY.ab mH u a (wD b) g (yz _) c hl d
theorem acl(h:Tryz.prog.funcs[g]?=some x)(b:Array aq){Post:ag->aq->ag->Prop}(d:∀T,aH g b (aN v T) λe a=>∃u,e=.returned u∧Post (aN v T) u a)
  (n:∀T c u a,a.2=v.2->Post (aN v T) u (aN a c)->aY Tryz.prog cH Q f a e s (base fn) (a0.put o.1 u) (.inRegion ops rest::k) cs)
  (l:nth ops.1 i=some o:=by rfl) (q:Region.wanted o (yielded ops a0.1)=true:=by rfl) (m:o.2=.call {callee:=.value<|.func g,args:=oa,argTypes:=ats}:=by rfl) (j:(x.1== "runtime.NumGoroutine")=false:=by rfl) (c:x.9.isNone=false:=by rfl) (hF:cH g=true:=by decide+kernel) (a:oa.all (fF cH)=true:=by decide+kernel) (p:oa.map a0.eval=b:=by simp[go_sem]):
  aY Tryz.prog cH Q f v e s (base fn) a0 (.inRegion ops (i::rest)::k) cs:=aY.Z mH (wD l) q (yz _) m h j c hF a p d n
theorem sB(h:Tryz.prog.funcs[g]?=some x)(a:Array aq)(d:Goes Tryz.prog cH g a f v e s e4)(n:∀u b,e4 u b->aY Tryz.prog cH Q f b e s (base fn) (a0.put o.1 u) (.inRegion ops rest::k) cs)
  (l:nth ops.1 i=some o:=by rfl) (p:Region.wanted o (yielded ops a0.1)=true:=by rfl) (m:o.2=.call {callee:=.value<|.func g,args:=oa,argTypes:=ats}:=by rfl) (j:(x.1== "runtime.NumGoroutine")=false:=by rfl) (c:x.9.isNone=false:=by rfl) (b:oa.all (fF cH)=true:=by decide+kernel) (hv:oa.map a0.eval=a:=by simp[go_sem]):
  aY Tryz.prog cH Q f v e s (base fn) a0 (.inRegion ops (i::rest)::k) cs:=aY.Y (wD l) p (yz _) m h j c b hv d n
theorem abZ{p:Ending->ag->Prop}(h:∀e w,p e w->∃u,e=.returned u:=by intro _ _ h;repeat first|(obtain⟨rfl,_⟩:=h;exact⟨_,rfl⟩)|(subst h;exact⟨_,rfl⟩)|(obtain⟨_,h⟩:=h)):∀e w,p e w->∃u,e=.returned u:=h
theorem oT(j:Tryz.prog.funcs[g]?=some x){R:(Nat->jq->Nat)->Ending->ag->Prop}(h:∀T,aH g D (aN v T) (R T))
  (q:∀T b u a,a.2=v.2->R T (.returned u) (aN a b)->aY Tryz.prog cH Q f a e s (base fn) (a0.put o.1 u) (.inRegion ops rest::k) cs)
  (p:∀T e w,R T e w->∃u,e=.returned u:=by intro T;exact abZ)(m:nth ops.1 i=some o:=by rfl) (r:Region.wanted o (yielded ops a0.1)=true:=by rfl) (n:o.2=.call {callee:=.value<|.func g,args:=oa,argTypes:=ats}:=by rfl) (l:(x.1== "runtime.NumGoroutine")=false:=by rfl) (d:x.9.isNone=false:=by rfl) (hF:cH g=true:=by decide+kernel) (c:oa.all (fF cH)=true:=by decide+kernel) (hv:oa.map a0.eval=D:=by simp[go_sem]):
  aY Tryz.prog cH Q f v e s (base fn) a0 (.inRegion ops (i::rest)::k) cs:=acl (Post:=λ_ u w=>∃T,R T (.returned u) w) j D (λT=>(h T).mono λe w h=>let⟨u,i⟩:=p T e w h; ⟨u,i,T,i▸h⟩) (λ_ b u a h ⟨T,i⟩=>q T b u a h i) m r n l d hF c hv
theorem yg{n m:Nat}(a:n=m)(g:X)(i:n=m->X->W:=by intro a b;simp only [a,List.size_toArray,List.length_cons,List.length_nil,Nat.reduceAdd,Nat.reduceSub,Array.replicate_succ,Array.replicate_zero,List.push_toArray,List.append_toArray,List.nil_append,List.cons_append];exact b):W:=i a g
theorem bY(u:aq)(g:X)(i:∀z,z=u->X->W:=by intro z a b;refine dZ z ?_ (hl:=λT=>by simp[go_sem,a]);subst a;walk_nrm;exact b):W:=i u rfl g
theorem ck(g:X)(i:X->W:=by intro a;refine eo 99 rfl ?_; (try walk_nrm);exact a):W:=i g
end
section
variable{P:bj}{F:bw->Bool}{Q:aG->az->List az->Prop}{f g:Ren}{v:ag}{e s:Nat->Option bI}{b:az}{a0 a:bK}{k k1:List fJ}{cs:List az}{ops:Array bG}
theorem aav{v a:ag}(h:aN a a9=aN v d1)(b:a.2=v.2):a=v:=by
 have b:aN (aN a a9) a.2=aN (aN v d1) v.2:=aJ
 exact b
theorem piece{l:List bG}{i:Nat}(h:(ops.1.drop i).take l=l):∀j,j<l.length->l[j]?=ops[i+j]? :=by
 grind
theorem aY.ac{id:Nat}(j:P.follows .mixedOrders=true)(l:∀t,aY P F Q f v e s b a0 (.inRegion ops (Region.linearise .any ops t)::k) cs):aY P F Q f v e s b a0 (.code (.region id ops true)::k) cs:=by
 intro g a c d i;refine(Go.Proofs.Comes.O (Q:=λr fr cs=>Go.Proofs.Comes P F r fr cs Q) ?_).B af;refine .U λw h=>⟨_,cs,_,#[],_,stepG_region_draw,h.I af<|cP _,⟨rfl,rfl,rfl,af,af,λ_ h=>.inl h,af⟩,af,?_⟩;simp[j];exact .O<|l _ g a c d i
end
noncomputable abbrev abH:=rg f39 0
noncomputable abbrev abI:=rg f39 1
noncomputable abbrev abJ:=rg f39 2
noncomputable abbrev abK:=rg f39 3
abbrev d_:Array Oper:= #[{dst:=some 20,op:=iI (bz 5),type:=31,pos:= "upshot.go:36",after:= #[],guard:=none},{dst:=some 21,op:=Op.nilCheck (bz 20),type:=0,pos:= "upshot.go:36",after:= #[{on:=0,ground:=cY}],guard:=none},{dst:=some 22,op:=Op.fieldAddr 102 (bz 21) 2,type:=0,pos:= "upshot.go:36",after:= #[{on:=1,ground:=cY}],guard:=none},{dst:=some 23,op:=Op.load 100 (bz 22),type:=100,pos:= "upshot.go:36",after:= #[{on:=2,ground:=cY}],guard:=none},{dst:=some 24,op:=iI (bz 5),type:=31,pos:= "upshot.go:36",after:= #[],guard:=none},{dst:=some 25,op:=iI (bz 0),type:=88,pos:= "upshot.go:36",after:= #[],guard:=none},{dst:=some 26,op:=Op.call {callee:=nD (oG 80),args:= #[bz 24,bz 25],argTypes:= #[31,88]},type:=93,pos:= "upshot.go:36",after:= #[{on:=4,ground:=cY},{on:=5,ground:=cY}],guard:=none},{dst:=some 27,op:=Op.call {callee:=nD (oG 79),args:= #[bz 23,bz 26],argTypes:= #[100,93]},type:=0,pos:= "upshot.go:36",after:= #[{on:=3,ground:=cY},{on:=6,ground:=cY},{on:=6,ground:=Ground.chain}],guard:=none}]
noncomputable abbrev abL:=rg f39 5
noncomputable abbrev Tz:Code:=((bH 0 abH false).seq ((bH 1 abI false).seq ((bH 2 abJ false).seq ((bH 3 abK false).seq ((bH 4 d_ true).seq ((bH 5 abL false).seq kL))))))
def I4(v:ag)(fn:gq)(c:List Lay)(R:Nat->aW->Prop)(u:aq)(k:ag):Prop:=
 ∃a h j i g d F e f b K N,u=.pointer (some ⟨a,0,none⟩)∧v<=a∧v.1.size<=N∧dQ k a h j i g fn d F e f b K N∧b.map js=c∧(fn.map bD).Perm (d.map bD)∧(∀p∈b,p.1.1=p.2.2)∧R c F
section
variable{f:Ren}{v:ag}{e s:Nat->Option bI}{h:ai}{ad:Option bC}{l c:Nat}{cs:List bk}{R:Nat->aW->Prop}
structure gM(ad:Option bC)(l c eb pb:Nat)(d0 d1 d2 d3 d4 d5:Bool)(a:bK):Prop where
 sL:a.2= []
 B:a.1.size=29
 m:a.eval (.tmp 0)=.slice ad l c
 Z:a.eval (.tmp 5)=.pointer (some ⟨eb,0,none⟩)
 Y:d0=true->a.eval (.tmp 20)=.pointer (some ⟨eb,0,none⟩)
 V:d1=true->a.eval (.tmp 21)=.pointer (some ⟨eb,0,none⟩)
 U:d2=true->a.eval (.tmp 22)=.pointer (some ⟨eb,2,none⟩)
 T:d3=true->a.eval (.tmp 23)=.pointer (some ⟨pb,0,none⟩)
 O:d4=true->a.eval (.tmp 24)=.pointer (some ⟨eb,0,none⟩)
 I:d5=true->a.eval (.tmp 25)=.slice ad l c
structure en(ad:Option bC)(l c:Nat)(cs:List bk)(eb nb sb pb mb:Nat)(fn:gq)(bs:bO)(la:Option bC)(lc:Nat)(ps:List (eO×Lay))(K h:ai)(N:Nat)(d0 d1 d2 d3 d4 d5 d6:Bool)(a:bK)(w:ag):Prop extends gM ad l c eb pb d0 d1 d2 d3 d4 d5 a where
 bN:dQ w eb nb sb pb mb fn bs (if d6 then(g_ (λ_=> []) cs).1 else λ_=> []) la lc ps K N
 kx:h.In w
 ab:d6=true->∃M,fY w M 156 5 dC h (a.eval (.tmp 26)) (g_ (λ_=> []) cs).2
def pd(d0 a b e c d f g:Bool)(i:Nat):Bool:=(i==0&& !d0)||(i==1&& !a&&d0)||(i==2&& !b&&a)||(i==3&& !e&&b)||(i==4&& !c)||(i==5&& !d)||(i==6&& !f&&c&&d)||(i==7&& !g&&d0&&a&&b&&e&&c&&d&&f)
noncomputable def E6(d0 a b c d e f g:Bool):Bool:=(!(er .any d_ #[d0,a,b,c,d,e,f,g]).isEmpty||(d0&&a&&b&&c&&d&&e&&f&&g))&&(er .any d_ #[d0,a,b,c,d,e,f,g]).all (pd d0 a b c d e f g)
theorem Mg:∀d0 b c d f g a e,(d&& !c||c&& !b||b&& !d0||a&& !f||a&& !g||e&& !a||e&& !d||E6 d0 b c d f g a e)=true:=bb
section
variable{ad:Option bC}{l c eb nb sb pb mb:Nat}{d0 d1 d2 d3 d4 d5 d6 d7:Bool}{a:bK}{w w':ag}{cs:List bk}{fn:gq}{bs:bO}{F F':aW}{la:Option bC}{lc:Nat}{ps:List (eO×Lay)}{K h:ai}{N:Nat}{Q:aG->az->List az->Prop}{f:Ren}{e s:Nat->Option bI}{k:List fJ}{cs1:List az}
theorem gM.p0(A:gM ad l c eb pb d0 d1 d2 d3 d4 d5 a):gM ad l c eb pb true d1 d2 d3 d4 d5<|a.put (some 20)<|.pointer<|some ⟨eb,0,none⟩:=⟨A.sL,(vI ..).trans A.B,(dS _ _ _ _ aA).trans A.m,(dS _ _ _ _ aA).trans A.Z,λ_=>xo _ _ _ (by rw[A.B];omega),λh=>(dS _ _ _ _ aA).trans<|A.V h,λh=>(dS _ _ _ _ aA).trans<|A.U h,λh=>(dS _ _ _ _ aA).trans<|A.T h,λh=>(dS _ _ _ _ aA).trans<|A.O h,λh=>(dS _ _ _ _ aA).trans<|A.I h⟩
theorem gM.p1(A:gM ad l c eb pb d0 d1 d2 d3 d4 d5 a):gM ad l c eb pb d0 true d2 d3 d4 d5<|a.put (some 21)<|.pointer<|some ⟨eb,0,none⟩:=⟨A.sL,(vI ..).trans A.B,(dS _ _ _ _ aA).trans A.m,(dS _ _ _ _ aA).trans A.Z,λh=>(dS _ _ _ _ aA).trans<|A.Y h,λ_=>xo _ _ _ (by rw[A.B];omega),λh=>(dS _ _ _ _ aA).trans<|A.U h,λh=>(dS _ _ _ _ aA).trans<|A.T h,λh=>(dS _ _ _ _ aA).trans<|A.O h,λh=>(dS _ _ _ _ aA).trans<|A.I h⟩
theorem gM.p2(A:gM ad l c eb pb d0 d1 d2 d3 d4 d5 a):gM ad l c eb pb d0 d1 true d3 d4 d5<|a.put (some 22)<|.pointer<|some ⟨eb,2,none⟩:=⟨A.sL,(vI ..).trans A.B,(dS _ _ _ _ aA).trans A.m,(dS _ _ _ _ aA).trans A.Z,λh=>(dS _ _ _ _ aA).trans<|A.Y h,λh=>(dS _ _ _ _ aA).trans<|A.V h,λ_=>xo _ _ _ (by rw[A.B];omega),λh=>(dS _ _ _ _ aA).trans<|A.T h,λh=>(dS _ _ _ _ aA).trans<|A.O h,λh=>(dS _ _ _ _ aA).trans<|A.I h⟩
theorem gM.p3(A:gM ad l c eb pb d0 d1 d2 d3 d4 d5 a):gM ad l c eb pb d0 d1 d2 true d4 d5<|a.put (some 23)<|.pointer<|some ⟨pb,0,none⟩:=⟨A.sL,(vI ..).trans A.B,(dS _ _ _ _ aA).trans A.m,(dS _ _ _ _ aA).trans A.Z,λh=>(dS _ _ _ _ aA).trans<|A.Y h,λh=>(dS _ _ _ _ aA).trans<|A.V h,λh=>(dS _ _ _ _ aA).trans<|A.U h,λ_=>xo _ _ _ (by rw[A.B];omega),λh=>(dS _ _ _ _ aA).trans<|A.O h,λh=>(dS _ _ _ _ aA).trans<|A.I h⟩
theorem gM.p4(A:gM ad l c eb pb d0 d1 d2 d3 d4 d5 a):gM ad l c eb pb d0 d1 d2 d3 true d5<|a.put (some 24)<|.pointer<|some ⟨eb,0,none⟩:=⟨A.sL,(vI ..).trans A.B,(dS _ _ _ _ aA).trans A.m,(dS _ _ _ _ aA).trans A.Z,λh=>(dS _ _ _ _ aA).trans<|A.Y h,λh=>(dS _ _ _ _ aA).trans<|A.V h,λh=>(dS _ _ _ _ aA).trans<|A.U h,λh=>(dS _ _ _ _ aA).trans<|A.T h,λ_=>xo _ _ _ (by rw[A.B];omega),λh=>(dS _ _ _ _ aA).trans<|A.I h⟩
theorem gM.iX(A:gM ad l c eb pb d0 d1 d2 d3 d4 d5 a):gM ad l c eb pb d0 d1 d2 d3 d4 true<|a.put (some 25)<|.slice ad l c:=⟨A.sL,(vI ..).trans A.B,(dS _ _ _ _ aA).trans A.m,(dS _ _ _ _ aA).trans A.Z,λh=>(dS _ _ _ _ aA).trans<|A.Y h,λh=>(dS _ _ _ _ aA).trans<|A.V h,λh=>(dS _ _ _ _ aA).trans<|A.U h,λh=>(dS _ _ _ _ aA).trans<|A.T h,λh=>(dS _ _ _ _ aA).trans<|A.O h,λ_=>xo _ _ _ (by rw[A.B];omega)⟩
theorem gM.rK(u:aq)(A:gM ad l c eb pb d0 d1 d2 d3 d4 d5 a):gM ad l c eb pb d0 d1 d2 d3 d4 d5<|a.put (some 26)<|u:=⟨A.sL,(vI ..).trans A.B,(dS _ _ _ _ aA).trans A.m,(dS _ _ _ _ aA).trans A.Z,λh=>(dS _ _ _ _ aA).trans<|A.Y h,λh=>(dS _ _ _ _ aA).trans<|A.V h,λh=>(dS _ _ _ _ aA).trans<|A.U h,λh=>(dS _ _ _ _ aA).trans<|A.T h,λh=>(dS _ _ _ _ aA).trans<|A.O h,λh=>(dS _ _ _ _ aA).trans<|A.I h⟩
theorem en.p0(A:en ad l c cs eb nb sb pb mb fn bs la lc ps K h N d0 d1 d2 d3 d4 d5 d6 a w):en ad l c cs eb nb sb pb mb fn bs la lc ps K h N true d1 d2 d3 d4 d5 d6 (a.put (some 20)<|.pointer<|some ⟨eb,0,none⟩) w:=⟨A.togM.p0,A.bN,A.kx,λb=>by rw[dS _ _ _ _ aA];exact A.ab b⟩
theorem en.p1(A:en ad l c cs eb nb sb pb mb fn bs la lc ps K h N d0 d1 d2 d3 d4 d5 d6 a w):en ad l c cs eb nb sb pb mb fn bs la lc ps K h N d0 true d2 d3 d4 d5 d6 (a.put (some 21)<|.pointer<|some ⟨eb,0,none⟩) w:=⟨A.togM.p1,A.bN,A.kx,λb=>by rw[dS _ _ _ _ aA];exact A.ab b⟩
theorem en.p2(A:en ad l c cs eb nb sb pb mb fn bs la lc ps K h N d0 d1 d2 d3 d4 d5 d6 a w):en ad l c cs eb nb sb pb mb fn bs la lc ps K h N d0 d1 true d3 d4 d5 d6 (a.put (some 22)<|.pointer<|some ⟨eb,2,none⟩) w:=⟨A.togM.p2,A.bN,A.kx,λb=>by rw[dS _ _ _ _ aA];exact A.ab b⟩
theorem en.p3(A:en ad l c cs eb nb sb pb mb fn bs la lc ps K h N d0 d1 d2 d3 d4 d5 d6 a w):en ad l c cs eb nb sb pb mb fn bs la lc ps K h N d0 d1 d2 true d4 d5 d6 (a.put (some 23)<|.pointer<|some ⟨pb,0,none⟩) w:=⟨A.togM.p3,A.bN,A.kx,λb=>by rw[dS _ _ _ _ aA];exact A.ab b⟩
theorem en.p4(A:en ad l c cs eb nb sb pb mb fn bs la lc ps K h N d0 d1 d2 d3 d4 d5 d6 a w):en ad l c cs eb nb sb pb mb fn bs la lc ps K h N d0 d1 d2 d3 true d5 d6 (a.put (some 24)<|.pointer<|some ⟨eb,0,none⟩) w:=⟨A.togM.p4,A.bN,A.kx,λb=>by rw[dS _ _ _ _ aA];exact A.ab b⟩
theorem en.iX(A:en ad l c cs eb nb sb pb mb fn bs la lc ps K h N d0 d1 d2 d3 d4 d5 d6 a w):en ad l c cs eb nb sb pb mb fn bs la lc ps K h N d0 d1 d2 d3 d4 true d6 (a.put (some 25)<|.slice ad l c) w:=⟨A.togM.iX,A.bN,A.kx,λb=>by rw[dS _ _ _ _ aA];exact A.ab b⟩
theorem ZJ(a:(d3&& !d2||d2&& !d1||d1&& !d0||d6&& !d4||d6&& !d5||d7&& !d6||d7&& !d3)=false)(c:b∈er .any d_ #[d0,d1,d2,d3,d4,d5,d6,d7]):pd d0 d1 d2 d3 d4 d5 d6 d7 b=true:=by
 have h:=Mg d0 d1 d2 d3 d4 d5 d6 d7;rw[a,Bool.false_or]at h;unfold E6 at h;grind
theorem W8(a:(d3&& !d2||d2&& !d1||d1&& !d0||d6&& !d4||d6&& !d5||d7&& !d6||d7&& !d3)=false)(b:er .any d_ #[d0,d1,d2,d3,d4,d5,d6,d7]= []):d7=true:=by
 have h:=Mg d0 d1 d2 d3 d4 d5 d6 d7;rw[a,Bool.false_or]at h;unfold E6 at h;grind
theorem ae.dz{v a:ag}{T b:Nat->jq->Nat}{D:Nat->Prop}(h:ae D (aN v T)<|aN a b)(b:a.2=v.2):ae D v a:=⟨h.1,b,h.3,h.4,h.5⟩
theorem dQ.V(E:dQ w eb nb sb pb mb fn bs F la lc ps K N)(d:ae (λb=>∃p∈bs,p.2=b) w w')(j:aO w' sb bs F'):dQ w' eb nb sb pb mb fn bs F' la lc ps K N:=by
 have g:∀ {b cs t},w.1[b]?=some (.cells cs t)->¬ ∃p∈bs,p.2=b:=by
  rintro b cs t e ⟨p,c,rfl⟩;obtain⟨f,cl,f,_⟩:=E.3.2 p c;rw[f]at e;cases e
 have i:∀ {b},N<=b->¬ ∃p∈bs,p.2=b:=by
  rintro b e ⟨p,c,rfl⟩;have:=E.4.2 p c;omega
 refine⟨d.O E.1<|g E.1,E.2.B d λh=>E.5.2<|.inr h,j,E.4,E.5,E.6,d.O E.7<|g E.7,λl p c=>?_,E.9.B d λh=>E.6.2<|.inr h,λp c=>⟨(E.10 p c).1,(E.10 p c).2.B (E.10 p c).1 λa o _ j k=>d.O k<|i j⟩,E.11.B d λb o e=>i<|E.13 b o e,E.12,E.13,E.14,E.15⟩;obtain⟨al,k,e,f,b,i,j⟩:=E.8 l p c;exact⟨al,k,e,f,d.O b<|g b,i,j⟩
def qK(d0 d1 d2 d3 d4 d5 d6 d7:Bool):Nat:=(if d0 then 0 else 1)+(if d1 then 0 else 1)+(if d2 then 0 else 1)+(if d3 then 0 else 1)+(if d4 then 0 else 1)+(if d5 then 0 else 1)+(if d6 then 0 else 1)+(if d7 then 0 else 1)
theorem run_move{a:cL}(h:x.2=.move a)(w:ag):(execOp P x).run a7 w=.ok (.value<|P a) w:=by
 obtain⟨a,op,ty,pos,a,a⟩:=x;subst h;rfl
theorem acC(A:en ad l c cs eb nb sb pb mb fn bs la lc ps K h N d0 d1 d2 d3 d4 d5 d6 a w)(d:∀b,en ad l c cs eb nb sb pb mb fn bs la lc ps K h N true d1 d2 d3 d4 d5 d6 b w->aY Tryz.prog cH Q f w e s (base 39) b (.inRegion d_ r::k) cs1):aY Tryz.prog cH Q f w e s (base 39) a (.inRegion d_ (0::r)::k) cs1:=aY.T mH (.pointer<|some ⟨eb,0,none⟩) rfl rfl (base_kind _) bb (λT=>(run_move rfl _).trans<|fN A.Z)<|d _ A.p0
theorem acD(A:en ad l c cs eb nb sb pb mb fn bs la lc ps K h N true d1 d2 d3 d4 d5 d6 a w)(d:∀b,en ad l c cs eb nb sb pb mb fn bs la lc ps K h N true true d2 d3 d4 d5 d6 b w->aY Tryz.prog cH Q f w e s (base 39) b (.inRegion d_ r::k) cs1):aY Tryz.prog cH Q f w e s (base 39) a (.inRegion d_ (1::r)::k) cs1:=by
 refine aY.T mH _ rfl rfl (base_kind _) bb (λT=>?_)<|d _ A.p1;have b:=A.Y rfl;revert b;generalize a.eval=d;intro b;simp[go_sem,b]
theorem acE(A:en ad l c cs eb nb sb pb mb fn bs la lc ps K h N d0 true d2 d3 d4 d5 d6 a w)(d:∀b,en ad l c cs eb nb sb pb mb fn bs la lc ps K h N d0 true true d3 d4 d5 d6 b w->aY Tryz.prog cH Q f w e s (base 39) b (.inRegion d_ r::k) cs1):aY Tryz.prog cH Q f w e s (base 39) a (.inRegion d_ (2::r)::k) cs1:=by
 refine aY.T mH _ rfl rfl (base_kind _) bb (λT=>?_)<|d _ A.p2;have b:=A.V rfl;revert b;generalize a.eval=d;intro b;simp[go_sem,b]
theorem acF(A:en ad l c cs eb nb sb pb mb fn bs la lc ps K h N d0 d1 true d3 d4 d5 d6 a w)(d:∀b,en ad l c cs eb nb sb pb mb fn bs la lc ps K h N d0 d1 true true d4 d5 d6 b w->aY Tryz.prog cH Q f w e s (base 39) b (.inRegion d_ r::k) cs1):aY Tryz.prog cH Q f w e s (base 39) a (.inRegion d_ (3::r)::k) cs1:=by
 refine aY.T mH _ rfl rfl (base_kind _) bb (λT=>?_)<|d _ A.p3;have b:=A.U rfl;revert b;generalize a.eval=d;intro b;obtain⟨_,_,d,_⟩:=bq (w:=aN w T) A.bN.1;simp[go_sem,b,d]
theorem acG(A:en ad l c cs eb nb sb pb mb fn bs la lc ps K h N d0 d1 d2 d3 d4 d5 d6 a w)(d:∀b,en ad l c cs eb nb sb pb mb fn bs la lc ps K h N d0 d1 d2 d3 true d5 d6 b w->aY Tryz.prog cH Q f w e s (base 39) b (.inRegion d_ r::k) cs1):aY Tryz.prog cH Q f w e s (base 39) a (.inRegion d_ (4::r)::k) cs1:=aY.T mH (.pointer<|some ⟨eb,0,none⟩) rfl rfl (base_kind _) bb (λT=>(run_move rfl _).trans<|fN A.Z)<|d _ A.p4
theorem acH(A:en ad l c cs eb nb sb pb mb fn bs la lc ps K h N d0 d1 d2 d3 d4 d5 d6 a w)(d:∀b,en ad l c cs eb nb sb pb mb fn bs la lc ps K h N d0 d1 d2 d3 d4 true d6 b w->aY Tryz.prog cH Q f w e s (base 39) b (.inRegion d_ r::k) cs1):aY Tryz.prog cH Q f w e s (base 39) a (.inRegion d_ (5::r)::k) cs1:=aY.T mH (.slice ad l c) rfl rfl (base_kind _) bb (λT=>(run_move rfl _).trans<|fN A.m)<|d _ A.iX
theorem aM.al{c:Type}{v:ag}{M a sz:Nat}{R:ai->List aq->c->Prop}{k:ai}{u:aq}{b:List c}(h:aM (aN v a9) M a sz R k u b):aM v M a sz R k u b:=by
 obtain⟨a1,a2,a,c,d,e,f,g⟩:=h;exact⟨λb o i=>a1 b o i,a2,a,c,d,e,f,g⟩
def Ek(bs:bO)(c:bk):Prop:=c.1.2.length<=3∧aL c.1.n∧(aB bs c.1.n).isSome=true
theorem acI(m:h.list 3 dg (.slice ad l c) cs)(n:cs.length<=1048576)(t:∀c∈cs,Ek bs c)(o:∀p∈bs,h p.2=none)(A:en ad l c cs eb nb sb pb mb fn bs la lc ps K h N d0 d1 d2 d3 true true false a w)
  (q:∀b w',en ad l c cs eb nb sb pb mb fn bs la lc ps K h N d0 d1 d2 d3 true true true b w'->aY Tryz.prog cH Q f w' e s (base 39) b (.inRegion d_ r::k) cs1):aY Tryz.prog cH Q f w e s (base 39) a (.inRegion d_ (6::r)::k) cs1:=by
 have i:(#[.tmp 24,.tmp 25]:Array _).map a.eval= #[.pointer<|some ⟨eb,0,none⟩,.slice ad l c]:=by
  have b:=A.O rfl;have d:=A.I rfl;revert b d;generalize a.eval=g;intro b d;simp[b,d]
 have E:=A.bN;have g:=E;refine aY.Z mH rfl rfl (base_kind _) rfl func80 rfl rfl bb bb (args:= #[.pointer<|some ⟨eb,0,none⟩,.slice ad l c]) i
  (Post:=λw u w'=>ae (λi=>∃p∈bs,p.2=i) w w'∧aO w' sb bs (g_ (λ_=> []) cs).1∧aM w' w.1.size 156 5 dC h u (g_ (λ_=> []) cs).2∧gN w' u (Flat ·=true)) (λT=>?_) λT i u j p i=>?_
 refine(Vu (h:=h) (w:=aN w T) A.kx g.1 (g.3.T λ_ _ _ _ h=>h) o m n t).mono ?_;grind;obtain⟨b,d,m,n⟩:=i;have i:=b.dz p;have b:aO j sb bs (g_ (λ_=> []) cs).1:=d.T λ_ _ _ _ h=>h;refine q _ _ ⟨A.togM.rK u,aw (if_pos rfl)<|g.V i b,A.kx.B i ?_,λ_=>⟨w.1.size,?_⟩⟩;grind;show fY j w.1.size 156 5 dC h ((a.put (some 26) u).eval<|.tmp 26) (g_ (λ_=> []) cs).2;rw[xo _ _ _ (by rw[A.B];omega)];exact⟨m.al,λg b=>n g b⟩
theorem SV(p:h.list 3 dg (.slice ad l c) cs)(q:cs.length<=1048576)(v:∀c∈cs,Ek bs c)(u:∀b∈bs,h b.2=none)
  (m:∀b w',en ad l c cs eb nb sb pb mb fn bs la lc ps K h N true true true true true true true b w'->aY Tryz.prog cH Q f w' e s (base 39) b (.inRegion d_ [7]::k) cs1):
  ∀(d t:Nat)(d0 d1 d2 d3 d4 d5 d6:Bool)(a:bK)(w:ag),qK d0 d1 d2 d3 d4 d5 d6 false=d+1->(d3&& !d2||d2&& !d1||d1&& !d0||d6&& !d4||d6&& !d5||false&& !d6||false&& !d3)=false->en ad l c cs eb nb sb pb mb fn bs la lc ps K h N d0 d1 d2 d3 d4 d5 d6 a w->
   aY Tryz.prog cH Q f w e s (base 39) a (.inRegion d_ (xG .any d_ (d+1) t #[d0,d1,d2,d3,d4,d5,d6,false] [])::k) cs1:=by
 intro d;induction d with
 |zero=>
  intro t d0 d1 d2 d3 d4 d5 d6 a w g n h;obtain⟨rfl,rfl,rfl,rfl,rfl,rfl,rfl⟩:d0=true∧d1=true∧d2=true∧d3=true∧d4=true∧d5=true∧d6=true:=by
   cases d0<;>cases d1<;>cases d2<;>cases d3<;>cases d4<;>cases d5<;>cases d6<;>first|exact⟨rfl,rfl,rfl,rfl,rfl,rfl,rfl⟩|exact absurd n aA|exact absurd g aA
  have j:er .any d_ #[true,true,true,true,true,true,true,false]= [7]:=bb;change aY Tryz.prog cH Q f w e s (base 39) a (.inRegion d_ (match(er .any d_ #[true,true,true,true,true,true,true,false])[t % (er .any d_ #[true,true,true,true,true,true,true,false]).length]? with
   |some i=> [i].reverse
   |none=> [].reverse)::k) cs1
  rw[j];simp only[DN,Nat.mod_one];exact m _ _ h
 |succ d m=>
  intro t d0 d1 d2 d3 d4 d5 d6 a w g n h;rw[Region.linearise.go.eq_def];dsimp only
  change aY Tryz.prog cH Q f w e s (base 39) a (.inRegion d_ (match(er .any d_ #[d0,d1,d2,d3,d4,d5,d6,false])[t % (er .any d_ #[d0,d1,d2,d3,d4,d5,d6,false]).length]? with
   |some i=>xG .any d_ (d+1) (t/ (er .any d_ #[d0,d1,d2,d3,d4,d5,d6,false]).length) ((#[d0,d1,d2,d3,d4,d5,d6,false]:Array Bool).setIfInBounds i true) [i]
   |none=> [].reverse)::k) cs1
  cases d:(er .any d_ #[d0,d1,d2,d3,d4,d5,d6,false])[t % (er .any d_ #[d0,d1,d2,d3,d4,d5,d6,false]).length]? with
  |none=>
   exfalso;have r:er .any d_ #[d0,d1,d2,d3,d4,d5,d6,false]= []:=by
    cases j:er .any d_ #[d0,d1,d2,d3,d4,d5,d6,false]with
    |nil=>rfl
    |cons x o=>
     rw[j]at d;have j:t % (x::o).length<(x::o).length:=Ay _ af;grind
   have:=W8 n r;grind
  |some i=>
   have j:=ZJ n<|cA d;simp;rw[linearise_go_acc,List.reverse_singleton,List.singleton_append];have d:i=0∨i=1∨i=2∨i=3∨i=4∨i=5∨i=6∨i=7:=by
    simp only[pd,Ag,j_,beq_iff_eq]at j;omega
   obtain rfl|rfl|rfl|rfl|rfl|rfl|rfl|rfl:=d;obtain rfl:d0=false:=by simpa[pd]using j
   exact acC h λb d=>m _ true d1 d2 d3 d4 d5 d6 b w (by simp[qK]at g⊢;omega) (by grind) d;obtain⟨rfl,rfl⟩:d1=false∧d0=true:=by simpa[pd]using j
   exact acD h λb d=>m _ true true d2 d3 d4 d5 d6 b w (by simp[qK]at g⊢;omega) (by grind) d;obtain⟨rfl,rfl⟩:d2=false∧d1=true:=by simpa[pd]using j
   exact acE h λb d=>m _ d0 true true d3 d4 d5 d6 b w (by simp[qK]at g⊢;omega) (by grind) d;obtain⟨rfl,rfl⟩:d3=false∧d2=true:=by simpa[pd]using j
   exact acF h λb d=>m _ d0 d1 true true d4 d5 d6 b w (by simp[qK]at g⊢;omega) (by grind) d;obtain rfl:d4=false:=by simpa[pd]using j
   exact acG h λb d=>m _ d0 d1 d2 d3 true d5 d6 b w (by simp[qK]at g⊢;omega) (by grind) d;obtain rfl:d5=false:=by simpa[pd]using j
   exact acH h λb d=>m _ d0 d1 d2 d3 d4 true d6 b w (by simp[qK]at g⊢;omega) (by grind) d;obtain⟨rfl,rfl,rfl⟩:d6=false∧d4=true∧d5=true:=by simpa[pd,and_assoc]using j
   exact acI p q v u h λb w' d=>m _ d0 d1 d2 d3 true true true b w' (by simp[qK]at g⊢;omega) (by grind) d;exfalso;obtain⟨rfl,rfl,rfl,rfl,rfl,rfl,rfl⟩:d0=true∧d1=true∧d2=true∧d3=true∧d4=true∧d5=true∧d6=true:=by simpa[pd,and_assoc]using j
   simp[qK]at g
theorem abS(d:h.list 3 dg (.slice ad l c) cs)(i:cs.length<=1048576)(n:∀c∈cs,Ek bs c)(j:∀p∈bs,h p.2=none)(A:gM ad l c eb pb false false false false false false a)(E:dQ w eb nb sb pb mb fn bs (λ_=> []) la lc ps K N)(g:h.In w)
  (m:∀b w',en ad l c cs eb nb sb pb mb fn bs la lc ps K h N true true true true true true true b w'->aY Tryz.prog cH Q f w' e s (base 39) b (.inRegion d_ [7]::k) cs1):aY Tryz.prog cH Q f w e s (base 39) a (.code (.region 4 d_ true)::k) cs1:=
 aY.ac mixed λt=>SV d i n j m 7 t false false false false false false false a w rfl rfl ⟨A,E,g,λh=>nomatch h⟩
end
end
end
section
open Go.Shelf
def Tryz.Nj:mf:=⟨λ|7=>76|10=>135|n=>n,λ|23=>97|26=>9|3=>107|28=>149|0=>0|27=>148|33=>28|4=>4|n=>n,λ|n=>n⟩
theorem Tryz.Ni:RQ Tryz.prog Tryz.Nj:=by
 constructor<;>first|kernel_rfl|(intro w;kernel_rfl)|(intro w;rfl)|exact⟨f76.1,aA,func76.trans<|congrArg some ah⟩|exact⟨f135.1,aA,func135.trans<|congrArg some ah⟩
def Tryz.WG:mf:=⟨λ|8=>75|11=>134|n=>n,λ|26=>9|28=>149|24=>23|0=>0|33=>28|4=>4|n=>n,λ|n=>n⟩
theorem Tryz.Mk:aeP Tryz.prog Tryz.WG:=by
 constructor<;>first|kernel_rfl|(intro w;kernel_rfl)|(intro w;rfl)|exact⟨f75.1,aA,func75.trans<|congrArg some ah⟩|exact⟨f134.1,aA,func134.trans<|congrArg some ah⟩
end
section
open Go.Sort Go.Maps
abbrev KR:aq->Option (IQ Unit×List MemPlace):=λ_=>some (.nil,[])
theorem Oe(x:Go.Lit×IQ h):∀l,(Ku x l).Perm<|x::l
 | []=>.refl _
 |y::r=>by
  unfold Ku;split;simp_all;exact((Oe x r).cons y).trans<|.swap x y r
theorem Gp:∀l:List<|Go.Lit×IQ h,(l.foldr Ku []).Perm l
 | []=>.refl _
 |x::r=>(Oe x _).trans<|(Gp r).cons x
theorem NL(d:aF a aL cr H b g)(o:g<=maxLen):
  ∃D,a.ownsMap Tryz.prog 9 KR b g D∧Maps.size D=g∧(strKeys D).Perm (g.map λp=>p.1.1.1):=by
 obtain⟨f,c,m,c⟩:=d;have n:∀e∈f.1,∃y:ByteArray,keyOf _ 9 e.1=some _:=λe i=>by
  obtain⟨y,j,d⟩:=c.T e i;exact⟨y,aw d<|J7 underlying9 j⟩
 have l:f.1.map (RR Tryz.prog 9 KR)=g.map λp=>(Lit.string p.1.1.1,(DataW.nil:IQ _)):=by
  refine rH λk=>?_;have d:=c.U k;rw[nI,nI];cases i:f.1[k]? with
  |none=>
   grind
  |some e=>
   rw[i]at d;cases i:g[k]? with
   |none=>grind
   |some p=>
    rw[i]at d;have k:e.1=.string p.1:=aJ;show some _=some _;unfold RR RU;rw[k,J7 af (c.2 p<|cA i)];rfl
 refine⟨_,⟨f,_,m,⟨aw c.I o,?_,?_⟩,aw c.I<|cP _,rfl⟩,?_,?_⟩;refine⟨c.5,c.4,?_⟩;have d:f.1.map (·.1)=(g.map bD).map cr:=by
  have:=congrArg (List.map bD) c.1;simpa[Ee]using this
 rw[d];exact(List.pairwise_map.2<|c.3.imp af);intro x c;obtain⟨y,j⟩:=n x c;exact⟨_,by unfold RU;rw[j];rfl⟩;rw[l];show List.length _=_;rw[(Gp _).length_eq,di];rw[l];refine((Gp _).map _).trans ?_;rw[AL];exact .refl _
theorem Vr(a:Option Nat)(w:ag):aH 76 #[a] w λe b=>e=.returned (.func (.func 135) #[] #[w.1])∧b=w.alloc (.cells #[a] 97):=
 (xn (n:=5)).1<|AnyZ.keys_in Tryz.Ni mU 5 trivial rfl a w
theorem aeX:∀a w,(callFunc 135 a).run Tryz.prog w=.ok (.enter 135 a) w:=enters_of func135 ah rfl
theorem Vp{w:ag}(i:aF w aL cr H b g)(a:g.length<=1099511627776)(a:w.cell? ⟨f,0,none⟩=some (.map<|some b)):
  aH 75 #[.func (.func 135) #[] #[f]] w λj d=>∃c l e m,j=.returned (.slice c l e)∧au w d∧m.Perm (g.map bD)∧
   ∃k:ai,k.In d∧(∀b o,k b=some o->w<=b)∧k.list 1 ib (.slice c l e) m:=by
 obtain⟨D,m,p,s⟩:=NL i (by unfold maxLen;omega);have p:SeqGives _ 4 _ 135 _ _ _ _ w:=
  AnyZ.keys_gives (ρ:=Tryz.Nj) {Tryz.Ni with} mU _ trivial rfl aa f b _ D w (xl w _ a) a m
 apply ((xn (n:=6)).1<|AnyZ.collect_in Tryz.Mk _ 6 trivial trivial rfl aa _ _ trivial af _ _ (by unfold maxLen;omega) aa w p).mono;rintro j d ⟨v,ss,rfl,m,j,-,r⟩;have t:d.ownsRow w.1.size 9 1 v (ss.map λx=>(⟨x.toArray⟩:ByteArray)).length (ss.map λx=> [cr ⟨x.toArray⟩]).flatten:=by
  have d:(ss.map λx=> [cr ⟨x.toArray⟩]).flatten=ss.map encStr:=by
   clear m j;induction ss with
   |nil=>rfl
   |cons x l l=>grind
  rw[d,di];exact j
 obtain⟨k,p,-,q,l⟩:=FZ (k0:=λ_=>none) (R:=ib) (λ_ _ i=>nomatch i) t af af (λk _ i e x a d=>by
  rw[nI]at a d;cases e:ss[i]? with
  |none=>rw[e]at a;cases a
  |some y=>rw[e]at a d;cases a;cases d;rfl)
 obtain⟨c,a,rfl⟩:=l.I;refine⟨c,_,a,_,rfl,ae.eT r,?_,k,p,λb o c=>?_,l⟩;have a:=(m.trans s).map λx=>(⟨x.toArray⟩:ByteArray);rw[AL]at a;exact a;obtain a|a:=q b o c;cases a;exact(j.lt b a).1
end
section
open Go.Conc
structure qx(cs:List bk)(Ls:List Lay)(R:Nat->aW->Prop):Prop where
 len:cs.length<=1048576
 small:∀cl∈cs,Small 1099511627776 cl
 body:∀k,(bl (cs.take k)).length<=1099511627776
 layers:∃hN:∀x∈bl cs,aL x,Ls=(jl (fR cs) cs (bl cs) (lS (fR cs) (bl cs) hN)).2
 ne:bl cs≠ []
 few:(bl cs).length<20
 afb:(eC cs).length<=1048576
 lays:Ls.length<=100
 rules:∀L∈Ls,L.1.length<=1048576∧∀c∈L.1,vL c∧aL c.1.n
 heads:∀c∈cs,c.1.2.length<=3∧aL c.1.n∧c.1.n∈(eC cs).map bD
 base:(g_ (λ_=> []) cs).2.length<=1048576
 start:R 0 (g_ (λ_=> []) cs).1
 step:∀sb bs ps K N,((eC cs).map bD).Perm (bs.map bD)->ps.map js=Ls->(∀p∈ps,p.1.1=p.2.2)->(sb<N∧∀p∈bs,p.2<N)->ey N K->(∀b o,K b=some o->N<=b)->(∀p∈ps,N<=p.1.2)->xx sb bs ps K N R
section
variable{f:Ren}{v:ag}{e s:Nat->Option bI}{h:ai}{ad:Option bC}{l c:Nat}{cs:List bk}{Ls:List Lay}{R:Nat->aW->Prop}
theorem XS(i:h.In v)(b7:h.list 3 dg (.slice ad l c) cs)(D:qx cs Ls R):Goes Tryz.prog cH 39 #[.slice ad l c] f v e s (I4 v (eC cs) Ls R):=by
 refine Goes.B func39 (c:=Tz) rfl λj1 ax cs1 j3=>?_;apply yg ntmps39;refine ck ?_;refine oT func73 (λT=>Vn (w:=aN v T) i b7 (aI D.1) D.2) λT z u a5 k ⟨m,d,e2,a2,b⟩=>?_
 cases d;replace a2:=a2.dz k;replace b:aF a5 _ _ _ _ _:=b;replace e2:v.1.size<=m:=e2;walk_nrm;refine ck ?_;refine oT func76 (λT=>Vr (some m) (aN a5 T)) λT z u c4 k ⟨d,e6⟩=>?_
 cases d;have b3:=(show au _ _ by rw[e6];exact ae.al).dz k;have f9:c4.cell? ⟨a5.1.size,0,none⟩=some (some m):=by
  show(aN c4 z).cell? _=_
  rw[e6];exact(cI _ _ 0 _ _ (0,0) (cz (aN a5 T) _)).trans rfl
 replace b:=b.B b3 id;walk_nrm;refine oT (hv:=(by simp[go_sem,aN])) func75 (λT=>Vp (w:=aN c4 T) b (aI D.7) f9) λT z u a6 k ⟨k3,k5,k4,i1,d,K,Q,i0,b8,_,h0⟩=>?_
 cases d;replace K:=K.dz k;replace b8:i0.In a6:=b8;obtain⟨i9,cl,-,d7⟩:=id b;have g8:∀X∈i1,aL X:=by
  intro X h8;obtain⟨p,a,rfl⟩:=ei.1 (Q.mem_iff.1 h8);exact d7.2 p a
 have h4:=Q.nodup_iff.2 d7.3;replace b:=b.B K id;have j7:=dI a2.4 (dI b3.4 K.4);replace i:h.In _:=((i.B a2 i3).B b3 i3).B K i3;walk_nrm;refine oT func74 (λT=>Vo (w:=aN a6 T) b8 h0 (by have:=Q.length_eq;have:=D.7;grind) h4 g8) λT z u i5 k ⟨o,x,d,e5,L,j,d9,b5⟩=>?_
 cases d;replace L:=L.dz k;replace j:aO i5 _ _ _:=j.T λ_ _ _ _=>id;replace e5:a6.1.size<=o:=e5;replace b5:∀p∈x,a6.1.size<=p.2:=b5;have j4:=b.O;have j5:=j.1.O;replace b:=b.B L id;have h5:∀p∈x,h p.2=none:=by
  intro p a;cases O:h p.2 with
  |none=>rfl
  |some r=>
   have a0:=aP (i _ _ O);grind
 replace i:h.In _:=i.B L i3;have j8:=L.4;walk_nrm;refine ck ?_;obtain⟨g2,g1⟩:=D.4;refine oT func78 (λT=>Vt (w:=aN _ T) i b7 (aI D.1) D.2 D.3 g2 D.5 D.6) λT z u E k d5=>?_
 rw[<-g1]at d5;obtain⟨k1,k2,f3,d,B,b0,j2,h1⟩:=d5;cases d;replace B:=B.dz k;replace b0:f3.In E:=b0;replace b:=b.B B id;replace j:=j.O B id i2;replace i:h.In _:=i.B B i3;have j9:=B.4;walk_nrm;refine ck ?_;refine oT func77 (λT=>Vs (w:=aN E T) b0 h1 (aI D.8) D.9 o) λT z u t k ⟨n,V,c2,c3,y,f2,d,C,⟨b1,b2,c8,a7⟩,J,_,_,a,h2,hl,e4,dR,e0,_,g0,a4,g4,P⟩=>?_
 cases d;replace C:=C.dz k;let⟨g,g7⟩:=aT t.1.size;let⟨N,a1⟩:=aT (E.1.size+2);replace b1:E.1.size<=n:=b1;replace b2:n<N:=aw a1 b2
 replace c8:E.1.size<=V:=c8;replace a7:V<N:=aw a1 a7
 have j6:=j.1.O;have d8:∀p∈x,p.2<E.1.size:=λp a=>(j.2 p a).O;have h3:m<N:=aa
 replace b:=b.B C id;replace j:=j.O C id i2;replace i:h.In _:=i.B C i3;replace J:f2.In t:=J;replace a:t.1[n]?=some _:=a;have k0:=C.4;replace a4:ey N _:=aw a1 a4
 replace P:∀p∈y,p.1.1=p.2.2∧N<=p.1.2∧fh t dR N p.1.1 p.1.2 o (p.2.1.map bP):=λW U=>by
  obtain⟨d4,I,a9⟩:=P W U;rw[a1];exact⟨d4,I,a9.B I λ_ _ _ _=>id⟩
 walk_nrm;refine ck ?_;apply dZ (.agg #[some m,some o,n]);walk_nrm;refine ck ?_;refine Be g (.cells #[some m,some o,n] 102) ?_ (hl:=λT=>by simp[go_sem,aN];rfl);walk_nrm;refine ck ?_;obtain⟨br,h7,M,d6,-⟩:=df t (.cells #[some m,some o,n] 102);rw[<-g7]at d6;rw[<-h7];have a3:∀ {Y r},t.1[Y]?=some r->br.1[Y]?=some r:=λb9=>M.O b9 id;have c1:y.length=Ls.length:=aJ
 have F:dQ br g m o n V (eC cs) x (λ_=> []) c2 c3 y (kZ N dR) N:=by
  have e7:∀{X},dR X=none->kZ N dR X=none:=λh=>by cases O:kZ N dR _;rfl;cases (Cm O).2.symm.trans h
  refine⟨d6,b.B M id,j.O M id i2,⟨aI j.1.O,λp a=>aI (d8 p a)⟩,⟨h3,?_⟩,⟨a7,?_⟩,c1▸a3 a,λh9 p g9=>?_,(show aF t aL _ oY V (mA y) from h2).B M id,λp a=>?_,λc7 r b4=>a3 (J c7 r (e0 _ _ (Z_ _ _ _ _ b4))),a4.Y,λc7 r b4=>(Cm b4).1,e7 g0,?_⟩
  rintro(rfl|⟨W,U,rfl⟩);omega;have:=b5 W U;omega
  rintro(rfl|⟨W,U,rfl⟩);omega;have:=d8 W U;omega
  obtain⟨f4,f5,f6,g6⟩:=hl.U J;obtain⟨a8,e8,i7,d0,i8,f7,Z⟩:=g6 h9 p g9;obtain⟨rfl,-,rfl⟩:c2=f4∧Ls.length=y.length∧c3=f5:=aV f6
  obtain⟨f8,j0,c9,d3⟩:=g4 a8 e8 d0;refine⟨a8,e8,c9,d0,a3 d3,?_,e7 f8⟩;have d2:=Z 0 aA;rw[f7,cI t a8 _ c9 171 (0,0) d3]at d2;simpa using d2
  obtain⟨d4,I,a9⟩:=P p a;exact⟨I,(fh.V a4 a9).B I λY r _ _ b9=>a3 b9⟩
  cases O:kZ N dR g with
  |none=>rfl
  |some r=>have:=aP (J _ _ (e0 _ _ (Cm O).2));omega
 apply eo 60 rfl;refine abS (h:=h) b7 D.1 (λc b6=>⟨(D.10 c b6).1,(D.10 c b6).2.1,qR.2 (by rw[d9];exact Q.mem_iff.2 (D.10 c b6).2.2)⟩) h5 ⟨rfl,rfl,rfl,rfl,nofun,nofun,nofun,nofun,nofun,nofun⟩ F (i.B M i3) λq k7 S=>?_;obtain⟨i6,e1⟩:=S.ab rfl;have aK:=S.bN;rw[if_pos rfl]at aK;generalize d:q.eval (.tmp 26)=i4 at e1;have g5:(#[.tmp 23,.tmp 26]:Array _).map q.eval= #[.pointer (some ⟨n,0,none⟩),i4]:=by
  have a0:=S.T rfl;revert a0 d;generalize q.eval=k9;intro d a0;simp[a0,d]
 have e3:((eC cs).map bD).Perm (x.map bD):=by rw[d9];exact Q.symm
 refine aY.Y rfl rfl (base_kind _) rfl func79 rfl rfl bb g5 (aK.ac (D.13 o x y (kZ N dR) N e3 e4 (λp a=>(P p a).1) F.4 F.12 F.13 λp a=>(F.10 p a).1) D.12 (by rw[c1];exact D.8) e1 D.11) λk6 k8 ⟨h6,f1,g3,f0⟩=>?_;subst h6;apply eo 3 rfl;have Z:(q.put (some 27) (.tuple #[])).eval _=g:=(dS _ _ _ _ aA).trans S.Z;have A:(q.put (some 27) (.tuple #[])).1.size=29:=(vI ..).trans S.B;have H:(q.put (some 27) (.tuple #[])).2= []:=S.sL;show aY _ _ _ _ _ _ _ _ (q.put (some 27) (.tuple #[])) _ _;generalize q.put (some 27) (.tuple #[])=G at Z A H⊢;refine dZ _ ?_ (hl:=λT=>(run_move rfl _).trans (by rw[Z]));have d1:(G.put (some 28) g).eval (.tmp 28)=g:=xo _ _ _ (by rw[A];decide);have A:(G.put (some 28) g).1.size=29:=(vI ..).trans A;have H:(G.put (some 28) g).2= []:=H;show aY _ _ _ _ _ _ _ _ (G.put (some 28) g) _ _;generalize G.put (some 28) g=c6 at d1 A H⊢;refine dZ g ?_ (hl:=λT=>(show(execOp c6.eval _).run Tryz.prog _=.ok (.value (c6.eval (.tmp 28))) _ from rfl).trans (by rw[d1]));refine aY.I (λY w=>cE) (aY.B func39 (u:=g) H (λw=>?_) ⟨g,m,o,n,V,x,f1,c2,c3,y,_,N,rfl,aa,aa,f0,e4,e3,λp a=>(P p a).1,by rw[<-c1];exact g3⟩ (Ren.I _));simp[results,go_sem,f39,A]
end
noncomputable abbrev abf:=rg f17 0
noncomputable abbrev abg:=rg f17 1
noncomputable abbrev OC:=rg f17 2
noncomputable abbrev OD:=rg f17 3
noncomputable abbrev OE:=rg f17 4
noncomputable abbrev EO:Code:=((bH 0 abf false).seq ((bH 1 abg false).seq (((bH 2 OC false).seq (mX (bz 15) ((bH 3 OD false).seq kL) mY)).seq ((bH 4 OE false).seq kL))))
section
variable{f:Ren}{v:ag}{e s:Nat->Option bI}{tx:ByteArray}
theorem NF(n:tx.size<=1099511627776)
  (h:∀a l c b,au v b->(∀cs,(eE tx).1=some cs->∃k:ai,k.In b∧k.list 3 dg (.slice a l c) cs)->aY Tryz.prog cH b8 f b e s (base 17) ⟨#[tx,aj,.pointer none,.int .i64 0,.int .i64 0,.slice a l c,.int .i64 (eE tx).2.1,.int .i64 (eE tx).2.2,.tuple #[.slice a l c,.int .i64 (eE tx).2.1,.int .i64 (eE tx).2.2],tx,.tuple #[.slice a l c,.int .i64 (eE tx).2.1,.int .i64 (eE tx).2.2],.slice a l c,.int .i64 (eE tx).2.1,.int .i64 (eE tx).2.2,aj,aj,aj,aj,aj,aj],[]⟩
   [.code (((bH 2 OC false).seq (mX (bz 15) ((bH 3 OD false).seq kL) mY)).seq ((bH 4 OE false).seq kL))] (b3::b6)):
  aY Tryz.prog cH b8 f v e s (base 17) ⟨(#[tx]:Array aq)++ml (f17.7-(#[tx]:Array aq)) aj,[]⟩ [.code EO] (b3::b6):=by
 apply yg ntmps17;refine ck ?_;refine oT func38 (λT=>U4 tx _ n) λT r w b o ⟨a,l,c,g,i,m⟩=>?_
 cases g;walk_nrm;have d:=h _ l c _ (i.dz o) λcs j=>let⟨k,p,_,q⟩:=m _ j; ⟨k,p,q⟩
 generalize(eE tx).2.1=t at d⊢;generalize(eE tx).2.2=u at d⊢;exact eo 8 rfl d
theorem M_(g:tx.size<=1099511627776){a b:Nat}(d:eE tx=(none,(a:Int),(b:Int)))(h:a≠0):Goes Tryz.prog cH 17 #[tx] f v e s λu h=>u=.tuple #[.pointer none,.int .i64 a,.int .i64 b]∧au v h:=by
 refine Goes.B af (c:=EO) rfl λa ax cs1 a=>NF g λa l c a a b=>?_;rw[d];apply eo 15 rfl;refine dZ true ?_ (hl:=λT=>by simp[go_sem];omega);apply eo 10 rfl;walk_nrm;refine aY.B func17 (u:=.tuple _) rfl (λw=>by simp[results]) ⟨rfl,a⟩<|Ren.I _
theorem MZ(d:tx.size<=1099511627776){cs:List bk}(a:eE tx=(some cs,0,0))(D:qx cs K R):Goes Tryz.prog cH 17 #[.string tx] f v e s λu g=>∃b,u=.tuple #[b,.int .i64 0,.int .i64 0]∧I4 v (eC cs) K R b g:=by
 refine Goes.B af (c:=EO) rfl λg ax cs1 b=>NF d λb l c b h b=>?_;obtain⟨k,d,g⟩:=b cs (by rw[a]);rw[a];apply eo 11 rfl;apply dZ false;apply eo 6 rfl;refine sB func39 _ (XS d g D) λu a i=>?_;obtain⟨d,m,p,n,l,b,F,j,k,o,a,N,rfl,g,g,g⟩:=i;apply eo 3 rfl;walk_nrm;have:=h.4;apply eo 1 rfl;refine aY.B func17 (u:=.tuple _) rfl (λw=>by simp[results]) ⟨_,rfl,d,m,p,n,l,b,F,j,k,o,a,N,rfl,aa,aa,g⟩ (Ren.I _)
end
end
section
open Go.Conc
theorem V5:vg 320 324:=L6 func324 rfl rfl Zx ZO
theorem V6:vg 323 385:=L6 func385 rfl rfl Zv ZM
theorem V7(b:Bool):vg (if b=true then 320 else 323) (if b=true then 324 else 385):=by
 cases b;exact V6;exact V5
theorem bn.T{x y:bn}(h:x.I=y.I):x=y:=by
 obtain⟨a,a,a,a,a⟩:=y;obtain⟨rfl,rfl,rfl,rfl,rfl⟩:=h;rfl
theorem G4:∀ {a b:List bn},a.map bn.I=b.map bn.I->a=b
 | [],[],_=>rfl
 | [],_::_,h=>nomatch h
 |_::_,[],h=>nomatch h
 |x::a,y::b,h=>by
  simp at h;rw[bn.T h.1,G4 h.2]
theorem Mf(a:List bV):(a.map ue).flatMap bn.B=(a.map bV.B).flatten:=by
 induction a with
 |nil=>rfl
 |cons x a a=>rw[rV,Kp,a];rfl
theorem NK{N:Nat}(h:fy a e<|i.map ue)(n:∀b d c,e=.slice (some b) d c->N<=b.1):aM a N 156 5 dC gF e i:=by
 refine⟨qV _,af,i.map bV.B,af,λc b=>?_,λd c x b c=>?_,?_⟩;obtain⟨x,-,rfl⟩:=ei.1 b;rfl;rw[nI,c]at b;exact(dw b).symm;obtain⟨j,rfl⟩|⟨g,d,f,rfl,k,b,l,m,c,-⟩:=h;have:i= []:=aV j;subst this;exact J4 _ _ _ _;rw[di]at b c⊢;refine⟨?_,.inr ⟨g,d,f,rfl,n _ _ _ rfl,k,b,l,m,?_⟩⟩;rw[<-Mf,vW,di];rw[c,Mf]
theorem ZC(h:fy a e<|i.map ue):∃(d:ai)(b:Option bC)(c:Nat),e=.slice b i c∧d.In a∧d.list 5 dC e i:=by
 obtain⟨k,d,-,-,d⟩:=(NK (N:=0) h λ_ _ _ _=>nK _).U λ_ _ _ _ h=>h;obtain⟨b,c,b⟩:=d.I;grind
def xu(b:Nat)(c:bO)(a:List (eO×Lay))(K:ai)(N:Nat)(R:Nat->List bV->aW->Prop):Prop:=
 ∀j p,a[j]?=some p->∀w F (h:ai) d e (a:List bV),K.In w->fh w K N p.1.1 p.1.2 b (p.2.1.map bP)->aO w b c F->h.In w->h.list 5 dC (.slice d a e) a->a.length<=1099511627776->R j a F->
  aH (if p.1.1 then 324 else 385) #[.pointer (some ⟨p.1.2,0,none⟩),.slice d a e] w λg d=>∃u e f,g=.returned u∧ae (aX b c) w d∧aO d b c f∧R (j+1) (a++e) f∧aM d w 156 5 dC gF u e∧e.length<=2147483648
def Si(D:Nat->Bool)(c e:Nat)(b:bO)(d:List (eO×Lay))(K:ai)(N:Nat)(R:Nat->List bV->aW->Prop)(i:Nat)(l:List aq)(w:ag):Prop:=
 ∃a,l=(a.map ue).map bn.I∧El D c e b d K N (λi F=>R i a F) i l w
section
variable{v:ag}{eb nb sb pb mb:Nat}{fn:gq}{bs:bO}{F:aW}{la:Option bC}{lc:Nat}{ps:List (eO×Lay)}{K:ai}{N:Nat}{R:Nat->List bV->aW->Prop}{e s:Nat->Option bI}{f g:Ren}
theorem dQ.Z(E:dQ v eb nb sb pb mb fn bs F la lc ps K N)(B:xu sb bs ps K N R)(a:ps.length<=100){M:Nat}{k:ai}{u:aq}{d:List bV}(e:fY v M 156 5 dC k u d):
  Eg cH (DS v sb bs ps K u.ownBlock) g v pb ps<|Si (DS v sb bs ps K u.ownBlock) v sb bs ps K N R:=by
 have m:=λc (f:u.ownBlock=some c)=>yL e.toaM f;refine⟨mH,λa c o b b h b i=>E.T e.nN h b _ _ _ i,λi x w w' ⟨d,e,i⟩ j=>⟨d,e,i.1,λa d h=>j _ _<|i.2.1 a d h,i.2.2.B E.13 E.12 (λp e=>(E.10 p e).1) λa o _ _ b=>j a o b⟩,aa,E.I m E.7 aA E.14,_,_,_,la,lc,E.7,rfl,λk l=>?_⟩;obtain⟨p,e⟩:∃p,ps[k]?=some p:=⟨_,cy l⟩;have t:=cA e;let⟨al,y,n,q,l,r,s⟩:=E.8 k p e;refine⟨al,y,171,_,_,n,_,_,q,E.I m l aA s,l,r,V7 _,by cases p.1.1<;>decide,λl=>eR.V (F:=cH) (DS.I t) _ _,?_⟩;intro x y m s0 ⟨z,n,l⟩ q D j A q T;cases G4 n;obtain⟨m1,m2,n⟩:=l;have s:∀p∈ps,N<=p.1.2:=λp e=>(E.10 p e).1;have r:∀c,aX sb _ c->c<N:=λc f=>by
  obtain rfl|⟨q,l,rfl⟩:=f;exact E.4.1;exact E.4.2 q l
 let⟨C,H,G,I,J⟩:=n.B (w':=m) E.13 E.12 s λa o _ _ b=>j a o b;obtain⟨L,M,x,x,_⟩:=n;have n:∀c,aX sb _ c->c<y.1.size:=λc f=>by
  obtain rfl|⟨q,l,rfl⟩:=f;exact x.1.O;exact(x.2 q l).O
 obtain⟨l,l,cc,rfl,l,q⟩:=ZC A;have x:z.length<=1099511627776:=aJ
 refine(B k p e (aN _ T) G _ _ _ _ C (H p t) (I.T λ_ _ _ _ i=>i) l q x J).mono ?_;rintro ex w ⟨G,t,x,rfl,i,B,A,C,l⟩;have l:m.1.size<=w.1.size:=i.4;have l:∀a o,¬aX _ _ a->m.1[a]?=some o->w.1[a]?=some o:=λa o d b=>i.O (w:=aN _ T) b d;have i:=yv j;have m:∀a,a<v.1.size->DS v _ bs ps K u.ownBlock a=false->¬aX sb _ a:=λa _ h i=>by rw[DS.U i]at h;grind
 have q:∀a,a<v.1.size->DS v sb bs ps K u.ownBlock a=false->w.1[a]?=some lj:=λa d h=>l a _ (m a d h)<|j _ _<|D a d h;refine⟨G,rfl,t.map ue,B_ C,?_,⟨aa,q⟩,λa o d b=>l a o (λi=>aI<|n a i) b,λw' m=>⟨z++t,by simp,?_,λa d h=>m a _ (q a d h)<|.inl aa,?_⟩⟩;rw[di,di]at m1⊢;have:(k+1)*4294967296<=101*4294967296:=xi _ aa;omega;rw[di,di]at m1;rw[di,kK,di,di,D_<|k+1];omega;have h:∀a o,¬aX sb bs a->y.1[a]?=some o->w'.1[a]?=some o:=λa o d b=>m a o (l a o d<|j a o b)<|.inl (fU.1 b).1;refine⟨λc o f=>h c o (λi=>dX (r c i)<|E.13 c o f)<|L c o f,λp e=>(M p e).B (s p e) λa o _ d b=>h a o (λi=>aI<|r a i) b,x,B.T λa o _ d b=>m a o b<|.inl<|n a d,A⟩
theorem dQ.bN(E:dQ v eb nb sb pb mb fn bs F la lc ps K N)(q:xu sb bs ps K N R)(n:ps.length<=100){u:aq}(d:fY v b 156 5 dC k u i)(a:i.length<=1048576)(m:R 0 i F):
  Goes Tryz.prog cH 46 #[pb,u] f v e s λa j=>∃c h,R ps h c∧dQ j eb nb sb pb mb fn bs c la lc ps K N∧aM j v 156 5 dC gF a h:=by
 intro g a a cs a l;obtain⟨a,a,rfl,o,a⟩:=OV l;have p:=λl (a:u.ownBlock=some l)=>yL d.toaM a;refine(WH (E.Z q n d) o (xs:=i.map _) (dT di) ⟨i,rfl,?_,λn n o=>yw o n,E.Y (R:=λn F=>R n _ F) _ m⟩ (M4 (B_ d.toaM) λl a=>DS.T a)<|PC d.toaM _ _ a).Y ?_;grind;rintro _ _ _ ⟨a,j,d,t,u,l,⟨h,d,m⟩,n,o,q,r,rfl,rfl,rfl⟩;cases G4 d;obtain⟨c,j,d⟩:=E.U p n m;exact⟨a,_,t,u,l,r,⟨c,h,j,d,NK o q⟩,rfl,rfl,rfl⟩
end
end
theorem Vk(n)(a:n<9223372036854775808)(w:ag):aH 51 #[cg n] w λe a=>e=.returned (.int .i64 n)∧au w a:=by
 unfold cg;rw[Nat.div_eq_of_lt aa,D9 aa];have a:decide ((n:Int) >9223372036854775807)=false:=aJ;go_enter func51,ntmps51;go_wp2_with (rw[a];clear a);all_goals go_ret
 all_goals exact⟨af,ae.al⟩
structure rQ(s:ByteArray):Prop where
 pos:0<s.size
 small:s.size<=8
 all:∀j (h:j<s.size),jD s[j]=true
 kind:ru s=2∨ru s=3
theorem T4(h:rQ d)(w:ag):aH 163 #[d] w λe c=>e=.returned true∧c=w:=by
 obtain⟨f,m,n,p⟩:=h;have q:(d.toList== ([]:List _))=false:=by
  rw[D1];cases o:d.1.1 with
  |nil=>
   have l:d.1.1.length=d.size:=af;grind
  |cons _ _=>rfl
 have g:∀k,Eh jD d k->¬k<d.size:=λk a b=>by
  have j:=a.2.2 b;grind
 have i:((ru d==2)||(ru d==3))=true:=aJ
 go_enter func163,ntmps163;go_wp2_with (first|(go_at_call 224;refine(Lz d _ (by unfold maxLen;omega)).mono ?_;rintro e c ⟨k,rfl,rfl,a⟩)|(go_at_call 225;refine(LA d _ f (by unfold maxLen;omega)).mono ?_;rintro e c ⟨rfl,rfl⟩));all_goals first
  |(rename_i b;exact absurd b<|g _ a)
  |(go_ret;exact⟨rfl,rfl⟩)
  |(go_ret;exact⟨fN i,rfl⟩)
theorem VH(h:rQ d)(w:ag):aH 97 #[d] w λe b=>e=.returned true∧b=w:=by
 have a:decide ((d.size:Int)<=8)=true:=by rw[decide_eq_true_eq];have:=h.2;omega
 go_enter func97,ntmps97;go_wp2_with (first|(rw[a];clear a)|(go_at_call 163;refine(T4 h _).mono ?_;rintro e b ⟨rfl,rfl⟩));all_goals go_ret
 simp_all
theorem LZ(t:k.In a)(p:k.list 1 ib (.slice q b f) j)(x:j.length<=1048576)(n:∀s∈j,rQ s):
  aH 48 #[.slice q b f] a λe g=>e=.returned true∧g=a:=by
 obtain⟨rfl,m⟩:=p.O t;go_enter func48,ntmps48;go_wp2;go_loopw [7] (λi wr=>∃c,c<=j.length∧i=.int .i64 (c:Nat)∧wr=a) (λi _=>j.length-(intOf i).toNat);grind;obtain⟨c,w,rfl,rfl⟩:=hrel;obtain⟨r,s,d⟩|r:=jf j c;obtain⟨u,y,cc,rfl,v,rfl,o⟩:=m c s d;have h:=o 0 aA;simp at h;have l:=λa=>VH (n s<|cA d) a;go_wp2_with (go_at_call 97;refine(l _).mono ?_;rintro e g ⟨rfl,rfl⟩);go_roundw;exact⟨c+1,aa,ba,trivial⟩;exact dK;go_ret;simp_all
theorem Vd{h:ai}{w:ag}(y:h.In w){a p:Nat}(r:w.1[a]?=some (.cells #[some p,e,C] 102))(s:aF w aL cr om p S)(D:aL d)(m:h.list 1 ib (.slice q l b) j)(x:j.length<=1048576)(v:∀c∈j,rQ c)(gone:Bool)(u:aB S d=some (j.length,false)):
  aH 40 #[a,.agg #[d,.slice q l b,gone]] w λi a=>i=.returned (.int .i64 0)∧au w a:=by
 obtain⟨g,k,c⟩:=m.I;obtain⟨rfl,rfl,rfl⟩:q=g∧l=j.length∧b=k:=aV c
 obtain⟨W,g,o,-⟩:=df w<|.cells #[d,.slice q j.length b,gone] 42;obtain⟨B,c⟩:=aT w.1.size
 have n:W.1[B]?=some (.cells #[d,.slice q j.length b,gone] 42):=by rw[g,c];exact cz _ _
 obtain⟨b0,b1,b2,-⟩:=bq n;have k:=aP n;have k:=o.O r id;obtain⟨r,r,r,-⟩:=bq k;have r:=aP k;have t:=s.B o id;have E:=t.O;have F:=λa (k:au w a)=>LZ (y.B k i3) m x v;go_enter func40,ntmps40;go_wp2_with (rw[<-g,<-c];clear g c);apply dG (λc=>c==10||c==11||c==12) ah ah;intro y r B z A s k;refine aD ?_;refine aD ?_;refine aD ?_;refine aD ?_;refine aD ?_;refine aD ?_
 have v:∀x,ai.map (λc=>(r x).1[c]?) _ _ _ _ S:=λx=>by
  obtain⟨g,cl,m,c⟩:=t;exact .inr ⟨p,g,cl,rfl,(s x _ E).trans m,c⟩
 refine MO (f:=S) (enc:=om) bZ af Hd ah bf _ _ _ rfl rfl (λa ⟨x,i⟩=>aw i<|v x) rfl D ?_;rw[if_pos rfl,u];go_frame;refine aD ?_;refine aD ?_;refine aD ?_
 refine a_ λg a=>?_;go_wp2;have m:au W<|W.drew.alloc<|.cells #[.int .i64 0,false] 107:=(ae.T _ _).m.I _;have c:au W (W.alloc<|.cells #[.int .i64 (j.length:Nat),false] 107).drew:=ae.al.m;refine a _ _ ah (λ_=>k _ m.below) ?_;clear a g;refine a_ λg a=>?_;go_wp2;refine a _ _ ah (λ_=>k _ c.below) ?_;clear a g;refine a_ λg a=>?_;go_wp2;refine a _ _ ah (λ_=>k _ c.below) ?_;clear a g;apply cR ?_;clear z A s k B v r y;obtain⟨P,a⟩:=aT W.1.size;obtain⟨w3,g⟩:=aT<|(W.alloc<|.cells #[.int .i64 (j.length:Nat),false] 107).drew;have k:w3.1[P]?=some (.cells #[.int .i64 (j.length:Nat),false] 107):=by rw[a,g];exact cz _ _
 rw[<-g]at c⊢;rw[<-a];clear a g m;obtain⟨ax,c1,-,-⟩:=bJ k;obtain⟨b0,b1,b2,-⟩:=bq<|c.O n id;have a:=o.B c;clear u;go_wp2_with (go_at_call 48;refine(F _ a).mono ?_;rintro i c ⟨rfl,rfl⟩);go_ret;exact⟨rfl,a⟩
theorem Vw(A:a.1[f]?=some (.cells #[l] 31))(s:a.1[l]?=some (.cells #[e,some b,C] 102))(y:aO a b p o)(z:aL d)(c g h)(D:bF (c,g,h))(gone:Bool):
  aH 85 #[.agg #[d,.int .u64 c,.int .u64 g,.int .u64 h,gone],f] a λn m=>n=.returned (.bool<|bL (cd p o d) (c,g,h) != gone)∧au a m:=by
 obtain⟨W,k,i,-⟩:=df a<|.cells #[d,.int .u64 c,.int .u64 g,.int .u64 h,gone] 156;obtain⟨B,j⟩:=aT a.1.size
 have r:W.1[B]?=some (.cells #[d,.int .u64 c,.int .u64 g,.int .u64 h,gone] 156):=by rw[k,j];exact cz _ _
 let⟨V,X,Y,Z,a0⟩:=yM r;have S:=aP r;have u:=i.O A id;have p0:=(cI W _ 0 _ _ _ u).trans rfl;have U:=aP u;obtain⟨J,L,M,-⟩:=bq<|i.O s id;have T:=aP<|i.O s id;have v:=λm (E:au W m)=>E1 (.inr ⟨b,rfl,y.B (i.B E) i2⟩) z c g h D;go_enter func85,ntmps85;go_wp2_with (rw[<-k,<-j];clear k j);apply dG (λG=>G==8) ah ah;intro I P R N O Q w;iterate 8 (refine gg ah bf bf λK t=>?_;go_big_quiet_op;refine t _ ?_;clear t K)
 refine a_ λH x=>?_;go_wp2_with (go_at_call 86;refine(v _ (ae.T _ _).m).mono ?_;clear v;rintro n w2 ⟨rfl,F⟩);have q:=ae.ft F;apply x _ _ ah (λ_=>w _ q.below);refine aD ?_;refine aD ?_;refine aD ?_;refine aD ?_
 apply cR;go_wp2;go_ret;exact⟨rfl,i.B q⟩
theorem T_(J:k.In a)(B:k.list 5 dC (.slice q f b) i)(Q:i.length<=1048576)(G:∀e∈i,aL e.n∧bF e.t)(H:a.1[l]?=some (.cells #[s] 31))(v:a.1[s]?=some (.cells #[e,some A,C] 102))(w:aO a A p o)(F:∀e∈i,bL (cd p o e.n) e.t=e.3):
  aH 143 #[.slice q f b,.func (.func 85) #[] #[l]] a λj M=>j=.returned (.int .i64<|-1)∧au a M:=by
 obtain⟨rfl,x⟩:=B.O J;go_enter func143,ntmps143;go_wp2;go_loopw [8] (λg wr=>∃c,c<=i.length∧g=.int .i64 (c:Nat)∧au a wr) (λg _=>i.length-(intOf g).toNat);exact⟨0,aa,rfl,.T _ _⟩;obtain⟨c,P,rfl,d⟩:=hrel;obtain⟨D,y,n⟩|D:=jf i c;obtain⟨N,S,cc,rfl,O,m,z⟩:=x c y n;have r:=cA n;obtain⟨R,⟨t,u,b⟩,gone⟩:=y;unfold dC bV.B at m;subst m;let⟨ax,c1,c2,c3,c4⟩:=d.an z id;have E:=F _ r;let⟨K,L⟩:=G _ r;have h:=Vw (d.O H id) (d.O v id) (w.B d i2) K t u b L gone;rw[E,bne_self_eq_false]at h;go_wp2_with (go_at_call 85;refine h.mono ?_;clear h;rintro j w2 ⟨rfl,I⟩);go_roundw;exact⟨c+1,aa,ba,d.B I⟩;exact dK;go_ret;simp_all
theorem Vv(t:k.In a)(j:k.list 5 dC (.slice q b f) i)(u:i.length<=1048576)(n:∀e∈i,aL e.n∧bF e.t)(r:a.1[l]?=some (.cells #[s] 31))(g:a.1[s]?=some (.cells #[e,some A,C] 102))(h:aO a A p o)(m:∀e∈i,bL (cd p o e.n) e.t=e.3):
  aH 83 #[.slice q b f,.func (.func 85) #[] #[l]] a λc d=>c=.returned (.slice q b f)∧au a d:=by
 have d:=T_ t j u n r g h m;go_enter func83,ntmps83;go_wp2_with (go_at_call 143;refine d.mono ?_;clear d;rintro c w2 ⟨rfl,c⟩);go_ret;simp_all
structure kO where
 n:ByteArray
 ss:List ByteArray
 gone:Bool
def Ev(h:ai)(c:List aq)(x:kO):Prop:=∃a b,c= [.string x.n,.slice a x.2 b,.bool x.3]∧h.list 1 ib (.slice a x.2 b) x.2
def kO.B(x:kO):bV:=⟨x.n,fI x.2,x.3⟩
theorem gu.O{c:bV}(h:gu (λx=>x=c) i):i= [c]:=by
 obtain⟨a,b⟩:=h
 match i,a,b with
 | [],a,_=>simp_all
 | [y],a,_=>rw[(a y).1<|jM ..]
 |y::z::l,a,b=>
  rw[((a y).1 af),((a z).1 af),AA]at b;grind
theorem Ve{h:ai}{w:World}(d4:h.In w){a7:Option Addr}{e0 v:Nat}{a:kO}(Q:h.list 3 Ev (.slice a7 e0 v) [a])(s:a.3=true)(c9:a.n.size<=281474976710656)(l0:a.2.length<=3){z e2:Nat}{Z j8:Value}{a9:bO}{a0:aW}(f9:w.1[z]?=some (.cells #[Z,some e2,j8] 102))(g4:aO w e2 a9 a0)(g8:bL (cd a9 a0 a.n) (fI a.2)=true):
  aH 41 #[z,.slice a7 e0 v] w λl J=>∃I,l=.returned I∧au w J∧fY J w 156 5 dC gF I [a.B]:=by
 obtain⟨b,D⟩:=aT<|[a];rw[<-D]at Q;have k7:b.length<=1:=aJ
 have b9:∀y∈b,y.n.size<=281474976710656∧y.2.length<=3:=aJ
 replace D:Hid _:=D;obtain⟨rfl,c3⟩:=Q.O d4;obtain⟨W,P,r,-,k6⟩:=df w<|.cells #[z] 31;let⟨i7,T⟩:=aT w.1.size
 have d0:W.1[i7]?=some (.cells #[z] 31):=by rw[P,T];exact heap_alloc_new _ _
 have h2:aM W W.1.size 156 5 dC _ _<|(b.take 0).map kO.B:=.m<|qV _;go_enter func41,ntmps41;go_wp2_with (rw[<-P,<-T];clear P);clear T
 go_loopw [5,12] (λI i wr=>∃k,k<=b.length∧i=.int .i64 (k:Nat)∧au W wr∧aM wr W.1.size 156 5 dC gF I ((b.take k).map kO.B)) (λ_ i _=>b.length-(intOf i).toNat)
 case atStart=>exact⟨0,aa,rfl,.T _ _,h2⟩
 case round=>
  obtain⟨k,c7,rfl,e,u⟩:=hrel;by_cases h1:k<b.length
  ·obtain⟨y,c⟩:∃y,b[k]?=some y:=⟨_,List.getElem?_eq_getElem h1⟩;obtain⟨k4,l3,cc,rfl,g7,g2,E⟩:=c3 k y c;obtain⟨j7,j6⟩:=b9 y<|List.mem_of_getElem? c;obtain⟨e7,e8,rfl,g3⟩:=g2;have ax:=(r.B e).Y (E 0 aA) id;have c1:=(r.B e).Y (E 1 aA) id;have c2:=(r.B e).Y (E 2 aA) id;simp[Nat.add_zero,<-Nat.add_assoc]at ax c1 c2;have a6:Hid<|(b.take<|k+1).map kO.B=(b.take k).map kO.B++ [y.B]:=by show _=_;rw[List.take_add_one,c];simp
   have h0:((b.take k).map kO.B).length<=1:=by rw[List.length_map,List.length_take];omega
   clear c E g7;generalize(b.take k).map kO.B=m7 at u a6 h0;obtain⟨j5,X,j2,-⟩:=df wr<|.cells #[.string y.n,.slice e7 y.2.length e8,.bool y.3] 42;obtain⟨br,N⟩:=aT wr.1.size
   have C:j5.1[br]?=some (.cells #[.string y.n,.slice e7 y.2.length e8,.bool y.3] 42):=by rw[X,N];exact heap_alloc_new _ _
   obtain⟨f1,a1,a2,-⟩:=bq C;have h5:=lt_of_block C;go_wp2_with (first|(rw[<-X,<-N];clear X N)|(go_at_call 71;refine(L0 y.n _ j7).mono ?_;rintro l w2 ⟨rfl,U⟩));have G:=j2.B U;obtain⟨f1,a1,a2,-⟩:=bq<|U.O C id;have h5:=lt_of_block<|U.O C id;have d6:=λJ (h8:au w J)=>E0 (d4.B h8 i3) g3 j6;refine dG (λi=>i==4||i==8||i==9||i==10) ah ah ?_;intro f0 f4 g5 f2 f3 f5 f;refine aD ?_;refine aD ?_;refine aD ?_;refine aD ?_
   refine a_ λg d=>?_;go_wp2_with (go_at_call 50;refine(d6 _<|((r.B e).B G).B (ae.T _ _).m).mono ?_;clear d6;rintro l w4 ⟨rfl,h9⟩);have q:=ae.ft h9;refine d _ _ ah (λ_=>f _ q.below) ?_;clear d g;have i1:bF<|fI y.2:=C4 _;have a5:Hid<|y.B=⟨y.n,fI y.2,y.3⟩:=rfl;generalize fI y.2=t at i1 a5;obtain⟨e3,e4,e5⟩:=t;unfold bh;refine aD ?_;refine aD ?_;refine aD ?_
   refine a_ λg d=>?_;go_wp2;refine d _ _ ah (λ_=>f _ (q.I _).below) ?_;clear d g;have c8:=(u.I G i2 i3).I q i2 i3;have l1:=(e.B<|G.B q).4;refine a_ λg d=>?_;refine kI BF rfl (.tmp 19) (.tmp 27) rfl c8 rfl ⟨y.n,(e3,e4,e5),y.3⟩ #[.string y.n,.int .u64 e3,.int .u64 e4,.int .u64 e5,.bool y.3] rfl rfl (by simp[Value.oneCell']) rfl rfl aa aa aa ?_;intro k5 k3 m5 h3 i0 _;go_wp2;refine d _ _ ah (cS ah) ?_;clear d g;refine a_ λg d=>?_;go_wp2;refine d _ _ ah (cS ah) ?_;clear d g;refine cR ?_;clear f2 f3 f5 f g5 f4 f0;go_wp2;go_roundw
   case rel=>exact⟨k+1,aa,ba,(e.B<|G.B q).V i0 λj m=>.inl (c8.B j m).1,by rw[a6.out,a5.out];exact h3⟩
   case measure=>simp[intOf];omega
  ·have g9:b.take k=b:=List.take_of_length_le aa;rw[g9,D.out]at u;clear c3 Q b9;obtain⟨m0,m2,rfl⟩:=u.O;obtain⟨k0,i8,l4,l5,i9⟩:=u.U λi6 c7 v Z h=>h;have d7:=L1 i8 i9 af (λy c=>by obtain rfl:=List.mem_singleton.1 c;exact⟨Nat.le_trans c9 aA,C4 _⟩);go_wp2_with (go_at_call 81;refine d7.mono ?_;clear d7;rintro l e6 ⟨x,f,k2,a8,a4,j9,rfl,d2,f7,g0,c4,aK,g1,b7⟩);obtain rfl:=g1.V λn t ⟨y,c,p,_⟩=>by
    obtain rfl:=List.mem_singleton.1 c;rw[show(kO.B a).3=a.3 from rfl,s]at p;cases p
   have c6:=(b7.O).1;obtain⟨B,K⟩:=aT e6.1.size;obtain⟨j4,V,H,-⟩:=df e6<|.cells #[some x,some f] 158
   have b3:j4.1[B]?=some (.cells #[some x,some f] 158):=by rw[V,K];exact heap_alloc_new _ _
   rw[<-V,<-K];clear V K;have g6:=((r.B e).B d2).B H;have l2:=e.4;have b4:=f7.B H i2;have b6:=g0.B H i2;have d8:=L3 b6 b4 (λj m=>(c4 j m).2) λ_ h=>nomatch h;go_wp2_with (go_at_call 82;refine d8.mono ?_;clear d8;rintro l j3 ⟨a3,rfl,F,b5,M⟩;have b2:=F.O b3 λh=>b6.I h b3 rfl;obtain⟨b0,b1,-,-⟩:=bJ b2;have k8:=lt_of_block b2);have f8:=b4.B F λj m=>(c4 j m).2;have b8:=g6.V F λj m=>.inl<|aI<|aK j m
   have h6:=b5.Y (L:= [(kO.B a).t]) (n:=a.n) (λe1 t h=>by
    obtain⟨y,c,_,o,A⟩:=(c6 e1 t).1 ((M e1 t).1 h).1;obtain rfl:=List.mem_singleton.1 c
    exact⟨o.symm,KG A⟩) (λY S=>by
    obtain⟨t,h7⟩:=((b7.O).2) Y S
    exact⟨t,(M _ _).2 ⟨h7,λh=>nomatch h.1⟩⟩)
   have h4:∀y:bV,(dm true (bm a8 a3) [] a4 y∨dm false (bm [] a4) a8 a3 y)↔y=a.B:=λy=>by
    unfold dm;rw[M,c6];constructor
    ·rintro(⟨p,⟨⟨l8,i4,_,o,A⟩,_⟩,_⟩|⟨_,o,_⟩)
     ·obtain rfl:=List.mem_singleton.1 i4;obtain⟨m9,n1,m8⟩:=y;dsimp only at p o A;rw[p,<-o,<-A];show _=bV.mk a.n (fI a.2) a.3;rw[s];rfl
     ·exact nomatch o.1
    ·rintro rfl;exact .inl ⟨s,⟨⟨a.B,af,s,rfl,rfl⟩,λh=>nomatch h.1⟩,λh=>nomatch h.1⟩
   have d9:=Bw (w:=j3) (lL:=some x) (gm:=some f) (.inr ⟨x,rfl,f8⟩) (.inr ⟨f,rfl,b5⟩) af aa (λ_ h=>nomatch h) (λY S=>by have:=h6.2 Y S;simp at this;omega);go_wp2_with (go_at_call 84;refine d9.mono ?_;clear d9;rintro l m6 ⟨l9,n0,rfl,d3,R,k9,f6⟩;obtain rfl:=(f6.B (B:=λy=>y=a.B) h4).O;obtain⟨m1,m3,rfl⟩:=R.O;obtain⟨k1,j0,l6,l7,j1⟩:=R.U λi6 c7 v Z h=>h;have O:=b8.B d3;have d5:=Vv j0 j1 af (λy c=>by obtain rfl:=List.mem_singleton.1 c;exact⟨Nat.le_trans c9 aA,C4 _⟩) ((F.O (((e.B d2).B H).O d0 id) λh=>dX (aK _ h)<|lt_of_block d0) |>λh=>d3.O h id) (O.O f9 id) (g4.B O i2) (λy c=>by obtain rfl:=List.mem_singleton.1 c;exact g8.trans s.symm));go_wp2_with (go_at_call 83;refine d5.mono ?_;clear d5;rintro l m4 ⟨rfl,d1⟩);go_ret;have i5:=b8.4;exact⟨_,rfl,O.B d1,(R.iO d1 i2 i3).qI i5⟩
def jz(a b:Nat):Int:=if a<b then-1 else if b<a then 1 else 0
theorem Uu(a)(w:ag):aH 279 #[.int .u64 (a:Nat)] w λe a=>e=.returned false∧a=w:=by
 go_enter func279,ntmps279;go_wp2;go_ret;simp_all
theorem EU(a b)(w:ag):aH 234 #[.int .u64 (a:Nat),.int .u64 (b:Nat)] w λe c=>e=.returned (.int .i64<|jz a b)∧c=w:=by
 have b:=λa w=>Uu a w;go_enter func234,ntmps234;go_wp2_with (go_at_call 279;refine(b _ _).mono ?_;rintro e w2 ⟨rfl,rfl⟩);all_goals go_ret
 all_goals(refine⟨?_,rfl⟩;simp_all [jz]<;>(split<;>first|omega|(split<;>omega)))
def lU(t u:aC):Int:=if jz t.1 u.1≠0 then jz t.1 u.1 else if jz t.2.1 u.2.1≠0 then jz t.2.1 u.2.1 else jz t.2.2 u.2.2
theorem T6(u:a.1[b7]?=some (.cells #[.int .u64 b,.int .u64 f,.int .u64 A] 116))(v:a.1[d6]?=some (.cells #[.int .u64 l,.int .u64 s,.int .u64 M] 116)):
  aH 165 #[.slice (some ⟨b7,0,none⟩) 3 3,.slice (some ⟨d6,0,none⟩) 3 3] a λe w=>e=.returned (.int .i64<|lU (b,f,A) (l,s,M))∧w=a:=by
 obtain⟨p0,p1,p2,-⟩:=bq u;obtain⟨y,z,B,-⟩:=bq v;have p:=λa=>EU b l a;have q:=λa=>EU f s a;have r:=λa=>EU A M a;have c:ay<|lU (b,f,A) (l,s,M)=if jz b l≠0 then jz b l else if jz f s≠0 then jz f s else jz A M:=rfl;generalize lU (b,f,A) (l,s,M)=C at c;generalize jz b l=h at p c;generalize jz f s=j at q c;generalize jz A M=t at r c;go_enter func165,ntmps165;go_wp2
 go_loopw [11] (λi wr=>∃k,k<=3∧i=.int .i64 (k:Nat)∧wr=a∧ay ((1<=k->h=0)∧(2<=k->j=0)∧(3<=k->t=0))) (λi _=>3-(intOf i).toNat)
 case atStart=>exact⟨0,aa,rfl,rfl,⟨aa,aa,aa⟩⟩
 case round=>
  obtain⟨k,x,rfl,rfl,d⟩:=hrel;obtain rfl|rfl|rfl|rfl:k=0∨k=1∨k=2∨k=3:=aa
  ·go_wp2_with (go_at_call 234;refine(p _).mono ?_;rintro e w2 ⟨rfl,rfl⟩)
   ·rename_i o;have g:h≠0:=aJ
    go_ret;exact⟨by rw[c.out,if_pos g];rfl,rfl⟩
   ·rename_i m;have n:h=0:=aJ
    go_roundw
    grind
    case measure=>first|decide|(simp[intOf];omega)|simp[intOf]
  ·go_wp2_with (go_at_call 234;refine(q _).mono ?_;rintro e w2 ⟨rfl,rfl⟩)
   ·rename_i o;have g:j≠0:=aJ
    go_ret;exact⟨by rw[c.out,if_neg<|not_not_intro<|d.out.1 aa,if_pos g];rfl,rfl⟩
   ·rename_i m;have n:j=0:=aJ
    go_roundw
    grind
    case measure=>first|decide|(simp[intOf];omega)|simp[intOf]
  ·go_wp2_with (go_at_call 234;refine(r _).mono ?_;rintro e w2 ⟨rfl,rfl⟩)
   ·rename_i o;go_ret;exact⟨by rw[c.out,if_neg<|not_not_intro<|d.out.1 aa,if_neg<|not_not_intro<|d.out.2.1 aa];rfl,rfl⟩
   ·rename_i m;have n:t=0:=aJ
    go_roundw
    grind
    case measure=>first|decide|(simp[intOf];omega)|simp[intOf]
  ·go_wp2;go_ret;exact⟨by rw[c.out,if_neg<|not_not_intro<|d.out.1 aa,if_neg<|not_not_intro<|d.out.2.1 aa,d.out.2.2 aa];rfl,rfl⟩
def h_(w b:ag):Prop:=∃q a,b=RV (w.drewN q) a
theorem h_.T(w:ag):h_ w w:=⟨0,#[],(Sort.grow_empty _).symm⟩
theorem h_.B{w w':ag}(h:h_ w w')(o:bI):h_ w<|w'.alloc o:=by
 obtain⟨q,os,rfl⟩:=h;exact⟨q,_,by rw[Sort.alloc_eq_grow,Sort.grow_grow]⟩
theorem h_.U(h:h_ a t):h_ a t.drew:=by
 obtain⟨q,os,rfl⟩:=h;exact⟨q+1,os,rfl⟩
theorem h_.O{a b c:ag}(h:h_ a b)(k:h_ b c):h_ a c:=by
 obtain⟨q,os,rfl⟩:=h;obtain⟨c,a,rfl⟩:=k;exact⟨q+c,os++a,by unfold RV World.drewN;grind⟩
theorem h_.I(h:h_ a t):au a t:=by
 obtain⟨q,os,rfl⟩:=h;exact⟨rfl,rfl,rfl,af,λk b _=>Sort.heap_grow_old _ _ b⟩
theorem Lp{w:ag}{a b c x y z:Nat}:
  aH 101 #[bh (a,b,c),bh (x,y,z)] w λf d=>f=.returned (.int .i64<|lU (a,b,c) (x,y,z))∧h_ w d:=by
 obtain⟨W,d,-,h,i,-⟩:=nc w (.cells #[.int .u64 a,.int .u64 b,.int .u64 c] 116)<|.cells #[.int .u64 x,.int .u64 y,.int .u64 z] 116;have j:h_ w W:=aw d<|((h_.T w).B _).B _
 have e:au W _:=(ae.T _ _).m;have g:=T6 (e.O h id)<|e.O i id;unfold bh;go_enter func101,ntmps101;go_wp2_with (rw[<-d];clear d);apply dG (λi=>i==2) ah ah;intro d d d d d d d;refine aD ?_;refine aD ?_
 refine a_ λh h=>?_;go_wp2_with (go_at_call 165;refine g.mono ?_;clear g;rintro f w2 ⟨rfl,rfl⟩);apply h _ _ ah (λ_=>d _ e.below);refine aD ?_;apply cR;go_wp2;go_ret;exact⟨rfl,j.U⟩
def Gk(a b:Int):Int:=if a≠0 then a else b
theorem T2(j:a.1[b]?=some (.cells #[.int .i64 a0,.int .i64 b5] d2)):
  aH 147 #[.slice (some ⟨b,0,none⟩) 2 2] a λe l=>e=.returned (.int .i64<|Gk a0 b5)∧l=a:=by
 obtain⟨p0,p1,-,-⟩:=bJ j;have d:ay<|Gk _ _=if a0≠0 then a0 else b5:=rfl;go_enter func147,ntmps147;go_wp2;go_loopw [8] (λi wr=>∃k,k<=2∧i=.int .i64 (k:Nat)∧wr=a∧ay ((1<=k->a0=0)∧(2<=k->b5=0))) (λi _=>2-(intOf i).toNat);exact⟨0,aa,rfl,rfl,⟨aa,aa⟩⟩;obtain⟨k,m,rfl,rfl,c⟩:=hrel;obtain rfl|rfl|rfl:k=0∨k=1∨k=2:=aa;go_wp2;rename_i n;have h:a0≠0:=aJ;go_ret;exact⟨by rw[d.out,if_pos h];rfl,rfl⟩;rename_i f;have g:a0=0:=aJ;go_roundw;grind;first|decide|(simp[intOf];omega)|simp[intOf]
 go_ret;exact⟨by rw[d.out,if_neg<|not_not_intro<|c.out.1 aa];rfl,rfl⟩;rename_i f;have g:b5=0:=aJ;go_roundw;grind;first|decide|(simp[intOf];omega)|simp[intOf]
 go_ret;exact⟨by rw[d.out,if_neg<|not_not_intro<|c.out.1 aa,c.out.2 aa];rfl,rfl⟩
def sG(x y:bV):Int:=Gk (Rt x.n.1.1 y.n.1.1) (lU x.t y.t)
theorem VA{w:ag}(n m:ByteArray)(a b c x y z:Nat)(f g:Bool):
  aH 89 #[.agg #[n,.int .u64 a,.int .u64 b,.int .u64 c,f],.agg #[m,.int .u64 x,.int .u64 y,.int .u64 z,g]] w λe d=>e=.returned (.int .i64<|sG ⟨n,(a,b,c),f⟩ ⟨m,(x,y,z),g⟩)∧h_ w d:=by
 unfold sG;have j:=λw=>Tryz.strings_Compare n m w;have k:=λw=>Lp (w:=w) (a:=a) (b:=b) (c:=c) (x:=x) (y:=y) (z:=z);generalize Rt n.1.1 m.1.1=o at j⊢;generalize lU (a,b,c) (x,y,z)=p at k⊢;obtain⟨W,d⟩:=aT<|(w.alloc<|.cells #[n,.int .u64 a,.int .u64 b,.int .u64 c,f] 156).alloc<|.cells #[m,.int .u64 x,.int .u64 y,.int .u64 z,g] 156;let⟨A,h⟩:=aT w.1.size;obtain⟨B,i⟩:=aT<|w.1.size+1;have q:h_ w W:=aw d<|((h_.T w).B _).B _
 have l:W.1[A]?=some (.cells #[n,.int .u64 a,.int .u64 b,.int .u64 c,f] 156):=by rw[d,h];exact ic _ _ _
 have f:W.1[B]?=some (.cells #[m,.int .u64 x,.int .u64 y,.int .u64 z,g] 156):=by rw[d,i];exact eK _ _ _
 obtain⟨p0,p1,p2,p3,-⟩:=yM l;obtain⟨g,g,g,g,-⟩:=yM f;have g:=aP l;have g:=aP f;go_enter func89,ntmps89;go_wp2;rw[<-d,<-i,<-h];clear d h i;apply dG (λi=>i==4||i==9||i==10||i==11) ah ah;intro d d d d d d f;refine aD ?_;refine aD ?_;refine aD ?_;refine aD ?_
 refine a_ λh d=>?_;go_wp2_with (go_at_call 148;refine(j _).mono ?_;clear j;rintro e w2 ⟨rfl,rfl⟩);have i:h_ W _:=(h_.T _).U;apply d _ _ ah (λ_=>f _ i.I.below);refine aD ?_;refine aD ?_;refine aD ?_;refine aD ?_
 refine a_ λh d=>?_;go_wp2_with (go_at_call 101;refine(k _).mono ?_;clear k;rintro e w3 ⟨rfl,g⟩);have g:=i.O g;apply d _ _ ah (λ_=>f _ g.I.below);refine a_ λh d=>?_;go_wp2;have i:h_ W<|w3.alloc<|.cells #[.int .i64 o,.int .i64 p] 3:=g.B _;refine d _ _ ah (λ_=>f _ i.I.below) ?_;have g:=T2<|cz w3<|.cells #[.int _ o,.int _ p] 3;refine a_ λh d=>?_;go_wp2_with (go_at_call 147;refine g.mono ?_;clear g;rintro e e ⟨rfl,rfl⟩);apply d _ _ ah (λ_=>f _ i.I.below);refine aD ?_;apply cR;go_wp2;go_ret;exact⟨rfl,q.O i⟩
section
open Go.Shelf
def Tryz.acu:mf:=⟨λ|20=>190|n=>n,λ|0=>0|3=>3|4=>4|22=>93|24=>156|25=>166|n=>n,λ|n=>n⟩
theorem Tryz.acs:RX Tryz.prog Tryz.acu:=by
 constructor<;>first|kernel_rfl|(intro w;kernel_rfl)|(intro w;rfl)|exact⟨f190.1,aA,func190.trans<|congrArg some ah⟩
end
section
open Go.Lib Go.Sort
instance:Inhabited bV:=⟨⟨⟨#[]⟩,(0,0,0),false⟩⟩
theorem G1[Inhabited h]b(w:ag)(g o m)(a:Array h)(os:Array bI):ae (·=g) w<|sortWorld b w g o m a os:=by
 refine⟨rfl,rfl,rfl,?_,λk a a=>?_⟩;unfold sortWorld grow;simp_all;unfold sortWorld grow putRow mapBlock RP;grind
theorem O9[Inhabited h](c:∀b:Nat,u a8[b]!){x:h}(e:u x):∀k:Nat,u (a8.setIfInBounds b x)[k]! :=λk=>by
 have a:=c k;rw[getElem!_def]at a⊢;rw[Array.getElem?_setIfInBounds];by_cases c:b=k;by_cases d:b<a8.size;rw[if_pos c,if_pos d];exact e;rw[if_pos c,if_neg d];rw[Array.getElem?_eq_none aa]at a;exact a;rw[if_neg c];exact a
theorem ado[Inhabited h](a:∀i:Nat,u a8[i]!)(i j):∀k:Nat,u (swp a8 i j)[k]! :=O9 (O9 a<|a j)<|a i
theorem M6[Inhabited h] c(a):∀(j) (d:Array h),(∀i:Nat,u d[i]!)->(∀i:Nat,u (insInner c a j d)[i]!)∧(insInner c a j d)=d.size
 |0,d,b=>⟨b,rfl⟩
 |j+1,d,b=>by
  unfold insInner;split;have:=M6 c a j _<|ado b (j+1) j;exact⟨this.1,this.2.trans<|size_swp ..⟩;grind
theorem N8[Inhabited h] c(a b):∀(n i) (d:Array h),b- i<=n->(∀i:Nat,u d[i]!)->(∀k:Nat,u (insOuter c a b i d)[k]!)∧(insOuter c a b i d)=d.size
 |0,i,d,f,e=>by
  rw[insOuter,if_neg aa];grind
 |n+1,i,d,f,e=>by
  rw[insOuter];split;have f:=M6 c a i d e;have d:=N8 c a b n (i+1) _ aa f.1;grind;grind
theorem BV[Inhabited h]{R:h->Prop}c(a b)(d:Array h)(e:∀i:Nat,R d[i]!):(∀k:Nat,R (insertionSort c d a b)[k]!)∧(insertionSort c d a b)=d.size:=N8 c a b _ _ d (cP _) e
theorem Wo(a b c)(w:ag):CmpLays Tryz.prog 89 #[] bV.B 5 sG a b c w:=λm os a _ x y=>by
 obtain⟨n,⟨a,b,c⟩,d⟩:=x;obtain⟨d,⟨a2,b2,c2⟩,d⟩:=y;exact VA n _ a b c _ _ _ _ _
theorem Ug{g o cap:Nat}(d:oH bV.B 5 a g o v)(f:g<a)(i:v.size<4611686018427387904):
  aH 190 #[.slice (some ⟨g,o,none⟩) v cap,.int .i64 0,.int .i64 v,.func (.func 89) #[] #[]] a λe b=>e=.returned (.tuple #[])∧ae (·=g) a b∧oH bV.B 5 b g o (pC (ltOf sG) v 0 v):=by
 have h:∀c a,(callFunc 89 c).run Tryz.prog a=.ok (.enter 89 c) a:=af;refine(RY Tryz.acs 5 isAgg156 sizeOf156 _ (λ_=>rfl) (λx c c=>by simp[bV.B]at c;rcases c with rfl|rfl|rfl|rfl|rfl<;>rfl) _ _ _ g o _ 0 _ v a h (Wo g o _ a) d f aa aa i).mono ?_;rintro e b ⟨rfl,n,os,rfl⟩;exact⟨rfl,G1 _ a g o n _ _,holdsK_sortWorldK _ 5 a g o n v _ _ f d (BV (R:=λ_=>True) _ _ _ v af).2⟩
theorem T1{g o cap:Nat}(c:oH bV.B 5 a g o v)(d:g<a)(b:v.size<=12)(b):
  aH 145 #[.slice (some ⟨g,o,none⟩) v cap,.int .i64 0,.int .i64 v,.int .i64 b,.func (.func 89) #[] #[]] a λe b=>e=.returned (.tuple #[])∧ae (·=g) a b∧oH bV.B 5 b g o (pC (ltOf sG) v 0 v):=by
 have b:=Ug (cap:=cap) c d aa;go_enter func145,ntmps145;go_wp2;apply wp_loop_rounds 1;rw[rounds_succ];go_wp2_with (go_at_call 190;refine b.mono ?_;clear b;rintro e w2 ⟨rfl,c,b⟩)
 exact fl (DW rfl _ _ _) rfl ⟨rfl,c,b⟩
theorem Vz{g o cap:Nat}(c:oH bV.B 5 a g o v)(d:g<a)(f:v.size<=12):
  aH 88 #[.slice (some ⟨g,o,none⟩) v cap,.func (.func 89) #[] #[]] a λe b=>e=.returned (.tuple #[])∧ae (·=g) a b∧oH bV.B 5 b g o (pC (ltOf sG) v 0 v):=by
 have b:=λg=>T1 (cap:=cap) c d f g;have c:=λa=>Tryz.bits_Len (v.size:Int) a aa aa;go_enter func88,ntmps88;go_wp2_with (first|(go_at_call 146;refine(c _).mono ?_;clear c;rintro e w2 ⟨rfl,rfl⟩)|(go_at_call 145;refine(b _).mono ?_;clear b;rintro e w3 ⟨rfl,b,b⟩));go_end0;grind
end
theorem W7:fW Tryz.prog 131 5 1 1:=.B underlying131 (z:=.int .u8 0) ah rfl aA
def Bq(b:UInt8):Value:=.int .u8 (b.toNat)
def Kz(_:ai)(c:List aq)(x:UInt8):Prop:=c= [Bq x]
theorem XC(f:h->aq)(a:List h):(a.map λx=> [f x]).flatten=a.map f:=by
 induction a with
 |nil=>rfl
 |cons a l a=>grind
theorem aM.cB(j:h->aq)(r:∀c x,Q k c x->c= [j x])(m:aM a b f 1 Q k e y)(c:y≠ []):∃g d c,e=.slice (some ⟨g,0,none⟩) y d∧b<=g∧a.1[g]?=some (.cells c f)∧∀(i:Nat) x,y[i]?=some x->c[i]?=some (j x):=by
 obtain⟨_,_,l,n,_,o,p⟩:=m;obtain⟨_,m⟩|⟨g,d,c,rfl,m,q,_,_,_,n⟩:=p.2;grind;refine⟨g,d,c,rfl,m,q,λi x c=>?_⟩;have g:l=y.map λx=> [j x]:=by
  apply rH;intro j;rw[nI];by_cases m:j<y.length;have c:l[j]?=some l[j]:=cy aa;have d:=cy m;rw[c,d];exact congrArg some<|r _ _<|o j _ _ c d;rw[IP aa,IP aa];rfl
 rw[g,XC,AD]at n;have c:=congrArg (λl=>l[i]?) n;grind
def kF:Nat->Nat->List UInt8
 |0,_=> []
 |f+1,w=>if w=0 then []else wX (w/72057594037927936)::kF f (w*256 % 18446744073709551616)
def ow(w:Nat):ByteArray:=⟨(kF 8 w).toArray⟩
theorem ER{w:ag}(u)(y:u≠0)(K:u<18446744073709551616):
  aH 102 #[.int .u64 (u:Nat)] w λx O=>x=.returned (.string<|ow u)∧au w O:=by
 have E:aM w w.1.size 5 1 Kz _ _ _:=.m<|qV _;go_enter func102,ntmps102;go_wp2
 go_loopg [0,3] 8 (λgk Q N wr=>∃(k a:Nat)(b:List UInt8),k+gk=8∧Q=.int .u64 (a:Nat)∧a<18446744073709551616∧256^k ∣ a∧b.length=k∧ay (b++kF (8- k) a=kF 8 u)∧au w wr∧aM wr w.1.size 5 1 Kz gF N b)
 case atStart=>exact⟨0,u,[],aa,rfl,K,af,rfl,(rfl: []++kF _ u=kF 8 u),.T _ _,E⟩
 case round=>
  obtain⟨k,a,b,Z,rfl,U,B,d,e,i,j⟩:=hrel;by_cases p:a=0
  ·subst p;have J:kF (8- k) 0= []:=by
    cases 8- k<;>simp[kF]
   rw[J,vD]at e;have G:b≠ []:=by
    rw[e.out,kF,if_neg y];exact λh=>nomatch h
   obtain⟨m,v,cl,rfl,W,D,A⟩:=aM.cB Bq (λ_ _ h=>h) j G
   have V:=run_convert_bytes_back (P:=Tryz.prog) wr 131 9 5 ⟨m,0,none⟩ v b underlying131 underlying5 underlying9 (λr X=>by
    rw[Addr.add_lit,nJ];refine(cI _ m r _ 5 _ D).trans ?_
    exact A r _<|cy _)
   have s:ay<|b=kF 8 u:=aa;replace d:ay _:=d;go_wp2;go_ret;exact⟨dh s.out,i⟩
  ·have Y:k<8:=by
    obtain h|h:=tE k 8
    ·omega
    ·obtain rfl:k=8:=aa
     omega
   obtain⟨M,rfl⟩:=jX gk;have n:((a:Int) != 0)=true:=aJ
   obtain⟨c,o⟩:=aT<|wX<|a/72057594037927936;have z:ay<|Value.int .u8 ((a:Int) /72057594037927936)=Bq c:=by
    show _=_;have f:a/72057594037927936<256:=aa
    have g:c.toNat=a/72057594037927936:=by rw[o,UInt8.toNat_ofNat',D9 f]
    unfold Bq;rw[g,Ks];rfl
   have t:ay<|kF (8- k) a=c::kF (8-(k+1)) (a*256 % 18446744073709551616):=by
    show _=_;obtain⟨q,l⟩:∃q,8- k=q+1:=⟨7- k,aa⟩;have H:8-(k+1)=q:=aa
    rw[l,H,kF,if_neg p,o]
   have C:=by
    have f:256^ (k+1) ∣ a*256:=aw Nat.pow_succ<|Nat.mul_dvd_mul_right B 256
    have g:256^ (k+1) ∣ 18446744073709551616:=by
     have:(18446744073709551616:Nat)=256^8:=aA
     rw[this];exact Nat.pow_dvd_pow 256 aa
    exact(Nat.dvd_mod_iff g).2 f
   have T:b.length<8:=aa
   replace d:ay _:=d;have a0:=i.4;go_wp2_with (first|(rw[n];clear n)|(at_builtin;refine kI W7 rfl (.tmp 8) (.tmp 12) rfl j rfl c #[.int .u8<|(a:Int) /72057594037927936] (by show [_]= [_];rw[z.out]) rfl (by simp[eP]) rfl rfl aa aa aa ?_;intro S R a1 F I _));have L:IntKind.u64.wrap ((a:Int)*256)=((a*256 % 18446744073709551616:Nat):Int):=by simp[IntKind.wrap,IntKind.bits,IntKind.signed]
   go_roundg M
   case measure=>omega
   case rel=>exact⟨k+1,_,_,aa,fN L,aa,C,by rw[kK,d.out];rfl,(by rw[Av,<-e.out,t.out];rfl:b++ [c]++kF _ _=kF 8 u),i.V I λq l=>.inl (j.B q l).1,F⟩
section
variable{P:bj}{ops:Array bG}{rest:List bG}{o:bG}{a:bK}{Q:Exit->bK->ag->Prop}{w:ag}{t:bB}
theorem wW(b:cV o (yielded ops a.1)=true)(m i:cL)(f:o.2=.index t m i){v k u:aq}(e:a.eval m=v)(c:a.eval i=k)(g:∀w,(Instr.index t v k).run P w=.ok u w)(d:wpList P ops Q rest (a.put o.1 u) w):wpList P ops Q (o::rest) a w:=by
 refine wpList_want b λb b=>?_;unfold Oper.wp;simp[execOp,f,e,c,g w];exact b _ _ d
end
def eB(a:List Nat):List ByteArray:=(a.filter (·≠0)).map ow
theorem Fb(a:List Nat)(x):eB (a++ [x])=if x=0 then eB a else eB a++ [ow x]:=by
 unfold eB;grind
theorem L_{w:ag}{a b c:Nat}(Q:bF (a,b,c)):
  aH 55 #[bh (a,b,c)] w λv K=>∃y,v=.returned y∧au w K∧aM K w 9 1 ib gF y (eB [a,b,c]):=by
 unfold bh;obtain⟨F,G,H⟩:=Q;simp only at F G H;obtain⟨W,O,N,-⟩:=df w<|.cells #[.int .u64 a,.int .u64 b,.int .u64 c] 116
 have P:aM W w.1.size 9 1 ib _ _<|eB []:=.m<|qV _;have r:ay<|eB [a]=if a=0 then eB []else eB _++ [ow a]:=Fb [] a;have s:ay<|eB [a,b]=if b=0 then eB [a]else eB _++ [ow b]:=Fb [a] b;have t:ay<|eB [a,b,c]=if c=0 then eB [a,b]else eB _++ [ow c]:=Fb [a,b] c;have S:∀M:List _,(eB _).length<=M.length:=λM=>by unfold eB;rw[di];exact pK _ _
 have T:(eB []).length<=3:=aJ
 have U:(eB [a]).length<=3:=aJ;have V:(eB [a,b]).length<=3:=aJ;generalize eB []=p at*;generalize eB [a]=A at*;generalize eB [a,b]=B at*;generalize eB [a,b,c]=C at*;go_enter func55,ntmps55;go_wp2;rw[<-O];go_loopw [3,7] (λy z wr=>∃k g,k<=3∧z=.int .i64 (k:Nat)∧au w wr∧aM wr w.1.size 9 1 ib gF y g∧ay (g=if k=0 then p else if k=1 then A else if k=2 then B else C)) (λ_ z _=>3-(intOf z).toNat)
 case atStart=>exact⟨0,p,aa,rfl,N,P,(rfl:p=if 0=0 then p else if 0=1 then A else if 0=2 then B else C)⟩
 case round=>
  obtain⟨k,g,R,rfl,h,l,x⟩:=hrel;obtain rfl|rfl|rfl|rfl:k=0∨k=1∨k=2∨k=3:=aa
  ·obtain rfl:g=p:=x.out;by_cases d:a=0
   ·rw[if_pos d]at r;have e:(((a:Nat):Int) != 0)=false:=aJ
    replace d:ay _:=d;go_wp2_with (first|(refine wW rfl (.tmp 6) (.tmp 7) rfl rfl rfl (u:=.int .u64 (a:Nat)) (λw=>ah) ?_)|(rw[e];clear e));go_roundw
    case rel=>exact⟨1,g,aa,ba,h,l,r.out.symm⟩
    case measure=>first|decide|(simp[intOf];omega)|simp[intOf]
   ·rw[if_neg d]at r;have e:(((a:Nat):Int) != 0)=true:=aJ
    have j:=λw=>ER (w:=w) a d F;have I:=h.4;go_wp2_with (first|(refine wW rfl (.tmp 6) (.tmp 7) rfl rfl rfl (u:=.int .u64 (a:Nat)) (λw=>ah) ?_)|(rw[e];clear e)|(go_at_call 102;refine(j _).mono ?_;clear j;rintro v w2 ⟨rfl,f⟩;have i:=l.I f i2 i3;have J:=f.4)|(at_builtin;refine kI ye rfl (.tmp 12) (.tmp 15) rfl i rfl (ow a) #[ow a] rfl rfl (by simp[eP]) rfl rfl aa aa aa ?_;intro E D L m o _));go_roundw
    case rel=>exact⟨1,_,aa,ba,(h.B f).V o λq n=>.inl (i.B q n).1,m,r.out.symm⟩
    case measure=>first|decide|(simp[intOf];omega)|simp[intOf]
  ·obtain rfl:g=A:=x.out;by_cases d:b=0
   ·rw[if_pos d]at s;have e:(((b:Nat):Int) != 0)=false:=aJ
    replace d:ay _:=d;go_wp2_with (first|(refine wW rfl (.tmp 6) (.tmp 7) rfl rfl rfl (u:=.int .u64 (b:Nat)) (λw=>ah) ?_)|(rw[e];clear e));go_roundw
    case rel=>exact⟨2,g,aa,ba,h,l,s.out.symm⟩
    case measure=>first|decide|(simp[intOf];omega)|simp[intOf]
   ·rw[if_neg d]at s;have e:(((b:Nat):Int) != 0)=true:=aJ
    have j:=λw=>ER (w:=w) b d G;have I:=h.4;go_wp2_with (first|(refine wW rfl (.tmp 6) (.tmp 7) rfl rfl rfl (u:=.int .u64 (b:Nat)) (λw=>ah) ?_)|(rw[e];clear e)|(go_at_call 102;refine(j _).mono ?_;clear j;rintro v w2 ⟨rfl,f⟩;have i:=l.I f i2 i3;have J:=f.4)|(at_builtin;refine kI ye rfl (.tmp 12) (.tmp 15) rfl i rfl (ow b) #[ow b] rfl rfl (by simp[eP]) rfl rfl aa aa aa ?_;intro E D L m o _));go_roundw
    case rel=>exact⟨2,_,aa,ba,(h.B f).V o λq n=>.inl (i.B q n).1,m,s.out.symm⟩
    case measure=>first|decide|(simp[intOf];omega)|simp[intOf]
  ·obtain rfl:g=B:=x.out;by_cases d:c=0
   ·rw[if_pos d]at t;have e:(((c:Nat):Int) != 0)=false:=aJ
    replace d:ay _:=d;go_wp2_with (first|(refine wW rfl (.tmp 6) (.tmp 7) rfl rfl rfl (u:=.int .u64 (c:Nat)) (λw=>ah) ?_)|(rw[e];clear e));go_roundw
    case rel=>exact⟨3,g,aa,ba,h,l,t.out.symm⟩
    case measure=>first|decide|(simp[intOf];omega)|simp[intOf]
   ·rw[if_neg d]at t;have e:(((c:Nat):Int) != 0)=true:=aJ
    have j:=λw=>ER (w:=w) c d H;have I:=h.4;go_wp2_with (first|(refine wW rfl (.tmp 6) (.tmp 7) rfl rfl rfl (u:=.int .u64 (c:Nat)) (λw=>ah) ?_)|(rw[e];clear e)|(go_at_call 102;refine(j _).mono ?_;clear j;rintro v w2 ⟨rfl,f⟩;have i:=l.I f i2 i3;have J:=f.4)|(at_builtin;refine kI ye rfl (.tmp 12) (.tmp 15) rfl i rfl (ow c) #[ow c] rfl rfl (by simp[eP]) rfl rfl aa aa aa ?_;intro E D L m o _));go_roundw
    case rel=>exact⟨3,_,aa,ba,(h.B f).V o λq n=>.inl (i.B q n).1,m,t.out.symm⟩
    case measure=>first|decide|(simp[intOf];omega)|simp[intOf]
  ·obtain rfl:g=C:=x.out;obtain⟨X,Y,rfl⟩:=l.O;go_wp2;go_ret;simp_all
section
open Go.Lib Go.Sort
theorem W5:fW Tryz.prog 24 42 3 48:=.B underlying24 (z:=.agg #[iJ,.slice none 0 0,false]) ah rfl aA
theorem aM.eT(h:aM a b 156 5 dC k e i)(c:i≠ []):∃g c,e=.slice (some ⟨g,0,none⟩) i c∧b<=g∧g<a∧oH bV.B 5 a g 0 i.toArray:=by
 obtain⟨_,_,f,d,l,m,j⟩:=h;obtain⟨_,h⟩|⟨g,c,d,rfl,h,d,_,_,_,n⟩:=j.2;grind;refine⟨g,c,rfl,h,aP d,λj c=>?_⟩;rw[size_flatK,qp]at c;refine⟨?_,kH d⟩;rw[nJ,id,get_flatK _ 5 _ j<|aw qp c];refine(cI a g j _ _ _ d).trans ?_;have h:j/5<i.length:=aa;have d:f[j/5]?=some f[j/5]:=cy aa;have g:=BH l _ (j % 5) aa d;have f:j/5*5+j % 5=j:=aa;rw[f,<-n,Aq,if_pos c,xb,(m _ _ _ d (cy h))]at g;grind
def Ky(_:ai)(_:List aq)(_:Unit):Prop:=True
theorem Vh{w:ag}{N:Nat}{d:List bV}(t:aM w N 156 5 dC gF e d)(a1:d≠ [])(Q:d.length<=12)(a2:∀x∈d,bF x.t):
  Calls Tryz.prog 45 #[e] w λj v=>∃m c,j=.returned (.slice m d c)∧ae (λb=>e.ownBlock=some b) w v:=by
 obtain⟨g,cap,rfl,c6,X,S⟩:=aM.eT t a1;have a3:d.toArray.size=d.length:=af;have r:=Vz (cap:=cap) S X aa;have F:=BV (R:=λx:bV=>bF _) (ltOf sG) 0 d.toArray.size _ λi=>by
  by_cases c7:i<d.length
  ·have O:d.toArray[i]! =d[i]:=aJ
   rw[O];exact a2 _ af
  ·rw[getElem!_neg _ i aa];exact⟨aA,aA,aA⟩
 obtain⟨y,W⟩:∃y,y=insertionSort (ltOf sG) d.toArray 0 d.toArray.size:=⟨_,rfl⟩;rw[<-W]at r F;obtain⟨U,G⟩:=F;rw[a3]at r G
 suffices M:∀n:Nat,d.length=n->Calls Tryz.prog 45 #[.slice (some ⟨g,0,none⟩) n cap] w λj v=>∃m c,j=.returned (.slice m n c)∧ae (·=g) w v from by
  refine(M _ rfl).mono ?_;rintro j v ⟨m,c,rfl,a4⟩;exact⟨m,c,rfl,a4.cW λb _ (A:b=g)=>dh A⟩
 intro n a8;rw[a8]at r G Q;go_enter func45,ntmps45;go_wp2_with (go_at_call 88;refine r.mono ?_;clear r;rintro j w2 ⟨rfl,a5,T⟩);have Y:aM w2 w2.1.size 42 3 Ky _ _ (Dg 0 ()):=.m (qV _)
 go_loopw [3,10] (λe i wr=>∃k,k<=n∧i=.int .i64 (k:Nat)∧ae (λ_=>False) w2 wr∧aM wr w2.1.size 42 3 Ky gF e (Dg k ())) (λ_ i _=>n-(intOf i).toNat)
 case atStart=>exact⟨0,aa,rfl,.T _ _,Y⟩
 case round=>
  obtain⟨k,c8,rfl,s,t⟩:=hrel;by_cases c9:k<n
  ·have o:=λc (V:c<5)=>s.Y (T.cell (i:=k) aa V).1 id;have E:=U k;have ax:=o 0 aa;have c1:=o 1 aa;have c2:=o 2 aa;have c3:=o 3 aa;have c4:=o 4 aa;simp only[nJ,rA]at ax c1 c2 c3 c4;generalize y[k]! =b2 at ax c1 c2 c3 c4 E;obtain⟨nm,⟨a,b,c⟩,gone⟩:=b2;change wr.cell? ⟨g,k*5,none⟩=some (.string nm)at ax;change wr.cell? ⟨g,k*5+1,none⟩=some (.int .u64 a)at c1;change wr.cell? ⟨g,k*5+2,none⟩=some (.int .u64 b)at c2;change wr.cell? ⟨g,k*5+3,none⟩=some (.int .u64 c)at c3;change wr.cell? ⟨g,k*5+4,none⟩=some (.bool gone)at c4;obtain⟨L,u⟩:∃x,x=wr.alloc (.cells #[.string nm,.int .u64 a,.int .u64 b,.int .u64 c,.bool gone] 156):=⟨_,rfl⟩;obtain⟨P,z⟩:∃x,x=wr.1.size:=⟨_,rfl⟩;have C:ae (λ_=>False) wr L:=aw u ((ae.T _ _).I _)
   have l:L.1[P]?=some (.cells #[.string nm,.int .u64 a,.int .u64 b,.int .u64 c,.bool gone] 156):=by rw[u,z];exact cz _ _
   have p0:=(cI _ P 0 _ _ _ l).trans rfl;have p1:=(cI _ P 1 _ _ _ l).trans rfl;have p2:=(cI _ P 2 _ _ _ l).trans rfl;have p3:=(cI _ P 3 _ _ _ l).trans rfl;have p4:=(cI _ P 4 _ _ _ l).trans rfl;have d0:=aP l;have B:=λw=>L_ (w:=w) (a:=a) (b:=b) (c:=c) E;unfold bh at B;have d2:=(s.B C).4;go_wp2_with (rw[<-u,<-z];clear u z);apply dG (λi=>i==5||i==9||i==10||i==11) ah ah;intro b3 b8 aK b6 b7 b9 D;iterate 5 (refine gg ah bf bf λK q=>?_;go_big_quiet_op;refine q _ ?_;clear q K)
   refine jV ah bf λh f=>?_;go_wp2_with (go_at_call 55;refine(B _).mono ?_;clear B;rintro j w4 ⟨J,rfl,a6,Z⟩);have p:=(ae.T _ _).m.B a6;apply f _ _ ah (λ_=>D _ p.below);clear f h;obtain⟨b0,b1,rfl⟩:=Z.O;iterate 3 (refine gg ah bf bf λK q=>?_;go_big_quiet_op;refine q _ ?_;clear q K)
   refine jV ah bf λh f=>?_;go_wp2;apply f _ _ ah (λ_=>D _ (p.I _).below);clear f h;have H:=(t.I C i2 i3).I p i2 i3;have d1:=p.4;refine jV ah bf λh f=>?_;refine kI W5 rfl (.tmp 14) (.tmp 23) rfl H rfl () #[.string nm,.slice b0 (eB [a,b,c]).length b1,.bool gone] trivial rfl (by simp[eP]) rfl rfl bQ bQ aa ?_;intro b5 b4 d3 a0 a7 _;go_wp2;apply f _ _ ah (cS ah);clear f h;refine jV ah bf λh f=>?_;go_wp2;apply f _ _ ah (cS ah);clear f h;apply cR;go_wp2;go_roundw
   case rel=>exact⟨k+1,aa,ba,((s.B C).B p).V a7 λb A=>.inl (H.B b A).1,by rw[List.replicate_succ'];simpa using a0⟩
   case measure=>simp[intOf];omega
  ·obtain rfl:k=n:=aa
   obtain⟨a9,J,I⟩:=t.O;rw[List.length_replicate]at I;subst I;go_wp2;go_ret;exact⟨a9,J,rfl,a5.B s.Z⟩
end
section
open Go.Conc
theorem aY.m{F:bw->Bool}{f:Ren}{v v2:ag}{e s:Nat->Option bI}{d a1:bK}{k:List fJ}{a:Array bG}
  (H:Held a7 F)(j:b3.6≠ .early)(l:List bG)(i) (g:List Nat)(m:(a.1.drop i).take l=l)(n:l.all (λo=>lh a7 F o&&calm o)=true)(p:v2.2=v.2)
  (h:∀T,wpList a7 a (λe b w=>e=.normal∧b=a1∧∃c,w=aN v2 c) l d<|aN v T)(o:aY a7 F b8 f v2 e s b3 a1 (.inRegion a g::k) b6):
  aY a7 F b8 f v e s b3 d (.inRegion a (List.range' i l++g)::k) b6:=by
 apply aY.bN H j l i _ (X:=λb w=>b=a1∧∃T,w=aN _ T) (piece m) n h;rintro a2 a T a ⟨rfl,c,b⟩;rw[aav b<|a.trans p.symm];exact o
noncomputable abbrev abh:=rg f19 0
noncomputable abbrev abj:=rg f19 1
noncomputable abbrev abn:=rg f19 2
noncomputable abbrev OG:=rg f19 3
noncomputable abbrev abo:=rg f19 4
noncomputable abbrev abp:=rg f19 5
noncomputable abbrev abq:=rg f19 6
noncomputable abbrev abr:=rg f19 7
noncomputable abbrev abt:=rg f19 8
noncomputable abbrev abu:=rg f19 9
noncomputable abbrev abk:=rg f19 10
noncomputable abbrev abl:=rg f19 11
noncomputable abbrev abm:=rg f19 12
noncomputable abbrev Tx:Code:=((bH 0 abh false).seq (((bH 1 abj false).seq (rJ 0 ((bH 2 abn false).seq ((mX (bz 14) mY (u_ 0)).seq ((rJ 1 ((bH 3 OG false).seq ((bH 4 abo false).seq ((bH 5 abp false).seq (mX (bz 22) ((bH 6 abq false).seq kL) mY))))).seq (bH 7 abr false)))).loop)).seq ((bH 8 abt false).seq (((bH 9 abu false).seq (mX (bz 34) ((bH 10 abk false).seq kL) mY)).seq ((bH 11 abl false).seq ((bH 12 abm false).seq kL))))))
section
variable{v:ag}{eb nb sb pb mb:Nat}{fn:gq}{bs:bO}{F:aW}{la:Option bC}{lc:Nat}{ps:List (eO×Lay)}{K:ai}{N:Nat}{R:Nat->List bV->aW->Prop}{e s:Nat->Option bI}{f g:Ren}{h:ai}{ad:Option bC}{c:Nat}{x:kO}
theorem dQ.B(E:dQ v eb nb sb pb mb fn bs F la lc ps K N)(b:au v a):dQ a eb nb sb pb mb fn bs F la lc ps K N:=E.V b.Z<|E.3.O b id λ_ _=>id
theorem aF.V{c e:Type}{ok:c->Prop}{d:c->aq}{c:e->aq}{l:List _}(h:aF a ok d c b l)(f:t.1=a.1):aF t ok d c b l:=by
 obtain⟨c,cl,d,e⟩:=h;exact⟨c,cl,aw f d,e⟩
theorem aM.oV{d:Type}{M b sz:Nat}{R:ai->List aq->d->Prop}{u:aq}{c:List d}(h:aM a M b sz R k u c)(T:Nat->jq->Nat):aM (aN a T) M b sz R k u c:=by
 obtain⟨a1,a2,c,d,e,f,g,i⟩:=h;exact⟨λb o j=>a1 b o j,a2,c,d,e,f,g,i⟩
theorem dQ.ab{u:aq}(E:dQ v eb nb sb pb mb fn bs F la lc ps K N)(d:ae (λb=>u.ownBlock=some b) v a)(e:∀b,u.ownBlock=some b->∃f i,v.1[b]?=some (.cells f 156 i))(k:∀b o,K b=some o->¬u.ownBlock=some b):dQ a eb nb sb pb mb fn bs F la lc ps K N:=by
 have nm:∀ {e g cl},v.1[e]?=some (.map g cl)->¬u.ownBlock=some e:=aJ
 have j:∀ {e c t i},v.1[e]?=some (.cells c t i)->t≠156->¬u.ownBlock=some e:=aJ
 have e:∀ {i m:Type} {ok:i->Prop} {l:i->aq} {i:m->aq} {b:Nat} {m:List _},aF v ok l i b m->¬u.ownBlock=some b:=λh=>by
  obtain⟨g,cl,i,-⟩:=h;grind
 refine⟨d.O E.1<|j E.1 aA,E.2.B d<|e E.2,E.3.O d (e E.3.1) λp b=>e<|E.3.2 p b,E.4,E.5,E.6,d.O E.7<|j E.7 aA,λl p b=>?_,E.9.B d<|e E.9,λp b=>⟨(E.10 p b).1,(E.10 p b).2.I K.V d ?_ λmb g cl _ e=>nm e⟩,E.11.B d k,E.12,E.13,E.14,E.15⟩;obtain⟨al,m,f,i,e,g,k⟩:=E.8 l p b;exact⟨al,m,f,i,d.O e<|j e aA,g,k⟩;obtain⟨d,rc,g,d,k⟩:=(E.10 p b).2;grind
structure Ef(fn:gq)(bs:bO)(F:aW)(n:Nat)(R:Nat->List bV->aW->Prop)(x:kO):Prop where
 gone:x.3=true
 name:aL x.n
 size:x.n.size<=281474976710656
 len:x.2.length<=3
 Mm:∀s∈x.2,rQ s
 known:aB fn x.n=some (x.2.length,false)
 ae3:bL (cd bs F x.n) (fI x.2)=true
 all:∀p∈fn,(aB bs p.1).isSome=true
 few:fn.length<=1048576
 small:∀n,(F n).length<=1048576
 room:∀l:gq,(∀p∈fn,p∈l)->(∀p∈l,p∈fn)->(l.map bD).Nodup->nP F l<=24
 aff:bF (fI x.2)
 start:R 0 [x.B] (o_ F [x.B])
 told:∀zs F',R n zs F'->zs≠ []∧zs.length<=12∧∀x∈zs,bF x.t
theorem XQ(E:dQ v eb nb sb pb mb fn bs F la lc ps K N)(j:h.In v)(a9:h.list 3 Ev (.slice ad 1 c) [x])(d6:ps.length<=100)(D:Ef fn bs F ps R x)(e4:xu sb bs ps K N R):
  Goes Tryz.prog cH 19 #[eb,.slice ad 1 c] f v e s λu f5=>∃q rc n a4,u=.tuple #[.slice q n.length rc,.int .i64 0,.int .i64 1]∧R ps n a4∧dQ f5 eb nb sb pb mb fn bs a4 la lc ps K N:=by
 obtain⟨c4,aK,f1,d4⟩:=a9.U j;obtain⟨rfl,-,rfl⟩:ad=c4∧1= [x].length∧c=aK:=aV f1
 obtain⟨H,Q,cc,rfl,g2,d2,W⟩:=d4 0 x rfl;obtain⟨l,m,rfl,d3⟩:=d2;have ax:=W 0 aA;have c1:=W 1 aA;have c2:=W 2 aA;simp only[Nat.zero_mul,rA,nJ]at ax c1 c2;refine Goes.B func19 (c:=Tx) rfl λg f9 cs1 b3=>?_;refine yg ntmps19 ?_;refine ck ?_;refine bY (.int .i64 1) ?_;refine ck ?_;refine bY true ?_;apply eo 8 rfl;obtain⟨a3,c9⟩:∃G,G=v.1.size:=⟨_,rfl⟩;refine aY.m (a1:=⟨#[.pointer (some ⟨eb,0,none⟩),.slice (some ⟨H,Q,none⟩) 1 c,aj,aj,.slice none 0 0,.int .i64 0,.int .i64 0,.int .i64 0,.pointer (some ⟨a3,0,none⟩),aj,aj,.slice (some ⟨H,Q,none⟩) 1 c,.int .i64 1,.int .i64 0,.bool true,.int .i64 0,.pointer (some ⟨H,Q,none⟩),.agg #[x.n,.slice l x.2.length m,x.3],aj,aj,aj,aj,aj,aj,aj,aj,aj,aj,aj,aj,aj,aj,aj,aj,aj,aj,aj,aj,aj,aj,aj,aj,aj,aj,aj,aj,aj,aj,aj,aj,aj,aj],[]⟩) (v2:=v.alloc (.cells #[x.n,.slice l x.2.length m,x.3] 42)) mH (base_kind _) OG.1 0 [] rfl bb rfl (λT=>?_) ?_
 ·have d0:(aN v T).cell? _=_:=ax;have g0:(aN v T).cell? _=_:=c1;have g1:(aN v T).cell? _=_:=c2;go_wp2;exact⟨rfl,T,rfl⟩
 have V:au v (v.alloc (.cells #[x.n,.slice l x.2.length m,x.3] 42)):=(ae.T _ _).I _;have a7:(v.alloc (.cells #[x.n,.slice l x.2.length m,x.3] 42)).1[a3]?=some _:=aw c9 (cz _ _)
 generalize v.alloc (.cells #[x.n,.slice l x.2.length m,x.3] 42)=g6 at V a7⊢;replace E:=E.B V;replace j:h.In _:=j.B V i3;refine ck ?_;refine dZ (.agg #[x.n,.slice l x.2.length m,x.3]) ?_ (hl:=λT=>by obtain⟨b0,b1,b2,-⟩:=bq (w:=aN _ T) a7;simp[go_sem,b0,b1,b2]);walk_nrm;refine acl func40 (#[eb,.agg #[x.n,.slice l x.2.length m,x.3]])
  (Post:=λw u a=>u=.int .i64 0∧au w a) (λT=>?_) λT r u v2 e5 d7=>?_
 ·refine(Vd (h:=h) (w:=aN _ T) j E.1 (E.2.V rfl) D.2 d3 (aI D.4) D.5 _ D.6).mono ?_;grind
 obtain⟨rfl,J⟩:=d7;replace J:=J.dz e5;replace E:=E.B J;replace j:h.In _:=j.B J i3;walk_nrm;refine ck ?_;refine bY false ?_;refine ck ?_;refine dZ (.int .i64 1) ?_ (hl:=λT=>by simp[go_sem];decide);walk_nrm;refine ck ?_;refine bY false ?_;refine ck ?_;refine acl func41 (#[eb,.slice (some ⟨H,Q,none⟩) 1 c])
  (Post:=λw u a=>au w a∧fY a w.1.size 156 5 dC gF u [x.B]) (λT=>?_) λT r u f6 e6 d8=>?_
 ·refine(Ve (h:=h) (w:=aN _ T) j a9 D.1 D.3 D.4 E.1 (E.3.T λ_ _ _ _ h=>h) D.7).mono ?_;grind
 obtain⟨L,d⟩:=d8;replace L:=L.dz e6;replace d:fY _ v2.1.size _ 5 dC gF u [x.B]:=⟨d.toaM.al,λg b3=>d.nN g b3⟩;have b4:∀p∈bs,p.2<v2.1.size:=λp A=>(E.3.2 p A).O;replace E:=E.B L;clear L j;obtain⟨Z,a0,rfl⟩:=d.toaM.O;walk_nrm;refine ck ?_;refine acl func42 (#[eb])
  (Post:=λw u a=>(∃P:Nat,P<=24∧u=.int .i64 P)∧au w a) (λT=>?_) λT r u f7 e7 d9=>?_
 ·refine(Vf (w:=aN f6 T) E.1 (E.2.V rfl) (E.3.T λ_ _ _ _ h=>h) D.8 D.9 D.10).mono ?_;rintro ex a ⟨f3,B,C,Y,rfl,i⟩;exact⟨_,rfl,⟨_,D.11 f3 B C Y,rfl⟩,i⟩
 obtain⟨⟨P,g3,rfl⟩,t⟩:=d9;replace t:=t.dz e7;replace E:=E.B t;replace d:=d.iO t (λ_ _=>id) λ_ _ _=>id;clear t;walk_nrm;refine ck ?_;refine acl func43 (#[.slice Z [x.B].length a0])
  (Post:=λw u a=>u=.int .i64 (-1)∧au w a) (λT=>?_) λT r u b7 e8 e0=>?_
 ·obtain⟨O,B,-,-,C⟩:=d.toaM.U λ_ _ _ _ h=>h;refine(Vg (h:=O) (w:=aN f7 T) B C af).mono ?_;rintro ex a ⟨rfl,i⟩;refine⟨_,rfl,?_,i⟩;simp[nV,qP,kO.B,D.1]
 obtain⟨rfl,y⟩:=e0;replace y:=y.dz e8;replace E:=E.B y;replace d:=d.iO y (λ_ _=>id) λ_ _ _=>id;clear y;walk_nrm;obtain⟨S,g4,g5⟩:∃S:Int,S=(P:Int)+ -1∧¬S>24:=⟨_,rfl,aa⟩;refine ck ?_;refine dZ (.int .i64 S) ?_ (hl:=λT=>by simp[go_sem];rw[H3];omega);walk_nrm;refine ck ?_;refine dZ (.bool false) ?_ (hl:=λT=>by simp[go_sem];omega);walk_nrm;refine ck ?_;refine bY eb ?_;refine ck ?_;refine bY (.pointer (some ⟨eb,1,none⟩)) ?_;refine ck ?_;refine dZ (.map (some sb)) ?_ (hl:=λT=>by obtain⟨f4,b5,b6,-⟩:=bq (w:=aN b7 T) E.1;simp[go_sem,b5]);walk_nrm;refine ck ?_;refine acl func44 (#[some sb,.slice Z [x.B].length a0])
  (Post:=λw u a=>u=.tuple #[]∧ae (λb=>∃p∈bs,p.2=b) w a∧aO a sb bs (o_ F [x.B])) (λT=>?_) λT r u a2 br e1=>?_
 ·obtain⟨O,B,-,Y,C⟩:=d.toaM.U λ_ _ _ _ h=>h;refine(LY (h:=O) (w:=aN b7 T) B (E.3.T λ_ _ _ _ h=>h) (λp A=>?_) C af (λG f2=>?_)).mono ?_
  ·cases d5:O p.2 with
   |none=>rfl
   |some o=>
    rcases Y _ _ d5 with U|U
    ·cases U
    ·have i:=(d.toaM.B _ U).1;have a6:=b4 p A;omega
  ·obtain rfl:=ir.1 f2;refine⟨D.2,D.12,?_⟩;exact D.8 _ (ij D.6)
  ·rintro ex a ⟨rfl,i⟩;exact⟨_,rfl,rfl,i⟩
 obtain⟨rfl,z,I⟩:=e1;replace z:=z.dz br;replace I:aO a2 sb bs (o_ F [x.B]):=I.T λ_ _ _ _ h=>h;replace E:=E.V z I
 replace d:=d.lK z (λb k=>by
  rintro⟨p,A,rfl⟩;have i:=(d.toaM.B _ k).1;have a6:=b4 p A
  omega) λ_ _ h=>nomatch h
 clear z I;walk_nrm;refine ck ?_;refine bY eb ?_;refine ck ?_;refine bY (.pointer (some ⟨eb,2,none⟩)) ?_;refine ck ?_;refine dZ (.pointer (some ⟨pb,0,none⟩)) ?_ (hl:=λT=>by obtain⟨f4,b5,b6,-⟩:=bq (w:=aN a2 T) E.1;simp[go_sem,b6]);walk_nrm;refine eo 1 rfl ?_;walk_nrm;have d1:∀b o,K b=some o->b<a2.1.size:=λb o k=>aP (E.11 b o k);refine sB func46 (#[pb,.slice Z [x.B].length a0]) (E.bN e4 d6 d af D.13) λu f8 e2=>?_;obtain⟨a5,n,a8,b8,X⟩:=e2;obtain⟨c6,c7,c8⟩:=D.14 n a5 a8;walk_nrm;refine acl func45 (#[u])
  (Post:=λw G a=>∃q rc,G=.slice q n.length rc∧ae (λb=>u.ownBlock=some b) w a) (λT=>?_) λT r G g7 f0 e3=>?_
 ·refine(Vh (w:=aN f8 T) (X.oV T) c6 c7 c8).mono ?_;rintro ex a ⟨c3,b,rfl,i⟩;exact⟨_,rfl,c3,b,rfl,i⟩
 obtain⟨q,rc,rfl,M⟩:=e3;replace M:=M.dz f0;have b9:=b8.ab M (λb k=>yL X k) λb o k h=>by
  have i:=d1 b o k;have a6:=(X.B b h).1;omega
 clear M;walk_nrm;refine ck ?_;refine bY (.int .i64 1) ?_;refine eo 4 rfl ?_;walk_nrm;exact aY.B func19 (u:=.tuple #[.slice q n.length rc,.int .i64 0,.int .i64 1]) rfl (λw=>by simp[results,go_sem,f19]) ⟨q,rc,n,a5,rfl,a8,b9⟩ (Ren.I _)
end
end
section
open Go.Shelf
def Tryz.Y1:mf:=⟨λ|190=>157|125=>146|258=>219|128=>198|129=>199|302=>260|303=>261|304=>262|305=>263|306=>264|307=>265|308=>266|309=>267|310=>268|333=>290|329=>250|330=>251|334=>291|335=>292|336=>293|344=>297|n=>n,λ|31=>23|9=>9|3=>3|46=>262|0=>0|51=>270|53=>110|4=>4|183=>334|182=>333|131=>71|5=>5|218=>385|222=>388|228=>416|229=>417|n=>n,λ|n=>n⟩
theorem Tryz.Y0:aeQ Tryz.prog Tryz.Y1:=lay
open Go.Sort Go.RowKit in
theorem Tryz.slices_Sort_string(blk off a:Nat)(ss:List<|List UInt8)(w:ag)(b:qg encStr w blk off ss.toArray)(c:blk<w.1.size)(d:ss.length<4611686018427387904):
  aH 157 #[.slice (some ⟨blk,off,none⟩) ss.length a] w λe f=>
   e=.returned (.tuple #[])∧∃n os,f=grow (putRow encStr (Sort.ahead w n) blk off (ss.mergeSort λx y=>decide<|x<=y).toArray) os:=Any.slices_Sort_string Tryz.Y0 blk off a ss w b c d
def Tryz.acw:mf:=⟨λ|20=>226|n=>n,λ|0=>0|3=>3|4=>4|22=>121|24=>116|25=>189|n=>n,λ|n=>n⟩
theorem Tryz.acv:RX Tryz.prog Tryz.acw:=by
 constructor<;>first|kernel_rfl|(intro w;kernel_rfl)|(intro w;rfl)|exact⟨f226.1,aA,func226.trans<|congrArg some ah⟩
end
section
open Go.Lib Go.Sort
theorem OZ[Inhabited h]d(w:ag)(g o m)(c:Array h)(os:Array bI)(a:w.1[g]?=some (.cells D d2)):∃b,(sortWorld d w g o m c os).1[g]?=some (.cells b d2):=by
 unfold sortWorld grow putRow mapBlock RP;simp only[Array.getElem?_append,Array.size_modify,(aP a)];rw[Ic,if_pos rfl,a];exact⟨_,rfl⟩
def oy(t:aC):List Value:= [.int .u64 t.1,.int .u64 t.2.1,.int .u64 t.2.2]
theorem adR(a b c)(w:ag):CmpLays Tryz.prog 101 #[] oy 3 lU a b c w:=λm os a _ x y=>by
 exact Lp
theorem Uj{g o cap:Nat}(d:oH oy 3 a g o w)(f:g<a)(i:a.1[g]?=some (.cells D 116))(j:w.size<4611686018427387904):
  aH 226 #[.slice (some ⟨g,o,none⟩) w cap,.int .i64 0,.int .i64 w,.func (.func 101) #[] #[]] a λe b=>e=.returned (.tuple #[])∧ae (·=g) a b∧oH oy 3 b g o (pC (ltOf lU) w 0 w)∧∃c,b.1[g]?=some (.cells c 116):=by
 have h:∀c a,(callFunc 101 c).run Tryz.prog a=.ok (.enter 101 c) a:=af;refine(RY Tryz.acv 3 isAgg116 sizeOf116 _ (λ_=>rfl) (λx v c=>by simp[oy]at c;rcases c with rfl|rfl|rfl<;>rfl) _ _ _ g o _ 0 _ w a h (adR g o _ a) d f aa aa j).mono ?_;rintro e b ⟨rfl,n,os,rfl⟩;exact⟨rfl,G1 _ a g o n _ _,holdsK_sortWorldK _ 3 a g o n w _ _ f d (BV (R:=λ_=>True) _ _ _ w af).2,OZ _ a g o n _ _ i⟩
theorem T5{g o cap:Nat}(d:oH oy 3 a g o w)(h:g<a)(f:a.1[g]?=some (.cells D 116))(b:w.size<=12)(b):
  aH 164 #[.slice (some ⟨g,o,none⟩) w cap,.int .i64 0,.int .i64 w,.int .i64 b,.func (.func 101) #[] #[]] a λe b=>e=.returned (.tuple #[])∧ae (·=g) a b∧oH oy 3 b g o (pC (ltOf lU) w 0 w)∧∃c,b.1[g]?=some (.cells c 116):=by
 have b:=Uj (cap:=cap) d h f aa;go_enter func164,ntmps164;go_wp2;apply wp_loop_rounds 1;rw[rounds_succ];go_wp2_with (go_at_call 226;refine b.mono ?_;clear b;rintro e w2 ⟨rfl,c,b⟩)
 exact fl (DW rfl _ _ _) rfl ⟨rfl,c,b⟩
theorem TN{g o cap:Nat}(d:oH oy 3 a g o w)(h:g<a)(f:a.1[g]?=some (.cells D 116))(i:w.size<=12):
  aH 100 #[.slice (some ⟨g,o,none⟩) w cap,.func (.func 101) #[] #[]] a λe b=>e=.returned (.tuple #[])∧ae (·=g) a b∧oH oy 3 b g o (pC (ltOf lU) w 0 w)∧∃c,b.1[g]?=some (.cells c 116):=by
 have b:=λc=>T5 (cap:=cap) d h f i c;have c:=λa=>Tryz.bits_Len (w.size:Int) a aa aa;go_enter func100,ntmps100;go_wp2_with (first|(go_at_call 146;refine(c _).mono ?_;clear c;rintro e w2 ⟨rfl,rfl⟩)|(go_at_call 164;refine(b _).mono ?_;clear b;rintro e w3 ⟨rfl,b,b⟩));go_end0;grind
end
theorem aev(w:ag):(zeroValue 171).run Tryz.prog w=.ok .nilIface w:=ah
theorem Zy(x)(w:ag):(method 622 320 x "upshot/layers.support").run Tryz.prog w=.ok (326,x) w:=ah
theorem Vj(z:a.1[l]?=some (.cells #[e,some b] 185))(L:aF a aL cr oY b g)(P:aL d)(M:aB g d=some (true,f)){t:aC}(u:∀h,au a h->aH 326 #[f,d,bh t] h λc V=>c=.returned (cg s)∧au h V):
  aH 49 #[l,d,bh t] a λc h=>c=.returned (cg s)∧au a h:=by
 obtain⟨w,k,x⟩:=t;unfold bh at u⊢;have a2:=Zy;obtain⟨W,m,j,-⟩:=nc a (.cells #[.int .u64 w,.int .u64 k,.int .u64 x] 116)<|.cells #[.int .u64 0,.int .u64 0] 112;let⟨Q,r⟩:=aT a.1.size;obtain⟨A,q⟩:=aT<|a.1.size+1
 have B:W.1[Q]?=some (.cells #[.int .u64 w,.int .u64 k,.int .u64 x] 116):=by rw[m,r];exact ic _ _ _
 have J:W.1[A]?=some (.cells #[.int .u64 0,.int .u64 0] 112):=by rw[m,q];exact eK _ _ _
 obtain⟨a5,a6,a7,-⟩:=bq B;have a4:=aP B;obtain⟨p0,p1,-,-⟩:=bJ<|j.O z id;have a3:=aP<|j.O z id;have y:=L.B j id;have N:=y.O;have a0:a.1.size<=A:=aa
 have R:(aB g d).elim .nilIface oY=.iface 320 (f):=dh M
 go_enter func49,ntmps49;go_wp2_with (rw[<-m,<-q,<-r];clear m q r);apply dG (λC=>C==8||C==9) ah ah;intro X F a1 Y Z G E;refine aD ?_;refine aD ?_;refine aD ?_;refine aD ?_;refine aD ?_
 have O:∀e,ai.map (λk=>(F e).1[k]?) _ _ _ _ g:=λe=>by
  obtain⟨D,cl,H,I⟩:=y;exact .inr ⟨b,D,cl,rfl,(G e _ N).trans H,I⟩
 refine yn bZ af aev ah bf _ _ rfl rfl (λh ⟨e,c⟩=>aw c<|O e) rfl P R ?_;go_frame;refine aD ?_;refine aD ?_
 refine a_ λn i=>?_;go_wp2_with (go_at_call 326;refine(u _<|j.B (ae.T _ _).m).mono ?_;clear u;rintro c w4 ⟨rfl,S⟩);have o:=ae.ft S;apply i _ _ ah (λ_=>E _ o.below);clear i n;have K:=o.O J id;let⟨T,U,a8,a9⟩:=bJ K;unfold cg;refine a_ λn i=>?_;go_wp2;apply i _ _ ah (cS ah);clear i n;apply cR;go_wp2;exact fl (v:=cg _) (by simp[results,go_sem,T,U,cg]) rfl ⟨rfl,(j.B o).V (((ae.T (·=A) _).U (p:=⟨A,0,_⟩) af<|.int _ _).U (p:=⟨A,1,_⟩) af<|.int _ _) aa⟩
theorem Uh{h:ai}{w:ag}(v:h.In w)(m:w.1[l]?=some (.cells #[some s,e,A] 102))(G:aF w aL cr om s S)(H:w.1[A]?=some (.cells #[C,some M] 185))(F:aF w aL cr oY M g)
  (u:aL d)(p:h.list 1 ib (.slice q b f) j)(L:j.length<=3)(y:∀a∈j,rQ a)(r:aB S d=some (j.length,true))(K:aB g d=some (true,b7)){cnt:Nat}(I:cnt<9223372036854775808)
  (N:∀a,au w a->aH 326 #[b7,d,bh<|fI j] a λc z=>c=.returned (cg cnt)∧au a z):
  aH 22 #[l,d,.slice q b f] w λc a=>c=.returned (.tuple #[.int .i64 cnt,.int .i64 0])∧au w a:=by
 obtain⟨k,n,i⟩:=p.I;obtain⟨rfl,rfl,rfl⟩:q=k∧b=j.length∧f=n:=aV i
 obtain⟨W,o,k,-⟩:=df w<|.cells #[.int .i64 (j.length:Nat),true] 107;obtain⟨B,n⟩:=aT w.1.size
 have i:W.1[B]?=some (.cells #[.int .i64 (j.length:Nat),true] 107):=by rw[o,n];exact cz _ _
 obtain⟨B,D,E,-⟩:=bq m;have J:=aP m;have x:=λa (i:au w a)=>LZ (v.B i i3) p aa y;have y:=λa (i:au w a)=>E0 (v.B i i3) p L;have p:=λa (i:au w a)=>Vj (i.O H id) (F.B i id) u K (t:=fI _) λz v=>N _<|i.B v;have v:=λa=>Vk _ I a;go_enter func22,ntmps22;go_wp2_with (first|(at_lookup;refine gJ bZ underlying97 Hd rfl (.tmp 14) (.tmp 15) rfl rfl (bU _) G.T rfl u r ?_;clear r)|(go_at_call 48;rw[<-o,<-n];clear o n;refine(x _ k).mono ?_;clear x;rintro c a ⟨rfl,rfl⟩));obtain⟨B,D,E,-⟩:=bq<|k.O m id;have J:=aP<|k.O m id;apply dG (λi=>i==6||i==7||i==8||i==9||i==10) ah ah;intro a a a a a a i;refine aD ?_;refine aD ?_;refine aD ?_;refine aD ?_;refine aD ?_;refine aD ?_
 refine a_ λm a=>?_;go_wp2_with (go_at_call 50;refine(y _<|k.B (ae.T _ _).m).mono ?_;clear y;rintro c n ⟨rfl,o⟩);have n:=ae.ft o;apply a _ _ ah (λ_=>i _ n.below);refine a_ λm a=>?_;go_wp2_with (go_at_call 49;refine(p _<|k.B n).mono ?_;clear p;rintro c o ⟨rfl,p⟩);have o:=n.B p;apply a _ _ ah (λ_=>i _ o.below);refine a_ λm a=>?_;go_wp2_with (go_at_call 51;refine(v _).mono ?_;clear v;rintro c c ⟨rfl,n⟩);have c:=o.B n;apply a _ _ ah (λ_=>i _ c.below);iterate 2
  refine a_ λm a=>?_;go_wp2;refine a _ _ ah (λ_=>i _ c.below) ?_
 apply cR;go_wp2
 go_ret2
 exact⟨rfl,k.B c⟩
section
section
open Go.Shelf
def Tryz.Nl:mf:=⟨λ|7=>92|10=>158|n=>n,λ|23=>99|26=>9|3=>123|28=>149|0=>0|27=>148|33=>28|4=>4|n=>n,λ|n=>n⟩
theorem Tryz.Nk:RQ Tryz.prog Tryz.Nl:=by
 constructor<;>first|kernel_rfl|(intro w;kernel_rfl)|(intro w;rfl)|exact⟨f92.1,aA,func92.trans<|congrArg some ah⟩|exact⟨f158.1,aA,func158.trans<|congrArg some ah⟩
end
section
open Go.Sort Go.Maps
theorem VC(a:Option Nat)(w:ag):aH 92 #[a] w λe b=>e=.returned (.func (.func 158) #[] #[w.1])∧b=w.alloc (.cells #[a] 99):=
 (xn (n:=5)).1<|AnyZ.keys_in Tryz.Nk mU 5 trivial rfl a w
theorem aeY:∀a w,(callFunc 158 a).run Tryz.prog w=.ok (.enter 158 a) w:=enters_of func158 ah rfl
theorem aaF[Inhabited h](j:a.ownsRow f b 1 e y<|y.map H)(c:y≠ []):∃g d,e=.slice (some ⟨g,0,none⟩) y d∧f<=g∧g<a∧qg H a g 0 y.toArray∧∃c,a.1[g]?=some (.cells c b):=by
 obtain⟨_,i⟩|⟨g,d,c,rfl,i,c,_,_,_,k⟩:=j.2;grind;refine⟨g,d,rfl,i,aP c,λj d=>?_,_,c⟩;rw[qp]at d;refine⟨?_,kH c⟩;rw[nJ];refine(cI a g j _ b _ c).trans ?_;have c:=congrArg (λl=>l[j]?) k;grind
theorem Vq(l:aF a aL cr H b g)(c:g.length<=1099511627776)(j:a.cell? ⟨f,0,none⟩=some (.map<|some b))(c:g≠ []):
  aH 75 #[.func (.func 158) #[] #[f]] a λi d=>∃c e,∃ss:List<|List UInt8,i=.returned (.slice (some ⟨c,0,none⟩) ss e)∧au a d∧ss.Perm (g.map λp=>p.1.1.1)∧a<=c∧c<d∧qg encStr d c 0 ss.toArray∧∃k,d.1[c]?=some (.cells k 9):=by
 obtain⟨D,k,m,m⟩:=NL l (by unfold maxLen;omega);have l:SeqGives _ 4 _ 158 _ _ _ _ a:=
  AnyZ.keys_gives (ρ:=Tryz.Nl) {Tryz.Nk with} mU _ trivial rfl aa f b _ D a (xl a _ j) j k
 apply ((xn (n:=6)).1<|AnyZ.collect_in Tryz.Mk _ 6 trivial trivial rfl aa _ _ trivial af _ _ (by unfold maxLen;omega) aa a l).mono;rintro i d ⟨v,ss,rfl,d,o,-,l⟩;have k:=d.trans m;have m:ss≠ []:=λd=>by
  simp_all
 obtain⟨c,e,rfl,d,i,j⟩:=aaF o m;exact⟨c,e,ss,rfl,ae.eT l,k,d,i,j⟩
theorem VB(k:aF a aL cr H b g)(m:g.length<=1099511627776)(l:a.cell? ⟨f,0,none⟩=some (.map<|some b))(n:g≠ []):
  aH 91 #[.func (.func 158) #[] #[f]] a λi e=>∃c d,∃ss:List<|List UInt8,i=.returned (.slice (some ⟨c,0,none⟩) ss d)∧au a e∧ss.Perm (g.map λp=>p.1.1.1)∧a<=c∧c<e∧qg encStr e c 0 (ss.mergeSort λx y=>decide<|x<=y).toArray∧∃j,e.1[c]?=some (.cells j 9):=by
 have e:=Vq k m l n;go_enter func91,ntmps91;go_wp2_with (first|(go_at_call 75;refine e.mono ?_;clear e;rintro i w2 ⟨c,d,ss,rfl,p,l,o,e,k,j,m⟩;have j:=Tryz.slices_Sort_string c 0 d ss w2 k e (by have:=l.length_eq;rw[di]at this;omega))|(go_at_call 157;refine j.mono ?_;clear j;rintro i w3 ⟨rfl,n,os,i⟩));go_ret;have i:ae (·=c) w2<|grow (putRow encStr _ c 0 (ss.mergeSort λx y=>decide<|x<=y).toArray) os:=G1 encStr w2 c 0 n _ os;exact⟨c,d,ss,rfl,p.V i aa,l,o,kJ e i.4,⟨holds_sortWorld _ _ c 0 n _ _ _ e k af,OZ _ _ c 0 n _ _ m⟩⟩
end
theorem ac3(l:List UInt8)(s:ByteArray):zM l++RZ s=zM (l++s.1.1):=by
 simp[zM,RZ]
theorem Tn(h:Below b a t):ae (λc=>b<=c) a t:=⟨h.1,h.2,h.3,h.4,λk _ c=>h.5 k<|Nat.lt_of_not_le c⟩
def aak:bI->Bool| .map _ _=>true| .cells _ _ _=>true|_=>false
section
variable{α:Type}{P:bj}{g:cL}{ps:Array Tmp}{assign body:Code}{Q:Exit->bK->ag->Prop}{a:bK}{w:ag}{gf:Nat}{lb:Array aq}{encs:α->Array aq}{S:List α->Prop}{G:α->Prop}{N:Nat}{Reads:Nat->Prop}{w0:ag}
end
theorem WX:fW Tryz.prog 121 116 3 24:=.B underlying121 (z:=.agg #[.int .u64 0,.int .u64 0,.int .u64 0]) ah rfl aA
def AQ(_:ai)(c:List aq)(t:aC):Prop:=c= [.int .u64 t.1,.int .u64 t.2.1,.int .u64 t.2.2]
def MQ(g b p v:aq):Array Value:= #[.slice none 0 0,g,b,aj,.slice none 0 0,p,g,v,aj,aj,aj,aj,aj]
theorem aeZ:∀a w,(callFunc 221 a).run Tryz.prog w=.ok (.enter 221 a) w:=enters_of func221 ah rfl
theorem Uq{w:ag}{ts:List aC}(Q:w.1[b]?=some (.cells #[.map F] 123))(O:ai.map (λc=>w.1[c]?) bF bh bX F (aR ts))(c3:ts.length<=1048576):
  Calls Tryz.prog 269 #[.slice none 0 0,.func (.func 221) #[] #[b]] w λf Z=>∃v s,f=.returned v∧eQ ts s∧ae (λ_=>False) w Z∧aM Z w 116 3 AQ gF v s:=by
 have a8:=M7 (ob:=aak) Q O;have c1:=aP Q;have E:∀c,F=some c->c<w.1.size:=λc d=>by
  rcases O with⟨P,_⟩|⟨b8,b9,cl,g,h,_⟩
  grind
  grind
 refine(xn (n:=2)).1 (callsIn_of_wp_marks func269 rfl trivial ((IJ (n:=2)).2 ?_));simp only[ntmps269,qp,uS,List.length_nil,Array.replicate_succ,Array.replicate_zero,List.push_toArray,List.append_toArray,Eb,Kn];go_wp2;obtain⟨W,D⟩:∃W,W=w.alloc (.cells #[.slice none 0 0] 121):=⟨_,rfl⟩;rw[<-D];have T:ae (λ_=>False) w W:=aw D ((ae.T _ _).I _)
 have a6:W.1[w.1.size]?=some _:=aw D (cz _ _)
 have c9:W.1.size=w.1.size+1:=iq
 obtain⟨I,m⟩:∃I:List aC->ag->Prop,I=λpre A=>∃v,A.1[w.1.size]?=some (.cells #[v] 121)∧ae (λ_=>False) w A∧aM A (w.1.size+1) 116 3 AQ gF v pre:=⟨_,rfl⟩;have S:∀pre A B,I pre A->ae (λc=>W.1.size<=c∧tM A c) A B->I pre B:=by
  rw[m];rintro pre A B ⟨v,g,h,e⟩ r;refine⟨v,r.O g aa,h.V r (λc d=>.inl aa),e.T r (λc d=>?_) (λ_ _ P=>nomatch P)⟩;rintro⟨_,ob,k,R⟩;refine e.Y k (λcs f=>?_) d;rw[f]at R;cases R
 obtain⟨u,y⟩:∃u:aC->bK->ag->Prop,u=λt x A=>∃l,x={tmps:=MQ (.func (.func 221) #[] #[b]) (.pointer (some ⟨w.1.size,0,none⟩)) l (bh t),defers:= []}∧A.1[l]?=some (.cells #[.int .u64 t.1,.int .u64 t.2.1,.int .u64 t.2.2] 116)∧W.1.size<=l:=⟨_,rfl⟩;refine PY (a:=_) (gf:=221) (lb:= #[b]) rfl af a8 T af (λc d=>d.elim aa λd=>aI (E c d)) I S ?_ u ?_ ?_ ?_ ?_
 ·rw[m];exact⟨_,a6,T,.m (qV _)⟩
 ·rw[y];intro t x A B ⟨l,g,h,e⟩ r
  exact⟨l,g,r.O h (by
   rintro⟨_,F,e,a3⟩;rw[h]at e;cases e
   cases a3),e⟩
 ·intro b2 pre t A b5 j b1 i;refine BS ah λb6 z=>?_;replace z:ay _:=z;rw[y]at i;replace i:ay _:=i;rw[P5];obtain⟨K,L,M⟩:=t;simp only[bh];have a4:W.1.size<=A.1.size:=aJ
  go_wp2;refine z.out _ _ (i.out _ _ ((ae.T bE A).I _) (S _ _ _ j ((ae.T _ _).I _)) ⟨_,?_,cz _ _,a4⟩);rfl
 ·intro b2 pre t x A j U c2 b1;rw[y]at U;obtain⟨l,rfl,J,c7⟩:=U;rw[m]at j;obtain⟨v,g,h,e⟩:=j;obtain⟨K,L,M⟩:=t;simp only[MQ,bh]at J⊢;obtain⟨d3,d4,d5,_⟩:=bq J;have c6:=aP J;have b3:=uv g;have d2:=aP g;apply wpIn_block;refine BS ah λb7 C=>?_;replace C:ay _:=C;have aK:pre.length<1048576:=aa
  have c8:=h.4;go_wp2_with (at_builtin;refine kI WX rfl (.tmp 8) (.tmp 10) rfl e rfl (K,L,M) #[.int .u64 K,.int .u64 L,.int .u64 M] rfl rfl (by simp[eP]) rfl rfl aa aa aa ?_;intro a2 a1 N V H _;have b0: ¬v.ownBlock=some w.1.size:=(λf=>aI ((e.B _ f).1));have k:=H.O g b0;have d6:N.cell? ⟨w.1.size,0,none⟩=some v:=uv k;have d7:N.frozen? ⟨w.1.size,0,none⟩=false:=kH k;have d8:=aP k);have q:=(ae.T (·=w.1.size) N).U (p:=⟨w.1.size,0,none⟩) (.inr rfl) (.slice (some ⟨a2,0,none⟩) (pre.length+1) a1);refine C.out _ _ ⟨rfl,?_,?_⟩
  ·refine(H.cW λc a5 d=>?_).V q λc (d:c=w.1.size)=>.inr ?_
   ·have c4:=e.B c d;let⟨ob,X⟩:∃ob,A.1[c]?=some ob:=⟨_,rE a5⟩;refine⟨λG=>G.elim aa λf=>aI (E c f),ob,X,?_⟩;refine HT λa7=>e.Y X (λcs f=>a7 ?_) d;rw[f];rfl
   ·subst d;exact⟨λG=>G.elim aa λf=>aI (E _ f),_,g,rfl⟩
  ·rw[m];exact⟨_,fQ (o:=0) k _,(h.V H λc d=>.inl (aI ((e.B c d).1))).V q aa,V.T q (λc d=>aI ((V.B c d).1)) af⟩
 ·intro a0 s B ax q j i;rw[m]at j;obtain⟨v,g,h,e⟩:=j;have b3:=uv g;obtain⟨d0,d1,rfl⟩:=e.O;rename_i b4;go_wp2;refine⟨af,.inl ⟨_,_,rfl,run_takeDeferred i,?_⟩⟩;have Y:=wR B a0 (.deferred none)
  have a9:=e.T Y (λc d f=>by
   exact (e.Y i af) (jy f d)) af
  exact⟨_,by simp[results],_,s,rfl,q,h.V Y aa,a9.Z aa⟩
theorem Ui(f:a.1[b]?=some (.cells #[F] 123))(H:ai.map (λc=>a.1[c]?) bF bh bX F<|aR n)(g:n.length<=1048576):
  aH 220 #[.func (.func 221) #[] #[b]] a λe d=>∃v c,e=.returned v∧eQ n c∧au a d∧aM d a 116 3 AQ gF v c:=by
 have d:=Uq f H g;go_enter func220,ntmps220;go_wp2_with (go_at_call 269;refine d.mono ?_;clear d;rintro e w2 ⟨v,c,rfl,d,f,e⟩);go_ret;exact⟨v,c,rfl,d,f,e⟩
section
open Go.Lib Go.Sort
theorem aM.dz(h:aM a b 116 3 AQ k e n)(c:n≠ []):∃g d,e=.slice (some ⟨g,0,none⟩) n d∧b<=g∧g<a∧oH oy 3 a g 0 n.toArray∧∃c,a.1[g]?=some (.cells c 116):=by
 obtain⟨_,_,f,i,i,l,j⟩:=h;obtain⟨_,h⟩|⟨g,d,c,rfl,h,c,_,_,_,m⟩:=j.2;grind;refine⟨g,d,rfl,h,aP c,λj d=>?_,_,c⟩;rw[size_flatK,qp]at d;refine⟨?_,kH c⟩;rw[nJ,id,get_flatK _ 3 _ j<|aw qp d];refine(cI a g j _ _ _ c).trans ?_;have h:j/3<n.length:=aa;have g:f[j/3]?=some f[j/3]:=cy aa;have c:=BH i _ (j % 3) aa g;have f:j/3*3+j % 3=j:=aa;rw[f,<-m,Aq,if_pos d,xb,(l _ _ _ g (cy h))]at c;rw[c];have c:n.toArray[j/3]! =n[j/3]:=aJ
 rw[c,getElem!_pos _ (j % 3) (by show _<3;omega)];exact cy _
def fH(a:List aC):Array aC:=insertionSort (ltOf lU) a.toArray 0 a
theorem T3(i:a.1[b]?=some (.cells #[F] 123))(H:ai.map (λc=>a.1[c]?) bF bh bX F<|aR n)(c:n≠ [])(c:n.length<=12)(j:n.Nodup):
  aH 159 #[.func (.func 221) #[] #[b],.func (.func 101) #[] #[]] a λe d=>∃g cap c,e=.returned (.slice (some ⟨g,0,none⟩) n cap)∧eQ n c∧au a d∧a<=g∧g<d∧oH oy 3 d g 0 (fH c)∧(fH c).size=n∧∃h,d.1[g]?=some (.cells h 116):=by
 have f:=Ui i H aa;go_enter func159,ntmps159;go_wp2_with (go_at_call 220;refine f.mono ?_;clear f;rintro e w2 ⟨v,c,rfl,f,p,o⟩);have m:=Nat.le_antisymm (f.2.2.length_le_of_subset f.2.1)<|j.length_le_of_subset f.1;have q:c≠ []:=aJ
 obtain⟨g,cap,rfl,l,i,j,h,k⟩:=aM.dz o q;have o:c.toArray.size=c.length:=af;have h:=TN (cap:=cap) j i k aa;have j:=(BV (R:=λ_=>True) (ltOf lU) 0 c.length c.toArray af).2;rw[o]at h j;have k:ay<|(fH _).size=n.length:=j.trans m;change aH 100 _ w2 (λe d=>e=.returned _∧ae (·=g) w2 d∧oH oy 3 d g 0 (fH c)∧∃j,d.1[g]?=some _)at h;go_wp2_with (go_at_call 100;refine h.mono ?_;clear h;rintro e w3 ⟨rfl,d,e,h⟩);go_ret;exact⟨g,cap,c,rfl,f,p.V d aa,l,kJ i d.4,e,k.out,h⟩
theorem VD(H:ai.map (λb=>a.1[b]?) bF bh bX F<|aR n)(j:n≠ [])(h:n.length<=12)(i:n.Nodup):
  aH 93 #[F] a λe c=>∃g d b,e=.returned (.slice (some ⟨g,0,none⟩) n d)∧eQ n b∧au a c∧a<=g∧g<c∧oH oy 3 c g 0 (fH b)∧(fH b).size=n∧∃f,c.1[g]?=some (.cells f 116):=by
 have c:=(ae.T bE a).I<|.cells #[F] 123;have f:=T3 (cz a<|.cells _ _) (ai.B H c) j h i;go_enter func93,ntmps93;go_wp2_with (first|(go_at_call 160;refine(Lt _ _).mono ?_;rintro e w1 ⟨rfl,rfl⟩)|(go_at_call 159;refine f.mono ?_;clear f;rintro e w3 ⟨g,d,b,rfl,f,l,i,j,e,k,h⟩));go_ret;exact⟨g,d,b,rfl,f,c.B l,dI c.4 i,j,e,k,h⟩
end
def qw(w:ag)(b k:Nat):Prop:=b<=k∧(k=b∨∃c a,w.1[k]?=some (.cells c 5 a))
abbrev nG(B b:Nat)(l:List UInt8)(w:ag):Prop:=Lib.IsBuilderF 174 5 B b (zM l) w
variable{J:List UInt8}
theorem nG.B{B b:Nat}{w w':ag}(h:nG B b J w)(c:au w w'):nG B b J w':=by
 have d:∀p,R_ 174 5 B b p (zM J) w->R_ 174 5 B b p (zM J) w':=by
  rintro p ⟨a,v,b,e,f⟩;refine⟨a,v,c.O b id,?_,f⟩;obtain⟨a,b⟩:=e;refine⟨a,b.imp id ?_⟩;rintro⟨g,b,e,f,j,k,a,i⟩;exact⟨g,b,e,f,j,k,(c.5 g (fU.1 a).1 id).trans a,i⟩
 exact h.imp (d _)<|d _
theorem VE(b)(l:List UInt8)(s:ByteArray)(w:ag)(h:nG b b l w)(d:l+s.size<=140737488355328)(c:b<=w):
  aH 94 #[b,s] w λe a=>e=.returned (.tuple #[.int .i64 s.size,.nilIface])∧nG b b (l++s.1.1) a∧ae (qw w b) w a:=by
 refine(Any.Builder_WriteString_kc (P:=Tryz.prog) (ρ:=Tryz.FW) {Tryz.Nt with} Tryz.I0 b b _ s w h (by simpa[zM]using d) c).mono ?_;rintro e a ⟨rfl,⟨c,a,f⟩,-⟩;rw[ac3]at c;refine⟨rfl,.inr c,a.1,a.2,a.3,a.4,λk g d=>?_⟩;obtain c|c:=tE k b;exact a.5 k c;obtain⟨o,a⟩:∃o,w.1[k]?=some o:=⟨_,rE g⟩;rw[a];exact f k o a (λe=>d ⟨c,.inl<|dw e⟩) λb f e=>d ⟨c,.inr ⟨b,f,by rw[a,e];rfl⟩⟩
theorem VG(B b)(l:List UInt8)(w:ag)(h:nG B b l w)(a:l≠ []):
  aH 96 #[b] w λe c=>e=.returned (.string ⟨l.toArray⟩)∧Below B w c:=
 (Any.Builder_String_f (P:=Tryz.prog) (ρ:=Tryz.FX) Tryz.Y' Tryz.Sa B b l w h a).mono λ_ _ h=>⟨h.1,h.2.2⟩
theorem Px:∀(f w),(kF f w)<=f
 |0,_=>cP _
 |f+1,w=>by
  unfold kF;split;grind;have:=Px f<|w*256 % 18446744073709551616;grind
def vQ(t:aC):List UInt8:=tU ((eB [t.1,t.2.1,t.2.2]).map (·.1.1)) [44]
def pT(n:ByteArray)(t:aC):List UInt8:=n.1.1++ [40]++vQ t++ [41,46,10]
theorem M9(sep:List UInt8):∀l,(∀x∈l,x.length<=8)->(tU l sep)<=l.length*(8+sep)
 | [],_=>by simp[tU]
 | [x],h=>by
  have:=h x af;simp[tU];omega
 |x::y::l,h=>by
  have a:=h x af;have a:=M9 sep _ λz a=>h z<|rz _ a;have e:tU (x::y::l) sep=x++(sep++tU (y::l) sep):=by simp[tU]
  rw[e,kK,kK,uS,IG];omega
theorem KT(t:aC):(vQ t).length<=27:=by
 have b:∀x∈(eB [t.1,t.2.1,t.2.2]).map (·.1.1),x.length<=8:=λx a=>by
  obtain⟨y,c,rfl⟩:=ei.1 a;obtain⟨u,-,rfl⟩:=ei.1 c;exact Px 8 u
 have a:=M9 [44] _ b;have b:(eB [t.1,t.2.1,t.2.2]).length<=3:=by
  unfold eB;rw[di];exact pK _ _
 rw[di]at a;have b:([44]:List UInt8).length=1:=rfl;rw[b]at a;unfold vQ;omega
theorem VF{w:ag}{N:Nat}{v:aq}{t:aC}(b:aM w N 9 1 ib gF v<|eB [t.1,t.2.1,t.2.2])(n:t.1≠0):
  aH 95 #[v,.string ⟨#[44]⟩] w λe f=>e=.returned (.string ⟨(vQ t).toArray⟩)∧au w f:=by
 have c:eB [t.1,t.2.1,t.2.2]≠ []:=by
  unfold eB;rw[List.filter_cons_of_pos<|aV n];exact λh=>nomatch h
 let⟨g,i,q,d,z,a,l⟩:=aM.cB _ (λ_ _ h=>h) b c;obtain⟨r,k,o,u,-⟩:=b.ac c;rw[d]at o;have y:i=k:=aJ
 subst d;have m:=KT t;have s:(eB [t.1,t.2.1,t.2.2]).length<=3:=by
  unfold eB;rw[di];exact pK _ _
 refine(Tryz.strings_Join g 0 _ _ _ w (λj x p=>?_) (aP a) aa aa ?_).mono λe f h=>⟨h.1,ae.eT h.2⟩;rw[nJ];exact(cI w g j _ 9 _ a).trans<|l j x p;exact dI m aA
theorem nG.I(w:ag):nG w w []<|w.alloc<|.cells #[.pointer none,.slice none 0 0] 174:=
 .inl ⟨cP _,.slice none 0 0,cz _ _,⟨rfl,.inl ⟨rfl,rfl⟩⟩,λh=>nomatch h⟩
inductive oN(F:ByteArray->List aC):List (List UInt8)->List UInt8->Prop where
 |nil:oN F [] []
 |snoc {l:List (List UInt8)} {b:List UInt8} {n:ByteArray} {xs:List aC}:oN F l b->eQ (F n) xs->oN F (l++ [n.1.1]) (b++((fH xs).1.map (pT n)).flatten)
section
open Go.Lib Go.Sort
theorem E9(a b):(a<b∧jz a b= -1)∨(b<a∧jz a b=1)∨(a=b∧jz a b=0):=by
 unfold jz;omega
theorem adP(t u:aC):lU t u<0↔t.1<u.1∨(t.1=u.1∧(t.2.1<u.2.1∨(t.2.1=u.2.1∧t.2.2<u.2.2))):=by
 unfold lU;rcases E9 t.1 u.1 with⟨b,a⟩|⟨b,a⟩|⟨b,a⟩<;>rcases E9 t.2.1 u.2.1 with⟨b,a⟩|⟨b,a⟩|⟨b,a⟩<;>rcases E9 t.2.2 u.2.2 with⟨b,a⟩|⟨b,a⟩|⟨b,a⟩<;>simp only[a]<;>simp<;>omega
theorem adS:SWO<|ltOf lU:=by
 have a:∀x y,ltOf _ x y=decide _:=λx y=>by
  exact decide_eq_decide.2<|adP x y
 refine⟨λx=>?_,λx y z=>?_,λx y z=>?_⟩;grind;grind;grind
theorem acz(a:List aC):(fH a).1.Perm a:=by
 obtain⟨c,-,d⟩:=((IM adS _ 0 a.length (nK _)<|aw qp<|cP _).1);have b:(fH a).size=a.length:=by
  unfold fH;rw[c,qp]
 have c:((fH a).extract 0 a.length).1=(fH a).1:=KG b;have b:(a.toArray.extract 0 a.length).1=a:=af;change((fH a).extract 0 a.length).1.Perm (a.toArray.extract 0 a.length).1 at d;grind
theorem Lm(h:ae (qw a b) a t)(k:ae (qw t b) t d7):ae (qw a b) a d7:=
 ⟨k.1.trans h.1,k.2.trans h.2,k.3.trans h.3,dI h.4 k.4,λi c e=>by
  have d:=h.5 i c e;refine(k.5 i (kJ c h.4) λc=>e ?_).trans d;obtain⟨e,c⟩:=c;obtain c|⟨f,g,c⟩:=c;exact⟨e,aa⟩;rw[d]at c
  exact⟨e,.inr ⟨f,g,c⟩⟩⟩
theorem NG:∀ {l:bO},(l.map bD).Nodup->∀ {n:ByteArray}{b:Nat},(n,b)∈l->aB l n=some b
 | [],_,_,_,a=>nomatch a
 |(m,c)::l,h,n,b,a=>by
  rw[rV,AA]at h;unfold aB;by_cases b:m=n;grind;rw[List.find?_cons_of_neg<|aV b];obtain e|a:=pF.1 a;grind;exact NG h.2 a
theorem Vi{w:ag}{C:Nat}(E:aO w C p o)(c4:p≠ [])(h3:p.length<=1024)(hF:∀g∈p,o g.1≠ []∧(o g.1).length<=12∧∀t∈o g.1,t.1≠0)(f9:∀g∈p,g.1.size<=1048576):
  aH 47 #[some C] w λh g7=>∃(ss:List<|List UInt8)(d:List UInt8),h=.returned (.string ⟨d.toArray⟩)∧ss.Perm (p.map λg=>g.1.1.1)∧oN o (ss.mergeSort λx y=>decide<|x<=y) d∧au w g7:=by
 obtain⟨w1,H,a0,-⟩:=df w<|.cells #[.pointer none,.slice none 0 0] 174;obtain⟨B,u⟩:=aT w.1.size
 have b2:nG B B [] w1:=by rw[H,u];exact nG.I w
 have h4:B<w1.1.size:=by rw[u,H];simp
 have K:au w1<|w1.alloc<|.cells #[some C] 99:=ae.al;have d1:=VB (E.1.B (a0.B K) id) aa (uv<|cz w1<|.cells #[some C] 99) c4;go_enter func47,ntmps47;go_wp2_with (first|(go_at_call 92;rw[<-H,<-u];clear H;refine(VC _ _).mono ?_;rintro h w2 ⟨rfl,rfl⟩)|(go_at_call 91;refine d1.mono ?_;clear d1;rintro h w3 ⟨M,g8,ss,rfl,W,S,br,i0,b0,h1,h7⟩));have a4:=(a0.B K).B W;have b4:=(b2.B K).B W;obtain⟨sl,A⟩:=aT<|ss.mergeSort λx y=>decide<|x<=y;have i8:sl.length=ss.length:=by rw[A,List.length_mergeSort]
 have f7:∀x∈sl,∃g∈p,g.1.1.1=x:=λx s=>by
  rw[A,List.mem_mergeSort]at s;grind
 have j5:ss.length<=1024:=by have:=S.length_eq;rw[di]at this;omega
 rw[<-A]at b0;have e4:ay<|sl=ss.mergeSort λx y=>decide<|x<=y:=A;clear A a0 K b2;have b1:=E.B a4 i2;have g5:=W.4;have h6:B<w3.1.size:=by
  simp at g5;omega
 have h5:B<M:=by
  simp at br;omega
 rw[<-u];have g1:∀b,aX C p b->¬qw w3 B b:=λb l e=>by
  obtain rfl|⟨c,a9,e⟩:=e.2
  ·have:=E.U l;omega
  ·obtain⟨d9,cl,q⟩:=b1.m l;grind
 have f1: ¬qw w3 B M:=λe=>by
  obtain rfl|⟨c,a9,e⟩:=e.2
  omega
  grind
 have g4:w.1.size<=B:=aa
 clear u
 go_loopw [12] (λi wr=>∃(k:Nat)(d:List UInt8),k<=ss.length∧i=.int .i64 k∧ae (qw w3 B) w3 wr∧nG B B d wr∧ay (oN o (sl.take k) d)∧d.length<=k*12583296∧k<=d.length) (λi _=>ss.length-(intOf i).toNat)
 case atStart=>exact⟨0,[],aa,rfl,.T _ _,b4,oN.nil,af,aa⟩
 case round=>
  clear b4;obtain⟨k,d,i7,rfl,z,l,Q,j2,aK⟩:=hrel;have j7:=z.4;by_cases j0:k<ss.length
  ·obtain⟨x,s⟩:∃y,sl[k]?=some y:=⟨_,cy aa⟩;obtain⟨⟨n,g6⟩,r,U⟩:=f7 x<|cA s;dsimp only at U;obtain⟨a6,a7,a8⟩:=hF _ r;have b9:=f9 _ r;dsimp only at a6 a7 a8 b9;have g0:aL n:=dI b9 aA;have T:=(b0 k<|dT qp).1;have b8:sl.toArray[k]! =x:=by
    rw[getElem!_pos sl.toArray k<|dT qp];have:=(iw.1 s).2;simpa using this
   have c9:encStr x=.string n:=xM U
   rw[b8,c9]at T;have a5:=z.Y T f1;have h2:wr.cell? ⟨M,k,none⟩=some (.string n):=by rw[nJ]at a5;exact a5
   have F:=b1.B z g1;have f4:(aB p n).elim (.map none) eF=.map (some g6):=by
    have:=NG (aF.U E.1) r;rw[this];rfl
   have V:=(F.2 _ r).T;dsimp only at V;have c3:(o n).Nodup:=by
    have O:=aF.U<|F.2 _ r;have e1:(aR<|o n).map bD=o n:=by simp[aR,Ee]
    rwa [e1]at O
   have d2:=VD V a6 a7 c3;have d8:ay<|sl.take (k+1)=sl.take k++ [n.1.1]:=by show _=_;rw[eA,s,U];rfl
   clear T b8 s c9;go_wp2_with (first|(at_lookup;refine iH bZ underlying99 jZ rfl (.tmp 16) (.tmp 17) rfl rfl (bU _) F.1.T rfl g0 f4 ?_)|(go_at_call 93;refine d2.mono ?_;clear d2;rintro h a2 ⟨D,g9,f,rfl,d0,c8,i1,i3,e2,j4,h0,h8⟩));have b5:=l.B c8;have f0: ¬qw a2 B D:=λe=>by
    obtain rfl|⟨c,a9,e⟩:=e.2
    omega
    grind
   have f8:∀t∈(fH f).1,bF t∧t.1≠0:=λt g2=>by
    have q:=d0.2.1 t<|(acz _).mem_iff.1 g2;refine⟨?_,a8 t q⟩;obtain⟨d9,cl,-,O⟩:=F.2 _ r;exact O.2 _<|ei.2 ⟨t,q,rfl⟩
   have j1:n.1.1.length=n.size:=rY;clear V c3
   go_loopw [21] (λi d7=>∃(j:Nat)(J:List UInt8),j<=(o n).length∧i=.int .i64 j∧ae (qw a2 B) a2 d7∧nG B B J d7∧ay (J=d++(((fH f).1.take j).map<|pT n).flatten)∧J.length<=d.length+j*1048608∧d.length+j<=J.length) (λi _=>(o n).length-(intOf i).toNat)
   case atStart=>exact⟨0,d,aa,rfl,.T _ _,b5,(af:d=d++(((fH _).1.take 0).map<|pT n).flatten),aa,aa⟩
   case round=>
    clear b5;obtain⟨j,d4,i5,rfl,G,b3,R,j8,j9⟩:=hrel;have j6:=G.4;by_cases i6:j<(o n).length
    ·have L:=λc (e:c<3)=>G.Y (e2.cell (i:=j) aa e).1 f0;have ax:=L 0 aa;have c1:=L 1 aa;have c2:=L 2 aa;simp only[nJ,rA]at ax c1 c2;have b7:(fH f).1[j]?=some (fH f)[j]! :=aJ
     obtain⟨d5,d6⟩:=f8 _<|cA b7;have a3:ay<|((fH f).1.take<|j+1).map (pT n)=((fH f).1.take j).map (pT n)++ [pT n (fH f)[j]!]:=by show _=_;rw[eA,b7];simp
     generalize(fH f)[j]! =t at ax c1 c2 d5 d6 a3;obtain⟨a,b,c⟩:=t;change wr.cell? ⟨D,j*3,none⟩=some (.int .u64 a)at ax;change wr.cell? ⟨D,j*3+1,none⟩=some (.int .u64 b)at c1;change wr.cell? ⟨D,j*3+2,none⟩=some (.int .u64 c)at c2;have Z:=λw=>L_ (w:=w) (a:=a) (b:=b) (c:=c) d5;have I:=λ(w:ag) N v f5=>VF (w:=w) (N:=N) (v:=v) (t:=(a,b,c)) f5 d6;unfold bh at Z;have e5:=KT (a,b,c);have P:ay<|pT n (a,b,c)=n.1.1++ [40]++vQ _++ [41,46,10]:=rfl;simp only at I;generalize vQ (a,b,c)=m at I e5 P;have a1:=(ae.T bE wr).I<|.cells #[.int .u64 a,.int .u64 b,.int .u64 c] 116;have c7:(n++⟨#[40]⟩++⟨m.toArray⟩++⟨#[41,46,10]⟩:ByteArray).size=n.size+m.length+4:=by
      simp only[ByteArray.size_append];show n.size+1+m.toArray.size+3=_;rw[qp];omega
     have c6:(n++⟨#[40]⟩++⟨m.toArray⟩++⟨#[41,46,10]⟩:ByteArray).1.1=n.1.1++ [40]++m++ [41,46,10]:=af
     go_wp2_with (first|(go_at_call 55;refine(Z _).mono ?_;clear Z;rintro h k1 ⟨k0,rfl,X,f6⟩;have e6:=(b3.B a1).B X)|(go_at_call 95;refine(I _ _ _ f6).mono ?_;clear I;rintro h k2 ⟨rfl,Y⟩;have e7:=e6.B Y)|(go_at_call 94;refine(VE B d4 _ _ e7 (dT c7)<|aI<|(a1.B<|X.B Y).4).mono ?_;rintro h k3 ⟨rfl,b6,g3⟩));rw[c6,<-P.out]at b6;have i9:(pT n (a,b,c)).length=n.size+m.length+4:=by rw[P.out,<-c6];exact rY.trans c7
     go_roundw
     case rel=>
      refine⟨j+1,_,aa,ba,Lm (G.ac<|a1.B<|X.B Y) g3,b6,(?_:_=_),by grind,by grind⟩;rw[a3.out,D4,<-Av,<-R.out];simp
     case measure=>simp[intOf];omega
    ·have f2:(fH f).1.take j=(fH f).1:=fo<|dT rY;rw[f2]at R;have h9:0<(o n).length:=by
      cases i4:o n with
      |nil=>grind
      |cons _ _=>simp
     have e3:ay<|oN o (sl.take<|k+1) d4:=by
      show oN o _ _;rw[d8.out,R.out];exact oN.snoc Q.out d0
     go_wp2;go_roundw
     case rel=>exact⟨k+1,_,aa,ba,Lm (z.ac c8) G,b3,e3,aa,aa⟩
     case measure=>simp[intOf];omega
  ·have f3:sl.take k=sl:=fo aa;rw[f3]at Q;have j3:0<ss.length:=by
    have q:=S.length_eq;rw[di]at q;cases p with
    |nil=>exact absurd rfl c4
    |cons _ _=>rw[q];simp
   have d3:=VG B B d wr l (λe0=>by rw[e0]at aK;simp at aK;omega);go_wp2_with (go_at_call 96;refine d3.mono ?_;clear d3;rintro h k4 ⟨rfl,e8⟩);go_ret;refine⟨ss,d,rfl,S,jy e4.out Q.out,?_⟩;exact(a4.V z λb l=>.inl<|dI g4 l.1).V (Tn e8) λb (l:B<=b)=>.inl aa
end
theorem c20{w:ag}(h:w.1[b]?=some (.cells #[e,some f,C] 102))(i:aO w f p o)(j:p≠ [])(g:p.length<=1024)(hF:∀a∈p,o a.1≠ []∧(o a.1).length<=12∧∀t∈o a.1,t.1≠0)(k:∀a∈p,a.1.size<=1048576):
  aH 20 #[b] w λd l=>∃(ss:List<|List UInt8)(c:List UInt8),d=.returned (.string ⟨c.toArray⟩)∧ss.Perm (p.map λa=>a.1.1.1)∧oN o (ss.mergeSort λe y=>decide<|e<=y) c∧au w l:=by
 obtain⟨a,a,a,-⟩:=bq h;have a:=Vi i j g hF k;go_enter func20,ntmps20;go_wp2_with (go_at_call 47;refine a.mono ?_;clear a;rintro d w2 ⟨ss,c,rfl,d,a,g⟩);go_ret;exact⟨ss,c,rfl,d,a,g⟩
def pY(c:Int)(n:Nat):Int:=if c<0 then(-(c+1)) % n else c % n
theorem LF(c)(n)(a: -9223372036854775808<=c)(a:c<=9223372036854775807)(a:0<n)(a:n<=1000)(w:ag):aH 31 #[.int .i64 c,.int .i64 (n:Nat)] w λe a=>e=.returned (.int .i64<|pY c n)∧a=w:=by
 by_cases h:c<0
 ·have b:pY c n=(-(c+1)) % n:=by unfold pY;rw[if_pos h]
  rw[b];go_enter func31,ntmps31;go_wp2;go_ret;have a:(-(c+1)).tmod (n:Int)=(-(c+1)) % n:=aJ;simp_all
 ·have b:pY c n=c % n:=by unfold pY;rw[if_neg h]
  have a:c.tmod (n:Int)=c % n:=Int.tmod_eq_emod_of_nonneg aa;rw[b];go_enter func31,ntmps31;go_wp2
  all_goals go_ret
  all_goals exact⟨by first|(rw[a];rfl)|(rw[<-a];rfl),rfl⟩
section
open Go.Conc
noncomputable abbrev abx:=rg f32 0
noncomputable abbrev aby:=rg f32 1
noncomputable abbrev abz:=rg f32 2
noncomputable abbrev abA:=rg f32 3
noncomputable abbrev abB:=rg f32 4
noncomputable abbrev abC:=rg f32 5
noncomputable abbrev abD:=rg f32 6
noncomputable abbrev abE:=rg f32 7
noncomputable abbrev abF:=rg f32 8
noncomputable abbrev abG:=rg f32 9
noncomputable abbrev Ty:Code:=((bH 0 abx false).seq ((bH 1 aby false).seq (((bH 2 abz false).seq (mX (bz 28) ((bH 3 abA false).seq kL) mY)).seq ((bH 4 abB false).seq ((bH 5 abC false).seq ((bH 6 abD false).seq ((bH 7 abE false).seq ((bH 8 abF false).seq ((bH 9 abG false).seq kL)))))))))
abbrev PG:ByteArray:={data:=([101,100,103,101,40,97,44,98,41,46,32,101,100,103,101,40,98,44,99,41,46,32,112,97,116,104,40,88,44,89,41,32,58,45,32,101,100,103,101,40].append [88,44,89,41,46,32,112,97,116,104,40,88,44,90,41,32,58,45,32,112,97,116,104,40,88,44,89,41,44,32,101,100,103,101,40,89,44,90,41,46]).toArray}
abbrev C6:ByteArray:=⟨#[112,40,88,41,32,58,45,32,113,40,88,41,44,32,33,112,40,88,41,46]⟩
abbrev Fo:ByteArray:=⟨#[101,100,103,101,40,97,44,98,41,46,10,101,100,103,101,40,98,44,99,41,46,10,112,97,116,104,40,97,44,98,41,46,10,112,97,116,104,40,97,44,99,41,46,10,112,97,116,104,40,98,44,99,41,46,10]⟩
abbrev Fp:ByteArray:=⟨#[101,100,103,101,40,97,44,98,41,46,10,112,97,116,104,40,97,44,98,41,46,10]⟩
abbrev dt:ByteArray:=⟨#[101,100,103,101]⟩
abbrev dp:ByteArray:=⟨#[112,97,116,104]⟩
abbrev pg:ByteArray:=⟨#[97]⟩
abbrev kA:ByteArray:=⟨#[98]⟩
abbrev sQ:ByteArray:=⟨#[99]⟩
abbrev nj:kO:=⟨dt,[kA,sQ],true⟩
structure xv(bs:bO)(F:aW)(d:ByteArray):Prop where
 ne:bs≠ []
 few:bs.length<=1024
 rel:∀p∈bs,F p.1≠ []∧(F p.1).length<=12∧∀t∈F p.1,t.1≠0
 names:∀p∈bs,p.1.size<=1048576
 text:∀(ss:List (List UInt8))(out:List UInt8),ss.Perm (bs.map λp=>p.1.1.1)->oN F (ss.mergeSort λx y=>decide (x<=y)) out->(⟨out.toArray⟩:ByteArray)=d
structure zZ(cs:List bk)(Ls:List Lay)(sb:Nat)(bs:bO)(ps:List (eO×Lay))(K:ai)(N:Nat):Prop where
 names:((eC cs).map bD).Perm (bs.map bD)
 lays:ps.map js=Ls
 gL:∀p∈ps,p.1.1=p.2.2
 low:sb<N∧∀p∈bs,p.2<N
 new:ey N K
 news:∀b o,K b=some o->N<=b
 high:∀p∈ps,N<=p.1.2
structure vN(cs:List bk)(Ls:List Lay)(R:Nat->aW->Prop)(RC:Nat->List bV->aW->Prop):Prop where
 rd:eE PG=(some cs,0,0)
 ld:qx cs Ls R
 bad:eE C6=(none,((7:Nat):Int),((0:Nat):Int))
 WU:∀bs F,((eC cs).map bD).Perm (bs.map bD)->R Ls.length F->xv bs F Fo
 ap:∀bs F,((eC cs).map bD).Perm (bs.map bD)->R Ls.length F->Ef (eC cs) bs F Ls.length RC nj
 carry:∀sb bs ps K N,zZ cs Ls sb bs ps K N->xu sb bs ps K N RC
 told:∀zs F,RC Ls.length zs F->zs.length=3
 WV:∀bs zs F,((eC cs).map bD).Perm (bs.map bD)->RC Ls.length zs F->xv bs F Fp
 look:aB (eC cs) dp=some (2,true)
 Mm:∀s∈ [pg,kA],rQ s
 aau:aL dp
 sup:∀sb bs ps K N zs F,zZ cs Ls sb bs ps K N->RC Ls.length zs F->∃lb,aB (mA ps) dp=some (true,lb)∧∀w,K.In w->(∀p∈ps,fh w K N p.1.1 p.1.2 sb (p.2.1.map bP))->aO w sb bs F->
  aH 326 #[.pointer (some ⟨lb,0,none⟩),.string dp,bh (fI [pg,kA])] w λe w'=>e=.returned (cg 1)∧au w w'
def Bf(w:ag):ai:=λb=>w.1[b]?
theorem KO(w:ag):(Bf w).In w:=λ_ _ h=>h
theorem Pl(h:a.1[b]?=some (.cells #[d,N] 9)):(Bf a).list 1 ib (.slice (some ⟨b,0,none⟩) 2 2) [d,N]:=by
 refine⟨[[.string d],[.string N]],rfl,af,λi c z e c=>?_,af,.inr ⟨b,0,2,_,_,_,rfl,h,λk f=>?_⟩⟩
 match i,e,c with
 |0,e,c=>cases e;cases c;rfl
 |1,e,c=>cases e;cases c;rfl
 |i+2,e,c=>cases c
 grind
theorem Sv(h:a.1[b]?=some (.cells #[N,d4] 9))(g:a.1[f]?=some (.cells #[d,.slice (some ⟨b,0,none⟩) 2 2,true] 42)):(Bf a).list 3 Ev (.slice (some ⟨f,0,none⟩) 1 1) [⟨d,[N,d4],true⟩]:=by
 refine⟨[[.string d,.slice (some ⟨b,0,none⟩) 2 2,.bool true]],rfl,af,λi c z e c=>?_,af,.inr ⟨f,0,1,_,_,_,rfl,g,λk g=>?_⟩⟩
 match i,e,c with
 |0,e,c=>cases e;cases c;exact⟨_,_,rfl,Pl h⟩
 |i+1,e,c=>cases c
 grind
section
variable{v:ag}{e s:Nat->Option bI}{f:Ren}{cs:List bk}{Ls:List Lay}{R:Nat->aW->Prop}{RC:Nat->List bV->aW->Prop}
theorem XR(S:vN cs Ls R RC):Goes Tryz.prog cH 32 #[] f v e s λu _=>u=.bool true:=by
 refine Goes.B func32 (c:=Ty) rfl λg a cs1 a=>?_;refine yg ntmps32 ?_;refine ck ?_;refine sB (hv:=ah) func17 _ (MZ bb S.1 S.2) λu a a=>?_;obtain⟨b,rfl,m,O,F,Q,M,l,o,J,L,q,K,N,rfl,b,b,E,p,t,I,r⟩:=a;walk_nrm;refine ck ?_;refine bY false ?_;refine ck ?_;refine bY false ?_;refine ck ?_;refine bY false ?_;refine ck ?_;refine acl func20 (#[m])
  (Post:=λw u g=>u=.string Fo∧au w g) (λT=>?_) λT G u k j b=>?_
 have d:=S.4 _ o aa r;refine(c20 (w:=aN _ T) E.1 (E.3.T λ_ _ _ _ h=>h) d.1 d.2 d.3 d.4).mono ?_;rintro ex g ⟨ss,H,rfl,A,C,D⟩;exact⟨_,rfl,congrArg _ (d.5 _ _ A C),D⟩;obtain⟨rfl,a⟩:=b;replace E:=E.B (a.dz j);walk_nrm;apply eo 60 rfl;walk_nrm;obtain⟨B,hB⟩:=aT k.1.size;refine Be (.slice (some ⟨B,0,none⟩) 2 2) (.cells #[kA,sQ] 9) ?_;walk_nrm;have a:au _ (k.alloc (.cells #[kA,sQ] 9)):=ae.al;have i:(k.alloc _).1[B]?=some (.cells #[kA,sQ] 9):=aw hB (cz _ _);generalize k.alloc (.cells #[kA,sQ] 9)=k at a i⊢;replace E:=E.B a;refine ck ?_;refine bY (.agg #[dt,.slice (some ⟨B,0,none⟩) 2 2,true]) ?_;apply eo 60 rfl;obtain⟨n,hB⟩:=aT k.1.size;refine Be (.slice (some ⟨n,0,none⟩) 1 1) (.cells _ 42) ?_;walk_nrm;have a:au k (k.alloc (.cells #[dt,.slice (some ⟨B,0,none⟩) 2 2,true] 42)):=ae.al;have z:(k.alloc (.cells #[dt,.slice (some ⟨B,0,none⟩) 2 2,true] 42)).1[n]?=some (.cells #[dt,.slice (some ⟨B,0,none⟩) 2 2,true] 42):=aw hB (cz _ _);generalize k.alloc (.cells #[dt,.slice (some ⟨B,0,none⟩) 2 2,true] 42)=k at a z⊢;replace E:=E.B a;replace i:=a.O i id;clear a hB;have y:q.length=Ls.length:=by rw[<-p,di]
 have P:zZ cs Ls F l q K N:=⟨t,p,I,E.4,E.12,E.13,λp b=>(E.10 p b).1⟩;refine sB func19 (#[m,.slice (some ⟨n,0,none⟩) 1 1]) (XQ (x:=nj) (R:=RC) E (KO k) (Sv i z) (aw y S.2.8) (aw y (S.5 l o t r)) (S.6 _ _ _ _ _ P)) λu k I=>?_;obtain⟨n,rc,B,n,rfl,o,U⟩:=I;rw[y]at o;have y:=S.7 B n o;clear E i z r
 rename dQ k m O F Q M _ l n J L q K N=>E
 rw[y];walk_nrm;refine eo 60 rfl ?_;walk_nrm;obtain⟨r,hB⟩:=aT k.1.size;refine Be (.slice (some ⟨r,0,none⟩) 2 2) (.cells #[pg,kA] 9) ?_;walk_nrm;have a:au k (k.alloc (.cells #[pg,kA] 9)):=ae.al;have i:(k.alloc (.cells #[pg,kA] 9)).1[r]?=some (.cells #[pg,kA] 9):=aw hB (cz _ _);generalize k.alloc (.cells #[pg,kA] 9)=k at a i⊢;replace E:=E.B a;clear a hB;refine acl func22 (#[m,dp,.slice (some ⟨r,0,none⟩) 2 2])
  (Post:=λw u g=>u=.tuple #[.int .i64 1,.int .i64 0]∧au w g) (λT=>?_) λT G u r j b=>?_
 obtain⟨r,r,y⟩:=S.12 F l q K N B n P o;refine(Uh (h:=Bf k) (w:=aN k T) (KO k) E.1 (E.2.V rfl) E.7 (E.9.V rfl) S.11 (Pl i) aA S.10 S.9 r (cnt:=1) aA (λg a=>?_)).mono ?_;have q:=dQ.B (v:=aN k T) ⟨E.1,E.2.V rfl,E.3.T λ_ _ _ _ h=>h,E.4,E.5,E.6,E.7,E.8,E.9.V rfl,λp b=>⟨(E.10 p b).1,(E.10 p b).2.B (E.10 p b).1 λ_ _ _ _ h=>h⟩,E.11,E.12,E.13,E.14,E.15⟩ a;exact y g q.11 (λp b=>(q.10 p b).2) q.3;rintro ex g ⟨rfl,k⟩;exact⟨_,rfl,rfl,k⟩;obtain⟨rfl,a⟩:=b;replace E:=E.B (a.dz j);clear a j i;walk_nrm;refine ck ?_;refine sB (hv:=by kernel_rfl) func17 (#[C6]) (M_ bb S.3 aA) λu k i=>?_;obtain⟨rfl,a⟩:=i;replace E:=E.B a;clear a;walk_nrm;refine ck ?_;refine bY true ?_;refine ck ?_;refine bY true ?_;refine ck ?_;refine bY true ?_;refine ck ?_;refine bY (.int .i64 3) ?_;refine ck ?_;refine bY true ?_;refine ck ?_;refine acl func20 (#[m])
  (Post:=λw u g=>u=.string Fp∧au w g) (λT=>?_) λT G u i j b=>?_
 have d:=S.8 l B n t o;refine(c20 (w:=aN k T) E.1 (E.3.T λ_ _ _ _ h=>h) d.1 d.2 d.3 d.4).mono ?_;rintro ex g ⟨ss,H,rfl,A,C,D⟩;exact⟨_,rfl,congrArg cr (d.5 ss H A C),D⟩;obtain⟨rfl,a⟩:=b;replace E:=E.B (a.dz j);clear a j;walk_nrm;refine ck ?_;refine bY true ?_;refine ck ?_;refine bY true ?_;refine ck ?_;refine bY true ?_;refine ck ?_;refine bY true ?_;refine ck ?_;refine bY true ?_;refine ck ?_;refine bY true ?_;refine eo 60 rfl ?_;walk_nrm;exact aY.B func32 (u:=.bool true) rfl (λw=>by simp[results]) rfl (Ren.I _)
end
end
def oW(i:Nat):ByteArray:=⟨#[wX (48+i)]⟩
theorem LG(i)(a:i<10)(w:ag):aH 33 #[.int .i64 (i:Nat)] w λe a=>e=.returned (oW i)∧au w a:=by
 unfold oW;have a:((wX<|48+i).toNat:Int)=48+(i:Int):=by
  rw[UInt8.toNat_ofNat',D9 aa];omega
 obtain⟨b,c⟩:=aT<|wX<|48+i;rw[<-c]at a⊢;have d:(i:Int).tmod 10=i:=aJ
 have d:=run_convert_bytes_back (P:=Tryz.prog) (w.alloc<|.cells #[.int _<|48+(i:Int)] 5) 131 9 5 _ 1 [b] af af af (λj e=>by
  obtain rfl:j=0:=by grind
  refine(cI _ _ 0 _ 5 _<|cz _ _).trans ?_;show some _=some _;rw[show([b]:List UInt8)[0]=b from rfl,a]
  rfl)
 rw[DN]at d;clear c;go_enter func33,ntmps33;go_wp2;go_ret;exact⟨rfl,ae.al⟩
section
open Go.Conc
noncomputable abbrev aa9:=rg f11 0
noncomputable abbrev aba:=rg f11 1
noncomputable abbrev abb:=rg f11 2
noncomputable abbrev abc:=rg f11 3
noncomputable abbrev abd:=rg f11 4
noncomputable abbrev abe:=rg f11 5
noncomputable abbrev Ox:=rg f11 6
noncomputable abbrev Oy:=rg f11 7
noncomputable abbrev Oz:=rg f11 8
noncomputable abbrev Gv:=rg f11 9
noncomputable abbrev Gw:=rg f11 10
noncomputable abbrev Gx:=rg f11 11
noncomputable abbrev Gy:=rg f11 12
noncomputable abbrev CE:=rg f11 13
noncomputable abbrev CF:=rg f11 14
noncomputable abbrev Ot:=rg f11 15
noncomputable abbrev Ou:=rg f11 16
noncomputable abbrev Ov:=rg f11 17
noncomputable abbrev Ow:=rg f11 18
noncomputable abbrev Lj:Code:=((bH 0 aa9 false).seq ((bH 1 aba false).seq ((bH 2 abb false).seq ((bH 3 abc false).seq ((bH 4 abd false).seq (((bH 5 abe false).seq (rJ 0 (((bH 6 Ox false).seq (mX (bz 23) mY (u_ 0))).seq ((rJ 1 ((bH 8 Oy false).seq (((bH 9 Oz false).seq (mX (bz 37) (u_ 0) mY)).seq ((bH 10 Gv false).seq (((bH 11 Gw false).seq (mX (bz 41) ((bH 12 Gx false).seq (bH 13 Gy false)) mY)).seq (bH 14 CE false)))))).seq (bH 7 CF false))).loop)).seq ((bH 15 Ot false).seq (((bH 16 Ou false).seq (mX (bz 64) ((bH 17 Ov false).seq kL) mY)).seq ((bH 18 Ow false).seq kL)))))))))
noncomputable abbrev nu:Code:=(((bH 6 Ox false).seq (mX (bz 23) mY (u_ 0))).seq ((rJ 1 ((bH 8 Oy false).seq (((bH 9 Oz false).seq (mX (bz 37) (u_ 0) mY)).seq ((bH 10 Gv false).seq (((bH 11 Gw false).seq (mX (bz 41) ((bH 12 Gx false).seq (bH 13 Gy false)) mY)).seq (bH 14 CE false)))))).seq (bH 7 CF false)))
noncomputable abbrev mK:Code:=((bH 15 Ot false).seq (((bH 16 Ou false).seq (mX (bz 64) ((bH 17 Ov false).seq kL) mY)).seq ((bH 18 Ow false).seq kL)))
noncomputable abbrev XX:Code:=((bH 10 Gv false).seq (((bH 11 Gw false).seq (mX (bz 41) ((bH 12 Gx false).seq (bH 13 Gy false)) mY)).seq (bH 14 CE false)))
def uo(n:Nat)(s a:ByteArray)(i:Nat):ByteArray:=s++⟨#[112]⟩++oW i++⟨#[40,88,41,32,58,45,32,100,40,88,41,44,32]⟩++a++⟨#[112]⟩++oW ((i+1) % n)++⟨#[40,88,41,46,32]⟩
def GH(n a:Nat)(st:ByteArray×Bool)(i:Nat):ByteArray×Bool:=(uo n st.1 (if a=i then⟨#[33]⟩else⟨#[]⟩) i,st.2||decide (a=i))
def jY(n a c:Nat):ByteArray×Bool:=(iK c).foldl (GH n a) (⟨#[]⟩,false)
theorem Pz(n a c):jY n a (c+1)=GH n a (jY n a c) c:=by simp[jY,Kq]
theorem OW(c:0<b)(c:P (.tmp 27)=.int .i64 ((f+1:Nat)))(d:P (.tmp 28)=.int .i64 b)(e:x.2=.binOp .rem 3 (.tmp 27) (.tmp 28) 3):(execOp P x).run Tryz.prog a=.ok (.value<|.int .i64 (((f+1) % b:Nat))) a:=by
 obtain⟨g,op,ty,pos,g,g⟩:=x;subst e;simp[go_sem,c,d];grind
theorem Fl(i):(oW i).size=1:=rfl
abbrev kN(E:(aG->az->List az->Prop)×Ren×(Nat->Option bI)×(Nat->Option bI)×List az)(v:ag)(b:bK)(k:List fJ):Prop:=aY Tryz.prog cH E.1 E.2.1 v E.2.2.1 E.2.2.2.1 (base 11) b k E.2.2.2.2
section
variable{v:ag}{E:(aG->az->List az->Prop)×Ren×(Nat->Option bI)×(Nat->Option bI)×List az}{ci cj q:Int}{ring nt:Bool}{n a i c:Nat}{s:ByteArray}{u x:aq}{b:bK}
def lD(ci cj q:Int)(ring:Bool)(n:Nat)(s:ByteArray)(nt:Bool)(i:Nat)(u x:aq)(b:bK):Prop:=∃y:Nat->aq,b=⟨#[.int .i64 ci,ring,.int .i64 cj,aj,aj,aj,false,true,.int .i64 (n:Nat),s,nt,.int .i64 (i:Nat),u,x,aj,aj,aj,true,.int .i64 ci,.int .i64 q,.int .i64 (n:Nat),(y 0),(y 1),(y 2),(y 3),(y 4),(y 5),(y 6),(y 7),(y 8),(y 9),(y 10),(y 11),(y 12),(y 13),(y 14),(y 15),(y 16),(y 17),(y 18),(y 19),(y 20),(y 21),(y 22),(y 23),(y 24),(y 25),(y 26),(y 27),(y 28),(y 29),(y 30),(y 31),(y 32),(y 33),aj,aj,aj,aj,aj,aj,aj,aj,aj,aj,aj,aj,aj,aj,aj,aj,aj,aj,aj,aj,aj,aj,aj,aj,aj,aj,aj,aj,aj,aj,aj,aj,aj,aj,aj,aj],[]⟩
theorem sN{a b o D I J K L M N c d e f g h j k l m p r t v w y z A B C E F G H:aq}:lD ci cj q ring n s nt i u x ⟨#[.int .i64 ci,ring,.int .i64 cj,aj,aj,aj,false,true,.int .i64 n,s,nt,.int .i64 i,u,x,aj,aj,aj,true,.int .i64 ci,.int .i64 q,.int .i64 n,a,b,o,D,I,J,K,L,M,N,c,d,e,f,g,h,j,k,l,m,p,r,t,v,w,y,z,A,B,C,E,F,G,H,aj,aj,aj,aj,aj,aj,aj,aj,aj,aj,aj,aj,aj,aj,aj,aj,aj,aj,aj,aj,aj,aj,aj,aj,aj,aj,aj,aj,aj,aj,aj,aj,aj,aj,aj,aj],[]⟩:=⟨λO=>[a,b,o,D,I,J,K,L,M,N,c,d,e,f,g,h,j,k,l,m,p,r,t,v,w,y,z,A,B,C,E,F,G,H].getD O aj,rfl⟩
abbrev tu:ByteArray:=⟨#[112]⟩
abbrev C7:ByteArray:=⟨#[40,88,41,32,58,45,32,100,40,88,41,44,32]⟩
theorem sz{p:h->Prop}(a:∀w,p w:=by intro T;simp[go_sem,uo]; (try rw[Fl]); (try rw[Fl]);omega):∀w,p w:=a
theorem i64{p:h->Prop}(a:∀w,p w:=by intro T;simp[go_sem];rw[IntKind.wrap_i64];omega):∀w,p w:=a
theorem sgo{p:h->Prop}(a:∀w,p w:=by intro T;simp[go_sem];omega):∀w,p w:=a
theorem Nq(a:n<=7)(a:i<n)(a:s.size<=1000)(a:d.size<=1)(H:∀a u x b,au v a->lD ci cj q ring n (uo n s d i) nt (i+1) u x b->kN E a b [.inLoop nu,.inBlock 0,.code mK])(h:lD ci cj q ring n s nt i (.int .i64 (((i+1) % n:Nat))) d b):kN E v b [.code (.region 14 CE false),.inBlock 1,.code (.region 7 CF false),.inLoop nu,.inBlock 0,.code mK]:=by
 obtain⟨y,rfl⟩:=h;refine ck ?_;refine dZ (.string (s++tu)) ?_ (hl:=sz);refine ck ?_;refine oT func33 (λT=>LG i aa (aN v T)) λT g u a e ⟨f,c⟩=>?_
 cases f;replace c:=c.dz e;refine dZ (.string (s++tu++oW i)) ?_ (hl:=sz);refine dZ (.string (s++tu++oW i++C7)) ?_ (hl:=sz);refine ck ?_;refine dZ (.string (s++tu++oW i++C7++d)) ?_ (hl:=sz);refine dZ (.string (s++tu++oW i++C7++d++tu)) ?_ (hl:=sz);have h:=Ay (i+1) (show 0<n by omega);refine ck ?_;refine oT func33 (λT=>LG ((i+1) % n) aa (aN a T)) λT g u a e ⟨f,a⟩=>?_
 cases f;replace a:=a.dz e;refine dZ (.string (s++tu++oW i++C7++d++tu++oW ((i+1) % n))) ?_ (hl:=sz);refine dZ (.string (uo n s d i)) ?_ (hl:=sz);refine ck ?_;refine dZ (.int .i64 ((i+1:Nat):Int)) ?_ (hl:=i64);exact eo 2 rfl (H _ _ _ _ (c.B a) sN)
theorem Nr(g:n<=7)(f:i<n)(h:s.size<=1000)(k:pY cj 9=(a))(e: -9223372036854775808<=cj)(j:cj<=9223372036854775807)(H:∀c u x b,au v c->lD ci cj q ring n (uo n s (if a=i then⟨#[33]⟩else⟨#[]⟩) i) (nt||decide (a=i)) (i+1) u x b->kN E c b [.inLoop nu,.inBlock 0,.code mK])(d:lD ci cj q ring n s nt i (.int .i64 (((i+1) % n:Nat))) x b):kN E v b [.code XX,.inBlock 1,.code (.region 7 CF false),.inLoop nu,.inBlock 0,.code mK]:=by
 obtain⟨y,rfl⟩:=d;refine ck ?_;refine oT func31 (λT=>LF cj 9 e j aA aA (aN v T)) λT e u c c ⟨j,d⟩=>?_
 cases j;replace d:au v _:=(d▸.T _ _:au (aN v T) (aN _ e)).dz c;rw[k];refine ck ?_;by_cases c:a=i;refine dZ true ?_ (hl:=λT=>by simp[go_sem,c]);apply eo 9 rfl;rw[if_pos c,decide_eq_true c,Bool.or_true]at H;exact Nq g f h aA (λj u x b e=>H _ u x b (d.B e)) sN;refine dZ false ?_ (hl:=sgo);apply eo 3 rfl;rw[if_neg c,decide_eq_false c,Bool.or_false]at H;exact Nq g f h aA (λj u x b e=>H _ u x b (d.B e)) sN
theorem YM(a:i=n)(H:∀u x b,lD ci cj q ring n s nt i u x b->kN E v b [.code mK])(h:lD ci cj q ring n s nt i u x b):kN E v b [.code nu,.inLoop nu,.inBlock 0,.code mK]:=by
 obtain⟨y,rfl⟩:=h;refine ck ?_;refine dZ false ?_ (hl:=sgo);exact eo 3 rfl (H _ _ _ sN)
theorem YI(a:i+1=n)(a:n<=7)(a:ring=false)(H:∀u x b,lD ci cj q ring n s nt i u x b->kN E v b [.code mK])(h:lD ci cj q ring n s nt i u x b):kN E v b [.code nu,.inLoop nu,.inBlock 0,.code mK]:=by
 subst a;obtain⟨y,rfl⟩:=h;refine ck ?_;refine dZ true ?_ (hl:=sgo);refine ck ?_;refine dZ (.int .i64 ((i+1:Nat):Int)) ?_ (hl:=i64);refine ck ?_;refine dZ _ ?_ (hl:=λT=>OW aa rfl rfl rfl);refine ck ?_;refine dZ (.int .i64 ((i+1:Nat):Int)) ?_ (hl:=i64);refine ck ?_;refine dZ true ?_ (hl:=sgo);refine ck ?_;apply dZ true;exact eo 4 rfl (H _ _ _ sN)
theorem YO(f:n<=7)(e:i<n)(h:s.size<=1000)(g:pY cj 9=(a))(c: -9223372036854775808<=cj)(d:cj<=9223372036854775807)(k:i+1<n∨ring=true)(H:∀j u x b,au v j->lD ci cj q ring n (uo n s (if a=i then⟨#[33]⟩else⟨#[]⟩) i) (nt||decide (a=i)) (i+1) u x b->kN E j b [.inLoop nu,.inBlock 0,.code mK])(j:lD ci cj q ring n s nt i u x b):kN E v b [.code nu,.inLoop nu,.inBlock 0,.code mK]:=by
 obtain⟨y,rfl⟩:=j;refine ck ?_;refine dZ true ?_ (hl:=sgo);walk_nrm;refine ck ?_;refine dZ (.int .i64 ((i+1:Nat):Int)) ?_ (hl:=i64);refine ck ?_;refine dZ _ ?_ (hl:=λT=>OW aa rfl rfl rfl);refine ck ?_;refine dZ (.int .i64 ((i+1:Nat):Int)) ?_ (hl:=i64);refine ck ?_;by_cases j:i+1=n;have j:=k.resolve_left aa;subst j;refine dZ true ?_ (hl:=sgo);refine ck ?_;apply dZ false;apply eo 4 rfl;exact Nr f e h g c d H sN;refine dZ false ?_ (hl:=sgo);walk_nrm;refine eo 7 rfl ?_;exact Nr f e h g c d H sN
end
theorem Py(n a i):(jY n a i).1.size<=23*i:=by
 induction i with
 |zero=>exact cP _
 |succ i b=>
  rw[Pz];unfold GH uo;simp[Fl];have h:(if a=i then(⟨#[33]⟩:ByteArray)else⟨#[]⟩).size<=1:=by split<;>decide
  have a:(⟨#[112]⟩:ByteArray).size=1:=rfl;have a:(⟨#[40,88,41,32,58,45,32,100,40,88,41,44,32]⟩:ByteArray).size=13:=rfl;have a:(⟨#[40,88,41,46,32]⟩:ByteArray).size=5:=rfl;omega
section
variable{v:ag}{E:(aG->az->List az->Prop)×Ren×(Nat->Option bI)×(Nat->Option bI)×List az}{ci cj q:Int}{ring nt:Bool}{n a i c:Nat}{s:ByteArray}{u x:aq}{b:bK}
theorem YN(d:2<=n)(j:n<=7)(f:c=if ring then n else n- 1)(m:pY cj 9=(a))(k: -9223372036854775808<=cj)(l:cj<=9223372036854775807)(H:∀d u x b,au v d->lD ci cj q ring n (jY n a c).1 (jY n a c).2 c u x b->kN E d b [.code mK]):
  ∀(r i) (d:ag)(u x) (b:bK),i+r=c->au v d->lD ci cj q ring n (jY n a i).1 (jY n a i).2 i u x b->kN E d b [.code nu,.inLoop nu,.inBlock 0,.code mK]:=by
 intro r;induction r with
 |zero=>
  rintro i d u x b rfl e h;cases g:ring with
  |true=>rw[g,if_pos rfl]at f;exact YM f (λu x b=>H _ u x b e) h
  |false=>rw[g,if_neg aA]at f;rw[g]at H h;exact YI aa j rfl (λu x b=>H _ u x b e) h
 |succ r g=>
  intro i d u x b d e h;have f:i+1<n∨ring=true:=aJ
  have d:i<n:=aJ
  refine YO j d (aI<|Py n a i) m k l f (λd u x b d h=>?_) h;have f:=g (i+1) _ u x b aa (e.B d) (Pz n a i▸h);exact aY.I (λa w=>Ap) f
theorem adu(c:s.size<=1000)(d:eE s=(none,((7:Nat):Int),((0:Nat):Int)))(c:∀a(e:ag)k,a.1[6]?=some (.bool true)->a.2= []->kN E e a (.code .ret::k))(h:lD ci cj q true n s true i u x b):kN E v b [.code mK]:=by
 obtain⟨y,rfl⟩:=h;refine ck ?_;refine sB func17 _ (M_ aa d aA) λu d d=>?_;obtain⟨rfl,-⟩:=d;apply eo 11 rfl;apply bY true;apply eo 3 rfl;apply eo 4 rfl;apply bY true;apply bY true;apply bY (.pointer none);apply bY true;apply bY true;apply bY true;apply bY (.int .i64 7);apply bY true;apply bY true;apply bY true;apply bY (.int .i64 0);apply bY true;apply bY true;apply bY true;exact eo 1 rfl (c _ _ _ rfl rfl)
theorem Pp(c:s.size<=1000){cs:List bk}(c:eE s=(some cs,0,0))(D:qx cs K R)(d:∀a(e:ag)k,a.1[6]?=some (.bool true)->a.2= []->kN E e a (.code .ret::k))(e:ring=true->nt=false)(h:lD ci cj q ring n s nt i u x b):kN E v b [.code mK]:=by
 obtain⟨y,rfl⟩:=h;refine ck ?_;refine sB func17 _ (MZ aa c D) λu c f=>?_;obtain⟨c,rfl,c,g,g,g,g,g,F,g,g,g,g,N,rfl,-⟩:=f;walk_nrm;apply eo 11 rfl;cases ring;apply bY false;apply bY false;apply eo 1 rfl;apply bY false;apply eo 5 rfl;apply bY true;apply bY true;refine bY c ?_;apply bY true;apply bY true;apply bY true;apply bY (.int .i64 0);apply bY true;apply bY true;apply bY true;apply bY (.int .i64 0);apply bY true;apply bY true;apply bY true;exact eo 1 rfl (d _ _ _ rfl rfl);cases e rfl;apply bY true;apply bY true;apply bY false;apply bY false;apply eo 5 rfl;apply bY true;apply bY true;refine bY c ?_;apply bY true;apply bY true;apply bY true;apply bY (.int .i64 0);apply bY true;apply bY true;apply bY true;apply bY (.int .i64 0);apply bY true;apply bY true;apply bY true;exact eo 1 rfl (d _ _ _ rfl rfl)
end
structure xw:Prop where
 bad:∀n a:Nat,2<=n->n<=7->a<9->(jY n a n).2=true->eE (jY n a n).1=(none,((7:Nat):Int),((0:Nat):Int))
 ring:∀n a:Nat,2<=n->n<=7->a<9->(jY n a n).2=false->∃cs Ls R,eE (jY n a n).1=(some cs,0,0)∧qx cs Ls R
 chain:∀n a:Nat,2<=n->n<=7->a<9->∃cs Ls R,eE (jY n a (n- 1)).1=(some cs,0,0)∧qx cs Ls R
theorem Oi(c){n:Nat}(a:0<n):∃a,a<n∧pY c n=(a):=by
 unfold pY;split;exact⟨((-(c+1)) % (n:Int)).toNat,dX (Int.emod_lt_of_pos (-(c+1)) (show(0:Int)<n by omega))<|IU (-(c+1)) (show(n:Int)≠0 by omega),aI<|IU (-(c+1)) (show(n:Int)≠0 by omega)⟩;exact⟨(c % (n:Int)).toNat,dX (Int.emod_lt_of_pos c (show(0:Int)<n by omega))<|IU c (show(n:Int)≠0 by omega),aI<|IU c (show(n:Int)≠0 by omega)⟩
section
variable{v:ag}{e s0:Nat->Option bI}{f:Ren}{Q:aG->az->List az->Prop}{cs1:List az}{ci cj q:Int}{ring nt:Bool}{n a i c:Nat}{s:ByteArray}
theorem ad8{cs:List bk}{b:Nat->List bV->aW->Prop}(S:vN cs K R b)(M:xw)(i: -9223372036854775808<=ci)(j:ci<=9223372036854775807)(kW: -9223372036854775808<=cj)(ig:cj<=9223372036854775807)
  (d:∀a(b:ag)k,a.1[6]?=some (.bool true)->a.2= []->aY Tryz.prog cH Q f b e s0 (base 11) a (.code .ret::k) cs1):aY Tryz.prog cH Q f v e s0 (base 11) ⟨(#[.int .i64 ci,.bool ring,.int .i64 cj])++ml (f11.7-(#[.int .i64 ci,.bool ring,.int .i64 cj]:Array aq)) aj,[]⟩ [.code Lj] cs1:=by
 obtain⟨p,g,l⟩:=Oi ci (n:=6) aA;obtain⟨a,g,h⟩:=Oi cj (n:=9) aA;apply yg ntmps11;refine ck ?_;refine sB func32 _ (XR S) λu b k=>?_;subst k;refine ck ?_;refine oT func31 (λT=>LF ci 6 i j aA aA (aN b T)) λT b u j b ⟨b,_⟩=>?_
 cases b;rw[l];obtain⟨n,b⟩:=aT (2+p);refine dZ (.int .i64 (n:Nat)) ?_ (hl:=i64);apply eo 17 rfl;walk_nrm;obtain⟨c,b⟩:=aT (if ring then n else n- 1)
 have i:(jY n a c).1.size<=1000:=by
  have:=Py n a c;have:c<=n:=by rw[b];split<;>omega
  omega
 refine YN (n:=n) (a:=a) (q:=(p:Int)) (E:=(Q,f,e,s0,cs1)) aa aa b h kW ig (λh u x h _ h=>?_) c 0 j _ _ _ aa (ae.T _ _) sN;cases j:ring<;>simp[j]at b h;subst b;obtain⟨cs,K,R,j,k⟩:=M.3 n a aa aa g;exact Pp i j k d af h;subst b;cases b:(jY c a c).2;obtain⟨cs,K,R,j,k⟩:=M.2 c a aa aa g b;exact Pp i j k d (λ_=>b) h;rw[b]at h;exact adu i (M.1 c a aa aa g b) d h
end
end
end
section
theorem ZH{t:dP}(h:mF z t b=some d3):d3=z.length:=by
 unfold mF at h;grind
theorem ZE{ts:List dP}(h:ee ts r=some z):z.length=12:=by
 have f:∀(l:List<|dP×Nat)(o:Option _),(∀z,o=some z->z.length=12)->∀z,l.foldl (λa p=>a.bind λz=>mF z p.1 p.2) o=some z->z.length=12:=by
  intro l;induction l with
  |nil=>grind
  |cons p l a=>
   intro o e;refine a _ λz a=>?_;obtain⟨c,b,d⟩:=Ah.1 a;rw[ZH d,e c b]
 exact f _ _ (λz a=>by cases a;rfl) z h
theorem acX{F:ma}(b:∀p∈g,p.1.length=12):∀p∈lT L b9 F g,rN b9.2 p.1:=by
 refine Ld λp a=>?_;obtain⟨q,c,a⟩:=JP.1 a;obtain⟨r,-,rfl⟩:=ei.1 a;simp[kv,b q c]
theorem acV{J:cU}:∀p∈dH L J n,rN J.4 p.1:=by
 refine Ld λp b=>?_;obtain⟨t,-,c⟩:=List.mem_filterMap.1 b;obtain⟨d,a,rfl⟩:=mR.1 c;exact ZE a
theorem O0{D:Bool->ByteArray->Seen}:∀q(l:List<|bS×Nat)(live),(∀p∈l,rN live p.1)->∀p∈fe D l q,rN (((q.map λx=>x.1.2).getLast?).getD live) p.1
 | [],_,_,h=>h
 |x::q,l,live,h=>by
  have a:=O0 (D:=D) q (lT D x.1 (jW x.1<|x.2.getD []) l) _<|acX λp b=>(h p b).1;rw[rV,List.getLast?_cons];exact a
def FV(J:cU):Nat:=((J.5.map (·.2)).getLast?).getD J.4
def xY(J:cU):Bool:=decide (J.1.2.length<=3)&&decide (FV J&&& c5 J.1.2=FV J)
theorem pQ{D:Bool->ByteArray->Seen}{J:cU}(h:xY J=true):kR D J:=by
 unfold xY at h;simp[Bool.and_eq_true]at h;obtain⟨c,j⟩:=h;intro l b m p g q i d;have e:((J.5.zip b).map λx=>x.1.2)=J.5.map (·.2):=by
  have:(J.5.zip b).map Prod.fst=J.5:=List.map_fst_zip aa;conv=>rhs;rw[<-this]
  rw[List.map_map];rfl
 have a:=O0 (D:=D) (J.5.zip b) (dH D J l) _ acV;rw[e]at a;refine WM c (λk f=>?_) (a p g) (a q i) d;have:(FV J&&& c5 _).testBit k=true:=aw j f;grind
theorem acY l:lT L b9 (λ_=> []) l= []:=by
 unfold lT;have:l.flatMap (oq b9 λ_=> [])= []:=by simp[oq]
 rw[this];rfl
theorem GM{D:Bool->ByteArray->Seen}:∀q,fe D [] q= []
 | []=>rfl
 |_::q=>GM (D:=D) q
theorem Yr(a:bO)(s:Bool)(n:ByteArray):dU a dF s n=([],[],[]):=by
 unfold dU sZ jF cd dF;grind
theorem ad3(h:sx [] [] [] n):n= []:=by
 obtain⟨y,z,rfl,⟨-,c,-⟩,⟨-,d,-⟩⟩:=h;have a:=AO.2 λa b=>by have:=c a b;simp[hh]at this
 have c:=AO.2 λa b=>by have:=d a b;simp at this
 grind
theorem Tl(h:xY (cX b4)=true)(f:(cX b4).5≠ []):I' (dU p dF) b4:=by
 refine⟨λk b _ d=>?_,pQ h⟩;obtain⟨s,ss,g⟩:=List.exists_cons_of_ne_nil f;have a:=d.1 0;rw[g]at a⊢;have i:∃o t,b=o::t∧o.getD []= []:=by
  rcases a with a|⟨-,j,T,-,a,c⟩
  ·cases b with
   |nil=>grind
   |cons o t=>grind
  ·cases b with
   |nil=>grind
   |cons o t=>
    simp at a;rw[Yr]at c;exact⟨o,t,rfl,by rw[a,ad3 c];rfl⟩
 obtain⟨o,t,rfl,e⟩:=i;show fe _ (lT _ s (jW s (o.getD [])) _) _= [];rw[e];show fe _ (lT _ s (λ_=> []) _) _= [];rw[acY];exact GM _
def yf(L:Lay):Bool:=L.1.all λc=>if L.2 then decide (gh (gD (L.1.map bP)) (bP c).2 (bP c).2≠ [])else xY (cX (bP c))&&decide ((cX (bP c)).5≠ [])
theorem Xq(w:∀L∈K,yf L=true∧L.1.length<=1048576∧∀e∈L.1,fP<|bP e)(B:g.map js=K)(C:∀a∈g,a.1.1=a.2.2):
  xx b p g k f λ_ F=>F=dF:=by
 rintro M a A O F o q l rfl;have s:=cA A;obtain⟨j,n,J⟩:=w a.2<|jy B<|ei.2 ⟨a,s,rfl⟩;have m:=C a s;have u:∀r∈a.2.1.map bP,fP r:=aJ
 unfold yf at j;rw[zB]at j;cases c:a.1.1 with
 |true=>
  rw[c]at m;let⟨D,rc,h,i⟩:=q.O.1 c;refine(Uz (F:=dF) ⟨o,h,i⟩ u (aw di n) l λr t=>?_).mono ?_;grind;rintro ex G ⟨E,rfl,d,z⟩;exact⟨E,[],_,rfl,d.Z,l.O d id i2,rfl,z,af⟩
 |false=>
  rw[c]at m;let⟨D,rc,N,h,i,H,I⟩:=q.O.2 c;refine(U9 (F:=dF) ⟨o,h,i⟩ u (aw di n) l λr t=>?_).mono ?_;obtain⟨e,y,rfl⟩:=ei.1 t;have:=j e y;rw[<-m,if_neg aA,j_,decide_eq_true_eq]at this;exact Tl this.1 this.2;rintro ex G ⟨rfl,d,x⟩;exact⟨_,[],_,rfl,d.cW λ_ _ v=>.inr v,x,rfl,.m<|qV _,af⟩
structure iM where
 k:Int
 t:ByteArray
 r:List UInt8
def PD:List UInt8->iM
 | []=>⟨0,iJ,[]⟩
 |b::u=>
  if 0<((b::u).takeWhile jD).length then⟨ru ⟨((b::u).takeWhile jD).toArray⟩,⟨((b::u).takeWhile jD).toArray⟩,(b::u).drop ((b::u).takeWhile jD).length⟩
  else if [58,45].isPrefixOf (b::u)then⟨10,⟨#[58,45]⟩,(b::u).drop 2⟩else⟨CX b,⟨#[b]⟩,u⟩
def yQ(l:List UInt8):iM:=PD (l.drop (blank false l))
def Rel(s:ByteArray)(p:bT)(q:iM):Prop:=p.k=q.k∧p.t=q.t∧(aS s).drop (p.a+p.t.size)=q.r∧p.a+p.t.size<=s.size
theorem Bo(s:ByteArray)(i j):aS (s.extract i j)=((aS s).drop i).take (j- i):=by simp[aS]
variable{J:List UInt8}
theorem NZ(h:aS d=J):d=⟨J.toArray⟩:=by
 subst h;simp[aS]
theorem Oj(h:b<=d.size)(a:(aS d).drop b=J):Rel d (cT d b)<|yQ J:=by
 have f:=FE d h;have c:aS (d.extract b d.size)=J:=by rw[Bo,a,<-a,fo];rw[uY,mz];omega
 have e:je d b=blank false J:=by unfold je;rw[c]
 unfold cT yQ;rw[<-e];have e:J.drop (je d b)=(aS d).drop (b+je d b):=by rw[<-a,JO]
 rw[e];generalize b+je d b=c at f e⊢;by_cases a:c=d.size;rw[if_pos a,List.drop_eq_nil_of_le<|dT mz];refine⟨rfl,rfl,?_,by simp_all⟩;exact List.drop_eq_nil_of_le (by show d.size<=c+0;omega);rw[if_neg a];have g:aS (d.extract c d.size)=(aS d).drop c:=by rw[Bo,fo];rw[uY,mz];omega
 have e:((aS d).drop c).length=d.size- c:=by rw[uY,mz]
 cases f:(aS d).drop c with
 |nil=>rw[f]at e;simp at e;omega
 |cons a u=>
  rw[f]at g e;have i:∀(n:Nat)(w:List _),(a::u).take n=w->w.length=n->d.extract c (c+n)=⟨w.toArray⟩∧(d.extract c<|c+n).size=n∧(aS d).drop (c+n)=(a::u).drop n∧c+n<=d.size:=by
   intro n w h j;have e:d.extract c (c+n)=⟨w.toArray⟩:=NZ (by rw[Bo,f,Nat.add_sub_cancel_left,h]);refine⟨e,?_,by rw[<-JO,f],?_⟩;rw[e];show w.toArray.size=n;rw[qp];exact j;have:=List.length_take_le' n<|a::u;rw[h]at this;omega
  have f:qb (d.extract c d.size)=((a::u).takeWhile jD).length:=by unfold qb;rw[g]
  have j:(a::u).take _=(a::u).takeWhile jD:=(Rw.1<|List.takeWhile_prefix _).symm;unfold sP meas PD;simp only;rw[f];by_cases h:0<((a::u).takeWhile jD).length;rw[if_pos h,if_pos h];obtain⟨f,k,l,m⟩:=i _ _ j rfl;have n:(d.extract c d.size).extract 0 ((a::u).takeWhile jD).length=⟨((a::u).takeWhile jD).toArray⟩:=NZ (by rw[Bo,g,D2,Nat.sub_zero,j]);exact⟨by grind,f,by grind,by grind⟩;rw[if_neg h,if_neg h];have h:sO C9 (d.extract c d.size)= [58,45].isPrefixOf (a::u):=by unfold sO;rw[g];rfl
  rw[h];by_cases e: [58,45].isPrefixOf (a::u)=true;rw[if_pos e,if_pos e];let⟨t,c⟩:=Ie.1 e;obtain⟨f,k,l,m⟩:=i 2 [58,45] (EF c) rfl;exact⟨rfl,f,by grind,by grind⟩;rw[if_neg e,if_neg e];obtain⟨f,k,l,m⟩:=i 1 [a] rfl rfl;exact⟨by grind,f,by grind,by grind⟩
def gl(p:iM)(k:Int):Bool×iM:=if p.k=k then(true,yQ p.r)else(false,p)
def rj(p:iM):dW×Bool×iM:=
 if(gl p 4).1 then(⟨p.t,true⟩,true,(gl p 4).2)
 else if(gl p 2).1 then(⟨p.t,false⟩,true,(gl p 2).2)
 else(⟨p.t,false⟩,gl p 3)
def y_:Nat->List dW->iM->List dW×Bool×iM
 |0,ts,p=>(ts,false,p)
 |n+1,ts,p=>
  if(rj p).2.1 then
   (if(gl (rj p).2.2 7).1 then y_ n (ts++ [(rj p).1]) (gl (rj p).2.2 7).2
    else(ts++ [(rj p).1],gl (rj p).2.2 6))
  else(ts,(rj p).2)
def Bg(n:Nat)(p:iM):fg×Bool×iM:=
 if(gl p 2).1 then
  (if(gl (gl p 2).2 5).1 then(⟨p.t,(y_ n [] (gl (gl p 2).2 5).2).1⟩,(y_ n [] (gl (gl p 2).2 5).2).2)
   else(⟨p.t,[]⟩,gl (gl p 2).2 5))
 else(⟨p.t,[]⟩,gl p 2)
def Ca(N:Nat):Nat->List fj->iM->List fj×Bool×iM
 |0,a,p=>(a,false,p)
 |n+1,a,p=>
  let g:=gl p 9
  let r:=Bg N g.2
  if r.2.1 then
   (if(gl r.2.2 7).1 then Ca N n (a++ [⟨r.1,g.1⟩]) (gl r.2.2 7).2 else(a++ [⟨r.1,g.1⟩],true,r.2.2))
  else(a,false,r.2.2)
def xX(N:Nat)(p:iM):bk×Bool×iM:=
 let a:=Bg N p
 if a.2.1 then
  (let t:=gl a.2.2 10
   if t.1 then(let b:=Ca N N [] t.2
    if b.2.1 then(⟨a.1,b.1⟩,gl b.2.2 8)else(⟨a.1,[]⟩,false,b.2.2))
   else(⟨a.1,[]⟩,gl t.2 8))
 else(⟨a.1,[]⟩,false,a.2.2)
def yN(N:Nat):Nat->List bk->iM->Option (List bk)
 |0,_,_=>none
 |n+1,cs,p=>
  if p.k=0 then some cs
  else if(xX N p).2.1 then yN N n (cs++ [(xX N p).1]) (xX N p).2.2 else none
section
variable{s:ByteArray}{p:bT}{q:iM}
def xJ(s:ByteArray)(x:h×Bool×bT)(y:h×Bool×iM):Prop:=x.1=y.1∧x.2.1=y.2.1∧Rel s x.2.2 y.2.2
theorem ov(h:Rel s p q)(k):(bR s p k).1=(gl q k).1∧Rel s (bR s p k).2 (gl q k).2:=by
 unfold bR gl;rw[h.1];by_cases a:q.k=k;rw[if_pos a,if_pos a];exact⟨rfl,Oj h.2.2.2 h.2.2.1⟩;grind
theorem adA(h:Rel s p q):xJ s (dr s p)<|rj q:=by
 unfold dr rj;have c:=ov h 4;have a:=ov h 2;have b:=ov h 3;rw[c.1,a.1,h.2.1];split;exact⟨rfl,rfl,c.2⟩;split;exact⟨rfl,rfl,a.2⟩;exact⟨rfl,b.1,b.2⟩
theorem Pw:∀(n) (ts:List dW){p:bT}{q:iM},Rel s p q->xJ s (gp s n ts p) (y_ n ts q)
 |0,_,_,_,h=>⟨rfl,rfl,h⟩
 |n+1,ts,p,q,h=>by
  unfold gp y_;obtain⟨a1,a2,a3⟩:=adA h;have b:=ov a3 7;have a:=ov a3 6;rw[a2,b.1,a1];split;split;exact Pw n _ b.2;exact⟨rfl,a.1,a.2⟩;exact⟨rfl,a2,a3⟩
theorem KZ(n)(h:Rel s p q):xJ s (dE s n p)<|Bg n q:=by
 unfold dE Bg;have a:=ov h 2;have b:=ov a.2 5;let⟨a1,a2,a3⟩:=Pw n [] b.2;rw[a.1,b.1,h.2.1,a1];split;split;exact⟨rfl,a2,a3⟩;exact⟨rfl,b.1,b.2⟩;exact⟨rfl,a.1,a.2⟩
theorem ND(N):∀(n) (a:List fj){p:bT}{q:iM},Rel s p q->xJ s (fE s N n a p) (Ca N n a q)
 |0,_,_,_,h=>⟨rfl,rfl,h⟩
 |n+1,a,p,q,h=>by
  unfold fE Ca;simp only;have b:=ov h 9;let⟨a1,a2,a3⟩:=KZ N b.2;have a:=ov a3 7;rw[a2,a.1,a1,b.1];split;split;exact ND N n _ a.2;exact⟨rfl,rfl,a3⟩;exact⟨rfl,rfl,a3⟩
theorem Wz(N)(h:Rel s p q):xJ s (fq s N p)<|xX N q:=by
 unfold fq xX;simp only;obtain⟨a1,a2,a3⟩:=KZ N h;have a:=ov a3 10;let⟨b1,b2,b⟩:=ND N N [] a.2;have c:=ov b 8;have d:=ov a.2 8;rw[a2,a.1,b2,a1,b1];split;split;split;exact⟨rfl,c.1,c.2⟩;exact⟨rfl,rfl,b⟩;exact⟨rfl,d.1,d.2⟩;exact⟨rfl,rfl,a3⟩
theorem Oa(N):∀(n) (cs:List bk){p:bT}{q:iM},Rel s p q->∀b,yN N n cs q=some b->lQ s N n cs p=(some b,0)
 |0,_,_,_,_,_,h=>nomatch h
 |n+1,cs,p,q,h,b,a=>by
  unfold yN at a;unfold lQ;obtain⟨a1,a2,a3⟩:=Wz N h;rw[h.1,a2,a1];split;grind;rename_i d;rw[if_neg d]at a;split;rename_i c;rw[if_pos c]at a;exact Oa N n _ a3 _ a;grind
end
theorem N9(h:yN (d.size+1) (d.size+1) [] (yQ<|aS d)=some c):parse d=(some c,0):=
 Oa _ _ [] (Oj (nK _)<|D2) c h
theorem Pd(ab:List<|ByteArray×ByteArray)(a:List ByteArray)(h:∀x∈a,aL x):(lS ab a h).Perm a:=by
 obtain⟨⟨b,-,c⟩,-⟩:=IM (FM<|mL ab a a) (lg _ h) 0 _ (nK _)<|aw sT<|cP _;unfold lS;generalize pC (ltOf<|nk<|mL ab a a) (lg a h) 0 a.length=d at b c⊢;have e:(d.extract 0 a.length).1=d.1:=by
  rw[Array.toList_extract,R1];simp only[D2,Nat.sub_zero];rw[fo];rw[rY,b,sT];exact aa
 have b:((lg _ h).extract 0 a.length).1=(lg _ h).1:=by
  rw[Array.toList_extract,R1];simp only[D2,Nat.sub_zero];rw[fo];rw[rY,sT];exact aa
 rw[e,b]at c;have b:(lg _ h).1.map Kt=a:=by simp[lg,List.map_pmap]
 grind
theorem GY{ab:List _}{cs:List bk}{ns:List ByteArray}{P:Lay->Prop}:∀(a:List ByteArray)st,(∀L∈st.2,P L)->(∀n∈a,P ⟨fG (lu ab n ns) cs,bL ab (n,n)⟩)->
  (∀L∈(a.foldl (lq ab cs ns) st).2,P L)∧(a.foldl (lq ab cs ns) st).2<=st.2+a.length
 | [],_,h,_=>⟨h,cP _⟩
 |n::a,st,h,c=>by
  have e:(∀L∈(lq ab cs ns st n).2,P L)∧(lq ab cs ns st n).2.length<=st.2.length+1:=by
   unfold lq;split;exact⟨h,aa⟩;dsimp only;split;exact⟨h,aa⟩;refine⟨λL d=>?_,aw kK<|cP _⟩;obtain b|b:=gX.1 d;exact h L b;rw[ir.1 b];exact c n<|jM ..
  obtain⟨b,b⟩:=GY a _ e.1 λx a=>c x<|rz _ a;grind
def C1(t:dW):Bool:=decide (t.t.size<=1000)
def BB(c:bk):Bool:=decide (c.1.2.length<=3)&&c.1.2.all C1&&decide (c.1.n.size<=1000)&&decide (c.2.length<=4)&&c.2.all λl=>decide (l.a.2.length<=3)&&decide (l.a.n.size<=1000)&&l.a.2.all C1
def CP(t:dP):Bool:=decide (t.c<18446744073709551616)&&decide (t.v<12)
def CQ(r:bW):Bool:=decide (r.1.2.length<=3)&&r.1.2.all CP&&decide (r.1.n.size<=1000)&&decide (r.2.length<=4)&&r.2.all λl=>decide (l.a.2.length<=3)&&l.a.2.all CP&&decide (l.a.n.size<=1000)
theorem p_(h:d.size<=1000):aL d:=by show d.size<=maxLen;unfold maxLen;omega
theorem CR(h:CQ b4=true):fP b4:=by
 unfold CQ at h;simp[decide_eq_true_eq]at h;obtain⟨⟨⟨⟨c,d⟩,e⟩,f⟩,b⟩:=h;have a:∀t,CP t=true->jE t:=λt a=>by
  unfold CP at a;show t.c<18446744073709551616∧t.v<12;grind
 exact⟨c,λt h=>a t<|d t h,p_ e,f,λl c=>⟨(b l c).1.1,λt h=>a t<|(b l c).1.2 t h,p_ (b l c).2⟩⟩
theorem vX{c:bk}(h:BB c=true):vL c∧aL c.1.n∧Small 1099511627776 c:=by
 unfold BB at h;simp[decide_eq_true_eq]at h;obtain⟨⟨⟨⟨c,d⟩,e⟩,f⟩,b⟩:=h;have a:∀t,C1 t=true->t.t.size<=1000:=λt a=>by
  unfold C1 at a;grind
 refine⟨⟨c,λt h=>p_<|a t<|d t h,f,λl c=>⟨(b l c).1.1,λt h=>p_<|a t<|(b l c).2 t h⟩⟩,p_ e,aa,λa a=>?_⟩;obtain rfl|a:=pF.1 a;grind;grind
def Fx(cs:List bk):Bool:=decide (cs.length<=1000)&&cs.all BB&&(cs.all λc=>CQ (bP c))&&(cs.all λc=>decide (c.2.length≠0))&&((iK (cs+1)).all λk=>decide ((bl (cs.take k)).length<=1000))&&decide ((bl cs).length<20)&&decide ((bl cs).length≠0)&&
 ((bl cs).all λn=>decide (n.size<=1000))&&decide ((eC cs).length<=1000)&&(cs.all λc=>(eC cs).any λp=>decide (p.1=c.1.n))&&(bl cs).all λn=>yf ⟨fG (lu (fR cs) n (bl cs)) cs,bL (fR cs) (n,n)⟩
theorem Ns(h:∀a∈c,a.2.length≠0)(F:aW):g_ F c=(F,[]):=by
 have b:∀(c:List bk)(st:aW×List bV),(∀a∈c,a.2.length≠0)->c.foldl oc st=st:=by
  intro c;induction c with
  |nil=>grind
  |cons a c d=>
   intro st h;rw[IB];have:oc st a=st:=by unfold oc;rw[if_neg<|h a<|jM ..]
   grind
 exact b _ _ h
theorem Y6(h:Fx c=true):∃m R,qx c m R:=by
 unfold Fx at h;simp only[j_,decide_eq_true_eq,zB,rF]at h;obtain⟨⟨⟨⟨⟨⟨⟨⟨⟨⟨D,f⟩,q⟩,i⟩,F⟩,r⟩,s⟩,t⟩,G⟩,E⟩,p⟩:=h;have e:∀x∈bl _,aL x:=λx v=>p_<|t x v;have j:=Pd (fR c) _ e;obtain⟨y,k⟩:=GY (ab:=fR c) (cs:=c) (ns:=bl c) (P:=λL=>yf L=true∧∀a∈L.1,a∈c) (lS (fR c) _ e) ([],[]) (λ_ h=>nomatch h) λn u=>⟨p n<|j.mem_iff.1 u,λa b=>(qu.1 b).1⟩;rw[j.length_eq]at k;have g:∀L∈(jl _ _ _<|lS _ _ _).2,yf L=true∧∀a∈L.1,a∈c:=y;have I:(jl _ _ _<|lS _ _ _).2.length<=0+(bl _).length:=k;have l:∀L∈(jl (fR c) c (bl c)<|lS (fR c) _ e).2,L.1.length<=1048576:=by
  have z:∀L∈(jl (fR c) c (bl c)<|lS (fR c) (bl c) e).2,L.1.length<=c.length:=
   (GY (ab:=fR c) (cs:=c) (ns:=bl c) (P:=λL=>L.1.length<=c.length) (lS (fR c) (bl c) e) ([],[]) (λ_ h=>nomatch h) λn _=>pK _ _).1
  intro L d;have:=z L d;omega
 refine⟨_,_,aa,λa b=>(vX<|f a b).2.2,λw=>?_,⟨e,rfl⟩,λo=>s<|dh o,r,aa,aa,λL d=>⟨l L d,λa b=>⟨(vX<|f a<|(g L d).2 a b).1,(vX<|f a<|(g L d).2 a b).2.1⟩⟩,λa b=>⟨(vX<|f a b).1.1,(vX<|f a b).2.1,by grind⟩,aw (Ns i)<|nK _,dh<|Ns i,λM C J K N _ A B _ _ _ _=>Xq (λL d=>⟨(g L d).1,l L d,λa b=>CR<|q a<|(g L d).2 a b⟩) A B⟩;by_cases H:w<=c.length;grind;rw[fo aa];omega
end
