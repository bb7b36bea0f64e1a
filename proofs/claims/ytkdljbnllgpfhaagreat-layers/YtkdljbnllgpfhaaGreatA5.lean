import Derived.Test.YtkdljbnllgpfhaaGreatA4
import Derived.Shelf.SlSortCmp.Insertion
set_option maxRecDepth 100000
set_option maxHeartbeats 8000000
open Go renaming World->ag,FuncId->bw,Value->aq,Addr->bC,TypeId->bB,MapEntry->fZ,Program->bj,Obj->bI,Oper->bG,undef->aj
open List renaming length->I9
open Go.Value renaming slice->oD,cells->tT,oneCell'->eP,string->cr
open Go.Builtin renaming len_->uP
open Go.Extern renaming findNext->tB,find->tC
open Go.Extern.AbiNoEscape renaming same->Er
open Go.Extern.BytealgCompare renaming compare->Es
open Go.Extern.BytealgIndexByte renaming indexByte->Et
open Go.Extern.BytealgIndex renaming index->Eu
open Go.Extern.BytealgMakeNoZero renaming makeNoZero->Dk
open Array renaming replicate->ml
open Go.Region renaming ready->er,noSelect->uV
open Prod renaming fst->bD,snd->js
open Go.Shelf renaming Ren->mf
open Go.RowKit renaming Hid->ay
open ByteArray renaming empty->iJ
open Go.Lib renaming compareInt->Kc
open Go.Sort renaming Holds->qg,insertionSort->pC
namespace Go.Proofs
open Tryz
open Go.RowKit
abbrev Ee:=@Function.comp_def
abbrev Ks:=@Int.natCast_ediv
abbrev IM:=@Go.Sort.insertionSort_holds
variable{D d3:Type}{S:Array aq}{b4:Array fZ}{j:bS}{L:Bool}{x:Bool->ByteArray->fT}{b5 q:ByteArray}{f2 f3 f4 f5 f6 f7:ByteArray->List aC}{W f0:ByteArray->aC->Prop}{a6:bV}{d9:bk}{e5:D->Prop}{d7:D->aq}{M d:ai}{a9:ai->List aq->D->Prop}{k:cU}{d1:List ByteArray}{r:List bV}{z:List bk}{X:List D}{h:List bW}{b8:List fC}{P:List aC}{p:List _}{b6:List _->Prop}{a7 b e0 e1 f f8 l t:Nat}{e2:Nat×Nat}{d4:Nat->Prop}{F:Nat->mZ}{A:Nat->aC->Prop}{C e6:Option Nat}{H n:Option bC}{J a:ag}{e3:bw->Bool}{d2 s:aq}{e4:bC}{R:bB}{Q:bI}{a0:eX}{g:bW}{N:bW->Nat->aC->Prop}{a8 w:mg}{f1 u:aC}{d6:aC->Prop}{d8:d3->aq}
section
theorem WY:fW Tryz.prog 182 171 1 16:=.B underlying182 (z:=.nilIface) ah rfl aA
structure Lay where
 rules:List bk
 gL:Bool
def oM(h:ai)(c:List aq)(x:Lay):Prop:=∃v,c= [v,.bool x.2]∧h.list 3 dg v x.1
abbrev eO:=Bool×Nat
abbrev oY(x:eO):Value:=wu x.1 x.2
def Ew(_:ai)(c:List aq)(p:eO×Lay):Prop:=c= [oY p.1]
def sA(f:List (ByteArray×eO))(x:eO)(cs:List bk):List (ByteArray×eO):=cs.foldl (λf c=>cK f c.1.n x) f
def mA(a:List (eO×Lay)):List (ByteArray×eO):=a.foldl (λf p=>sA f p.1 p.2.1) []
theorem TK(a:List<|eO×Lay)(p:eO×Lay):mA (a++ [p])=sA (mA a) p.1 p.2.1:=by simp[mA]
theorem Sx{x:eO}(a:z[b]?=some d9):sA p x (z.take<|b+1)=cK (sA p x<|z.take b) d9.1.n x:=by
 unfold sA;rw[eA,a,sj,iZ];rfl
theorem aM.Y{N e sz:Nat}{R:ai->List aq->D->Prop}{v:aq}(h:aM a N e sz R d v X){b:Nat}(c:a.1[b]?=some Q)(c:∀cs,Q≠ .cells cs e): ¬v.ownBlock=some b:=by
 obtain⟨_,_,c,_,_,_,c⟩:=h;obtain⟨rfl,e⟩|⟨g,e,e,rfl,_,e,_⟩:=c.2;exact λh=>nomatch h;intro c;cases dw c;grind
theorem aM.dY(h:aM a b f l a9 M s X)(i:au a J)(j:ai.Ext a M d)(g:d.In J)(e:∀c x,a9 M c x->a9 d c x):aM J b f l a9 d s X:=
 (h.I i i2 i3).ab e g λc o i g=>by
  obtain e|e:=j.2 c o i;exact h.bN c o e g;have:=(h.B c g).2;omega
theorem fh.I{w w':ag}{p:List bW}{D:Nat->Prop}(h:fh w d b L f l p)(g:d.le M)(j:ae D w w')(m: ¬D f)(q:∀a e cl,b<=a->w.1[a]?=some (.map e cl)->¬D a):fh w' M b L f l p:=by
 obtain⟨x,rc,r,v,c⟩:=h;refine⟨x,rc,ai.list.B (h:=d) (k:=M) (λ_ _=>kT.B g) r g,v.B g,?_⟩;split;rename_i i;rw[if_pos i]at c;exact j.O c m;rename_i i;rw[if_neg i]at c;obtain⟨a,n,s,t⟩:=c;obtain⟨e,cl,o,u⟩:=t;exact⟨a,n,j.O s m,aF.B ⟨e,cl,o,u⟩ j<|q _ _ _ n o⟩
theorem fh.U{c:List bW}(h:fh a d b L l t c)(g:f<=b):fh a d f L l t c:=by
 obtain⟨i,rc,c,e,j⟩:=h;refine⟨i,rc,c,e.O g,?_⟩;split;grind;grind
theorem fh.T{c:List bW}(h:fh a d f L b l c):∃cs t,a.1[b]?=some (.cells cs t)∧300<t:=by
 obtain⟨c,rc,c,_,c⟩:=h;grind
theorem Vs{w:ag}(F:d.In w){i:List Lay}(i1:d.list 2 oM (.slice n f b) i)(n9:i.length<=1048576)(k1:∀L∈i,L.1.length<=1048576∧∀b∈L.1,vL b∧aL b.1.n)(z):
  aH 77 #[.slice n f b,some z] w λa7 I=>∃H G c9 g3,∃(c:List<|eO×Lay)(K:ai),a7=.returned (.pointer<|some ⟨H,0,none⟩)∧au w I∧(w<=H∧H<w+2∧w.1.size<=G∧G<w+2)∧K.In I∧ai.Ext w d K∧K H=none∧
   I.1[H]?=some (.cells #[.slice c9 i g3,some G] 185)∧aF I aL cr oY G (mA c)∧K.list 1 Ew (.slice c9 i g3) c∧c.map js=i∧∃dR,dR.le K∧ai.Ext (w+2) d dR∧dR H=none∧ey (w+2) dR∧(∀r o,c9=some ⟨r,o,none⟩->dR r=none∧w<=r∧∃a6,I.1[r]?=some (.cells a6 171))∧∀p∈c,p.1.1=p.2.2∧w+2<=p.1.2∧fh I dR (w+2) p.1.1 p.1.2 z (p.2.1.map bP):=by
 obtain⟨rfl,j0⟩:=i1.O F;obtain⟨d3,b8,b5,-,e0,-⟩:=nc w (.map #[] 0)<|.cells #[.slice none 0 0,some w.1.size] 185
 have e8:aF d3 aL cr oY w.1.size<|mA []:=aw b8<|(aF.I (w:=w)).B ae.al id
 have f6:aM d3 (w.1.size+2) 171 1 Ew d (.slice none 0 0) ([]:List<|eO×Lay):=.m<|F.B b5 i3;have n8:= @iW Tryz.prog;go_enter func77,ntmps77;go_wp2_with (rw[<-b8]);clear b8
 go_loopw [8,16] (λ_ t wr=>∃(k:Nat)(a4:aq)(K:ai)(c:List<|eO×Lay),k<=i.length∧t=.int .i64 k∧au w wr∧wr.1[w.1.size+1]?=some (.cells #[a4,some w.1.size] 185)∧aF wr aL cr oY w.1.size (mA c)∧ai.Ext (w.1.size+2) d K∧aM wr (w.1.size+2) 171 1 Ew K a4 c∧c.map js=i.take k∧ey (w.1.size+2) K∧∀p∈c,p.1.1=p.2.2∧w.1.size+2<=p.1.2∧fh wr K (w.1.size+2) p.1.1 p.1.2 z (p.2.1.map bP)) (λ_ t _=>i.length-(intOf t).toNat)
 case atStart=>exact⟨0,_,d,[],aa,rfl,b5,e0,e8,ai.Ext.I _ _,f6,rfl,.B F aa,af⟩
 case round=>
  clear f6 e0 e8 b5;obtain⟨k,a4,K,c,j4,rfl,b4,M,a9,v,l,D,f1,c3⟩:=hrel;have o2:=aP M;have e6:K (w.1.size+1)=none:=by
   cases P:K (w.1.size+1)with
   |none=>rfl
   |some o=>
    obtain e|e:=v.2 _ o P
    ·have:=F.O e;omega
    omega
  have n0:K w.1.size=none:=by
   cases P:K w.1.size with
   |none=>rfl
   |some o=>
    obtain e|e:=v.2 _ o P
    ·have:=F.O e;omega
    omega
  by_cases c4:k<i.length
  ·obtain⟨L,X⟩:∃y,i[k]?=some y:=⟨_,cy c4⟩;obtain⟨r,o,cc,rfl,ax,Y,O⟩:=j0 k L X;obtain⟨k0,g0⟩:=k1 L<|cA X;obtain⟨o7,rfl,b3⟩:=Y;obtain⟨S,rc,rfl⟩:=b3.I;obtain⟨d6,d7⟩:=b4.cB O id;have Q:c.length<=1048576:=by have:=congrArg I9 D;rw[di,ix]at this;omega
   have h2:ay<|c.map js++ [L]=i.take (k+1):=by show _=_;rw[eA,X,D];rfl
   clear O ax X D;have e7:=l.V.B ((ae.T bE wr).I<|.cells #[.slice S L.1.length rc,L.2] 245) i3;have c2:=TV e7 (ai.list.B (h:=d) (k:=K) (λ_ _=>dg.I v.1) b3 v.1) k0 (λb b9=>(g0 b b9).1) L.2 z;obtain⟨ty,g1⟩:=gB (if L.2=true then 320 else 323);have d2:ay (∀j,wu L.2 j=.iface ty (.pointer<|some ⟨j,0,none⟩)):=λj=>by unfold wu;grind
   unfold wu at c2;rw[g1]at c2;clear g1;have e1:=((ae.T bE wr).I<|.cells #[.slice S L.1.length rc,L.2] 245).O M id;have f7:=l.I ((ae.T bE wr).I<|.cells #[.slice S L.1.length rc,L.2] 245) i2 i3;have o0: ¬w.1.size+1=wr.1.size:=aa
   go_wp2_with (first|(go_at_call 136;refine c2.mono ?_;rintro a7 w4 ⟨j,rfl,u,j9,A,j6,R,n7,f5,i6⟩;have U:=u.O e1 id;have e4:=u.O (cz wr _) id;have k5:=u.4;have C:=f7.dY u R j6 λ_ _ d=>d;obtain⟨d4,a1,h5,h6⟩:=bJ U;have i9:=aP U)|(at_builtin;refine kI WY rfl (.tmp 27) (.tmp 29) rfl C rfl ((L.2,j),L) #[.iface ty<|.pointer<|some ⟨j,0,none⟩] (by show _= [wu _ _];rw[d2.out]) rfl (by simp[eP]) rfl rfl aa aa aa ?_;intro d8 d5 d1 aK E _;have c6:(∀a,a<w.1.size+2∨wr.1.size<=a->¬a4.ownBlock=some a):=(λa g f4=>by have e:=(C.B a f4).1;have q:=(l.B a f4).2;omega);have V:=E.O U<|c6 _ aa;have a8:=E.O e4<|c6 _ aa;obtain⟨l2,l3,l4,l5⟩:=bJ V;obtain⟨l6,l7,-,-⟩:=bJ a8;have k3:=aP V;have k6:=aP a8));obtain⟨T,Z⟩:=aT<|d1.setCell ⟨w.1.size+1,0,none⟩<|.slice (some ⟨d8,0,none⟩) (c.length+1) d5;rw[<-Z];have N:ae (·=w.1.size+1) d1 T:=aw Z ((ae.T (·=w.1.size+1) d1).U (p:=⟨w.1.size+1,0,none⟩) (.inr rfl) _)
   have e2:T.1[w.1.size+1]?=some (.cells #[.slice (some ⟨d8,0,none⟩) (c.length+1) d5,some w.1.size] 185):=aw Z<|fQ V _
   clear Z;have br:=(((a9.B ((ae.T bE wr).I<|.cells #[.slice S L.1.length rc,L.2] 245) id).B u id).B E<|c6 _ aa).B N aa;have h9:∀a,a<w.1.size+2->w.1.size<=a->A a=none:=λa g n4=>by
    cases P:A a with
    |none=>rfl
    |some o=>
     obtain e|e:=R.2 _ o P
     grind
     grind
   have f8:=aK.T N (λa g=>aI<|(aK.B a g).1) (λa o g j2=>by grind);have f3:=(((b4.I _).B u).V E λa g=>.inl<|aI<|(C.B a g).1).V N λa (g:a=w.1.size+1)=>.inl aa;have c7:∀gL a2 d0,fh w4 A (w.1.size+2) gL a2 z d0->w.1.size+2<=a2->fh T A (w.1.size+2) gL a2 z d0:=λgL a2 d0 d n6=>by
    obtain⟨cs,o6,b9,o3⟩:=d.T;exact(d.I (ai.V _) E (C.Y b9 (λm1 a7=>by grind)) λG h4 cl _ f9=>C.Y f9 af).I (ai.V _) N aa aa
   have j8:∀p∈c++ [((L.2,j),L)],p.1.1=p.2.2∧w.1.size+2<=p.1.2∧fh T A (w.1.size+2) p.1.1 p.1.2 z (p.2.1.map bP):=by
    intro p s;obtain s|s:=gX.1 s
    ·obtain⟨e,q,J⟩:=c3 p s;exact⟨e,q,c7 _ _ _ (J.I R.1 (ae.al.B u) id af) q⟩
    ·cases ir.1 s;have q:w+2<=j:=aJ
     exact⟨rfl,q,c7 _ _ _ (f5.U bQ) q⟩
   have i7:=f1.T R i6 bQ;obtain⟨k8,k9,g2,j1⟩:=b3.U F;obtain⟨rfl,rfl⟩:S=k8∧rc=k9:=aV g2
   clear g2 c3 l f7 C aK a9 M e1 U V e4 a8 f5 u E N d4 a1 h5 h6 l2 l3 l4 l5 l6 l7 e7 c2 j9 k5 c7 d6 d7;have f0:=br;have n2:=aP e2;clear br k6 k3 i9
   go_loopw [36] (λt wr=>∃m:Nat,m<=L.1.length∧t=.int .i64 m∧ae (·=w.1.size) T wr∧aF wr aL cr oY w.1.size (sA (mA c) (L.2,j)<|L.1.take m)) (λt _=>L.1.length-(intOf t).toNat)
   case atStart=>exact⟨0,aa,rfl,.T _ _,f0⟩
   case round=>
    clear f0;obtain⟨m,n5,rfl,B,b2⟩:=hrel;have W:=B.O e2 aa;obtain⟨d4,a1,-,-⟩:=bJ W;have n3:=aP W;by_cases c4:m<L.1.length
    ·obtain⟨y,a0⟩:∃y,L.1[m]?=some y:=⟨_,cy c4⟩;obtain⟨h7,o5,cc,rfl,ax,Y,O⟩:=j1 m y a0;have k4:=(g0 y<|cA a0).2;obtain⟨g8,h0,g9,h1,rfl⟩:=Y.B;have b7:=f3.V B λa (g:a=w.1.size)=>.inl aa;obtain⟨d6,d7,m3⟩:=b7.ab O id;have h3:ay<|sA (mA c) (L.2,j) (L.1.take<|m+1)=cK (sA (mA c) (L.2,j)<|L.1.take m) y.1.n (L.2,j):=Sx a0;clear a0 O ax Y;obtain⟨g7,c8,b6,-⟩:=df wr<|.cells #[.string y.1.n,.slice g8 y.1.2.length h0,.slice g9 y.2.length h1] 236
     have f2:g7.1[wr.1.size]?=some (.cells #[.string y.1.n,.slice g8 y.1.2.length h0,.slice g9 y.2.length h1] 236):=aw c8<|cz _ _
     have Q:=aP f2;obtain⟨p0,p1,p2,-⟩:=bq f2;have e3:=b6.O W id;obtain⟨b0,b1,-,-⟩:=bJ e3;have m9:=aP e3;have i5:=b2.B b6 id;go_wp2_with (rw[<-c8]);clear c8;refine dG (λt=>t==8) ah ah ?_;intro l9 m7 n1 m5 m6 m8 m4;iterate 8 (refine gg ah bf bf λK e5=>?_;go_big_quiet_op;refine e5 _ ?_;clear e5 K)
     refine a_ λl8 i8=>?_;go_wp2_with (at_mapUpdate;refine hZ bZ underlying183 rfl (.tmp 43) (.tmp 46) (.tmp 47) rfl rfl (i5.B (ae.T bE g7).m id) rfl k4 (L.2,j) (d2.out j).symm ?_;intro o8 k2 i4);refine i8 _ _ ah (cS ah) ?_;refine cR ?_;go_wp2;go_roundw
     case rel=>exact⟨m+1,aa,ba,(B.B<|b6.Z.B (ae.T _ _).m).B k2,aw h3.out i4⟩
     case measure=>simp[intOf];omega
    ·have c1:L.1.take m=L.1:=fo aa;rw[c1]at b2;have b7:=f3.V B λa (g:a=w.1.size)=>.inl aa;go_wp2;go_roundw
     case rel=>
      refine⟨k+1,_,A,c++ [((L.2,j),L)],aa,ba,b7,W,aw TK b2,(v.B R bQ),?_,aw iL h2.out,i7,λp s=>?_⟩
      ·exact f8.T B (λa g=>aI<|(f8.B a g).1) (λa o g j2=>by rw[h9 a aa aa]at g;cases g)
      ·obtain⟨e,q,J⟩:=j8 p s;exact⟨e,q,J.I (ai.V _) B aa λG h4 cl f9 _=>aa⟩
     case measure=>simp[intOf];omega
  ·have c1:i.take k=i:=fo aa;rw[c1]at D;have Q:c.length=i.length:=by rw[<-D,di]
   obtain⟨l0,l1,rfl⟩:=l.O;obtain⟨a5,k7,g4,g5,g6⟩:=l.U λo4 j4 b o9 d=>d;have i0:a5 (w.1.size+1)=none:=by
    cases j7:a5 (w.1.size+1)with
    |none=>rfl
    |some o=>
     obtain e|e:=g5 _ o j7
     ·rw[e6]at e;cases e
     ·have:=(l.B _ e).1;omega
   rw[Q]at M g6;replace Q:ay _:=Q;go_wp2;go_ret;refine⟨_,_,l0,l1,c,a5,rfl,b4,⟨aa,aa,aa,aa⟩,k7,⟨v.1.B g4,λa a3 g=>(g5 a a3 g).elim (λx=>(v.2 a a3 x).imp id λd9=>aa) λx=>.inr<|aI<|(l.B a x).1⟩,i0,M,a9,g6,D,K,g4,v,e6,f1,λr o j3=>?_,λp s=>?_⟩
   ·subst j3;have o1:=l.B r rfl;refine⟨?_,aa,?_⟩
    ·cases j5:K r with
     |none=>rfl
     |some a3=>exact absurd rfl<|l.bN r a3 j5
    ·obtain⟨_,_,m2,_,_,_,h8⟩:=l;obtain⟨x,_⟩|⟨h7,m0,a6,x,_,d9,_⟩:=h8.2
     ·cases x
     ·cases x;exact⟨a6,d9⟩
   ·obtain⟨e,q,J⟩:=c3 p s;exact⟨e,q,J⟩
theorem BF:fW Tryz.prog 93 156 5 48:=.B underlying93 (z:=.agg #[iJ,.int .u64 0,.int .u64 0,.int .u64 0,false]) ah rfl aA
abbrev aW:=ByteArray->List aC
def oc(s:aW×List bV)(c:bk):aW×List bV:=
 if c.2.length=0 then(lV s.1 c.1.n (gA (s.1 c.1.n) (fI (ox c.1))),if bL (s.1 c.1.n) (fI (ox c.1))then s.2 else s.2++ [⟨c.1.n,fI (ox c.1),false⟩])else s
def g_(F:aW)(cs:List bk):aW×List bV:=cs.foldl oc (F,[])
variable{e o y:aW}
theorem YH(a:z[b]?=some d9):g_ e (z.take<|b+1)=oc (g_ e<|z.take b) d9:=by
 unfold g_;rw[eA,a,sj,iZ];rfl
theorem YG(F:aW)(cs:List bk):(g_ F cs).2<=cs.length:=by
 have h:∀(cs:List _) s,(cs.foldl oc s).2<=s.2+cs.length:=by
  intro cs;induction cs with
  |nil=>grind
  |cons c cs a=>
   intro s;rw[IB,uS];apply dI (a _);have:(oc s c).2.length<=s.2+1:=by
    unfold oc;split;dsimp only;split;omega;simp;omega
   omega
 have:=h cs (F,[]);simpa[g_]using this
theorem sizeOf156(w:ag):(sizeOf 156).run Tryz.prog w=.ok 5 w:=ah
theorem He:((Tryz.prog.info? 156).bind (·.8))=some (.agg #[iJ,.int .u64 0,.int .u64 0,.int .u64 0,false]):=ah
theorem Vu{h:ai}{w:ag}(e7:h.In w)(ax:w.1[l]?=some (.cells #[s,some f,d2] 102))(U:aO w f p e)(h4:∀a∈p,h a.2=none)
  (d9:h.list 3 dg (.slice n t b) z)(k8:z.length<=1048576)(h7:∀b∈z,b.1.2.length<=3∧aL b.1.n∧(aB p b.1.n).isSome=true):
  aH 80 #[l,.slice n t b] w λi M=>∃L,i=.returned L∧ae (λc=>∃a∈p,a.2=c) w M∧aO M f p (g_ e z).1∧aM M w 156 5 dC h L (g_ e z).2∧gN M L (Flat ·=true):=by
 obtain⟨rfl,g4⟩:=d9.O e7;have e2:aM w w.1.size 156 5 dC h (.slice none 0 0) (g_ e<|z.take 0).2:=.m e7;have h2:∀a∈p,∃b5 cl,w.1[a.2]?=some (.map b5 cl):=λa j=>by
  obtain⟨b5,cl,b6,_⟩:=U.2 a j;grind
 have e0:∀c o,h c=some o->¬ ∃a∈p,a.2=c:=by
  rintro c o d ⟨a,j,rfl⟩;rw[h4 a j]at d;cases d
 have g8:∀m o,n=some ⟨m,o,none⟩->¬ ∃a∈p,a.2=m:=by
  rintro m o rfl;obtain⟨i1,h3⟩:=d9.T;exact e0 m i1 h3
 have g0: ¬ ∃a∈p,a.2=l:=by
  rintro⟨a,j,rfl⟩;obtain⟨b5,cl,b6⟩:=h2 a j;rw[ax]at b6;cases b6
 have l1: ¬ ∃a∈p,a.2=f:=λ⟨a,j,i⟩=>U.4 a j i;have e1:∀c,(∃a∈p,a.2=c)->c<w.1.size:=by
  rintro c ⟨a,j,rfl⟩;exact(U.2 a j).O
 have k5:=aP ax;go_enter func80,ntmps80;go_wp2
 go_loopw [5,11] (λL q wr=>∃k:Nat,k<=z.length∧q=.int .i64 k∧ae (λc=>∃a∈p,a.2=c) w wr∧aO wr f p (g_ e<|z.take k).1∧aM wr w.1.size 156 5 dC h L (g_ e<|z.take k).2∧gN wr L (Flat ·=true)) (λ_ q _=>z.length-(intOf q).toNat)
 case atStart=>exact⟨0,aa,rfl,.T _ _,U,e2,.O⟩
 case round=>
  clear e2;obtain⟨k,k7,rfl,V,E,F,b8⟩:=hrel;by_cases h0:k<z.length
  ·obtain⟨y,b3⟩:∃y,z[k]?=some y:=⟨_,cy h0⟩;obtain⟨m,o,cc,rfl,g6,d1,d8⟩:=g4 k y b3;obtain⟨j1,j4,f0⟩:=h7 y<|cA b3;obtain⟨K,aK⟩:=sg.1 f0;have B:ay<|g_ e (z.take<|k+1)=oc (g_ e<|z.take k) y:=YH b3;have c3:=YG e<|z.take k;rw[ix]at c3;have g1:=d1;obtain⟨j6,i6,⟨i7,rfl,i0⟩,d7,k4⟩:=g1;obtain⟨x,A,N,O,rfl⟩:=d1.B;obtain⟨rfl,rfl⟩: .slice x y.1.2.length A=i7∧ .slice N y.2.length O=i6:=aV d7
   have g7:=g8 m o rfl;obtain⟨j7,j8,j9⟩:=V.ab d8 g7;clear b3 d8 g6 d7 f0;generalize g_ e (z.take k)=i5 at E F c3 B;obtain⟨G,a6⟩:=i5;dsimp only at E F c3;obtain⟨c8,a2,W,-⟩:=df wr<|.cells #[.string y.1.n,.slice x y.1.2.length A,.slice N y.2.length O] 236
   have b0:c8.1[wr.1.size]?=some (.cells #[.string y.1.n,.slice x y.1.2.length A,.slice N y.2.length O] 236):=aw a2<|cz _ _
   have h5:=aP b0;obtain⟨p0,p1,p2,-⟩:=bq b0;have e3:=F.I W i2 i3;have g3:=E.O W id i2;have a3:=vU y.1.n x N y.1.2.length A y.2.length O c8;by_cases J:y.2.length=0
   ·have a8:ay<|y.2.length=0:=J;have Z:decide (y.2.length=0)=true:=aV J
    rw[Z]at a3;clear Z J;have a4:=λ(M:ag)(a1:au c8 M)=>TZ (e3.V.B a1 i3) (⟨_,rfl,i0⟩:jR h [.string y.1.n,.slice x y.1.2.length A] y.1) j1;have e6:=C4<|ox y.1;obtain⟨e8,a1⟩:=aT<|fI<|ox y.1;have f1:ay<|e8=fI (ox y.1):=a1;rw[<-a1]at a4 e6;clear a1;obtain⟨r,u,v⟩:=e8;dsimp only[bh]at a4;go_wp2_with (first|(rw[<-a2];clear a2)|(go_at_call 133;refine a3.mono ?_;rintro i w2 ⟨rfl,H⟩;have c1:=H.O b0 id;obtain⟨p0,p1,p2,-⟩:=bq c1;have h6:=aP c1))
    refine wp_mono (Q:=λi f3 a7=>i=.normal∧∃a9,au w2 a7∧w2.1.size<=a9∧a7.1[a9]?=some (.cells #[.string y.1.n,.int .u64 r,.int .u64 u,.int .u64 v,false] 156)∧f3={tmps:= #[.pointer<|some ⟨l,0,none⟩,.slice (some ⟨m,o,none⟩) z.length b,aj,aj,.slice none 0 0,u5,aj,.pointer<|some ⟨wr.1.size,0,none⟩,.pointer<|some ⟨a9,0,none⟩,.slice (some ⟨m,o,none⟩) z.length b,.int .i64 z.length,.int .i64 k,.bool true,.pointer<|some ⟨m,o+k*3,none⟩,
     .agg #[.string y.1.n,.slice x y.1.2.length A,.slice N y.2.length O],.agg #[.string y.1.n,.slice x y.1.2.length A,.slice N y.2.length O],.bool true,.bool false,.pointer<|some ⟨wr.1.size,0,none⟩,.pointer<|some ⟨wr.1.size,0,none⟩,.string y.1.n,.pointer<|some ⟨wr.1.size,0,none⟩,.agg #[.string y.1.n,.slice x y.1.2.length A],.agg #[.int .u64 r,.int .u64 u,.int .u64 v],.agg #[.string y.1.n,.int .u64 r,.int .u64 u,.int .u64 v,false],u25,u26,u27,u28,u29,u30,u31,u32,u33,u34,u35,u36,u37,u38,aj],defers:= []}) ?_ ?_
    ·have b9:au w2 _:=(ae.T _ _).m;apply FB (λq=>q==5||q==7||q==8) [0,1,2,3,4] 5 [6,7,8] 7 [5,6,8] ah ah;intro f2 f5 g2 f4 f6 I;iterate 5 (refine ui uC ah bf bf λb4 T=>?_;go_big_quiet_op;refine T _ ?_;clear T b4)
     refine jU ⟨?_,?_⟩
     ·refine eU λC g=>?_;go_wp2_with (go_at_call 142;refine(a4 _<|H.B b9).mono ?_;rintro i w4 ⟨rfl,b2⟩);have D:=b9.B b2;apply g _ _ ah (λ_=>I _ D);refine yj ?_;iterate 2
       refine eU λC g=>?_;go_wp2;refine g _ _ ah (λ_=>I _<|D.I _) ?_;clear g C
      exact jU ⟨trivial,_,D.I _,D.4,cz _ _,rfl⟩
     ·refine eU λC g=>?_;go_wp2;have b7:au _<|w2.drew.alloc<|.cells #[.string ⟨#[]⟩,.int .u64 0,.int .u64 0,.int .u64 0,false] 156:=b9.I _;refine g _ _ ah (λ_=>I _ b7) ?_;refine eU λC g=>?_;go_wp2_with (go_at_call 142;refine(a4 _<|H.B b7).mono ?_;rintro i w4 ⟨rfl,b2⟩);have D:au _ _:=b7.B b2;apply g _ _ ah (λ_=>I _ D);refine yj ?_;have f7:=b2.O (cz _ _) id;refine eU λC g=>?_;go_wp2_with (refine iV rfl (.tmp 8) (.tmp 24) rfl rfl f7 rfl sizeOf156 rfl (by simp[eP]) ?_;intro a7 h8 Y);have R:au _ _:=D.V h8 aa;apply g _ _ ah (λ_=>I _ R);exact jU ⟨trivial,_,R,aa,Y,rfl⟩
    ·rintro i a5 a7 ⟨rfl,a9,R,k2,Y,rfl⟩;simp only;have X:au _ _:=(W.B H).B R;have d5:=V.ac X;have d0:=d5.O ax g0;have d3:=E.O X id i2;have c4:=F.I X i2 i3;have f8:=b8.B X i2;let⟨i8,i9,j0,j2,j3⟩:=yM Y;obtain⟨-,l7,-,-⟩:=bq d0;have k3:=aP Y;have k6:=aP d0;have k9:=(d3.2 _<|ij aK).O;have c6:∃a∈p,a.2=K:=⟨_,ij aK,rfl⟩;have l0:=e1 _ c6;have l3:=X.4;have l5:=V.4;have l2:wr.1.size<=w2.1.size:=aa;have c7:=E2 (d3.O (ae.T bE _).m id i2) j4 aK _ _ _ e6;have P:ay<|oc (G,a6) y=(lV G y.1.n<|gA (G y.1.n) (r,u,v),if bL (G y.1.n) (r,u,v)then a6 else a6++ [⟨y.1.n,(r,u,v),false⟩]):=by
      show _=_;unfold oc;rw[if_pos a8.out,f1.out]
     clear c1 b0 h5 h6 p0 p1 p2 H R W e3 g3 a4 a3;obtain⟨i4,e4⟩:=gB<|bL (G y.1.n) (r,u,v);rw[e4]at c7 P;clear e4;go_wp2;refine dG (λq=>q==8) ah ah ?_;intro f2 f5 g2 f4 k1 f6 I;iterate 8 (refine gg ah bf bf λb4 T=>?_;go_big_quiet_op;refine T _ ?_;clear T b4)
     refine a_ λC g=>?_;go_wp2_with (go_at_call 87;refine c7.mono ?_;clear c7;rintro i br ⟨rfl,h9,d4⟩);refine g _ _ ah (cS ah) ?_;clear g C;refine cR ?_;have S:ae (·=K) a7 br:=ae.ft h9;have a0:=c4.T S (λc d (c2:c=K)=>aI<|(c4.B c d).1) λc o d (c2:c=K)=>e0 c o d<|c2▸c6;have c9:=f8.B S λc d (c2:c=K)=>aI<|(c4.B c d).1;have d6:ae (λc=>∃a∈p,a.2=c) w br:=d5.V S λc (d:c=K)=>.inr<|d▸c6;cases i4 with
     |true=>
      go_wp2;go_roundw
      case rel=>exact⟨k+1,aa,ba,d6,by rw[B.out,P.out];exact d4,by rw[B.out,P.out];exact a0,c9⟩
      case measure=>simp[intOf];omega
     |false=>
      have g5:=S.O Y aa;let⟨i8,i9,j0,j2,j3⟩:=yM g5;have l4:=S.4;go_wp2_with (at_builtin;refine uH BF rfl (.tmp 34) (.tmp 36) rfl a0 rfl ⟨y.1.n,(r,u,v),false⟩ #[.string y.1.n,.int .u64 r,.int .u64 u,.int .u64 v,false] rfl rfl (by simp[eP]) rfl rfl aa aa aa He (by simp[tT,Flat]) (by simp[Flat]) c9 ?_;intro k0 j5 l6 h1 e5 _ f9);go_roundw
      case rel=>exact⟨k+1,aa,ba,d6.V e5 λc d=>.inl (a0.B c d).1,by rw[B.out,P.out];exact d4.O e5 (λd=>dX ((a0.B _ d).1) U.1.O) λa j d=>dX ((a0.B _ d).1)<|e1 _ ⟨a,j,rfl⟩,by rw[B.out,P.out];exact h1,f9⟩
      case measure=>simp[intOf];omega
   ·have a8:ay<|oc (G,a6) y=(G,a6):=if_neg J;have Z:decide (y.2.length=0)=false:=aV J
    rw[Z]at a3;clear Z J;go_wp2_with (first|(rw[<-a2];clear a2)|(go_at_call 133;refine a3.mono ?_;rintro i w2 ⟨rfl,H⟩));have b1:=W.B H;go_roundw
    case rel=>exact⟨k+1,aa,ba,V.ac b1,by rw[B.out,a8.out];exact E.O b1 id i2,by rw[B.out,a8.out];exact F.I b1 i2 i3,b8.B b1 i2⟩
    case measure=>simp[intOf];omega
  ·have g9:z.take k=z:=fo aa;rw[g9]at F E;go_wp2;go_ret;exact⟨_,rfl,V,E,F,b8⟩
section
variable{P:bj}{F:bw->Bool}{D:Nat->Bool}{f:Ren}{v:ag}
def eR(F:bw->Bool)(D:Nat->Bool)(x:aq):Prop:=∀f a,av F f x a->av F (cut D f) x a
theorem Fh{a b:Nat}(h:D a=true)(c:f a=some b):cut D f a=some b:=by unfold cut;grind
theorem eR.B{x:aq}(h:Flat x=true):eR F D x:=by
 intro f a a;cases a<;>first|(simp[Flat]at h;done)|exact .bool _|exact .int _ _|exact .string _|exact .nw|exact .nA _ _|exact .Ci|exact .nilFunc|exact .nilIface
theorem eR.I{n c:Nat}(h:D e4.1=true):eR F D<|.slice (some e4) n c:=by
 intro f a a;cases a with
 |sl _ _ a=>exact .sl _ _<|Fh h a
theorem eR.T(h:D b=true):eR F D<|.map<|some b:=by
 intro f a h';cases h' with
 |map a=>exact .map<|Fh h a
theorem eR.V(h:D e4.1=true):eR F D<|.pointer<|some e4:=by
 intro f a a;cases a with
 |ptr a=>exact .ptr<|Fh h a
theorem eR.O:∀ {l a:List aq},(∀x∈l,eR F D x)->bM F f l a->bM F (cut D f) l a
 |_,_,_,.nil=>.nil
 |_,_,h,.cons a t=>.cons (h _ (jM ..) _ _ a)<|eR.O (λx a=>h x<|rz _ a) t
theorem eR.Y(h:∀x∈S.1,eR F D x):eR F D<|.agg S:=by
 intro f a a;cases a with
 |agg a=>exact .agg<|eR.O h a
def oO(P:bj)(F:bw->Bool)(D:Nat->Bool)(o:bI):Prop:=∀C f a,ek P F C f o a->ek P F C (cut D f) o a
theorem oO.B{c:Array aq}{fr:Nat×Nat}(h:∀x∈c.1,eR F D x):oO P F D<|.cells c R fr:=by
 intro C f a a;cases a with
 |cells _ _ a=>exact .cells _ _<|eR.O h a
theorem eR.U:∀ {l a:List fZ},(∀x∈l,eR F D x.1∧eR F D x.2)->cG F f l a->cG F (cut D f) l a
 |_,_,_,.nil=>.nil
 |_,_,h,.cons b c a t=>.cons ((h _<|jM ..).1 _ _ b) ((h _<|jM ..).2 _ _ c) a<|eR.U (λx a=>h x<|rz _ a) t
theorem oO.T(h:∀x∈b4.1,eR F D x.1∧eR F D x.2):oO P F D<|.map b4 b:=by
 intro C f a h';cases h' with
 |map _ a=>exact .map _<|eR.U h a
theorem oO.I{a b:Type}{ok:a->Prop}{key:a->aq}{enc:b->aq}{a:Array fZ}{cl:Nat}{l:List _}(H:Holds ok key enc a cl l)(h:∀p∈l,eR F D (key p.1)∧eR F D (enc p.2)):oO P F D<|.map a cl:=by
 refine .T λx a=>?_;have:(x.1,x.2)∈l.map λp=>(key p.1,enc p.2):=by
  rw[<-H.1];exact ei.2 ⟨x,a,rfl⟩
 grind
theorem oO.U{c d:Type}{ok:c->Prop}{e:c->aq}{c:d->aq}{l:List _}(H:aF a ok e c b l)(d:a.1[b]?=some Q)(h:∀p∈l,eR F D (e p.1)∧eR F D (c p.2)):oO P F D Q:=by
 obtain⟨c,cl,c,e⟩:=H;rw[c]at d;cases d;exact .I e h
theorem oO.O{N:Nat}{b:Nat}(H:ey N d)(f:∀a,N<=a->(d a).isSome=true->D a=true)(c:N<=b)(e:d b=some Q):oO P F D Q:=by
 obtain⟨g,g,g,rfl,h⟩:=H b Q c e;refine .B λx g=>?_;obtain c|⟨a,n,cc,rfl,a,e⟩:=h x g;exact .B c;exact .I<|f _ a e
end
def il(r:bW)(i:Nat):List cO:=(r.2.take i).map (gH false)++(r.2.drop (i+1)).map (gH true)
theorem LM(a3:d.In a)(b7:d.list 2 dV (.slice n g.1.2 f) g.1.2)(S:d.list 3 fM (.slice H g.2 b) g.2)(j2:g.2<=b)(ok:fP g)(i:Nat)(a4:g.2[i]?=some a0)
  (Q:kr a a8 f2 f3 f4)(T:kr a w f5 f6 f7):
  aH 344 #[.agg #[g.1.n,.slice n g.1.2 f,.slice H g.2 b],.int .i64 i,.agg #[a8.1,a8.2,a8.3],.agg #[w.1,w.2,w.3]] a λF x=>∃M k,F=.returned (.pointer<|some ⟨M,0,none⟩)∧au a x∧ai.Ext a d k∧iu (jm a8 w) x a k M (gV g.1 a0.a<|il g i):=by
 have j6:=(iw.1 a4).1;have e8:=(S.O a3).2;obtain⟨u,o,cc,rfl,br,e7,X⟩:=e8 i a0 a4;obtain⟨l5,l6,rfl,b9⟩:=e7.I;have P:=(ae.T bE a).Y (X 0 aA) id;have a7:=(ae.T bE a).Y (X 1 aA) id;have e3:=(ae.T bE a).Y (X 2 aA) id;simp[<-tI]at P a7 e3;have L:=ok.5 a0<|cA a4;have j0:=ok.4;obtain⟨W,U,j,R,b5,-⟩:=xQ a (.cells #[g.1.n,.slice n g.1.2.length f,.slice (some ⟨u,o,none⟩) g.2.length b] 318) (.cells #[a8.1,a8.2,a8.3] 444)<|.cells #[w.1,w.2,w.3] 444
 have b6:W.1[a.1.size+2]?=some (.cells #[w.1,w.2,w.3] 444):=by
  rw[U];have:=eK (a.alloc<|.cells #[g.1.n,.slice n g.1.2.length f,.slice (some ⟨u,o,none⟩) g.2.length b] 318) (.cells #[a8.1,a8.2,a8.3] 444)<|.cells #[w.1,w.2,w.3] 444
  rwa [fV]at this
 obtain⟨h4,a1,a2,_,_,_⟩:=bq R;obtain⟨b0,b1,b2,_,_,_⟩:=bq b5;obtain⟨ax,c1,c2,_,_,_⟩:=bq b6;have i8:=aP R;have j3:=aP b5;have br:=aP b6;have d2:=λ(x:ag)(l:au W x)=>Bt (V:=jm _ w) (s:=false) (a3.B (j.B l) i3) (Q.B<|j.B l).1 (Q.B<|j.B l).2 (Q.B<|j.B l).3 (λg8=>rfl) (S.Y i aa) (dT ix) λr q=>ok.5 r<|qq q;have g7:=λ(x:ag)(l:au W x)(E d6 c3:Nat)(f0:d6=g.2.length-(i+1))(f8:d6=0∨E=o+(i+1)*3)=>Bt (V:=jm a8 _) (s:=true) (a3.B (j.B l) i3) (T.B<|j.B l).1 (T.B<|j.B l).2 (T.B<|j.B l).3 (λg8=>rfl) (S.Z _ c3 f0 f8) (dT uY) λr q=>ok.5 r<|tK q;have g1:=qX (s:=false) (ls:=g.2.take i) λr q=>ok.5 r<|qq q;have g2:=qX (s:=true) (ls:=g.2.drop<|i+1) λr q=>ok.5 r<|tK q;have O:ay<|il g i=(g.2.take i).map _++(g.2.drop<|i+1).map _:=rfl;have j7:((g.2.take i).map<|gH false).length<=i:=aJ
 have j9:((g.2.drop<|i+1).map<|gH true).length=g.2.length-(i+1):=af
 generalize(g.2.take i).map (gH false)=p1 at*;generalize(g.2.drop<|i+1).map (gH true)=p2 at*;generalize il g i=d7 at*;have c9:∀N∈d7,fw N:=λN c7=>by rw[O.out]at c7;exact(gX.1 c7).elim (g1 N)<|g2 N
 have c8:d7.length<=4:=by rw[O.out,kK];omega
 have k0:p2.length<=4:=aa
 have j8:p1.length<=4:=aa
 have j4:=xl a _ P;go_enter func344,ntmps344;go_wp2_with (rw[<-U]);clear U;apply dG (λi=>i==5||i==12||i==13||i==14) ah ah;intro h2 i0 i6 h6 h8 i4 a9;refine aD ?_;refine aD ?_;refine aD ?_;refine aD ?_;refine aD ?_
 refine a_ λy e=>?_;go_wp2_with (go_at_call 361;refine(d2 _ (ae.T _ W).m).mono ?_;clear d2;rintro F w2 ⟨k6,rfl,g3,C⟩);have G:=ae.ft g3;apply e _ _ ah (λ_=>a9 _ G.below);refine aD ?_;refine aD ?_;refine aD ?_;refine aD ?_;refine aD ?_;refine aD ?_
 obtain⟨E,f9,g0⟩:∃E,(if b=i+1 then some (⟨u,o,none⟩:bC)else some _)=some ⟨u,E,_⟩∧(g.2-(i+1)=0∨E=o+(i+1)*3):=by
  by_cases c6:b=i+1
  ·exact⟨o,fN<|if_pos c6,aa⟩
  ·exact⟨_,fN<|if_neg c6,.inr rfl⟩
 rw[f9];have d3:=g7 _ G _ _ (b-(i+1)) rfl g0;have k3:=G.4;have k2:=j.4;refine a_ λy e=>?_;go_wp2_with (go_at_call 361;refine d3.mono ?_;clear d3;rintro F w3 ⟨k7,rfl,D,Z⟩);have b3:=G.B D;apply e _ _ ah (λ_=>a9 _ b3.below);obtain⟨d5,a5,k5,d8,g9⟩:=Z.U λd1 A a6 e1=>cF.B A
 have Y:=(C.I D i2 i3).cW a5 (λc o z aK=>by
  obtain m|m:=d8 c o z
  ·exact C.bN c o m aK
  ·have p:=(Z.B c m).1;have I:=(C.B c aK).2
   omega) λd1 A a6 e1=>cF.B A
 have k1:=Y.B;have k4:=D.4;refine a_ λy e=>?_;refine Dd uf rfl (.tmp 15) (.tmp 22) rfl Y rfl (ai.list.B (h:=d5) (k:=d.or d5) (λ_ _=>cF.B<|ai.I (C.V.B D i3) a5) g9<|ai.I (C.V.B D i3) a5) rfl cF.O (by simp[maxLen];omega) aa bQ ?_;intro k8 w4 K g4 j1;rw[<-O.out]at K;go_wp2;apply e _ _ ah (cS ah);refine a_ λy e=>?_;go_wp2;apply e _ _ ah (cS ah);apply cR;have c4:=b3.V g4 λc z=>.inl (by have:=(Y.B c z).1;simp at this;omega);have J:=j.B c4;let⟨v,d9,h0,h1,e0⟩:=K.U λd1 A a6 e1=>cF.B A;obtain⟨k9,l0,rfl⟩:=K.O;have B:=(ai.O d _).B h0;have b4:=c4.O R id;have i9:=aP b4;obtain⟨l2,l3,l4,_,_,_⟩:=bq b4;have e4:=J.Y P id;have h5:=J.Y a7 id;have j5:=xl _ _ e4;have d4:=Bu d9 (head:=g.1) (first:=a0.a) (cv:=some ⟨u,o,none⟩) (aS:=g.2.length) (bc:=b) (ai.list.B (h:=d) (k:=v) (λ_ _ t=>t) b7 B) (ai.list.B (h:=d) (k:=v) (λ_ _ t=>t) b9 B) e0 ok.1 ok.2 L.1 L.2.1 c8 c9;have f1:∀c o,v c=some o->d c=some o∨a.1.size<=c:=λc o z=>by
  obtain m|m:=h1 c o z
  ·rcases ai.T m with p|p
   ·exact .inl p
   ·rcases d8 c o p with I|I
    ·exact .inl I
    ·have:=(Z.B c I).1;exact .inr aa
  ·have:=(K.B c m).1;simp at this;exact .inr aa
 go_wp2;refine dG (λi=>i==8||i==9) ah ah ?_;intro h3 i1 i7 h7 h9 i5 e5;iterate 8 (refine gg ah bf bf λe2 b8=>?_;go_big_quiet_op;refine b8 _ ?_;clear b8 e2)
 refine a_ λy e=>?_;go_wp2_with (go_at_call 362;refine (Bu (d9.B (ae.T bE w4).m i3) (head:=g.1) (first:=a0.a) (cv:=some ⟨u,o,none⟩) (aS:=g.2.length) (bc:=b) (ai.list.B (h:=d) (k:=v) (λ_ _ t=>t) b7 B) (ai.list.B (h:=d) (k:=v) (λ_ _ t=>t) b9 B) e0 ok.1 ok.2 L.1 L.2.1 c8 c9).mono ?_;rintro F l1 ⟨M,d4,rfl,g5,g6,e6⟩);have p:=ae.ft g5;refine e _ _ ah (λ_=>e5 _ p.below) ?_;refine a_ λy e=>?_;go_wp2;refine e _ _ ah (cS ah) ?_;refine cR ?_;go_wp2;go_ret;have d0:=J.4;exact⟨M,d4,rfl,J.B p,(⟨B,f1⟩:ai.Ext a.1.size d v).B g6 d0,e6.I d0⟩
abbrev bO:=List (ByteArray×Nat)
def aX(c:Nat)(a:bO)(b:Nat):Prop:=b=c∨∃p∈a,p.2=b
def bm(a:bO)(F:aW)(n:ByteArray)(t:aC):Prop:=(aB a n).isSome=true∧t∈F n
structure cJ(w:ag)(bs bs':bO)(F F':aW)(A:ByteArray->aC->Prop):Prop where
 pre:∃l,bs'=bs++l∧∀p∈l,w.1.size<=p.2∧∃t,A p.1 t
 ins:∀m u,bm bs' F' m u↔bm bs F m u∨A m u
theorem cJ.U(w:ag)(a:bO)(F:aW):cJ w a a F F λ_ _=>False:=⟨⟨[],af,λ_ h=>nomatch h⟩,λ_ _=>af⟩
variable{c i v:bO}
theorem cJ.T(h:cJ a c i e o W)(k:cJ J i v o y f0)(b:a<=J.1.size):cJ a c v e y λm u=>W m u∨f0 m u:=by
 obtain⟨l,rfl,b⟩:=h.1;obtain⟨b,rfl,d⟩:=k.1;refine⟨⟨l++b,af,λp b=>?_⟩,λm u=>?_⟩;grind;rw[k.2,h.2,or_assoc]
theorem cJ.B{A B:ByteArray->aC->Prop}(h:cJ a c i e o A)(b:∀m u,A m u↔B m u):cJ a c i e o B:=by
 obtain⟨l,d,f⟩:=h.1;exact⟨⟨l,d,λp d=>(f p d).imp id λ⟨t,h⟩=>⟨t,(b _ _).1 h⟩⟩,λm u=>by rw[h.2,b]⟩
theorem Zf[DecidableEq D](l a:List<|D×d3)(x:D):aB (l++a) x=(aB l x).or (aB a x):=by
 unfold aB;grind
theorem cJ.Z{F b:aW}(h:cJ a c i F b W)(b:(i.map bD).Nodup)(e:∀m u,W m u->(aB c m).isSome=true):i=c:=by
 obtain⟨l,rfl,d⟩:=h.1;cases l with
 |nil=>simp
 |cons p l=>
  obtain⟨_,t,f⟩:=d p<|jM ..;rw[iL,sf]at b;exact absurd rfl<|b.2.2 _ (qR.1<|e _ _ f) _ af
theorem cJ.I{w:ag}{F a:aW}{A:ByteArray->aC->Prop}(h:cJ w c i F a A)(d:aX f i b):aX f c b∨w<=b:=by
 obtain⟨l,rfl,a⟩:=h.1;obtain d|⟨p,a,rfl⟩:=d;exact .inl<|.inl d;obtain a|a:=gX.1 a;exact .inl<|.inr ⟨p,a,rfl⟩;grind
theorem aO.U(h:aO a b c e)(d:aX b c f):f<a:=by
 obtain rfl|⟨p,g,rfl⟩:=d;exact h.1.O;exact(h.2 p g).O
theorem aO.B{w w':ag}{D:Nat->Prop}(h:aO w b c e)(f:ae D w w')(d:∀a,aX b c a->¬D a):aO w' b c e:=
 h.O f (d _<|.inl rfl) λp a=>d _<|.inr ⟨p,a,rfl⟩
theorem KM[DecidableEq D]{x y:D}:y∈gA X x↔y∈X∨y=x:=by
 unfold gA;split;rename_i h;have:x∈X:=by simpa[bL]using h
 grind;simp
theorem Bx(r:aO a b c e)(t:aL q)(d f g)(v:bF (d,f,g)):
  aH 87 #[some b,q,.agg #[.int .u64 d,.int .u64 f,.int .u64 g]] a λk j=>∃i h,∃x:Bool,k=.returned x∧ae (aX b c) a j∧aO j b i h∧cJ a c i e h λm u=>m=q∧u=(d,f,g):=by
 cases h:aB c q with
 |some p=>
  refine(E2 r t h d f g v).mono ?_;rintro k j ⟨rfl,l,n⟩;refine⟨c,_,_,rfl,l.cW λo _ (s:o=p)=>.inr ⟨_,(ij h),aa⟩,n,af,λm u=>?_⟩;unfold bm;by_cases i:m=q;subst i;rw[wT,KM,h];simp;rw[wS _ i];grind
 |none=>
  refine(Vy r t h d f g v).mono ?_;rintro k j ⟨p,rfl,d,l,n⟩;refine⟨_,_,_,rfl,l.cW λo _ (s:o=b)=>.inl s,n,⟨_,rfl,λf d=>?_⟩,λm u=>?_⟩;grind;unfold bm;rw[Zf];by_cases i:m=q;subst i;rw[wT,h];simp[aB];rw[wS _ i];have:aB [(q,p)] m=none:=Ce λf d=>by grind
  grind
theorem xU(c2:aO a b c o)(k:aO a f i e)(S:∀d,aX f i d->¬aX b c d):
  aH 329 #[some b,some f] a λC b4=>∃s q,C=.returned (.tuple #[])∧ae (aX b c) a b4∧aO b4 b s q∧cJ a c s o q (bm i e):=by
 have f1:=k.1.O;have e2:=aF.U k.1;go_enter func329,ntmps329;go_wp2_with (at_range;refine lY underlying99 rfl (.tmp 7) rfl rfl k.1 ?_;intro w1 U d0 Z);go_frame
 go_loopg [4,5] i.length (λgk _ _ wr=>∃(came s:bO)(q:aW),came.length+gk=i.length∧ae (aX b c) a wr∧a.1.size<wr.1.size∧aO wr b s q∧cJ a c s o q (λm u=>(∃p∈came,p.1=m)∧u∈e m)∧fA wr aL cr eF f a.1.size i came)
 case atStart=>exact⟨[],c,o,af,U.Z,aa,c2.B U i2,(cJ.U a _ o).B af,Z⟩
 case round=>
  clear Z d0 U;obtain⟨came,h,r,e3,H,f7,v,E,F⟩:=hrel;have ax:=k.B H S;go_wp2_with (at_next;refine lX bZ rfl (.tmp 8) rfl rfl F aa ?_ ?_)
  ·intro a4;have aK:∀p∈i,p∈came:=aJ;have b1:=F.I;have b6:ay<|cJ a c h o r<|bm i e:=E.B λm u=>by
    unfold bm;rw[qR,ei];grind
   go_wp2;go_end0;exact⟨h,r,rfl,H,v,b6.out⟩
  ·intro n A w2 I br e7 J G;obtain⟨m,rfl⟩:=jX gk;have c6:=G.I.2.2 (n,A) af;have a6:∀d,aX b h d->¬d=a.1.size:=by
    rintro d g rfl;obtain⟨D,cl,L⟩:∃D cl,wr.1[a.1.size]?=some (.map D cl):=by
     obtain g|⟨p,a8,g⟩:=g
     ·obtain⟨D,cl,L,_⟩:=v.1;grind
     ·obtain⟨D,cl,L,_⟩:=v.2 p a8;grind
    obtain⟨_,_,_,_,_,_,Y,_⟩:=F;rw[L]at Y;cases Y
   have Q:=H.V J λd (g:d=a.1.size)=>.inl aa;have w:=v.B J λd g=>a6 d g;have N:=k.B Q S;have a9:=(N.2 _ I).O;have d1:=J.4;dsimp only at a9;go_wp2_with (first|(refine lx rfl (.tmp 8) rfl rfl G ?_)|(at_range;refine lY underlying123 rfl (.tmp 14) rfl rfl (N.2 _ I) ?_;intro w3 K d2 O));have b0:∀d,aX f i d->¬aX b h d:=λd g c4=>(E.I c4).elim (S d g) λj=>aI<|k.U g
   have T:=λd (g:aX b h d)=>w.U g;obtain⟨it,a7⟩:=aT w2.1.size;rw[<-a7]at O d2 d1 T⊢;have e5: ¬aX b h it:=λj=>aI<|T it j
   have a1:=w.B K i2;have c1:=G.B K id id;have a2:=Q.ac K;have e6:(aR<|e n).length=(e n).length:=by simp[aR]
   have f3:=k.U<|.inr ⟨_,I,rfl⟩;clear a7 K J G w N Q F H v ax T a9
   go_loopg [] (e n).length (λgk wr=>∃(l:List<|aC×Unit)(t:bO)(B:aW),l.length+gk=(e n).length∧ae (λd=>d=it∨aX b h d) w3 wr∧it<wr.1.size∧aO wr b t B∧cJ w3 h t r B (λm u=>m=n∧(u,())∈l)∧fA wr bF bh bX A it (aR<|e n) l)
   case atStart=>exact⟨[],h,r,af,.T _ _,aa,a1,(cJ.U _ _ _).B af,O⟩
   case round=>
    clear O a1;obtain⟨l,t,B,e4,R,f6,w,M,a0⟩:=hrel;have c7: ¬A=it:=aa
    go_wp2_with (at_next;refine lX iQ rfl (.tmp 15) rfl rfl a0 c7 ?_ ?_)
    ·intro a4;have aK:∀d3∈e n,(d3,())∈l:=λ⟨x,y,z⟩ c9=>a4 x y z _<|lR.2 c9;have b1:=a0.I;have b8:cJ a c t o B (λm u=>(∃p∈came++ [(n,A)],p.1=m)∧u∈e m):=(E.T M a2.4).B λm u=>by
      constructor
      ·rintro(⟨⟨p,a8,rfl⟩,b2⟩|⟨rfl,b2⟩)
       grind
       ·exact⟨af,lR.1<|b1.1 _ b2⟩
      grind
     have d8:=c1.B R (λj=>j.elim aa (b0 _<|.inl rfl)) λj=>j.elim aa λj=>a6 _ j rfl;have e1:=a2.V R λd g=>g.elim aa λg=>(E.I g).symm;go_wp2
     go_roundg m
     case measure=>omega
     grind
    ·intro x y z u d4 f2 f0 e8 V P;obtain⟨m2,rfl⟩:=jX gk;have a3:∀d,aX b _ d->aX _ _ d∨w3<=d:=λd g=>M.I g;have a5: ¬aX b t it:=aJ
     have c8: ¬aX _ _ A:=λj=>(a3 _ j).elim (b0 _<|.inr ⟨_,I,rfl⟩) aa
     have X:=(ae.T bE d4).I<|.cells #[.int .u64 x,.int .u64 y,.int .u64 z] 116;have c3:=(w.B V λd g (C:d=it)=>a5<|C▸g).B X i2;have b3:=Bx c3 c6 x y z (P.I.2.2 ((x,y,z),u) af);have f4:=V.4;go_wp2_with (first|(refine lx rfl (.tmp 15) rfl rfl P ?_;dsimp only[bh])|(go_at_call 87;refine b3.mono ?_;clear b3;rintro C d5 ⟨b7,b5,d6,rfl,W,d9,b9⟩));have e0:=((R.V V aa).B X.Z).V W λd g=>(a3 d g).symm.imp id .inr;have d7:=(P.B X id id).B W c8 a5;have b8:cJ w3 h b7 r b5 (λm u=>m=n∧(u,())∈l++ [((x,y,z),())]):=(M.T b9 (by simp;omega)).B λm u=>by
      grind
     have f5:it<d5:=by have:=W.4;simp at this;omega
     go_roundg m2
     case measure=>omega
     grind
theorem BR:bL (cd c e q) u=true↔bm c e q u:=by
 unfold cd bm bL;grind
def lG(n:ByteArray)(b:List (aC×Nat))(eY:bO)(a:aW)(m:ByteArray)(u:aC):Prop:=m=n∧u∈b.map bD∧¬bm eY a n u
theorem EY(a4:aO a f c o)(R:aL q)(N:aF a bF bh cg b p)(a7: ¬aX f c b)(a2:aO a l i e)(a6:∀d,aX l i d->¬aX f c d):
  aH 343 #[some f,q,some b,some l] a λk W=>∃r n,k=.returned (.tuple #[])∧ae (aX f c) a W∧aO W f r n∧cJ a c r o n (lG q p i e):=by
 have b5:=N.O;go_enter func343,ntmps343;go_wp2_with (at_range;refine lY underlying324 rfl (.tmp 9) rfl rfl N ?_;intro w1 T ax a3);go_frame
 go_loopg [] p.length (λgk wr=>∃(came:List<|aC×Nat)(r:bO)(n:aW),came.length+gk=p.length∧ae (aX f c) a wr∧a.1.size<wr.1.size∧aO wr f r n∧cJ a c r o n (lG q came i e)∧fA wr bF bh cg b a.1.size p came)
 case atStart=>exact⟨[],c,o,af,T.Z,aa,a4.B T i2,(cJ.U a _ o).B λm u=>by simp[lG],a3⟩
 case round=>
  obtain⟨came,w,E,b3,P,c3,B,s,G⟩:=hrel;go_wp2_with (at_next;refine lX iQ rfl (.tmp 10) rfl rfl G aa ?_ ?_)
  ·intro b4;have b9:=G.I;have Y:ay<|cJ a c w o E<|lG q p i e:=s.B λm u=>by
    unfold lG;grind
   go_wp2;go_end0;exact⟨w,E,rfl,P,B,Y.out⟩
  ·intro x y z L w2 b8 b7 b6 I t;obtain⟨m,rfl⟩:=jX gk;have U:=t.I.2.2 ((x,y,z),L) af;have Q: ¬aX f w a.1.size:=by
    intro b;obtain⟨A,cl,j⟩:∃A cl,wr.1[a.1.size]?=some (.map A cl):=by
     obtain b|⟨b1,a9,b⟩:=b
     ·obtain⟨A,cl,j,_⟩:=B.1;grind
     ·obtain⟨A,cl,j,_⟩:=B.2 b1 a9;grind
    obtain⟨_,_,_,_,_,_,h,_⟩:=G;rw[j]at h;cases h
   have C:=(ae.T bE w2).I<|.cells #[.int .u64 x,.int .u64 y,.int .u64 z] 116;have H:=(P.V I aa).ac C;have O:=(B.B I λd b (k:d=a)=>Q<|k▸b).B C i2;have v:=Vx (a2.B H a6) R x y z U;have a8: ¬aX _ _ _:=λF=>(s.I F).elim a7 aa
   have c1:=I.4;have b0:∀(d:Bool),bL (cd i e q) (x,y,z)=d->∀m u,lG q (came++ [((x,y,z),L)]) i e m u↔lG q came i e m u∨(d=false∧m=q∧u=(x,y,z)):=by
    intro d b m u;unfold lG;rw[iL,gX];constructor
    ·rintro⟨j,h|h,M⟩
     grind
     ·obtain rfl:u=(x,y,z):=aV h
      refine .inr ⟨?_,j,rfl⟩;cases d with
      |false=>rfl
      |true=>exact absurd (BR.1 b) M
    ·rintro(⟨j,h,M⟩|⟨j,h,rfl⟩)
     grind
     ·exact⟨h,.inr af,λF=>by rw[BR.2 F]at b;grind⟩
   obtain⟨d,b⟩:=gB<|bL (cd i e q) (x,y,z);have S:=b0 d b;rw[b]at v;cases d with
   |true=>
    go_wp2_with (first|(refine lx rfl (.tmp 10) rfl rfl t ?_;dsimp only[bh])|(go_at_call 86;refine v.mono ?_;clear v;rintro k D ⟨rfl,g⟩));have K:=g.4;simp at K
    go_roundg m
    case measure=>omega
    case rel=>exact⟨_,w,E,bQ,H.ac g,aa,O.B g i2,s.B λm u=>cw S,((t.B C id id).B g id id)⟩
   |false=>
    have V:=λ(D:ag) g=>Bx (O.B (g:au _ D) i2) R x y z U;go_wp2_with (first|(refine lx rfl (.tmp 10) rfl rfl t ?_;dsimp only[bh])|(go_at_call 86;refine v.mono ?_;clear v;rintro k D ⟨rfl,g⟩;obtain⟨aK,c6,c7,-⟩:=bq<|g.O (cz w2<|.cells #[.int .u64 x,.int .u64 y,.int .u64 z] 116) id)|(go_at_call 87;refine(V D g).mono ?_;clear V;rintro k c4 ⟨Z,X,b2,rfl,J,a5,a1⟩));have K:=g.4;have c2:=J.4;simp at K;have a0:cJ a _ _ o _<|lG q _ _ _:=(s.T a1 aa).B λm u=>cw S
    go_roundg m
    case measure=>omega
    case rel=>exact⟨_,Z,X,bQ,((H.ac g).V J λd b=>(s.I b).symm),aa,a5,a0,(((t.B C id id).B g id id).B J a8 Q)⟩
def gD(a:List bW):List ByteArray:=a.foldl (λg r=>gA g r.1.n) []
theorem ZW(a:h[b]?=some g):gD (h.take<|b+1)=gA (gD<|h.take b) g.1.n:=by
 unfold gD;rw[eA,a,sj,iZ];rfl
structure ju(w:ag)(K:ai)(lb sb:Nat)(rs:List bW)(ra:Option bC)(rc:Nat):Prop where
 known:K.In w
 block:w.1[lb]?=some (.cells #[.slice ra rs.length rc,.map (some sb)] 322)
 rules:K.list 3 kT (.slice ra rs.length rc) rs
theorem ju.I{w w':ag}{D:Nat->Prop}(a:ju w d b f h n l)(e:ae D w w')(g: ¬D b)(i:∀c o,d c=some o->¬D c):ju w' d b f h n l:=
 ⟨a.1.B e i,e.O a.2 g,a.3⟩
theorem ju.B{w w':ag}{a:List bW}(h:ju w d b f a n l)(c:au w w'):ju w' d b f a n l:=h.I c id λ_ _ _=>id
theorem LN{t:Option bC}(c:ju a d b l h t f)(D:∀K∈h,aL K.1.n)(V:h.length<=1048576):
  aH 347 #[b] a λo e=>∃j,o=.returned (some j)∧a.1.size<=j∧au a e∧aF e aL cr bX j (aR<|gD h):=by
 obtain⟨I,J,F,A⟩:=c.3.U c.1;obtain⟨rfl,rfl⟩:t=I∧f=J:=aV F;have U:= @iW Tryz.prog;have w:aF _ aL cr bX a<|aR<|gD<|h.take 0:=aF.I;obtain⟨L,a1,-,-⟩:=bJ c.2;have T:=aP c.2;go_enter func347,ntmps347;go_wp2;go_loopw [13] (λi wr=>∃k:Nat,k<=h.length∧i=.int .i64 k∧au a wr∧aF wr aL cr bX a.1.size (aR<|gD<|h.take k)) (λi _=>h.length-(intOf i).toNat);exact⟨0,aa,rfl,ae.al,w⟩;obtain⟨k,R,rfl,p,v⟩:=hrel;obtain⟨C,y,g⟩|C:=jf h k;obtain⟨P,W,cc,rfl,Q,z,B⟩:=A k y g;have G:=D y<|cA g;obtain⟨q,r,cv,m,rfl,-⟩:=z;let⟨M,N,O⟩:=p.ab B id;have u:ay<|aR (gD<|h.take<|k+1)=cK (aR<|gD<|h.take k) y.1.n ():=by show _=_;rw[ZW g,wM]
 have H:=λe=>xT (n:=y.1.n) (a1:=q) (a2:=cv) (l1:=y.1.2) (l2:=y.2) (k1:=r) (k2:=m) e;go_wp2_with (first|(go_at_call 323;refine(H _).mono ?_;rintro o w4 ⟨rfl,s⟩)|(at_mapUpdate;refine hZ bZ underlying249 rfl (.tmp 17) (.tmp 19) (.tmp 20) rfl rfl ((v.B ((ae.T bE wr).I<|.cells #[y.1.n,.slice q y.1.2.length r,.slice cv y.2.length m] 318) id).B s id) rfl G () rfl ?_;intro X E x));go_roundw;exact⟨k+1,aa,ba,((p.I _).B s).V E aa,aw u.out x⟩;exact dK;have S:h.take k=h:=aJ;go_ret;simp_all
theorem W6:fW Tryz.prog 450 457 1 8:=.B underlying450 (z:=.pointer none) ah rfl aA
def uk(r:bW)(i:Nat):cU:=gV r.1 ((r.2[i]?).elim qW (·.a)) (il r i)
def wq(a:List ByteArray)(r:bW):List cU:=(gh a r.2 r.2).map (uk r)
def lN(a:List ByteArray)(b:List bW):List cU:=b.flatMap (wq a)
theorem Yk(a:h[b]?=some g):lN d1 (h.take<|b+1)=lN d1 (h.take b)++wq d1 g:=by
 unfold lN;rw[eA,a,JZ];simp
theorem Nb{ns:List ByteArray}{rs:List bW}(h:∀r∈rs,r.2.length<=4):(lN ns rs)<=4*rs.length:=by
 unfold lN;induction rs with
 |nil=>grind
 |cons r rs a=>
  have b:=a λr a=>h r<|rz _ a;have a:=Cy ns r.2 r.2;have a:=h r<|jM ..;rw[Kp,kK,uS];have a:(wq ns r).length<=4:=by unfold wq;rw[di];omega
  omega
def xH(_:ai)(c:List aq)(p:Nat×cU):Prop:=c= [.pointer (some ⟨p.1,0,none⟩)]
theorem iu.T{e:cU}(h:iu x a f d b e)(i:au a J)(c:ai.Ext a d M)(g:M.In J):iu x J f M b e:=by
 obtain⟨e,p,e,r,s,j,l,t,u,m,n,a1,a2,a3,a4,a5,e⟩:=h;refine⟨g,p,?_,r,s,j,l,t,u,m,n,i.O a1 id,ai.list.B (h:=d) (k:=M) (λ_ _ q=>q) a2 c.1,ai.list.B (h:=d) (k:=M) (λ_ _ q=>q) a3 c.1,ai.list.B (h:=d) (k:=M) (λ_ _=>cF.B c.1) a4 c.1,a5.dY i c g λ_ _=>iN.B c.1,e⟩;cases g:M b with
 |none=>rfl
 |some o=>
  obtain e|e:=c.2 b o g;grind;grind
theorem aM.mr(h:aM a l b t a9 d s X)(c:s.ownBlock=some f):∃cs,a.1[f]?=some (.cells cs b):=by
 obtain⟨_,_,e,_,_,_,g⟩:=h;obtain⟨rfl,e⟩|⟨e,e,e,rfl,_,h,_⟩:=g.2;cases c;exact⟨e,dw c▸h⟩
theorem iu.B{w w':ag}{k:ai}{J:cU}{D:Nat->Prop}(h:iu x w b k f J)(c:ae D w w')(d:∀a o,k a=some o->¬D a)(g:∀a cs t,w.1[a]?=some (.cells cs t)->t=479∨t=497->¬D a):iu x w' b k f J:=by
 obtain⟨n,p,q,r,s,i,j,t,u,l,m,a1,a2,a3,a4,a5,e⟩:=h;exact⟨n.B c d,p,q,r,s,i,j,t,u,l,m,c.O a1<|g _ _ _ a1<|.inl rfl,a2,a3,a4,a5.T c (λa a=>by obtain⟨cs,c⟩:=a5.mr a;grind) d,e⟩
theorem EX{K:ai}{w:World}{e1 h7:Nat}{rs:List bW}{e3:Option Addr}{rc:Nat}(l:ju w K e1 h7 rs e3 rc)(ok:∀r∈rs,fP r)(g3:rs.length<=1048576){sc:mg}{ed F1 F2:aW}(f3:kr w sc ed F1 F2):
  aH 337 #[.pointer<|some ⟨e1,0,none⟩,.agg #[sc.1,sc.2,sc.3]] w λz b7=>∃v k,∃d,z=.returned v∧au w b7∧ai.Ext w K k∧aM b7 w 457 1 xH k v d∧(∀p∈d,iu (jm sc sc) b7 w k p.1 p.2)∧d.map Prod.snd=lN (gD rs) rs:=by
 obtain⟨h3,h4,d8,f6⟩:=l.3.U l.1;obtain⟨rfl,rfl⟩:e3=h3∧rc=h4:=aV d8
 clear d8;obtain⟨c1,N⟩:=aT<|w.alloc<|.cells #[sc.1,sc.2,sc.3] 444;have L:au w c1:=aw N ae.al
 have aK:c1.1[w.1.size]?=some (.cells #[sc.1,sc.2,sc.3] 444):=aw N<|heap_alloc_new _ _
 have b4:=LN (l.B L) (λr f=>(ok r f).3) g3;generalize gD rs=ns at b4⊢;go_enter func337,ntmps337;go_wp2_with (first|(rw[<-N];clear N)|(go_at_call 347;refine b4.mono ?_;clear b4;rintro z w2 ⟨j9,rfl,g4,a6,br⟩;have x:=L.B a6;obtain⟨c2,a1,-,-⟩:=bJ<|x.O l.2 id;have d1:=lt_of_block<|x.O l.2 id));have c6:=a6.O aK id;have b3:=L.4;have d4:aM w2 w2.1.size 457 1 xH K (.slice none 0 0) ([]:List<|Nat×cU):=.m<|l.1.B x i3;clear L a6 g4 aK c2 a1 d1
 go_loopw [6,10,19] (λv _ i wr=>∃k:Nat,∃(n:ai)(d:List<|Nat×cU),k<=rs.length∧i=.int .i64 k∧au w2 wr∧ai.Ext w.1.size K n∧aM wr w2.1.size 457 1 xH n v d∧Hid (∀p∈d,iu (jm sc sc) wr w.1.size n p.1 p.2)∧Hid (d.map Prod.snd=lN ns (rs.take k))) (λ_ _ i _=>rs.length-(intOf i).toNat)
 case atStart=>exact⟨0,K,[],aa,rfl,.T _ _,ai.Ext.I _ _,d4,λ_ h=>(nomatch h),rfl⟩
 case round=>
  clear d4;obtain⟨k,n,d,i9,rfl,c,e0,m,y,C⟩:=hrel;have M:=x.B c;by_cases a4:k<rs.length
  ·obtain⟨r,f⟩:∃H,rs[k]?=some H:=⟨_,List.getElem?_eq_getElem a4⟩;obtain⟨u,t,cc,rfl,Z,f1,B⟩:=f6 k r f;have S:=ok r<|List.mem_of_getElem? f;obtain⟨ha,hc,cv,c3,rfl,f2,c8,f8⟩:=f1;obtain⟨i1,i4,i5⟩:=M.ab B id;have e5:Hid<|lN ns (rs.take<|k+1)=lN ns (rs.take k)++wq ns r:=Yk f;have j1:d.length<=4*k:=by
    have I:=Nb (ns:=ns) (rs:=rs.take k) λr f=>(ok r<|List.mem_of_mem_take f).4;have J:=congrArg List.length C.out;rw[List.length_map]at J;rw[List.length_take]at I;omega
   obtain⟨e,E⟩:=aT<|gh ns r.2 r.2.length;have j2:e.length<=4:=by rw[E];have:=Cy ns r.2 r.2.length;have:=S.4;omega
   have g7:∀i∈e,i<r.2.length:=λi q=>by rw[E]at q;exact List.mem_range.1 (List.mem_filter.1 q).1
   have e4:Hid<|wq ns r=e.map (uk r):=by show _=_;rw[E];rfl
   clear f B Z;have U:=(ae.T bE wr).I<|.cells #[r.1.n,.slice ha r.1.2.length hc,.slice cv r.2.length c3] 318;have b5:=LO (r:=r) (ha:=ha) (hl:=r.1.2.length) (hc:=hc) ((l.1.B M i3).B U i3) c8 (λR hl=>(S.5 R hl).2.2) (aI S.4)<|br.B (c.B U) id;rw[<-E]at b5;clear E;go_wp2_with (go_at_call 348;refine b5.mono ?_;clear b5;rintro z G ⟨k1,j8,rfl,a7,g1,g8,a3⟩;obtain⟨e2,h1,rfl⟩:=a3.I);have A:=U.B a7;have X:=a7.O (heap_alloc_new wr<|.cells #[r.1.n,.slice ha r.1.2.length hc,.slice cv r.2.length c3] 318) id;have f0:=(c.B A).O c6 id;have d5:=m.I A i2 i3;have d3:∀p∈d,iu (jm sc sc) G w.1.size n p.1 p.2:=λp s=>(y.out p s).B A i3 λ_ _ _ _ _=>id;have f4:=c;obtain⟨h5,h6,d9,f7⟩:=a3.U g1;obtain⟨rfl,rfl⟩:e2=h5∧h1=h6:=aV d9
   have g9:=lt_of_block X;have d2:∀u t,e2=some ⟨u,t,none⟩->¬(w2.1.size<=u∧u<wr.1.size):=by
    rintro u t rfl ⟨I,J⟩;obtain⟨h0,g5⟩:=a3.T;obtain W|W:=g8.2 u h0 g5
    ·have:=l.1.O W;grind
    ·simp at W;omega
   have a5:∀b,u6.ownBlock=some b->b<wr.1.size∨G.1.size<=b:=λb a=>.inl (m.B b a).2;have j4:=lt_of_block c6;have f5:=c.4;obtain⟨b8,b3⟩:=aT wr.1.size;rw[<-b3]at X g9 d2 a5 f5⊢;clear d9 y m U a7 b3 c
   go_loopw [6,10,27] (λv _ i wr=>∃j:Nat,∃(o:ai)(g:List<|Nat×cU),j<=e.length∧i=.int .i64 j∧ae (λb=>w2.1.size<=b∧b<b8) G wr∧Hid (∀b,v.ownBlock=some b->b<b8∨G.1.size<=b)∧ai.Ext w.1.size K o∧aM wr w2.1.size 457 1 xH o v g∧Hid (∀p∈g,iu (jm sc sc) wr w.1.size o p.1 p.2)∧Hid (g.map Prod.snd=lN ns (rs.take k)++(e.take j).map (uk r))) (λ_ _ i _=>e.length-(intOf i).toNat)
   case atStart=>exact⟨0,n,d,aa,rfl,.T _ _,a5,e0,d5,d3,by show _=_;rw[C.out];simp⟩
   case round=>
    clear d5 d3 C a5;obtain⟨j,o,g,i8,rfl,c,d7,F,m,y,O⟩:=hrel;by_cases a4:j<e.length
    ·obtain⟨i,q⟩:∃H,e[j]?=some H:=⟨_,List.getElem?_eq_getElem a4⟩;obtain⟨i6,k0,cc,rfl,Z,rfl,B⟩:=f7 j i q;have e7:=c.Y (B 0 aA)<|d2 _ _ rfl;simp[Nat.mul_one]at e7;obtain⟨R,hl⟩:∃H,r.2[i]?=some H:=⟨_,List.getElem?_eq_getElem<|g7 i<|List.mem_of_getElem? q⟩;have b9:Hid<|(e.take<|j+1).map (uk r)=(e.take j).map (uk r)++ [gV r.1 R.a<|il r i]:=by
      show _=_;rw[List.take_add_one,q,List.map_append];show _++ [uk r i]=_;unfold uk;rw[hl];rfl
     have j0:g.length<=4*k+4:=by
      have I:=Nb (ns:=ns) (rs:=rs.take k) λr f=>(ok r<|List.mem_of_mem_take f).4;have J:=congrArg List.length O.out;rw[List.length_map,List.length_append,List.length_map,List.length_take]at J;rw[List.length_take]at I;omega
     clear B Z;have d0:=(M.B A).V c λb a=>.inl<|aI x.4;have c4:=c.O X aa;have c7:=c.O f0 aa;obtain⟨c2,a1,a2,-⟩:=bq c4;obtain⟨b0,b1,b2,-⟩:=bq c7;have d1:=lt_of_block c4;have i7:=lt_of_block c7;have c9:=f3.B d0;have b6:=LM m.V (ai.list.B (h:=K) (k:=o) (λ_ _ h2=>h2) f2 F.1) (ai.list.B (h:=K) (k:=o) (λ_ _=>fM.B F.1) c8 F.1) f8 S i hl c9 c9;have j6:=d0.4;generalize gV r.1 R.a (il r i)=V at b6 b9;clear hl q;go_wp2_with (first|(go_at_call 344;refine b6.mono ?_;clear b6;rintro z h8 ⟨Q,ax,rfl,P,a9,Y⟩;have D:=m.dY P a9 Y.1 λ_ _ h=>h;have j5:=P.4)|(at_builtin;refine kI W6 rfl (.tmp 31) (.tmp 37) rfl D rfl (Q,V) #[.pointer<|some ⟨Q,0,none⟩] rfl rfl (by simp[Value.oneCell']) rfl rfl aa aa aa ?_;intro e8 e6 h9 g2 a8 f9));have d6:∀b cs T,h8.1[b]?=some (.cells cs T)->T=479∨T=497->¬u6.ownBlock=some b:=λb cs T a j3=>D.Y a λi0 z=>by
      grind
     have j7:=c.4;have g6:∀b,(Value.slice (some ⟨e8,0,none⟩) (g.length+1) e6).ownBlock=some b->b<b8∨G.1.size<=b:=by
      intro b a;obtain rfl:=Option.some.inj a;obtain h|h:=f9
      ·exact d7.out _ h
      ·grind
     have g0:∀p∈g++ [(Q,V)],iu (jm sc sc) h9 w.1.size ax p.1 p.2:=by
      intro p s;obtain s|s:=List.mem_append.1 s
      ·exact((y.out p s).T P a9 Y.1).B a8 (λb t a=>D.bN b t a) d6
      ·cases List.mem_singleton.1 s;exact(Y.I aa).B a8 (λb t a=>D.bN b t a) d6
     go_roundw
     case rel=>exact⟨j+1,ax,g++ [(Q,V)],aa,ba,((c.ac P).V a8 λb a=>(d7.out b a).symm.imp id λh=>⟨(D.B b a).1,h⟩),g6,F.B a9 aa,g2,g0,by rw[b9.out,List.map_append,O.out,List.append_assoc];rfl⟩
     case measure=>simp[intOf];omega
    ·have a0:e.take j=e:=List.take_of_length_le aa;rw[a0,<-e4.out]at O;go_wp2;go_roundw
     case rel=>exact⟨k+1,o,g,aa,ba,(f4.B A).V c λb a=>.inl a.1,F,m,y,by show _=_;rw[e5.out,O.out]⟩
     case measure=>simp[intOf];omega
  ·have a0:rs.take k=rs:=List.take_of_length_le aa;rw[a0]at C;go_wp2;go_ret;exact⟨_,n,d,rfl,M,e0,m.Z x.4,y.out,C.out⟩
def Sh(k:ai)(c a:Nat)(st:List (Option (List aC)))(R:Nat->mZ)(b:Nat):Prop:=b=c∨b=a∨(∃o,k b=some o)∨dy st R b
theorem jx.T{st:List _}(h:jx x a f d b b8 st F)(j:ae d4 a J)(k: ¬d4 b)(g:∀c,dy st F c->¬d4 c):jx x J f d b b8 st F:=by
 refine⟨h.1,h.2,h.3,λe=>?_,λi s T e c=>?_,h.6,h.7⟩;obtain⟨cs,l,m⟩:=h.4 e;exact⟨cs,j.O l k,m⟩;exact(h.5 i s T e c).B j (g _ ⟨i,T,c,aa⟩) λp e=>g _ ⟨i,T,c,.inr ⟨p,e,rfl⟩⟩
theorem ia.O{w w':ag}{f c:Nat}(h:ia x w l d f c k p F)(e:ae d4 w w')(a:∀b,Sh d f c p F b->¬d4 b):ia x w' l d f c k p F:=by
 obtain⟨c,m,n,o,⟨t,u,f,g,y,z,i,j,q,r⟩,s⟩:=h;exact⟨c.B e λb v c=>a b<|.inr<|.inr<|.inl ⟨v,c⟩,m,n,o,⟨t,u,f,g,y,z,i,j,e.O q<|a _<|.inl rfl,r⟩,s.T e (a _<|.inr<|.inl rfl) λb c=>a b<|.inr<|.inr<|.inr c⟩
theorem aO.m(h:aO a b c e)(g:aX b c f):∃d cl,a.1[f]?=some (.map d cl):=by
 obtain rfl|⟨p,i,rfl⟩:=g;obtain⟨d,cl,g,_⟩:=h.1;grind;obtain⟨d,cl,g,_⟩:=h.2 p i;grind
theorem aO.I{w:ag}{F:aW}(h:aO w b c F)(a:aX b c f)(d:w.1[l]?=some (.cells S R)):f≠l:=by
 obtain⟨d,cl,d⟩:=h.m a;grind
def dF:aW:=λ_=> []
def eL(D:Bool->ByteArray->Seen)(J:cU)(a:List aC)(st:List (Option (List aC))):List (aC×Nat):=(fe D (dH D J a) (J.5.zip st)).map λp=>(dL J.1.2 p.1,p.2)
def kR(D:Bool->ByteArray->Seen)(J:cU):Prop:=∀b a,a.length=J.5.length->∀p∈fe D (dH D J b) (J.5.zip a),∀q∈fe D (dH D J b) (J.5.zip a),dL J.1.2 p.1=dL J.1.2 q.1->p.1=q.1
theorem jx.B{k:ai}(h:jx x a f k l b8 p F)(c:dy p F b):b<a:=by
 obtain⟨i,T,e,c⟩:=c;have g:i<b8:=by rw[<-h.1];exact(iw.1 e).1
 have d:=h.5 i _ T (cy g) e;obtain rfl|⟨g,e,rfl⟩:=c;exact d.1.O;exact(d.2 g e).O
theorem cJ.Y{b c:bO}(h:cJ J b c e o W)(f:a<=J.1.size):cJ a b c e o W:=by
 obtain⟨l,d,c⟩:=h.1;exact⟨⟨l,d,λp d=>⟨dI f (c p d).1,(c p d).2⟩⟩,h.2⟩
theorem iF(h:aX b [] f):f=b:=by
 obtain h|⟨_,h,_⟩:=h;omega;grind
theorem LL{D:Bool->ByteArray->Seen}(w:ia x a f d l b k p F)(N:mo a f x D)(M:f<=a)(ok:pX k)(u:k.5≠ [])(O:kR D k)
  (R:aL k.1.n)(P:aL k.2.n){g B cap:Nat}(y:a.cell? ⟨g,B,none⟩=some (.pointer<|some ⟨l,0,none⟩))(hF:aO a t c e)(z:aO a a7 i o):
  aH 339 #[.slice (some ⟨g,B,none⟩) 1 cap,some t,some a7] a λv s=>∃h dv q r n j m,v=.returned (some h)∧aO s h dv q∧(∀g,aX h dv g->a<=g)∧cJ a [] dv dF q (lG k.1.n r i o)∧eQ (cd c e k.2.n) n∧
   ia x s f d l b k j m∧iY D k n p j∧r.Perm (eL D k n j)∧ae (·=b) a s∧∀g,(dy j m g->dy p F g∨a<=g)∧(aX h dv g->¬dy j m g):=by
 have h:= @iW Tryz.prog;obtain⟨h,E,-⟩:=w.6.4 u;have h:=aP E;obtain⟨W,h,u,-⟩:=df a<|.map #[] 0;have C:aO W a [] dF:=by rw[h];exact⟨aF.I,af,af,af⟩
 have s:=w.B u;have A:=hF.B u i2;have G:=u.Y y id;have G:=xl a _ y;go_enter func339,ntmps339;go_wp2_with (rw[<-h]);clear h
 go_loopw [9,13] (λ_ h wr=>(h=.int .i64 0∧wr=W)∨(h=.int .i64 1∧∃dv q r n j m,aO wr a.1.size dv q∧(∀g,aX a.1.size dv g->a.1.size<=g)∧cJ a [] dv dF q (lG k.1.n r i o)∧eQ (cd c e k.2.n) n∧
   ia x wr f d l b k j m∧iY D k n p j∧r.Perm (eL D k n j)∧ae (·=b) a wr∧∀g,(dy j m g->dy p F g∨a.1.size<=g)∧(aX a.1.size dv g->¬dy j m g))) (λ_ h _=>1-(intOf h).toNat)
 grind;obtain⟨rfl,rfl⟩|⟨rfl,dv,q,r,n,j,m,a1,a2,a3,a4,a5,I,J,K,L⟩:=hrel;obtain⟨h,h,h,h,h,h,h,h,G,-⟩:=s.5;have y:=A.Z k.2.n;obtain⟨H,h⟩:=gB<|aB c k.2.n;have D:=pZ H;rw[h,D]at y;have S:(aB c k.2.n).elim (.map none) eF=.map H:=aJ;clear D;replace h:ay _:=h;have D:=Br s (N.B u i2) (dI M u.4) ok y O;have Q:∀g,aX _ _ g->¬aX a.1.size _ g:=λg h s=>by
  rw[iF s]at h;have:=z.U h;omega
 have y: ¬a.1.size=b:=aa;have H:=C.1.O;have N:∀g,aX _ _ g->¬g=b:=λg h=>aw (iF h) y;have O:∀g,wr.1.size<=g->¬aX a.1.size _ g:=λg h s=>by rw[iF s]at h;omega
 go_wp2_with (first|(go_at_call 353;refine (UM G).mono ?_;rintro v w4 ⟨rfl,y⟩;subst y)|(go_at_call 354;refine (UN G).mono ?_;rintro v w4 ⟨rfl,y⟩;subst y)|(at_lookup;refine iH bZ underlying99 jZ rfl (.tmp 21) (.tmp 23) rfl rfl (bU _) A.1.T rfl P S ?_)|(go_at_call 345;refine D.mono ?_;clear D;rintro v y ⟨h,r,n,j,m,rfl,P,H,T,D,M,S,y,A⟩;have G:=C.B y N)|(go_at_call 343;refine(EY G R H (O h P) ((z.B u i2).B y λg h=>(z.I h E)) Q).mono ?_;rintro v z ⟨dv,q,rfl,C,G,z⟩));have E:=y.4;have E:=D.O C (λg h s=>by
  have v:=iF s;obtain h|h|⟨B,h⟩|h:=h;obtain⟨_,_,_,_,_,_,_,_,v,-⟩:=w.5;grind;omega;have:=w.1.O h;omega;obtain v|v:=A g h;have:=w.6.B v;omega
  omega)
 go_roundw;refine .inr ⟨rfl,dv,q,r,n,j,m,G,λg h=>(z.I h).elim (λs=>aw (iF s)<|cP _) aa,z.Y aa,T,E,M,S,((u.Z.B y).V C λg h=>.inl<|aw (iF h)<|cP _),λg=>⟨λh=>(A g h).imp id λs=>aa,λh u=>?_⟩⟩;have v:=D.6.B u;obtain s|s:=z.I h;have h:=iF s;obtain h|h:=A g u;have:=w.6.B h;omega;omega;omega;simp[intOf];go_wp2;go_ret;exact⟨_,dv,q,r,n,j,m,rfl,a1,a2,a3,a4,a5,I,J,K,L⟩
def fp(P:Nat->aC->Prop)(n:ByteArray)(i:Nat)(m:ByteArray)(t:aC):Prop:=m=n∧∃j<i,P j t
structure Eo(J:cU)(bs:bO)(F:aW)(m:Nat)(P:Nat->aC->Prop)(RS:List (Option (List aC))->Prop):Prop where
 some:∀i<m,∃t,P i t
 last:∀t,¬P m t
 init:RS (J.5.map λ_=>none)
 take:∀i<m,∀(dJ:bO)(H:aW) st st',(∀n t,bm dJ H n t↔n=J.1.n∧P i t)->RS st->(∀j,j<J.5.length->vr dJ H J.5 st st' j)->st'.length=J.5.length->RS st'
 step:∀i<m,∀(F':aW) st st' xs,(∀n t,bm bs F' n t↔bm bs F n t∨fp P J.1.n (i+1) n t)->RS st->(∀t,t∈xs↔P i t)->xs.Nodup->iY (dU bs F') J xs st st'->st'.length=J.5.length->
  RS st'∧∀t,P (i+1) t↔t∈(eL (dU bs F') J xs st').map bD∧¬bm bs F' J.1.n t
 inj:∀F',kR (dU bs F') J
theorem EC:fp A q (b+1) b5 u↔fp A q b b5 u∨(b5=q∧A b u):=by
 constructor;rintro⟨a,j,c,d⟩;obtain e|e:=tE j b;exact .inl ⟨a,j,e,d⟩;grind;rintro(⟨a,j,c,d⟩|⟨a,c⟩);exact⟨a,j,aa,d⟩;exact⟨a,b,aa,c⟩
theorem acj(g:aO a b c e)(i:∀p∈c,p.2<f):mo a f (jm (jF (some b) c)<|jF (some b) c)<|dU c e:=by
 have d:kr a (jF (some b) c) e (λ_=> []) (λ_=> []):=⟨.inr ⟨b,rfl,g⟩,.inl ⟨rfl,rfl⟩,.inl ⟨rfl,rfl⟩⟩;have h:=yY d d;refine⟨h.1,h.2,h.3,λs n g d=>?_⟩;have:∀g,aB _ n=some g->g<f:=λg d=>i _<|ij d;cases s<;>rcases d with d|d|d<;>first|exact this g d|cases d
theorem jx.O{w:ag}{N:Nat}{st:List _}(h:jx x w N d f b8 st F){b:Nat}(a:dy st F b):w.1[b]? ≠some (.cells S R):=by
 obtain⟨i,T,e,a⟩:=a;have g:i<b8:=by rw[<-h.1];exact(iw.1 e).1
 have c:=h.5 i _ T (cy g) e;obtain rfl|⟨p,g,rfl⟩:=a;obtain⟨a,cl,e,_⟩:=c.1;grind;obtain⟨a,cl,e,_⟩:=c.2 p g;grind
theorem pk{a:bO}{F:aW}{n:ByteArray}{t:aC}:t∈cd a F n↔bm a F n t:=by
 unfold cd bm;grind
theorem ia.I{w w':ag}{R:Nat->mZ}(h:ia x w f d l t k p R)(i:k.5≠ []){F:aW}(e:aO w b c F)(g:ae (aX b c) w w')(a:∀a,aX b c a->d a=none)(j:∀a,dy p R a->¬aX b c a):ia x w' f d l t k p R:=by
 refine h.O g λa a g=>?_;obtain rfl|rfl|⟨o,a⟩|a:=a;obtain⟨_,_,_,_,_,_,_,_,a,-⟩:=h.5;exact e.I g a rfl;obtain⟨cs,a,-⟩:=h.6.4 i;exact e.I g a rfl;grind;grind
theorem aM.iz(h:aM a b 457 1 xH d s [(f,k)]):∃g c cs,s=.slice (some ⟨g,0,none⟩) 1 c∧b<=g∧a.1[g]?=some (.cells cs 457)∧cs[0]?=some (.pointer<|some ⟨f,0,none⟩):=by
 obtain⟨_,_,e,i,_,j,l⟩:=h;obtain⟨_,h⟩|⟨g,c,c,rfl,h,c,_,_,_,g⟩:=l.2;grind;match e,i with
 | [c],_=>
  have e:=j 0 c _ rfl rfl;subst e;have c:=congrArg (λl=>l[0]?) g;grind
structure I7(w0:ag)(N sb:Nat)(bs:bO)(F:aW)(lb0:Nat)(k:ai)(jb gb:Nat)(J:cU)(P:Nat->aC->Prop)(RS:List (Option (List aC))->Prop)(g o i fb:Nat)(w:ag):Prop where
 turn:ae (aX sb bs) w0 w
 list:∃cs,w.1[g]?=some (.cells cs 457)∧cs[o]?=some (.pointer (some ⟨jb,0,none⟩))
 ex:∃dJ H F' aS G st R,aO w sb bs F'∧(∀n t,bm bs F' n t↔bm bs F n t∨fp P J.1.n i n t)∧aO w fb dJ H∧(∀n t,bm dJ H n t↔n=J.1.n∧P i t)∧(∀p∈dJ,∃t,bm dJ H p.1 t)∧
  aO w lb0 aS G∧(∀n t,bm aS G n t↔fp P J.1.n i n t)∧(∀p∈aS,∃t,bm aS G p.1 t)∧ia (jm (jF (some sb) bs) (jF (some sb) bs)) w N k jb gb J st R∧RS st∧
  (∀b,aX fb dJ b->¬aX sb bs b∧¬aX lb0 aS b)∧(∀b,aX lb0 aS b->w0.1.size<=b∧k b=none)∧∀b,dy st R b->w0.1.size<=b∧¬aX lb0 aS b∧¬aX fb dJ b
theorem UD(O:ju a d t b h n a7)(l5:∀l6∈h,fP l6)(k6:h.length<=1048576)(F:aO a b c e)(m3:∀g,aX b c g->d g=none)
  (d3:aO a l i o)(g8:∀g,aX l i g->¬aX b c g)(h0:∀s∈i,∃p,bm i o s.1 p)(g1:lN (gD h) h= [k])(aK:k.5≠ [])(ok:pX k)(h3:aL k.1.n)(b8:k.2.n=k.1.n)(j8:(aB c k.1.n).isSome=true)
  (U:Eo k c e f A b6)(f4:∀q p,bm i o q p↔q=k.1.n∧A 0 p):
  aH 332 #[t,some l] a λy I=>∃a6 aS V a8,y=.returned (some a6)∧ae (aX b c) a I∧aO I b c a8∧(∀q p,bm c a8 q p↔bm c e q p∨fp A k.1.n f q p)∧aO I a6 aS V∧(∀g,aX a6 aS g->a<=g)∧(∀q p,bm aS V q p↔fp A k.1.n f q p)∧∀s∈aS,∃p,bm aS V s.1 p:=by
 have n2:= @iW Tryz.prog;obtain⟨m0,a1,-,-⟩:=bJ O.2;have h7:=λI=>xV (some b) I;have c9:=λ(I:ag)(u:au a I)=>EX (O.B u) l5 k6 (sc:=jF (some b) c) (ed:=e) (F1:=λ_=> []) (F2:=λ_=> []) ⟨.inr ⟨b,rfl,F.B u i2⟩,.inl ⟨rfl,rfl⟩,.inl ⟨rfl,rfl⟩⟩;rw[g1]at c9;dsimp only[jF]at c9;clear g1;go_enter func332,ntmps332;go_wp2_with (first|(go_at_call 331;refine(h7 _).mono ?_;clear h7;rintro y w1 ⟨rfl,c6⟩)|(go_at_call 337;refine(c9 _ c6).mono ?_;clear c9;rintro y w2 ⟨i3,T,l2,rfl,e8,h5,h2,h1,k0⟩));obtain⟨S,rfl⟩:∃S,l2= [(S,k)]:=by
  simp_all
 obtain⟨b3,cap,cs,rfl,m5,P,Q⟩:=aM.iz h2;obtain⟨b4,a0⟩:=(h1 (S,k) af).O;dsimp only at a0;obtain⟨w3,br,c7,-⟩:=df w2<|.map #[] 0;obtain⟨H,e3⟩:=aT w2.1.size;rw[<-br,<-e3]
 have f5:aO w3 H [] dF:=by rw[br,e3];exact⟨aF.I,af,af,af⟩
 have b7:=(c6.B e8).B c7;have n5:=c6.4;have l1:=e8.4;have k1:∀g,aX b c g->T g=none:=λg j=>by
  cases k2:T g with
  |none=>rfl
  |some l4=>
   obtain w|w:=h5.2 g l4 k2
   grind
   ·have:=F.U j;omega
 have j9:I7 a w1.1.size b c e H T S b4 k A b6 b3 0 0 l w3:=by
  refine⟨b7.Z,⟨cs,c7.O P id,Q⟩,i,o,e,[],dF,_,_,F.B b7 i2,λq p=>?_,d3.B b7 i2,f4,h0,f5,λq p=>?_,(λ_ m=>nomatch m),a0.B c7,U.3,λg j=>⟨g8 g j,λm=>?_⟩,λg j=>?_,λg j=>?_⟩
  ·unfold fp;simp
  ·unfold fp bm;simp[aB]
  ·have w:=d3.U j;have z:=iF m;omega
  ·have z:=iF j;exact⟨aa,a0.1.I aa⟩
  ·obtain⟨r,l9,m8,-⟩:=j;grind
 have k5:∀s∈c,s.2<w1.1.size:=λs v=>aI<|(F.2 s v).O
 have m4:w1.1.size<=H:=aa
 have k3:∀g,H<=g->T g=none:=λg j=>a0.1.I aa;clear h1 k0 h2 br e3 f5 b7 c7 e8 c6 P Q a0 h5 f4 g8 h0 d3 l1
 go_loopg [1,8] f (λgk i3 _ wr=>∃r b2,r+gk=f∧i3=.map (some b2)∧I7 a w1.1.size b c e H T S b4 k A b6 b3 0 r b2 wr)
 case atStart=>grind
 case round=>
  clear j9;obtain⟨r,b2,m9,rfl,a3,⟨cs,P,Q⟩,i,o,a8,aS,V,st,W,a2,g6,Z,E,j7,d2,g0,f9,g4,j1,b1,L,x⟩:=hrel;by_cases e4:r<f
  ·obtain⟨i7,rfl⟩:=jX gk;have n3:0<i.length:=by
    obtain⟨p,u⟩:=U.1 r e4;have w:=((E _ p).2 ⟨rfl,u⟩).1;cases i with
    |nil=>cases w
    |cons _ _=>simp
   have d7:=O.I a3 (λm=>F.I m O.2 rfl) (λg l3 j m=>by grind);obtain⟨h9,i0,-,-⟩:=bJ d7.2;have k4:=aP d7.2;have c1:=xU a2 Z λg j=>(b1 g j).1;have a5:∀g,aX b c g->g<a.1.size:=λg j=>F.U j;go_wp2_with (first|(at_len;refine nB underlying99 rfl (.tmp 18) rfl rfl Z.1 ?_)|(go_at_call 329;refine c1.mono ?_;clear c1;rintro y w4 ⟨b0,a9,rfl,G,d8,f6⟩;obtain rfl:=f6.Z (aF.U d8.1) λf l7 m=>aw (((E f l7).1 m).1) j8;have d5:=Z.B G λg j=>(b1 g j).1;have Y:=d2.B G λg j m=>dX ((L g j).1)<|a5 g m;have d6:=g4.I aK a2 G k1 λg j m=>dX ((x g j).1)<|a5 g m;have e0:=G.O P λm=>a2.I m P rfl;have c2:=xU Y d5 λg j=>(b1 g j).2)|(go_at_call 329;refine c2.mono ?_;clear c2;rintro y J ⟨K,d0,rfl,R,f7,M⟩));have j3:=d8.B R λg j m=>dX ((L g m).1)<|a5 g j;have d4:=d5.B R λg j=>(b1 g j).2;have g2:=d6.I aK Y R (λg j=>(L g j).2) λg j=>(x g j).2.1;have ax:=R.O e0 λm=>Y.I m e0 rfl;have j4:=(a3.B G).V R λg j=>.inl (L g j).1;have n7:=R.4;have n6:=G.4;have n9:=a3.4;have l0:w1.1.size<=J.1.size:=aI d2.1.O
   have m2:=(cI J b3 0 _ 457 (0,0) ax).trans Q;have m6:=aP ax;have k9:∀g,dy st W g->g<w4.1.size:=λg j=>d6.6.B j;have f3:ay (∀q p,bm b0 a9 q p↔bm b0 e q p∨fp A k.1.n (r+1) q p):=λq p=>by rw[f6.2,g6,E,EC,or_assoc]
   have i4:ay (∀q p,bm K d0 q p↔fp A k.1.n (r+1) q p):=λq p=>by rw[M.2,g0,E,EC]
   have n0:=Y.1.O;have i5:ay (∀s∈K,∃p,bm K d0 s.1 p):=λs v=>by
    obtain⟨h8,e2,w⟩:=M.1;rw[e2]at v;obtain v|v:=gX.1 v
    ·obtain⟨p,u⟩:=f9 s v;exact⟨p,(M.2 _ _).2<|.inl u⟩
    ·obtain⟨_,p,u⟩:=w s v;exact⟨p,(M.2 _ _).2<|.inr u⟩
   clear h9 i0 k4 d7 Y d5 d6 e0 d8 G a2 Z g4 P
   go_loopw [8,33] (λ_ r wr=>(r=.int .i64 0∧wr=J)∨(r=.int .i64 1∧∃D X,ia (jm (jF (some b) b0)<|jF (some b) b0) wr w1.1.size T S b4 k D X∧ay (∀h6,h6<k.5.length->vr i o k.5 st D h6)∧ae (dy st W) J wr∧ay (∀g,dy D X g->dy st W g∨J.1.size<=g))) (λ_ r _=>1-(intOf r).toNat)
   case atStart=>grind
   case round=>
    obtain⟨rfl,rfl⟩|⟨rfl,D,X,N,e6,C,d9⟩:=hrel
    ·have c3:=UK g2 l0 ok (lo:=some _) (.inr ⟨b2,rfl,d4⟩) (λg j m=>(x g m).2.2<|.inl (dw j).symm) (λf1 e7 m=>(x _ m).2.2<|.inr ⟨f1,e7,rfl⟩) λf1 e7=>(d4.2 f1 e7).O;go_wp2_with (go_at_call 346;refine c3.mono ?_;clear c3;rintro y o0 ⟨D,X,rfl,N,e6,C,d9⟩);go_roundw
     case rel=>exact .inr ⟨rfl,D,X,N,e6,C,d9⟩
     case measure=>simp[intOf]
    ·have k7:∀g cs p,J.1[g]?=some (.cells cs p)->¬dy st W g:=λg cs p j m=>g2.6.O m j;have b5:=j3.B C λg j m=>dX ((x g m).1)<|a5 g j;have g9:∀g,dy st W g->¬aX H K g:=λg j m=>(M.I m).elim (x g j).2.1 λm=>aI<|k9 g j
     have f8:=f7.B C λg j m=>g9 g m j;have a4:=C.O ax<|k7 _ _ _ ax;have g7:=j4.V C λg j=>.inl (x g j).1;have g5:=O.I g7 (λm=>F.I m O.2 rfl) (λg l3 j m=>by grind);obtain⟨h9,i0,-,-⟩:=bJ g5.2;have n1:=aP g5.2;have n8:=C.4;obtain⟨m1,e1,-⟩:=N.6.4 aK;have c4:=LL N (acj b5 k5) aa ok aK (U.6 a9) h3 (aw b8 h3) (cap:=cap) ((cI wr b3 0 _ 457 (0,0) a4).trans Q) (d4.B C λg j m=>(x g m).2.2 j) b5;have m7:=aP a4;go_wp2_with (go_at_call 339;refine c4.mono ?_;clear c4;rintro y o1 ⟨a6,dv,f2,n4,l8,i1,i6,rfl,i8,h4,d1,f0,g3,j6,k8,c8,b9⟩)
     obtain⟨j2,j0⟩:=U.5 r e4 a9 D i1 l8 f3.out (U.4 r e4 i o st D E j1 e6.out N.6.1) (λp=>by
      have w:=E k.1.n p;have z:= @pk i o k.2.n p;rw[b8,w]at z;constructor
      ·exact λm=>(z.1<|b8▸f0.2.1 p m).2
      ·exact λm=>f0.1 p<|aw b8<|z.2 ⟨rfl,m⟩) f0.2.2 j6 g3.6.1
     have i9:∀q p,bm dv f2 q p↔q=k.1.n∧A (r+1) p:=λq p=>by
      rw[d1.2,j0];unfold lG;rw[(k8.map bD).mem_iff];constructor
      ·rintro(⟨m,_⟩|m)
       ·cases m
       ·omega
      ·exact .inr
     have e5:∀g,aX H K g->g<J.1.size:=λg j=>f7.U j
     go_roundg i7
     case measure=>exact pG _
     case rel=>
      refine⟨r+1,a6,aa,rfl,g7.V c8 λg (j:g=b4)=>.inl<|aI N.6.2,⟨cs,c8.O a4 (λy=>by rw[y,e1]at a4;cases a4),Q⟩,dv,f2,a9,K,d0,i1,i6,b5.B c8 λg j=>b5.I j e1,f3.out,i8,i9,λs v=>?_,f8.B c8 λg j=>f8.I j e1,i4.out,i5.out,g3,j2,λg j=>⟨λm=>?_,λm=>?_⟩,λg j=>?_,λg j=>?_⟩
      ·obtain⟨h8,e2,w⟩:=d1.1;rw[e2,Eb]at v;obtain⟨_,p,u⟩:=w s v;exact⟨p,(d1.2 _ _).2<|.inr u⟩
      ·have:=h4 g j;have:=a5 g m;omega
      ·have:=h4 g j;have:=e5 g m;omega
      ·rcases M.I j with m|m
       ·exact L g m
       ·exact⟨aI a3.4,k3 g aa⟩
      ·rcases(b9 g).1 j with m|m
       ·rcases d9.out g m with z|z
        ·exact⟨(x g z).1,g9 g z,λB=>(b9 g).2 B j⟩
        ·exact⟨aa,λB=>aI<|e5 g B,λB=>(b9 g).2 B j⟩
       ·exact⟨aa,λB=>aI<|e5 g B,λB=>(b9 g).2 B j⟩
  ·obtain rfl:r=f:=aa
   have j5:i= []:=by
    cases i with
    |nil=>rfl
    |cons s h8=>
     obtain⟨p,u⟩:=j7 s<|jM ..;exact absurd ((E _ _).1 u).2<|U.2 p
   subst j5;go_wp2_with (at_len;refine nB underlying99 rfl (.tmp 18) rfl rfl Z.1 ?_);go_ret;exact⟨_,aS,V,a8,rfl,a3,a2,g6,d2,λg j=>(L g j).1,g0,f9⟩
end
section
variable{b3 c i v:bO}{b7 d5 e e7 e8 o y:aW}
theorem LI(k:ju a d l b h n t)(u:∀r∈h,fP r)(s:h.length<=1048576)(r:aO a b c e)(q:aO a f [] o):
  aH 332 #[l,some f] a λi g=>∃j,i=.returned (some j)∧au a g∧a.1.size<=j∧aO g j [] dF:=by
 have j:= @iW Tryz.prog;obtain⟨j,a1,-,-⟩:=bJ k.2;have m:=λg=>xV (some b) g;have p:=λ(g:ag)(j:au a g)=>EX (k.B j) u s (sc:=jF _ _) (ed:=e) (F1:=λ_=> []) (F2:=λ_=> []) ⟨.inr ⟨b,rfl,r.B j i2⟩,.inl ⟨rfl,rfl⟩,.inl ⟨rfl,rfl⟩⟩;go_enter func332,ntmps332;go_wp2_with (first|(go_at_call 331;refine(m _).mono ?_;clear m;rintro i w1 ⟨rfl,g⟩)|(go_at_call 337;refine(p _ g).mono ?_;clear p;rintro i w2 ⟨v,k,i,rfl,i,-⟩));have j:=g.B i;obtain⟨w3,i⟩:=aT<|w2.alloc<|.map #[] 0;let⟨m,g⟩:=aT w2.1.size;rw[<-i,<-g];have p:aO w3 m [] dF:=by rw[i,g];exact⟨aF.I,af,af,af⟩
 have k:au a w3:=aw i<|j.I _;have r:a<=m:=aw g j.4;clear i g;go_loopg [1,8] 0 (λgk v _ wr=>gk=0∧v=.map (some f)∧wr=w3);grind;obtain⟨rfl,rfl,rfl⟩:=hrel;go_wp2_with (at_len;refine nB underlying99 rfl (.tmp 18) rfl rfl (q.B k i2).1 ?_);go_ret;exact⟨_,rfl,k,r,p⟩
def oK(d:List bW)(c:List ByteArray)(a:bW->aC->Prop)(b:bO)(F:aW)(n:ByteArray)(t:aC):Prop:=∃r∈d,gh c r.2 r.2= []∧r.1.n=n∧a r t∧¬bm b F n t
theorem Sj{a:bW->aC->Prop}(d:h[b]?=some g):oK (h.take<|b+1) d1 a c e q u↔oK (h.take b) d1 a c e q u∨(gh d1 g.2 g.2= []∧g.1.n=q∧a g u∧¬bm c e q u):=by
 unfold oK;rw[eA,d];grind
theorem LJ{d0:Option bC}(s:ju a d f b h d0 l)(c9:∀r∈h,fP r)(f0:h.length<=1048576)(a0:aO a b c e)(w:bW->aC->Prop)
  (c1:∀r∈h,gh (gD h) r.2 r.2= []->kR (dU c e) (cX r))(ax:∀r∈h,gh (gD h) r.2 r.2= []->∀S b0,eQ [(0,0,0)] S->iY (dU c e) (cX r) S ((cX r).5.map λ_=>none) b0->∀t,t∈(eL (dU c e) (cX r) S b0).map bD↔w r t):
  aH 333 #[f] a λx G=>∃j dv p,x=.returned (some j)∧au a G∧aO G j dv p∧(∀g,aX j dv g->a<=g)∧cJ a [] dv dF p (oK h (gD h) w c e):=by
 have h5:= @iW Tryz.prog;let⟨g1,g2,f5,e5⟩:=s.3.U s.1;obtain⟨rfl,rfl⟩:d0=g1∧l=g2:=aV f5
 have k1:=LN s (λr C=>(c9 r C).3) f0;generalize gD h=v at k1 c1 ax⊢;go_enter func333,ntmps333;go_wp2_with (go_at_call 347;refine k1.mono ?_;clear k1;rintro x w2 ⟨c7,rfl,h7,R,b6⟩;obtain⟨d2,a1,-,-⟩:=bJ<|R.O s.2 id;have b8:=aP<|R.O s.2 id);obtain⟨w3,a9,c3,-⟩:=df w2<|.map #[] 0;obtain⟨j,K⟩:=aT w2.1.size;rw[<-a9,<-K]
 have d6:aO w3 j [] dF:=by rw[a9,K];exact⟨aF.I,af,af,af⟩
 have e0:=b6.B c3 id;have f1:a.1.size<=j:=aw K R.4
 have h6:c7<j:=aw K b6.O
 clear a9 K d2 a1 b8
 go_loopw [16] (λz wr=>∃(k:Nat)(dv:bO)(p:aW),k<=h.length∧z=.int .i64 k∧au a wr∧aF wr aL cr bX c7 (aR v)∧aO wr j dv p∧ay (∀g,aX j dv g->j<=g)∧ay (cJ a [] dv dF p<|oK (h.take k) v w c e)) (λz _=>h.length-(intOf z).toNat)
 case atStart=>exact⟨0,[],_,aa,rfl,(R.B c3),e0,d6,λg o=>aw (iF o)<|cP _,(cJ.U a _ _).B λm j0=>by simp[oK]⟩
 case round=>
  obtain⟨k,dv,p,h2,rfl,J,Z,X,B,Q⟩:=hrel;by_cases br:k<h.length
  ·obtain⟨r,C⟩:∃g5,h[k]?=some g5:=⟨_,cy br⟩;obtain⟨g9,i9,cc,rfl,e7,e2,b9⟩:=e5 k r C;have a7:=cA C;have L:=c9 r a7;obtain⟨ha,hc,cv,U,rfl,e3,b7,h0⟩:=e2;obtain⟨g6,g7,g8⟩:=J.ab b9 id;have T:ay (∀n t,oK (h.take<|k+1) v w c e n t↔oK (h.take k) v w c e n t∨(gh v r.2 r.2.length= []∧r.1.n=n∧w r t∧¬bm c e n t)):=λn t=>Sj C;have N:=c1 r a7;have O:=ax r a7;clear C b9 e7;have E:=(ae.T bE wr).I<|.cells #[r.1.n,.slice ha r.1.2.length hc,.slice cv r.2.length U] 318;have k2:=LO (r:=r) (ha:=ha) (hl:=r.1.2.length) (hc:=hc) ((s.1.B J i3).B E i3) b7 (λf8 hl=>(L.5 f8 hl).2.2) (aI L.4)<|Z.B E id;obtain⟨D,a6⟩:=aT<|gh v r.2 r.2.length;have h9:D.length<=4:=by rw[a6];have:=Cy v r.2 r.2.length;have:=L.4;omega
   rw[<-a6]at k2 N O T;clear a6;have b4:=cz wr<|.cells #[r.1.n,.slice ha r.1.2.length hc,.slice cv r.2.length U] 318;by_cases a5:D= []
   ·subst a5;replace N:ay _:=N rfl;replace O:ay _:=O rfl;go_wp2_with (go_at_call 348;refine k2.mono ?_;clear k2;rintro x g4 ⟨g3,f7,rfl,y,-,-,a4⟩;obtain⟨f9,g0,rfl⟩:=a4.I);have a3:=E.B y;have A:=J.B a3;have c4:=y.O b4 id;obtain⟨j4,j5,j6,-⟩:=bq c4;have b8:=aP<|y.O b4 id;have Y:=s.B A;obtain⟨i8,l1,-,-⟩:=bJ Y.2;have h4:=aP Y.2;have I:=X.B a3 i2;have e1:=Z.B a3 id;have aK:=λG=>xT (n:=r.1.n) (a1:=ha) (a2:=cv) (l1:=r.1.2) (l2:=r.2) (k1:=hc) (k2:=U) G;have c6:=λ(G:ag)(c2:au _ G)=>EZ (s.1.B (A.B c2) i3) e3 b7 L (m:=some _) (bs:=c) (F:=e) (.inr ⟨b,rfl,a0.B (A.B c2) i2⟩) N.out;have i5: ¬aX _ _ _:=λi=>I.I i c4 rfl;have h3: ¬aX _ _ _:=λi=>I.I i Y.2 rfl;apply qN (aX j dv) (λz=>z==2||z==9||z==15) ah ah;intro d1 d4 e4 d3 d5 M;refine aD ?_;refine aD ?_
    refine a_ λH u=>?_;go_wp2_with (go_at_call 323;refine(aK _).mono ?_;clear aK;rintro x j1 ⟨rfl,f3⟩);have P:=ae.ft f3;apply u _ _ ah (λ_=>M _ P.Z);clear u H;refine aD ?_;refine aD ?_;refine aD ?_;refine aD ?_;refine aD ?_;refine aD ?_
    refine a_ λH u=>?_;go_wp2_with (go_at_call 349;refine(c6 _ P).mono ?_;clear c6;rintro x j2 ⟨o,i4,S,b0,rfl,h1,d9,f6,e6,f2,f4⟩);have q:=P.B f4;refine u _ _ ah (λ_=>M _ q.Z) ?_;clear u H;refine aD ?_;refine aD ?_;refine aD ?_;refine aD ?_;refine aD ?_
    have i7:=P.4;have c8:=EY (I.B q i2) L.3 d9 (λi=>aI<|I.U i) (a0.B (A.B q) i2) λg o i=>dX (a0.U o)<|B.out g i;refine a_ λH u=>?_;go_wp2_with (go_at_call 343;refine c8.mono ?_;clear c8;rintro x j3 ⟨b2,b1,rfl,a8,d7,b5⟩);refine u _ _ ah (λ_=>M _<|q.Z.B a8) ?_;clear u H;refine cR ?_;clear d3 d5 M e4 d4 d1;have i6:=q.4;have h8:=I.1.O
    have d8:cJ a [] b2 dF b1<|oK (h.take<|k+1) v w c e:=(Q.out.T b5 ((A.B q).4)).B λn t=>by
     rw[T.out];unfold lG;rw[(f2.map _).mem_iff];have b3:=O.out _ _ f6 e6 t;constructor
     ·rintro(i|⟨rfl,V,W⟩)
      ·exact .inl i
      ·exact .inr ⟨by trivial,rfl,b3.1 V,W⟩
     ·rintro(i|⟨_,rfl,V,W⟩)
      ·exact .inl i
      ·exact .inr ⟨rfl,b3.2 V,W⟩
    go_wp2;go_roundw
    case rel=>exact⟨k+1,b2,b1,aa,ba,((A.B q).V a8 λg o=>.inl<|aI<|B.out g o),((e1.B q id).B a8 λi=>aI<|B.out _ i),d7,λg o=>(b5.I o).elim (B.out g) aa,d8⟩
    case measure=>simp[intOf];omega
   ·have i0:0<D.length:=by
     cases D with
     |nil=>exact absurd rfl a5
     |cons _ _=>simp
    have i1:((D.length:Int)==0)=false:=by
     have: ¬(D.length:Int)=0:=aa
     simpa using this
    go_wp2_with (go_at_call 348;refine k2.mono ?_;clear k2;rintro x g4 ⟨g3,f7,rfl,y,-,-,a4⟩;obtain⟨f9,g0,rfl⟩:=a4.I);go_roundw
    case rel=>exact⟨k+1,dv,p,aa,ba,(J.B E).B y,Z.B (E.B y) id,X.B (E.B y) i2,B,Q.out.B λn t=>by rw[T.out];simp[a5]⟩
    case measure=>simp[intOf];omega
  ·have e8:h.take k=h:=fo aa;rw[e8]at Q;go_wp2;go_ret;exact⟨_,dv,p,rfl,J,X,λg o=>dI f1<|B.out g o,Q.out⟩
theorem dD.B{w w':ag}{m:Option Nat}(h:dD w m c e)(a:au w w'):dD w' m c e:=h.I a i2 λ_ _=>id
theorem E1(i:dD a C c e)(j:aL q)(b d f)(k:bF (b,d,f)):
  aH 86 #[C,q,.agg #[.int .u64 b,.int .u64 d,.int .u64 f]] a λg h=>g=.returned (.bool<|bL (cd c e q) (b,d,f))∧au a h:=by
 have h:=i.B<|(ae.T _ a).I<|.cells #[.int .u64 b,.int .u64 d,.int .u64 f] 116;have i:=pZ<|aB c q;have i:=qJ (bU _) (h.O q) b d f k;obtain⟨f,b⟩:=gB<|aB c q;have d:(aB c q).elim (.map none) eF=.map f:=aJ
 rw[b]at i;go_enter func86,ntmps86;go_wp2_with (first|(at_lookup;refine iH bZ underlying99 jZ rfl (.tmp 7) (.tmp 8) rfl rfl (bU _) h.Y rfl j d ?_)|(go_at_call 144;refine i.mono ?_;rintro g w2 ⟨rfl,b⟩));go_ret;exact⟨rfl,ae.al.B b⟩
def gu(A:bV->Prop)(a:List bV):Prop:=(∀x,x∈a↔A x)∧a.Nodup
def dm(g:Bool)(N:ByteArray->aC->Prop)(b:bO)(a:aW)(x:bV):Prop:=x.3=g∧N x.n x.t∧¬bm b a x.n x.t
theorem gu.I{A:bV->Prop}(h:gu (λx=>A x∨dm L (λm a=>m=q∧d6 a) c e x) r)(b: ¬A ⟨q,u,L⟩)(b: ¬d6 u)(g:Bool)(i:bL (cd c e q) u=g):
  gu (λx=>A x∨dm L (λm a=>m=q∧(d6 a∨a=u)) c e x) (if g then r else r++ [⟨q,u,L⟩]):=by
 cases g with
 |true=>
  refine⟨λx=>?_,h.2⟩;rw[if_pos rfl,h.1];constructor;rintro(a|⟨a,⟨d,b⟩,f⟩);grind;exact .inr ⟨a,⟨d,.inl b⟩,f⟩;rintro(a|⟨a,⟨d,b|b⟩,f⟩);grind;exact .inr ⟨a,⟨d,b⟩,f⟩;exact absurd (by rw[d,b];exact BR.1 i) f
 |false=>
  have j: ¬bm _ _ q u:=λh=>by rw[BR.2 h]at i;grind
  rw[if_neg aA];refine⟨λx=>?_,?_⟩;rw[gX,ir,h.1];constructor;rintro((a|⟨a,⟨d,b⟩,f⟩)|rfl);grind;exact .inr ⟨a,⟨d,.inl b⟩,f⟩;exact .inr ⟨rfl,af,j⟩;rintro(a|⟨a,⟨d,b|b⟩,f⟩);grind;exact .inl<|.inr ⟨a,⟨d,b⟩,f⟩;obtain⟨a,g,a⟩:=x;grind;rw[sf];refine⟨h.2,af,λx a y b d=>?_⟩;rw[ir]at b;rw[d,b,h.1]at a;obtain a|⟨_,⟨_,a⟩,_⟩:=a;grind;grind
def kB(came:bO)(a:aW)(n:ByteArray)(t:aC):Prop:=(∃p∈came,p.1=n)∧t∈a n
theorem Ga(a:∀p∈i,p∈c)(a:∀p∈c,p∈i):kB i e q u↔bm c e q u:=by
 unfold kB bm;rw[qR,ei];grind
theorem gu.B{A B:bV->Prop}(h:gu A r)(a:∀x,A x↔B x):gu B r:=⟨λx=>(h.1 x).trans<|a x,h.2⟩
theorem NP{A:bV->Prop}(l:∀h∈p,h∈aR (e q))(m:∀t∈e q,(t,())∈p):
  ((A a6∨dm L (kB i e) c o a6)∨dm L (λa u=>a=q∧(u,())∈p) c o a6)↔A a6∨dm L (kB (i++ [(q,b)]) e) c o a6:=by
 rw[or_assoc];apply or_congr_right;constructor;rintro(⟨d,⟨⟨h,a,j⟩,g⟩,f⟩|⟨d,⟨k,g⟩,f⟩);exact⟨d,⟨⟨h,gX.2<|.inl a,j⟩,g⟩,f⟩;exact⟨d,⟨⟨(q,b),af,k.symm⟩,aw k<|lR.1<|l _ g⟩,f⟩;rintro⟨d,⟨⟨h,a,j⟩,g⟩,f⟩;obtain a|a:=gX.1 a;exact .inl ⟨d,⟨⟨h,a,j⟩,g⟩,f⟩;cases ir.1 a;exact .inr ⟨d,⟨j.symm,m _ (by grind)⟩,f⟩
theorem dD.V{F:aW}(h:dD a C c F)(d:(q,b)∈c):aF a bF bh bX b<|aR<|F q:=by
 obtain⟨_,rfl⟩|⟨e,_,e⟩:=h;cases d;exact e.2 _ d
theorem dD.T(h:dD a C c e)(f:C=some b):b<a:=by
 obtain⟨rfl,_⟩|⟨d,rfl,d⟩:=h;grind;cases f;exact d.1.O
abbrev gF:ai:=λ_=>none
theorem qV(w:ag):gF.In w:=λ_ _ h=>nomatch h
theorem ML:∀x∈(Value.agg #[iJ,.int .u64 0,.int .u64 0,.int .u64 0,false]).cells.1,Flat x=true:=by simp[tT,Flat]
theorem Bw{w:ag}{lL gm:Option Nat}{d Fg:aW}(a8:dD w lL c d)(a9:dD w gm i Fg)(k9:c.length<=1024)(l0:i.length<=1024)(g1:∀p∈c,(d p.1).length<=1048576)(g2:∀p∈i,(Fg p.1).length<=1048576):
  aH 84 #[.agg #[lL,gm]] w λe h5=>∃v g,e=.returned v∧au w h5∧fY h5 w 156 5 dC gF v g∧g.length<=2147483648∧gu (λx=>dm true (bm i Fg) c d x∨dm false (bm c d) i Fg x) g:=by
 obtain⟨h6,g6,e2,d1,-⟩:=df w (.cells #[lL,gm] 158)
 obtain⟨p0,p1,-,-⟩:=bJ d1;have j2:=aP d1;obtain⟨Y,i4⟩:=aT (w.1.size+1);have k7:w.1.size<Y:=aa
 have k8:Y<=w.1.size+1:=aa
 clear i4;go_enter func84,ntmps84;go_wp2_with (first|(rw[<-g6];clear g6)|(at_range;refine uK underlying99 rfl (.tmp 11) rfl rfl (a9.B e2).Y ?_;intro w1 f3 j8 e0));go_frame;have g4:=e2.B f3;have d2:=f3.O d1 id;obtain⟨a7,g8⟩:=aT h6.1.size;rw[<-g8]at e0 j2⊢;have i9:Y<=a7:=aa
 clear g8 j8 f3 d1 e2 p0 p1
 go_loopg [3,4,5] i.length (λgk v _ _ wr=>∃(came:bO)(g:List bV),came.length+gk=i.length∧au w wr∧wr.1[w.1.size]?=some (.cells #[lL,gm] 158)∧iy wr aL cr eF (.map gm) a7 i came∧fY wr Y 156 5 dC gF v g∧ay (gu (λx=>False∨dm true (kB came Fg) c d x) g)∧ay (g.length<=0+came.length*1048576))
 case atStart=>exact⟨[],[],af,g4,d2,e0,.oQ (qV _),⟨by simp[dm,kB],.nil⟩,by show _<=_;simp⟩
 case round=>
  clear e0 g4 d2;obtain⟨came,g,i7,H,o,q,I,S,W⟩:=hrel;obtain⟨_,_,_,_,b2⟩:=q.O;go_wp2_with (at_next;refine uJ bZ rfl (.tmp 12) rfl rfl q ?_ ?_)
  ·intro U;have d3:∀p∈i,p∈came:=λ⟨x,y⟩ a5=>U x y a5;clear U;have b6:ay (gu (λx=>False∨dm true (bm i Fg) c d x) g):=S.out.B λx=>by
    unfold dm;rw[Ga q.I.1 d3]
   have g7:=q.I.2.2.2;have c9:ay (g.length<=0+1073741824):=by show _<=_;have:=W.out;omega
   clear d3 S b2 q W g7;have d2:=o;obtain⟨k1,k2,-,-⟩:=bJ o;have j3:=aP o;have j6:=H.4;go_wp2_with (at_range;refine uK underlying99 rfl (.tmp 37) rfl rfl (a8.B H).Y ?_;intro w4 d6 j9 e1);go_frame;have g5:=H.B d6;have g3:=d6.O o id;have e8:=I.iO d6 i2 i3;obtain⟨b4,g9⟩:=aT wr.1.size;rw[<-g9]at e1 j3⊢;obtain⟨b5,h3⟩:=aT g;rw[<-h3]at b6 c9 e8;have h4:ay (b5.length<=1073741824):=by show _<=_;have:=c9.out;omega
   have f9:ay (gu (λx=>dm true (bm i Fg) c d x∨dm false (kB [] d) i Fg x) b5):=b6.out.B λx=>by simp[dm,kB]
   clear h3 g9 b6 c9 I H o d2 k1 k2 d6 j9 i9 j6
   go_loopg [3,7,8] c.length (λgk v _ _ wr=>∃(came:bO)(g:List bV),came.length+gk=c.length∧au w wr∧wr.1[w.1.size]?=some (.cells #[lL,gm] 158)∧iy wr aL cr eF (.map lL) b4 c came∧fY wr Y 156 5 dC gF v g∧ay (gu (λx=>dm true (bm i Fg) c d x∨dm false (kB came d) i Fg x) g)∧ay (g.length<=b5.length+came.length*1048576))
   case atStart=>exact⟨[],b5,af,g5,g3,e1,e8,f9,by show _<=_;simp⟩
   case round=>
    clear e1 e8 f9 g5 g3;obtain⟨came,g,i7,H,o,q,I,S,W⟩:=hrel;obtain⟨_,_,_,_,b2⟩:=q.O;go_wp2_with (at_next;refine uJ bZ rfl (.tmp 38) rfl rfl q ?_ ?_)
    ·intro U;have d3:∀p∈c,p∈came:=aJ;have b6:ay (gu (λx=>dm true (bm i Fg) c d x∨dm false (bm c d) i Fg x) g):=S.out.B λx=>by
      unfold dm;rw[Ga q.I.1 d3]
     have g7:=q.I.2.2.2;have c9:ay (g.length<=b5.length+1073741824):=by show _<=_;have:=W.out;omega
     go_wp2;go_ret;exact⟨_,g,rfl,H,I.qI aa,dX c9.out h4.out,b6.out⟩
    ·intro n k w2 Q j1 e7 B t;obtain⟨m,rfl⟩:=jX gk;have f1:aL n:=t.I.2.2.1 (n,k) af;have h1:∀p∈came,p.1≠n:=λp a5 e=>by
      have Z:=t.I.2.1;grind
     have L:=H.V B λb (a:b=b4)=>.inl aa;have c8:=(a8.B L).V Q;have j5:=(a8.V Q).O;have c4:=I.lK B (λb a (e:b=b4)=>I.Y (b:=b4) b2 (λ_ e=>nomatch e) (e▸a)) (λ_ _ l=>nomatch l);have e6:b4<w2.1.size:=kJ (aP b2) B.4;have b8:=B.O o aa;go_wp2_with (first|(refine uI rfl (.tmp 38) rfl rfl t ?_)|(at_range;refine lY underlying123 rfl (.tmp 44) rfl rfl c8 ?_;intro w3 C f6 a0));obtain⟨E,c2⟩:=aT w2.1.size;have c1:=L.B C;have f5:=L.4;rw[<-c2]at a0 e6 f5⊢;have b9:=C.O b8 id;have ax:=t.B C i2 id;have aK:=c4.iO C i2 i3;have b7:gu (λx=>(dm true (bm i Fg) c d x∨dm false (kB came d) i Fg x)∨dm false (λm u=>m=n∧(u,())∈([]:List (aC×Unit))) i Fg x) g:=S.out.B λx=>by simp[dm]
     have N:(aR (d n)).length=(d n).length:=by simp[aR]
     replace N:ay _:=N;clear c2 C B t f6 L c4 b8 c8 q H o I S;go_frame
     go_loopg [3] (d n).length (λgk v wr=>∃(j:List (aC×Unit))(h:List bV),j.length+gk=(d n).length∧au w wr∧wr.1[w.1.size]?=some (.cells #[lL,gm] 158)∧iy wr aL cr eF (.map lL) b4 c (came++ [(n,k)])∧fA wr bF bh bX k E (aR (d n)) j∧fY wr Y 156 5 dC gF v h∧ay (gu (λx=>(dm true (bm i Fg) c d x∨dm false (kB came d) i Fg x)∨dm false (λm u=>m=n∧(u,())∈j) i Fg x) h)∧ay (h.length<=g.length+j.length))
     case atStart=>exact⟨[],g,af,c1,b9,ax,a0,aK,b7,by show _<=_;simp⟩
     case round=>
      clear a0 ax aK b7 c1 b9;obtain⟨j,h,i8,b1,o,b0,r,V,T,a6⟩:=hrel;obtain⟨_,_,_,_,_,_,b3,_⟩:=id r;go_wp2_with (at_next;refine lX iQ rfl (.tmp 45) rfl rfl r aa ?_ ?_)
      ·intro U;have d4:∀f7∈d n,(f7,())∈j:=λ⟨x,y,z⟩ f2=>U x y z _ (lR.2 f2);have d5:=r.I.1;have g0:ay (gu (λx=>dm _ _ _ _ x∨dm _ (kB (came++ [(n,k)]) _) _ _ x) _):=T.out.B λx=>NP (A:=λx=>dm _ _ _ _ x) d5 d4;have h0:ay (h.length<=b5.length+(came++ [(n,k)]).length*1048576):=by
        show _<=_;have Z:=a6.out;have d7:=W.out;have d8:(d n).length<=1048576:=g1 (n,k) Q;simp;omega
       go_wp2
       go_roundg m
       case measure=>omega
       grind
      ·intro x y z u d0 j4 f0 j0 D K;obtain⟨m2,rfl⟩:∃m,gk=m+1:=⟨gk- 1,aI N.out⟩;have f4:bF (x,y,z):=K.I.2.2 ((x,y,z),u) af;have G:=(ae.T bE d0).I (.cells #[.int .u64 x,.int .u64 y,.int .u64 z] 116);have M:=(b1.V D λb (a:b=E)=>.inl aa).B G;have a3:=(b0.B D (λb a (e:b=E)=>aI (a8.T (by simpa using a))) aa).B G i2 id;have a2:=K.B G id id;have c6:=(V.lK D (λb a (e:b=E)=>V.Y (b:=E) b3 (λ_ e=>nomatch e) (e▸a)) (λ_ _ l=>nomatch l)).iO G i2 i3;have s:=G.O (D.O o aa) id;have F:=E1 (a9.B M) f1 x y z f4;have e5:=cz d0 (.cells #[.int .u64 x,.int .u64 y,.int .u64 z] 116)
       have c7:ay (∀b,bL (cd i Fg n) (x,y,z)=b->gu (λX=>(dm true (bm i Fg) c d X∨dm false (kB came d) i Fg X)∨dm false (λm v=>m=n∧(v,())∈j++ [((x,y,z),u)]) i Fg X) (if b then h else h++ [⟨n,(x,y,z),false⟩])):=λb a=>(T.out.I (λl=>by
        obtain l|⟨_,⟨⟨p,a5,h2⟩,_⟩,_⟩:=l
        ·exact Bool.false_ne_true l.1
        grind) f0 b a).B λX=>by grind
       obtain⟨b,a⟩:=gB (bL (cd i Fg n) (x,y,z));have J:=c7.out b a;rw[a]at F;replace J:ay _:=J;obtain⟨h7,a1,-,-⟩:=bJ s;have i6:=aP s;have j7:h.length<=2147483648+1048576:=by
        have Z:=a6.out;have d7:=W.out;have d8:(d n).length<=1048576:=g1 (n,k) Q;have i0:=e7;have i1:=h4.out;have d9:=r.U;rw[N.out]at d9;omega
       have c3:ay (h.length+1<=g.length+(j++ [((x,y,z),u)]).length):=by show _<=_;have:=a6.out;simp;omega
       clear a c7 T b3 b0 r V b1 D;cases b with
       |true=>
        go_wp2_with (first|(refine lx rfl (.tmp 45) rfl rfl K ?_;dsimp only[bh])|(go_at_call 86;refine F.mono ?_;clear F;rintro e f8 ⟨rfl,f⟩))
        go_roundg m2
        case measure=>omega
        case rel=>exact⟨j++ [((x,y,z),u)],h,bQ,M.B f,f.O s id,a3.B f i2 id,a2.B f id id,c6.iO f i2 i3,J,by show _<=_;have:=c3.out;omega⟩
       |false=>
        go_wp2_with (first|(refine lx rfl (.tmp 45) rfl rfl K ?_;dsimp only[bh])|(go_at_call 86;refine F.mono ?_;clear F;rintro e f8 ⟨rfl,f⟩;obtain⟨k4,k5,k6,-⟩:=bq (f.O e5 id);have O:=c6.iO f i2 i3;have k0:=(M.B f).4;have i5:=aP (f.O s id))|(at_builtin;refine PT BF He ML rfl (.tmp 56) (.tmp 60) rfl O rfl ⟨n,(x,y,z),false⟩ #[n,.int .u64 x,.int .u64 y,.int .u64 z,false] rfl rfl (by simp[eP]) rfl rfl aa aa aa (by simp[Flat]) ?_;intro h9 h8 k3 br R _));obtain⟨_,_,_,_,e4⟩:=(a3.B f i2 id).O;obtain⟨_,_,_,_,_,_,e3,_⟩:=id (a2.B f id id);have P:=λb a=>And.left (O.B b a)
        go_roundg m2
        case measure=>omega
        case rel=>exact⟨j++ [((x,y,z),u)],h++ [⟨n,(x,y,z),false⟩],bQ,(M.B f).V R (λb a=>.inl (aI (P b a))),R.O (f.O s id) (λa=>aI (P _ a)),(a3.B f i2 id).B R (λb a a4=>dX (P b a4) (a8.T (by simpa using a))) (O.Y e4 λ_ e=>nomatch e),(a2.B f id id).B R (λa4=>aI (P _ a4)) (O.Y e3 λ_ e=>nomatch e),br,J,by rw[kK];exact c3.out⟩
  ·intro n k w2 Q j1 e7 B t;obtain⟨m,rfl⟩:=jX gk;have f1:aL n:=t.I.2.2.1 (n,k) af;have h1:∀p∈came,p.1≠n:=λp a5 e=>by
    have Z:=t.I.2.1;rw[iL,sf]at Z;exact Z.2.2 p.1 (ei.2 ⟨p,a5,rfl⟩) n af e
   have L:=H.V B λb (a:b=a7)=>.inl aa;have c8:=(a9.B L).V Q;have j5:=(a9.V Q).O;have c4:=I.lK B (λb a (e:b=a7)=>I.Y (b:=a7) b2 (λ_ e=>nomatch e) (e▸a)) (λ_ _ l=>nomatch l);have e6:a7<w2.1.size:=kJ (aP b2) B.4;have b8:=B.O o aa;go_wp2_with (first|(refine uI rfl (.tmp 12) rfl rfl t ?_)|(at_range;refine lY underlying123 rfl (.tmp 18) rfl rfl c8 ?_;intro w3 C f6 a0));obtain⟨E,c2⟩:=aT w2.1.size;have c1:=L.B C;have f5:=L.4;rw[<-c2]at a0 e6 f5⊢;have b9:=C.O b8 id;have ax:=t.B C i2 id;have aK:=c4.iO C i2 i3;have b7:gu (λx=>(False∨dm true (kB came Fg) c d x)∨dm true (λm u=>m=n∧(u,())∈([]:List (aC×Unit))) c d x) g:=S.out.B λx=>by simp[dm]
   have N:(aR (Fg n)).length=(Fg n).length:=by simp[aR]
   replace N:ay _:=N;clear c2 C B t f6 L c4 b8 c8 q H o I S;go_frame
   go_loopg [3] (Fg n).length (λgk v wr=>∃(j:List (aC×Unit))(h:List bV),j.length+gk=(Fg n).length∧au w wr∧wr.1[w.1.size]?=some (.cells #[lL,gm] 158)∧iy wr aL cr eF (.map gm) a7 i (came++ [(n,k)])∧fA wr bF bh bX k E (aR (Fg n)) j∧fY wr Y 156 5 dC gF v h∧ay (gu (λx=>(False∨dm true (kB came Fg) c d x)∨dm true (λm u=>m=n∧(u,())∈j) c d x) h)∧ay (h.length<=g.length+j.length))
   case atStart=>exact⟨[],g,af,c1,b9,ax,a0,aK,b7,by show _<=_;simp⟩
   case round=>
    clear a0 ax aK b7 c1 b9;obtain⟨j,h,i8,b1,o,b0,r,V,T,a6⟩:=hrel;obtain⟨_,_,_,_,_,_,b3,_⟩:=id r;go_wp2_with (at_next;refine lX iQ rfl (.tmp 19) rfl rfl r aa ?_ ?_)
    ·intro U;have d4:∀f7∈Fg n,(f7,())∈j:=λ⟨x,y,z⟩ f2=>U x y z () (lR.2 f2);clear U;have d5:=r.I.1;have g0:ay (gu (λx=>False∨dm true (kB (came++ [(n,k)]) Fg) c d x) h):=T.out.B λx=>NP (A:=λx=>False) d5 d4;have h0:ay (h.length<=0+(came++ [(n,k)]).length*1048576):=by
      show _<=_;have Z:=a6.out;have d7:=W.out;have d8:(Fg n).length<=1048576:=g2 (n,k) Q;simp;omega
     clear T d4 d5 b3 r;go_wp2
     go_roundg m
     case measure=>exact pG m
     case rel=>exact⟨came++ [(n,k)],h,bQ,b1,o,b0,V,g0,h0⟩
    ·intro x y z u d0 j4 f0 j0 D K;obtain⟨m2,rfl⟩:∃m,gk=m+1:=⟨gk- 1,aI N.out⟩;have f4:bF (x,y,z):=K.I.2.2 ((x,y,z),u) af;have G:=(ae.T bE d0).I (.cells #[.int .u64 x,.int .u64 y,.int .u64 z] 116);have M:=(b1.V D λb (a:b=E)=>.inl aa).B G;have a3:=(b0.B D (λb a (e:b=E)=>aI (a9.T (by simpa using a))) aa).B G i2 id;have a2:=K.B G id id;have c6:=(V.lK D (λb a (e:b=E)=>V.Y (b:=E) b3 (λ_ e=>nomatch e) (e▸a)) (λ_ _ l=>nomatch l)).iO G i2 i3;have s:=G.O (D.O o aa) id;have F:=E1 (a8.B M) f1 x y z f4;have e5:=cz d0 (.cells #[.int .u64 x,.int .u64 y,.int .u64 z] 116)
     have c7:ay (∀b,bL (cd c d n) (x,y,z)=b->gu (λX=>(False∨dm true (kB came Fg) c d X)∨dm true (λm v=>m=n∧(v,())∈j++ [((x,y,z),u)]) c d X) (if b then h else h++ [⟨n,(x,y,z),true⟩])):=λb a=>(T.out.I (λl=>by
      obtain l|⟨_,⟨⟨p,a5,h2⟩,_⟩,_⟩:=l
      ·exact l
      ·exact h1 p a5 h2) f0 b a).B λX=>by simp[IA]
     obtain⟨b,a⟩:=gB (bL (cd c d n) (x,y,z));have J:=c7.out b a;rw[a]at F;replace J:ay _:=J;obtain⟨h7,a1,-,-⟩:=bJ s;have i6:=aP s;have j7:h.length<=2147483648+1048576:=by
      have Z:=a6.out;have d7:=W.out;have d8:(Fg n).length<=1048576:=g2 (n,k) Q;have i0:=e7;have i1:=cP 0;have d9:=r.U;rw[N.out]at d9;omega
     have c3:ay (h.length+1<=g.length+(j++ [((x,y,z),u)]).length):=by show _<=_;have:=a6.out;simp;omega
     clear a c7 T b3 b0 r V b1 D;cases b with
     |true=>
      go_wp2_with (first|(refine lx rfl (.tmp 19) rfl rfl K ?_;dsimp only[bh])|(go_at_call 86;refine F.mono ?_;clear F;rintro e f8 ⟨rfl,f⟩))
      go_roundg m2
      case measure=>exact pG m2
      case rel=>exact⟨j++ [((x,y,z),u)],h,bQ,M.B f,f.O s id,a3.B f i2 id,a2.B f id id,c6.iO f i2 i3,J,by show _<=_;have:=c3.out;omega⟩
     |false=>
      go_wp2_with (first|(refine lx rfl (.tmp 19) rfl rfl K ?_;dsimp only[bh])|(go_at_call 86;refine F.mono ?_;clear F;rintro e f8 ⟨rfl,f⟩;obtain⟨k4,k5,k6,-⟩:=bq (f.O e5 id);have O:=c6.iO f i2 i3;have k0:=(M.B f).4;have i5:=aP (f.O s id))|(at_builtin;refine PT BF He ML rfl (.tmp 30) (.tmp 34) rfl O rfl ⟨n,(x,y,z),true⟩ #[n,.int .u64 x,.int .u64 y,.int .u64 z,true] rfl rfl (by simp[eP]) rfl rfl aa aa aa (by simp[Flat]) ?_;intro h9 h8 k3 br R _));obtain⟨_,_,_,_,e4⟩:=(a3.B f i2 id).O;obtain⟨_,_,_,_,_,_,e3,_⟩:=id (a2.B f id id);have P:=λb a=>And.left (O.B b a)
      go_roundg m2
      case measure=>exact pG m2
      case rel=>exact⟨j++ [((x,y,z),u)],h++ [⟨n,(x,y,z),true⟩],bQ,(M.B f).V R (λb a=>.inl (aI (P b a))),R.O (f.O s id) (λa=>aI (P _ a)),(a3.B f i2 id).B R (λb a a4=>dX (P b a4) (a9.T (by simpa using a))) (O.Y e4 λ_ e=>nomatch e),(a2.B f id id).B R (λa4=>aI (P _ a4)) (O.Y e3 λ_ e=>nomatch e),br,J,by show _<=_;rw[kK];exact c3.out⟩
theorem cJ.O{w:ag}(h:cJ w [] c dF e W):(∀n t,bm c e n t↔W n t)∧∀p∈c,∃t,bm c e p.1 t:=by
 refine⟨λn t=>?_,λp a=>?_⟩;rw[h.2];constructor;rintro(⟨h,_⟩|h);cases h;exact h;grind;obtain⟨l,d,b⟩:=h.1;rw[d,Eb]at a;obtain⟨_,t,d⟩:=b p a;exact⟨t,(h.2 _ _).2<|.inr d⟩
theorem aO.Y{d:Nat}(h:aO a d c e){L:List aC}{n:ByteArray}(i:∀m t,bm c e m t->m=n∧t∈L)(d:∀p∈c,∃t,bm c e p.1 t):c.length<=1∧∀p∈c,(e p.1)<=L.length:=by
 have f:∀p∈c,p.1=n:=aJ;refine⟨?_,λp g=>?_⟩;have d:=aF.U h.1
 match c,f,d with
 | [],_,_=>grind
 | [_],_,_=>grind
 |j::b::l,f,d=>
  grind
 have d:=aF.U<|h.2 p g;have f:(aR<|e p.1).map bD=e p.1:=by simp[aR,Ee]
 rw[f]at d;exact d.length_le_of_subset λt d=>(i _ t ⟨(qR.2<|ei.2 ⟨p,g,rfl⟩),d⟩).2
theorem Uy{lb h:Nat}{rs:List bW}{g:Option bC}(s:ju a d lb h rs g f)(y:∀r∈rs,fP r)(u:rs.length<=1048576)(m:aO a h c e)(C:∀j,aX h c j->d j=none)(i:bW->aC->Prop)
  (G:∀r∈rs,gh (gD rs) r.2 r.2= []->kR (dU c e) (cX r))(q:∀r∈rs,gh (gD rs) r.2 r.2= []->∀g l,eQ [(0,0,0)] g->iY (dU c e) (cX r) g ((cX r).5.map λ_=>none) l->∀t,t∈(eL (dU c e) (cX r) g l).map bD↔i r t)
  (B:lN (gD rs) rs= [k])(I:k.5≠ [])(ok:pX k)(H:aL k.1.n)(E:k.2.n=k.1.n)(F:(aB c k.1.n).isSome=true)(J:Eo k c e b A b6)(z:∀n t,oK rs (gD rs) i c e n t↔n=k.1.n∧A 0 t)
  {L:List aC}(D:∀p<b,∀t,A p t->t∈L)(i:L.length<=1048576):
  aH 325 #[lb] a λl o=>∃v g i,l=.returned v∧ae (aX h c) a o∧aO o h c i∧(∀n t,bm c i n t↔bm c e n t∨fp A k.1.n b n t)∧aM o a 156 5 dC gF v g∧g.length<=2147483648∧gu (λx=>x.3=false∧fp A k.1.n b x.n x.t) g:=by
 have h:=LJ s y u m _ G q;go_enter func325,ntmps325;go_wp2_with (first|(go_at_call 333;refine h.mono ?_;clear h;rintro l w2 ⟨h,dv,h,rfl,o,h,G,q⟩;have r:=UD (s.B o) y u (m.B o i2) C h (λj s h=>dX (G j s)<|m.U h) q.O.2 B I ok H E F J λn t=>(q.O.1 n t).trans<|z n t)|(go_at_call 332;refine r.mono ?_;clear r;rintro l w3 ⟨q,aS,G,i,rfl,E,B,y,j,m,m,z⟩;have C:=j.Y (L:=L) (n:=k.1.n) (λb t h=>by obtain⟨r,p,s,u⟩:=(m b t).1 h;exact⟨r,D p s t u⟩) z;have p:=Bw (w:=w3) (lL:=some q) (gm:=none) (.inr ⟨q,rfl,j⟩) (.inl ⟨rfl,rfl⟩) (Fg:=dF) aa af (λq j=>aI<|C.2 q j) λ_ h=>nomatch h)|(go_at_call 84;refine p.mono ?_;clear p;rintro l w4 ⟨v,g,rfl,j,q,p,l⟩));go_ret;have h:=(o.Z.B E)
 exact⟨v,g,i,rfl,h.ac j,B.B j i2,y,q.toaM.Z h.4,p,l.B λx=>by
  unfold dm;rw[m]
  simp[bm,aB]⟩
def sX(l:List aC)(t:aC):List aC:=l.filter λu=> !decide (u=t)
theorem O8(l:List aC)(t:aC):qM (aR l) t=aR (sX l t):=by
 unfold qM aR sX;rw[List.filter_map];rfl
def yE(F:aW)(x:bV):aW:=lV F x.n (if x.3 then sX (F x.n) x.t else gA (F x.n) x.t)
def o_(F:aW)(a:List bV):aW:=a.foldl yE F
theorem ZB(a:r[b]?=some a6):o_ e (r.take<|b+1)=yE (o_ e<|r.take b) a6:=by
 unfold o_;rw[eA,a,sj,iZ];rfl
theorem LY{h:ai}{w:ag}(a3:h.In w)(T:aO w b c e)(a0:∀p∈c,h p.2=none)(J:h.list 5 dC (.slice n f l) r)(b4:r.length<=1099511627776)
  (a1:∀x∈r,aL x.n∧bF x.t∧(aB c x.n).isSome=true):
  aH 44 #[some b,.slice n f l] w λD O=>D=.returned (.tuple #[])∧ae (λa=>∃p∈c,p.2=a) w O∧aO O b c (o_ e r):=by
 obtain⟨rfl,V⟩:=J.O a3;have X:∀g o,n=some ⟨g,o,none⟩->¬ ∃p∈c,p.2=g:=by
  rintro g o rfl ⟨p,a2,rfl⟩;obtain⟨b5,K⟩:=J.T;rw[a0 p a2]at K;cases K
 go_enter func44,ntmps44;go_wp2;go_loopw [8] (λC wr=>∃(k:Nat),k<=r.length∧C=.int .i64 k∧ae (λa=>∃p∈c,p.2=a) w wr∧aO wr b c (o_ e<|r.take k)) (λC _=>r.length-(intOf C).toNat);exact⟨0,aa,rfl,ae.T _ w,T⟩;obtain⟨k,b2,rfl,H,F⟩:=hrel;obtain⟨Z,y,B⟩|Z:=jf r k;obtain⟨g,o,cc,rfl,b1,rfl,W⟩:=V k y B;obtain⟨a6,a7,a8,a9,b0⟩:=H.an W (X g o rfl);have z:ay<|o_ e _=yE _ y:=ZB B;obtain⟨P,Q,a5⟩:=a1 y<|cA B;generalize o_ e (r.take k)=G at F z;obtain⟨d,⟨s,t,u⟩,R⟩:=y;let⟨q,j⟩:=sg.1 a5;have L:∃p∈c,p.2=q:=⟨_,ij j,rfl⟩;have N:=(ae.T bE wr).I<|.cells #[d,.int .u64 s,.int .u64 t,.int .u64 u,R] 156;have i:=F.O N id i2;have I:=H.ac N;cases R with
 |true=>
  have v:ay<|yE G ⟨d,(s,t,u),true⟩=lV G d _:=rfl;have S:=i.2 _<|ij j;have Y:(aB c d).elim (.map none) eF= (some q):=aJ;go_wp2_with (first|(at_lookup;refine iH bZ underlying99 jZ rfl (.tmp 14) (.tmp 16) rfl rfl (bU _) i.1.T rfl P Y ?_)|(at_delete;refine PX iQ underlying123 rfl (.tmp 17) (.tmp 19) 116 rfl rfl S (x:=(s,t,u)) rfl Q ?_;intro a4 m E));rw[O8]at E;go_roundw;exact⟨k+1,aa,ba,I.B<|m.cW λa _ (A:a=q)=>A▸L,by rw[z.out,v.out];exact i.V j m E (aF.U i.1)⟩;exact dK
 |false=>
  have v:ay<|yE G ⟨d,(s,t,u),false⟩=lV G d _:=rfl;have M:=E2 i P j _ _ _ Q;go_wp2_with (go_at_call 87;refine M.mono ?_;clear M;rintro D a4 ⟨rfl,m,U⟩);go_roundw;exact⟨k+1,aa,ba,I.B<|m.cW λa _ (A:a=q)=>A▸L,by rw[z.out,v.out];exact U⟩;exact dK
 have b3:r.take k=r:=aJ;go_wp2;go_end0;grind
theorem abX:u∈sX P f1↔u∈P∧u≠f1:=by
 unfold sX;grind
theorem L3(c3:aO a b c o)(r:aO a f i e)(S:∀d,aX f i d->¬aX b c d)(c7:∀p∈i,(aB c p.1).isSome=true):
  aH 82 #[some b,some f] a λj b7=>∃s,j=.returned (.tuple #[])∧ae (aX b c) a b7∧aO b7 b c s∧∀m u,bm c s m u↔bm c o m u∧¬bm i e m u:=by
 have f5:=r.1.O;have e7:=aF.U r.1;go_enter func82,ntmps82;go_wp2_with (at_range;refine lY underlying99 rfl (.tmp 7) rfl rfl r.1 ?_;intro w1 W d7 a4);go_frame
 go_loopg [4,5] i.length (λgk _ _ wr=>∃(came:bO)(s:aW),came.length+gk=i.length∧ae (aX b c) a wr∧a.1.size<wr.1.size∧aO wr b c s∧ay (∀m u,bm c s m u↔bm c o m u∧¬((∃p∈came,p.1=m)∧u∈e m))∧fA wr aL cr eF f a.1.size i came)
 case atStart=>exact⟨[],o,af,W.Z,aa,c3.B W i2,λm u=>af,a4⟩
 case round=>
  clear a4 d7 W;obtain⟨came,t,e8,J,f9,v,a1,G⟩:=hrel;have ax:=r.B J S;go_wp2_with (at_next;refine lX bZ rfl (.tmp 8) rfl rfl G aa ?_ ?_)
  ·intro a8;have a7:∀p∈i,p∈came:=aJ;have V:=G.I;have b8:ay (∀m u,bm c t m u↔bm c o m u∧¬bm i e m u):=λm u=>by
    rw[a1.out,<-Ga V.1 a7];rfl
   go_wp2;go_end0;exact⟨t,rfl,J,v,b8.out⟩
  ·intro n E w2 B f3 f1 K H;obtain⟨m,rfl⟩:=jX gk;have d1:=H.I.2.2 (n,E) af;have b0:∀d,aX b c d->¬d=a.1.size:=by
    rintro d g rfl;obtain⟨F,cl,l⟩:∃F cl,wr.1[a.1.size]?=some (.map F cl):=by
     obtain g|⟨p,b3,g⟩:=g
     ·obtain⟨F,cl,l,_⟩:=v.1;grind
     ·obtain⟨F,cl,l,_⟩:=v.2 p b3;grind
    obtain⟨_,_,_,_,_,_,Z,_⟩:=G;rw[l]at Z;cases Z
   have Q:=J.V K λd (g:d=a.1.size)=>.inl aa;have w:=v.B K λd g=>b0 d g;have O:=r.B Q S;have b4:=(O.2 _ B).O;have d8:=K.4;dsimp only at b4;go_wp2_with (first|(refine lx rfl (.tmp 8) rfl rfl H ?_)|(at_range;refine lY underlying123 rfl (.tmp 14) rfl rfl (O.2 _ B) ?_;intro w3 L d9 P));have b5:=S;have d3:=b5 E<|.inr ⟨_,B,rfl⟩;have d4:=b5 f<|.inl rfl;have T:=λd (g:aX b c d)=>w.U g;obtain⟨it,b1⟩:=aT w2.1.size;rw[<-b1]at P d9 d8 T⊢;have c8: ¬aX b c it:=λk=>aI<|T it k
   have a6:=w.B L i2;have c1:=H.B L id id;have aK:=Q.ac L;have f0:(aR<|e n).length=(e n).length:=by simp[aR]
   have f7:=r.U<|.inr ⟨_,B,rfl⟩;clear b1 L K H w O Q G J v ax T b4
   go_loopg [] (e n).length (λgk wr=>∃(h:List<|aC×Unit)(q:aW),h.length+gk=(e n).length∧ae (λd=>d=it∨aX b c d) w3 wr∧it<wr.1.size∧aO wr b c q∧ay (∀m u,bm c q m u↔bm c t m u∧¬(m=n∧(u,())∈h))∧fA wr bF bh bX E it (aR<|e n) h)
   case atStart=>exact⟨[],t,af,.T _ _,aa,a6,λm u=>af,P⟩
   case round=>
    clear P a6;obtain⟨h,q,br,R,f8,w,N,a5⟩:=hrel;have d2: ¬E=it:=aa
    go_wp2_with (at_next;refine lX iQ rfl (.tmp 15) rfl rfl a5 d2 ?_ ?_)
    ·intro a8;have a7:∀e1∈e n,(e1,())∈h:=λ⟨x,y,z⟩ d5=>a8 x y z _<|lR.2 d5;have V:=a5.I;have a0:ay (∀m u,bm c q m u↔bm c o m u∧¬((∃p∈came++ [(n,E)],p.1=m)∧u∈e m)):=λm u=>by
      rw[N.out,a1.out,and_assoc];refine and_congr_right λ_=>?_;rw[<-not_or];refine not_congr ⟨?_,?_⟩
      ·rintro(⟨⟨p,b3,rfl⟩,b6⟩|⟨rfl,b6⟩)
       grind
       ·exact⟨af,lR.1<|V.1 _ b6⟩
      grind
     have e5:=c1.B R (λk=>k.elim aa d4) λk=>k.elim aa λk=>b0 _ k rfl;have e6:=aK.V R λd g=>g.elim aa .inr;go_wp2
     go_roundg m
     case measure=>omega
     grind
    ·intro x y z u e2 f6 f4 f2 X I;obtain⟨m2,rfl⟩:=jX gk;have d6:=I.I.2.2 ((x,y,z),u) af;have a9:=c8;have M:=(ae.T bE e2).I<|.cells #[.int .u64 x,.int .u64 y,.int .u64 z] 116;have A:=(w.B X λd g (j:d=it)=>a9<|j▸g).B M i2;obtain⟨Y,C⟩:=sg.1<|c7 _ B;dsimp only at C;have a3:=A.2 _<|ij C;dsimp only at a3;have c9:(aB c n).elim (.map none) eF=.map (some Y):=dh C
     have d0:=aF.U A.1;have U:aX b c Y:=.inr ⟨_,ij C,rfl⟩;go_wp2_with (first|(refine lx rfl (.tmp 15) rfl rfl I ?_;dsimp only[bh])|(at_lookup;refine iH bZ underlying99 jZ rfl (.tmp 20) (.tmp 21) rfl rfl (bU _) A.1.T rfl d1 c9 ?_)|(at_delete;refine PX iQ underlying123 rfl (.tmp 22) (.tmp 23) 116 rfl rfl a3 (x:=(x,y,z)) rfl d6 ?_;intro e3 D a2));rw[O8]at a2;have c4:=A.V C D a2 d0;have c6:=((R.V X λd (g:d=it)=>.inr<|.inl g).B M.Z).V D λd (g:d=Y)=>.inr<|.inr<|g▸U;have c2:=(I.B M id id).B D (λj=>d3<|j▸U) λj=>a9<|j▸U;have a0:ay (∀m u,bm c (lV q n<|sX (q n) (x,y,z)) m u↔bm c t m u∧¬(m=n∧(u,())∈h++ [((x,y,z),())])):=λm u=>by
      have l:=N.out m u;unfold bm at l⊢;by_cases b2:m=n
      ·subst b2;rw[wT,abX,<-and_assoc,l,and_assoc];grind
      ·rw[wS _ b2,l];grind
     have e0:it<e3.1.size:=by have b9:=D.4;have e4:=X.4;rw[fV]at b9;omega
     clear N D I A M;go_wp2
     go_roundg m2
     case measure=>exact pG m2
     case rel=>exact⟨h++ [((x,y,z),())],_,bQ,c6,e0,c4,a0,c2⟩
def kq(a:List bV)(g:Bool)(n:ByteArray)(t:aC):Prop:=∃x∈a,x.3=g∧x.n=n∧x.t=t
theorem Sm(a:r[b]?=some a6):kq (r.take<|b+1) L q u↔kq (r.take b) L q u∨(a6.3=L∧a6.n=q∧a6.t=u):=by
 unfold kq;rw[eA,a];grind
theorem L1(c8:d.In a)(c2:d.list 5 dC (.slice n b f) r)(br:r.length<=1099511627776)(c6:∀O∈r,aL O.n∧bF O.t):
  aH 81 #[.slice n b f] a λP Z=>∃h g j i m o,P=.returned (.agg #[some h,some g])∧au a Z∧aO Z h j m∧aO Z g i o∧(∀c,aX h j c->a<=c∧¬aX g i c)∧(∀c,aX g i c->a<=c)∧
   cJ a [] j dF m (kq r false)∧cJ a [] i dF o (kq r true):=by
 obtain⟨rfl,b9⟩:=c2.O c8;have e8:= @iW Tryz.prog;obtain⟨W,x⟩:=aT<|(((a.alloc<|.cells #[.map none,.map none] 158).alloc<|.map #[] 0).alloc<|.map #[] 0).alloc<|.cells #[some<|a.1.size+1,some<|a.1.size+1+1] 158;obtain⟨h,K⟩:=aT<|a.1.size+1;obtain⟨g,L⟩:=aT<|a.1.size+1+1;obtain⟨a3,Q⟩:=aT<|a.1.size+1+1+1;have b8:au a W:=aw x<|((ae.al.I _).I _).I _;have c7:W.1[a.1.size]?=some (.cells #[.map none,.map none] 158):=by
  rw[x];exact(ae.al.I _).O (ic _ _ _) id
 have ax:aO W h [] dF:=by
  refine⟨?_,af,af,af⟩;rw[x,K];have q:=aF.I (w:=a.alloc<|.cells #[.map none,.map none] 158) (ok:=aL) (key:=cr) (enc:=eF);rw[fV]at q;exact q.B (ae.al.I _) id
 have c3:aO W g [] dF:=by
  refine⟨?_,af,af,af⟩;rw[x,L];have q:=aF.I (w:=(a.alloc<|.cells #[.map none,.map none] 158).alloc<|.map #[] 0) (ok:=aL) (key:=cr) (enc:=eF);rw[fV,fV]at q;exact q.B ae.al id
 have b5:W.1[a3]?=some (.cells #[some h,some g] 158):=by
  rw[x,Q,K,L];have q:=cz (((a.alloc<|.cells #[.map none,.map none] 158).alloc<|.map #[] 0).alloc<|.map #[] 0)<|.cells #[some<|a.1.size+1,some<|a.1.size+1+1] 158;rw[fV,fV,fV]at q;exact q
 go_enter func81,ntmps81;go_wp2;rw[<-x,<-Q,<-L,<-K];have e4:a.1.size<h:=aa;have e6:h<g:=aa;clear x Q L K
 go_loopw [11] (λY wr=>∃(k:Nat)(j i:bO)(m o:aW),k<=r.length∧Y=.int .i64 k∧au a wr∧wr.1[a.1.size]?=some (.cells #[.map none,.map none] 158)∧wr.1[a3]?=some (.cells #[some h,some g] 158)∧aO wr h j m∧aO wr g i o∧
  ay (∀c,aX h j c->a.1.size<=c∧¬aX g i c)∧ay (∀c,aX g i c->a.1.size<=c)∧ay (cJ a [] j dF m<|kq (r.take k) false)∧ay (cJ a [] i dF o<|kq (r.take k) true)) (λY _=>r.length-(intOf Y).toNat)
 exact⟨0,[],[],_,_,aa,rfl,b8,c7,b5,ax,c3,λc e=>by have:=iF e;exact⟨aa,λd=>aI<|iF d⟩,λc e=>aI<|iF e,(cJ.U _ _ _).B λc9 d0=>by simp[kq],(cJ.U _ _ _).B λc9 d0=>by simp[kq]⟩;obtain⟨k,j,i,m,o,e7,rfl,U,M,a4,R,S,u,H,I,J⟩:=hrel;obtain⟨aK,A,X⟩|aK:=jf r k;obtain⟨B,f0,cc,rfl,e5,rfl,c1⟩:=b9 k A X;obtain⟨d6,d7,d8,d9,e0⟩:=U.an c1 id;have G:ay (∀B s t,kq _ B s t↔kq _ B s t∨(A.3=B∧A.n=s∧A.t=t)):=λB s t=>Sm X;obtain⟨a0,a2⟩:=c6 A<|cA X;obtain⟨d5,⟨d2,d3,d4⟩,a6⟩:=A;simp only at a0 a2;have F:=(ae.T bE wr).I<|.cells #[d5,.int .u64 d2,.int .u64 d3,.int .u64 d4,a6] 156;have V:=U.B F;have y:=F.O a4 id;have N:=F.O M id;obtain⟨b0,b1,-,-⟩:=bJ y;have e3:=aP y;have C:=R.B F i2;have D:=S.B F i2;have a5:=V.4;cases a6 with
 |true=>
  have E:=Bx D a0 _ _ _ a2;go_wp2_with (go_at_call 87;refine E.mono ?_;clear E;rintro P d1 ⟨b3,a8,O,rfl,l,b7,z⟩);go_roundw;exact⟨k+1,j,b3,m,a8,aa,ba,V.V l λc e=>.inl<|H.out c e,l.O N λd=>D.I d N rfl,l.O y λd=>D.I d y rfl,C.B l λc e=>(u.out c e).2,b7,λc e=>⟨(u.out c e).1,λd=>(z.I d).elim (u.out c e).2 λd=>aI<|C.U e⟩,λc e=>(z.I e).elim (H.out c) λd=>aa,I.out.B λs t=>cw G.out,(J.out.T z a5).B λs t=>by rw[G.out];grind⟩;exact dK
 |false=>
  have E:=Bx C a0 _ _ _ a2;go_wp2_with (go_at_call 87;refine E.mono ?_;clear E;rintro P d1 ⟨b2,a7,O,rfl,l,b6,z⟩);go_roundw;exact⟨k+1,b2,i,a7,o,aa,ba,V.V l λc e=>.inl (u.out c e).1,l.O N λd=>C.I d N rfl,l.O y λd=>C.I d y rfl,b6,D.B l λc e d=>(u.out c d).2 e,λc e=>(z.I e).elim (u.out c) λd=>⟨aa,λb4=>aI<|D.U b4⟩,H.out,(I.out.T z a5).B λs t=>by rw[G.out];grind,J.out.B λs t=>cw G.out⟩;exact dK
 have c4:r.take k=r:=aJ;rw[c4]at I J;obtain⟨b0,b1,-,-⟩:=bJ a4;let⟨a9,a1,e1,e2⟩:=bJ M;go_wp2;refine fl (v:=.agg #[some h,some g]) (by simp[results,go_sem,a9,a1]) rfl ?_;have T:=((ae.T (·=a.1.size) wr).U (p:=⟨a.1.size,0,none⟩) (.inr rfl)<|.map<|some h).U (p:=⟨a.1.size,1,none⟩) (.inr rfl)<|.map<|some g;exact⟨h,g,j,i,m,o,rfl,U.V T aa,R.B T λc e=>R.I e M,S.B T λc e=>S.I e M,u.out,H.out,I.out,J.out⟩
def jH(c:mg)(ed a b:aW):Bool->ByteArray->Seen:=λs n=>if s then sZ c ed a b n else sZ c ed a b n
def tO(D:Bool->ByteArray->Seen)(J:cU)(ts:List aC)(S:aC->Prop):Prop:=∀b a,eQ ts b->iY D J b (J.5.map λ_=>none) a->a=J.5.length->∀t,t∈(eL D J b a).map bD↔S t
theorem UJ(G:d.In a){s cv:Option bC}(F:d.list 2 dV (.slice s g.1.2 l) g.1.2)(E:d.list 3 fM (.slice cv g.2 b) g.2)(I:g.2<=b)(ok:fP g)(h)(v:g.2[h]?=some a0)
  {ed p q:aW}(r:kr a w ed p q)(M:ai.map (λe=>a.1[e]?) bF bh bX C<|aR P)(hF:aO a f c b7)(H:aO a t i d5)(J:∀e,aX t i e->¬aX f c e)
  (x:a.1[a7]?=some (.cells #[some f] 99))(j:a.1[e0]?=some (.cells #[w.1,w.2,w.3] 444))(y:a.1[e1]?=some (.cells #[some t] 99))
  (K:kR (jH w ed p q)<|gV g.1 a0.a<|il g h)(L:tO (jH w ed p q) (gV g.1 a0.a<|il g h) P d6):
  aH 342 #[.agg #[g.1.n,.slice s g.1.2 l,.slice cv g.2 b],.int .i64 h,C,a7,e0,e1] a λm k=>∃u e,m=.returned (.tuple #[])∧ae (aX f c) a k∧aO k f u e∧cJ a c u b7 e λn u=>n=g.1.n∧d6 u∧¬bm i d5 n u:=by
 obtain⟨W,A,e,z,-⟩:=df a<|.cells #[g.1.n,.slice s g.1.2.length l,.slice cv g.2.length b] 318
 obtain⟨B,a1,a2,-⟩:=bq z;have B:=aP z;have p1:=(cI W _ 0 _ _ _<|e.O x id).trans rfl;have p3:=(cI W _ 0 _ _ _<|e.O y id).trans rfl;obtain⟨s0,s1,s2,-⟩:=bq<|e.O j id;have z:=aP<|e.O x id;have x:=aP<|e.O j id;have x:=aP<|e.O y id;have z:=λk=>xT (n:=g.1.n) (a1:=s) (a2:=cv) (l1:=g.1.2.length) (l2:=g.2.length) (k1:=l) (k2:=b) k;have B:=λ(k:ag)(s:au W k)=>LM (G.B (e.B s) i3) F E I ok h v (r.B<|e.B s)<|r.B<|e.B s;have y:=ok.5 a0<|cA v;have F:∀k∈il g h,fw k:=λk s=>(gX.1 s).elim (qX (λx s=>ok.5 x<|qq s) k)<|qX (λx s=>ok.5 x<|tK s) k;have k:(il g h).length<=4:=by
  unfold il;have:=ok.4;have:=(iw.1 v).1;rw[kK,di,di,ix,uY];omega
 have E:=BW ok.1 ok.2 y.1 y.2.1 k F;go_enter func342,ntmps342;go_wp2_with (rw[<-A];clear A);apply dG (λh=>h==2||h==7||h==9||h==11) ah ah;intro h h h h h h v;refine aD ?_;refine aD ?_
 refine a_ λs k=>?_;go_wp2_with (go_at_call 323;refine(z _).mono ?_;clear z;rintro m w2 ⟨rfl,h⟩);have j:=ae.ft h;apply k _ _ ah (λ_=>v _ j.below);refine aD ?_;refine aD ?_;refine aD ?_;refine aD ?_
 refine a_ λs k=>?_;go_wp2_with (go_at_call 344;refine(B _ j).mono ?_;clear B;rintro m w4 ⟨h,h,rfl,x,h,A⟩);have h:=j.B x;apply k _ _ ah (λ_=>v _ h.below);refine aD ?_;obtain⟨z,y⟩:=A.O;have A:mo w4 w2 (jm w w)<|jH w ed p q:=by
  have p:=yY (r.B<|e.B j)<|r.B<|e.B j;exact p.B x i2
 have q:=Br (D:=jH _ _ _ _) y A x.4 E (o:=C) (ts:=P) (ai.B M<|e.B h) K;refine a_ λs k=>?_;go_wp2_with (go_at_call 345;refine q.mono ?_;clear q;rintro m q ⟨q,q,q,q,q,rfl,q,r,F,x,A,B,E,-⟩);have q:=y.6.2;have q:=h.V E λy (E:y=z)=>.inl<|aI j.4;apply k _ _ ah (λ_=>v _ q.below);refine aD ?_;have j:=e.B q;have e:=EY (hF.B j i2) ok.3 r (λq=>AY (hF.U q) h.4 aa) (H.B j i2) J;refine a_ λs k=>?_;go_wp2_with (go_at_call 343;refine e.mono ?_;clear e;rintro m e ⟨m,e,rfl,s,q,r⟩);apply k _ _ ah (cS ah);apply cR;go_end0;refine⟨m,e,rfl,j.Z.B s,q,(r.Y j.4).B λn u=>?_⟩;unfold lG;rw[(B.map _).mem_iff];have e:=L _ _ F A x.6.1 u;constructor
 ·rintro⟨rfl,h,p⟩;exact⟨rfl,e.1 h,p⟩
 ·rintro⟨rfl,h,p⟩;exact⟨rfl,e.2 h,p⟩
section
variable{P:bj}{kt et t:bB}{κ ν:Type}{key:κ->aq}{ok:κ->Prop}{enc:ν->aq}
variable{ops:Array bG}{rest:List bG}{o:bG}{a:Act}{Q:Exit->Act->ag->Prop}{w:ag}{f:List (κ×ν)}{v:aq}
theorem zl(h:P.underlying t=some (.map kt et))(c:Region.wanted o (yielded ops a.1)=true)(m:Operand)(g:o.2=.call {callee:=.builtin .len,args:= #[m],argTypes:= #[t]})(e:a.eval m=v)(H:ai.map (λb=>w.1[b]?) ok key enc v f)
  (d:wpList P ops Q rest (a.put o.1<|.int .i64 f.length) w):wpList P ops Q (o::rest) a w:=by
 obtain⟨rfl,rfl⟩|⟨b,b,i,rfl,i,j⟩:=H;refine wpList_want c λk l=>?_;have k:(uP #[t] o.3 #[.map none]).run P w=.ok (.int .i64 0) w:=by
  simp[uP,pA h,goInt]
 unfold Oper.wp;simp[execOp,g,resolve,invoke,builtin,e,k];exact l _ _ d;exact nB h c m g e ⟨b,_,i,j⟩ d
end
def fO(b0:bO)(a:aW)(b1:bO)(b:aW)(y:eX):List aC:=cd (if y.2 then b1 else b0) (if y.2 then b else a) y.a.n
def tN(g:eX->List aC)(b:bW->Nat->aC->Prop)(eY:bO)(a:aW)(r:bW)(i:Nat)(n:ByteArray)(t:aC):Prop:=∃y,r.2[i]?=some y∧g y≠ []∧n=r.1.n∧b r i t∧¬bm eY a n t
def mh(g:eX->List aC)(b:bW->Nat->aC->Prop)(eY:bO)(a:aW)(c:List bW)(n:ByteArray)(t:aC):Prop:=∃r∈c,∃i,tN g b eY a r i n t
theorem Sd{a:eX->List aC}(d:h[b]?=some g):mh a N c e (h.take<|b+1) q u↔mh a N c e (h.take b) q u∨∃i<g.2.length,tN a N c e g i q u:=by
 unfold mh;rw[eA,d];simp only[sj,gX,ir];constructor;rintro⟨r,a|rfl,i,a⟩;grind;obtain⟨z,d,_⟩:=id a;grind;grind
theorem UI(S:au J a){f2:Option bC}(O:ju J d f f8 h f2 l)(h3:∀r∈h,fP r)(j0:h.length<=1048576)
  (c4:dD J C c e)(aK:dD J e6 i o)(g4:kr J w d5 e7 e8)(d3:aO J t v y)
  (hF:aO a b b3 b7)(e3:∀p,aX b b3 p->J<=p)
  (b6:a.1[a7]?=some (.cells #[some b] 99))(b8:a.1[e0]?=some (.cells #[w.1,w.2,w.3] 444))(b9:a.1[e1]?=some (.cells #[some t] 99))
  (h1:∀r∈h,∀g j,r.2[g]?=some j->fO c e i o j≠ []->kR (jH w d5 e7 e8) (gV r.1 j.a<|il r g)∧tO (jH w d5 e7 e8) (gV r.1 j.a<|il r g) (fO c e i o j) (N r g)):
  aH 341 #[f,.agg #[C,e6],.func (.func 342) #[] #[a7,e0,e1]] a λM L=>∃D B,M=.returned (.tuple #[])∧ae (aX b b3) a L∧aO L b D B∧cJ a b3 D b7 B (mh (fO c e i o) N v y h):=by
 obtain⟨h4,h5,f0,g7⟩:=O.3.U O.1;obtain⟨rfl,rfl⟩:f2=h4∧l=h5:=aV f0
 clear f0;obtain⟨W,a3,E,c9,-⟩:=df a<|.cells #[C,e6] 158
 have i1:W.1.size<=a.1.size+1:=cw a3
 have d4:=(O.B S).B E;obtain⟨j4,l1,-,-⟩:=bJ d4.2;have i9:=aP d4.2;have d1:=hF.B E i2;have h8:∀V a,(callFunc 342 V).run Tryz.prog a=.ok (.enter 342 V) a:=λV a=>ah
 go_enter func341,ntmps341;go_wp2_with (rw[<-a3];clear a3)
 go_loopw [15] (λg wr=>∃(x:Nat)(D:bO)(B:aW),x<=h.length∧g=.int .i64 x∧ae (aX b b3) W wr∧aO wr b D B∧ay (cJ a b3 D b7 B<|mh (fO c e i o) N v y<|h.take x)) (λg _=>h.length-(intOf g).toNat)
 case atStart=>exact⟨0,b3,b7,aa,rfl,.T _ _,d1,(cJ.U _ _ _).B λn k=>by simp[mh]⟩
 case round=>
  obtain⟨x,Y,T,i8,rfl,s,d0,d2⟩:=hrel;have z:=(S.B E).V s λp A=>.inl<|e3 p A;by_cases a5:x<h.length
  ·let⟨r,a6⟩:∃j,h[x]?=some j:=⟨_,cy a5⟩;obtain⟨h9,j6,cc,rfl,i6,g2,h0⟩:=g7 x r a6;have e4:=cA a6;have b1:=h3 r e4;obtain⟨ha,hc,cv,X,rfl,g3,d6,g8⟩:=g2;let⟨ax,c1,c2⟩:=z.ab h0 id;have f5:ay (∀n k,mh (fO c e i o) _ _ _ _ n k↔mh _ _ _ _ _ n k∨∃g<r.2.length,tN _ N v y r g n k):=λn k=>Sd a6;obtain⟨h7,b0,f3,-⟩:=df wr<|.cells #[r.1.n,.slice ha r.1.2.length hc,.slice cv r.2.length X] 318
   have Z:h7.1[wr.1.size]?=some _:=aw b0<|cz _ _
   obtain⟨b4,a1,a2,-⟩:=bq Z;have d7:=aP Z;have f1:=λL=>UR (n:=r.1.n) (a1:=ha) (a2:=cv) (l1:=r.1.2.length) (l2:=r.2.length) (k1:=hc) (k2:=X) L;have i4:=b1.4;go_wp2_with (first|(rw[<-b0];clear b0)|(go_at_call 359;refine(f1 _).mono ?_;clear f1;rintro M w2 ⟨rfl,a9⟩));have g5:=(s.ac f3).ac a9;have c7:=a9.O Z id;have G:=(d0.B f3 i2).B a9 i2;have I:ay<|cJ a b3 Y b7 T λn k=>mh (fO c e i o) N v y (h.take x) n k∨∃g<0,tN (fO c e i o) N v y r g n k:=aJ
   let⟨h6,e5⟩:=aT wr.1.size;rw[<-e5]at c7⊢;clear e5
   go_loopw [8,9,21] (λ_ _ g wr=>∃(m:Nat)(D:bO)(B:aW),m<=r.2.length∧g=.int .i64 m∧ae (aX b b3) W wr∧wr.1[h6]?=some (.cells #[r.1.n,.slice ha r.1.2.length hc,.slice cv r.2.length X] 318)∧aO wr b D B∧ay (cJ a b3 D b7 B λn k=>mh (fO c e i o) N v y (h.take x) n k∨∃g<m,tN (fO c e i o) N v y r g n k)) (λ_ _ g _=>r.2.length-(intOf g).toNat)
   case atStart=>exact⟨0,Y,T,aa,rfl,g5,c7,G,I⟩
   case round=>
    obtain⟨m,b5,b2,i7,rfl,s,H,G,I⟩:=hrel;have z:=(S.B E).V s λp A=>.inl<|e3 p A;by_cases a5:m<r.2.length
    ·let⟨j,P⟩:∃j,r.2[m]?=some j:=⟨_,cy a5⟩;obtain⟨b4,a1,a2,-⟩:=bq H;have d7:=aP H;have a0:=s.O c9 λu=>d1.I u c9 rfl;obtain⟨s0,s1,-,-⟩:=bJ a0;have i5:=aP a0;have Q:=UT (ha:=ha) (hl:=r.1.2.length) (hc:=hc) (O.1.B z i3) d6 P (b1.5 j<|cA P).2.2 (c4.B z)<|aK.B z;have U:ay (∀n k,(∃g<m+1,tN (fO c e i o) N v y r g n k)↔(∃g<m,tN (fO c e i o) N v y r g n k)∨(fO c e i o j≠ []∧n=r.1.n∧N r m k∧¬bm v y n k)):=λn k=>by
      constructor
      ·rintro⟨g,c6,R⟩;obtain f7|f7:=tE g m
       grind
       ·obtain⟨j8,j2,i0⟩:=R;grind
      ·rintro(⟨g,c6,R⟩|R)
       grind
       ·exact⟨m,aa,j,P,R⟩
     have e2:=(h1 r e4) m j P;have g1:dD wr (if j.2 then e6 else C) (if j.2 then i else c) (if j.2 then o else e):=by
      cases j.2
      ·exact c4.B z
      ·exact aK.B z
     have K:=g1.O j.a.n;change ai.map _ bF bh bX _ (aR<|fO c e i o j)at K;generalize aB (if j.2 then i else c) j.a.n=j5 at Q K;have a8:(aR<|fO c e i o j).length=(fO c e i o j).length:=by simp[aR]
     obtain⟨c3,d9⟩:=aT<|fO c e i o j;rw[<-d9]at K e2 U a8;clear d9;by_cases d8:c3= []
     ·subst d8;go_wp2_with (first|(go_at_call 360;refine Q.mono ?_;clear Q;rintro M w3 ⟨rfl,q⟩)|(at_len;refine zl underlying123 rfl (.tmp 28) rfl rfl (ai.B K q) ?_;rw[a8]));go_roundw
      case rel=>exact⟨m+1,b5,b2,aa,ba,s.ac q,q.O H id,G.B q i2,I.out.B λn k=>cw U.out⟩
      case measure=>simp[intOf];omega
     ·have j1:0<c3.length:=aJ
      let⟨h2,a4⟩:=e2 d8;have g9:∀p,aX _ _ p->aX b _ p∨a.1.size<=p:=λp A=>I.out.I A;have j3:=S.4
      have k2:=λ(L:ag)(F:au wr L)=>UJ (O.1.B (z.B F) i3) g3 d6 g8 b1 m P (g4.B<|z.B F) (ai.B K F) (G.B F i2) (d3.B (z.B F) i2) (λp A u=>by
       have c6:=d3.U A;grind) (F.O (s.O (E.O b6 id) λu=>hF.I u b6 rfl) id) (F.O (s.O (E.O b8 id) λu=>hF.I u b8 rfl) id) (F.O (s.O (E.O b9 id) λu=>hF.I u b9 rfl) id) h2 a4
      go_wp2_with (first|(go_at_call 360;refine Q.mono ?_;clear Q;rintro M w3 ⟨rfl,q⟩;obtain⟨b4,a1,a2,-⟩:=bq<|q.O H id;have d7:=aP<|q.O H id)|(at_len;refine zl underlying123 rfl (.tmp 28) rfl rfl (ai.B K q) ?_;rw[a8])|(go_at_call 342;refine(k2 _ q).mono ?_;clear k2;rintro M j7 ⟨f6,f4,rfl,br,f9,g0⟩));have c8:=q.O H id;have g6:a.1.size<=w3.1.size:=AY aa aa q.4
      go_roundw
      case rel=>exact⟨m+1,f6,f4,aa,ba,(s.ac q).V br λp A=>(g9 p A).symm.imp (λu=>aI<|G.I A a0) id,br.O c8 λu=>(G.B q i2).I u c8 rfl,f9,(I.out.T g0 g6).B λn k=>by rw[U.out];grind⟩
      case measure=>simp[intOf];omega
    ·obtain rfl:m=r.2.length:=aa
     go_wp2;go_roundw
     case rel=>exact⟨x+1,b5,b2,aa,ba,s,G,I.out.B λn k=>(f5.out n k).symm⟩
     case measure=>simp[intOf];omega
  ·have a4:h.take x=h:=aJ;rw[a4]at d2;go_wp2;go_end0;exact⟨Y,T,rfl,E.Z.B s,d0,d2.out⟩
theorem LH(K:ju a d f l h n t)(O:∀r∈h,fP r)(N:h.length<=1048576)
  {p0 p1:Option Nat}(I:dD a p0 c e)(g:dD a p1 i o){sc:mg}{ed F1 F2:aW}(L:kr a sc ed F1 F2)(J:aO a b v y){Sg:bW->Nat->aC->Prop}
  (M:∀r∈h,∀k j,r.2[k]?=some j->fO c e i o j≠ []->kR (jH sc ed F1 F2) (gV r.1 j.a<|il r k)∧tO (jH sc ed F1 F2) (gV r.1 j.a<|il r k) (fO c e i o j) (Sg r k)):
  aH 330 #[f,.agg #[p0,p1],.agg #[sc.1,sc.2,sc.3],some b] a λD u=>∃j dv q,D=.returned (some j)∧au a u∧aO u j dv q∧(∀m,aX j dv m->a<=m)∧cJ a [] dv dF q (mh (fO c e i o) Sg v y h):=by
 have j:= @iW Tryz.prog;obtain⟨W,j⟩:=aT<|((((a.alloc<|.cells #[p0,p1] 158).alloc<|.cells #[sc.1,sc.2,sc.3] 444).alloc<|.cells #[some b] 99).alloc<|.map #[] 0).alloc<|.cells #[some<|a.1.size+1+1+1] 99;obtain⟨F,B⟩:=aT<|a.1.size+1+1+1+1;obtain⟨r,s⟩:=aT<|a.1.size+1+1+1;obtain⟨E,A⟩:=aT<|a.1.size+1+1;obtain⟨x,z⟩:=aT<|a.1.size+1;have C:au a W:=aw j<|(((ae.al.I _).I _).I _).I _
 have p:W.1[a.1.size]?=some (.cells #[p0,p1] 158):=by
  rw[j];exact((ae.al.I _).I _).O (ic _ _ _) id
 have G:W.1[x]?=some (.cells #[sc.1,sc.2,sc.3] 444):=by
  rw[j,z];exact((ae.al.I _).I _).O (eK _ _ _) id
 have H:W.1[E]?=some (.cells #[some b] 99):=by
  rw[j,A];have g:=cz ((a.alloc<|.cells #[p0,p1] 158).alloc<|.cells #[sc.1,sc.2,sc.3] 444)<|.cells #[some b] 99;rw[fV,fV]at g;exact(ae.al.I _).O g id
 have E:aO W r [] dF:=by
  refine⟨?_,af,af,af⟩;rw[j,s];have g:=aF.I (w:=((a.alloc<|.cells #[p0,p1] 158).alloc<|.cells #[sc.1,sc.2,sc.3] 444).alloc<|.cells #[some b] 99) (ok:=aL) (key:=cr) (enc:=eF);rw[fV,fV,fV]at g;exact g.B ae.al id
 have x:W.1[F]?=some (.cells #[some r] 99):=by
  rw[j,B,s];have g:=cz ((((a.alloc<|.cells #[p0,p1] 158).alloc<|.cells #[sc.1,sc.2,sc.3] 444).alloc<|.cells #[some b] 99).alloc<|.map #[] 0)<|.cells #[some<|a.1.size+1+1+1] 99;rw[fV,fV,fV,fV]at g;exact g
 have F:a<r:=aa
 obtain⟨s0,s1,-,-⟩:=bJ p;have F:=aP p;have F:=λ(u:ag)(p:au W u)=>UI (C.B p) K O N I g L J (E.B p i2) (λm g=>dT<|iF g) (p.O x id) (p.O G id) (p.O H id) M;go_enter func330,ntmps330;go_wp2;rw[<-j,<-B,<-s,<-A,<-z];clear j B s A z;apply dG (λk=>k==5) ah ah;intro j j j j j j j;refine aD ?_;refine aD ?_;refine aD ?_;refine aD ?_;refine aD ?_
 refine a_ λj j=>?_;go_wp2_with (go_at_call 341;refine(F _ (ae.T _ _).m).mono ?_;clear F;rintro D w2 ⟨dv,q,rfl,s,u,p⟩);apply j _ _ ah (cS ah);apply cR;have k:=ae.ft s;have s:=k.O x λj=>E.I j x rfl;have c4:=(cI _ _ 0 _ _ _ s).trans rfl;go_wp2;go_ret
 exact⟨r,dv,q,rfl,C.V k λm g=>.inl<|dT<|iF g,u,λm g=>(p.I g).elim (λj=>dT<|iF j) λj=>by
  have g:W.drew.1.size=W:=rfl
  omega,p.Y C.4⟩
structure I8(J:cU)(D:Bool->ByteArray->Seen)(m:Nat)(P:Nat->aC->Prop)(RS:List (Option (List aC))->Prop):Prop where
 some:∀i<m,∃t,P i t
 last:∀t,¬P m t
 init:RS (J.5.map λ_=>none)
 step:∀i<m,∀st st' xs,RS st->(∀t,t∈xs↔P i t)->xs.Nodup->iY D J xs st st'->st'.length=J.5.length->RS st'∧∀t,P (i+1) t↔t∈(eL D J xs st').map bD∧¬ ∃j<i+1,P j t
 inj:kR D J
theorem mo.I{w:ag}{D:Bool->ByteArray->Seen}(h:mo w b x D)(d:b<=f):mo w f x D:=⟨h.1,h.2,h.3,λs n a c=>kJ (h.4 s n a c) d⟩
structure KC(w0:ag)(N:Nat)(V:Bool->ByteArray->fT)(tb:Nat)(k:ai)(jb gb:Nat)(J:cU)(P:Nat->aC->Prop)(RS:List (Option (List aC))->Prop)(g o i fb:Nat)(w:ag):Prop where
 turn:au w0 w
 list:∃cs,w.1[g]?=some (.cells cs 457)∧cs[o]?=some (.pointer (some ⟨jb,0,none⟩))
 ex:∃dJ H aS G st R,aO w fb dJ H∧(∀n t,bm dJ H n t↔n=J.1.n∧P i t)∧(∀p∈dJ,∃t,bm dJ H p.1 t)∧
  aO w tb aS G∧(∀n t,bm aS G n t↔fp P J.1.n i n t)∧(∀p∈aS,∃t,bm aS G p.1 t)∧ia V w N k jb gb J st R∧RS st∧
  (∀b,aX fb dJ b->¬aX tb aS b)∧(∀b,aX tb aS b->w0.1.size<=b∧k b=none)∧∀b,dy st R b->¬aX tb aS b
theorem sizeOf444(w:ag):(sizeOf 444).run Tryz.prog w=.ok 3 w:=ah
theorem UB(a2:ju a d l b h n t)(i8:∀L∈h,fP L)(h9:h.length<=1048576)(c7:aO a b c y)
  {p0 p1:Option Nat}(f6:dD a p0 i e)(H:dD a p1 v o)
  (a4:∀L∈h,∀r b2,L.2[r]?=some b2->fO v o i e b2≠ []->kR (jH ⟨some b,p0,p1,c,i,v⟩ y e o) (gV L.1 b2.a<|il L r)∧tO (jH ⟨some b,p0,p1,c,i,v⟩ y e o) (gV L.1 b2.a<|il L r) (fO v o i e b2) (N L r))
  (g4:lN (gD h) h= [k])(e3:k.5≠ [])(ok:pX k)(i0:aL k.1.n)(d0:k.2.n=k.1.n)(m0:(aB c k.1.n).isSome=true)
  (b1:I8 k (jH ⟨some b,p0,p1,c,i,v⟩ y e o) f A b6)(g8:∀s j,mh (fO v o i e) N [] dF h s j↔s=k.1.n∧A 0 j):
  aH 327 #[l,.agg #[p0,p1]] a λz u=>∃b0 aS X e8,z=.returned (some b0)∧ae (aX b c) a u∧aO u b c e8∧(∀s j,bm c e8 s j↔bm c y s j∧¬fp A k.1.n f s j)∧aO u b0 aS X∧(∀g,aX b0 aS g->a<=g)∧(∀s j,bm aS X s j↔fp A k.1.n f s j)∧∀F∈aS,∃j,bm aS X F.1 j:=by
 have o7:= @iW Tryz.prog;obtain⟨Z,h2,h0,a0,-⟩:=df a<|.cells #[p0,p1] 158
 obtain⟨s0,s1,-,-⟩:=bJ a0;have i1:=aP a0;have g6:=a2.B h0;obtain⟨n4,n5,-,-⟩:=bJ g6.2;have m7:=aP g6.2;have i6:=λu=>UF (some b) p0 p1 u;go_enter func327,ntmps327;go_wp2_with (rw[<-h2];clear h2);refine wp_mono (Q:=λz j4 x=>z=.normal∧∃b3,au Z x∧Z.1.size<=b3∧x.1[b3]?=some (.cells #[some b,p0,p1] 444)∧j4={tmps:= #[.pointer<|some ⟨l,0,none⟩,.agg #[p0,p1],aj,.pointer<|some ⟨a.1.size,0,none⟩,.map none,.pointer<|some ⟨b3,0,none⟩,aj,aj,aj,.pointer<|some ⟨l,0,none⟩,.pointer<|some ⟨l,0,none⟩,.pointer<|some ⟨l,0,none⟩,.pointer<|some ⟨l,1,none⟩,.map<|some b,.agg #[p0,p1],.agg #[some b,p0,p1],aj,aj,aj,aj,aj,aj,aj,aj,aj,aj,aj,aj,aj,aj,aj,aj,aj,aj,aj,aj,aj,aj,aj,aj,aj,aj,aj,aj],defers:= []}) ?_ ?_
 ·have f9:au Z _:=(ae.T _ _).m;apply FB (λr=>r==6||r==7||r==8) [0,1,2,3,4,5] 6 [7,8] 7 [6,8] ah ah;intro n9 f4 g9 f3 f5 G;iterate 6 (refine ui uC ah bf bf λd g5=>?_;go_big_quiet_op;refine g5 _ ?_;clear g5 d)
  refine jU ⟨?_,?_⟩
  ·refine eU λC w=>?_;go_wp2_with (go_at_call 336;refine(i6 _).mono ?_;rintro z w4 ⟨rfl,d2⟩);have M:=f9.B d2;apply w _ _ ah (λ_=>G _ M);iterate 2
    refine eU λC w=>?_;go_wp2;refine w _ _ ah (λ_=>G _<|M.I _) ?_;clear w C
   exact jU ⟨trivial,_,M.I _,M.4,cz _ _,rfl⟩
  ·refine eU λC w=>?_;go_wp2;have f8:au Z<|Z.drew.alloc<|.cells #[.map none,.map none,.map none] 444:=f9.I _;refine w _ _ ah (λ_=>G _ f8) ?_;refine eU λC w=>?_;go_wp2_with (go_at_call 336;refine(i6 _).mono ?_;rintro z w4 ⟨rfl,d2⟩);have M:=f8.B d2;apply w _ _ ah (λ_=>G _ M);refine eU λC w=>?_;go_wp2_with (refine iV rfl (.tmp 5) (.tmp 15) rfl rfl (d2.O (cz _ _) id) rfl sizeOf444 rfl (by simp[eP]) ?_;intro x B V);have f7:=M.V B aa;apply w _ _ ah (λ_=>G _ f7);exact jU ⟨trivial,_,f7,aa,V,rfl⟩
 ·rintro z a5 x ⟨rfl,b3,B,l3,V,rfl⟩;dsimp only;have P:=h0.B B;obtain⟨ax,c1,c2,-⟩:=bq V;have h3:=aP V;have c9:∀u,au a u->kr u ⟨some b,p0,p1,c,i,v⟩ y e o:=λu q=>⟨.inr ⟨b,rfl,c7.B q i2⟩,f6.B q,H.B q⟩;have d3:=λ(u:ag)(q:au a u)=>EX (a2.B q) i8 h9<|c9 u q;rw[g4]at d3;clear g4;dsimp only at d3;go_wp2_with (go_at_call 337;refine(d3 _<|P.I _).mono ?_;clear d3;rintro z d5 ⟨j0,a9,n2,rfl,D,e5,h8,h5,m2⟩);have g0:aO (x.alloc<|.map #[] 0) x.1.size [] dF:=⟨aF.I,af,af,af⟩;have b5:=g0.B D i2;have J:=(P.I<|.map #[] 0).B D;have e4:=(B.I<|.map #[] 0).B D;obtain⟨W,rfl⟩:∃W,n2= [(W,k)]:=by
   simp_all
  obtain⟨b4,cap,cs,rfl,o3,a7,a6⟩:=aM.iz h8;obtain⟨G,I⟩:=(h5 (W,k) af).O;dsimp only at I;obtain⟨Y,c6⟩:=aT<|(x.alloc<|.map #[] 0).1.size;have k6:x.1.size<Y:=cw c6
  have o2:Y<=d5.1.size:=aw c6 D.4
  have i5:=P.4;rw[<-c6]at I e5;have m4:a9 x.1.size=none:=by
   cases m3:a9 x.1.size with
   |none=>rfl
   |some iX=>
    obtain E|E:=e5.2 _ _ m3
    ·have:=a2.1.O E;omega
    omega
  have m5:∀g,d5.1.size<=g->a9 g=none:=λg m=>I.1.I m;obtain⟨s0,s1,-,-⟩:=bJ<|e4.O a0 id;have i1:=aP<|e4.O a0 id;have e2:=((ae.T bE x).I<|.map #[] 0).B D|>.O V id;obtain⟨ax,c1,c2,-⟩:=bq e2;have h3:=aP e2;obtain⟨d4,i4⟩:=aT x.1.size;rw[<-i4]at b5 k6 m4 i5⊢;have n1:∀u,au a u->mo u Y (jm ⟨some b,p0,p1,c,i,v⟩ ⟨some b,p0,p1,c,i,v⟩) (jH ⟨some b,p0,p1,c,i,v⟩ y e o):=λu q=>((yY (c9 a<|ae.T _ _)<|c9 a<|ae.T _ _).I aa).B q i2;have i7:=λu=>UG p0 p1 u;have e7:=λ(u:ag)(q:au d5 u)=>LH (a2.B<|J.B q) i8 h9 (H.B<|J.B q) (f6.B<|J.B q) (c9 u<|J.B q) (b5.B q i2) a4;dsimp only at e7;clear D g0 h8 h5 m2 i4 c6 e5 V l3 B e4 P a0;refine dG (λr=>r==2||r==5||r==6) ah ah ?_;intro j3 f4 g9 f3 j7 f5 d9;refine aD ?_;refine aD ?_
  refine a_ λC w=>?_;go_wp2_with (go_at_call 338;refine(i7 _).mono ?_;clear i7;rintro z n6 ⟨rfl,a8⟩);have a1:=ae.ft a8;refine w _ _ ah (λ_=>d9 _ a1.below) ?_;clear w C;refine aD ?_;refine aD ?_
  refine a_ λC w=>?_;go_wp2_with (go_at_call 330;refine(e7 _ a1).mono ?_;clear e7;rintro z n7 ⟨j6,dJ,d7,rfl,i3,g3,l6,e0⟩);have O:=a1.B i3;refine w _ _ ah (λ_=>d9 _ O.below) ?_;clear w C;refine a_ λC w=>?_;go_wp2;refine w _ _ ah (cS ah) ?_;clear w C;refine cR ?_;have h1:=J.B O;have p4:=a1.4;have m1:KC a Y (jm ⟨some b,p0,p1,c,i,v⟩ ⟨some b,p0,p1,c,i,v⟩) d4 a9 W G k A b6 b4 0 0 j6 n7:=by
   refine⟨h1,⟨cs,O.O a7 id,a6⟩,dJ,d7,[],dF,_,_,g3,λs j=>(e0.O.1 s j).trans<|g8 s j,e0.O.2,b5.B O i2,λs j=>by unfold fp bm;simp[aB],(λ_ p=>nomatch p),I.B O,b1.3,λg m p=>?_,λg m=>?_,λg m=>?_⟩
   ·have E:=iF p;grind
   ·rw[iF m];grind
   ·obtain⟨r,o0,o5,-⟩:=m;grind
  have j9:=O.4;clear f3 j7 f5 d9 g9 f4 j3 a7 a6 g3 l6 e0 I b5 a8 i3 a1 O J h1 s0 s1 i1 ax c1 c2 h3 e2 g8;go_wp2
  go_loopg [8] f (λgk j0 wr=>∃r d8,r+gk=f∧j0=.map (some d8)∧d5.1.size<=wr.1.size∧KC a Y (jm ⟨some b,p0,p1,c,i,v⟩ ⟨some b,p0,p1,c,i,v⟩) d4 a9 W G k A b6 b4 0 r d8 wr)
  case atStart=>grind
  case round=>
   clear m1 j9;obtain⟨r,d8,o6,rfl,p3,a3,⟨cs,a4,a6⟩,dJ,d7,aS,X,st,f0,c3,b9,l8,U,b8,e1,aK,k8,f1,S,f2⟩:=hrel;by_cases h6:r<f
   ·obtain⟨j8,rfl⟩:=jX gk;have o8:0<dJ.length:=by
     obtain⟨j,q⟩:=b1.1 r h6;have H:=((b9 _ j).2 ⟨rfl,q⟩).1;cases dJ with
     |nil=>cases H
     |cons _ _=>simp
    have c1:=xU U c3 f1;obtain⟨o1,a7,-⟩:=aK.6.4 e3;have o4:=aP a4;go_wp2_with (first|(at_len;refine nB underlying99 rfl (.tmp 26) rfl rfl c3.1 ?_)|(go_at_call 329;refine c1.mono ?_;clear c1;rintro z x ⟨R,d6,rfl,B,b7,T⟩;have k2:=c3.B B f1;have k3:=aK.I e3 U B (λg m=>(S g m).2) f2;have d1:=B.O a4 λp=>U.I p a4 rfl;have P:=a3.V B λg m=>.inl (S g m).1;have i5:=B.4;have j5:x.cell? ⟨b4,0,none⟩=some (.pointer<|some ⟨W,0,none⟩):=(cI x b4 0 _ 457 (0,0) d1).trans a6;have c4:=LL k3 (n1 _ P) aa ok e3 b1.5 i0 (aw d0 i0) (cap:=cap) j5 k2 b7)|(go_at_call 339;refine c4.mono ?_;clear c4;rintro z rK ⟨b0,dv,br,o9,n8,i9,j2,rfl,k4,m8,g1,e6,I,l4,m9,D,l7⟩));have h4:=B.O a7 λp=>U.I p a7 rfl;have n0:∀g,dy _ f0 g->g<wr.1.size:=λg m=>aK.6.B m
    obtain⟨k9,k7⟩:=b1.4 r h6 st i9 n8 k8 (λj=>by
     have H:=b9 k.1.n j;have E:= @pk dJ d7 k.2.n j;rw[d0,H]at E;constructor
     ·exact λp=>(E.1<|d0▸e6.2.1 j p).2
     ·exact λp=>e6.1 j<|aw d0<|E.2 ⟨rfl,p⟩) e6.2.2 l4 I.6.1
    have g2:∀s j,bm R d6 s j↔fp A k.1.n (r+1) s j:=λs j=>by rw[T.2,b8,b9,EC]
    have k5:∀s j,bm dv br s j↔s=k.1.n∧A (r+1) j:=λs j=>by
     rw[g1.O.1,k7];unfold lG;rw[(m9.map _).mem_iff,g2];unfold fp;simp
    have k1:∀F∈R,∃j,bm R d6 F.1 j:=λF K=>by
     obtain⟨n3,m6,H⟩:=T.1;rw[m6]at K;obtain K|K:=gX.1 K
     ·obtain⟨j,q⟩:=e1 F K;exact⟨j,(T.2 _ _).2<|.inl q⟩
     ·obtain⟨_,j,q⟩:=H F K;exact⟨j,(T.2 _ _).2<|.inr q⟩
    have J:=P.V D λg (m:g=G)=>.inl<|aI aK.6.2;have l9:=D.O d1 (λz=>by rw[z,h4]at d1;cases d1);have p2:=D.4;have l5:∀g,dy st f0 g->¬aX d4 R g:=λg m p=>(T.I p).elim (f2 g m) λp=>aI<|n0 g m
    have h7:∀g,aX d4 R g->g<x.1.size:=λg m=>b7.U m
    go_roundg j8
    case measure=>exact pG _
    case rel=>
     refine⟨r+1,b0,aa,rfl,aa,J,⟨cs,l9,a6⟩,dv,br,R,d6,i9,j2,k4,k5,g1.O.2,b7.B D λg m=>b7.I m h4,g2,k1,I,k9,λg m p=>?_,λg m=>?_,λg m p=>?_⟩
     ·have:=m8 g m;have:=h7 g p;omega
     ·rcases T.I m with p|p
      ·exact S g p
      ·exact⟨aI a3.4,m5 g aa⟩
     ·rcases(l7 g).1 m with E|E
      ·exact l5 g E p
      ·have:=h7 g p;omega
   ·obtain rfl:r=f:=aa
    have l2:dJ= []:=by
     cases dJ with
     |nil=>rfl
     |cons F n3=>
      obtain⟨j,q⟩:=l8 F<|jM ..;exact absurd ((b9 _ _).1 q).2<|b1.2 j
    subst l2;have g7:=a2.B a3;obtain⟨n4,n5,-,-⟩:=bJ g7.2;have m7:=aP g7.2;have l1:=c7.B a3 i2
    have c8:=L3 l1 U (λg m p=>dX ((S g m).1)<|c7.U p) (λF K=>by
     obtain⟨j,q⟩:=e1 F K;rw[((b8 _ _).1 q).1]
     exact m0)
    go_wp2_with (first|(at_len;refine nB underlying99 rfl (.tmp 26) rfl rfl c3.1 ?_)|(go_at_call 82;refine c8.mono ?_;clear c8;rintro z n6 ⟨j1,rfl,a8,l0,k0⟩));go_ret;refine⟨_,aS,X,j1,rfl,a3.Z.B a8,l0,λs j=>by rw[k0,b8],U.B a8 λg m p=>?_,λg m=>(S g m).1,b8,e1⟩;have:=(S g m).1;have:=c7.U p;omega
def jB(r:bW):cU:=gV r.1 r.1 (r.2.map (gH false))
theorem ia.T(h:ia x a b d f l k p F)(y:b<=a):∃g,ia x a b d f g k p F∧((∃cs,a.1[g]?=some (.cells cs 497))∨a<=g):=by
 by_cases e:k.5= [];obtain⟨g,u,v,c,⟨z,A,o,q,B,C,r,t,m,a2,a3,a4,a5⟩,n⟩:=h;have j:∀(i:Nat) T,p[i]? ≠some T:=λi T c=>by
  have w:=(iw.1 c).1;rw[n.1,e]at w;grind
 exact⟨_,⟨g,u,v,aI<|aP m,⟨z,A,o,q,B,C,r,t,m,a2,a3,a4,λh=>absurd e h⟩,⟨n.1,y,g.I<|aa,λh=>absurd e h,λi s T _ c=>absurd c<|j _ _,λi T c=>absurd c<|j _ _,λi i T U c=>absurd c<|j _ _⟩⟩,aa⟩;obtain⟨cs,g,-⟩:=h.6.4 e;grind
theorem UH(N:d.In a)(M:d.list 2 dV (.slice n g.1.2 f) g.1.2)(a0:d.list 3 fM (.slice H g.2 l) g.2)(ok:fP g)(d4:aO a b c e)
  (f5:ai.map (λB=>a.1[B]?) bF bh bX C<|aR P)(f4:P.length<=1048576)(x: ¬(cX g).6/max 1 P.length<(jB g).6/mJ (c5 g.1.2))(d8:(cX g).6<=1099511627776)(d9:(jB g).6<=1099511627776)(e3:kR (dU c e)<|jB g)(e4:tO (dU c e) (jB g) P λ_=>False):
  aH 340 #[.agg #[g.1.n,.slice n g.1.2 f,.slice H g.2 l],C,some b] a λm i=>∃B,m=.returned (some B)∧a.1.size<=B∧au a i∧aF i bF bh bX B []:=by
 have h6:= @iW Tryz.prog;obtain⟨W,a8,w,K,-⟩:=df a<|.cells #[g.1.n,.slice n g.1.2.length f,.slice H g.2.length l] 318
 obtain⟨R,a1,a2,-⟩:=bq K;have a9:=aP K;have G:∀i:ag,au W i->kr i (jF (some b) c) e (λ_=> []) (λ_=> []):=λi q=>⟨.inr ⟨b,rfl,d4.B (w.B q) i2⟩,.inl ⟨rfl,rfl⟩,.inl ⟨rfl,rfl⟩⟩;have c1:=λi=>xV (some b) i;have c2:=λ(i:ag)(q:au W _)=>UO (N.B (w.B q) i3) M a0 ok<|G i q;have c3:=λ(i:ag)(q:au W _)=>LP (N.B (w.B q) i3) M a0 ok<|G i q;simp only[jF]at c2 c3;have b7:(aR P).length=P.length:=by simp[aR]
 have f6:=oB ok.2;have e6:0<mJ (c5 g.1.2):=by unfold mJ;exact Nat.two_pow_pos _
 have b4:=BW (head:=g.1) (first:=g.1) (others:=g.2.map<|gH false) ok.1 ok.2 ok.1 ok.2 (aw di ok.4)<|qX ok.5;change pX (jB g)at b4;go_enter func340,ntmps340;go_wp2_with (rw[<-a8];clear a8);apply dG (λr=>r==2||r==3) ah ah;intro S V a6 T U X o;refine aD ?_;refine aD ?_
 refine a_ λj h=>?_;go_wp2_with (go_at_call 331;refine(c1 _).mono ?_;rintro m w2 ⟨rfl,br⟩);have p:=ae.ft br;apply h _ _ ah (λ_=>o _ p.below);clear h j;refine a_ λj h=>?_;go_wp2_with (go_at_call 355;refine(c2 _ p).mono ?_;clear c2;rintro m w3 ⟨f9,g1,rfl,I,h1,a3⟩);have s:=p.B I;apply h _ _ ah (λ_=>o _ s.below);clear h j;refine aD ?_;refine aD ?_;refine aD ?_
 apply cR;change iu _ w3 w2.1.size g1 f9 (jB g)at a3;obtain⟨g9,e7⟩:=a3.O;have e8:=(yY (G _ p)<|G _ p).B I i2;have L:=s.O K id;obtain⟨R,a1,a2,-⟩:=bq L;have a9:=aP L;have h8:=p.4;go_wp2;apply dG (λr=>r==2||r==3) ah ah;intro S V a6 T U X o;refine aD ?_;refine aD ?_
 refine a_ λj h=>?_;go_wp2_with (go_at_call 331;refine(c1 _).mono ?_;rintro m w4 ⟨rfl,f0⟩);have D:=ae.ft f0;apply h _ _ ah (λ_=>o _ D.below);clear h j;refine a_ λj h=>?_;go_wp2_with (go_at_call 356;refine(c3 _<|s.B D).mono ?_;clear c3;rintro m c9 ⟨g0,g2,rfl,f1,-,a4⟩);have k:=D.B f1;apply h _ _ ah (λ_=>o _ k.below);clear h j;refine aD ?_;apply cR;change iu _ c9 w4.1.size g2 g0 (cX g)at a4;have b5:=e7.B k;obtain⟨_,_,_,_,_,_,_,_,b8,-⟩:=b5.5;obtain⟨_,_,_,_,_,_,_,_,ax,-⟩:=a4.4;obtain⟨-,-,-,-,-,-,-,g4⟩:=uw b8;obtain⟨-,-,-,-,-,-,-,g5⟩:=uw ax;have h4:=aP b8;have h5:=aP ax;have Z:=k.O L id;obtain⟨R,a1,a2,-⟩:=bq Z;have a9:=aP Z;have aK:=ai.B f5<|(w.B s).B k;have c6:=λ(i:ag)(q:au _ i)=>vV (N.B (((w.B s).B k).B q) i3) (⟨_,rfl,M⟩:mn d _ _) ok.1 ok.2;have c7:=λi=>LQ _ f6 i;generalize mJ (c5 g.1.2)=E at c7 x e6;generalize c5 g.1.2=i1 at c6 c7;generalize kW:(cX g).6=sJ at g5 x d8;generalize ig:(jB g).6=ch at g4 x d9;replace kW:ay _:=kW;replace ig:ay _:=ig;generalize b3:P.length=u at x b7 f4;replace b3:ay _:=b3;go_wp2;apply dG (λr=>r==5||r==14||r==15) ah ah;intro S V a6 T U X o;refine aD ?_;refine aD ?_;refine aD ?_;refine aD ?_;refine aD ?_
 refine a_ λj h=>?_;go_wp2_with (at_len;refine zl underlying123 rfl (.tmp 25) rfl rfl (ai.B aK (ae.T bE c9).m) ?_;rw[b7]);apply h _ _ ah (λ_=>o _ (ae.T _ _).m.below);refine aD ?_;refine aD ?_;refine aD ?_;refine aD ?_;refine aD ?_;refine aD ?_;refine aD ?_;refine aD ?_
 refine a_ λj h=>?_;go_wp2_with (go_at_call 322;refine(c6 _ (ae.T _ _).m).mono ?_;clear c6;rintro m i4 ⟨rfl,f2⟩);have Y:=ae.ft f2;apply h _ _ ah (λ_=>o _ Y.below);refine a_ λj h=>?_;go_wp2_with (go_at_call 357;refine(c7 _).mono ?_;clear c7;rintro m Q ⟨rfl,f3⟩);have t:=Y.B f3;apply h _ _ ah (λ_=>o _ t.below);clear h j;refine aD ?_;refine aD ?_
 apply cR;have b0:decide (wrap64 ((sJ:Int) /max 1 (u:Int))<wrap64 ((ch:Int) / (E:Int)))=false:=by
  have d0:(sJ:Int) /max 1 (u:Int)=((sJ/max 1 u:Nat):Int):=by
   rw[show max 1 (u:Int)=((max 1 u:Nat):Int) by omega,Ks]
  have d1:(ch:Int) / (E:Int)=((ch/E:Nat):Int):=(Ks _ _).symm;have b1:sJ/max 1 u<=sJ:=Kh _ _;have b2:ch/E<=ch:=Kh _ _;rw[decide_eq_false_iff_not,d0,d1];generalize sJ/max 1 u=i7 at x b1;generalize ch/E=i8 at x b2;unfold wrap64;omega
 have h9:=k.4;have a7:=((w.B s).B k).B t;have f8:=a7.4;have e0:∀A z (y:List<|aC×Nat),eQ P A->iY (dU c e) (jB g) A ((jB g).5.map λ_=>none) z->z.length=(jB g).5.length->y.Perm (eL (dU c e) (jB g) A z)->y= []:=λA z y J p s D=>by
  have k:=e4 _ _ J p s;cases y with
  |nil=>rfl
  |cons g3 i0=>exact((k _).1<|ei.2 ⟨g3,D.mem_iff.1<|jM ..,rfl⟩).elim
 have F:aF _ bF bh bX Q.1.size _:=aF.I;obtain⟨i5,O,v,-⟩:=df Q<|.map #[] 0;rw[<-O]at F
 obtain⟨d2,b6,e1⟩:=((b5.B t).B v).T<|AY I.4 t.4 v.4;have e2: ¬Q.1.size=d2:=λm=>by
  obtain⟨cs,J⟩|J:=e1
  ·obtain⟨g8,cl,p,_⟩:=F;grind
  ·have:=F.O;omega
 have h2:=b6.6.2;have c8:=Br b6 (((e8.B k i2).B t i2).B v i2) (AY I.4 t.4 v.4) b4 (ai.B (ai.B aK t) v) e3;rw[b0];clear b0;go_wp2_with (first|(rw[<-O];clear O)|(go_at_call 345;refine c8.mono ?_;clear c8;rintro m i6 ⟨h0,y,A,z,g7,rfl,h3,a5,f7,d3,d7,e5,c4,-⟩;obtain rfl:=e0 A z y f7 d7 d3.6.1 e5)|(at_range;refine lY underlying324 rfl (.tmp 45) rfl rfl a5 ?_;intro g6 b9 h7 d6));have d5:=(F.B c4 e2).B b9 id;go_frame
 go_loopg [] 0 (λgk wr=>gk=0∧wr=g6)
 case atStart=>grind
 case round=>
  obtain⟨rfl,rfl⟩:=hrel;go_wp2_with (at_next;refine lX iQ rfl (.tmp 46) rfl rfl d6 (aI a5.O) ?_ ?_)
  ·go_ret;exact⟨_,rfl,f8,((a7.B v).V c4 aa).B b9,d5⟩
end
section
section
variable{P:bj}{ops:Array bG}{C:ag->Prop}{fx:Nat->Bool}
inductive kn where
 |leaf (l:List Nat)
 |fork (pre:List Nat) (i:Nat) (l:kn) (j:Nat) (r:kn)
def kn.B:kn->Nat
 | .leaf l=>l.length
 | .fork pre _ l _ _=>pre.length+(l.B+1)
def kn.O(P:bj)(ops:Array bG)(C:ag->Prop)(fx:Nat->Bool)(Q:Act->ag->Prop):kn->Act->ag->Prop
 | .leaf l=>eW P ops C fx Q l
 | .fork pre i l j r=>eW P ops C fx (λa w=>eW P ops C fx (l.O P ops C fx Q) [i] a w∧eW P ops C fx (r.O P ops C fx Q) [j] a w) pre
def kn.T(ops:Array bG)(fx:Nat->Bool):kn->Array Bool->Bool
 | .leaf l,L=>qY ops fx l L&&(er .any ops (kX l L)== [])
 | .fork pre i l j r,L=>qY ops fx pre L&&(er .any ops (kX pre L)== [i,j])&&l.T ops fx ((kX pre L).setIfInBounds i true)&&r.T ops fx ((kX pre L).setIfInBounds j true)&&(l.B==r.B)
theorem kn.I{Q:Act->ag->Prop}(g:uV ops=true):∀(t:kn)L(a:Act)w,t.T ops fx L=true->Inv .any ops C fx L w->t.O P ops C fx Q a w->jL P .any ops C fx Q t.B L a w
 | .leaf l,L,a,w,d,b,h=>by
  simp[kn.T]at d;exact wV g l 0 _ a w d.1 b<|zi (λa w z _=>⟨d.2,z⟩) l a w h
 | .fork pre B l D r,L,a,w,d,b,h=>by
  simp[kn.T]at d;obtain⟨⟨⟨⟨b1,b2⟩,s⟩,u⟩,y⟩:=d;have step:∀(t:kn)(x:Nat)(o:bG)(a:Act)(w:ag),ops[x]?=some o->x∈er .any ops (kX pre L)->Inv .any ops C fx (kX pre L) w->(∀a w,Inv .any ops C fx ((kX pre L).setIfInBounds x true) w->t.O P ops C fx Q a w->jL P .any ops C fx Q t.B ((kX pre L).setIfInBounds x true) a w)->
    eW P ops C fx (t.O P ops C fx Q) [x] a w->gZ P .any ops C fx x o (jL P .any ops C fx Q t.B<|(kX pre L).setIfInBounds x true) a w:=by
   intro t x o a w f p b q h;unfold eW at h;rw[f]at h;dsimp only at h;unfold gZ at h⊢;split at h;rename_i c;rw[if_pos c];exact Oper.B (λv w' e=>⟨e.1,q _ _ (b.I p c.1 e.1) e.2⟩) h;rename_i c;rw[if_neg c];obtain⟨v,A,e⟩:=h;exact⟨v,A,q _ _ (b.B p) e⟩
  refine wV g _ _ _ a _ b1 b<|zi (λa w n b=>?_) _ a _ h;refine⟨λm=>?_,λx j o f=>?_⟩;rw[b2]at m;cases m;have k:=j;rw[b2]at k;simp at k;obtain rfl|rfl:=k;exact step l _ o a w f j b (λa w i c=>kn.I g l _ a w s i c) n.1;rw[y];exact step r _ o a w f j b (λa w i c=>kn.I g r _ a w u i c) n.2
theorem XI{Q:Exit->Act->ag->Prop}{a:Act}{w:ag}{l:List bG}D(fx:Nat->Bool)(t:kn)(i:P.follows .mixedOrders=true)(f:(uV l.toArray&&t.T l.toArray fx (ml l.toArray false)&&(t.B==l.toArray))=true)
  (h:∀(S:Type)(g:S->ag),Nonempty S->(∀x c o,c<w.1.size->¬D c->(g x).cell? ⟨c,o,none⟩=w.cell? ⟨c,o,none⟩)->(∀x c,c<w.1.size->¬D c->(g x).1[c]?=w.1[c]?)->(∀d,ae D w d->∃x,d=g x)->
   t.O P l.toArray (λd=>∃x,d=g x) fx (λe d=>Q .normal e d) a w.drew):(Code.region b l.toArray true).wp P Q a w:=by
 have g:ae D w _:=(ae.T _ _).m;simp only[j_,beq_iff_eq]at f;obtain⟨⟨j,b1⟩,b2⟩:=f;have k:Shut .any l.toArray<|ml l.toArray false:=λf o _ h=>by simp[Io]at h;grind
 have f:∃x:{d//ae D w d},w.drew=x.1:=iq;refine J3 i<|uG (C:=λd=>∃x:{d//ae D w d},d=x.1) (fx:=fx) (Q:=λe d=>Q .normal e d) af _ _ _ _ ⟨aa,.inl f⟩ ?_;generalize ml l.toArray.size false=d at b1 k⊢;rw[<-b2];exact kn.I j t _ a _ b1 ⟨aa,.inl f⟩ (h _ _ ⟨⟨_,g⟩⟩ (λx c o d e=>Ip (a:=⟨c,o,_⟩)<|x.2.5 c d e) (λx c d e=>x.2.5 c d e) af)
end
structure Ep(D:Bool->ByteArray->Seen)(r:bW)(ts:List aC):Prop where
 len:ts.length<=1048576
 cost: ¬(cX r).6/max 1 ts.length<(jB r).6/mJ (c5 r.1.2)
 c1:(cX r).6<=1099511627776
 c2:(jB r).6<=1099511627776
 inj:kR D (jB r)
 keys:tO D (jB r) ts λ_=>False
variable{b9:eO×Lay}{c i:bO}{e o:aW}
theorem UC{g9:Option bC}(T:ju a d f l h g9 t)(j9:∀r∈h,fP r)(m1:h.length<=1048576)(i8:aO a l i o)
  (i9:aO a b c e)(a5:∀r∈h,cd c e r.1.n≠ []->Ep (dU i o) r (cd c e r.1.n)):
  aH 328 #[f,some b] a λp x=>∃e6 N,p=.returned (some e6)∧a.1.size<=e6∧au a x∧aO x e6 [] N:=by
 have m0:= @iW Tryz.prog;obtain⟨k0,k3,g6,j1⟩:=T.3.U T.1;obtain⟨rfl,rfl⟩:g9=k0∧t=k3:=aV g6
 clear g6;obtain⟨e5,l1,-,-⟩:=bJ T.2;have f9:=aP T.2;obtain⟨b1,b6,d5,-⟩:=df a<|.map #[] 0
 have d3:aO b1 a.1.size [] dF:=by rw[b6];exact⟨aF.I,af,af,af⟩
 have k9:a.1.size<b1.1.size:=cw b6
 have j5:=d5.Y e5 id;have j6:=d5.Y l1 id;obtain⟨H,e0⟩:=aT a.1.size;rw[<-e0]at d3;go_enter func328,ntmps328;go_wp2_with (rw[<-b6,<-e0];clear b6);have j3:a.1.size<=H:=aa
 have l5:H<b1.1.size:=aa
 clear e0
 go_loopw [16] (λG wr=>∃(z:Nat)(N:aW),z<=h.length∧G=.int .i64 z∧ae (·=H) b1 wr∧aO wr H [] N) (λG _=>h.length-(intOf G).toNat)
 case atStart=>exact⟨0,_,aa,rfl,.T _ _,d3⟩
 case round=>
  clear d3 j5 j6;obtain⟨z,e7,l7,rfl,d6,b4⟩:=hrel;have U:=d5.V d6 λb2 V=>.inl aa;have Y:=T.B U;obtain⟨e5,l1,-,-⟩:=bJ Y.2;have f9:=aP Y.2;by_cases j7:z<h.length
  ·obtain⟨r,e3⟩:∃k5,h[z]?=some k5:=⟨_,cy j7⟩;obtain⟨k8,m4,cc,rfl,j2,i7,f5⟩:=j1 z r e3;have g3:=cA e3;have h0:=j9 r g3;have e2:=a5 r g3;obtain⟨d8,d9,cv,c6,rfl,f4,f3,l3⟩:=i7;obtain⟨ax,c1,c2⟩:=U.ab f5 id;clear e3 f5 j2;obtain⟨k4,a9,M,-⟩:=df wr<|.cells #[r.1.n,.slice d8 r.1.2.length d9,.slice cv r.2.length c6] 318
   have b3:k4.1[wr.1.size]?=some (.cells #[r.1.n,.slice d8 r.1.2.length d9,.slice cv r.2.length c6] 318):=aw a9<|cz _ _
   obtain⟨h6,a1,a2,-⟩:=bq b3;have j0:=aP b3;have P:=λx=>xT (n:=r.1.n) (a1:=d8) (a2:=cv) (l1:=r.1.2.length) (l2:=r.2.length) (k1:=d9) (k2:=c6) x;have b5:=i9.B U i2;obtain⟨g8,e1⟩:=aT<|aB c r.1.n;have g2:(aB c r.1.n).elim (.map none) eF=.map g8:=by rw[e1];cases aB c r.1.n<;>rfl
   have a0:ai.map (λb2=>wr.1[b2]?) bF bh bX (.map g8)<|aR<|cd c e r.1.n:=by
    have e8:=(show dD wr (some b) c e from .inr ⟨b,rfl,b5⟩).O r.1.n;rw[<-e1]at e8;exact e8
   clear e1;have a4:=h0.3;have b7:(aR<|cd c e r.1.n).length=(cd c e r.1.n).length:=by simp[aR]
   generalize cd c e r.1.n=d0 at a0 e2 b7;by_cases f8:d0= []
   ·go_wp2_with (first|(rw[<-a9];clear a9)|(go_at_call 323;refine(P _).mono ?_;clear P;rintro p w2 ⟨rfl,C⟩)|(at_lookup;refine iH bZ underlying99 jZ rfl (.tmp 20) (.tmp 22) rfl rfl (bU _) ((b5.B M i2).B C i2).1.T rfl a4 g2 ?_)|(at_len;refine zl underlying123 rfl (.tmp 24) rfl rfl (ai.B (ai.B a0 M) C) ?_;rw[b7]));go_roundw
    case rel=>exact⟨z+1,e7,aa,ba,(d6.ac M).ac C,(b4.B M i2).B C i2⟩
    case measure=>simp[intOf];omega
   ·have j8:0<d0.length:=by
     cases d0 with
     |nil=>grind
     |cons _ _=>simp
    have Q:=e2 f8;clear e2;have J:=λ(x:ag)(O:au wr x)=>UH (T.1.B (U.B O) i3) f4 f3 h0 (i8.B (U.B O) i2) (ai.B a0 O) Q.1 Q.2 Q.3 Q.4 Q.5 Q.6;clear Q;go_wp2_with (first|(rw[<-a9];clear a9)|(go_at_call 323;refine(P _).mono ?_;rintro p w2 ⟨rfl,C⟩)|(at_lookup;refine iH bZ underlying99 jZ rfl (.tmp 20) (.tmp 22) rfl rfl (bU _) ((b5.B M i2).B C i2).1.T rfl a4 g2 ?_)|(at_len;refine zl underlying123 rfl (.tmp 24) rfl rfl (ai.B (ai.B a0 M) C) ?_;rw[b7]));obtain⟨m5,g4⟩:=aT wr.1.size;have d1:=C.O b3 id;rw[<-g4]at d1⊢;clear g4;have R:=M.B C;have m3:=R.4;obtain⟨h6,a1,a2,-⟩:=bq d1;have j0:=aP d1;obtain⟨e5,l1,-,-⟩:=bJ<|R.O Y.2 id;have f9:=aP<|R.O Y.2 id;have f1:=b4.B R i2;have l6:=f1.1.O;have d7:=d6.ac R;have J:=λ(x:ag)(O:au w2 x)=>J x<|R.B O;have e4:∀(E:ag)(k q:Nat),au w2 E->w2.1.size<=k->w2.1.size<=q->k≠q->aF E bF bh bX q []->∀y,ae (·=k) E y->aF y aL cr eF k (cK [] r.1.n q)->au w2 y∧aH 329 #[some H,some k] y λp x=>∃N,p=.returned (.tuple #[])∧ae (·=H) y x∧aO x H [] N:=λE k q v l9 l4 m2 i4 y I i5=>by
     have br:=v.V I aa;have i6:aO _ _ [(r.1.n,q)] dF:=⟨i5,λc4 a5=>by cases ir.1 a5;exact i4.B I aa,af,λc4 a5=>by grind⟩;refine⟨br,(xU (f1.B br i2) i6 λb2 V h8=>?_).mono ?_⟩
     ·have l0:=iF h8;obtain V|⟨c4,a5,V⟩:=V
      omega
      grind
     ·rintro p m7 ⟨h7,N,rfl,B,i0,i1⟩;obtain⟨g7,j4,h9⟩:=i1.1;cases g7 with
      |nil=>
       obtain rfl:h7= []:=j4;exact⟨N,rfl,B.cW λb2 _ V=>iF V,i0⟩
      |cons c4 g7=>
       obtain⟨_,m6,_,O⟩:=h9 c4<|jM ..;exact nomatch O
    clear b5 a0 b7 f8 j8 M C R b3 Y b4 f4 f3 ax c1 c2;refine XI bE (λG=>G==1||G==3||G==11||G==12||G==14) (.fork [0,2,4,5,6,7,8,9,10] 1 (.leaf [3,11,12,13,14]) 3<|.fork [] 1 (.leaf [11,12,13,14]) 11<|.leaf [1,12,13,14]) ah ah ?_;intro aK c8 d4 c7 c9 s;have f0:au w2 w2.drew:=(ae.T _ _).m;change eW _ _ _ _ _ _ _ _;iterate 9 (refine ui uC ah bf bf λd f2=>?_;go_big_quiet_op;refine f2 _ ?_;clear f2 d)
    refine jU ⟨?_,?_⟩
    ·skip
     refine eU λj g=>?_;go_wp2;have d2:aF ((w2.alloc<|.map _ 0).drew) aL cr eF w2 _:=aF.I (w:=w2.drew);have b0:au w2.drew<|(w2.alloc<|.map #[] 0).drew:=ae.al;obtain⟨w3,b8⟩:=aT<|(w2.alloc<|.map #[] 0).drew;let⟨k,m⟩:=aT w2.1.size;have a3:w2<=k:=aa
     rw[<-b8,<-m]at d2;rw[<-b8]at b0;rw[<-b8,<-m];have A:=f0.B b0;have g1:=d2.O;have g0:w2.drew<=k:=aw m<|cP _
     clear b8 m;have k7:=b0.4;have k6:=A.4;apply g _ _ ah (λ_=>s _ A);clear g j;apply jU;refine eU λj g=>?_;go_wp2_with (go_at_call 323;refine(P _).mono ?_;clear P;rintro p w4 ⟨rfl,a6⟩);have L:=a6;have u:=A.B a6;have h4:=L.4;have h2:=u.4;apply g _ _ ah (λ_=>s _ u);clear g j;refine eU λj g=>?_;go_wp2_with (go_at_call 340;refine(J _ u).mono ?_;clear J;rintro p E ⟨q,rfl,f6,a7,F⟩);have v:=u.B a7;have D:=a7;have f7:=F.O;have h5:=D.4;have h3:=v.4;apply g _ _ ah (λ_=>s _ v);clear g j;refine eU λj g=>?_;go_wp2_with (refine zk bZ underlying99 rfl (.tmp 28) (.tmp 30) (.tmp 38) rfl rfl ((d2.B L id).B D id) rfl a4 q rfl ?_;intro y I Z);obtain⟨B,K⟩:=e4 _ k _ v a3 aa aa F y I Z;refine g _ _ ah (λ_=>s _ B) ?_;clear g j;refine yj ?_;refine eU λj g=>?_;go_wp2_with (go_at_call 329;refine K.mono ?_;clear K;rintro p h1 ⟨W,rfl,a8,X⟩);refine g _ _ ah (cS ah) ?_;refine jU ?_;clear g j c7 c9 s d4 c8 aK;go_wp2;go_roundw
     case rel=>exact⟨z+1,W,aa,ba,(d7.ac B).B a8,X⟩
     case measure=>simp[intOf];omega
    ·skip
     refine eU λj g=>?_;go_wp2_with (go_at_call 323;refine(P _).mono ?_;clear P;rintro p w3 ⟨rfl,g5⟩);have b0:au w2.drew w3:=g5;have A:=f0.B g5;have k7:=b0.4;have k6:=A.4;refine g _ _ ah (λ_=>s _ A) ?_;clear g j;refine jU ?_;refine jU ⟨?_,?_⟩
     ·skip
      refine eU λj g=>?_;go_wp2;have S:aF (w3.alloc<|.map #[] 0) aL cr eF w3.1.size ([]:List<|ByteArray×Nat):=aF.I (w:=w3);have L:au w3<|w3.alloc<|.map #[] 0:=ae.al;obtain⟨w4,b9⟩:=aT<|w3.alloc<|.map #[] 0;obtain⟨k,m⟩:=aT w3.1.size;have a3:w2.1.size<=k:=aw m A.4
      rw[<-b9,<-m]at S;rw[<-b9]at L;rw[<-b9,<-m];have u:=A.B L;have g1:=S.O;have g0:w3.1.size<=k:=aw m<|cP _
      clear b9 m;have h4:=L.4;have h2:=u.4;refine g _ _ ah (λ_=>s _ u) ?_;clear g j;refine jU ?_;refine eU λj g=>?_;go_wp2_with (go_at_call 340;refine(J _ u).mono ?_;clear J;rintro p E ⟨q,rfl,f6,a7,F⟩);have v:=u.B a7;have D:au w4 E:=a7;have f7:=F.O;have h5:=D.4;have h3:=v.4;refine g _ _ ah (λ_=>s _ v) ?_;clear g j;refine eU λj g=>?_;go_wp2_with (refine zk bZ underlying99 rfl (.tmp 28) (.tmp 30) (.tmp 38) rfl rfl (S.B D id) rfl a4 q rfl ?_;intro y I Z);obtain⟨B,K⟩:=e4 E k q v a3 aa aa F y I Z;refine g _ _ ah (λ_=>s _ B) ?_;clear g j;refine yj ?_;refine eU λj g=>?_;go_wp2_with (go_at_call 329;refine K.mono ?_;clear K;rintro p h1 ⟨W,rfl,a8,X⟩);refine g _ _ ah (cS ah) ?_;refine jU ?_;clear g j c7 c9 s d4 c8 aK;go_wp2;go_roundw
      case rel=>exact⟨z+1,W,aa,ba,(d7.ac B).B a8,X⟩
      case measure=>simp[intOf];omega
     ·skip
      refine eU λj g=>?_;go_wp2_with (go_at_call 340;refine(J _ A).mono ?_;clear J;rintro p w4 ⟨q,rfl,f6,a6,S⟩);have u:=A.B a6;have L:au w3 w4:=a6;have f7:=S.O;have h4:=L.4;have h2:=u.4;refine g _ _ ah (λ_=>s _ u) ?_;clear g j;refine jU ?_;refine eU λj g=>?_;go_wp2;have F:aF (w4.alloc<|.map #[] 0) aL cr eF w4.1.size ([]:List<|ByteArray×Nat):=aF.I (w:=w4);have D:au w4<|w4.alloc<|.map #[] 0:=ae.al;obtain⟨E,c3⟩:=aT<|w4.alloc<|.map #[] 0;obtain⟨k,m⟩:=aT w4.1.size;have a3:w2.1.size<=k:=aw m u.4
      rw[<-c3,<-m]at F;rw[<-c3]at D;rw[<-c3,<-m];have v:=u.B D;have g1:=F.O;have g0:w4.1.size<=k:=aw m<|cP _
      clear c3 m;have h5:=D.4;have h3:=v.4;refine g _ _ ah (λ_=>s _ v) ?_;clear g j;refine eU λj g=>?_;go_wp2_with (refine zk bZ underlying99 rfl (.tmp 28) (.tmp 30) (.tmp 38) rfl rfl F rfl a4 q rfl ?_;intro y I Z);obtain⟨B,K⟩:=e4 E k q v a3 aa aa (S.B D id) y I Z;refine g _ _ ah (λ_=>s _ B) ?_;clear g j;refine yj ?_;refine eU λj g=>?_;go_wp2_with (go_at_call 329;refine K.mono ?_;clear K;rintro p h1 ⟨W,rfl,a8,X⟩);refine g _ _ ah (cS ah) ?_;refine jU ?_;clear g j c7 c9 s d4 c8 aK;go_wp2;go_roundw
      case rel=>exact⟨z+1,W,aa,ba,(d7.ac B).B a8,X⟩
      case measure=>simp[intOf];omega
  ·have l8:z=h.length:=aa
   go_wp2;go_ret;exact⟨H,e7,rfl,j3,U,b4⟩
theorem cJ.V{F b:aW}(h:cJ a [] c F b W)(b:∀n t,¬W n t):c= []:=by
 obtain⟨l,b,b⟩:=h.1;cases l with
 |nil=>grind
 |cons p l=>
  grind
structure KA(rs:List bW)(sb:Nat)(bs:bO)(F:aW)(xs:List bV)(J:cU)(m:Nat)(P:Nat->aC->Prop)(bc bg:bO)(Fc Fg:aW)(cb gb:Nat)(Sg:bW->Nat->aC->Prop)(RS:List (Option (List aC))->Prop):Prop where
 lost:∀r∈rs,∀(i:Nat)(y:eX),r.2[i]?=some y->fO bg Fg bc Fc y≠ []->kR (jH ⟨some sb,some cb,some gb,bs,bc,bg⟩ F Fc Fg) (gV r.1 y.a (il r i))∧tO (jH ⟨some sb,some cb,some gb,bs,bc,bg⟩ F Fc Fg) (gV r.1 y.a (il r i)) (fO bg Fg bc Fc y) (Sg r i)
 afn:I8 J (jH ⟨some sb,some cb,some gb,bs,bc,bg⟩ F Fc Fg) m P RS
 first:∀n t,mh (fO bg Fg bc Fc) Sg [] dF rs n t↔n=J.1.n∧P 0 t
 afx:∀r∈rs,∀(i:Nat)(y:eX),r.2[i]?=some y->fO bc Fc bg Fg y= []
theorem Ux{lb i:Nat}{rs:List bW}(Q:ju a M lb i rs H l)(J:∀o∈rs,fP o)(E:rs.length<=1048576)(a1:aO a i c e)(Z:∀g,aX i c g->M g=none)
  (F:d.In a){j:Option bC}(B:d.list 5 dC (.slice j b f) r)(S:r.length<=1099511627776)(R:∀x∈r,aL x.n∧bF x.t)
  (T:lN (gD rs) rs= [k])(a8:k.5≠ [])(ok:pX k)(a5:aL k.1.n)(Y:k.2.n=k.1.n)(a3:(aB c k.1.n).isSome=true){m:Nat}{P:Nat->aC->Prop}
  (D:∀q s z A v y,cJ a [] z dF v (kq r false)->cJ a [] A dF y (kq r true)->(∀p∈z,(v p.1).Nodup)->(∀p∈A,(y p.1).Nodup)->∃Sg RS,KA rs i c e r k m P z A v y q s Sg RS)
  (a9:∀h aS G,(∀n t,bm c h n t↔bm c e n t∧¬fp P k.1.n m n t)->(∀n t,bm aS G n t↔fp P k.1.n m n t)->(∀p∈c,(h p.1).Nodup)->(∀p∈aS,(G p.1).Nodup)->∀o∈rs,cd aS G o.1.n≠ []->Ep (dU c h) o (cd aS G o.1.n))
  {L:List aC}(a4:∀V<m,∀t,P V t->t∈L)(u:L.length<=1048576):
  aH 324 #[lb,.slice j b f] a λj u=>∃K C h,j=.returned K∧ae (aX i c) a u∧aO u i c h∧(∀n t,bm c h n t↔bm c e n t∧¬fp P k.1.n m n t)∧aM u a 156 5 dC gF K C∧C.length<=2147483648∧gu (λx=>x.3=true∧fp P k.1.n m x.n x.t) C:=by
 have I:∀(a:ag)(i:Nat)(c:bO)(e:aW),aO a i _ e->∀p∈c,(e _).Nodup:=λa i c e d p U=>by
  have N:=aF.U<|d.2 p U;have O:(aR<|e p.1).map bD=e p.1:=by simp[aR,Ee]
  rwa [O]at N
 have h:=L1 F B S R;go_enter func324,ntmps324;go_wp2_with (go_at_call 81;refine h.mono ?_;clear h;rintro j w1 ⟨q,s,z,A,v,y,rfl,X,F,R,a6,a7,h,S⟩);obtain⟨Sg,RS,B⟩:=D q s z A v y h S (I _ _ _ _ F)<|I _ _ _ _ R;obtain⟨A,h⟩:=aT w1.1.size;obtain⟨W,y,D,-⟩:=df w1<|.cells #[some q,some s] 158
 have z:W.1[A]?=some (.cells #[some q,some s] 158):=by rw[y,h];exact cz _ _
 have v:=X.B D;rw[<-y,<-h]
 clear y h;obtain⟨s0,s1,-,-⟩:=bJ z;have a2:=aP z;have X:=F.B D i2;have a0:=R.B D i2;have R:=a1.B v i2;have h:=UB (Q.B v) J E R (p0:=some _) (p1:=some _) (.inr ⟨q,rfl,X⟩) (.inr ⟨s,rfl,a0⟩) B.1 T a8 ok a5 Y a3 B.2 B.3;go_wp2_with (go_at_call 327;refine h.mono ?_;clear h;rintro j w2 ⟨a3,vT,G,F2,rfl,F,y,Y,S,h,T,a5⟩);have W:∀g h,M g=some h->¬aX i c g:=λg h h d=>by rw[Z g d]at h;cases h
 have D:=(Q.B v).I F (λd=>R.I d (Q.B v).2 rfl) W;have Q:=UC D J E y S<|a9 _ _ G Y T (I _ _ _ _ y)<|I _ _ _ _ S;go_wp2_with (go_at_call 328;refine Q.mono ?_;clear Q;rintro j w3 ⟨I,G,rfl,G,G,Z⟩);have a8:∀g,aX _ _ g->¬A=g:=λg h=>R.I h z|>λd j=>d aa;have W:=F.ac G;have Q:=W.O z λd=>a8 A d rfl;obtain⟨s0,s1,-,-⟩:=bJ Q;have a2:=aP Q;have Q:=D.B G;obtain⟨z,z,-,-⟩:=bJ Q.2;have z:=aP Q.2;have a2:=y.B G i2;have low:∀g,aX _ _ g->g<a:=λg h=>a1.U h
 have a1:=λu=>xV (some i) u;have R:=λ(u:ag)(z:au _ u)=>LH (Q.B z) J E (p0:=some _) (p1:=some _) (.inr ⟨q,rfl,(X.B W λg h d=>dX (low g d)<|(a6 g h).1).B z i2⟩) (.inr ⟨s,rfl,(a0.B W λg h d=>dX (low g d)<|a7 g h).B z i2⟩) (sc:=jF _ _) (ed:=F2) (F1:=λ_=> []) (F2:=λ_=> []) ⟨.inr ⟨i,rfl,a2.B z i2⟩,.inl ⟨rfl,rfl⟩,.inl ⟨rfl,rfl⟩⟩ (a2.B z i2) (Sg:=Sg) λo q i u s d=>absurd (B.4 o q i u s) d;simp only[jF]at R;have Q:∀eY z n t,¬mh _ Sg eY z _ n t:=λeY z n t ⟨o,q,i,u,s,d,_⟩=>d<|B.4 o q i u s;have o:=F.4;have o:=aP D.2;have kA: ¬A=I:=aa
 have o: ¬lb=I:=aa
 refine qN (·=I) (λi=>i==8||i==14||i==15) ah ah ?_;intro i i i i i s;iterate 8 (refine gg ah bf bf λM i=>?_;go_big_quiet_op;refine i _ ?_;clear i M)
 refine a_ λo i=>?_;go_wp2_with (go_at_call 331;refine(a1 _).mono ?_;clear a1;rintro j w4 ⟨rfl,u⟩);have q:=ae.ft u;apply i _ _ ah (λ_=>s _ q.Z);clear i o;refine aD ?_;refine aD ?_;refine aD ?_;refine aD ?_;refine aD ?_
 refine a_ λo i=>?_;go_wp2_with (go_at_call 330;refine(R _ q).mono ?_;clear R;rintro j u ⟨u,dv,u,rfl,I,A,B,z⟩);have u:=q.B I;apply i _ _ ah (λ_=>s _ u.Z);clear i o;cases z.V<|Q _ _;have z:=q.4;have q:=xU (Z.B u i2) A λg h d=>by rw[iF d]at h;have:=B _ h;have:=Z.1.O;omega
 refine a_ λo i=>?_;go_wp2_with (go_at_call 329;refine q.mono ?_;clear q;rintro j q ⟨dJ,q,rfl,B,z,A⟩);have q:=u.Z.B<|B.cW λg _ h=>iF h;apply i _ _ ah (λ_=>s _ q);clear i o;apply cR;cases A.V λn t d=>nomatch d.1;have g:=v.4;have g:=(G.V q aa);have h:=LI (D.B g) J E (y.B g i2) z;go_wp2_with (first|(go_at_call 84;refine o.mono ?_;clear o;rintro j i ⟨K,C,rfl,D,A,z,s⟩)|(go_at_call 332;refine h.mono ?_;clear h;rintro j E ⟨i,rfl,h,j,u⟩;have j:=(S.B g i2).B h i2;have B:=j.Y (L:=L) (n:=k.1.n) (λm t d=>by obtain⟨q,V,N,O⟩:=(T m t).1 d;exact⟨q,a4 V N t O⟩) a5;have o:=Bw (w:=E) (lL:=some i) (gm:=some a3) (.inr ⟨i,rfl,u⟩) (.inr ⟨a3,rfl,j⟩) af aa (λ_ d=>nomatch d) λp U=>aI<|B.2 p U));go_ret;have i:=(g.B h).B D;have j:=(g.B h).4
 exact⟨K,C,F2,rfl,(v.Z.B F).ac i,y.B i i2,Y,A.toaM.Z aa,z,s.B λx=>by
  unfold dm;rw[T]
  simp[bm,aB]⟩
theorem gu.T{A:bV->Prop}(h:gu A r)(a:∀x,¬A x):r= []:=by
 cases r with
 |nil=>rfl
 |cons x l=>exact absurd ((h.1 x).1<|jM ..)<|a x
theorem Uz(m:ju a d b f h n l)(z:∀r∈h,fP r)(q:h.length<=1048576){F:aW}(o:aO a f c F)
  (j:∀r∈h,gh (gD h) r.2 r.2≠ []):
  aH 325 #[b] a λi B=>∃v,i=.returned v∧au a B∧aM B a 156 5 dC gF v []:=by
 have s:=LJ m z q o (λ_ _=>False) (λr g e=>absurd e<|j r g) λr g e=>absurd e<|j r g;have I:∀y A,¬oK h _ (λ_ _=>False) c F y A:=λy A ⟨r,g,e,_⟩=>j r g e;go_enter func325,ntmps325;go_wp2_with (first|(go_at_call 333;refine s.mono ?_;clear s;rintro i w2 ⟨P,dv,L,rfl,k,G,N,E⟩;obtain rfl:=E.V I;have t:=LI (m.B k) z q (o.B k i2) G)|(go_at_call 332;refine t.mono ?_;clear t;rintro i w3 ⟨x,rfl,J,O,D⟩;have u:=Bw (w:=w3) (lL:=some x) (gm:=none) (.inr ⟨x,rfl,D⟩) (.inl ⟨rfl,rfl⟩) (Fg:=dF) af af (λ_ e=>nomatch e) λ_ e=>nomatch e)|(go_at_call 84;refine u.mono ?_;clear u;rintro i w4 ⟨v,R,rfl,K,H,M,C⟩));go_ret;have p:=k.B J;cases C.T λQ e=>by rcases e with⟨_,e,_⟩|⟨_,e,_⟩<;>exact nomatch e.1
 exact⟨v,rfl,p.B K,H.toaM.Z p.4⟩
theorem Va{m:aq}(c:aF a bF bh cg b []):
  aH 389 #[m,some b] a λe d=>e=.returned (.tuple #[])∧au a d:=by
 go_enter func389,ntmps389;go_wp2_with (at_range;refine lY underlying324 rfl (.tmp 6) rfl rfl c ?_;intro w1 d d d);go_frame;go_loopg [] 0 (λgk wr=>gk=0∧wr=w1);grind;obtain⟨rfl,rfl⟩:=hrel;go_wp2_with (at_next;refine lX iQ rfl (.tmp 7) rfl rfl d (aI c.O) ?_ ?_);go_end0;grind
structure rM(w:ag)(K:ai)(lb sb mb:Nat)(rs:List bW)(ra:Option bC)(rc:Nat):Prop where
 known:K.In w
 block:w.1[lb]?=some (.cells #[.slice ra rs.length rc,.map (some sb),.map (some mb)] 326)
 rules:K.list 3 kT (.slice ra rs.length rc) rs
theorem rM.I{w w':ag}{D:Nat->Prop}(a:rM w d b f l h n t)(e:ae D w w')(g: ¬D b)(i:∀c o,d c=some o->¬D c):rM w' d b f l h n t:=
 ⟨a.1.B e i,e.O a.2 g,a.3⟩
theorem rM.B{w w':ag}{a:List bW}(h:rM w d b f l a n t)(c:au w w'):rM w' d b f l a n t:=h.I c id λ_ _ _=>id
theorem Vb(r:rM a d f b t h n a7)(u:aO a b c e)(q:aF a bF bh cg l []):
  aH 392 #[f,some l] a λj g=>j=.returned (.slice none 0 0)∧ae (λp=>∃B∈c,B.2=p) a g∧aO g b c e:=by
 obtain⟨W,o,m,-⟩:=df a<|.cells #[.int .u64 0,.int .u64 0] 112;have k:=q.B m id;go_enter func392,ntmps392;go_wp2_with (at_range;rw[<-o];clear o;refine lY underlying519 rfl (.tmp 12) rfl rfl k ?_;intro w1 y D s);have i:=m.B y;have w:=(r.B i).2;obtain⟨E,F,G,-⟩:=bq w;have A:=λg (x:au a _)=>LY (qV g) (u.B x i2) af (ai.Z _ 5 _) af af;go_frame;go_loopg [5] 0 (λgk C wr=>gk=0∧C=.slice none 0 0∧wr=w1);grind;obtain⟨rfl,rfl,rfl⟩:=hrel;go_wp2_with (at_next;refine lX iQ rfl (.tmp 13) rfl rfl s (aI k.O) ?_ ?_);go_wp2_with (go_at_call 44;refine(A _ i).mono ?_;rintro j w2 ⟨rfl,z,v⟩);go_ret;exact⟨rfl,i.Z.B z,v⟩
structure I'(D:Bool->ByteArray->Seen)(r:bW):Prop where
 none:∀xs st',eQ [(0,0,0)] xs->iY D (cX r) xs ((cX r).5.map λ_=>none) st'->fe D (dH D (cX r) xs) ((cX r).5.zip st')= []
 inj:kR D (cX r)
theorem U9(g:rM a d f b t h n l)(b9:∀r∈h,fP r)(e4:h.length<=1048576){F:aW}(I:aO a b c F)(q:∀r∈h,I' (dU c F) r):
  aH 386 #[f] a λp s=>p=.returned (.slice none 0 0)∧ae (λa0=>∃c3∈c,c3.2=a0) a s∧aO s b c F:=by
 have e3:= @iW Tryz.prog;let⟨c4,aK,b7,a9⟩:=g.3.U g.1;obtain⟨rfl,rfl⟩:n=c4∧l=aK:=aV b7
 obtain⟨W,x,J,-⟩:=df a<|.map #[] 0;let⟨B,v⟩:=aT a.1.size
 have a3:aF W bF bh cg B []:=by rw[x,v];exact aF.I
 have e:=(g.B J).2;obtain⟨V,X,Y,-⟩:=bq e;have N:=aP e;go_enter func386,ntmps386;go_wp2_with (rw[<-x,<-v];clear x);clear v
 go_loopw [13] (λj wr=>∃(k:Nat),k<=h.length∧j=.int .i64 k∧au W wr) (λj _=>h.length-(intOf j).toNat)
 case atStart=>exact⟨0,aa,rfl,.T _ _⟩
 case round=>
  obtain⟨k,e2,rfl,w⟩:=hrel;have i:=J.B w;have e:=(g.B i).2;obtain⟨V,X,Y,-⟩:=bq e;have N:=aP e;by_cases b2:k<h.length
  ·let⟨r,P⟩:∃c8,h[k]?=some c8:=⟨_,cy b2⟩;obtain⟨d1,e5,cc,rfl,e0,a5,b1⟩:=a9 k r P;have Q:=cA P;have q:=q r Q;obtain⟨L,M,cv,A,rfl,a7,a6,d9⟩:=a5;let⟨ax,c1,c2⟩:=i.ab b1 id;obtain⟨c7,z,Z,-⟩:=df wr<|.cells #[r.1.n,.slice L r.1.2 M,.slice cv r.2 A] 318;let⟨c6,y⟩:=aT wr.1.size
   have G:c7.1[c6]?=some (.cells #[r.1.n,.slice L r.1.2 M,.slice cv r.2 A] 318):=by rw[z,y];exact cz _ _
   go_wp2_with (rw[<-z,<-y];clear z y);have K:=i.B Z;obtain⟨d0,a1,a2,-⟩:=bq G;have d7:=aP G;have e:=(g.B K).2;obtain⟨V,X,Y,-⟩:=bq e;have N:=aP e;have S:=λs (R:au a s)=>EZ (g.1.B R i3) a7 a6 (b9 r Q) (m:=some _) (.inr ⟨b,rfl,I.B R i2⟩) q.2;apply dG (λj=>j==7||j==8) ah ah;intro c9 d4 d6 d2 d3 d5 C;iterate 7 (refine gg ah bf bf λd H=>?_;go_big_quiet_op;refine H _ ?_;clear H d)
   refine a_ λu o=>?_;go_wp2_with (go_at_call 349;refine(S _<|K.B (ae.T _ _).m).mono ?_;clear S;rintro p w4 ⟨d8,b3,br,e6,rfl,e1,a4,b8,b0,O,b4⟩);have D:=ae.ft b4;apply o _ _ ah (λ_=>C _ D.below);clear o u;rw[q.1 _ _ b8 b0]at O;obtain rfl:b3= []:=aV O
   have T:=Va (m:=.map<|some B) a4;refine a_ λu o=>?_;go_wp2_with (go_at_call 389;refine T.mono ?_;clear T;rintro p e7 ⟨rfl,b5⟩);have E:=D.B b5;apply o _ _ ah (λ_=>C _ E.below);clear o u;apply cR;go_wp2;go_roundw
   case rel=>exact⟨k+1,aa,ba,(w.B Z).B E⟩
   case measure=>simp[intOf];omega
  ·have U:=Vb (g.B i) (I.B i i2)<|a3.B w id;go_wp2_with (go_at_call 392;refine U.mono ?_;clear U;rintro p e8 ⟨rfl,b6,a8⟩);go_ret;exact⟨rfl,i.Z.B b6,a8⟩
def kZ(N:Nat)(K:ai):ai:=λb=>if N<=b then K b else none
theorem Z_(N)(K:ai):(kZ N K).le K:=λb o h=>by
 unfold kZ at h;grind
theorem NR(h:f<=b):kZ f d b=d b:=if_pos h
theorem Cm(h:kZ f d b=some Q):f<=b∧d b=some Q:=by
 unfold kZ at h;grind
theorem eI.T(h:eI b d s):eI b (kZ b d) s:=by
 obtain h|⟨c,n,e,f,a,g⟩:=h;exact .inl h;exact .inr ⟨c,n,e,f,a,aw (NR a) g⟩
theorem ey.Y{N:Nat}(H:ey N d):ey N<|kZ N d:=by
 intro b o h i;obtain⟨c,e,a,f,g⟩:=H b o h (Cm i).2;exact⟨c,e,a,f,λx a=>(g x a).T⟩
theorem ey.I(H:ey b d)(F:eI b d s)(E:d.list f a9 s X)
  (A:∀c x,(∀y∈c,eI b d y)->a9 d c x->a9 (kZ b d) c x):(kZ b d).list f a9 s X:=by
 obtain⟨g,j,k,v,l,w⟩:=E;obtain⟨rfl,a⟩|⟨h,K,q,r,t,u,rfl,a,m⟩:=w;have:g= []:=Ia aa;subst this;exact⟨[],j,k,af,aa,.inl ⟨rfl,a⟩⟩;have n:b<=h:=by
  obtain i|⟨N,Q,c,i,z,_⟩:=F;cases i;cases i;exact z
 let⟨c2,O,P,L,M⟩:=H h _ n a;cases L;have B:∀c∈g,∀y∈c,eI b d y:=by
  intro c e y I;obtain⟨p,o⟩:=H4.1 (Kk.2 ⟨c,e,I⟩);have C:p<X*f:=by rw[<-l];exact(iw.1 o).1
  have:=m p C;rw[o]at this;exact M y (by grind)
 exact⟨g,j,k,λJ c x e G=>A _ _ (B c<|cA e)<|v J c x e G,l,.inr ⟨h,K,q,r,t,u,rfl,aw (NR n) a,m⟩⟩
theorem ey.U(H:ey b d){v:aq}(e:eI b d v){a:List bW}(c:d.list 3 kT v a):(kZ b d).list 3 kT v a:=by
 refine H.I e c λf r a m=>?_;obtain⟨k,l,cv,e,rfl,g,i,j⟩:=m;refine⟨k,l,cv,e,rfl,H.I (a _ af) g λ_ _ _ h=>h,H.I (a _ af) i λf l a c=>?_,j⟩;obtain⟨u,rfl,e⟩:=c;exact⟨u,rfl,H.I (a _ af) e λ_ _ _ h=>h⟩
theorem fh.V{c:List bW}(H:ey b d)(h:fh a d b L f l c):fh a (kZ b d) b L f l c:=by
 obtain⟨i,rc,e,c,g⟩:=h;exact⟨i,rc,ey.U H c e,c.T,g⟩
structure dQ(v:ag)(eb nb sb pb mb:Nat)(f:gq)(bs:bO)(F:aW)(la:Option bC)(lc:Nat)(ps:List (eO×Lay))(K:ai)(N:Nat):Prop where
 aeW:v.1[eb]?=some (.cells #[.map (some nb),.map (some sb),.pointer (some ⟨pb,0,none⟩)] 102)
 names:aF v aL cr om nb f
 store:aO v sb bs F
 low:sb<N∧∀p∈bs,p.2<N
 ae9:nb<N∧¬aX sb bs nb
 ae8:mb<N∧¬aX sb bs mb
 pipe:v.1[pb]?=some (.cells #[.slice la ps.length lc,.map (some mb)] 185)
 list:∀(j:Nat) p,ps[j]?=some p->∃al lo cur,la=some ⟨al,lo,none⟩∧v.1[al]?=some (.cells cur 171)∧cur[lo+j]?=some (oY p.1)∧K al=none
 byName:aF v aL cr oY mb (mA ps)
 lays:∀p∈ps,N<=p.1.2∧fh v K N p.1.1 p.1.2 sb (p.2.1.map bP)
 known:K.In v
 new:ey N K
 news:∀b o,K b=some o->N<=b
 afd:K pb=none
 afc:K eb=none
def I2(v:ag)(e:Nat)(c:bO)(b:List (eO×Lay))(K:ai)(d:Option Nat)(a:Nat):Prop:=
 aX e c a∨(∃p∈b,p.1.2=a)∨(∃p∈b,∃x y t,v.1[p.1.2]?=some (.cells #[x,y,some a] t))∨(K a).isSome=true∨d=some a
open Classical in
noncomputable def DS(v:ag)(e:Nat)(b:bO)(d:List (eO×Lay))(K:ai)(c:Option Nat):Nat->Bool:=λa=>decide (I2 v e b d K c a)
theorem rO:DS a b c p d C f=true↔I2 a b c p d C f:=by unfold DS;simp
section
variable{v:ag}{eb nb sb pb mb:Nat}{f:gq}{bs:bO}{F:aW}{la:Option bC}{lc:Nat}{ps:List (eO×Lay)}{K:ai}{N:Nat}{ls:Option Nat}{a:Nat}{Ff:bw->Bool}
theorem DS.U(h:aX sb bs a):DS v sb bs ps K ls a=true:=rO.2<|.inl h
theorem DS.I(h:b9∈ps):DS v sb bs ps K ls b9.1.2=true:=rO.2<|.inr<|.inl ⟨b9,h,rfl⟩
theorem DS.V(h:b9∈ps)(b:v.1[b9.1.2]?=some (.cells #[s,d2,some a] R)):DS v sb bs ps K ls a=true:=rO.2<|.inr<|.inr<|.inl ⟨b9,h,s,d2,R,b⟩
theorem DS.B(h:(K a).isSome=true):DS v sb bs ps K ls a=true:=rO.2<|.inr<|.inr<|.inr<|.inl h
theorem DS.T(h:ls=some a):DS v sb bs ps K ls a=true:=rO.2<|.inr<|.inr<|.inr<|.inr h
theorem DS.O(e:eI N K<|.slice la b lc):∀(x),x=.slice la b lc->eR Ff (DS v sb bs ps K ls) x:=by
 rintro x rfl;obtain h|⟨a,b,c,c,d,d⟩:=e;exact .B h;cases c;exact .I<|DS.B d
theorem dQ.T(E:dQ v eb nb sb pb mb f bs F la lc ps K N)(A:∀n,ls=some n->∃j q r,v.1[n]?=some (.cells j q r)∧∀x∈j.1,Flat x=true){o:bI}(l:DS v sb bs ps K ls a=true)(b:v.1[a]?=some o):
  oO Tryz.prog Ff (DS v sb bs ps K ls) o:=by
 replace l:=rO.1 l;obtain (rfl|⟨p,d,rfl⟩)|⟨p,d,rfl⟩|⟨p,d,x,y,G,i⟩|h|h:=l;exact .U E.3.1 b λp d=>⟨.B rfl,.T<|DS.U<|.inr ⟨p,d,rfl⟩⟩;exact .U (E.3.2 p d) b λp d=>⟨.Y λx c=>.B (by simp at c;rcases c with rfl|rfl|rfl<;>rfl),.Y af⟩;obtain⟨_,C,rc,w,k,e⟩:=E.10 p d;split at e;rw[e]at b;cases b;refine .B λx c=>?_;simp at c;obtain rfl|rfl:=c;exact DS.O k _ af;exact .T<|DS.U<|.inl rfl;obtain⟨B,z,g,s⟩:=e;rw[g]at b;cases b;refine .B λx c=>?_;simp at c;obtain rfl|rfl|rfl:=c;exact DS.O k _ af;exact .T<|DS.U<|.inl rfl;exact .T<|DS.V d g;obtain⟨_,C,rc,w,k,e⟩:=E.10 p d;split at e;rw[e]at i;cases i;obtain⟨B,z,g,s⟩:=e;rw[g]at i;cases i;exact .U s b af;let⟨D,m⟩:=sg.1 h;have:=E.11 a _ m;rw[this]at b;cases b;exact .O E.12 (λa _ h=>DS.B h) (E.13 a o m) m;let⟨j,q,r,t,u⟩:=A a h;rw[t]at b;cases b;exact .B λx c=>.B<|u x c
theorem dQ.I(E:dQ v eb nb sb pb mb f bs F la lc ps K N)(u:∀e,ls=some e->∃h e2,v.1[e]?=some (.cells h 156 e2))(s:v.1[a]?=some (.cells S R e2))(w:R≠322∧R≠326∧R≠156)(r:K a=none):
  DS v sb bs ps K ls a=false:=by
 cases d:DS v sb bs ps K ls a with
 |false=>rfl
 |true=>
  replace d:=rO.1 d;obtain (rfl|⟨p,b,rfl⟩)|⟨p,b,rfl⟩|⟨p,b,z,A,y,t⟩|i|i:=d;obtain⟨g,cl,j,_⟩:=E.3.1;grind;obtain⟨g,cl,j,_⟩:=E.3.2 p b;grind;obtain⟨_,m,rc,k,l,c⟩:=E.10 p b;grind;obtain⟨_,m,rc,k,l,c⟩:=E.10 p b;split at c;grind;obtain⟨x,n,o,g,cl,q,_⟩:=c;grind;grind;grind
theorem dQ.O(E:dQ v eb nb sb pb mb f bs F la lc ps K N)(c:∀b,ls=some b->∃c d,v.1[b]?=some (.cells c 156 d)){cl:Nat}(c:v.1[a]?=some (.map b4 cl))(c:a<N)(c: ¬aX sb bs a):
  DS v sb bs ps K ls a=false:=by
 cases c:DS v sb bs ps K ls a with
 |false=>rfl
 |true=>
  replace c:=rO.1 c;obtain h|⟨p,d,rfl⟩|⟨p,d,x,y,e,e⟩|h|h:=c;grind;have:=(E.10 p d).1;omega;obtain⟨_,c,rc,c,c,c⟩:=E.10 p d;grind;let⟨o,c⟩:=sg.1 h;have:=E.13 a o c;omega;grind
end
def yO:List Nat:= [20,22,31,33,38,40,41,42,43,44,45,47,48,49,50,51,55,70,71,72,73,74,75,76,77,78,80,81,82,83,84,85,86,87,88,89,91,92,93,94,95,96,97,98,100,101,102,124,125,126,127,128,129,130,131,132,133,134,135,136,137,138,139,140,142,143,144,145,146,147,148,157,158,159,160,161,162,163,164,165,177,178,179,180,181,182,183,184,185,186,187,188,189,190,191,192,193,194,195,196,197,198,199,200,219,220,221,222,223,224,225,226,227,228,229,230,231,232,233,234,240,241,242,243,244,245,246,247,248,249,250,251,252,253,254,260,261,262,263,264,265,266,267,268,269,270,271,272,273,274,275,276,277,278,279,286,287,288,289,290,291,292,293,294,295,296,297,298,299,300,301,302,303,304,305,322,323,324,325,326,327,328,329,330,331,332,333,334,335,336,337,338,339,340,341,342,343,344,345,346,347,348,349,350,351,352,353,354,355,356,357,358,359,360,361,362,363,364,365,366,367,368,369,370,371,372,373,374,375,376,377,378,379,380,381,382,383,384,385,386,387,388,389,390,391,392,393,394]
abbrev cH:bw->Bool:=λg=>yO.contains g
def Gn:List Nat:= [350,394,222,254,270,301,304]
theorem aaQ:(yO.all<|wE Tryz.prog (λg=>yO.contains g) Gn)=true:=bb
theorem Xu:tC f222=some Er:=bf
theorem Xv:tC f254=some Es:=bf
theorem Xw:tC f270=some (Dk f270.4 f270.5):=bf
theorem Xx:tC f301=some Eu:=bf
theorem Xy:tC f304=some Et:=bf
theorem Z4:tB f222=none:=bf
theorem Z5:tB f254=none:=bf
theorem Z6:tB f270=none:=bf
theorem Z7:tB f301=none:=bf
theorem Z8:tB f304=none:=bf
theorem aaP(L:List Nat)(g)(h:g∈Gn)(x:Func)(c:Tryz.prog.funcs[g]?=some x):tB x=none∧∃e,tC x=some e∧∀f a b,RelA (λg=>L.contains g) f a b->ak Tryz.prog (λg=>L.contains g) (cN Tryz.prog λg=>L.contains g) (av λg=>L.contains g) f (e a) (e b):=by
 have d:g∈ [350,394]∨g=222∨g=254∨g=270∨g=301∨g=304:=by
  simp[Gn]at h⊢;omega
 obtain h|rfl|rfl|rfl|rfl|rfl:=d;exact Tq L g h x c;cases c;exact⟨Z4,_,Xu,λf a b h=>.ce h⟩;cases c;exact⟨Z5,_,Xv,λf a b h=>.dv h⟩;cases c;exact⟨Z6,_,Xw,λf a b h=>.Ss _ _ h⟩;cases c;exact⟨Z7,_,Xx,λf a b h=>.S9 h⟩;cases c;exact⟨Z8,_,Xy,λf a b h=>.be h⟩
theorem mH:Held Tryz.prog (λg=>yO.contains g):=X3 aaQ<|aaP yO
def ue(x:bV):bn:=⟨x.n,x.t.1,x.t.2.1,x.t.2.2,x.3⟩
theorem B_(c:aM a b 156 5 dC d s r):iv a s<|r.map ue:=by
 obtain⟨_,_,h,e,k,i,e,j⟩:=c;obtain⟨rfl,c⟩|⟨g,f,e,rfl,_,c,_,_,l,l⟩:=j;have:r= []:=Ia c;subst this;exact .inl af;refine .inr ⟨g,0,f,e,156,_,af,c,λj x c=>?_⟩;rw[nI,mR]at c;obtain⟨y,g,rfl⟩:=c;have c:=(iw.1 g).1;let⟨c,f⟩:∃c,h[j]?=some c:=⟨_,cy aa⟩;have h:=i j c y f g;subst h;have c:∀i,i<5->e[0+j*5+i]?=y.B[i]? :=by
  intro i e;rw[<-BH k j i e f,<-l,Aq,if_pos aa,nJ];simp
 exact⟨c 0 aA,c 1 aA,c 2 aA,c 3 aA,c 4 aA⟩
section
variable{w w':ag}{sb:Nat}{bs:bO}{F:aW}{K:ai}{N lb:Nat}{gL:Bool}{rs:List bW}{ps:List (eO×Lay)}{R:Nat->aW->Prop}{i:Nat}
def Live(o:bI):Prop:=o≠lj
theorem Zd:Live<|.map b4 b:=λh=>nomatch h
theorem F_{t:bB}:Live<|.cells S t e2:=λh=>nomatch h
theorem aF.Y{b:Nat}(h:aF w e5 d7 d8 b p)(e:∀o,Live o->w.1[b]?=some o->w'.1[b]?=some o):aF w' e5 d7 d8 b p:=by
 obtain⟨a,cl,c,d⟩:=h;exact⟨a,cl,e _ Zd c,d⟩
theorem aO.T(h:aO w sb bs F)(b:∀a o,Live o->aX sb bs a->w.1[a]?=some o->w'.1[a]?=some o):aO w' sb bs F:=
 ⟨aF.Y h.1 λo a=>b _ o a<|.inl rfl,λp c=>aF.Y (h.2 p c) λo a=>b _ o a<|.inr ⟨p,c,rfl⟩,h.3,h.4⟩
theorem fh.B(h:fh w K N gL lb sb rs)(f:N<=lb)(c:∀b o,Live o->N<=b->w.1[b]?=some o->w'.1[b]?=some o):fh w' K N gL lb sb rs:=by
 obtain⟨n,rc,g,l,a⟩:=h;refine⟨n,rc,g,l,?_⟩;split;rename_i d;rw[if_pos d]at a;exact c _ _ F_ f a;rename_i d;rw[if_neg d]at a;obtain⟨m,e,i,j⟩:=a;exact⟨m,e,c _ _ F_ f i,aF.Y j λo k=>c _ o k e⟩
theorem fh.O(h:fh w K N gL lb sb rs):(gL=true->∃a rc,w.1[lb]?=some (.cells #[.slice a rs rc,some sb] 322)∧K.list 3 kT (.slice a rs rc) rs)∧
  (gL=false->∃a rc b,w.1[lb]?=some (.cells #[.slice a rs rc,some sb,some b] 326)∧K.list 3 kT (.slice a rs rc) rs∧N<=b∧aF w bF bh cg b []):=by
 obtain⟨a,rc,a,a,a⟩:=h;grind
theorem ey.V(H:ey N K)(a:N<=b)(c:K b=some Q):Live Q:=by
 obtain⟨d,e,d,rfl,_⟩:=H b Q a c;exact F_
def xy(sb:Nat)(bs:bO)(ps:List (eO×Lay))(K:ai)(N:Nat)(R:Nat->aW->Prop)(i:Nat)(w:ag):Prop:=
 K.In w∧(∀p∈ps,fh w K N p.1.1 p.1.2 sb (p.2.1.map bP))∧∃F,aO w sb bs F∧R i F
def El(D:Nat->Bool)(b sb:Nat)(bs:bO)(ps:List (eO×Lay))(K:ai)(N:Nat)(R:Nat->aW->Prop)(i:Nat)(l:List aq)(w:ag):Prop:=
 l.length<=(i+1)*4294967296∧(∀a,a<b->D a=false->w.1[a]?=some lj)∧xy sb bs ps K N R i w
theorem xy.B(h:xy sb bs ps K N R i w)(e:∀b o,K b=some o->N<=b)(l:ey N K)(m:∀p∈ps,N<=p.1.2)(d:∀a o,Live o->(aX sb bs a∨N<=a)->w.1[a]?=some o->w'.1[a]?=some o):xy sb bs ps K N R i w':=by
 obtain⟨f,g,F,j,k⟩:=h;exact⟨λb o c=>d b o (l.V (e b o c) c) (.inr<|e b o c)<|f b o c,λp b=>(g p b).B (m p b) λa o b c=>d a o b<|.inr c,F,j.T λa o b c=>d a o b<|.inl c,k⟩
def xx(sb:Nat)(bs:bO)(ps:List (eO×Lay))(K:ai)(N:Nat)(R:Nat->aW->Prop):Prop:=
 ∀j p,ps[j]?=some p->∀w F,K.In w->fh w K N p.1.1 p.1.2 sb (p.2.1.map bP)->aO w sb bs F->R j F->
  aH (if p.1.1 then 325 else 386) #[.pointer (some ⟨p.1.2,0,none⟩)] w λe w'=>∃u b a,e=.returned u∧ae (aX sb bs) w w'∧aO w' sb bs a∧R (j+1) a∧aM w' w.1.size 156 5 dC gF u b∧b.length<=2147483648
theorem Xl:vk 320 325:=MG func325 rfl rfl Zw ZN
theorem Xm:vk 323 386:=MG func386 rfl rfl Zu ZL
theorem Xo(b:Bool):vk (if b=true then 320 else 323) (if b=true then 325 else 386):=by
 cases b;exact Xm;exact Xl
end
section
variable{v:ag}{eb nb sb pb mb:Nat}{fn:gq}{bs:bO}{F:aW}{la:Option bC}{lc:Nat}{ps:List (eO×Lay)}{K:ai}{N:Nat}{R:Nat->aW->Prop}{e s:Nat->Option bI}{f g:Ren}
theorem yL{M:Nat}{u:aq}(h:aM a M 156 5 dC d u r)(e:u.ownBlock=some b):∃c f,a.1[b]?=some (.cells c 156 f):=by
 obtain⟨_,_,f,_,_,_,_,f⟩:=h;obtain⟨rfl,_⟩|⟨g,h,c,rfl,_,c,_⟩:=f;cases e;cases e;grind
theorem dQ.Y(E:dQ v eb nb sb pb mb fn bs F la lc ps K N)(h:Option Nat)(j:R 0 F):xy sb bs ps K N R 0<|jC (DS v sb bs ps K h) v:=by
 have a:∀b o,DS v sb bs ps K h b=true->v.1[b]?=some o->(jC _ v).1[b]?=some o:=λb o q r=>aw (BO q) r;refine⟨λb o g=>a b o (DS.B<|dh g)<|E.11 b o g,λs d=>?_,F,E.3.T λi o _ p=>a i o<|DS.U p,j⟩;obtain⟨_,t,rc,k,n,c⟩:=E.10 s d;refine⟨t,rc,k,n,?_⟩;split;rename_i e;rw[if_pos e]at c;exact a _ _ (DS.I d) c;rename_i e;rw[if_neg e]at c;obtain⟨mb,l,f,m⟩:=c;exact⟨mb,l,a _ _ (DS.I d) f,aF.Y m λo _=>a _ o<|DS.V d f⟩
theorem dQ.m(E:dQ v eb nb sb pb mb fn bs F la lc ps K N)(B:xx sb bs ps K N R)(a:ps.length<=100){u:aq}(f:fY v b 156 5 dC d u r):
  Ei cH (DS v sb bs ps K u.ownBlock) g v pb ps<|El (DS v sb bs ps K u.ownBlock) v sb bs ps K N R:=by
 have q:=λe (i:u.ownBlock=some e)=>yL f.toaM i;refine⟨mH,λa e o c c h c j=>E.T f.nN h c _ _ _ j,λf A w w' k l=>⟨k.1,λa f j=>l _ _<|k.2.1 a f j,k.2.2.B E.13 E.12 (λp h=>(E.10 p h).1) λa o _ _ c=>l a o c⟩,aa,E.I q E.7 aA E.14,_,_,_,la,lc,E.7,rfl,λm n=>?_⟩;obtain⟨p,h⟩:∃p,ps[m]?=some p:=⟨_,cy n⟩;have z:=cA h;let⟨al,C,s,t,n,x,y⟩:=E.8 m p h;refine⟨al,C,171,_,_,s,_,_,t,E.I q n aA y,n,x,Xo _,by cases p.1.1<;>decide,λn=>eR.V (F:=cH) (DS.I z) _ _,?_⟩;intro A v0 n q s D l T;obtain⟨m1,m2,t⟩:=q;have y:∀p∈ps,N<=p.1.2:=λp h=>(E.10 p h).1;have x:∀e,aX sb _ e->e<N:=λe i=>by
  obtain rfl|⟨s,q,rfl⟩:=i;exact E.4.1;exact E.4.2 s q
 let⟨C,H,G,I,J⟩:=t.B (w':=n) E.13 E.12 y λa o _ _ c=>l a o c;obtain⟨L,M,A,A,_⟩:=t;have t:∀e,aX sb _ e->e<v0:=λe i=>by
  obtain rfl|⟨s,q,rfl⟩:=i;exact A.1.O;exact(A.2 s q).O
 refine(B m p h (aN _ T) G C (H p z) (I.T λ_ _ _ _ k=>k) J).mono ?_;rintro ex w ⟨G,H,z,rfl,k,B,A,C,q⟩;have q:n.1.size<=w.1.size:=k.4;have q:∀a o,¬aX sb bs a->n.1[a]?=some o->w.1[a]?=some o:=λa o f c=>k.O (w:=aN n T) c f;have k:=yv l;have n:∀a,a<v.1.size->DS v sb bs ps K u.ownBlock a=false->¬aX sb bs a:=λa _ j k=>by rw[DS.U k]at j;grind
 have s:∀a,a<v.1.size->DS v sb bs ps K u.ownBlock a=false->w.1[a]?=some lj:=λa f j=>q a _ (n a f j)<|l _ _<|D a f j;refine⟨G,rfl,H.map ue,B_ C,?_,⟨aa,s⟩,λa o f c=>q a o (λk=>aI<|t a k) c,λw' n=>⟨?_,λa f j=>n a _ (s a f j)<|.inl aa,?_⟩⟩;rw[di]at m1⊢;have:(m+1)*4294967296<=101*4294967296:=xi _ aa;omega;rw[di]at m1⊢;rw[kK,di,D_<|m+1];omega
 have j:∀a o,¬aX sb bs a->v0.1[a]?=some o->w'.1[a]?=some o:=λa o f c=>n a o (q a o f<|l a o c)<|.inl (fU.1 c).1;refine⟨λe o i=>j e o (λk=>dX (x e k)<|E.13 e o i)<|L e o i,λp h=>(M p h).B (y p h) λa o _ f c=>j a o (λk=>aI<|x a k) c,z,B.T λa o _ f c=>n a o c<|.inl<|t a f,A⟩
end
section
variable{v:ag}{eb nb sb pb mb:Nat}{fn:gq}{bs:bO}{F:aW}{la:Option bC}{lc:Nat}{ps:List (eO×Lay)}{K:ai}{N:Nat}{R:Nat->aW->Prop}{e s:Nat->Option bI}{f g:Ren}
theorem OV{x y:aq}(h:RelA e3 g #[x,y] S):∃a b,S= #[a,b]∧av e3 g x a∧av e3 g y b:=by
 obtain⟨l⟩:=S;cases h with
 |cons a t=>
  cases t with
  |cons a t=>
   cases t with
   |nil=>grind
theorem dQ.U(E:dQ v eb nb sb pb mb fn bs F la lc ps K N)(h:∀c,C=some c->∃k d,v.1[c]?=some (.cells k 156 d))(n:v<=a.1.size){l:List aq}(c:El (DS v sb bs ps K C) v sb bs ps K N R b l a):
  ∃j,R b j∧dQ (lW (DS v sb bs ps K C) v a) eb nb sb pb mb fn bs j la lc ps K N:=by
 obtain⟨_,m2,t⟩:=c;have m:∀c o,Live o->a.1[c]?=some o->(lW _ v _).1[c]?=some o:=λc o l f=>by
  rw[Da λ⟨d,e⟩=>l<|dw<|f.symm.trans<|m2 c d e];omega
 have i:∀c o,DS v sb bs ps K C c=false->v.1[c]?=some o->(lW _ v _).1[c]?=some o:=λc o g f=>
  G8 g f<|kJ (fU.1 f).1 n
 let⟨n,q,j,r,s⟩:=t.B (w':=lW _ v _) E.13 E.12 (λp g=>(E.10 p g).1) λc o l _ f=>m c o l f;refine⟨j,s,i _ _ (E.I h E.1 aA E.15) E.1,?_,r,E.4,E.5,E.6,i _ _ (E.I h E.7 aA E.14) E.7,λl p g=>?_,?_,λp g=>⟨(E.10 p g).1,q p g⟩,n,E.12,E.13,E.14,E.15⟩;obtain⟨c,cl,d,e⟩:=E.2;exact⟨c,cl,i _ _ (E.O h d E.5.1 E.5.2) d,e⟩;obtain⟨al,m,k,d,e,j,f⟩:=E.8 l p g;exact⟨al,m,k,d,i _ _ (E.I h e aA f) e,j,f⟩;obtain⟨c,cl,d,e⟩:=E.9;exact⟨c,cl,i _ _ (E.O h d E.6.1 E.6.2) d,e⟩
theorem PC{u:aq}(c:aM v b 156 5 dC d u r):eR e3 (DS v sb bs ps K u.ownBlock) u:=by
 obtain⟨_,_,a,_,_,_,_,a⟩:=c;obtain⟨rfl,_⟩|⟨g,c,c,rfl,_⟩:=a;exact .B rfl;exact .I<|DS.T rfl
theorem M4{D:Nat->Bool}{u:aq}{a:List bn}(h:iv v u a)(g:∀b,u.ownBlock=some b->D b=true):iv (jC D v) u a:=by
 obtain h|⟨b,o,a,c,d,fr,rfl,e,f⟩:=h;exact .inl h;exact .inr ⟨b,o,a,c,d,fr,rfl,aw (BO<|g b rfl) e,f⟩
theorem dQ.ac(E:dQ v eb nb sb pb mb fn bs F la lc ps K N)(n:xx sb bs ps K N R)(j:R 0 F)(k:ps.length<=100){u:aq}(c:fY v b 156 5 dC d u r)(a:r.length<=1048576):
  Goes Tryz.prog cH 79 #[pb,u] f v e s λa i=>a=.tuple #[]∧∃a,R ps a∧dQ i eb nb sb pb mb fn bs a la lc ps K N:=by
 intro g a a cs a h;obtain⟨a,a,rfl,l,a⟩:=OV h;have m:=λh (a:u.ownBlock=some h)=>yL c.toaM a;refine(WI (E.m n k c) l (xs:=r.map _) (dT di) ⟨?_,λk k l=>yw l k,E.Y _ j⟩ (M4 (B_ c.toaM) λh a=>DS.T a)<|PC c.toaM _ _ a).Y ?_;grind;rintro _ _ _ ⟨a,i,c,c,h,i,rfl,rfl,rfl⟩;exact⟨a,_,_,_,c,.tuple .nil,⟨rfl,E.U m i h⟩,rfl,rfl,rfl⟩
end
def jK(b:bS)(t:dP):dP:=if t.c=0 then⟨b.getD t.v 0,t.v⟩else t
def Db(b:bS)(a:kM):kM:=⟨a.n,a.2.map (jK b)⟩
theorem aeh{ts:List dP}{y:dP}(a:ts[b]?=some y):(ts.take<|b+1).map (jK j)=(ts.take b).map (jK j)++ [jK j y]:=by
 rw[eA,a];simp
theorem LV(L:d.In a){T F:Nat}{c:kM}(e7:mn d [.string q,.slice n T F] c)(i0:c.2.length<=3)(f7:∀g3∈c.2,jE g3)(e:okB j):
  aH 368 #[.agg #[q,.slice n T F],cu j] a λb2 d2=>∃v,b2=.returned (.agg #[c.n,v])∧au a d2∧aM d2 a 413 2 dV d v (c.2.map<|jK j):=by
 obtain⟨v,f8,f6⟩:=e7;obtain⟨rfl,rfl⟩:q=c.n∧ .slice n T F=v:=aV f8
 obtain⟨d5,d6,f9,e8⟩:=f6.U L;obtain⟨rfl,rfl,rfl⟩:n=d5∧T=c.2.length∧F=d6:=aV f9
 unfold cu;obtain⟨w1,Z,c2,-,-,a0⟩:=nc a (.cells #[c.n,.slice n c.2.length F] 315)<|.cells (bu j) 467;obtain⟨W,s⟩:=aT<|(w1.alloc<|.cells #[.string ⟨#[]⟩,.slice none 0 0] 315).alloc<|.cells #[c.n,.slice none 0 0] 315
 have b9:dc w1 _ _ j:=aw Z<|eK _ _ _
 have e6:au a W:=aw s<|(c2.I _).I _
 have e4:dc W _ _ j:=aw s<|(b9.B).B
 have e2:W.1[a.1.size+2]?=some (.cells #[.string ⟨#[]⟩,.slice none 0 0] 315):=by rw[s,<-a0];exact ic _ _ _
 have e3:W.1[a.1.size+3]?=some (.cells #[c.n,.slice none 0 0] 315):=by
  rw[s];have:=eK w1 (.cells #[.string ⟨#[]⟩,.slice none 0 0] 315)<|.cells #[c.n,.slice none 0 0] 315
  rwa [a0]at this
 have f4:aM W (a.1.size+4) 413 2 dV d _<|(c.2.take 0).map<|jK j:=.m<|L.B e6 i3;go_enter func368,ntmps368;go_wp2;rw[Z]at s;rw[<-s];clear s b9 c2;obtain⟨N,i⟩:=aT<|a.1.size+1;obtain⟨A,l⟩:=aT<|a.1.size+1+1;obtain⟨B,m⟩:=aT<|a.1.size+1+1+1;have b6:a.1.size+2=A:=aa
 have b7:a.1.size+3=B:=aa
 have b8:a.1.size+4=B+1:=aa
 rw[<-i]at e4;rw[b6]at e2;rw[b7]at e3;rw[b8]at f4;rw[<-m,<-l,<-i];rw[<-i]at l;rw[<-i,<-l]at m;let⟨i7,i8,i9,j0⟩:a.1.size<N∧N<A∧A<B∧a.1.size<=N:=aa
 clear Z a0 b6 b7 b8 l m i w1
 go_loopw [14] (λa2 wr=>∃(k:Nat)(v:aq),k<=c.2.length∧a2=.int .i64 k∧au a wr∧dc wr N 467 j∧wr.1[A]?=some (.cells #[.string ⟨#[]⟩,.slice none 0 0] 315)∧wr.1[B]?=some (.cells #[c.n,v] 315)∧aM wr (B+1) 413 2 dV d v ((c.2.take k).map<|jK j)) (λa2 _=>c.2.length-(intOf a2).toNat)
 grind
 case round=>
  obtain⟨k,v,h9,rfl,I,i,l,m,r⟩:=hrel;have i5:=aP m;by_cases f3:k<c.2.length
  ·let⟨E,S⟩:∃E,c.2[k]?=some E:=⟨_,cy f3⟩;obtain⟨h3,o,cc,rfl,c7,rfl,c6⟩:=e8 k E S;obtain⟨d8,d9⟩:=I.cB c6 id;have a9:ay<|(c.2.take<|k+1).map (jK j)=(c.2.take k).map (jK j)++ [jK j E]:=aeh S;obtain⟨g5,g6⟩:=f7 E<|cA S;have f2:((c.2.take k).map<|jK j).length<=3:=by rw[di,ix];omega
   clear S c6 c7;generalize(c.2.take k).map (jK j)=g2 at r f2 a9;obtain⟨h,f⟩:=E;dsimp only at g5 g6 d8 d9;obtain⟨bx,Q⟩:∃bx,j[f]?=some bx:=⟨_,cy<|aI e.1⟩;have c3:j.getD f 0=bx:=by rw[D8,Q];rfl
   have h8:=e.2 bx<|cA Q;obtain⟨D,z,y,-⟩:=df wr<|.cells #[.int .u64 (h:Nat),.int .i64 (f:Nat)] 413;obtain⟨P,H⟩:=aT wr.1.size
   have U:D.1[P]?=some (.cells #[.int .u64 (h:Nat),.int .i64 (f:Nat)] 413):=by rw[z,H];exact cz _ _
   have i4:=aP U;have w:=y.O m id;have h4:=aP w;obtain⟨b0,b1,g9,h0⟩:=bJ w;obtain⟨p0,p1,h1,h2⟩:=bJ U;have X:=r.I y i2 i3;have Y:=X.B;obtain⟨g0,g1⟩:=(i.O y id).I Q;have i1:=(i.O y id).V;have h6:B<P:=aa
   have h5:wr.1.size<=P:=aa
   have fin:∀(a4:dP)(a5 g:ag)(u:aq),jK j ⟨h,f⟩=a4->ae (·=P) D a5->aM g (B+1) 413 2 dV d u (g2++ [a4])->ae (λj=>v.ownBlock=some j) a5 g->
     au a (g.setCell ⟨B,1,none⟩ u)∧dc (g.setCell ⟨B,1,none⟩ u) N 467 j∧(g.setCell ⟨B,1,none⟩ u).1[A]?=some (.cells #[.string ⟨#[]⟩,.slice none 0 0] 315)∧(g.setCell ⟨B,1,none⟩ u).1[B]?=some (.cells #[c.n,u] 315)∧aM (g.setCell ⟨B,1,none⟩ u) (B+1) 413 2 dV d u ((c.2.take<|k+1).map<|jK j):=by
    intro a4 a5 g u e1 b3 b4 b5;have c9:∀j,v.ownBlock=some j->B+1<=j:=λj e=>(Y j e).1;have i6:=I.4;have x:=(ae.T (·=B) g).U (p:=⟨B,1,none⟩) (.inr rfl) u;have f5:∀j,j<B+1->¬v.ownBlock=some j:=λj e f0=>aI<|c9 j f0
    have a3:∀ {j:Nat} {C:bI},j<B+1->wr.1[j]?=some C->g.1[j]?=some C:=λ{j C} e d=>b5.O (b3.O (y.O d id) aa)<|f5 _ e;rw[a9.out,e1];exact⟨(((I.B y).V b3 λj (e:j=P)=>.inl aa).V b5 λj e=>.inl<|aI<|c9 j e).U (p:=⟨B,1,none⟩) (.inl (by grind)) _,x.O (a3 aa i) aa,x.O (a3 aa l) aa,fQ (o:=1) (a3 aa m) u,b4.T x (λj e=>aI<|(b4.B j e).1) λj C e=>aI<|L.O e⟩
   by_cases c4:h=0
   ·subst c4;have t:jK j ⟨0,f⟩=⟨bx,f⟩:=by unfold jK;rw[if_pos rfl,c3]
    replace t:ay _:=t;change D=wr.alloc (.cells #[.int .u64 0,.int .i64 (f:Nat)] 413)at z;obtain⟨d3,R⟩:=aT<|D.setCell ⟨P,0,none⟩<|.int .u64 (bx:Nat);have J:ae (·=P) D d3:=aw R ((ae.T (·=P) _).U (p:=⟨P,0,none⟩) (.inr rfl) _)
    have e5:d3.1[P]?=some (.cells #[.int _ _,.int _ _] _):=aw R<|fQ (o:=0) U _
    obtain⟨j1,j2,-,-⟩:=bJ e5;obtain⟨ax,c1,-,-⟩:=bJ<|J.O w aa;have c7:=aP<|J.O w aa;go_wp2_with (first|(rw[<-z,<-H];clear z H)|(rw[<-R];clear R)|(at_builtin;refine kI yc rfl (.tmp 27) (.tmp 29) rfl (X.T J (λj e=>aI<|(r.B j e).2) λj C e=>dX (L.O e) I.4) rfl ⟨bx,f⟩ #[.int .u64 (bx:Nat),.int .i64 (f:Nat)] rfl rfl (by simp[eP]) rfl rfl aa aa aa ?_;intro e0 d7 g V K _;have G:=K.O (b:=B) (J.O w aa) λe=>aI<|(Y _ e).1;obtain⟨g4,M,-,O⟩:=bJ G;have br:=aP G));obtain⟨M,a6,O,a7,a8⟩:=fin _ _ _ _ t.out J V K;go_roundw
    case rel=>exact⟨k+1,_,aa,ba,M,a6,O,a7,a8⟩
    case measure=>simp[intOf];omega
   ·have t:jK j ⟨h,f⟩=⟨h,f⟩:=by unfold jK;rw[if_neg c4]
    replace t:ay _:=t;clear Q c3 g0 g1;have aK:decide ((h:Int)=0)=false:=dT decide_eq_false_iff_not
    go_wp2_with (first|(rw[<-z,<-H];clear z H)|(rw[aK];clear aK)|(at_builtin;refine kI yc rfl (.tmp 27) (.tmp 29) rfl X rfl ⟨h,f⟩ #[.int .u64 (h:Nat),.int .i64 (f:Nat)] rfl rfl (by simp[eP]) rfl rfl aa aa aa ?_;intro e0 d7 g V K _;have G:=K.O (b:=B) w λe=>aI<|(Y _ e).1;obtain⟨g4,M,-,O⟩:=bJ G;have br:=aP G));obtain⟨M,a6,O,a7,a8⟩:=fin ⟨h,f⟩ D g _ t.out (ae.T _ _) V K;go_roundw
    case rel=>exact⟨k+1,_,aa,ba,M,a6,O,a7,a8⟩
    case measure=>simp[intOf];omega
  ·have f1:c.2.take k=c.2:=fo aa;rw[f1]at r;obtain⟨b0,b1,-,-⟩:=bJ m;obtain⟨d4,a1,g7,g8⟩:=bJ l;have h7:=aP l;obtain⟨d0,d1,rfl⟩:=r.O;have c8:(c.2.map<|jK j).length=c.2.length:=di ..;rw[c8]at r b1;clear c8;go_wp2;refine fl (v:=.agg #[c.n,.slice d0 c.2.length d1]) (by simp[results,results368,go_sem,d4,a1]) rfl ?_;have x:=((ae.T (·=A) wr).U (p:=⟨A,0,none⟩) (.inr rfl)<|.string c.n).U (p:=⟨A,1,none⟩) (.inr rfl)<|.slice d0 c.2.length d1;exact⟨_,rfl,I.V x λj (e:j=A)=>.inl aa,(r.T x (λj e=>aI<|(r.B j e).1) λj C e (b2:j=A)=>aI<|L.O e).Z aa⟩
def px(b:bS)(l:eX):eX:=⟨Db b l.a,l.2⟩
def jJ(b:bS)(r:bW):bW:=⟨Db b r.1,r.2.map (px b)⟩
theorem aeg{a:List eX}(c:a[b]?=some a0):(a.take<|b+1).map (px j)=(a.take b).map (px j)++ [px j a0]:=by
 rw[eA,c];simp
theorem UL(c3:d.In a)(h2:d.list 2 dV (.slice n g.1.2 b) g.1.2)(J:d.list 3 fM (.slice H g.2 f) g.2)(ok:fP g)(c:okB j):
  aH 352 #[.agg #[g.1.n,.slice n g.1.2 b,.slice H g.2 f],cu j] a λs d1=>∃u w V W,s=.returned (.agg #[g.1.n,.slice u g.1.2 w,.slice V g.2 W])∧au a d1∧∃k,k.In d1∧d.le k∧k.list 2 dV (.slice u g.1.2 w) (Db j g.1).2∧k.list 3 fM (.slice V g.2 W) (g.2.map<|px j):=by
 have h6:=(J.O c3).2;have f9:(bu j).size=12:=aw kC c.1
 obtain⟨w1,c4,f0,br,-,c8⟩:=nc a (.cells #[g.1.n,.slice n g.1.2.length b,.slice H g.2.length f] 318)<|.cells (bu j) 467;obtain⟨a6,N,a5,-⟩:=df w1<|.cells #[.string ⟨#[]⟩,.slice none 0 0,.slice none 0 0] 318
 have e6:dc w1 (a.1.size+1) 467 j:=aw c4<|eK _ _ _
 have ax:=f0.B a5;have Y:=a5.O e6 id;have Z:=a5.O br id;have a9:a6.1[a.1.size+2]?=some (.cells #[.string ⟨#[]⟩,.slice none 0 0,.slice none 0 0] 318):=by rw[N,<-c8];exact cz _ _
 have h5:a6.1.size=a.1.size+3:=by rw[N];simp[c8]
 rw[c4]at N;obtain⟨X,L⟩:=aT<|a.1.size+1;obtain⟨A,x⟩:=aT<|a.1.size+1+1;have e2:a.1.size+2=A:=aa
 rw[<-L]at Y;rw[e2]at a9;have m4:a.1.size<X:=aa
 have m5:X<A:=aa
 have m6:a6.1.size=A+1:=aa
 obtain⟨p0,p1,p2,-⟩:=bq Z;have i8:=aP Z;have q:=LV (c3.B ax i3) (⟨_,rfl,h2⟩:mn d [.string g.1.n,.slice n g.1.2.length b] g.1) ok.1 ok.2 c;unfold cu at q⊢;clear c4 c8 f0 e6 br a5 e2 w1 h5;go_enter func352,ntmps352;go_wp2_with (first|(rw[<-N,<-x,<-L];clear N x L;refine oC rfl (.tmp 3) rfl rfl Y underlying467 rfl (by rw[f9];kernel_rfl) ?_)|(go_at_call 368;refine q.mono ?_;clear q;rintro s w2 ⟨T,rfl,D,O⟩;have b7:=D.O Z id;obtain⟨p0,p1,p2,-⟩:=bq b7;have j2:=aP b7;obtain⟨u,w,l⟩:=O.O;rw[di]at l;subst l));obtain⟨T,l⟩:=aT<|oD u g.1.2.length w;rw[<-l];rw[<-l]at O;replace l:ay _:=l;obtain⟨q,a7,d8,d9,e0⟩:=O.U λ_ _ _ _ r=>r;have g2:ai.Ext (A+1) d q:=⟨d8,λj o c=>(d9 j o c).imp id λs=>aI<|(O.B j s).1⟩;obtain⟨B,J⟩:=aT w2.1.size;obtain⟨d2,c6,S,-⟩:=df w2<|.cells #[g.1.n,T,.slice none 0 0] 318
 have e4:d2.1[B]?=some (.cells #[g.1.n,T,.slice none 0 0] 318):=by rw[c6,J];exact cz _ _
 have j1:=D.4;have f4:q B=none:=a7.I aa;have l3:A+1<=B:=aa
 rw[<-c6,<-J];have f1:=(ax.B D).B S;have e3:=S.O (D.O a9 id) id;have e7:=S.O (D.O Y id) id;have f7:aM d2 (B+1) 382 3 fM q (.slice none 0 0)<|(g.2.take 0).map<|px j:=.m<|a7.B S i3;clear c6 J p0 p1 p2 b7 O D S j1 j2
 go_loopw [16] (λm wr=>∃(k:Nat)(U:aq)(K:ai),k<=g.2.length∧m=.int .i64 k∧au a wr∧dc wr X 467 j∧wr.1[A]?=some (.cells #[.string ⟨#[]⟩,.slice none 0 0,.slice none 0 0] 318)∧wr.1[B]?=some (.cells #[g.1.n,T,U] 318)∧ai.Ext (A+1) d K∧K B=none∧K.list 2 dV T (Db j g.1).2∧aM wr (B+1) 382 3 fM K U ((g.2.take k).map<|px j)) (λm _=>g.2.length-(intOf m).toNat)
 case atStart=>exact⟨0,_,q,aa,rfl,f1,e7,e3,e4,g2,f4,e0,f7⟩
 case round=>
  clear f4 f7 e7 e3 e4 f1 g2 a7 d8 d9 e0 q d2 Z a9 Y ax;obtain⟨k,U,K,f3,rfl,b9,L,x,b5,R,l4,f5,C⟩:=hrel;have m0:=aP b5;by_cases i4:k<g.2.length
  ·let⟨y,c7⟩:∃y,g.2[k]?=some y:=⟨_,cy i4⟩;obtain⟨k5,o,cc,rfl,l9,h3,h7⟩:=h6 k y c7;obtain⟨d4,d5,rfl,h4⟩:=h3.I;let⟨j6,j7,j8⟩:=b9.ab h7 id;have d6:ay<|(g.2.take<|k+1).map _=(g.2.take k).map _++ [px j y]:=aeg c7;obtain⟨g4,j4,-⟩:=ok.5 y<|cA c7;have i1:((g.2.take k).map<|px j).length<=4:=by rw[di,ix];have:=ok.4;omega
   have l7:=ok.4;generalize(g.2.take k).map (px j)=j3 at C i1 d6;obtain⟨F,aK,M,-⟩:=df wr<|.cells #[.string y.a.n,.slice d4 y.a.2.length d5,.bool y.2] 382;obtain⟨g5,b8⟩:=aT wr.1.size
   have e8:F.1[g5]?=some (.cells #[.string y.a.n,.slice d4 y.a.2.length d5,.bool y.2] 382):=by rw[aK,b8];exact cz _ _
   have i8:=aP e8;have b4:=M.O b5 id;have l2:=aP b4;obtain⟨b0,b1,b2,k2,k3,k4⟩:=bq b4;obtain⟨p0,p1,p2,-⟩:=bq e8;have b6:dc F X 467 j:=M.O L id;have i7:=b6.V;have Q:=C.I M i2 i3;have c2:=LV (Q.V.B (ae.T bE F).m i3) (⟨_,rfl,ai.list.B (h:=d) (k:=K) (λ_ _ r=>r) h4 R.1⟩:mn K [.string y.a.n,.slice d4 y.a.2.length d5] y.a) g4 j4 c;unfold cu at c2;go_wp2_with (rw[<-aK,<-b8];clear aK b8);refine dG (λm=>m==5||m==9||m==10||m==11||m==12) ah ah ?_;intro j5 k8 l5 k6 k7 h0 e1;refine aD ?_;refine aD ?_;refine aD ?_;refine aD ?_
   refine nU ah bf (.tmp 3) rfl rfl (λd1 ⟨d3,s⟩=>aw s<|(h0 d3 _ i7).trans b6) underlying467 rfl (by rw[f9];kernel_rfl) ?_;go_frame;refine a_ λI i=>?_;go_wp2_with (go_at_call 368;refine c2.mono ?_;rintro s w4 ⟨m7,rfl,i9,P⟩);have t:au F w4:=ae.ft i9;refine i _ _ ah (λ_=>e1 _ t.below) ?_;clear i I c2;refine aD ?_;refine aD ?_;refine aD ?_
   refine a_ λI i=>?_;go_wp2;refine i _ _ ah (λ_=>e1 _ (t.I _).below) ?_;obtain⟨G,c9,E,a4,d0⟩:=P.U λ_ _ _ _ r=>r;have m1:F.drew.1.size=F.1.size:=rfl
   have j0:ai.Ext (A+1) d G:=⟨R.1.B E,λj o c=>by
    obtain e|e:=a4 j o c
    ·exact R.2 j o e
    ·have:=(P.B j e).1;omega⟩
   have i5:=(Q.T t (λj c=>id) i3).ab (λg7 d3=>fM.B E) c9 (λj o c f2=>by
    obtain e|e:=a4 j o c
    ·exact Q.bN j o e f2
    ·have a8:=(P.B j e).1;have l1:=(Q.B j f2).2
     omega)
   have e5:G B=none:=by
    cases h9:G B with
    |none=>rfl
    |some a3=>
     obtain e|e:=a4 B a3 h9
     grind
     ·have:=(P.B B e).1;omega
   obtain⟨u,w,g1⟩:=P.O;rw[di]at g1;subst g1;have m2:=t.4;refine a_ λI i=>?_;refine kI Mx rfl (.tmp 21) (.tmp 29) rfl i5 rfl (px j y) #[.string y.a.n,.slice u y.a.2.length w,.bool y.2] ⟨_,rfl,d0⟩ rfl (by simp[eP]) rfl rfl aa aa aa ?_;intro g9 g8 g3 f6 a0 _;go_wp2;refine i _ _ ah (cS ah) ?_;refine a_ λI i=>?_;go_wp2;refine i _ _ ah (cS ah) ?_;have f8:∀j,U.ownBlock=some j->B+1<=j:=λj c=>(Q.B j c).1;have c1:∀j,j<B+1->¬U.ownBlock=some j:=λj c h8=>aI<|f8 j h8
   have b3:=a0.O (t.O b4 id)<|c1 _ aa;obtain⟨m8,m9,n0,g4,n1,n2⟩:=bq b3;have l8:=aP b3;refine a_ λI i=>?_;go_wp2;refine i _ _ ah (cS ah) ?_;refine cR ?_;go_wp2;have z:=(ae.T (·=B) g3).U (p:=⟨B,2,none⟩) (.inr rfl)<|.slice (some ⟨g9,0,none⟩) (j3.length+1) g8;have h1:au a g3:=((b9.B M).B t).V a0 λj c=>.inl<|aI<|f8 j c;go_roundw
   case rel=>
    refine⟨k+1,_,G,aa,ba,h1.U (p:=⟨B,2,none⟩) (.inl (by show _<=B;omega)) _,z.O (a0.O (t.O b6 id)<|c1 _ aa) aa,z.O (a0.O (t.O (M.O x id) id)<|c1 _ aa) aa,fQ (o:=2) b3 _,j0,e5,ai.list.B (h:=K) (k:=G) (λ_ _ r=>r) f5 E,?_⟩;rw[d6.out];refine f6.T z (λj c=>aI<|(f6.B j c).1) λj a3 c=>?_;rintro rfl;rw[e5]at c;cases c
   case measure=>simp[intOf];omega
  ·have i0:g.2.take k=g.2:=fo aa;rw[i0]at C;obtain⟨e,k9,l0,-⟩:=bq b5;obtain⟨g6,a1,a2,j9,k0,k1⟩:=bq x;have l6:=aP x;have l:=l.out;subst l;obtain⟨V,W,g0⟩:=C.O;rw[di]at g0;subst g0;go_wp2;refine fl (v:=.agg #[g.1.n,.slice u g.1.2.length w,.slice V g.2.length W]) (by simp[results,results352,go_sem,g6,a1,a2]) rfl ?_;have z:=(((ae.T (·=A) wr).U (p:=⟨A,0,none⟩) (.inr rfl)<|.string g.1.n).U (p:=⟨A,1,none⟩) (.inr rfl)<|.slice u g.1.2.length w).U (p:=⟨A,2,none⟩) (.inr rfl)<|.slice V g.2.length W;have i6:=C.T z (λj c=>aI<|(C.B j c).1) λj a3 c (s:j=A)=>by
    obtain a8|a8:=R.2 j a3 c
    ·have:=c3.O a8;omega
    ·omega
   obtain⟨d7,c9,E,a4,d0⟩:=i6.U λm3 f3 g7 d3=>fM.B f3;exact⟨_,_,_,_,rfl,b9.V z λj (c:j=A)=>.inl aa,d7,c9,R.1.B E,ai.list.B (h:=K) (k:=d7) (λ_ _ r=>r) f5 E,d0⟩
theorem UE{i:ai}{w:ag}(G:i.In w){r:bW}{ha cv:Option bC}{hc bc:Nat}(u:i.list 2 dV (.slice ha r.1.2 hc) r.1.2)(I:i.list 3 fM (.slice cv r.2 bc) r.2)(ok:fP r){t:aC}(k:bF t){b:bS}(L:ee r.1.2 (fS t)=some b)(D:okB b)(M:fP<|jJ b r)
  {m:Option Nat}{a:bO}{F:aW}(J:dD w m a F)(K:kR (dU a F)<|cX<|jJ b r):
  aH 335 #[.agg #[r.1.n,.slice ha r.1.2 hc,.slice cv r.2 bc],bh t,m] w λe g=>∃c h l,e=.returned (cg<|(aB c t).getD 0)∧eQ [(0,0,0)] h∧iY (dU a F) (cX<|jJ b r) h ((cX<|jJ b r).5.map λ_=>none) l∧
   c.Perm ((fe (dU a F) (dH (dU a F) (cX<|jJ b r) h)<|(cX<|jJ b r).5.zip l).map λp=>(dL (cX<|jJ b r).1.2 p.1,p.2))∧au w g:=by
 have E:(bu b).size=12:=aw kC D.1;obtain⟨x,y,z⟩:=t;obtain⟨w1,F,H,t,f⟩:=df w<|.cells #[r.1.n,.slice ha r.1.2.length hc,.slice cv r.2.length bc] 318;obtain⟨W,d,o,-⟩:=nc w1 (.cells #[.int .u64 x,.int .u64 y,.int .u64 z] 116)<|.cells #[.int .u64 0,.int .u64 0] 112;have C:=H.B o;have j:=o.O t id;have a:W.1[w.1.size+1]?=some (.cells #[.int .u64 x,.int .u64 y,.int .u64 z] 116):=by rw[d,<-f];exact ic _ _ _
 have B:W.1[w.1.size+2]?=some (.cells #[.int .u64 0,.int .u64 0] 112):=by
  rw[d];have:=eK w1 (.cells #[.int .u64 x,.int .u64 y,.int .u64 z] 116)<|.cells #[.int .u64 0,.int .u64 0] 112;rwa [f]at this
 obtain⟨N,n⟩:=aT<|w.1.size+1;obtain⟨A,q⟩:=aT<|w.1.size+1+1;have s:w.1.size+2=A:=aa;rw[F]at d;rw[<-n]at a;rw[s]at B;have O:w.1.size<N:=aa;have O:N<A:=aa;clear F f t o s H w1;obtain⟨p0,p1,p2,-⟩:=bq j;obtain⟨t,F,H,-⟩:=bq a;have o:=aP j;have s:=aP a;have f:=E_ (G.B C i3) (⟨_,rfl,u⟩:mn i _ _) ok.1 ok.2 k;rw[L]at f;change aH 351 _ W λe g=>e=.returned (.tuple #[.agg<|bu b,true])∧_ at f;unfold bh at f⊢;go_enter func335,ntmps335;go_wp2_with (first|(go_at_call 351;rw[<-d,<-q,<-n];clear d q n;refine f.mono ?_;clear f;rintro e w2 ⟨rfl,i⟩)|(refine iV rfl (.tmp 7) (.tmp 14) rfl rfl (cz w2<|.cells (bu ep) 467) rfl (λw=>sizeOf467 w) (dh E) (lf _) ?_;intro w3 n d));have f:=i.B (ae.al.V n aa);obtain⟨p0,p1,p2,-⟩:=bq<|f.O j id;obtain⟨t,F,H,-⟩:=bq<|f.O a id;have o:=aP<|f.O j id;have s:=aP<|f.O a id;have j:=C.B f;have n:=λg (k:au w g)=>UL (G.B k i3) u I ok D;have o:(jJ b r).1.2.length=r.1.2:=di _;have q:(jJ b r).2.length=r.2:=di _;apply dG (λi=>i==2||i==4||i==6||i==7) ah ah ?_;intro S a a a a a i;refine aD ?_;refine nU ah bf _ rfl rfl (λg ⟨x,e⟩=>aw e<|(a x _ (aP d)).trans d) underlying467 rfl (by rw[E];kernel_rfl) ?_;refine a_ λd a=>?_;go_wp2_with (go_at_call 352;refine(n _<|j.B (ae.T _ _).m).mono ?_;clear n;rintro e w4 ⟨w,D,C,E,rfl,n,g,u,g,t,s⟩);have g:=ae.ft n;apply a _ _ ah (λ_=>i _ g.below);clear a d;refine aD ?_;have n:=EZ u (r:=jJ b r) (ha:=w) (hc:=D) (cv:=C) (bc:=E) (aw o t) (aw q s) M (J.B<|j.B g) K;rw[o,q]at n;refine a_ λd a=>?_;go_wp2_with (go_at_call 349;refine n.mono ?_;clear n;rintro e b ⟨b,c,h,l,rfl,b,e,s,n,o,q⟩);have b:=g.B q;apply a _ _ ah (λ_=>i _ b.below);clear a d;refine aD ?_;have g:(aB c (x,y,z)).elim (cg 0) cg=cg ((aB c (x,y,z)).getD 0):=by cases aB c (x,y,z)<;>rfl
 refine a_ λd a=>?_;go_wp2_with (at_lookup;refine iH iQ underlying324 P1 rfl (.tmp 23) (.tmp 24) rfl rfl (bU _) e.T (x:=(x,y,z)) rfl k g ?_);apply a _ _ ah (λ_=>i _ b.below);clear a d;generalize e:(aB c (x,y,z)).getD 0=i at*;replace e:ay _:=e;have g:=(f.B b).O B id;obtain⟨-,-,f,f⟩:=bJ g;obtain⟨f,k,-,-⟩:=bJ g;unfold cg;refine a_ λd a=>?_;go_wp2;apply a _ _ ah (cS ah);clear a d;apply cR;go_wp2;refine fl (v:=cg i) (by simp[results,go_sem,f,k,cg]) rfl ?_;exact⟨c,h,l,fN e.out,s,n,o,(j.B b).V (((ae.T (·=A) _).U (p:=⟨A,0,_⟩) af<|.int _ _).U (p:=⟨A,1,_⟩) af<|.int _ _) aa⟩
structure I6(D:Bool->ByteArray->Seen)(r:bW)(t:aC)(n:Nat):Prop where
 fits:∃b,ee r.1.2 (fS t)=some b∧okB b∧fP (jJ b r)∧kR D (cX (jJ b r))∧
  ∀hs xs st',eQ [(0,0,0)] xs->iY D (cX (jJ b r)) xs ((cX (jJ b r)).5.map λ_=>none) st'->hs.Perm ((fe D (dH D (cX (jJ b r)) xs) ((cX (jJ b r)).5.zip st')).map λp=>(dL (cX (jJ b r)).1.2 p.1,p.2))->(aB hs t).getD 0=n
def pw(a:bW->Nat)(n:ByteArray)(b:List bW):Nat:=b.foldl (λs r=>if r.1.n=n then(s+a r) % dA else s) 0
theorem aea{a:bW->Nat}(c:h[b]?=some g):pw a q (h.take<|b+1)=if g.1.n=q then(pw a q (h.take b)+a g) % dA else pw a q<|h.take b:=by
 unfold pw;rw[eA,c,sj,iZ];rfl
theorem C0(a b:ByteArray):(a.toList==b.toList)=decide (a=b):=by
 rw[Bool.eq_iff_iff,beq_iff_eq,decide_eq_true_iff,D1,D1];constructor;intro h;cases a;simp_all;grind
theorem UA{lb H:Nat}{rs:List bW}{c6:Option bC}(j:ju a d lb H rs c6 b)(f9:∀r∈rs,fP r)(h2:rs.length<=1048576)(d9:aO a H c e){n:ByteArray}{t:aC}(f3:bF t){Wy:bW->Nat}(G:∀r∈rs,r.1.n=n->I6 (dU c e) r t (Wy r)):
  aH 326 #[lb,n,bh t] a λC u=>C=.returned (cg<|pw Wy n rs)∧au a u:=by
 obtain⟨g0,g1,f6,e1⟩:=j.3.U j.1;obtain⟨rfl,rfl⟩:c6=g0∧b=g1:=aV f6
 obtain⟨a0,y,a3⟩:=t;obtain⟨d0,T,S,d5,a5,-⟩:=xQ a (.cells #[.int .u64 a0,.int .u64 y,.int .u64 a3] 116) (.cells #[.int .u64 0,.int .u64 0] 112)<|.cells #[.int .u64 0,.int .u64 0] 112
 have a7:d0.1[a.1.size+1+1]?=some (.cells #[.int .u64 0,.int .u64 0] 112):=by
  rw[T];have:=eK (a.alloc<|.cells #[.int .u64 a0,.int .u64 y,.int .u64 a3] 116) (.cells #[.int .u64 0,.int .u64 0] 112)<|.cells #[.int .u64 0,.int .u64 0] 112
  rwa [fV]at this
 obtain⟨aK,l1,-,-⟩:=bJ (j.B S).2;have b5:=aP (j.B S).2;obtain⟨A,g⟩:=aT<|a.1.size+1;obtain⟨B,h⟩:=aT<|a.1.size+1+1;rw[<-h]at a7;rw[<-g]at a5;have h4:a.1.size<A:=aa
 have h5:A<B:=aa
 unfold bh;go_enter func326,ntmps326;go_wp2_with (rw[<-T,<-h,<-g];clear T g h);go_loopw [16] (λq wr=>∃(k:Nat)(s:Nat),k<=rs.length∧q=.int .i64 k∧au a wr∧wr.1[a.1.size]?=some (.cells #[.int .u64 a0,.int .u64 y,.int .u64 a3] 116)∧wr.1[A]?=some (.cells #[.int .u64 0,.int .u64 0] 112)∧wr.1[B]?=some (.cells #[.int .u64 (s/18446744073709551616:Nat),.int .u64 (s % 18446744073709551616:Nat)] 112)∧ay (pw Wy n (rs.take k)=s)) (λq _=>rs.length-(intOf q).toNat)
 case atStart=>exact⟨0,0,aa,rfl,S,d5,a5,a7,(rfl:pw _ n _=0)⟩
 case round=>
  obtain⟨k,s,h1,rfl,w,f,g,h,E⟩:=hrel;have b6:=(j.B w).2;obtain⟨aK,l1,-,-⟩:=bJ b6;have b5:=aP b6;by_cases f0:k<rs.length
  ·let⟨r,D⟩:∃y,rs[k]?=some y:=⟨_,cy f0⟩;obtain⟨g8,o,cc,rfl,e6,d6,b3⟩:=e1 k r D;have b8:=cA D;have G:=G r b8;obtain⟨U,V,cv,K,rfl,d8,d7,g9⟩:=d6;let⟨ax,c1,c2⟩:=w.ab b3 id;have z:ay<|pw _ n _=if r.1.n=n then(pw _ n (rs.take k)+Wy r) % dA else pw Wy n<|rs.take k:=aea D;clear D b3 e6;obtain⟨g4,W,Z,-⟩:=df wr<|.cells #[r.1.n,.slice U r.1.2.length V,.slice cv r.2.length K] 318;obtain⟨c8,Q⟩:=aT wr.1.size
   have N:g4.1[c8]?=some (.cells #[r.1.n,.slice U r.1.2.length V,.slice cv r.2.length K] 318):=by rw[W,Q];exact cz _ _
   obtain⟨I,a1,a2,-⟩:=bq N;have b2:=aP N;have c3:=λu=>xT (n:=r.1.n) (a1:=U) (a2:=cv) (l1:=r.1.2.length) (l2:=r.2.length) (k1:=V) (k2:=K) u;go_wp2_with (first|(rw[<-W,<-Q];clear W Q)|(go_at_call 323;refine(c3 _).mono ?_;clear c3;rintro C w2 ⟨rfl,F⟩))
   ·rename_i l;rw[C0,decide_eq_true_iff]at l;obtain⟨Lg,b7,e3,f8,e8,e7⟩:=(G l).1;rw[if_pos l,E.out]at z;have X:=λu (b9:au a u)=>UE (j.1.B b9 i3) d8 d7 (f9 r b8) f3 b7 e3 f8 (m:=some H) (.inr ⟨H,rfl,d9.B b9 i2⟩) e8;have c4:=λu=>LK s (Wy r) u;unfold bh at X;have c7:=(w.B Z).B F;have b4:=(j.B c7).2;obtain⟨aK,l1,-,-⟩:=bJ b4;have b5:=aP b4;have i:=Z.B F;have a6:=F.O N id;obtain⟨I,a1,a2,-⟩:=bq a6;have b2:=aP a6;have O:=i.O h id;obtain⟨b0,b1,-,-⟩:=bJ O;have e5:=aP O;have a9:=i.O f id;obtain⟨h6,h7,h8,-⟩:=bq a9;have h3:=aP a9;clear l b7 G;refine dG (λq=>q==8||q==9||q==10) ah ah ?_;intro c9 d3 e0 d1 d2 d4 L;iterate 8 (refine gg ah bf bf λd a8=>?_;go_big_quiet_op;refine a8 _ ?_;clear a8 d)
    refine a_ λx f=>?_;go_wp2_with (go_at_call 335;refine(X _<|c7.B (ae.T _ _).m).mono ?_;clear X;rintro C w4 ⟨f2,g5,g2,rfl,f7,e4,f1,f4⟩);have a4:=ae.ft f4;refine f _ _ ah (λ_=>L _ a4.below) ?_;clear f x;rw[e7 f2 g5 g2 f7 e4 f1];refine a_ λx f=>?_;go_wp2_with (go_at_call 334;refine(c4 _).mono ?_;clear c4;rintro C g3 ⟨rfl,f5⟩);have M:=a4.B f5;refine f _ _ ah (λ_=>L _ M.below) ?_;clear f x;generalize(s+Wy r) % dA=s2 at*;have P:=M.O O id;obtain⟨h9,i0,i1,i4⟩:=bJ P;have h0:=aP P;unfold cg;refine a_ λx f=>?_;go_wp2;refine f _ _ ah (cS ah) ?_;clear f x;refine cR ?_;clear d1 d2 d4 L e0 d3 c9;go_wp2;have Y:=i.B M;have R:=((ae.T (·=B) g3).U (p:=⟨B,0,none⟩) (.inr rfl)<|.int .u64 (s2/18446744073709551616:Nat)).U (p:=⟨B,1,none⟩) (.inr rfl)<|.int .u64 (s2 % 18446744073709551616:Nat);go_roundw
    case rel=>exact⟨k+1,s2,aa,ba,(w.B Y).V R λJ (e2:J=B)=>.inl aa,R.O (Y.O f id) aa,R.O (Y.O g id) aa,(fQ (o:=1) (fQ (o:=0) P<|.int .u64 (s2/18446744073709551616:Nat))<|.int .u64 (s2 % 18446744073709551616:Nat)),z⟩
    case measure=>simp[intOf];omega
   ·rename_i l;rw[C0,decide_eq_false_iff_not]at l;rw[if_neg l]at z;have i:=Z.B F;go_roundw
    case rel=>exact⟨k+1,s,aa,ba,w.B i,i.O f id,i.O g id,i.O h id,z.out.trans E.out⟩
    case measure=>simp[intOf];omega
  ·have br:rs.take k=rs:=fo aa;rw[br]at E;obtain⟨I,a1,g6,g7⟩:=bJ g;have b2:=aP g;obtain⟨b0,b1,-,-⟩:=bJ h;have e5:=aP h;go_wp2;refine fl (v:=cg s) (by simp[results,results326,go_sem,I,a1,cg]) rfl ?_;exact⟨fN E.out,w.V (((ae.T (·=A) wr).U (p:=⟨A,0,none⟩) (.inr rfl)<|.int .u64 (s/18446744073709551616:Nat)).U (p:=⟨A,1,none⟩) (.inr rfl)<|.int .u64 (s % 18446744073709551616:Nat)) λJ (e2:J=A)=>.inl aa⟩
section
open Go.Shelf
def Tryz.acr:mf:=⟨λ|20=>287|n=>n,λ|0=>0|3=>3|4=>4|22=>23|24=>9|25=>264|n=>n,λ|n=>n⟩
theorem Tryz.acp:SlLaysF.n20 Tryz.prog Tryz.acr:=by
 constructor<;>first|kernel_rfl|(intro w;kernel_rfl)|(intro w;rfl)|exact⟨f287.1,aA,func287.trans<|congrArg some ah⟩
end
section
open Go.Lib Go.Sort
theorem Uf(g:aF a aL cr oX b p)(c:a.cell? ⟨f,0,none⟩=some (.map<|some b))(h:aL q)(i:aL b5):
  aH 188 #[q,b5,f] a λe c=>e=.returned (.int .i64<|Kc (iD p q)<|iD p b5)∧c=a:=by
 have c:=FN p q;have d:=FN p b5;generalize iD p q=x at c;generalize iD p b5=y at d;have j:=λa=>Tryz.cmp_Compare_int x y a;go_enter func188,ntmps188;go_wp2_with (first|(at_lookup;refine iH bZ underlying307 rv rfl (.tmp 6) (.tmp 7) rfl rfl (bU _) g.T rfl h c ?_)|(at_lookup;refine iH bZ underlying307 rv rfl (.tmp 9) (.tmp 10) rfl rfl (bU _) g.T rfl i d ?_)|(go_at_call 189;refine(j _).mono ?_;rintro e w2 ⟨rfl,rfl⟩));go_ret;simp_all
abbrev uM:={s:ByteArray//aL s}
instance:Inhabited uM:=⟨⟨⟨#[]⟩,aA⟩⟩
def nT(x:uM):Value:=.string x.1
def nk(f:List (ByteArray×Int))(x y:uM):Int:=Kc (iD f x.1) (iD f y.1)
theorem FM(f:List<|ByteArray×Int):SWO<|ltOf<|nk f:=by
 have a:∀x y,ltOf (nk f) x y=decide (iD f x.1<iD f y.1):=λx y=>by
  unfold ltOf nk Kc;grind
 refine⟨λx=>?_,λx y z=>?_,λx y z=>?_⟩;grind;grind;grind
theorem PF(w:ag)(g o m)(a:Array uM)(os:Array bI):ae (·=g) w<|sortWorld nT w g o m a os:=by
 refine⟨rfl,rfl,rfl,?_,λk a a=>?_⟩;unfold sortWorld grow;simp_all;unfold sortWorld grow putRow mapBlock Go.Sort.ahead;grind
variable{K:Array uM}
theorem Uw{c b g o cap:Nat}(k:aF a aL cr oX c p)(l:a.cell? ⟨b,0,none⟩=some (.map<|some c))(h:c≠g)(j:b≠g)(f:qg nT a g o K)(n:K.size<4611686018427387904):
  aH 287 #[.slice (some ⟨g,o,none⟩) K cap,.int .i64 0,.int .i64 K,.func (.func 188) #[] #[b]] a λe c=>e=.returned (.tuple #[])∧ae (·=g) a c∧qg nT c g o (pC (ltOf<|nk p) K 0 K):=by
 have i:∀d a,(callFunc 188 d).run Tryz.prog a=.ok (.enter 188 d) a:=af;have m:CmpReads _ 188 #[b] nT (nk p) g o K.size a:=λq os d b x y=>by
  have b:=PF a g o q d os;have:=Uf (k.B b h) (b.Y l j) x.2 y.2;exact this.mono λe c h=>⟨h.1,0,h.2⟩
 refine(Any.insertionSortCmpFunc_one Tryz.acp _ (λ_=>rfl) _ _ _ g o _ 0 _ K a i m f aa aa n).mono ?_;rintro e c ⟨rfl,n,rfl⟩;rw[<-sortWorld_none];refine⟨rfl,PF _ _ _ _ _ _,?_⟩;exact holds_putRow _ a g o K _ f (((IM (lt:=ltOf<|nk p) (FM p) K 0 _ aa<|aa).1).1)
theorem Up{b c g o cap:Nat}(i:aF a aL cr oX b p)(j:a.cell? ⟨c,0,none⟩=some (.map<|some b))(d:b≠g)(f:c≠g)(h:qg nT a g o K)(b:K.size<20):
  aH 247 #[.slice (some ⟨g,o,none⟩) K cap,.int .i64 K,.func (.func 188) #[] #[c]] a λe b=>e=.returned (.tuple #[])∧ae (·=g) a b∧qg nT b g o (pC (ltOf<|nk p) K 0 K):=by
 have c:=Uw (cap:=cap) i j d f h aa;go_enter func247,ntmps247;go_wp2;go_loopg [7,8] 0 (λgk b d wr=>gk=0∧b=.int .i64 0∧d=.int .i64 20∧wr=a);grind;obtain⟨rfl,rfl,rfl,rfl⟩:=hrel;go_wp2_with (go_at_call 287;refine c.mono ?_;clear c;rintro e w2 ⟨rfl,c,c⟩);go_loopg [6] 0 (λgk b wr=>gk=0∧b=.int .i64 20∧wr=w2);grind;go_wp2;go_end0;grind
theorem Ue{b c g o cap:Nat}(i:aF a aL cr oX b p)(j:a.cell? ⟨c,0,none⟩=some (.map<|some b))(d:b≠g)(f:c≠g)(h:qg nT a g o K)(k:K.size<20):
  aH 187 #[.slice (some ⟨g,o,none⟩) K cap,.func (.func 188) #[] #[c]] a λe b=>e=.returned (.tuple #[])∧ae (·=g) a b∧qg nT b g o (pC (ltOf<|nk p) K 0 K):=by
 have b:=Up (cap:=cap) i j d f h k;go_enter func187,ntmps187;go_wp2_with (go_at_call 247;refine b.mono ?_;clear b;rintro e w2 ⟨rfl,b,b⟩);go_end0;grind
end
end
