import Derived.Test.YtkdljbnllgpfhaaGreatA7
import Derived.Conc.LeavingOf
import Derived.Test.YtkdljbnllgpfhaaGreatRows
set_option maxRecDepth 100000
set_option maxHeartbeats 8000000
open Go renaming World->ag,Value->aq
open Go.Frame renaming enter->ej
open Prod renaming fst->bD,snd->js
open List.Perm renaming swap->R2
open Go.DataW renaming Trod->R4,trod->R5
open Go.Value renaming okWide->R6
open Go.Proofs.Tryz renaming checked->Kw
namespace Go.Proofs
open Tryz
open Go.RowKit
abbrev Kv:=@List.perm_cons
abbrev vJ:=@List.perm_ext_iff_of_nodup
abbrev vK:=@List.perm_singleton
abbrev R3:=@List.exists_mem_of_ne_nil
variable{t:Type}{x:Bool}{v w:Bool->ByteArray->Seen}{j:ByteArray}{k:ai}{u:List bV}{y:List bk}{z:List Lay}{H a e r:List aC}{f:List _}{i:List t}{b l:Nat}{A:Nat->Bool}{C:Nat->List bV->aW->Prop}{D:Nat->aW->Prop}{g:bO}{h:ag}{p:eX}{c:bW}{d:aW}{q:aC}{n o s:t}
section
open YtkdljbnllgpfhaaGreat
deriving instance DecidableEq for Lay
def Bz(b:UInt8):dW:=⟨⟨#[b]⟩,false⟩
def p6(b:UInt8):dW:=⟨⟨#[b]⟩,true⟩
def gG:bk:=⟨⟨dp,[p6 88,p6 89]⟩,[⟨⟨dt,[p6 88,p6 89]⟩,false⟩]⟩
def eM:bk:=⟨⟨dp,[p6 88,p6 90]⟩,[⟨⟨dp,[p6 88,p6 89]⟩,false⟩,⟨⟨dt,[p6 89,p6 90]⟩,false⟩]⟩
def cs1:List bk:= [⟨⟨dt,[Bz 97,Bz 98]⟩,[]⟩,⟨⟨dt,[Bz 98,Bz 99]⟩,[]⟩,gG,eM]
def n_:Lay:=⟨[gG,eM],true⟩
theorem adk:eE PG=(some cs1,0,0):=OJ bb bb
theorem ada:eE C6=(none,((7:Nat):Int),((0:Nat):Int)):=by
 have a:iB [⟨qG ⟨#[112]⟩,[⟨qG ⟨#[113]⟩,false⟩,⟨qG ⟨#[112]⟩,true⟩]⟩]=(7,0):=bb;have h:=OL (tx:=C6) (cs:= [⟨qG ⟨#[112]⟩,[⟨qG ⟨#[113]⟩,false⟩,⟨qG ⟨#[112]⟩,true⟩]⟩]) bb (by grind);grind
theorem Po:bl cs1= [dt,dp]:=bb
theorem wO:eC cs1= [(dt,(2,false)),(dp,(2,true))]:=bb
theorem adj:aB (eC cs1) dp=some (2,true):=by decide+kernel
theorem GZ:aL dp:=p_ aA
theorem ux(h:i.Perm [n,o]):i= [n,o]∨i= [o,n]:=by
 match i,h.length_eq with
 | [a,c],_=>
  have b:=h.mem_iff.1 (show a∈ [a,c] by simp);simp at b;obtain rfl|rfl:=b;simp_all;have a:=h.trans<|R2 ..;simp_all
theorem adh(a:∀x∈bl cs1,aL x):(jl (fR cs1) cs1 (bl cs1)<|lS (fR cs1) _ a).2= [n_]:=by
 have b:=Pd (fR cs1) _ a;generalize lS (fR cs1) (bl cs1) a=a at b;obtain rfl|rfl:=ux b;decide+kernel;decide+kernel
theorem adl:cs1.all BB=true:=bb
def cq:aC:=fI [pg,kA]
def cC:aC:=fI [kA,sQ]
def eG:aC:=fI [pg,sQ]
structure kQ(es ps:List aC)(F:aW):Prop where
 Ms:∀t,t∈F dt↔t∈es
 path:∀t,t∈F dp↔t∈ps
 aeV:(F dt).Nodup
 gG:(F dp).Nodup
 none:∀n,n≠dt->n≠dp->F n= []
theorem kQ.B(h:kQ a e d)(n:ByteArray):(d n)<=max a.length e:=by
 by_cases c:n=dt;subst c;have:=h.3.length_le_of_subset λt b=>(h.1 t).1 b;omega;by_cases f:n=dp;subst f;have:=h.4.length_le_of_subset λt b=>(h.2 t).1 b;omega;rw[h.5 n c f];grind
def AP(j:Nat)(F:aW):Prop:=if j=0 then F=(g_ (λ_=> []) cs1).1 else kQ [cq,cC] [cq,cC,eG] F
def tV(j:Nat)(a:List bV)(F:aW):Prop:=if j=0 then a= [nj.B]∧kQ [cq] [cq,cC,eG] F else a.length=3∧(∀x∈a,bF x.t)∧kQ [cq] [cq] F
theorem tk(h:((eC cs1).map bD).Perm<|g.map bD):(aB g j).isSome=true↔j=dt∨j=dp:=by
 rw[qR,<-h.mem_iff,wO];simp
theorem Pm(h:j=pg∨j=kA∨j=sQ):rQ j:=by
 rcases h with rfl|rfl|rfl<;>exact⟨aA,aA,bb,.inl bb⟩
theorem wQ:cq≠cC∧cq≠eG∧cC≠eG:=bb
theorem za(ss:List ByteArray):bF<|fI ss:=⟨wU ss 0,wU ss 1,wU ss 2⟩
theorem Co:dt≠dp:=aA
theorem ac9(c:((eC cs1).map bD).Perm<|g.map bD)(hF:kQ [cq,cC] [cq,cC,eG] d):Ef (eC cs1) g d 1 tV nj:=by
 have f:o_ d [nj.B]=lV d dt (sX (d dt) cC):=rfl;refine⟨rfl,p_ aA,aA,aA,λs a=>Pm ?_,by decide+kernel,?_,λp i=>(tk c).2 ?_,by decide,λn=>?_,λl a b e=>?_,?_,?_,λh h h=>?_⟩;grind;show bL (cd g d dt) cC=true;unfold cd;rw[if_pos<|(tk c).2<|.inl rfl];unfold bL;rw[rF];exact⟨cC,(hF.1 _).2 af,af⟩;rw[wO]at i;grind;have:=hF.B n;grind;have c:(l.map bD).length<= [dt,dp].length:=by
  refine e.length_le_of_subset λn c=>?_;obtain⟨p,e,rfl⟩:=ei.1 c;have:=b p e;rw[wO]at this;simp at this;rcases this with rfl|rfl<;>simp
 have c:=Le (F:=d) (B:=3) (λn=>by have:=hF.B n;grind) l;grind;exact za _;unfold tV;rw[if_pos rfl,f];refine⟨rfl,λt=>?_,λt=>?_,?_,?_,λn a b=>?_⟩;rw[wT];unfold sX;rw[qu,hF.1];simp;constructor;grind;rintro rfl;exact⟨af,wQ.1⟩;exact hF.2 t;exact hF.3.filter _;exact hF.4;rw[wS _ a];exact hF.5 n a b;unfold tV at h;grind
deriving instance DecidableEq for cU
def gW:List bW:= [bP gG,bP eM]
def jg:cU:=gV (bP eM).1 ((bP eM).2.headD ⟨qW,false⟩).a (il (bP eM) 0)
theorem Nf:lN (gD gW) gW= [jg]:=bb
theorem Nh:jg.3= []:=bb
theorem Ym:jg.5.map (λs=>(s.3.a.n,s.3.2))= [(dt,false)]:=bb
theorem iP:jg.1.n=dp∧jg.2.n=dp:=bb
theorem Nc:xY jg=true:=bb
theorem O1:∀q(l:List<|bS×Nat),(∀p∈q,p.1.1= [])->fe v l q=fe w l q
 | [],_,_=>rfl
 |x::q,l,h=>by
  have a:x.1.1= []:=aJ;have e:lT v x.1 (jW x.1<|x.2.getD []) l=lT w x.1 (jW x.1<|x.2.getD []) l:=by
   unfold lT jG;rw[a];rfl
  show fe v (lT v x.1 (jW x.1<|x.2.getD []) l) q=fe w (lT w x.1 (jW x.1<|x.2.getD []) l) q;rw[e];exact O1 q _ λp a=>h p<|rz _ a
theorem GV{D D':Bool->ByteArray->Seen}{J:cU}(h:J.3= [])(a:List aC):dH D J a=dH D' J a:=by
 unfold dH jG;rw[h];rfl
def oo:Bool->ByteArray->Seen:=λ_ _=>([],[],[])
theorem Yp(c:a= [cq,cC]∨a= [cC,cq])(b:e= [cq,cC]∨e= [cC,cq]):(eL oo jg a [some e]).map bD= [eG]:=by
 rcases c with rfl|rfl<;>rcases b with rfl|rfl<;>decide+kernel
theorem Yq(b:a= [cq,cC]∨a= [cC,cq]):(eL oo jg [eG] [some a]).map bD= []:=by
 rcases b with rfl|rfl<;>decide+kernel
theorem Oh[DecidableEq t](h:i.Perm [n,o,s]):i= [n,o,s]∨i= [n,s,o]∨i= [o,n,s]∨i= [o,s,n]∨i= [s,n,o]∨i= [s,o,n]:=by
 match i,h.length_eq with
 |a::i,_=>
  have b:=h.mem_iff.1 (show a∈a::i by simp);simp at b;obtain rfl|rfl|rfl:=b;rcases ux ((Kv a).1 h)with rfl|rfl<;>simp;rcases ux ((Kv a).1<|h.trans<|R2 ..)with rfl|rfl<;>simp
  have b:(a::i).Perm [a,n,o]:=aJ
  rcases ux ((Kv a).1 b)with rfl|rfl<;>simp
theorem qZ(h:eQ e r)(c:∀t,t∈e↔t∈a)(b:a.Nodup):r.Perm a:=
 (vJ h.2.2 b).2 λt=>⟨λb=>(c t).1<|h.2.1 t b,λb=>h.1 t<|(c t).2 b⟩
theorem acA(h:a.Perm [cq,cC]):(fH a).1= [cq,cC]:=by
 rcases ux h with rfl|rfl<;>decide+kernel
theorem acB(h:a.Perm [cq,cC,eG]):(fH a).1= [cq,eG,cC]:=by
 rcases Oh h with rfl|rfl|rfl|rfl|rfl|rfl<;>decide+kernel
theorem sort_1(h:a.Perm [cq]):(fH a).1= [cq]:=by
 rw[vK.1 h];decide+kernel
theorem Mr(l:((eC cs1).map bD).Perm<|g.map bD)(hF:kQ a e d)(o:a.Nodup)(u:e.Nodup)(q:∀b,b.Perm a->(fH b).1=r)(s:∀b,b.Perm e->(fH b).1=H)
  (b:a≠ []∧e≠ []∧a.length<=3∧e.length<=3∧(∀t∈a,t.1≠0)∧∀t∈e,t.1≠0)(c:(⟨([]++(r.map<|pT dt).flatten++(H.map<|pT dp).flatten).toArray⟩:ByteArray)=j):xv g d j:=by
 obtain⟨v,w,c,c,x,y⟩:=b;have b:g.length=2:=by
  have:=l.length_eq;rw[wO,di,di]at this;exact this.symm
 have n:∀p∈g,p.1=dt∨p.1=dp:=λp c=>(tk l).1<|qR.2<|ei.2 ⟨p,c,rfl⟩;refine⟨λm=>(by grind),aa,λp c=>?_,λp c=>?_,λss b k f=>?_⟩;have i:=hF.B p.1;obtain h|h:=n p c;rw[h]at i⊢;refine⟨λm=>?_,aa,λt b=>x t<|(hF.1 t).1 b⟩;obtain⟨t,b⟩:=R3 a v;have:=(hF.1 t).2 b;grind;rw[h]at i⊢;refine⟨λm=>?_,aa,λt b=>y t<|(hF.2 t).1 b⟩;obtain⟨t,b⟩:=R3 e w;have:=(hF.2 t).2 b;grind;rcases n p c with h|h<;>rw[h]<;>decide;have h:ss.Perm [dt.1.1,dp.1.1]:=by
  have c:g.map (λp=>p.1.1.1)=(g.map bD).map λn=>n.1.1:=dh AL;rw[c]at k;have b:=(l.map λn:ByteArray=>n.1.1).symm;rw[wO]at b;exact k.trans b
 have n:ss.mergeSort (λx y=>decide<|x<=y)= []++ [dt.1.1]++ [dp.1.1]:=by
  have b:=ux<|(List.mergeSort_perm ss λx y=>decide<|x<=y).trans h;have h:=List.pairwise_mergeSort (le:=λx y:List UInt8=>decide<|x<=y) (λl m p k f=>by grind) (λl m=>by grind) ss;obtain b|b:=b;rw[b];rfl;rw[b]at h;have b:=(List.pairwise_cons.1 h).1 dt.1.1 af;exact absurd b bb
 rw[n]at f;generalize i: []++ [dt.1.1]++ [dp.1.1]=l at f;cases f with
 |nil=>grind
 | @snoc b b1 m1 b b k=>
  obtain⟨c,f⟩:=List.append_inj' i rfl;have h:=by
   have:=List.singleton_inj.1 f;exact ByteArray.ext<|Ed this
  subst h;subst c;generalize c: []++ [dt.1.1]=f at b;cases b with
  |nil=>grind
  | @snoc b b b b b i=>
   obtain⟨f,h⟩:=List.append_inj' c rfl;have c:=by
    have:=List.singleton_inj.1 h;exact ByteArray.ext<|Ed this
   subst c;subst f;generalize c:([]:List<|List UInt8)=f at b;cases b with
   |snoc _ _=>simp at c
   |nil=>
    rw[q _<|qZ i hF.1 o,s _<|qZ k hF.2 u];omega
theorem ade(b:((eC cs1).map bD).Perm<|g.map bD)(h:AP 1 d):xv g d Fo:=by
 have a:kQ _ _ d:=h;exact Mr b a bb bb (λ_=>acA) (λ_=>acB) bb bb
theorem adf(b:((eC cs1).map bD).Perm<|g.map bD)(h:tV 1 u d):xv g d Fp:=by
 have a:u.length=3∧(∀x∈u,bF _)∧kQ _ _ d:=h;exact Mr b a.2.2 bb bb (λ_=>sort_1) (λ_=>sort_1) bb bb
section
variable{D:Bool->ByteArray->Seen}{J:cU}{xs:List aC}{bs:bO}{F:aW}
theorem wF{s:fC}(d:J.5= [s])(h:iY D J xs [none] f):(f= [none]∧dH D J xs= [])∨∃T,f= [some T]∧sx (D s.3.3 s.3.a.n).1 (D s.3.3 s.3.a.n).2.1 (D s.3.3 s.3.a.n).2.2 T:=by
 obtain⟨b,c⟩:=h;have a:=b 0;have e:=b 1
 match f with
 | []=>grind
 | [o]=>
  obtain a|⟨-,b,T,b,a,b⟩:=a;simp at a;subst a;exact .inl ⟨rfl,c 0 (aw d Nat.one_pos) rfl⟩;grind
 |_::_::_=>grind
theorem N3(h:iY D J xs [some a] f):f= [some a]:=by
 have b:=h.1 0;have b:=h.1 1
 match f with
 | []=>grind
 | [o]=>grind
 |_::_::_=>grind
theorem keys_nil(h:dH D J xs= []):eL D J xs f= []:=by
 unfold eL;rw[h,GM];rfl
theorem zg(h:sx a [] [] e):eQ a e:=by
 obtain⟨y,z,rfl,b,⟨-,d,-⟩⟩:=h;have g:=AO.2 λc f=>by have:=d c f;simp at this
 have c:hh a []=a:=by simp[hh,bL]
 rw[c]at b;rw[g,vD];exact b
theorem yA(s:Bool)(n:ByteArray):dU bs F s n=(cd bs F n,[],[]):=by
 unfold dU sZ jF;cases s<;>simp[cd,aB]
structure rT(J:cU):Prop where
 start:J.3= []
 asks:∀s∈J.5,s.1= []
theorem rT.B(h:rT J)(st:List<|Option<|List aC):eL D J xs st=eL oo J xs st:=by
 unfold eL;rw[GV (D':=oo) h.1]
 congr 1
 exact O1 _ _ λp a=>h.2 _ (List.of_mem_zip aa).1
theorem rT.I(a:J.3= [])(b:J.5.all (λs=>decide<|s.1= [])=true):rT J:=⟨a,λs a=>by
 grind⟩
theorem NT(a:aO h b bs F)(n:ByteArray):(cd bs F n).Nodup:=by
 unfold cd;split;rename_i d;obtain⟨e,c⟩:=sg.1 d;have f:=aF.U<|a.2 _<|ij c;have g:(aR<|F n).map bD=F n:=by simp[aR,Ee]
 grind;grind
theorem aO.ab(a:aO h b bs F):aO h b bs<|Go.Proofs.cd bs F:=⟨a.1,λp c=>by
 have:(aB _ _).isSome=true:=qR.2<|ei.2 ⟨p,c,rfl⟩;have e:Go.Proofs.cd bs F p.1=F p.1:=by unfold Go.Proofs.cd;rw[if_pos this]
 rw[e]
 exact a.2 p c,a.3,a.4⟩
abbrev Names(bs:bO):Prop:=((eC cs1).map bD).Perm (bs.map bD)
theorem holds_of(f:Names bs)(c:aO h b bs F)(d:∀t,bm bs F dt t↔t∈a)(g:∀t,bm bs F dp t↔t∈e):kQ a e<|cd bs F:=
 ⟨λt=>pk.trans<|d t,λt=>pk.trans<|g t,NT c _,NT c _,λn c c=>by
  unfold cd;rw[if_neg];intro c;rcases(tk f).1 c with c|c
  grind
  grind⟩
theorem Gi{a:List (eO×Lay)}{L:Lay}(h:a.map js= [L]):∃q,a= [q]∧q.2=L:=by
 simp_all
theorem BX(a:Names bs):(aB bs dt).isSome=true:=(tk a).2<|.inl rfl
theorem BZ(a:Names bs):(aB bs dp).isSome=true:=(tk a).2<|.inr rfl
theorem Gd(a:Names bs):cd bs F dt=F dt:=if_pos<|BX a
theorem N1(a:Names bs):cd bs F dp=F dp:=if_pos<|BZ a
theorem Cu(h:c∈gW):fP c:=by
 have a:gW.all CQ=true:=bb;exact CR<|zB.1 a c h
theorem wC(h:c∈gW):c=bP gG∨c=bP eM:=by
 simpa[gW]using h
theorem um:∃s,jg.5= [s]∧s.3.a.n=dt:=by
 have h:=Ym
 match a:jg.5 with
 | [s]=>
  grind
 | []=>grind
 |_::_::_=>grind
theorem Ng:pX jg:=by
 have a:fP<|bP eM:=Cu (by simp[gW]);have c:((bP eM).2.headD ⟨qW,false⟩)∈(bP eM).2:=by
  have b:(bP eM).2≠ []:=bb;cases h:(bP eM).2 with
  |nil=>grind
  |cons x l=>simp
 have b:=a.5 _ c;have c:(il (bP eM) 0).length<=4:=bb;exact BW a.1 a.2 b.1 b.2.1 c λp b=>(gX.1 b).elim af<|qX (λl b=>a.5 l<|tK b) p
theorem Nd:rT jg:=.I Nh bb
def gC(a:List (List aC))(i:Nat)(t:aC):Prop:=t∈a.getD i []
def mC:Nat->aC->Prop:=gC [[cq,cC],[eG]]
def Xp(st:List (Option (List aC))):Prop:=st= [none]∨∃T,st= [some T]∧(T= [cq,cC]∨T= [cC,cq])
abbrev ed:aW:=(g_ (λ_=> []) cs1).1
theorem Fq:ed dt= [cq,cC]:=bb
theorem ME:ed dp= []:=bb
theorem G2: [cq,cC].Nodup:=bb
theorem yP{x y:aC}(h:a.Perm [x,y]):a= [x,y]∨a= [y,x]:=ux h
theorem Xs(j:Names bs):Eo jg bs ed 2 mC Xp where
 some i hi:=by
  match i,hi with
  |0,_=>exact⟨cq,by simp[mC,gC]⟩
  |1,_=>exact⟨eG,by simp[mC,gC]⟩
 last t:=by simp[mC,gC]
 init:=by
  obtain⟨s,d,-⟩:=um;exact .inl rfl
 take i hi dJ H st st' hI hr hm hl:=by
  obtain⟨s,d,f⟩:=um;rw[d]at hm hl;have b:=hm 0 af
  match st',hl with
  | [o],_=>
   obtain⟨a,c⟩|⟨e,T,e,a,c,e,g⟩:=b;simp at c;exact .inl<|fN c;simp at a e;subst a;have k:=AO.2 λt h=>by
    have b:=(hI dt t).1<|pk.1<|jy f<|g.2.1 t h;exact absurd (b.1.trans iP.1) Co
   subst k;rw[vD]at e;obtain rfl|⟨g,rfl,b⟩:=hr;simp at c;simp at c;subst c;exact .inr ⟨g,fN e,b⟩
 step i hi F' st st' xs hI hr hx hxn hB hl:=by
  obtain⟨s,d,f⟩:=um;have e:(i=0∧(xs= [cq,cC]∨xs= [cC,cq]))∨(i=1∧xs= [eG]):=by
   match i,hi with
   |0,_=>exact .inl ⟨rfl,yP<|(vJ hxn G2).2 hx⟩
   |1,_=>exact .inr ⟨rfl,vK.1<|(vJ hxn af).2 hx⟩
  have g:dH (dU bs F') jg xs≠ []:=by
   rw[GV (D':=oo) Nh];rcases e with⟨-,rfl|rfl⟩|⟨-,rfl⟩<;>decide+kernel
  have b:∃T,st'= [some T]∧(T= [cq,cC]∨T= [cC,cq]):=by
   obtain rfl|⟨T,rfl,b⟩:=hr;obtain⟨-,h⟩|⟨T,rfl,c⟩:=wF d hB;exact absurd h g;rw[yA,f]at c;refine⟨T,rfl,yP<|qZ (zg c) (λt=>?_) G2⟩;rw[pk,hI];unfold bm fp;rw[Fq];constructor;rintro(h|⟨h,-⟩);exact h.2;exact absurd (h.trans iP.1) Co;exact λh=>.inl ⟨BX j,h⟩;exact⟨T,N3 hB,b⟩
  obtain⟨T,rfl,b⟩:=b;refine⟨.inr ⟨T,rfl,b⟩,λt=>?_⟩;rw[Nd.B,iP.1,hI];have c: ¬bm bs ed _ t:=λh=>by have:=h.2;rw[ME]at this;cases this
  obtain⟨rfl,c⟩|⟨rfl,rfl⟩:=e;rw[Yp c b];constructor;intro h;refine⟨h,?_⟩;rintro(a|⟨-,j,c,a⟩);grind;obtain rfl:j=0:=aa;have e:=by simpa[mC,gC]using h
  subst e;simp[mC,gC]at a;obtain a|a:=a;exact wQ.2.1 a.symm;exact wQ.2.2 a.symm;exact λh=>h.1;rw[Yq b];constructor;intro h;simp[mC,gC]at h;grind
 inj F':=pQ Nc
def rq:cU:=cX (bP gG)
theorem aed:∃s,rq.5= [s]∧s.3.a.n=dt:=by
 have h:rq.5.map (λs=>(s.3.a.n,s.3.2))= [(dt,false)]:=bb
 match a:rq.5 with
 | [s]=>
  grind
 | []=>grind
 |_::_::_=>grind
theorem aeb:rT rq:=.I bb bb
theorem aec(b:a= [cq,cC]∨a= [cC,cq]):((eL oo rq [(0,0,0)] [some a]).map bD).isPerm [cq,cC]=true:=by
 rcases b with rfl|rfl<;>decide+kernel
theorem aee:dH oo rq [(0,0,0)]≠ []:=bb
theorem Od:gh (gD gW) (bP eM).2 (bP eM).2≠ []:=bb
theorem aaO:gh (gD gW) (bP gG).2 (bP gG).2= []:=bb
theorem FK(h:c∈gW):c.1.n=dp:=by
 rcases wC h with rfl|rfl<;>rfl
def Xn(r:bW)(t:aC):Prop:=r=bP gG∧t∈ [cq,cC]
theorem Pn(c:l<b∧∀p∈bs,p.2<b)(a:∀a o,k a=some o->b<=a):∀a,aX l bs a->k a=none:=λa d=>by
 have e:a<b:=by
  obtain rfl|⟨p,e,rfl⟩:=d;exact c.1;exact c.2 p e
 cases c:k a with
 |none=>rfl
 |some o=>grind
theorem adg(d:Names bs)(A:f.map js= [n_])(B:∀p∈f,p.1.1=p.2.2)(C:l<b∧∀p∈bs,p.2<b)(D:∀i T,k i=some T->b<=i):xx l bs f k b AP:=by
 intro j p a a1 F E v H G;obtain⟨q,rfl,w⟩:=Gi A
 ·have K:j=0:=by
   have:=(iw.1 a).1;simp at this;exact this
  subst K;simp at a;subst a;have e:q.1.1=true:=by rw[B q (jM ..),w];rfl
  have hF:F=ed:=G;subst hF;rw[if_pos e];rw[w]at v;obtain⟨a0,rc,m,n⟩:=v.O.1 e;have P:n_.1.map bP=gW:=rfl;rw[P]at m n;have S:=Uy (lb:=q.1.2) (rs:=gW) ⟨E,m,n⟩ (λr h=>Cu h) aA H (Pn C D) Xn
   (λr h g=>by
    rcases wC h with rfl|rfl
    ·exact pQ bb
    ·exact absurd g Od)
   (λr h g xs V Q o t=>by
    rcases wC h with rfl|rfl
    ·obtain⟨U,x,O⟩:=aed;change iY _ rq xs (rq.5.map λ_=>none) V at o;have R:xs= [(0,0,0)]:=vK.1 (qZ Q af af);subst R;rcases wF x o with⟨-,h⟩|⟨X,rfl,y⟩
     ·exact absurd h aee
     ·rw[yA,O]at y;have I:=yP (qZ (zg y) (λt=>by rw[Gd d,Fq]) G2);change t∈(eL _ rq _ _).map bD↔_;rw[aeb.B,(List.isPerm_iff.1 (aec I)).mem_iff];exact⟨λh=>⟨rfl,h⟩,λh=>h.2⟩
    ·exact absurd g Od)
   Nf (λY=>by obtain⟨U,x,-⟩:=um;grind) Ng (aw iP.1 GZ) (iP.2.trans iP.1.symm) (aw iP.1 (BZ d)) (Xs d)
   (λZ t=>by
    constructor
    ·rintro⟨r,e,-,rfl,J,-⟩;exact⟨(FK e).trans iP.1.symm,J.2⟩
    ·rintro⟨rfl,c⟩;refine⟨_,by simp[gW],aaO,iP.1.symm,⟨rfl,c⟩,λh=>?_⟩;have:=h.2;cases this)
   (L:= [cq,cC,eG]) (λj a t c=>by
    match j,a with
    |0,_=>simp[mC,gC]at c;grind
    |1,_=>simp[mC,gC]at c;grind) aA
  refine S.mono ?_;rintro ex a2 ⟨W,xs,z,rfl,c,u,s,N,M,-⟩;refine⟨W,xs,cd bs z,rfl,c,u.ab,?_,N,M⟩;show kQ _ _ _;refine holds_of d u (λt=>?_) λt=>?_
  ·rw[s];unfold bm fp;rw[Fq];constructor
   ·rintro(h|⟨h,-⟩)
    grind
    ·exact absurd (h.trans iP.1) Co
   ·exact λh=>.inl ⟨BX d,h⟩
  ·rw[s];unfold bm fp;rw[ME];constructor
   ·rintro(h|⟨-,j,a,h⟩)
    ·cases h.2
    ·match j,a with
     |0,_=>simp[mC,gC]at h;rcases h with rfl|rfl<;>simp
     |1,_=>simp[mC,gC]at h;subst h;simp
   ·intro h;simp at h;rcases h with rfl|rfl|rfl
    ·exact .inr ⟨iP.1.symm,0,aA,by simp[mC,gC]⟩
    ·exact .inr ⟨iP.1.symm,0,aA,by simp[mC,gC]⟩
    ·exact .inr ⟨iP.1.symm,1,aA,by simp[mC,gC]⟩
theorem adi:qx cs1 [n_] AP:=by
 have b:∀c∈cs1,vL c∧aL _∧Small _ c:=λc a=>vX<|zB.1 adl c a;have e:∀x∈bl _,aL x:=λx d=>by
  rw[Po]at d;simp at d;rcases d with rfl|rfl<;>exact p_ aA
 refine⟨aA,λc a=>(b c a).2.2,λk=>?_,⟨e,(adh _).symm⟩,by decide,by decide,by decide,aA,λL d=>?_,λc a=>⟨(b c a).1.1,(b c a).2.1,?_⟩,bb,rfl,λb bs b K N b e f g _ h _=>adg b e f g h⟩;have b:(List.range 5).all (λk=>decide<|(bl<|cs1.take k).length<=1000)=true:=bb;by_cases b:k<5;grind;have e:cs1.take k=cs1:=fo (by show 4<=k;omega);rw[e,Po];grind;rw[ir.1 d];refine⟨aA,λc a=>?_⟩;have b:c∈cs1:=by
  simp[n_]at a;rcases a with rfl|rfl<;>simp[cs1]
 grind;rw[wO];simp[cs1]at a;rcases a with rfl|rfl|rfl|rfl<;>simp[gG,eM]
end
section
variable{D:Bool->ByteArray->Seen}{J:cU}{xs:List aC}{bs bc bg aS:bO}{F Fc Fg G:aW}
def wx:eX:=(bP gG).2.headD ⟨qW,false⟩
def B9:eX:=(bP eM).2.headD ⟨qW,false⟩
def wy:eX:=(bP eM).2.getD 1 ⟨qW,false⟩
theorem Li:(bP gG).2= [wx]:=bb
theorem Lk:(bP eM).2= [B9,wy]:=bb
theorem lits:wx.2=false∧B9.2=false∧wy.2=false∧wx.a.n=dt∧B9.a.n=dp∧wy.a.n=dt:=bb
def wo:cU:=gV (bP gG).1 wx.a (il (bP gG) 0)
def pS:cU:=gV (bP eM).1 wy.a (il (bP eM) 1)
theorem Yf:rT wo:=.I bb bb
theorem M8:rT pS:=.I bb bb
theorem ae4:wo.5= []:=bb
theorem Yi:∃s,pS.5= [s]∧s.3.a.n=dp:=by
 have h:pS.5.map (λs=>(s.3.a.n,s.3.2))= [(dp,false)]:=bb
 match a:pS.5 with
 | [s]=>
  grind
 | []=>grind
 |_::_::_=>grind
theorem Yg:(eL oo wo [cC] []).map bD= [cC]:=bb
theorem Yj:dH oo pS [cC]≠ []:=bb
theorem Yh(h:a.Perm [cq,cC,eG]):(eL oo pS [cC] [some a]).map bD= [eG]:=by
 rcases Oh h with rfl|rfl|rfl|rfl|rfl|rfl<;>decide+kernel
theorem Yl(b:a= [cC,eG]∨a= [eG,cC]):(eL oo jg a [some [cq,cC]]).map bD= []:=by
 rcases b with rfl|rfl<;>decide+kernel
theorem adH: [cq,cC,eG].Nodup:=bb
theorem F3: [cC,eG].Nodup:=bb
def kY:Nat->aC->Prop:=gC [[cC,eG]]
def NI(st:List (Option (List aC))):Prop:=st= [none]∨st= [some [cq,cC]]
def Cf(r:bW)(i:Nat)(t:aC):Prop:=(r=bP gG∧i=0∧t=cC)∨(r=bP eM∧i=1∧t=eG)
theorem O4(a:cJ h [] g dF d<|kq [nj.B] true)(n:ByteArray)(t:aC):t∈cd g d n↔n=dt∧t=cC:=by
 rw[pk,a.O.1];constructor;rintro⟨x,a,-,rfl,rfl⟩;rw[ir.1 a];exact⟨rfl,rfl⟩;rintro⟨rfl,rfl⟩;exact⟨_,ir.2 rfl,rfl,rfl,rfl⟩
theorem acg(b:cJ h [] g dF d<|kq [nj.B] false)(n:ByteArray):cd g d n= []:=by
 refine AO.2 λt c=>?_;obtain⟨x,e,a,-⟩:=(b.O.1 n t).1<|pk.1 c;rw[ir.1 e]at a;cases a
theorem Cp(h:∀p∈bs,(F p.1).Nodup)(n:ByteArray):(cd bs F n).Nodup:=by
 unfold cd;split;rename_i b;obtain⟨c,a⟩:=sg.1 b;exact h _<|ij a;grind
theorem aaw(a:(cd bs F j).Nodup)(h:∀t,t∈cd bs F j↔t=q):cd bs F j= [q]:=
 vK.1<|(vJ a af).2 λt=>(h t).trans af
theorem ad4(h:sx a [] e r):∃y z,r=y++z∧eQ a y∧eQ e z:=by
 obtain⟨y,z,rfl,b,b⟩:=h;have b:hh a []=a:=by simp[hh,bL]
 grind
theorem wG(h:eQ [q] a):a= [q]:=vK.1<|qZ h (λ_=>Iff.rfl) af
theorem O5(a:mg)(ed b c:aW)(s:Bool)(n:ByteArray):jH a ed b c s n=(cd a.4 ed n,cd a.5 b n,cd a.6 c n):=by
 cases s<;>rfl
theorem NA(d:c∈gW)(a:c.2[b]?=some p):(c=bP gG∧b=0∧p=wx)∨(c=bP eM∧b=0∧p=B9)∨(c=bP eM∧b=1∧p=wy):=by
 obtain rfl|rfl:=wC d;rw[Li]at a
 grind
 rw[Lk]at a
 grind
theorem NB(a:c∈gW)(d:c.2[b]?=some p):p.2=false:=by
 obtain⟨-,-,rfl⟩|⟨-,-,rfl⟩|⟨-,-,rfl⟩:=NA a d;exact lits.1;exact lits.2.1;exact lits.2.2.1
theorem BL(h:p.2=false):fO bg Fg bc Fc p=cd bg Fg p.a.n:=by
 unfold fO;grind
section
variable{w:ag}{sb cb gb:Nat}(hp:Names bs)(hF:kQ [cq] [cq,cC,eG] F)(hC:cJ w [] bc dF Fc (kq [nj.B] false))(hG:cJ w [] bg dF Fg (kq [nj.B] true))(hg:∀p∈bg,(Fg p.1).Nodup)
include hp hF hC hG hg
theorem Zm:KA gW sb bs F [nj.B] jg 1 kY bc bg Fc Fg cb gb Cf NI:=by
 have j:=aaw (Cp hg _) λt=>(O4 hG _ _).trans ⟨af,λh=>⟨rfl,h⟩⟩;have p:=AO.2 λt l=>Co ((O4 hG _ _).1 l).1.symm;have m:=acg hC;refine⟨λr c i y d o=>?_,⟨λi q=>?_,λt=>by simp[kY,gC],?_,λi q st a xs c g v e k=>?_,pQ Nc⟩,λA t=>?_,λr c i y d=>?_⟩;rw[BL<|NB c d]at o⊢;obtain⟨rfl,rfl,rfl⟩|⟨rfl,rfl,rfl⟩|⟨rfl,rfl,rfl⟩:=NA c d;refine⟨pQ (J:=wo) bb,λxs a g e k t=>?_⟩;change t∈(eL _ wo xs a).map bD↔_;rw[lits.2.2.2.1,j]at g;change a.length=wo.5.length at k;obtain rfl:a= []:=Ia k;rw[wG g,Yf.B,Yg];unfold Cf;simp;rw[lits.2.2.2.2.1,p]at o;grind;refine⟨pQ (J:=pS) bb,λxs a g e k t=>?_⟩;change t∈(eL _ pS xs a).map bD↔_;rw[lits.2.2.2.2.2,j]at g;rw[wG g]at e⊢;change iY _ pS _ (pS.5.map λ_=>none) a at e;obtain⟨s,f,n⟩:=Yi;obtain⟨-,h⟩|⟨T,rfl,b⟩:=wF f e;rw[GV (D':=oo) M8.1]at h;exact absurd h Yj;rw[O5,n]at b;dsimp only at b;rw[m,p,N1 hp]at b;rw[M8.B,Yh<|qZ (zg b) hF.2 adH];unfold Cf;simp
 match i,q with
 |0,_=>exact⟨cC,by simp[kY,gC]⟩
 obtain⟨s,f,-⟩:=um;rw[f];exact .inl rfl;obtain rfl:i=0:=aa;obtain⟨s,f,n⟩:=um;have w:xs= [cC,eG]∨xs= [eG,cC]:=yP<|(vJ v F3).2 g;have fin:∀a,(eL (jH ⟨some sb,some cb,some gb,bs,bc,bg⟩ F Fc Fg) jg xs a).map bD= []->∀t,kY (0+1) t↔t∈(eL (jH ⟨some sb,some cb,some gb,bs,bc,bg⟩ F Fc Fg) jg xs a).map bD∧¬ ∃z<0+1,kY z t:=λa h t=>by
  rw[h];simp[kY,gC]
 have u:(a= [none]∧dH (jH ⟨some sb,some cb,some gb,bs,bc,bg⟩ F Fc Fg) jg xs= [])∨a= [some [cq,cC]]:=by
  obtain rfl|rfl:=c;obtain h|⟨T,rfl,b⟩:=wF f e;exact .inl h;rw[O5,n]at b;dsimp only at b;rw[m,j]at b;obtain⟨y,B,rfl,d,x⟩:=ad4 b;rw[Gd hp]at d;rw[wG x,vK.1<|qZ d hF.1 af];exact .inr rfl;exact .inr<|N3 e
 obtain⟨rfl,h⟩|rfl:=u;exact⟨.inl rfl,fin _<|dh<|keys_nil h⟩;exact⟨.inr rfl,fin _ (by rw[Nd.B,Yl w])⟩;rw[iP.1];constructor;rintro⟨r,c,i,y,d,o,rfl,f,-⟩;refine⟨FK c,?_⟩;rcases f with⟨-,-,rfl⟩|⟨-,-,rfl⟩<;>simp[kY,gC];rintro⟨rfl,l⟩;have no:∀t,¬bm [] dF dp t:=λt h=>nomatch h.2;simp[kY,gC]at l;obtain rfl|rfl:=l;refine⟨bP gG,by simp[gW],0,wx,dh Li,?_,rfl,.inl ⟨rfl,rfl,rfl⟩,no _⟩;rw[BL lits.1,lits.2.2.2.1,j];simp;refine⟨bP eM,by simp[gW],1,wy,dh Lk,?_,rfl,.inr ⟨rfl,rfl,rfl⟩,no _⟩;rw[BL lits.2.2.1,lits.2.2.2.2.2,j];simp;rw[BL<|NB c d];exact m _
end
def D0:Bool->ByteArray->Seen:=λ_ n=>if n=dt∨n=dp then([cq],[],[])else([],[],[])
theorem Nn(a:Names bs)(hF:kQ [cq] [cq] F):dU bs F=D0:=by
 funext s n;rw[yA];unfold D0;split;rename_i h;have:cd bs F n= [cq]:=by
  obtain rfl|rfl:=h;rw[Gd a];exact vK.1<|(vJ hF.3 af).2 hF.1;rw[N1 a];exact vK.1<|(vJ hF.4 af).2 hF.2
 grind;rename_i h;have:cd bs F n= []:=by
  unfold cd;rw[if_neg λb=>h<|(tk a).1 b]
 grind
def kW:cU:=jB (bP gG)
def ig:cU:=jB (bP eM)
theorem ae2:kW.5= []:=bb
theorem X7:∃s,ig.5= [s]∧D0 s.3.3 s.3.a.n=([cq],[],[]):=by
 have h:ig.5.map (λs=>D0 s.3.3 s.3.a.n)= [([cq],[],[])]:=bb
 simp_all
theorem X5(b:a= [cC,eG]∨a= [eG,cC]):eL D0 kW a []= []:=by
 rcases b with rfl|rfl<;>decide+kernel
theorem X6(b:a= [cC,eG]∨a= [eG,cC]):eL D0 ig a [some [cq]]= []:=by
 rcases b with rfl|rfl<;>decide+kernel
theorem aaW: ¬(cX<|bP gG).6/max 1 2<(jB<|bP gG).6/mJ (c5 (bP gG).1.2):=bb
theorem aaX: ¬(cX<|bP eM).6/max 1 2<(jB<|bP eM).6/mJ (c5 (bP eM).1.2):=bb
theorem aaY(d:c∈gW)(b:a.Perm [cC,eG]):Ep D0 c a:=by
 have f:a.length=2:=b.length_eq;have i:∀xs,eQ _ _->xs= [cC,eG]∨xs= [eG,cC]:=λxs h=>yP<|qZ h (λt=>b.mem_iff) F3;obtain rfl|rfl:=wC d;refine⟨aa,aw f aaW,bb,bb,pQ bb,λxs b e d g t=>?_⟩;change b.length=kW.5.length at g;change t∈(eL D0 kW xs []).map bD↔_;rw[X5<|i _ e];simp;refine⟨aa,aw f aaX,bb,bb,pQ bb,λxs b e d g t=>?_⟩;change iY _ ig _ (ig.5.map λ_=>none) b at d;change t∈(eL D0 ig xs b).map bD↔_;obtain⟨s,g,f⟩:=X7;obtain⟨-,h⟩|⟨T,rfl,b⟩:=wF g d;rw[keys_nil h];simp;rw[f]at b;rw[wG<|zg b,X6<|i _ e];simp
theorem adb(d:Names bs)(o:f.map js= [n_])(p:∀a∈f,a.1.1=a.2.2)(g:l<b∧∀a∈bs,a.2<b)(s:∀c e,k c=some e->b<=c):xu l bs f k b tV:=by
 intro j a c w F h a a t x a y A z B i;obtain⟨q,rfl,e⟩:=Gi o;have n:j=0:=by
  have:=(iw.1 c).1;simp at this;exact this
 subst n;simp at c;subst c;have r:q.1.1=true:=by rw[p q (jM ..),e];rfl
 have n:t= [nj.B]∧kQ [cq] [cq,cC,eG] F:=i;obtain⟨rfl,hF⟩:=n;rw[if_pos r];rw[e]at a;obtain⟨e,rc,e,u⟩:=a.O.1 r;have a:n_.1.map bP=gW:=rfl;rw[a]at e u;have v:∀a,(∀n t,bm bs a n t↔bm bs F n t∧¬fp kY jg.1.n 1 n t)->(∀t,bm bs a dt t↔t∈ [cq])∧∀t,bm bs a dp t↔t∈ [cq]:=λa i=>by
  refine⟨λt=>?_,λt=>?_⟩;rw[i];unfold bm fp;rw[iP.1,hF.1];constructor;grind;exact λh=>⟨⟨BX d,h⟩,af⟩;rw[i];unfold bm fp;rw[iP.1,hF.2];constructor;rintro⟨⟨-,h⟩,w⟩;simp at h;rcases h with rfl|rfl|rfl;simp;exact absurd ⟨rfl,0,aA,by simp[kY,gC]⟩ w;exact absurd ⟨rfl,0,aA,by simp[kY,gC]⟩ w;intro h;simp at h;subst h;refine⟨⟨BZ d,af⟩,?_⟩;rintro⟨-,j,c,h⟩;obtain rfl:j=0:=aa;simp[kY,gC]at h;rcases h with h|h;exact wQ.1 h;exact wQ.2.1 h
 have C:=Ux (lb:=q.1.2) (rs:=gW) ⟨x,e,u⟩ (λD h=>Cu h) aA y (Pn g s) A z B
  (λx e=>by
   rw[ir.1 e]
   exact⟨p_ aA,za _⟩)
  Nf (λq=>by obtain⟨A,q,-⟩:=um;grind) Ng (aw iP.1 GZ) (iP.2.trans iP.1.symm) (aw iP.1 (BZ d))
  (m:=1) (P:=kY)
  (λq q bc bg Fc Fg q u w w=>⟨Cf,NI,Zm d hF q u w⟩)
  (λa aS G i u w z D r q=>by
   have q:=v _ i
   have y:kQ [cq] [cq] (cd bs a):=⟨λt=>pk.trans (q.1 t),λt=>pk.trans (q.2 t),Cp w _,Cp w _,λn o p=>by
    unfold cd;rw[if_neg];intro g;rcases(tk d).1 g with s|s
    grind
    grind⟩
   have s:dU bs a=D0:=by
    rw[<-Nn d y];funext A n;rw[yA,yA];unfold cd;split<;>rfl
   rw[s,FK r];refine aaY r ((vJ (Cp z _) F3).2 λt=>?_);rw[pk,u];constructor;rintro⟨-,j,c,h⟩;obtain rfl:j=0:=aa;exact h
   exact λh=>⟨rfl,0,aA,h⟩)
  (L:= [cC,eG]) (λj c t s=>by
   obtain rfl:j=0:=aa
   exact s) aA
 refine C.mono ?_;rintro ex r ⟨A,r,a,rfl,s,w,i,z,y,u⟩;have q:=v a i;refine⟨A,r,cd bs a,rfl,s,w.ab,?_,z,y⟩;have i:r.Perm [⟨dp,cC,true⟩,⟨dp,eG,true⟩]:=by
  refine(vJ u.2 (by simp[wQ.2.2])).2 λx=>?_;rw[u.1];unfold fp;rw[iP.1];obtain⟨n,t,n⟩:=x;constructor;rintro⟨o,p,j,c,g⟩;obtain rfl:j=0:=aa;simp[kY,gC]at o p g;subst o p;rcases g with rfl|rfl<;>simp;intro h;simp at h;rcases h with⟨rfl,rfl,rfl⟩|⟨rfl,rfl,rfl⟩;exact⟨rfl,rfl,0,aA,by simp[kY,gC]⟩;exact⟨rfl,rfl,0,aA,by simp[kY,gC]⟩
 show([nj.B]++r).length=3∧(∀x∈ [nj.B]++r,bF x.t)∧kQ [cq] [cq] (cd bs a)
 refine⟨by rw[kK,i.length_eq];rfl,λx e=>?_,holds_of d w q.1 q.2⟩;rcases gX.1 e with e|e;rw[ir.1 e];exact za _;have:=i.mem_iff.1 e;simp at this;rcases this with rfl|rfl<;>exact za _
end
section
variable{D:Bool->ByteArray->Seen}{J:cU}{xs:List aC}{bs:bO}{F:aW}
theorem aad(a:J.5= [])(h:iY D J xs (J.5.map λ_=>none) f):f= []:=by
 rw[a]at h;have a:=h.1 0
 simp_all
def Bh(r:bW):bS:=(ee r.1.2 (fS cq)).getD ep
theorem K0{r:bW}(h:(ee r.1.2<|fS cq).isSome=true):ee r.1.2 (fS cq)=some (Bh r):=by
 obtain⟨b,a⟩:=sg.1 h;unfold Bh;grind
theorem P_:∀u∈fS cq,u<18446744073709551616:=bb
def GR:cU:=cX (jJ (Bh (bP gG)) (bP gG))
def uD:cU:=cX (jJ (Bh (bP eM)) (bP eM))
theorem acm:GR.5= []:=bb
theorem aco:∃s,uD.5= [s]∧D0 s.3.3 s.3.a.n=([cq],[],[]):=by
 have h:uD.5.map (λs=>D0 s.3.3 s.3.a.n)= [([cq],[],[])]:=bb
 simp_all
theorem ack:eL D0 GR [(0,0,0)] []= [(cq,1)]:=bb
theorem acn:eL D0 uD [(0,0,0)] [some [cq]]= []:=bb
theorem P4(h:eQ [(0,0,0)] a):a= [(0,0,0)]:=wG h
def zm(r:bW):Nat:=if r=bP gG then 1 else 0
theorem aes:zm (bP gG)=1:=bb
theorem aet:zm (bP eM)=0:=bb
theorem adn(a:c∈gW):I6 D0 c cq<|zm c:=by
 obtain rfl|rfl:=wC a;have b:=K0 (r:=bP gG) bb;refine⟨_,b,Cj P_ b,CR bb,pQ bb,λf xs d g e a=>?_⟩;change f.Perm (eL D0 GR xs d)at a;rw[aad acm e,P4 g,ack]at a;rw[vK.1 a,aes];simp[aB];have b:=K0 (r:=bP eM) bb;refine⟨_,b,Cj P_ b,CR bb,pQ bb,λf xs d g e a=>?_⟩;change iY D0 uD xs (uD.5.map λ_=>none) d at e;change f.Perm (eL D0 uD xs d)at a;obtain⟨s,j,i⟩:=aco;have f:eL D0 uD xs d= []:=by
  obtain⟨-,h⟩|⟨T,rfl,b⟩:=wF j e;exact keys_nil h;rw[i]at b;rw[wG<|zg b,P4 g];exact acn
 rw[f]at a;rw[List.Perm.eq_nil a,aet];rfl
theorem aft:pw zm dp gW=1:=bb
theorem adm(H:zZ cs1 [n_] b bs f k l)(a:tV 1 u F):∃lb,aB (mA f) dp=some (true,lb)∧∀w,k.In w->(∀p∈f,fh w k l p.1.1 p.1.2 b<|p.2.1.map bP)->aO w b bs F->
  aH 326 #[lb,dp,bh<|fI [pg,kA]] w λe c=>e=.returned (cg 1)∧au w c:=by
 have hF:=a.2.2;obtain⟨i,a,d,-,-,-,-⟩:=H;obtain⟨q,rfl,e⟩:=Gi a;obtain⟨⟨c,lb⟩,L⟩:=q;obtain rfl:L=n_:=e;have a:c=true:=d _<|jM ..;subst a;have c:mA [((true,lb),n_)]= [(dp,(true,lb))]:=rfl;refine⟨lb,by rw[c];simp[aB],λw h g e=>?_⟩;obtain⟨c,rc,c,d⟩:=(g _<|jM ..).O.1 rfl;have g:n_.1.map _=gW:=rfl;have g:=UA (lb:=lb) (rs:=gW) ⟨h,c,d⟩ (λr h=>Cu h) aA e (n:=dp) (t:=cq) (za _) (Wy:=zm) λr a _=>by
  rw[Nn i hF];exact adn a
 exact g
theorem ac8:vN cs1 [n_] AP tV where
 rd:=adk
 ld:=adi
 bad:=ada
 WU _ _ hp h:=ade hp h
 ap _ _ hp h:=ac9 hp h
 carry _ _ _ _ _ H:=adb H.1 H.2 H.3 H.4 H.6
 told _ _ h:=h.1
 WV _ _ _ hp h:=adf hp h
 look:=adj
 Mm s hs:=Pm (by
  grind)
 aau:=GZ
 sup _ _ _ _ _ _ _ H h:=adm H h
end
section
open Go.Conc Go.ChangeShapes Go.WideShapes Go.ChangeAt
theorem aaE:ownKnob Tryz.prog.godebug=none:=ah
def I3(W:ag)(e:aG)(d:Frame)(c:List Frame):Prop:=∃b f a k,e=⟨some (b,f),λ_=>none,λb=>W.1[b]?⟩∧d={ (base 11).at a k with mode:=.returning}∧c= []∧a.1[6]?=some (.bool true)∧a.2= []
def Sc(W:ag)(u:aq)(w1:ag):Prop:=u=.bool true∧w1.2=W.2∧w1.4=W.4∧w1.5=W.5∧∀(b:Nat) o,W.1[b]?=some o->w1.1[b]?=some o
theorem YS(S:vN y z D C)(M:xw){W:ag}(r:Tryz.prog.globals.size<=W){ci cj:Int}{ring:Bool}(s: -9223372036854775808<=ci)(t:ci<=9223372036854775807)(kW: -9223372036854775808<=cj)(ig:cj<=9223372036854775807):
  ∃M last o g h,runNT Tryz.prog (M+1) (solo (G (ej Tryz.prog 11 #[.int .i64 ci,ring,.int .i64 cj] .normal) []) W) #[]=(.ended o g,h)∧runN Tryz.prog M (solo (G (ej Tryz.prog 11 #[.int .i64 ci,ring,.int .i64 cj] .normal) []) W)=.next last∧step Tryz.prog last=.ended o g∧Go.Conc.Good Tryz.prog (Sc W) last o g h:=by
 refine XT (F:=cH) (Q:=I3 W) r ?_ ?_;rw[enter_at func11 (c:=Lj) rfl];refine ad8 (f:=λ_=>none) (Q:=I3 W) S M s t kW ig (λb E B a d k i I e p=>?_) (λ_=>none) _ (Ren.I _) (RelA.I ?_ ?_) rfl;refine Comes.V (λw=>pI)<|Go.Proofs.Comes.U ⟨k,E,i,_,rfl,rfl,rfl,?_,p.trans d⟩;obtain⟨K,l,m⟩:=e.O 6 _ a;rw[l];cases m;rfl;exact .cons (.int _ _)<|.cons (.bool _)<|.cons (.int _ _) .nil;unfold RelA;exact bM.eT _ .O;rintro _ _ _ ⟨H,J,b,B,rfl,rfl,rfl,a,d⟩ w1 A v u x;have e:∀w:ag,(results f11 b.1).run Tryz.prog w=.ok true w:=λw=>by simp[results,a]
 have q:(results f11 b.1).events Tryz.prog w1 #[]= #[]:=by simp[results,go_sem,f11,a]
 refine⟨_,#[],?_,af,rfl,v,u,x,λj o n=>A.s j o n⟩;simp[G,stepG,unwind,doReturn,Frame.at,base,d,e,q,GStep.after];simp[seen]
theorem Ys:(((begin Tryz.prog (λ_ _=>0) default).1.1[Tryz.prog.globals.size- 1]?).bind Obj.row?).isSome=true:=ah
theorem XP(a:h.ShapedOpen Tryz.prog):Tryz.prog.globals.size<=h:=by
 obtain⟨⟨z,t⟩,b⟩:=sg.1 Ys;have c:0<Tryz.prog.globals.size:=af;obtain⟨cs,c,-⟩:=a.1 _ z t aa b;grind
theorem BQ{n:Int}(h:(Lit.int .i64 n).wf=true): -9223372036854775808<=n∧n<=9223372036854775807:=by
 unfold Lit.wf at h;rw[j_,decide_eq_true_eq,decide_eq_true_eq]at h;have a:IntKind.min .i64= -9223372036854775808:=bb;simp_all
section
variable{H:Type}{enc:TypeId×aq->H}
theorem Pb(a:Bool):R4 enc Tryz.prog h b A x 4 a (.lit<|.bool a) []:=⟨1,by simp[R5,Value.cells]⟩
theorem aaB{v:aq}{d:DataW H}{c:List MemPlace}(f:R6 Tryz.prog h .any b 4 v)(e:R4 enc Tryz.prog h l A x 4 v d c):∃a,v=.bool a∧d=.lit (.bool a)∧c= []:=by
 obtain⟨a,rfl⟩:=okWide_bool underlying4 f;obtain⟨c,a⟩:=e;cases c with
 |zero=>simp[R5]at a
 |succ n=>
  obtain⟨rfl,rfl⟩:=a;grind
end
theorem YQ{l:Nat->List bV->aW->Prop}(S:vN y z D l)(M:xw)(os:Os)(b5:os.Started)(H:Type)(enc:TypeId×aq->H):
  ReturnsInLeavingWide {} Kw os 11 .any (Rows.layersSpec.pre6 enc Tryz.prog f11 Rows.layersRow.15 false)<|Rows.layersSpec.post enc Tryz.prog f11 false true false false:=by
 refine returnsInLeavingWide_of_good (C:=Kw) aaE aa
  (ChangeSpec.witness6 (enc:=enc) (C:=Kw) _ ⟨#[],#[.int .i64 0,false,.int .i64 0],[]⟩ 8 ah ah ah ah) ?_
 intro w tape i _ Q _ N P b0;obtain⟨_,_,_,a8,J,_,_,_,_,a⟩:=N;have e:=dw<|J.symm.trans func11;subst e;obtain⟨⟨p,gs,before,V,a9⟩,b2⟩:=P;have b:=DataW.Whole.of_heap (w':=w.forCall tape i) bf V;have h:=XP Q;generalize w.forCall tape i=W at b h a⊢;generalize w.1.size=base at a;generalize i.2=g at b a⊢;have d:∀(j:Nat) t v,f11.4[j]?=some t->g[j]?=some v->R6 Tryz.prog W _ _ t v:=a;have G:=b;obtain⟨Y,b4,E,F,rfl,_,_⟩:=b;have B:DataW.TrodAll enc Tryz.prog W 0 (λ_=>true) true [3,4,3] g.1 p Y:=E;obtain⟨a3,a4,a5,d0,a6,a7,p0,p1,p2,rfl,rfl,rfl,c,x,A⟩:=trodAll_three B;obtain⟨rfl,rfl⟩:=trodVars_none F;obtain⟨m,rfl,rfl,rfl,f⟩:=open_int underlying3 (d 0 3 a3 rfl rfl) c;obtain⟨n,rfl,rfl,rfl⟩:=aaB (d 1 4 a4 rfl rfl) x;obtain⟨o,rfl,rfl,rfl,wc⟩:=open_int underlying3 (d 2 3 a5 rfl rfl) A;let⟨k,last,X,w',a2,Z,a0,a1,v,e,O,q,r,s,u⟩:=YS S M (W:=W) (ci:=m) (ring:=n) (cj:=o) h (BQ f).1 (BQ f).2 (BQ wc).1 (BQ wc).2;refine⟨k,_,X,w',a2,Z,a0,a1,v,e,ChangeSpec.post_blind ?_,q,r,s,u⟩;obtain⟨rfl,T,L,U,K⟩:=O;have R:W.1.size<=w'.1.size:=by
  obtain c|c:=rC W.1.size;omega;have:=K (W.1.size- 1) _<|rE aa;have:=(fU.1 this).1;omega
 have I:Below W.1.size W _:=⟨L,T,U,R,λb3 b1=>by grind⟩;exact⟨_,_,_,[],[],[],G,trodAll_mk1<|Pb _,trodAll_mk3 (shut_int af f) (Pb _)<|shut_int af wc,rfl,I.frame _,af⟩
end
end
