import Derived.Test.YtkdljbnllgpfhaaGreatC2
import Derived.Test.YtkdljbnllgpfhaaGreatC3
import Derived.Test.YtkdljbnllgpfhaaGreatRows
import Derived.Conc.LeavingOf
import Derived.ProofKit
import Derived.SizedLaws
set_option maxRecDepth 100000
set_option maxHeartbeats 8000000
open List renaming perm_ext_iff_of_nodup→axo,perm_singleton→axp,eq_nil_iff_forall_not_mem→axi,mem_singleton→atQ,mem_cons_self→ao3,perm_cons→axq,all_eq_true→axg,eq_nil_of_length_eq_zero→awA,length_map→auB,getElem?_eq_some_iff→apT,exists_mem_of_ne_nil→axr,mem_map→amk,singleton_inj→axv,append_inj'→axx,mem_append→aqo,append_nil→axz,nodup_nil→aut
open Prod renaming fst→aug,snd→auw
open Option renaming isSome_iff_exists→aww
open Array renaming getElem?_eq_getElem→arZ,getElem?_eq_some_iff→ad3,ext'→avR
open Go renaming World→aly,Value→aad
open Go.Proofs.Tryz renaming checked→axs
open List.Perm renaming swap→axt,eq_nil→axF
open Go.DataW renaming trod→axu,Trod→axB
open ByteArray renaming ext→axw
open Go.Proofs.YtkdljbnllgpfhaaGreat.Rows renaming layersSpec→axy
open Go.Value renaming okWide→axA,cells→av2
open Go.Frame renaming enter→ao7
open Option.some renaming inj→alN
open Go.DataW.Whole renaming of_heap→axC
open Go.ChangeSpec renaming witness6→axD,post_blind→axE
open Iff renaming rfl→axG
open Function renaming comp_def→awz
section
namespace Go.Proofs.YtkdljbnllgpfhaaGreat
open Go Go.RowKit Go.Upr
deriving instance DecidableEq for Lay
def cT(b:UInt8):Tm:=⟨⟨#[b]⟩,false⟩
def vT(b:UInt8):Tm:=⟨⟨#[b]⟩,true⟩
def fT:cS:=⟨⟨cP,[vT 88,vT 89]⟩,[⟨⟨cV,[vT 88,vT 89]⟩,false⟩]⟩
def fy:cS:=⟨⟨cP,[vT 88,vT 90]⟩,[⟨⟨cP,[vT 88,vT 89]⟩,false⟩,⟨⟨cV,[vT 89,vT 90]⟩,false⟩]⟩
def cs1:List cS:= [⟨⟨cV,[cT 97,cT 98]⟩,[]⟩,⟨⟨cV,[cT 98,cT 99]⟩,[]⟩,fT,fy]
def Ah:Lay:=⟨[fT,fy],true⟩
theorem ae2:eE tx1=(some cs1,0,0):=Em mE mE
theorem acC:eE tx2=(none,((7:Nat):Int),((0:Nat):Int)):=by
 have h1:gM [⟨XP ⟨#[112]⟩,[⟨XP ⟨#[113]⟩,false⟩,⟨XP ⟨#[112]⟩,true⟩]⟩]=(7,0):=by decide+kernel
 have h:=CC (tx:=tx2) (cs:= [⟨XP ⟨#[112]⟩,[⟨XP ⟨#[113]⟩,false⟩,⟨XP ⟨#[112]⟩,true⟩]⟩]) mE (by rw[h1];decide);rw[h1]at h;exact h
theorem tE:a_ cs1= [cV,cP]:=by decide+kernel
theorem uT:cJ cs1= [(cV,(2,false)),(cP,(2,true))]:=by decide+kernel
theorem YM:au (cJ cs1) cP=some (2,true):=by rw[uT];decide+kernel
theorem Lq:bZ cP:=uU aI
theorem nO{α:Type}{l:List α}{x y:α}(h:l.Perm [x,y]):l= [x,y]∨l= [y,x]:=by
 match l,h.length_eq with
 | [a,b],_=>
  have ha:=h.mem_iff.1 (show a∈ [a,b] by simp);simp at ha;rcases ha with rfl|rfl
  ·have h2:=(axq a).1 h;rw[axp.1 h2];exact .inl rfl
  ·have h3: [a,b].Perm [a,x]:=h.trans (axt ..);have h2:=(axq a).1 h3;rw[axp.1 h2];exact .inr rfl
theorem YN(hN: ∀x∈a_ cs1,bZ x):(qc (dz cs1) cs1 (a_ cs1) (iz (dz cs1) (a_ cs1) hN)).2= [Ah]:=by
 have hp:=xC (dz cs1) (a_ cs1) hN;generalize iz (dz cs1) (a_ cs1) hN=ms at hp;rw[tE]at hp;rcases nO hp with rfl|rfl
 ·decide+kernel
 ·decide+kernel
theorem UZ:cs1.all Yo=true:=by decide+kernel
end Go.Proofs.YtkdljbnllgpfhaaGreat
end
section
namespace Go.Proofs.YtkdljbnllgpfhaaGreat
open Go Go.RowKit Go.Upr
def iV:aS:=gC [nA,nB]
def jP:aS:=gC [nB,nC]
def sw:aS:=gC [nA,nC]
structure jq(es ps:List aS)(F:aN):Prop where
 Al: ∀t,t∈F cV↔t∈es
 path: ∀t,t∈F cP↔t∈ps
 TW:(F cV).Nodup
 fT:(F cP).Nodup
 none: ∀n,n≠cV→n≠cP→F n= []
theorem jq.len{es ps:List aS}{F:aN}(h:jq es ps F)(n:ByteArray):(F n).length≤max es.length ps.length:=by
 by_cases h1:n=cV
 ·subst h1;have:=h.TW.length_le_of_subset λt ht=>(h.Al t).1 ht;omega
 ·by_cases h2:n=cP
  ·subst h2;have:=h.fT.length_le_of_subset λt ht=>(h.path t).1 ht;omega
  ·rw[h.none n h1 h2];exact Nat.zero_le _
def RS1(j:Nat)(F:aN):Prop:=if j=0 then F=(jc (λ_=> []) cs1).1 else jq [iV,jP] [iV,jP,sw] F
def RC1(j:Nat)(zs:List Cg)(F:aN):Prop:=if j=0 then zs= [qo.cg]∧jq [iV] [iV,jP,sw] F else zs.length=3∧(∀x∈zs,fq x.t)∧jq [iV] [iV] F
theorem pA{bs:dB}(h:((cJ cs1).map aug).Perm (bs.map aug)){n:ByteArray}:(au bs n).isSome=true↔n=cV∨n=cP:=by
 rw[fL,←h.mem_iff,uT];simp
theorem T9{s:ByteArray}(h:s=nA∨s=nB∨s=nC):zF s:=by
 rcases h with rfl|rfl|rfl<;>exact⟨by decide,by decide,by decide+kernel,.inl mE⟩
theorem tne:iV≠jP∧iV≠sw∧jP≠sw:=by decide+kernel
theorem BK(ss:List ByteArray):fq (gC ss):=⟨mX ss 0,mX ss 1,mX ss 2⟩
theorem nne:cV≠cP:=by decide
theorem ae4{bs:dB}{F:aN}(hp:((cJ cs1).map aug).Perm (bs.map aug))(hF:jq [iV,jP] [iV,jP,sw] F):Ap (cJ cs1) bs F 1 RC1 qo:=by
 have agm:rV F [qo.cg]=vA F cV (Fu (F cV) jP):=rfl;refine⟨rfl,uU aI,by decide,by decide,λs hs=>T9 ?_,by rw[uT];decide+kernel,?_,λp jQ=>(pA hp).2 ?_,by rw[uT];decide,λn=>?_,λl h1 h2 h3=>?_,?_,?_,λzs F' h=>?_⟩
 ·simp at hs;exact .inr hs
 ·show gP (iF bs F cV) jP=true;unfold iF;rw[if_pos ((pA hp).2 (.inl rfl))];unfold gP;rw[List.any_eq_true];exact⟨jP,(hF.Al _).2 bz,by simp⟩
 ·rw[uT]at jQ;simp at jQ;rcases jQ with rfl|rfl
  ·exact .inl rfl
  ·exact .inr rfl
 ·have:=hF.len n;simp at this;omega
 ·have hl:(l.map aug).length≤ [cV,cP].length:=by
   refine h3.length_le_of_subset λn hn=>?_;obtain⟨p,zY,rfl⟩:=amk.1 hn;have:=h2 p zY;rw[uT]at this;simp at this;rcases this with rfl|rfl<;>simp
  have hb:=Js (F:=F) (B:=3) (λn=>by have:=hF.len n;simp at this;omega) l;rw[auB]at hl;have:l.length*3≤2*3:=Nat.mul_le_mul_right _ hl;omega
 ·exact BK _
 ·unfold RC1;rw[if_pos rfl,agm];refine⟨rfl,λt=>?_,λt=>?_,?_,?_,λn h1 h2=>?_⟩
  ·rw[lU];unfold Fu;rw[List.mem_filter,hF.Al];simp;constructor
   ·rintro⟨h1|h1,h2⟩
    ·exact h1
    ·exact absurd h1 h2
   ·rintro rfl;exact⟨.inl rfl,tne.1⟩
  ·rw[ju _ nne.symm];exact hF.path t
  ·rw[lU];exact hF.TW.filter _
  ·rw[ju _ nne.symm];exact hF.fT
  ·rw[ju _ h1];exact hF.none n h1 h2
 ·unfold RC1 at h;rw[if_neg aI]at h;exact⟨λe=>by rw[e]at h;exact absurd h.1 aI,by omega,h.2.1⟩
end Go.Proofs.YtkdljbnllgpfhaaGreat
end
section
namespace Go.Proofs.YtkdljbnllgpfhaaGreat
open Go Go.RowKit Go.Upr
deriving instance DecidableEq for Jn
def zW:List bQ:= [cq fT,cq fy]
def qf:Jn:=ic (cq fy).head ((cq fy).body.headD ⟨wX,false⟩).a (fE (cq fy) 0)
theorem OW:kr (eK zW) zW= [qf]:=by decide+kernel
theorem CM:qf.start= []:=by decide+kernel
theorem Q9:qf.steps.map (λs=>(s.part.a.n,s.part.neg))= [(cV,false)]:=by decide+kernel
theorem cE:qf.head.n=cP∧qf.first.n=cP:=by decide+kernel
theorem EA:IB qf=true:=by decide+kernel
theorem IX{D D':Bool→ByteArray→Seen}: ∀ (q:List (r9×Option (List aS))) (l:List (eB×Nat)),(∀p∈q,p.1.asks= [])→km D l q=km D' l q
 | [],_,_=>rfl
 |x::q,l,h=>by
  have h0:x.1.asks= []:=h x (ao3 ..);have e:ny D x.1 (lD x.1 (x.2.getD [])) l=ny D' x.1 (lD x.1 (x.2.getD [])) l:=by
   unfold ny kL;rw[h0];rfl
  show km D (ny D x.1 (lD x.1 (x.2.getD [])) l) q=km D' (ny D' x.1 (lD x.1 (x.2.getD [])) l) q;rw[e];exact IX q _ λp hp=>h p (List.mem_cons_of_mem _ hp)
theorem ru{D D':Bool→ByteArray→Seen}{J:Jn}(h:J.start= [])(xs:List aS):cD D J xs=cD D' J xs:=by
 unfold cD kL;rw[h];rfl
def Pt:Bool→ByteArray→Seen:=λ_ _=>([],[],[])
theorem acT{xs T:List aS}(hx:xs= [iV,jP]∨xs= [jP,iV])(hT:T= [iV,jP]∨T= [jP,iV]):(eV Pt qf xs [some T]).map aug= [sw]:=by
 rcases hx with rfl|rfl<;>rcases hT with rfl|rfl<;>decide+kernel
theorem acS{T:List aS}(hT:T= [iV,jP]∨T= [jP,iV]):(eV Pt qf [sw] [some T]).map aug= []:=by
 rcases hT with rfl|rfl<;>decide+kernel
end Go.Proofs.YtkdljbnllgpfhaaGreat
end
section
namespace Go.Proofs.YtkdljbnllgpfhaaGreat
open Go Go.RowKit Go.Upr
theorem CG{α:Type}[DecidableEq α]{l:List α}{x y z:α}(h:l.Perm [x,y,z]):l= [x,y,z]∨l= [x,z,y]∨l= [y,x,z]∨l= [y,z,x]∨l= [z,x,y]∨l= [z,y,x]:=by
 match l,h.length_eq with
 |a::l,_=>
  have ha:=h.mem_iff.1 (show a∈a::l by simp);simp at ha;rcases ha with rfl|rfl|rfl
  ·rcases nO ((axq a).1 h)with rfl|rfl<;>simp
  ·rcases nO ((axq a).1 (h.trans (axt ..)))with rfl|rfl<;>simp
  ·have h3:(a::l).Perm [a,x,y]:=h.trans (by
    have: [x,y,a].Perm ([a]++ [x,y]):=List.perm_append_comm (l₁:= [x,y]) (l₂:= [a])
    exact this)
   rcases nO ((axq a).1 h3)with rfl|rfl<;>simp
theorem iD{l m xs:List aS}(h:bC l xs)(hl: ∀t,t∈l↔t∈m)(hm:m.Nodup):xs.Perm m:=
 (axo h.2.2 hm).2 λt=>⟨λht=>(hl t).1 (h.2.1 t ht),λht=>h.1 t ((hl t).2 ht)⟩
theorem acF{xs:List aS}(h:xs.Perm [iV,jP]):(gD xs).toList= [iV,jP]:=by
 rcases nO h with rfl|rfl<;>decide+kernel
theorem acE{xs:List aS}(h:xs.Perm [iV,jP,sw]):(gD xs).toList= [iV,sw,jP]:=by
 rcases CG h with rfl|rfl|rfl|rfl|rfl|rfl<;>decide+kernel
theorem sort_1{xs:List aS}(h:xs.Perm [iV]):(gD xs).toList= [iV]:=by
 rw[axp.1 h];decide+kernel
theorem Pb{bs:dB}{F:aN}(hp:((cJ cs1).map aug).Perm (bs.map aug)){es ps es' AG:List aS}(hF:jq es ps F)(he:es.Nodup)(hq:ps.Nodup)(he1: ∀xs,xs.Perm es→(gD xs).toList=es')(zY: ∀xs,xs.Perm ps→(gD xs).toList=AG)
  (hne:es≠ []∧ps≠ []∧es.length≤3∧ps.length≤3∧(∀t∈es,t.1≠0)∧∀t∈ps,t.1≠0) {d:ByteArray} (hd:(⟨([]++(es'.map (sY cV)).flatten++(AG.map (sY cP)).flatten).toArray⟩:ByteArray)=d):BW bs F d:=by
 obtain⟨n1,n2,n3,n4,n5,n6⟩:=hne;have hlen:bs.length=2:=by
  have:=hp.length_eq;rw[uT,auB,auB]at this;exact this.symm
 have E2: ∀p∈bs,p.1=cV∨p.1=cP:=λp jQ=>(pA hp).1 (fL.2 (amk.2 ⟨p,jQ,rfl⟩));refine⟨λe=>(by rw[e]at hlen;simp at hlen),by omega,λp jQ=>?_,λp jQ=>?_,λss out h1 h2=>?_⟩
 ·have hl:=hF.len p.1;rcases E2 p jQ with h|h
  ·rw[h]at hl⊢;refine⟨λe=>?_,by omega,λt ht=>n5 t ((hF.Al t).1 ht)⟩;obtain⟨t,ht⟩:=axr es n1;have:=(hF.Al t).2 ht;rw[e]at this;cases this
  ·rw[h]at hl⊢;refine⟨λe=>?_,by omega,λt ht=>n6 t ((hF.path t).1 ht)⟩;obtain⟨t,ht⟩:=axr ps n2;have:=(hF.path t).2 ht;rw[e]at this;cases this
 ·rcases E2 p jQ with h|h<;>rw[h]<;>decide
 ·have h3:ss.Perm [cV.data.toList,cP.data.toList]:=by
   have e1:bs.map (λp=>p.1.data.toList)=(bs.map aug).map λn=>n.data.toList:=by rw[List.map_map];rfl
   rw[e1]at h1;have h4:=(hp.map λn:ByteArray=>n.data.toList).symm;rw[uT]at h4;exact h1.trans h4
  have h5:ss.mergeSort (λx y=>decide (x≤y))= []++ [cV.data.toList]++ [cP.data.toList]:=by
   have h6:=nO ((List.mergeSort_perm ss λx y=>decide (x≤y)).trans h3);have h7:=List.pairwise_mergeSort (le:=λx y:List UInt8=>decide (x≤y)) (λa b c h1 h2=>by simp only[decide_eq_true_eq]at h1 h2⊢;exact List.le_trans h1 h2) (λa b=>by simp only[Bool.or_eq_true,decide_eq_true_eq];exact List.le_total a b) ss;rcases h6 with h6|h6
   ·rw[h6];rfl
   ·rw[h6]at h7;have h8:=(List.pairwise_cons.1 h7).1 cV.data.toList bz;exact absurd h8 mE
  rw[h5]at h2;generalize hl: []++ [cV.data.toList]++ [cP.data.toList]=l at h2;cases h2 with
  |nil=>simp at hl
  | @snoc l1 b1 m1 Si t1 o1=>
   obtain⟨e1,e2⟩:=axx hl rfl;have e3:cP=m1:=by
    have:=axv.1 e2;exact axw (avR this)
   subst e3;subst e1;generalize hl2: []++ [cV.data.toList]=l2 at t1;cases t1 with
   |nil=>simp at hl2
   | @snoc l3 b3 m3 xs3 t3 o3=>
    obtain⟨f1,f2⟩:=axx hl2 rfl;have e4:cV=m3:=by
     have:=axv.1 f2;exact axw (avR this)
    subst e4;subst f1;generalize WO:([]:List (List UInt8))=l4 at t3;cases t3 with
    |snoc _ _=>simp at WO
    |nil=>
     rw[he1 _ (iD o3 hF.Al he),zY _ (iD o1 hF.path hq)];exact hd
theorem U1{bs:dB}{F:aN}(hp:((cJ cs1).map aug).Perm (bs.map aug))(h:RS1 1 F):BW bs F dp1:=by
 have h':jq [iV,jP] [iV,jP,sw] F:=h;exact Pb hp h' mE mE (λ_=>acF) (λ_=>acE) mE mE
theorem U0{bs:dB}{F:aN}{zs:List Cg}(hp:((cJ cs1).map aug).Perm (bs.map aug))(h:RC1 1 zs F):BW bs F dp2:=by
 have h':zs.length=3∧(∀x∈zs,fq x.t)∧jq [iV] [iV] F:=h;exact Pb hp h'.2.2 mE mE (λ_=>sort_1) (λ_=>sort_1) mE mE
end Go.Proofs.YtkdljbnllgpfhaaGreat
end
section
namespace Go.Proofs.YtkdljbnllgpfhaaGreat
open Go Go.RowKit Go.Upr
variable{D:Bool→ByteArray→Seen}{J:Jn}{xs:List aS}{bs:dB}{F:aN}
theorem qu{s:r9}{bB:List (Option (List aS))}(hs:J.steps= [s])(h:gV D J xs [none] bB):(bB= [none]∧cD D J xs= [])∨∃T,bB= [some T]∧tj (D s.part.side s.part.a.n).1 (D s.part.side s.part.a.n).2.1 (D s.part.side s.part.a.n).2.2 T:=by
 obtain⟨h1,h2⟩:=h;have a:=h1 0;have b:=h1 1
 match bB with
 | []=>simp at a
 | [o]=>
  rcases a with a|⟨-,s',T,hs',a,hv⟩
  ·simp at a;subst a;exact .inl ⟨rfl,h2 0 (by rw[hs];exact Nat.one_pos) rfl⟩
  ·rw[hs]at hs';simp at hs' a;subst hs' a;exact .inr ⟨T,rfl,hv⟩
 |_::_::_=>simp at b
theorem Ui{T:List aS}{bB:List (Option (List aS))}(h:gV D J xs [some T] bB):bB= [some T]:=by
 have a:=h.1 0;have b:=h.1 1
 match bB with
 | []=>simp at a
 | [o]=>simp at a;rw[a]
 |_::_::_=>simp at b
theorem keys_nil{st:List (Option (List aS))}(h:cD D J xs= []):eV D J xs st= []:=by
 unfold eV;rw[h,Ca];rfl
theorem tC{l T:List aS}(h:tj l [] [] T):bC l T:=by
 obtain⟨y,z,rfl,hy,⟨-,h2,-⟩⟩:=h;have hz:z= []:=axi.2 λa ha=>by have:=h2 a ha;simp at this
 have e:ja l []=l:=by simp[ja,gP]
 rw[e]at hy;rw[hz,axz];exact hy
theorem xi(s:Bool)(n:ByteArray):dV bs F s n=(iF bs F n,[],[]):=by
 unfold dV Fs fX;cases s<;>simp[iF,au]
structure zE(J:Jn):Prop where
 start:J.start= []
 asks: ∀s∈J.steps,s.asks= []
theorem zE.keys(h:zE J)(st:List (Option (List aS))):eV D J xs st=eV Pt J xs st:=by
 unfold eV;rw[ru (D':=Pt) h.start]
 congr 1
 exact IX _ _ λp hp=>h.asks _ (List.of_mem_zip (show(p.1,p.2)∈J.steps.zip st from hp)).1
theorem zE.of(h1:J.start= [])(h2:J.steps.all (λs=>decide (s.asks= []))=true):zE J:=⟨h1,λs hs=>by
 rw[axg]at h2
 exact of_decide_eq_true (h2 s hs)⟩
theorem Ul{w:aly}{sb:Nat}(h:aq w sb bs F)(n:ByteArray):(iF bs F n).Nodup:=by
 unfold iF;split
 ·rename_i hn;obtain⟨b,hb⟩:=aww.1 hn;have h2:=av.once (h.dy _ (cB hb));have h3:(aU (F n)).map aug=F n:=by simp[aU,awz]
  rwa [h3]at h2
 ·exact aut
theorem aq.iF{w:aly}{sb:Nat}(h:aq w sb bs F):aq w sb bs (iF bs F):=⟨h.top,λp hp=>by
 have:(au bs p.1).isSome=true:=fL.2 (amk.2 ⟨p,hp,rfl⟩);have e:Go.Proofs.YtkdljbnllgpfhaaGreat.iF bs F p.1=F p.1:=by unfold Go.Proofs.YtkdljbnllgpfhaaGreat.iF;rw[if_pos this]
 rw[e]
 exact h.dy p hp,h.apart,h.off⟩
abbrev Names(bs:dB):Prop:=((cJ cs1).map aug).Perm (bs.map aug)
theorem holds_of{w:aly}{sb:Nat}(hp:Names bs)(h:aq w sb bs F){es ps:List aS}(he: ∀t,eI bs F cV t↔t∈es)(hq: ∀t,eI bs F cP t↔t∈ps):jq es ps (iF bs F):=
 ⟨λt=>kV.trans (he t),λt=>kV.trans (hq t),Ul h _,Ul h _,λn h1 h2=>by
  unfold iF;rw[if_neg];intro h3;rcases(pA hp).1 h3 with h4|h4
  ·exact h1 h4
  ·exact h2 h4⟩
theorem Gg{ps:List (LB×Lay)}{L:Lay}(h:ps.map auw= [L]): ∃q,ps= [q]∧q.2=L:=by
 match ps with
 | []=>cases h
 | [q]=>exact⟨q,rfl,by simpa using h⟩
 |_::_::_=>simp at h
theorem X6(hp:Names bs):(au bs cV).isSome=true:=(pA hp).2 (.inl rfl)
theorem X5(hp:Names bs):(au bs cP).isSome=true:=(pA hp).2 (.inr rfl)
theorem ofe(hp:Names bs):iF bs F cV=F cV:=if_pos (X6 hp)
theorem ofp(hp:Names bs):iF bs F cP=F cP:=if_pos (X5 hp)
theorem NV{r:bQ}(h:r∈zW):gW r:=by
 have key:zW.all XV=true:=by decide+kernel
 exact AX (axg.1 key r h)
theorem yy{r:bQ}(h:r∈zW):r=cq fT∨r=cq fy:=by
 simpa[zW]using h
theorem nQ: ∃s,qf.steps= [s]∧s.part.a.n=cV:=by
 have h:=Q9
 match hs:qf.steps with
 | [s]=>
  rw[hs]at h;simp at h;exact⟨s,rfl,h.1⟩
 | []=>rw[hs]at h;simp at h
 |_::_::_=>rw[hs]at h;simp at h
theorem OV:Dl qf:=by
 have o2:gW (cq fy):=NV (by simp[zW]);have hb:((cq fy).body.headD ⟨wX,false⟩)∈(cq fy).body:=by
  have h0:(cq fy).body≠ []:=by decide+kernel
  cases h:(cq fy).body with
  |nil=>exact absurd h h0
  |cons x l=>simp
 have hy:=o2.jl _ hb;have hpl:(fE (cq fy) 0).length≤4:=by decide+kernel
 exact xt o2.nE o2.ml hy.1 hy.2.1 hpl λp hp=>(aqo.1 hp).elim (iT (λl hl=>o2.jl l (List.mem_of_mem_take hl)) p) (iT (λl hl=>o2.jl l (List.mem_of_mem_drop hl)) p)
theorem Ez:zE qf:= .of CM mE
def zr(ls:List (List aS))(i:Nat)(t:aS):Prop:=t∈ls.getD i []
def px:Nat→aS→Prop:=zr [[iV,jP],[sw]]
def ac6(st:List (Option (List aS))):Prop:=st= [none]∨∃T,st= [some T]∧(T= [iV,jP]∨T= [jP,iV])
abbrev F0:aN:=(jc (λ_=> []) cs1).1
theorem ab5:F0 cV= [iV,jP]:=by decide+kernel
theorem ab4:F0 cP= []:=by decide+kernel
theorem yK: [iV,jP].Nodup:=by decide+kernel
theorem Ig{x y:aS}{xs:List aS}(h:xs.Perm [x,y]):xs= [x,y]∨xs= [y,x]:=nO h
theorem Rk(hp:Names bs):aco qf bs F0 2 px ac6 where
 some i hi:=by
  match i,hi with
  |0,_=>exact⟨iV,by simp[px,zr]⟩
  |1,_=>exact⟨sw,by simp[px,zr]⟩
 last t:=by simp[px,zr]
 init:=by
  obtain⟨s,hs,-⟩:=nQ;rw[hs];exact .inl rfl
 take i hi bf H st bB hI hr hm hl:=by
  obtain⟨s,hs,hn⟩:=nQ;rw[hs]at hm hl;have h0:=hm 0 bz
  match bB,hl with
  | [o],_=>
   rcases h0 with⟨h1,h2⟩|⟨s',T,zs,h1,h2,h3,h4⟩
   ·simp at h2;exact .inl (by rw[h2])
   ·simp at h1 h3;subst h1;have hz:zs= []:=axi.2 λt ht=>by
     have h5:=(hI cV t).1 (kV.1 (by rw[←hn];exact h4.2.1 t ht));exact absurd (h5.1.trans cE.1) nne
    subst hz;rw[axz]at h3;rcases hr with rfl|⟨T',rfl,hT⟩
    ·simp at h2
    ·simp at h2;subst h2;exact .inr ⟨T',by rw[h3],hT⟩
 step i hi F' st bB xs hI hr hx KA hB hl:=by
  obtain⟨s,hs,hn⟩:=nQ;have Xg:(i=0∧(xs= [iV,jP]∨xs= [jP,iV]))∨(i=1∧xs= [sw]):=by
   match i,hi with
   |0,_=>exact .inl ⟨rfl,Ig ((axo KA yK).2 hx)⟩
   |1,_=>exact .inr ⟨rfl,axp.1 ((axo KA bz).2 hx)⟩
  have hs0:cD (dV bs F') qf xs≠ []:=by
   rw[ru (D':=Pt) CM];rcases Xg with⟨-,rfl|rfl⟩|⟨-,rfl⟩<;>decide+kernel
  have hT: ∃T,bB= [some T]∧(T= [iV,jP]∨T= [jP,iV]):=by
   rcases hr with rfl|⟨T,rfl,hT⟩
   ·rcases qu hs hB with⟨-,h⟩|⟨T,rfl,hv⟩
    ·exact absurd h hs0
    ·rw[xi,hn]at hv;refine⟨T,rfl,Ig (iD (tC hv) (λt=>?_) yK)⟩;rw[kV,hI];unfold eI jR;rw[ab5];constructor
     ·rintro(h|⟨h,-⟩)
      ·exact h.2
      ·exact absurd (h.trans cE.1) nne
     ·exact λh=> .inl ⟨X6 hp,h⟩
   ·exact⟨T,Ui hB,hT⟩
  obtain⟨T,rfl,hT⟩:=hT;refine⟨.inr ⟨T,rfl,hT⟩,λt=>?_⟩;rw[Ez.keys,cE.1,hI];have hno: ¬eI bs F0 cP t:=λh=>by have:=h.2;rw[ab4]at this;cases this
  rcases Xg with⟨rfl,Sn⟩|⟨rfl,rfl⟩
  ·rw[acT Sn hT];constructor
   ·intro h;refine⟨h,?_⟩;rintro(h1|⟨-,j,hj,h1⟩)
    ·exact hno h1
    ·obtain rfl:j=0:=by omega
     have e:t=sw:=by simpa[px,zr]using h
     subst e;simp[px,zr]at h1;rcases h1 with h1|h1
     ·exact tne.2.1 h1.symm
     ·exact tne.2.2 h1.symm
   ·exact λh=>h.1
  ·rw[acS hT];constructor
   ·intro h;simp[px,zr]at h
   ·exact λh=>nomatch h.1
 inj F':=l8 EA
def qR:Jn:=bJ (cq fT)
theorem L4: ∃s,qR.steps= [s]∧s.part.a.n=cV:=by
 have h:qR.steps.map (λs=>(s.part.a.n,s.part.neg))= [(cV,false)]:=by decide+kernel
 match hs:qR.steps with
 | [s]=>
  rw[hs]at h;simp at h;exact⟨s,rfl,h.1⟩
 | []=>rw[hs]at h;simp at h
 |_::_::_=>rw[hs]at h;simp at h
theorem zH:zE qR:= .of mE mE
theorem JE{T:List aS}(hT:T= [iV,jP]∨T= [jP,iV]):((eV Pt qR [(0,0,0)] [some T]).map aug).isPerm [iV,jP]=true:=by
 rcases hT with rfl|rfl<;>decide+kernel
theorem GC:cD Pt qR [(0,0,0)]≠ []:=by decide+kernel
theorem xD:dc (eK zW) (cq fy).body (cq fy).body.length≠ []:=by decide+kernel
theorem GK:dc (eK zW) (cq fT).body (cq fT).body.length= []:=by decide+kernel
theorem Gm{r:bQ}(h:r∈zW):r.head.n=cP:=by
 rcases yy h with rfl|rfl<;>rfl
def ac8(r:bQ)(t:aS):Prop:=r=cq fT∧t∈ [iV,jP]
theorem T8{sb:Nat}{K:Hp}{N:Nat}(h1:sb<N∧∀p∈bs,p.2<N)(h2: ∀b o,K b=some o→N≤b): ∀b,dt sb bs b→K b=none:=λb hb=>by
 have hlt:b<N:=by
  rcases hb with rfl|⟨p,hp,rfl⟩
  ·exact h1.1
  ·exact h1.2 p hp
 cases hk:K b with
 |none=>rfl
 |some o=>have:=h2 b o hk;omega
theorem YO{sb:Nat}{ps:List (LB×Lay)}{K:Hp}{N:Nat}(hp:Names bs)(h1:ps.map auw= [Ah])(h2: ∀p∈ps,p.1.1=p.2.jV)(h3:sb<N∧∀p∈bs,p.2<N)(h4: ∀b o,K b=some o→N≤b):tJ sb bs ps K N RS1:=by
 intro j p hj w F hK mi hS hR;obtain⟨q,rfl,hq⟩:=Gg h1
 ·have hj0:j=0:=by
   have:=(apT.1 hj).1;simp at this;exact this
  subst hj0;simp at hj;subst hj;have hr:q.1.1=true:=by rw[h2 q (ao3 ..),hq];rfl
  have hF:F=F0:=hR;subst hF;rw[if_pos hr];rw[hq]at mi;obtain⟨ra,rc,e1,e2⟩:=mi.cond.1 hr;have Nr:Ah.rules.map cq=zW:=rfl;rw[Nr]at e1 e2;have k:=ajw (lb:=q.1.2) (rs:=zW) ⟨hK,e1,e2⟩ (λr h=>NV h) aI hS (T8 h3 h4) ac8
   (λr h hpl=>by
    rcases yy h with rfl|rfl
    ·exact l8 mE
    ·exact absurd hpl xD)
   (λr h hpl xs bB hx hB t=>by
    rcases yy h with rfl|rfl
    ·obtain⟨s,hs,hn⟩:=L4;change gV _ qR xs (qR.steps.map λ_=>none) bB at hB;rw[hs]at hB;have hxe:xs= [(0,0,0)]:=axp.1 (iD hx (λt=>axG) bz);subst hxe;rcases qu hs hB with⟨-,h⟩|⟨T,rfl,hv⟩
     ·rw[ru (D':=Pt) zH.start]at h;exact absurd h GC
     ·rw[xi,hn]at hv;have hT:=Ig (iD (tC hv) (λt=>by rw[ofe hp,ab5]) yK);change t∈(eV _ qR _ _).map aug↔_;rw[zH.keys,(List.isPerm_iff.1 (JE hT)).mem_iff];exact⟨λh=>⟨rfl,h⟩,λh=>h.2⟩
    ·exact absurd hpl xD)
   OW (λe=>by obtain⟨s,hs,-⟩:=nQ;rw[hs]at e;cases e) OV (by rw[cE.1];exact Lq) (cE.2.trans cE.1.symm) (by rw[cE.1];exact X5 hp) (Rk hp)
   (λn t=>by
    constructor
    ·rintro⟨r,hr,-,rfl,hh,-⟩;exact⟨(Gm hr).trans cE.1.symm,hh.2⟩
    ·rintro⟨rfl,ht⟩;refine⟨cq fT,by simp[zW],GK,cE.1.symm,⟨rfl,ht⟩,λh=>?_⟩;have:=h.2;rw[cE.1,ab4]at this
     cases this)
   (L:= [iV,jP,sw]) (λj hj t ht=>by
    match j,hj with
    |0,_=>simp[px,zr]at ht;rcases ht with rfl|rfl<;>simp
    |1,_=>simp[px,zr]at ht;subst ht;simp) aI
  refine k.mono ?_;rintro ex w' ⟨v,xs,F',rfl,ht,fN,hF',hm,hl,-⟩;refine⟨v,xs,iF bs F',rfl,ht,fN.iF,?_,hm,hl⟩;show jq _ _ _;refine holds_of hp fN (λt=>?_) λt=>?_
  ·rw[hF'];unfold eI jR;rw[ab5];constructor
   ·rintro(h|⟨h,-⟩)
    ·exact h.2
    ·exact absurd (h.trans cE.1) nne
   ·exact λh=> .inl ⟨X6 hp,h⟩
  ·rw[hF'];unfold eI jR;rw[ab4];constructor
   ·rintro(h|⟨-,j,hj,h⟩)
    ·cases h.2
    ·match j,hj with
     |0,_=>simp[px,zr]at h;rcases h with rfl|rfl<;>simp
     |1,_=>simp[px,zr]at h;subst h;simp
   ·intro h;simp at h;rcases h with rfl|rfl|rfl
    ·exact .inr ⟨cE.1.symm,0,by decide,by simp[px,zr]⟩
    ·exact .inr ⟨cE.1.symm,0,by decide,by simp[px,zr]⟩
    ·exact .inr ⟨cE.1.symm,1,by decide,by simp[px,zr]⟩
theorem ae3:Ld cs1 [Ah] RS1:=by
 have bW: ∀c∈cs1,yD c∧bZ c.head.n∧Small 1099511627776 c:=λc hc=>uh (axg.1 UZ c hc);have hN: ∀x∈a_ cs1,bZ x:=λx hx=>by
  rw[tE]at hx;simp at hx;rcases hx with rfl|rfl<;>exact uU aI
 refine⟨by decide,λc hc=>(bW c hc).2.2,λk=>?_,⟨hN,(YN hN).symm⟩,by rw[tE];decide,by rw[tE];decide,by rw[uT];decide,by decide,λL hL=>?_,λc hc=>⟨(bW c hc).1.1,(bW c hc).2.1,?_⟩,by decide+kernel,rfl,λsb bs ps K N q1 q2 q3 q4 _ q6 _=>YO q1 q2 q3 q4 q6⟩
 ·have key:(List.range 5).all (λk=>decide ((a_ (cs1.take k)).length≤1000))=true:=by decide+kernel
  by_cases hk:k<5
  ·have:=of_decide_eq_true (axg.1 key k (List.mem_range.2 hk));omega
  ·have e:cs1.take k=cs1:=List.take_of_length_le (by show 4≤k;omega);rw[e,tE];decide
 ·rw[atQ.1 hL];refine⟨by decide,λc hc=>?_⟩;have hc':c∈cs1:=by
   simp[Ah]at hc;rcases hc with rfl|rfl<;>simp[cs1]
  exact⟨(bW c hc').1,(bW c hc').2.1⟩
 ·rw[uT];simp[cs1]at hc;rcases hc with rfl|rfl|rfl|rfl<;>simp[fT,fy]
end Go.Proofs.YtkdljbnllgpfhaaGreat
end
section
namespace Go.Proofs.YtkdljbnllgpfhaaGreat
open Go Go.RowKit Go.Upr
variable{D:Bool→ByteArray→Seen}{J:Jn}{xs:List aS}{bs bc bg bl:dB}{F Fc Fg G:aN}
def PR:iY:=(cq fT).body.headD ⟨wX,false⟩
def X4:iY:=(cq fy).body.headD ⟨wX,false⟩
def PQ:iY:=(cq fy).body.getD 1 ⟨wX,false⟩
theorem aaU:(cq fT).body= [PR]:=by decide+kernel
theorem aaT:(cq fy).body= [X4,PQ]:=by decide+kernel
theorem lits:PR.neg=false∧X4.neg=false∧PQ.neg=false∧PR.a.n=cV∧X4.a.n=cP∧PQ.a.n=cV:=by decide+kernel
def jl1:Jn:=ic (cq fT).head PR.a (fE (cq fT) 0)
def WG:Jn:=ic (cq fy).head PQ.a (fE (cq fy) 1)
theorem VS:zE jl1:= .of mE mE
theorem Jd:zE WG:= .of mE mE
theorem VQ:jl1.steps= []:=by decide+kernel
theorem ZA: ∃s,WG.steps= [s]∧s.part.a.n=cP:=by
 have h:WG.steps.map (λs=>(s.part.a.n,s.part.neg))= [(cP,false)]:=by decide+kernel
 match hs:WG.steps with
 | [s]=>
  rw[hs]at h;simp at h;exact⟨s,rfl,h.1⟩
 | []=>rw[hs]at h;simp at h
 |_::_::_=>rw[hs]at h;simp at h
theorem VR:(eV Pt jl1 [jP] []).map aug= [jP]:=by decide+kernel
theorem Ra:cD Pt WG [jP]≠ []:=by decide+kernel
theorem VP{T:List aS}(h:T.Perm [iV,jP,sw]):(eV Pt WG [jP] [some T]).map aug= [sw]:=by
 rcases CG h with rfl|rfl|rfl|rfl|rfl|rfl<;>decide+kernel
theorem Q_{xs:List aS}(hx:xs= [jP,sw]∨xs= [sw,jP]):(eV Pt qf xs [some [iV,jP]]).map aug= []:=by
 rcases hx with rfl|rfl<;>decide+kernel
theorem JG: [iV,jP,sw].Nodup:=by decide+kernel
theorem vX: [jP,sw].Nodup:=by decide+kernel
def mN:Nat→aS→Prop:=zr [[jP,sw]]
def Un(st:List (Option (List aS))):Prop:=st= [none]∨st= [some [iV,jP]]
def NX(r:bQ)(i:Nat)(t:aS):Prop:=(r=cq fT∧i=0∧t=jP)∨(r=cq fy∧i=1∧t=sw)
theorem Ej{w:aly}{bg:dB}{Fg:aN}(h:cr w [] bg bR Fg (lG [qo.cg] true))(n:ByteArray)(t:aS):t∈iF bg Fg n↔n=cV∧t=jP:=by
 rw[kV,h.only.1];unfold lG;constructor
 ·rintro⟨x,hx,-,rfl,rfl⟩;rw[atQ.1 hx];exact⟨rfl,rfl⟩
 ·rintro⟨rfl,rfl⟩;exact⟨_,atQ.2 rfl,rfl,rfl,rfl⟩
theorem Qz{w:aly}{bc:dB}{Fc:aN}(h:cr w [] bc bR Fc (lG [qo.cg] false))(n:ByteArray):iF bc Fc n= []:=by
 refine axi.2 λt ht=>?_;obtain⟨x,hx,hg,-⟩:=(h.only.1 n t).1 (kV.1 ht);rw[atQ.1 hx]at hg;cases hg
theorem xr(h: ∀p∈bs,(F p.1).Nodup)(n:ByteArray):(iF bs F n).Nodup:=by
 unfold iF;split
 ·rename_i hn;obtain⟨b,hb⟩:=aww.1 hn;exact h _ (cB hb)
 ·exact aut
theorem Vi{n:ByteArray}{x:aS}(hn:(iF bs F n).Nodup)(h: ∀t,t∈iF bs F n↔t=x):iF bs F n= [x]:=
 axp.1 ((axo hn bz).2 λt=>(h t).trans bz)
theorem UK{l1 l3 T:List aS}(h:tj l1 [] l3 T): ∃y z,T=y++z∧bC l1 y∧bC l3 z:=by
 obtain⟨y,z,rfl,hy,hz⟩:=h;have e:ja l1 []=l1:=by simp[ja,gP]
 rw[e]at hy;exact⟨y,z,rfl,hy,hz⟩
theorem mZ{x:aS}{ys:List aS}(h:bC [x] ys):ys= [x]:=axp.1 (iD h (λ_=>axG) bz)
theorem Ua(sc:Hs)(F0 F1 F2:aN)(s:Bool)(n:ByteArray):DJ sc F0 F1 F2 s n=(iF sc.b0 F0 n,iF sc.b1 F1 n,iF sc.b2 F2 n):=by
 unfold DJ Fs;cases s<;>rfl
theorem Uo{r:bQ}(hr:r∈zW){i:Nat}{y:iY}(hy:r.body[i]? =some y):(r=cq fT∧i=0∧y=PR)∨(r=cq fy∧i=0∧y=X4)∨(r=cq fy∧i=1∧y=PQ):=by
 rcases yy hr with rfl|rfl
 ·rw[aaU]at hy
  match i,hy with
  |0,hy=>exact .inl ⟨rfl,rfl,by simpa using hy.symm⟩
  |i+1,hy=>simp at hy
 ·rw[aaT]at hy
  match i,hy with
  |0,hy=>exact .inr (.inl ⟨rfl,rfl,by simpa using hy.symm⟩)
  |1,hy=>exact .inr (.inr ⟨rfl,rfl,by simpa using hy.symm⟩)
  |i+2,hy=>simp at hy
theorem OM{r:bQ}(hr:r∈zW){i:Nat}{y:iY}(hy:r.body[i]? =some y):y.neg=false:=by
 rcases Uo hr hy with⟨-,-,rfl⟩|⟨-,-,rfl⟩|⟨-,-,rfl⟩
 ·exact lits.1
 ·exact lits.2.1
 ·exact lits.2.2.1
theorem xu{y:iY}(h:y.neg=false):fV bg Fg bc Fc y=iF bg Fg y.a.n:=by
 unfold fV;rw[h];rfl
section
variable{w:aly}{sb cb gb:Nat}(hp:Names bs)(hF:jq [iV] [iV,jP,sw] F)(hC:cr w [] bc bR Fc (lG [qo.cg] false))(hG:cr w [] bg bR Fg (lG [qo.cg] true))(hg: ∀p∈bg,(Fg p.1).Nodup)
include hp hF hC hG hg
theorem Zl:Pn zW sb bs F [qo.cg] qf 1 mN bc bg Fc Fg cb gb NX Un:=by
 have ge:iF bg Fg cV= [jP]:=Vi (xr hg _) λt=>(Ej hG _ _).trans ⟨λh=>h.2,λh=>⟨rfl,h⟩⟩;have gp:iF bg Fg cP= []:=axi.2 λt ht=>nne ((Ej hG _ _).1 ht).1.symm;have hce:=Qz hC;refine⟨λr hr i y hy hne=>?_,⟨λi hi=>?_,λt=>by simp[mN,zr],?_,λi hi st bB xs hr hx KA hB hl=>?_,l8 EA⟩,λn t=>?_,λr hr i y hy=>?_⟩
 ·rw[xu (OM hr hy)]at hne⊢;rcases Uo hr hy with⟨rfl,rfl,rfl⟩|⟨rfl,rfl,rfl⟩|⟨rfl,rfl,rfl⟩
  ·refine⟨l8 (J:=jl1) mE,λxs bB hx hB hl t=>?_⟩;change t∈(eV _ jl1 xs bB).map aug↔_;rw[lits.2.2.2.1,ge]at hx;change bB.length=jl1.steps.length at hl;rw[VQ]at hl;obtain rfl:bB= []:=awA hl;rw[mZ hx,VS.keys,VR];unfold NX;simp
  ·rw[lits.2.2.2.2.1,gp]at hne;exact absurd rfl hne
  ·refine⟨l8 (J:=WG) mE,λxs bB hx hB hl t=>?_⟩;change t∈(eV _ WG xs bB).map aug↔_;rw[lits.2.2.2.2.2,ge]at hx;rw[mZ hx]at hB⊢;change gV _ WG _ (WG.steps.map λ_=>none) bB at hB;obtain⟨s,hs,hn⟩:=ZA;rw[hs]at hB;rcases qu hs hB with⟨-,h⟩|⟨T,rfl,hv⟩
   ·rw[ru (D':=Pt) Jd.start]at h;exact absurd h Ra
   ·rw[Ua,hn]at hv;dsimp only at hv;rw[hce,gp,ofp hp]at hv;rw[Jd.keys,VP (iD (tC hv) hF.path JG)];unfold NX;simp
 ·match i,hi with
  |0,_=>exact⟨jP,by simp[mN,zr]⟩
 ·obtain⟨s,hs,-⟩:=nQ;rw[hs];exact .inl rfl
 ·obtain rfl:i=0:=by omega
  obtain⟨s,hs,hn⟩:=nQ;have Xg:xs= [jP,sw]∨xs= [sw,jP]:=Ig ((axo KA vX).2 hx);have fin: ∀bB,(eV (DJ ⟨some sb,some cb,some gb,bs,bc,bg⟩ F Fc Fg) qf xs bB).map aug= []→∀t,mN (0+1) t↔t∈(eV (DJ ⟨some sb,some cb,some gb,bs,bc,bg⟩ F Fc Fg) qf xs bB).map aug∧¬ ∃j<0+1,mN j t:=λbB h t=>by
   rw[h];simp[mN,zr]
  have hT:(bB= [none]∧cD (DJ ⟨some sb,some cb,some gb,bs,bc,bg⟩ F Fc Fg) qf xs= [])∨bB= [some [iV,jP]]:=by
   rcases hr with rfl|rfl
   ·rcases qu hs hB with h|⟨T,rfl,hv⟩
    ·exact .inl h
    ·rw[Ua,hn]at hv;dsimp only at hv;rw[hce,ge]at hv;obtain⟨y,z,rfl,hy,hz⟩:=UK hv;rw[ofe hp]at hy;rw[mZ hz,axp.1 (iD hy hF.Al bz)];exact .inr rfl
   ·exact .inr (Ui hB)
  rcases hT with⟨rfl,h⟩|rfl
  ·exact⟨.inl rfl,fin _ (by rw[keys_nil h];rfl)⟩
  ·exact⟨.inr rfl,fin _ (by rw[Ez.keys,Q_ Xg])⟩
 ·rw[cE.1];constructor
  ·rintro⟨r,hr,i,y,hy,hne,rfl,hs,-⟩;refine⟨Gm hr,?_⟩;rcases hs with⟨-,-,rfl⟩|⟨-,-,rfl⟩<;>simp[mN,zr]
  ·rintro⟨rfl,ht⟩;have no: ∀t,¬eI [] bR cP t:=λt h=>nomatch h.2;simp[mN,zr]at ht;rcases ht with rfl|rfl
   ·refine⟨cq fT,by simp[zW],0,PR,by rw[aaU];rfl,?_,rfl,.inl ⟨rfl,rfl,rfl⟩,no _⟩;rw[xu lits.1,lits.2.2.2.1,ge];simp
   ·refine⟨cq fy,by simp[zW],1,PQ,by rw[aaT];rfl,?_,rfl,.inr ⟨rfl,rfl,rfl⟩,no _⟩;rw[xu lits.2.2.1,lits.2.2.2.2.2,ge];simp
 ·rw[xu (OM hr hy)];exact hce _
end
def D0:Bool→ByteArray→Seen:=λ_ n=>if n=cV∨n=cP then([iV],[],[])else([],[],[])
theorem OU(hp:Names bs)(hF:jq [iV] [iV] F):dV bs F=D0:=by
 funext s n;rw[xi];unfold D0;split
 ·rename_i h;have:iF bs F n= [iV]:=by
   rcases h with rfl|rfl
   ·rw[ofe hp];exact axp.1 ((axo hF.TW bz).2 hF.Al)
   ·rw[ofp hp];exact axp.1 ((axo hF.fT bz).2 hF.path)
  rw[this]
 ·rename_i h;have:iF bs F n= []:=by
   unfold iF;rw[if_neg λh3=>h ((pA hp).1 h3)]
  rw[this]
def DO:Jn:=kB (cq fT)
def wC:Jn:=kB (cq fy)
theorem VX:DO.steps= []:=by decide+kernel
theorem ZE: ∃s,wC.steps= [s]∧D0 s.part.side s.part.a.n=([iV],[],[]):=by
 have h:wC.steps.map (λs=>D0 s.part.side s.part.a.n)= [([iV],[],[])]:=by decide+kernel
 match hs:wC.steps with
 | [s]=>
  rw[hs]at h;simp at h;exact⟨s,rfl,h⟩
 | []=>rw[hs]at h;simp at h
 |_::_::_=>rw[hs]at h;simp at h
theorem VY{xs:List aS}(hx:xs= [jP,sw]∨xs= [sw,jP]):eV D0 DO xs []= []:=by
 rcases hx with rfl|rfl<;>decide+kernel
theorem VW{xs:List aS}(hx:xs= [jP,sw]∨xs= [sw,jP]):eV D0 wC xs [some [iV]]= []:=by
 rcases hx with rfl|rfl<;>decide+kernel
theorem afW: ¬(bJ (cq fT)).cost/max 1 2<(kB (cq fT)).cost/kS (bU (cq fT).head.ts):=by decide+kernel
theorem afV: ¬(bJ (cq fy)).cost/max 1 2<(kB (cq fy)).cost/kS (bU (cq fy).head.ts):=by decide+kernel
theorem Y2{r:bQ}(hr:r∈zW){ts:List aS}(ht:ts.Perm [jP,sw]):acn D0 r ts:=by
 have hl:ts.length=2:=ht.length_eq;have Xg: ∀xs,bC ts xs→xs= [jP,sw]∨xs= [sw,jP]:=λxs h=>Ig (iD h (λt=>ht.mem_iff) vX);rcases yy hr with rfl|rfl
 ·refine⟨by omega,by rw[hl];exact afW,by decide+kernel,by decide+kernel,l8 mE,λxs bB hx hB hn t=>?_⟩;change bB.length=DO.steps.length at hn;rw[VX]at hn;obtain rfl:bB= []:=awA hn;change t∈(eV D0 DO xs []).map aug↔_;rw[VY (Xg _ hx)];simp
 ·refine⟨by omega,by rw[hl];exact afV,by decide+kernel,by decide+kernel,l8 mE,λxs bB hx hB hn t=>?_⟩;change gV _ wC _ (wC.steps.map λ_=>none) bB at hB;change t∈(eV D0 wC xs bB).map aug↔_;obtain⟨s,hs,hd⟩:=ZE;rw[hs]at hB;rcases qu hs hB with⟨-,h⟩|⟨T,rfl,hv⟩
  ·rw[keys_nil h];simp
  ·rw[hd]at hv;rw[mZ (tC hv),VW (Xg _ hx)];simp
theorem U2{sb:Nat}{ps:List (LB×Lay)}{K:Hp}{N:Nat}(hp:Names bs)(h1:ps.map auw= [Ah])(h2: ∀p∈ps,p.1.1=p.2.jV)(h3:sb<N∧∀p∈bs,p.2<N)(h4: ∀b o,K b=some o→N≤b):qF sb bs ps K N RC1:=by
 intro j p hj w F h ad c zs hK mi hS hh hcs hlen hR;obtain⟨q,rfl,hq⟩:=Gg h1
 ·have hj0:j=0:=by
   have:=(apT.1 hj).1;simp at this;exact this
  subst hj0;simp at hj;subst hj;have hr:q.1.1=true:=by rw[h2 q (ao3 ..),hq];rfl
  have Xy:zs= [qo.cg]∧jq [iV] [iV,jP,sw] F:=hR;obtain⟨rfl,hF⟩:=Xy;rw[if_pos hr];rw[hq]at mi;obtain⟨ra,rc,e1,e2⟩:=mi.cond.1 hr;have Nr:Ah.rules.map cq=zW:=rfl;rw[Nr]at e1 e2;have after: ∀F',(∀n t,eI bs F' n t↔eI bs F n t∧¬jR mN qf.head.n 1 n t)→(∀t,eI bs F' cV t↔t∈ [iV])∧∀t,eI bs F' cP t↔t∈ [iV]:=λF' hF'=>by
   refine⟨λt=>?_,λt=>?_⟩
   ·rw[hF'];unfold eI jR;rw[cE.1,hF.Al];constructor
    ·exact λh=>h.1.2
    ·exact λh=>⟨⟨X6 hp,h⟩,λh=>nne h.1⟩
   ·rw[hF'];unfold eI jR;rw[cE.1,hF.path];constructor
    ·rintro⟨⟨-,h⟩,hn⟩;simp at h;rcases h with rfl|rfl|rfl
     ·simp
     ·exact absurd ⟨rfl,0,by decide,by simp[mN,zr]⟩ hn
     ·exact absurd ⟨rfl,0,by decide,by simp[mN,zr]⟩ hn
    ·intro h;simp at h;subst h;refine⟨⟨X5 hp,by simp⟩,?_⟩;rintro⟨-,j,hj,h⟩;obtain rfl:j=0:=by omega
     simp[mN,zr]at h;rcases h with h|h
     ·exact tne.1 h
     ·exact tne.2.1 h
  have k:=ajx (lb:=q.1.2) (rs:=zW) ⟨hK,e1,e2⟩ (λr h=>NV h) aI hS (T8 h3 h4) hh hcs hlen
   (λx hx=>by
    rw[atQ.1 hx]
    exact⟨uU aI,BK _⟩)
   OW (λe=>by obtain⟨s,hs,-⟩:=nQ;rw[hs]at e;cases e) OV (by rw[cE.1];exact Lq) (cE.2.trans cE.1.symm) (by rw[cE.1];exact X5 hp)
   (m:=1) (P:=mN)
   (λcb gb bc bg Fc Fg hC hG hc hg=>⟨NX,Un,Zl hp hF hC hG hg⟩)
   (λF' bl G hF' hG zZ Nx r hr hne=>by
    have ha:=after F' hF'
    have hH:jq [iV] [iV] (iF bs F'):=⟨λt=>kV.trans (ha.1 t),λt=>kV.trans (ha.2 t),xr zZ _,xr zZ _,λn h1 h2=>by
     unfold iF;rw[if_neg];intro h3;rcases(pA hp).1 h3 with h4|h4
     ·exact h1 h4
     ·exact h2 h4⟩
    have hD:dV bs F'=D0:=by
     rw[←OU hp hH];funext s n;rw[xi,xi];unfold iF;split<;>rfl
    rw[hD,Gm hr];refine Y2 hr ((axo (xr Nx _) vX).2 λt=>?_);rw[kV,hG];unfold jR;rw[cE.1];constructor
    ·rintro⟨-,j,hj,h⟩;obtain rfl:j=0:=by omega
     exact h
    ·exact λh=>⟨rfl,0,by decide,h⟩)
   (L:= [jP,sw]) (λj hj t ht=>by
    obtain rfl:j=0:=by omega
    exact ht) aI
  refine k.mono ?_;rintro ex w' ⟨v,ys,F',rfl,ht,fN,hF',hm,hl,hA⟩;have ha:=after F' hF';refine⟨v,ys,iF bs F',rfl,ht,fN.iF,?_,hm,hl⟩;have uZ:ys.Perm [⟨cP,jP,true⟩,⟨cP,sw,true⟩]:=by
   refine(axo hA.2 (by simp[tne.2.2])).2 λx=>?_;rw[hA.1];unfold jR;rw[cE.1];obtain⟨n,t,g⟩:=x;constructor
   ·rintro⟨h1,h2,j,hj,h3⟩;obtain rfl:j=0:=by omega
    simp[mN,zr]at h1 h2 h3;subst h1 h2;rcases h3 with rfl|rfl<;>simp
   ·intro h;simp at h;rcases h with⟨rfl,rfl,rfl⟩|⟨rfl,rfl,rfl⟩
    ·exact⟨rfl,rfl,0,by decide,by simp[mN,zr]⟩
    ·exact⟨rfl,rfl,0,by decide,by simp[mN,zr]⟩
  show([qo.cg]++ys).length=3∧(∀x∈ [qo.cg]++ys,fq x.t)∧jq [iV] [iV] (iF bs F')
  refine⟨by rw[List.length_append,uZ.length_eq];rfl,λx hx=>?_,holds_of hp fN ha.1 ha.2⟩;rcases aqo.1 hx with hx|hx
  ·rw[atQ.1 hx];exact BK _
  ·have:=uZ.mem_iff.1 hx;simp at this;rcases this with rfl|rfl<;>exact BK _
end Go.Proofs.YtkdljbnllgpfhaaGreat
end
section
namespace Go.Proofs.YtkdljbnllgpfhaaGreat
open Go Go.RowKit Go.Upr
variable{D:Bool→ByteArray→Seen}{J:Jn}{xs:List aS}{bs:dB}{F:aN}
theorem Zd{bB:List (Option (List aS))}(hs:J.steps= [])(h:gV D J xs (J.steps.map λ_=>none) bB):bB= []:=by
 rw[hs]at h;have a:=h.1 0
 match bB with
 | []=>rfl
 |_::_=>simp at a
def bAB(r:bQ):eB:=(cO r.head.ts (lx iV)).getD dL
theorem UC{r:bQ}(h:(cO r.head.ts (lx iV)).isSome=true):cO r.head.ts (lx iV)=some (bAB r):=by
 obtain⟨b,hb⟩:=aww.1 h;unfold bAB;rw[hb];rfl
theorem aac: ∀u∈lx iV,u<18446744073709551616:=by decide+kernel
def sj1:Jn:=bJ (kK (bAB (cq fT)) (cq fT))
def sj2:Jn:=bJ (kK (bAB (cq fy)) (cq fy))
theorem U8:sj1.steps= []:=by decide+kernel
theorem YR: ∃s,sj2.steps= [s]∧D0 s.part.side s.part.a.n=([iV],[],[]):=by
 have h:sj2.steps.map (λs=>D0 s.part.side s.part.a.n)= [([iV],[],[])]:=by decide+kernel
 match hs:sj2.steps with
 | [s]=>
  rw[hs]at h;simp at h;exact⟨s,rfl,h⟩
 | []=>rw[hs]at h;simp at h
 |_::_::_=>rw[hs]at h;simp at h
theorem U9:eV D0 sj1 [(0,0,0)] []= [(iV,1)]:=by decide+kernel
theorem U7:eV D0 sj2 [(0,0,0)] [some [iV]]= []:=by decide+kernel
theorem II{xs:List aS}(h:bC [(0,0,0)] xs):xs= [(0,0,0)]:=mZ h
def wy(r:bQ):Nat:=if r=cq fT then 1 else 0
theorem wy1:wy (cq fT)=1:=by decide+kernel
theorem wy2:wy (cq fy)=0:=by decide+kernel
theorem YL{r:bQ}(hr:r∈zW):Po D0 r iV (wy r):=by
 rcases yy hr with rfl|rfl
 ·have hm:=UC (r:=cq fT) mE;refine⟨bAB (cq fT),hm,uv aac hm,AX mE,l8 mE,λhs xs bB hx hB hp=>?_⟩;change gV D0 sj1 xs (sj1.steps.map λ_=>none) bB at hB;change hs.Perm (eV D0 sj1 xs bB)at hp;rw[Zd U8 hB,II hx,U9]at hp;rw[axp.1 hp,wy1];simp[au]
 ·have hm:=UC (r:=cq fy) mE;refine⟨bAB (cq fy),hm,uv aac hm,AX mE,l8 mE,λhs xs bB hx hB hp=>?_⟩;change gV D0 sj2 xs (sj2.steps.map λ_=>none) bB at hB;change hs.Perm (eV D0 sj2 xs bB)at hp;obtain⟨s,hs',hd⟩:=YR;rw[hs']at hB;have h0:eV D0 sj2 xs bB= []:=by
   rcases qu hs' hB with⟨-,h⟩|⟨T,rfl,hv⟩
   ·exact keys_nil h
   ·rw[hd]at hv;rw[mZ (tC hv),II hx];exact U7
  rw[h0]at hp;rw[axF hp,wy2];rfl
theorem ae1:sX wy cP zW=1:=by decide+kernel
theorem acB{sb:Nat}{ps:List (LB×Lay)}{K:Hp}{N:Nat}{zs:List Cg}(H:zD cs1 [Ah] sb bs ps K N)(hR:RC1 1 zs F): ∃lb,au (Ks ps) cP=some (true,lb)∧∀w,K.In w→(∀p∈ps,fW w K N p.1.1 p.1.2 sb (p.2.rules.map cq))→aq w sb bs F→
  Calls Tryz.prog 326 #[.pointer (some ⟨lb,0,none⟩),.string cP,br (gC [nA,nB])] w λe w'=>e= .returned (cU 1)∧af (λ_=>False) w w':=by
 have hF:jq [iV] [iV] F:=hR.2.2;obtain⟨hp,h1,h2,-,-,-,-⟩:=H;obtain⟨q,rfl,hq⟩:=Gg h1
 ·obtain⟨⟨b,lb⟩,L⟩:=q;obtain rfl:L=Ah:=hq;have hr:b=true:=h2 _ (ao3 ..);subst hr;have hby:Ks [((true,lb),Ah)]= [(cP,(true,lb))]:=rfl;refine⟨lb,by rw[hby];simp[au],λw hw mi hS=>?_⟩;obtain⟨ra,rc,e1,e2⟩:=(mi _ (ao3 ..)).cond.1 rfl;have Nr:Ah.rules.map cq=zW:=rfl;rw[Nr]at e1 e2;have k:=ajv (lb:=lb) (rs:=zW) ⟨hw,e1,e2⟩ (λr h=>NV h) aI hS (n:=cP) (t:=iV) (BK _) (Wy:=wy) λr hr _=>by
   rw[OU hp hF];exact YL hr
  rw[ae1]at k;exact k
theorem su:Su cs1 [Ah] RS1 RC1 where
 rd:=ae2
 ld:=ae3
 bad:=acC
 aaO _ _ hp h:=U1 hp h
 ap _ _ hp h:=ae4 hp h
 carry _ _ _ _ _ H:=U2 H.names H.lays H.jV H.low H.news
 told _ _ h:=h.1
 aaN _ _ _ hp h:=U0 hp h
 look:=YM
 con s hs:=T9 (by
  simp at hs;rcases hs with rfl|rfl
  ·exact .inl rfl
  ·exact .inr (.inl rfl))
 okp:=Lq
 sup _ _ _ _ _ _ _ H h:=acB H h
end Go.Proofs.YtkdljbnllgpfhaaGreat
end
section
namespace Go.Proofs.YtkdljbnllgpfhaaGreat
open Go Go.RowKit Go.Upr Go.Conc Go.ChangeShapes Go.WideShapes Go.ChangeAt
theorem ahm:ownKnob Tryz.prog.godebug=none:=by kernel_rfl
def aeY(W:aly)(r':bF)(fr':Frame)(cs':List Frame):Prop:=∃g2 v2 a k,r'=⟨some (g2,v2),λ_=>none,λb=>W.heap[b]?⟩∧fr'={ (base 11).at a k with mode:= .returning}∧cs'= []∧a.tmps[6]? =some (.bool true)∧a.defers= []
def aki(W:aly)(u:aad)(w1:aly):Prop:=u= .bool true∧w1.tape=W.tape∧w1.os=W.os∧w1.output=W.output∧∀ (b:Nat) (o:Obj),W.heap[b]? =some o→w1.heap[b]? =some o
theorem MJ{cs:List cS}{Ls:List Lay}{R:Nat→aN→Prop}{RC:Nat→List Cg→aN→Prop}(S:Su cs Ls R RC)(M:Fam){W:aly}(hg:Tryz.prog.globals.size≤W.heap.size){ci cj:Int}{ring:Bool}(Xt: -9223372036854775808≤ci)(hi2:ci≤9223372036854775807)(DO: -9223372036854775808≤cj)(wC:cj≤9223372036854775807):
  ∃M last o w' t',runNT Tryz.prog (M+1) (solo (G (ao7 Tryz.prog 11 #[.int .i64 ci,.bool ring,.int .i64 cj] .normal) []) W) #[]=(.ended o w',t')∧runN Tryz.prog M (solo (G (ao7 Tryz.prog 11 #[.int .i64 ci,.bool ring,.int .i64 cj] .normal) []) W)= .next last∧step Tryz.prog last= .ended o w'∧Go.Conc.Good Tryz.prog (aki W) last o w' t':=by
 refine DC (F:=bG) (Q:=aeY W) hg ?_ ?_
 ·rw[enter_at Tryz.func11 (c:=UB) rfl];refine YC (f:=λ_=>none) (Q:=aeY W) S M Xt hi2 DO wC (λa v1 k h6 hd g a' hle hr mf=>?_) (λ_=>none) _ (Ren.le_refl _) (RelA.append ?_ ?_) rfl
  ·refine Comes.ctl (λw=>stepG_ret') (Go.Upr.Comes.here ⟨g,v1,a',.code .ret::k,rfl,rfl,rfl,?_,mf.trans hd⟩);obtain⟨x,h1,h2⟩:=hr.get 6 _ h6;rw[h1];cases h2;rfl
  ·exact .cons (.int _ _) (.cons (.bool _) (.cons (.int _ _) .nil))
  ·unfold Go.Upr.RelA;rw[Array.toList_replicate];exact cz.replicate _ .undef
 ·rintro _ _ _ ⟨g2,v2,a,k,rfl,rfl,rfl,h6,hd⟩ w1 hw ht ho hu;have hr: ∀w:aly,(results Tryz.f11 a.tmps).run Tryz.prog w= .ok (.bool true) w:=λw=>by simp[results,go_sem,Tryz.f11,h6]
  have Fb:(results Tryz.f11 a.tmps).events Tryz.prog w1 #[]= #[]:=by simp[results,go_sem,Tryz.f11,h6]
  refine⟨.bool true,#[],?_,λe he=>by simp at he,rfl,ht,ho,hu,λb o hb=>hw.s b o hb⟩;simp[G,stepG,unwind,doReturn,Frame.at,base,hd,Tryz.func11,hr,Fb,GStep.after];simp[seen]
theorem VO:(((begin Tryz.prog (λ_ _=>0) default).world.heap[Tryz.prog.globals.size- 1]?).bind Obj.row?).isSome=true:=by kernel_rfl
theorem agI{W:aly}(h:W.ShapedOpen Tryz.prog):Tryz.prog.globals.size≤W.heap.size:=by
 obtain⟨⟨z,t⟩,hz⟩:=aww.1 VO;have h0:0<Tryz.prog.globals.size:=of_decide_eq_true ar;obtain⟨cs,h1,-⟩:=h.1 (Tryz.prog.globals.size- 1) z t aj hz;have:=(ad3.1 h1).1;omega
theorem uz{n:Int}(h:(Lit.int .i64 n).wf=true): -9223372036854775808≤n∧n≤9223372036854775807:=by
 unfold Lit.wf at h;rw[Bool.and_eq_true,decide_eq_true_eq,decide_eq_true_eq]at h;have e1:IntKind.min .i64= -9223372036854775808:=by decide+kernel
 have e2:IntKind.max .i64=9223372036854775807:=by decide+kernel
 rw[e1,e2]at h;exact h
section
variable{H:Type}{enc:TypeId×aad→H}
theorem aag{W:aly}{base:Nat}{sp:Nat→Bool}{held:Bool}(b:Bool):axB enc Tryz.prog W base sp held 4 (.bool b) (.lit (.bool b)) []:=⟨1,by simp[axu,av2,Tryz.underlying4]⟩
theorem afX{W:aly}{b0 base:Nat}{sp:Nat→Bool}{held:Bool}{v:aad}{d:DataW H}{ps:List MemPlace}(hval:axA Tryz.prog W .any b0 4 v)(hd:axB enc Tryz.prog W base sp held 4 v d ps): ∃b,v= .bool b∧d= .lit (.bool b)∧ps= []:=by
 obtain⟨b,rfl⟩:=okWide_bool Tryz.underlying4 hval;obtain⟨fuel,hf⟩:=hd;cases fuel with
 |zero=>simp[axu]at hf
 |succ n=>
  simp[axu,av2,Tryz.underlying4]at hf;obtain⟨rfl,rfl⟩:=hf;exact⟨b,rfl,rfl,rfl⟩
end
theorem Dx{cs:List cS}{Ls:List Lay}{R:Nat→aN→Prop}{RC:Nat→List Cg→aN→Prop}(S:Su cs Ls R RC)(M:Fam)(os:Os)(started:os.Started)(H:Type)(enc:TypeId×aad→H):
  ReturnsInLeavingWide {} axs os 11 .any (axy.pre6 enc Tryz.prog Tryz.f11 Rows.layersRow.domain false) (axy.post enc Tryz.prog Tryz.f11 false true false false):=by
 refine returnsInLeavingWide_of_good (C:=axs) ahm started
  (axD (enc:=enc) (C:=axs) false ⟨#[],#[.int .i64 0,.bool false,.int .i64 0],[]⟩ 8 ar ar ar ar) ?_
 intro w tape i _ RU _ gH nj ac2;obtain⟨_,_,_,fn',aih,_,_,_,_,NZ⟩:=gH;have e:fn'=Tryz.f11:=alN (aih.symm.trans Tryz.func11);subst e;obtain⟨⟨ds,gs,before,hw,hc⟩,hz⟩:=nj;have hw':=axC (w':=w.forCall tape i) aC hw;clear hc hz ac2 hw;have hg:=agI RU;generalize w.forCall tape i=W at hw' hg NZ⊢;generalize w.heap.size=base at NZ;generalize i.args=args at hw' NZ⊢;clear RU;have hval: ∀ (j:Nat) t v,Tryz.f11.params[j]? =some t→args[j]? =some v→axA Tryz.prog W .any base t v:=NZ;have hW':=hw';obtain⟨p,q,lY,hV,rfl,_,_⟩:=hw';have hA:DataW.TrodAll enc Tryz.prog W 0 (λ_=>true) true [3,4,3] args.toList ds p:=lY;obtain⟨v0,v1,v2,d0,d1,d2,p0,p1,p2,rfl,rfl,rfl,h0,h1,h2⟩:=trodAll_three hA;obtain⟨rfl,rfl⟩:=trodVars_none hV;obtain⟨a,rfl,rfl,rfl,wa⟩:=open_int Tryz.underlying3 (hval 0 3 v0 rfl rfl) h0;obtain⟨b,rfl,rfl,rfl⟩:=afX (hval 1 4 v1 rfl rfl) h1;obtain⟨c,rfl,rfl,rfl,wc⟩:=open_int Tryz.underlying3 (hval 2 3 v2 rfl rfl) h2;obtain⟨M',last,o,w',t',r1,r2,r3,v,e,hp,g1,g2,g3,g4⟩:=MJ S M (W:=W) (ci:=a) (ring:=b) (cj:=c) hg (uz wa).1 (uz wa).2 (uz wc).1 (uz wc).2;refine⟨M',last,o,w',t',r1,r2,r3,v,e,axE ?_,g1,g2,g3,g4⟩;obtain⟨rfl,ht,ho,hu,hk⟩:=hp;have hsz:W.heap.size≤w'.heap.size:=by
  rcases Nat.eq_zero_or_pos W.heap.size with h0|h0
  ·omega
  ·have:=hk (W.heap.size- 1) _ (arZ aj);have:=(ad3.1 this).1;omega
 have aiw:Below W.heap.size W w':=⟨ho,ht,hu,hsz,λk hk'=>by rw[arZ hk'];exact hk k _ (arZ hk')⟩;exact⟨_,_,_,[],[],[],hW',trodAll_mk1 (aag _),trodAll_mk3 (shut_int Tryz.underlying3 wa) (aag _) (shut_int Tryz.underlying3 wc),rfl,aiw.frame _,λh=>by cases h⟩
end Go.Proofs.YtkdljbnllgpfhaaGreat
end
