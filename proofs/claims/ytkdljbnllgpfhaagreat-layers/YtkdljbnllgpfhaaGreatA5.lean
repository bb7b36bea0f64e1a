import Derived.Test.YtkdljbnllgpfhaaGreatA4
import Derived.Conc.Own4
import Derived.Conc.Own2
set_option maxRecDepth 100000
set_option maxHeartbeats 8000000
open Array renaming getElem?_setIfInBounds_ne→als,getElem?_setIfInBounds_self_of_lt→alC,getElem?_eq_some_iff→ad3,empty_append→aqg,mem_of_getElem?→arF
open Go.Operand renaming tmp→apH,func→arp
open Go.Ground renaming data→apI,chain→arD,phase→apK
open Go renaming Goroutine→aqi,Frame→aoz,World→aly,Value→aad,FuncId→alB,Trace→ap8,Program→alu,Oper→apy
open Go.Conc renaming stepG_region_end→apQ,stepG_region→apR,aside_setCell→aru,G→arv,offersAt_parked_recv→arw,getElem?_stand→arx,finishComm_recv→arE,offersAt_parked_recv'→arI,offersAt_parked_send→arJ,stepG_seq→apU,partners_one→arS,partners_nil→arT,stepG_defer→arU
open Go.Code renaming region→apN
open Option renaming ne_none_iff_exists'→apO
open List renaming getElem?_eq_getElem→arn,not_mem_nil→aqm,mem_cons→ap9,mem_toArray→arA,getD_eq_getElem?_getD→arB,getElem?_eq_some_iff→apT,length_append→ap2,flatMap_cons→arH
open Go.Callee renaming value→aro
open Option.some renaming inj→alN,injEq→apx
open Go.Frame renaming enter→ao7
open Go.ConcN.Mode renaming retag→arq,last→ars,reg→arO,opn→arP
open Go.Goroutine.mk renaming injEq→apf
open Go.Conc.Goes renaming cases→art,rely→aqM
open Nat renaming succ_pos→ary,eq_zero_or_pos→arG,zero_add→arN,le_of_eq→aqX,zero_le→arQ,le_refl→agl
open Ne renaming symm→arz
open Go.MemAct renaming ofEvent→apS
open Classical renaming em→arj
open Go.Region renaming wanted→apY
open Go.World renaming setChan→arC,cell?→alH
open Go.Op renaming move→ap1,load→aqv,call→aqw,defer→arV
open Go.ConcN renaming Vc→aq0,Mode→aqS,cell_of_block→arW
open Go.GStep renaming after→aoS
open Go.Act renaming eval→aqV
open Go.Builtin renaming append_→anF
open Go.MemOp renaming ofEvents→ap6
open Go.Conc.QuitsD renaming ctl→arL
open Go.World.grownBy renaming refl→arM
open Go.CommCase.mk renaming injEq→arR
open List.cons renaming injEq→amr
open Array.mk renaming injEq→apG
section
namespace Go.Upr
open Go.Conc
open Go.ConcN (upd upd_same upd_ne sumTo WD CTag WSit RW RW.refl DWs AtR0 WgLive ShN RelBy Has RelBy.new RelBy.book Vc Vc_upd Vc_le cnt pend isOpen isW3 OpenSt bk_cell others_uncounted le_sumTo)
open Go.ConcR (KK WgAt stA smA rd wr mk DC0 Bk bk_of_mute ofEvent_loc_mark)
theorem QS{j:Nat}{D:Nat→WD}{tag:CTag}{st sm:Int}(hm:aqS j D tag st sm){i:Nat}(hi:i<j)(h5:(D i).stage=5):
  sm=0∧OpenSt j D∧((isOpen tag∧(∀vs,tag= .w2 vs→Vc j D≤vs∧1≤vs)∧st=((Vc j D+pend tag:Nat):Int)*KK)∨(isW3 tag∧1≤Vc j D∧st=((Vc j D:Nat):Int)*KK+1)):=by
 cases hm with
 |opn g1 g2 g3=>exact⟨rfl,g2,.inl ⟨g1,g3,rfl⟩⟩
 |reg g1 g2 g3=>exact⟨rfl,g2,.inr ⟨g1,g3,rfl⟩⟩
 |last L _ g2 g3 g4=>
  by_cases e:i=L
  ·subst e;omega
  ·have:=g4 i hi e;omega
 |sema g2=>have:=g2 i hi;omega
 |fin _ g2=>have:=g2 i hi;omega
section
variable{X:Pl}{W:D1}{S:nY}{gs:Array aqi}{w:aly}{t:ap8}{sl:Option (Nat×Nat)}
theorem PI.tailW(h:PI X W S gs w t)(hn:X.n+1<2147483647){i:Nat}(hi:i<S.j){g:aqi}(wD:gs[W.m+i]? =some g){d:WD}(hst:(S.D i).stage=d.stage)(hde:(S.D i).deaf=d.deaf)(iu:mS X (S.c.r i) d g w)(bW:(Go.Upr.aW S.c i).cl=true)(hrun:g.status= .running)
  (hμ: ∀ν,Wt.Lt ν (d.stage,d.fuel,.leaf)→Wt.Lt ν (S.μ i)) (ky:(S.μ i).1≠12):zy X W S gs w t sl (W.m+i):=by
 obtain⟨ety,C,x,h0,h1,h2⟩:=iu;obtain⟨st,sm,ij,dv⟩:=h.mode hi;have had:=h.added hi;have Pw:i<X.n+1:=Nat.lt_succ_of_le (h.le hi);have hVj:=Vc_le (X.n+1) S.D;have WR:=h.dW i hi;rw[hde]at WR;obtain⟨s,m,dd⟩:=d;dsimp only at hst hde hμ h2 WR;have nr:s≠1→S.tag≠ .ret:=λe=>h.LH (h.le hi) (by rw[hst];exact e);have FB: ∀w':aly,Aside X.wg w w'→C≠X.wg→ @Has C 0 x w→ @Has C 0 x w':=λw' hA hC hh=>(arW (hA.block C hC) 0).trans hh;have book: ∀ {g':aqi} {w':aly} {es:Array Event} {s' m' dd':Nat} {bB C9:Int},stepG X.P false g w= .go g' w' es→Aside X.wg w w'→WgAt X.ty X.wg w' bB C9→(∀e∈es,Bk X.wg e)→
   (∀jx e,es[jx]? =some e→(apS e).touch?=none∨0<deafBehind dd (es.extract 0 jx))→s'≤6→ @WSit ⟨ety⟩ X.P X.ty X.wg C 1 NoL NoL 0 1 x s' m' dd' g' w'→deafBehind dd es=dd'→s≤6→
   (∀cF,(cF=S.tag∨(S.tag= .blk∧cF= .w3))→(mayWake X.P g=true→g'.status= .running→cF≠ .blk)→aqS (X.n+1) (upd S.D i ⟨s',m',dd'⟩) cF bB C9)→
   (S.tag= .ret→AcqAll W.m X.n X.wg (t++ap6 (W.m+i) g.frame.fn g.frame.place es))→(s'<s∨(s'=s∧m'<m))→zy X W S gs w t sl (W.m+i):=by
  intro g' w' es s' m' dd' bB C9 hgo hA Bw sH hd hs6 hs' hdd h6 acZ vE hlt;refine h.abZ hi wD hgo hA Bw (λe he=> .Ij (sH e he)) (d':=⟨s',m',dd'⟩) ⟨ety,C,x,h0,h1,.inr ⟨hs6,hs'⟩⟩ bW (by rw[hde];exact hdd) (λ_=>?_) had acZ vE ?_ ky
  ·obtain⟨r,hr⟩:=h.rel i hi (by rw[hst];exact h6);exact⟨r,hr.book WR _ _ sH hd⟩
  ·refine hμ _ ?_;rcases hlt with e|⟨rfl,e⟩
   ·exact Wt.Xb e
   ·exact Wt.Kf e
 have idle: ∀ {g':aqi} {m':Nat},stepG X.P false g w= .go g' w #[]→ @WSit ⟨ety⟩ X.P X.ty X.wg C 1 NoL NoL 0 1 x s m' dd g' w→m'+1=m→s≤6→s≠1→zy X W S gs w t sl (W.m+i):=by
  intro g' m' hgo hs' hm h6 hs1;exact book hgo (.refl X.wg w) ij bz bz h6 hs' rfl h6 (λcF ht _=>by have:=dv.same (i:=i) m' dd;rw[hst]at this;exact this.retag ht) (λe=>absurd e (nr hs1)) (.inr ⟨rfl,by omega⟩)
 rcases h2 with⟨e7,ed,hG⟩|⟨h6,hs⟩
 · -- up to the release
  subst e7 ed;rcases art hG with dn|⟨m',rfl,hstep⟩
  ·obtain⟨_,FB,g',hgo,m₂,hk⟩:=dn w (@RW.refl ⟨ety⟩ _ _ _ _ _ _ w);refine h.abZ hi wD hgo (.refl X.wg w) ij (d':=⟨6,m₂,0⟩) (by intro e he;simp at he;subst he;exact .inl ⟨_,rfl,.inr (.inr (.inr (.inl rfl)))⟩) ⟨ety,C,x,h0,h1,.inr ⟨agl _,@WSit.k1 ⟨ety⟩ _ _ _ _ _ _ _ _ _ _ _ _ _ hk⟩⟩ bW (by rw[hde];rfl) (λ_=>⟨t.size,RelBy.new WR _ _⟩) had
    (λcF ht _=>(dv.counted Pw aj (.inl rfl) _ _).retag ht) (λe=>absurd e (nr aj)) (hμ _ (Wt.Xb bz)) ky
  ·obtain⟨g',w',es,hgo,⟨rfl,rfl⟩,jW⟩:=hstep w (@RW.refl ⟨ety⟩ _ _ _ _ _ _ w);refine h.abZ hi wD hgo (.refl X.wg w') ij (d':=⟨7,m',0⟩) bz ⟨ety,C,x,h0,h1,.inl ⟨rfl,rfl,jW⟩⟩ bW (by rw[hde];rfl) (λe=>by simp at e) had
    (λcF ht _=>by have:=dv.same (i:=i) m' 0;rw[hst]at this;exact this.retag ht) (λe=>absurd e (nr aj)) (hμ _ (Wt.Kf bz)) ky
 ·cases hs with
  |r0 h=>omega
  |k1 h=>
   rcases art h with dn|⟨m',rfl,hstep⟩
   ·obtain⟨_,g',hgo,m₂,hk⟩:=dn w (@RW.refl ⟨ety⟩ _ _ _ _ _ _ w);exact book hgo (.refl X.wg w) ij (by intro e he;simp at he;subst he;exact .inl rfl) (by intro jx e he;exact .inl (by have:=arF he;simp at this;subst this;rfl)) aj (@WSit.d1 ⟨ety⟩ _ _ _ _ _ _ _ _ _ _ _ _ _ hk) rfl aj
     (λcF ht _=>(dv.counted Pw aj (.inr rfl) _ _).retag ht) (λe=>absurd e (nr aj)) (.inl aj)
   ·obtain⟨g',w',es,hgo,⟨rfl,rfl⟩,jW⟩:=hstep w (@RW.refl ⟨ety⟩ _ _ _ _ _ _ w);exact idle hgo (@WSit.k1 ⟨ety⟩ _ _ _ _ _ _ _ _ _ _ _ _ _ jW) rfl aj aj
  |d1 h=>
   rcases art h with dn|⟨m',rfl,hstep⟩
   ·obtain⟨_,hall⟩:=dn w (@RW.refl ⟨ety⟩ _ _ _ _ _ _ w);have hc1:cnt (S.D i)=1:=by simp[cnt,hst]
    have hV1:1≤Vc (X.n+1) S.D:=by have:=le_sumTo (f:=λx=>cnt (S.D x)) Pw;simp only[Vc];omega
    have bk2: ∀e∈ #[rd (stA X.wg),wr (stA X.wg)],Bk X.wg e:=by intro e he;simp at he;rcases he with rfl|rfl<;>exact bk_cell _ _ rfl
    have df2: ∀jx e,(#[rd (stA X.wg),wr (stA X.wg)]:Array Event)[jx]? =some e→(apS e).touch?=none∨0<deafBehind 1 ((#[rd (stA X.wg),wr (stA X.wg)]:Array Event).extract 0 jx):=by
     intro jx e he
     match jx,he with
     |0,_=>exact .inr (by simp[deafBehind])
     |1,_=>exact .inr (by simp[deafBehind,rd])
     |jx+2,he=>simp at he
    have hq0: ∀q,cnt (⟨1,q,1⟩:WD)=0:=λ_=>rfl;have opq: ∀q,OpenSt (X.n+1) S.D→OpenSt (X.n+1) (upd S.D i ⟨1,q,1⟩):=λq h a ha=>by
     by_cases e:a=i
     ·subst e;rw[upd_same];simp
     ·rw[upd_ne S.D _ e];exact h a ha
    obtain⟨rfl,g2,⟨g1,g3,rfl⟩|⟨g1,g3,rfl⟩⟩:=QS dv Pw hst
    ·obtain⟨v,hv⟩: ∃v,Vc (X.n+1) S.D+pend S.tag=v+1:=⟨Vc (X.n+1) S.D+pend S.tag- 1,by omega⟩;have hvn:v<2147483647:=by
      have:pend S.tag≤1:=by unfold pend;split<;>(try split)<;>omega
      omega
     rw[hv]at ij;have ik:WgAt X.ty X.wg w (((v:Nat)+1)*KK+((0:Nat):Int)) 0:=by simpa using ij
     obtain⟨g',hgo,_,hq⟩:=hall v 0 aj hvn ik;obtain⟨q,hq⟩:=hq aj;have hv':Vc (X.n+1) (upd S.D i ⟨1,q,1⟩)+pend S.tag=v:=by have:=Vc_upd S.D (⟨1,q,1⟩:WD) Pw;have:=hq0 q;omega
     refine book hgo (aru w (stA X.wg) _) (ij.setSt _) bk2 df2 aj (@WSit.quit ⟨ety⟩ _ _ _ _ _ _ _ _ _ _ _ _ _ _ hq) rfl aj (λcF ht _=>?_) (λe=>absurd e (nr aj)) (.inl aj);have e:((v:Nat):Int)*KK+((0:Nat):Int)=((Vc (X.n+1) (upd S.D i ⟨1,q,1⟩)+pend S.tag:Nat):Int)*KK:=by rw[hv'];simp
     rw[e];exact(arP g1 (opq q g2) (λvs ev=>by have:=g3 vs ev;omega)).retag ht
    ·obtain⟨v,hv⟩: ∃v,Vc (X.n+1) S.D=v+1:=⟨Vc (X.n+1) S.D- 1,by omega⟩;rw[hv]at ij;have ik:WgAt X.ty X.wg w (((v:Nat)+1)*KK+((1:Nat):Int)) 0:=by simpa using ij
     obtain⟨g',hgo,hl,hq⟩:=hall v 1 aj aj ik;by_cases hv0:v=0
     ·subst hv0;obtain⟨m₂,hk⟩:=hl ⟨rfl,rfl⟩;refine book hgo (aru w (stA X.wg) _) (ij.setSt _) bk2 df2 aj (@WSit.d2 ⟨ety⟩ _ _ _ _ _ _ _ _ _ _ _ _ _ hk) rfl aj (λcF ht _=>?_) (λe=>absurd e (nr aj)) (.inl aj);have Dp: ∀a,a<X.n+1→a≠i→(S.D a).stage=1:=λa ha e=>by
       have c0:=others_uncounted Pw hv hc1 a ha e;have:=g2 a ha;simp only[cnt]at c0;split at c0<;>omega
      have:=ars (j:=X.n+1) (D:=upd S.D i ⟨4,m₂,1⟩) (tag:=S.tag) i g1 Pw (by rw[upd_same];simp) (λa ha e=>by rw[upd_ne S.D _ e];exact Dp a ha e);rw[upd_same]at this;exact arq (by simpa using this) ht
     ·obtain⟨q,hq⟩:=hq aj;have hv':Vc (X.n+1) (upd S.D i ⟨1,q,1⟩)=v:=by have:=Vc_upd S.D (⟨1,q,1⟩:WD) Pw;have:=hq0 q;omega
      refine book hgo (aru w (stA X.wg) _) (ij.setSt _) bk2 df2 aj (@WSit.quit ⟨ety⟩ _ _ _ _ _ _ _ _ _ _ _ _ _ _ hq) rfl aj (λcF ht _=>?_) (λe=>absurd e (nr aj)) (.inl aj);have e:((v:Nat):Int)*KK+((1:Nat):Int)=((Vc (X.n+1) (upd S.D i ⟨1,q,1⟩):Nat):Int)*KK+1:=by rw[hv'];simp
      rw[e];exact(arO g1 (opq q g2) aj).retag ht
   ·obtain⟨g',w',es,hgo,⟨rfl,rfl⟩,jW⟩:=hstep w (@RW.refl ⟨ety⟩ _ _ _ _ _ _ w);exact idle hgo (@WSit.d1 ⟨ety⟩ _ _ _ _ _ _ _ _ _ _ _ _ _ jW) rfl aj aj
  |d2 h=>
   rcases art h with dn|⟨m',rfl,hstep⟩
   ·obtain⟨_,hx⟩:=dn w (@RW.refl ⟨ety⟩ _ _ _ _ _ _ w);obtain⟨hW3,Dp,rfl,rfl⟩:=dv.isLast Pw aj;simp only[hst]at ij;obtain⟨g',hgo,m₂,hk⟩:=hx (by simpa using ij);refine book hgo (.refl X.wg w) ij (by intro e he;simp at he;subst he;exact bk_cell _ _ rfl) (by intro jx e he;match jx,he with|0,_=>exact .inr (by simp[deafBehind])|jx+1,he=>simp at he) aj (@WSit.d3 ⟨ety⟩ _ _ _ _ _ _ _ _ _ _ _ _ _ hk) rfl aj (λcF ht _=>?_) (λe=>absurd e (nr aj)) (.inl aj);have:=ars (j:=X.n+1) (D:=upd S.D i ⟨3,m₂,1⟩) (tag:=S.tag) i hW3 Pw (by rw[upd_same];simp) (λa ha e=>by rw[upd_ne S.D _ e];exact Dp a ha e);rw[upd_same]at this;exact arq (by simpa using this) ht
   ·obtain⟨g',w',es,hgo,⟨rfl,rfl⟩,jW⟩:=hstep w (@RW.refl ⟨ety⟩ _ _ _ _ _ _ w);exact idle hgo (@WSit.d2 ⟨ety⟩ _ _ _ _ _ _ _ _ _ _ _ _ _ jW) rfl aj aj
  |d3 h=>
   rcases art h with dn|⟨m',rfl,hstep⟩
   ·obtain⟨_,hx⟩:=dn w (@RW.refl ⟨ety⟩ _ _ _ _ _ _ w);obtain⟨hW3,Dp,rfl,rfl⟩:=dv.isLast Pw aj;simp only[hst]at ij;obtain⟨g',hgo,m₂,hk⟩:=hx (by simpa using ij);refine book hgo (aru w (stA X.wg) _) (ij.setSt 0) (by intro e he;simp at he;subst he;exact bk_cell _ _ rfl) (by intro jx e he;match jx,he with|0,_=>exact .inr (by simp[deafBehind])|jx+1,he=>simp at he) aj (@WSit.d4 ⟨ety⟩ _ _ _ _ _ _ _ _ _ _ _ _ _ hk) rfl aj (λcF ht _=>?_) (λe=>absurd e (nr aj)) (.inl aj);have:=ars (j:=X.n+1) (D:=upd S.D i ⟨2,m₂,1⟩) (tag:=S.tag) i hW3 Pw (by rw[upd_same];simp) (λa ha e=>by rw[upd_ne S.D _ e];exact Dp a ha e);rw[upd_same]at this;exact arq (by simpa using this) ht
   ·obtain⟨g',w',es,hgo,⟨rfl,rfl⟩,jW⟩:=hstep w (@RW.refl ⟨ety⟩ _ _ _ _ _ _ w);exact idle hgo (@WSit.d3 ⟨ety⟩ _ _ _ _ _ _ _ _ _ _ _ _ _ jW) rfl aj aj
  |d4 h=>
   rcases art h with dn|⟨m',rfl,hstep⟩
   ·obtain⟨_,hmw,hx⟩:=dn w (@RW.refl ⟨ety⟩ _ _ _ _ _ _ w);obtain⟨hW3,Dp,rfl,rfl⟩:=dv.isLast Pw aj;simp only[hst]at ij;obtain⟨g',hgo,q,hq⟩:=hx (by simpa using ij);have hrun':g'.status= .running:=by
     cases q with
     |zero=>exact absurd hq.2 aI
     |succ q=>exact hq.elim (λx=>absurd x.2 aI) (λx=>x.1)
    refine book hgo (aru w (smA X.wg) _) (ij.setSm 1) (es:=semEvents (smA X.wg)) ?_ ?_ aj (@WSit.quit ⟨ety⟩ _ _ _ _ _ _ _ _ _ _ _ _ _ _ hq) (by simp[deafBehind,semEvents]) aj ?_ (λe=>absurd e (nr aj)) (.inl aj)
    ·intro e he;simp[semEvents]at he;rcases he with rfl|rfl|rfl|rfl
     ·exact .inl rfl
     ·exact bk_cell _ _ rfl
     ·exact bk_cell _ _ rfl
     ·exact .inr (.inl rfl)
    ·intro jx e he
     match jx,he with
     |0,he=>simp[semEvents]at he;subst he;exact .inl rfl
     |1,_=>exact .inr (by simp[deafBehind,semEvents])
     |2,_=>exact .inr (by simp[deafBehind,semEvents])
     |3,he=>simp[semEvents]at he;subst he;exact .inl rfl
     |jx+4,he=>simp[semEvents]at he
    ·intro cF ht hw;have AL:=hw hmw hrun';have e3:cF= .w3:=by
      rcases ht with rfl|⟨_,rfl⟩
      ·generalize S.tag=tg at hW3 AL;cases tg<;>first|rfl|exact hW3.elim|exact absurd rfl AL
      ·rfl
     subst e3;simp only[if_true];exact .sema λa ha=>by
      by_cases e:a=i
      ·subst e;rw[upd_same]
      ·rw[upd_ne S.D _ e];exact Dp a ha e
   ·obtain⟨g',w',es,hgo,⟨rfl,rfl⟩,jW⟩:=hstep w (@RW.refl ⟨ety⟩ _ _ _ _ _ _ w);exact idle hgo (@WSit.d4 ⟨ety⟩ _ _ _ _ _ _ _ _ _ _ _ _ _ jW) rfl aj aj
  |quit hq=>
   cases m with
   |zero=>rw[hq.1]at hrun;cases hrun
   |succ q=>
    rcases hq with⟨hf,_⟩|⟨_,g',es,s6,hstep,hq⟩
    ·rw[hf]at hrun;cases hrun
    ·have sH: ∀e∈es,Bk X.wg e:=λe he=>bk_of_mute (s6 e he);have hno: ∀jx e,es[jx]? =some e→(apS e).touch?=none∨0<deafBehind dd (es.extract 0 jx):=λjx e he=> .inl (touch_mute (s6 e (arF he)));refine book (hstep w) (.refl X.wg w) ij sH hno aj (@WSit.quit ⟨ety⟩ _ _ _ _ _ _ _ _ _ _ _ _ _ _ hq) rfl aj (λcF ht _=>by have:=dv.same (i:=i) q (deafBehind dd es);rw[hst]at this;exact this.retag ht) (λe=>(h.acq e).app λop hop i' _ _=>?_) (.inr ⟨rfl,by omega⟩);obtain⟨e,he,rfl⟩:=Go.Conc.mem_ofEvents hop;exact touch_mute (s6 e he)
end
end Go.Upr
end
section
namespace Go.Upr
open Go.Conc
open Go.ConcN (upd upd_same upd_ne sumTo WD CTag WgLive ShN RelBy)
open Go.ConcR (KK WgAt stA smA)
def sq(X:Pl)(W:D1)(S:nY)(gs:Array aqi)(w:aly)(p:Nat):Prop:=
 (p=X.n+1→∃a,gs[0]? =some a∧iv X S.j (aq0 (X.n+1) S.D) S.k (dR S.c (X.n+1)) (S.c.r (X.n+1)) w a S.tag S.added S.dd S.μs S.μr)∧
 (p<S.j→∃g,gs[W.m+p]? =some g∧wG X p (S.k (p- 1)) (S.k p) (dR S.c p) (aW S.c p) (S.c.r p) w g (S.D p) (S.μ p))
section
variable{X:Pl}{W:D1}{S S':nY}{gs gs':Array aqi}{w w':aly}{t:ap8}
theorem PI.aa5(h:PI X W S gs w t)(p:Nat):sq X W S gs w p:=⟨λ_=>h.main,h.wk p⟩
theorem Zc(P:alu)(g1':aqi)(w':aly)(g:aqi):woken P default g1' w' g=g:=by
 unfold woken;have:mayWake P default=false:=rfl;rw[this];rfl
theorem wG.keep{i a b:Nat}{dR out:Ch}{r:bF}{g:aqi}{d:WD}{μ:Wt}(h:wG X i a b dR out r w g d μ)(hf:r.Fits X.P X.F w)(hf':r.Fits X.P X.F w')(hl:WgLive X.ty X.wg w→WgLive X.ty X.wg w')
  (ha:0<i→w'.heap[a]? =some dR.obj) (hb:w'.heap[b]? =some out.obj):wG X i a b dR out r w' g d μ:=by
 have:=h.stay hf hf' hl (λ_=>ha) (.inl hb) default default
 rwa [Zc]at this
theorem iv.keep{j v:Nat}{k:Nat→Nat}{dR:Ch}{r:bF}{g:aqi}{tag:CTag}{ad:Bool}{dd:Nat}{μs μr:Wt}(h:iv X j v k dR r w g tag ad dd μs μr)(hf':r.Fits X.P X.F w')(hl:WgLive X.ty X.wg w→WgLive X.ty X.wg w'):
  iv X j v k dR r w' g tag ad dd μs μr:=by
 have hr:RM X.P X.F r X.ty X.wg w w':=⟨λ_=>hf',hl⟩;have tr:=λa b c=>RM.trans (P:=X.P) (F:=X.F) (r:=r) (ty:=X.ty) (wg:=X.wg) a b c;cases h with
 |pre hj h=>exact .pre hj h
 |a1 hj h=>exact .a1 hj (aqM tr h hr)
 |a2 hj h=>exact .a2 hj (aqM tr h hr)
 |a3 hj h=>exact .a3 hj (aqM tr h hr)
 |a4 hj h=>exact .a4 hj (aqM tr h hr)
 |a5 hj h=>exact .a5 hj (aqM tr h hr)
 |spawn hq hg h=>exact .spawn hq hg h
 |recv hj hg h hp=>exact .recv hj hg h hp
 |cf hj h he=>exact .cf hj h he
 |post hj h=>exact .post hj h
 |wait eU hj hA h=>
  obtain⟨μ',h',e⟩:=h.rely v hr;rw[←e rfl];exact .wait eU hj hA h'
theorem sq.keep{p:Nat}(h:sq X W S gs w p)(ej:S'.j=S.j)(ek:S'.k=S.k)(eD:S'.D=S.D)(et:S'.tag=S.tag)(ea:S'.added=S.added)(ed:S'.dd=S.dd)(es:S'.μs=S.μs)(er:S'.c.r p=S.c.r p)
  (ei:0<p→aW S'.c (p- 1)=aW S.c (p- 1)) (eo:p<S.j→aW S'.c p=aW S.c p) (eμ:S'.μ p=S.μ p) (eμr:p=X.n+1→S'.μr=S.μr) (eg:p<S.j→gs'[W.m+p]? =gs[W.m+p]?) (eg0:p=X.n+1→gs'[0]? =gs[0]?)
  (hf:(S.c.r p).Fits X.P X.F w) (hf':(S.c.r p).Fits X.P X.F w') (hl:WgLive X.ty X.wg w→WgLive X.ty X.wg w') (ha:0<p→p<S.j→w'.heap[S.k (p- 1)]? =some (aW S.c (p- 1)).obj) (hb:p<S.j→w'.heap[S.k p]? =some (aW S.c p).obj):sq X W S' gs' w' p:=by
 refine⟨λe=>?_,λhp=>?_⟩
 ·subst e;obtain⟨a,h1,h2⟩:=h.1 rfl;refine⟨a,by rw[eg0 rfl];exact h1,?_⟩;have ein:dR S'.c (X.n+1)=dR S.c (X.n+1):=ei (ary _);rw[ej,ek,eD,et,ea,ed,es,er,ein,eμr rfl];exact h2.keep hf' hl
 ·rw[ej]at hp;obtain⟨g,h1,h2⟩:=h.2 hp;refine⟨g,by rw[eg hp];exact h1,?_⟩;rw[ek,eD,er,eo hp,eμ];rcases arG p with h0|h0
  ·subst h0;have: ∀ib d μ,wG X 0 (S.k (0- 1)) (S.k 0) ib (aW S.c 0) (S.c.r 0) w g d μ→wG X 0 (S.k (0- 1)) (S.k 0) (dR S'.c 0) (aW S.c 0) (S.c.r 0) w g d μ:=by
    intro ib d μ hs;cases hs with
    |recv hi=>omega
    |cf hi=>omega
    |work hg h ho=>exact .work hg h ho
    |send hg h ho=>exact .send hg h ho
    |dD hx h ho Fa=>exact .dD hx h ho Fa
    |shut h ho=>exact .shut h ho
    |tail h ho=>exact .tail h ho
   exact(this _ _ _ h2).keep hf hf' hl (λh=>by omega) (hb hp)
  ·rw[uf]at h2⊢;rw[ei h0];exact h2.keep hf hf' hl (λh=>ha h hp) (hb hp)
/-! ### who is parked where-/
theorem Mw{g:aqi}(h:g.offers=none)(b:Nat)(s:Bool):offersAt {g with status:= .blocked} b s= []:=by
 unfold offersAt;dsimp only;rw[h]
theorem PI.offers(h:PI X W S gs w t){x:Nat}{y:aqi}(hx:gs[x]? =some y)(b:Nat)(s:Bool):offersAt y b s= []∨
  (∃fr cs,x=0∧S.j=X.n+1∧y=parked (G fr cs) #[rcase (S.k X.n) X.z] (.recv true)∧s=false∧b=S.k X.n)∨
  (∃i fr cs,0<i∧i<S.j∧x=W.m+i∧y=parked (G fr cs) #[rcase (S.k (i- 1)) X.z] (.recv true)∧s=false∧b=S.k (i- 1))∨
  (∃i fr cs v zz,i<S.j∧x=W.m+i∧y=parked (G fr cs) #[scase (S.k i) v zz] .send∧s=true∧b=S.k i):=by
 have run:y.status= .running∨y.status= .finished→offersAt y b s= []:=λh=>offersAt_of_not_blocked (by rcases h with h|h<;>rw[h]<;>simp) b s;rcases arG x with rfl|hx0
 ·obtain⟨a,ha,hm⟩:=h.main;obtain rfl:y=a:=by rw[ha]at hx;exact(alN hx).symm
  have key: ∀ (tag:CTag) (ad:Bool) (dd:Nat) (μs μr:Wt),iv X S.j (aq0 (X.n+1) S.D) S.k (dR S.c (X.n+1)) (S.c.r (X.n+1)) w y tag ad dd μs μr→offersAt y b s= []∨(∃fr cs,S.j=X.n+1∧y=parked (G fr cs) #[rcase (S.k X.n) X.z] (.recv true)∧s=false∧b=S.k X.n):=by
   intro tag ad dd μs μr hm;rcases hm.status with hs|⟨hs,_⟩
   ·exact .inl (run (.inl hs))
   ·cases hm with
    |cf hj h he=>
     cases s with
     |true=>exact .inl (arI ..)
     |false=>
      rw[arw];by_cases e:S.k X.n=b
      ·exact .inr ⟨_,_,hj,rfl,rfl,e.symm⟩
      ·exact .inl (if_neg e)
    |wait eU hj hA hw=>
     rcases hw.status (λg w h=>(hA g w h).1)with⟨h1,_⟩|⟨_,rfl⟩
     ·exact .inl (run (.inl h1))
     ·cases hw with
      |blk hb=>exact .inl (Mw (hb w (.refl w)).2.1 b s)
    |pre _ _=>cases hs
    |a1 _ h=>rw[b_ RM.refl (λ_ _ x=>x.1) h]at hs;cases hs
    |a2 _ h=>rw[b_ RM.refl (λ_ _ x=>x.1) h]at hs;cases hs
    |a3 _ h=>rw[b_ RM.refl (λ_ _ x=>x.1) h]at hs;cases hs
    |a4 _ h=>rw[b_ RM.refl (λ_ _ x=>x.1) h]at hs;cases hs
    |a5 _ h=>rw[b_ RM.refl (λ_ _ x=>by obtain⟨_,_,rfl,_⟩:=x;rfl) h]at hs;cases hs
    |spawn _ hg _=>rw[hg.2.2.1]at hs;cases hs
    |recv _ hg _ _=>rw[hg.2.2.1]at hs;cases hs
    |post _ _=>cases hs
  rcases key _ _ _ _ _ hm with h1|⟨fr,cs,h1,h2,h3,h4⟩
  ·exact .inl h1
  ·exact .inr (.inl ⟨fr,cs,rfl,h1,h2,h3,h4⟩)
 ·by_cases hxm:x<W.m
  ·exact .inl (run (h.old x y hx0 hxm hx).status)
  ·have hlt:x<gs.size:=(ad3.1 hx).1;rw[h.size]at hlt;obtain⟨i,rfl⟩: ∃i,x=W.m+i:=⟨x- W.m,by omega⟩;have hi:i<S.j:=by omega
   obtain⟨g,hg,hs⟩:=h.wk i hi;obtain rfl:y=g:=by rw[hg]at hx;exact(alN hx).symm
   generalize S.D i=d at hs;generalize S.μ i=μ at hs;cases hs with
   |recv _ hg _ _ _=>exact .inl (run (.inl hg.2.2.1))
   |cf Km h he ho=>
    cases s with
    |true=>exact .inl (arI ..)
    |false=>
     rw[arw];by_cases e:S.k (i- 1)=b
     ·exact .inr (.inr (.inl ⟨i,_,_,Km,hi,rfl,rfl,rfl,e.symm⟩))
     ·exact .inl (if_neg e)
   |work hg _ _=>exact .inl (run (.inl hg.2.2.1))
   |send hg _ _=>exact .inl (run (.inl hg.2.2.1))
   |dD hx h ho Fa=>
    cases s with
    |false=>exact .inl (offersAt_parked_send' ..)
    |true=>
     rw[arJ];by_cases e:S.k i=b
     ·exact .inr (.inr (.inr ⟨i,_,_,_,_,hi,rfl,rfl,rfl,e.symm⟩))
     ·exact .inl (if_neg e)
   |shut _ _=>exact .inl (run (.inl rfl))
   |tail iu _=>exact .inl (run iu.status)
theorem PI.PT(h:PI X W S gs w t){a b:Nat}(ha:a<S.j)(hb:b<S.j)(e:S.k a=S.k b):a=b:=h.dp.inj a b _ _ (h.eO ha) (h.eO hb) e
theorem PI.noSend(h:PI X W S gs w t){c G:Nat}(hc:c<S.j)(hs: ∀fr cs v zz,gs[W.m+c]? ≠some (parked (arv fr cs) #[scase (S.k c) v zz] .send)∨G=W.m+c):partners (gs.setIfInBounds G ph) (S.k c) true= []:=by
 refine arT λx y Kz=>?_;rcases arx gs G x y Kz with⟨_,rfl⟩|⟨hne,hx⟩
 ·rfl
 ·rcases h.offers hx (S.k c) true with h1|⟨_,_,_,_,_,h1,_⟩|⟨_,_,_,_,_,_,_,h1,_⟩|⟨i,fr,cs,v,zz,hi,rfl,rfl,_,hk⟩
  ·exact h1
  ·cases h1
  ·cases h1
  ·obtain rfl:=h.PT hc hi hk;rcases hs fr cs v zz with h1|h1
   ·exact absurd hx h1
   ·exact absurd h1.symm hne
theorem PI.acN(h:PI X W S gs w t){c G:Nat}(hc:c<S.j)(hs: ∀fr cs,gs[gid W.m X.n (c+1)]? ≠some (parked (arv fr cs) #[rcase (S.k c) X.z] (.recv true))∨G=gid W.m X.n (c+1)):partners (gs.setIfInBounds G ph) (S.k c) false= []:=by
 refine arT λx y Kz=>?_;rcases arx gs G x y Kz with⟨_,rfl⟩|⟨hne,hx⟩
 ·rfl
 ·rcases h.offers hx (S.k c) false with h1|⟨fr,cs,rfl,hj,rfl,_,hk⟩|⟨i,fr,cs,Km,hi,rfl,rfl,_,hk⟩|⟨_,_,_,_,_,_,_,_,h1,_⟩
  ·exact h1
  ·obtain rfl:=h.PT hc aj hk;rw[u7]at hs;rcases hs fr cs with h1|h1
   ·exact absurd hx h1
   ·exact absurd h1.symm hne
  ·have e:=h.PT hc aj hk;have hle:=h.le hi;obtain rfl:i=c+1:=by omega
   rw[kN hle]at hs;rcases hs fr cs with h1|h1
   ·rw[show c+1- 1=c from rfl]at hx;exact absurd hx h1
   ·exact absurd h1.symm hne
  ·cases h1
theorem PI.Y6(h:PI X W S gs w t){c G:Nat}(hc:c<S.j){fr:aoz}{cs:List aoz}{v zz:aad}(hs:gs[W.m+c]? =some (parked (arv fr cs) #[scase (S.k c) v zz] .send))(hG:G≠W.m+c):partners (gs.setIfInBounds G ph) (S.k c) true= [(W.m+c,0)]:=by
 rw[arS (j:=W.m+c) (g:=parked (arv fr cs) #[scase (S.k c) v zz] .send) (by rw[als hG];exact hs) λx y hne Kz=>?_]
 ·rw[arJ,if_pos rfl];rfl
 ·rcases arx gs G x y Kz with⟨_,rfl⟩|⟨_,hx⟩
  ·rfl
  ·rcases h.offers hx (S.k c) true with h1|⟨_,_,_,_,_,h1,_⟩|⟨_,_,_,_,_,_,_,h1,_⟩|⟨i,fr,cs,v,zz,hi,rfl,rfl,_,hk⟩
   ·exact h1
   ·cases h1
   ·cases h1
   ·exact absurd (by rw[h.PT hc hi hk]) hne
theorem PI.Y7(h:PI X W S gs w t){c G:Nat}(hc:c<S.j){fr:aoz}{cs:List aoz}(hs:gs[gid W.m X.n (c+1)]? =some (parked (arv fr cs) #[rcase (S.k c) X.z] (.recv true)))(hG:G≠gid W.m X.n (c+1)):partners (gs.setIfInBounds G ph) (S.k c) false= [(gid W.m X.n (c+1),0)]:=by
 rw[arS (j:=gid W.m X.n (c+1)) (g:=parked (arv fr cs) #[rcase (S.k c) X.z] (.recv true)) (by rw[als hG];exact hs) λx y hne Kz=>?_]
 ·rw[arw,if_pos rfl];rfl
 ·rcases arx gs G x y Kz with⟨_,rfl⟩|⟨_,hx⟩
  ·rfl
  ·rcases h.offers hx (S.k c) false with h1|⟨fr,cs,rfl,hj,rfl,_,hk⟩|⟨i,fr,cs,Km,hi,rfl,rfl,_,hk⟩|⟨_,_,_,_,_,_,_,_,h1,_⟩
   ·exact h1
   ·obtain rfl:=h.PT hc aj hk;rw[u7]at hne;exact absurd rfl hne
   ·have e:=h.PT hc aj hk;have hle:=h.le hi;obtain rfl:i=c+1:=by omega
    rw[kN hle]at hne;exact absurd rfl hne
   ·cases h1
end
end Go.Upr
end
section
namespace Go.Proofs.YtkdljbnllgpfhaaGreat
open Go.Upr Go.Conc Go.Conc.Lib
open Go.ConcN (RW AtR0 WgLive Has)
open Go.ConcR (DC0)
section
variable{P:alu}{mb:Bool}{F:alB→Bool}{Stop:bF→aoz→List aoz→Prop}{r:bF}{c:aoz}{cs:List aoz}
theorem xp{f:alB}{fn:Func}{T:Array aad}(hf:P.funcs[f]? =some fn)(hr:fn.results= #[])(h:aK P mb F Stop r (c.finish (.tuple #[])) cs):aK P mb F Stop r ((base f).at ⟨T,[]⟩ []) (c::cs):=by
 refine aK.ctl (λw=>stepG_end) ?_;exact aK.ctl (λw=>stepG_leave rfl rfl hf (results_none hr _ P w) (events_results_none hr _ _)) h
theorem uq{b:aoz}{a:Act}{k:List Item}{ops:Array apy}{i:Nat}{rest:List Nat}{o:apy}{f:alB}{args:Array aad}(ho:ops[i]? =some o)(hw:apY o (yielded ops a.tmps)=true)(hk:b.kind≠ .early)
  (hr: ∀w,(execOp a.eval o).run P w= .ok (.enter f args) w) (he: ∀w,(execOp a.eval o).events P w #[]= #[]) (h:aK P mb F Stop r (ao7 P f args .normal) (b.at a (.inRegion ops (i::rest)::k)::cs)):
  aK P mb F Stop r (b.at a (.inRegion ops (i::rest)::k)) cs:=by
 refine .still (λw _=>⟨_,stepG_enter ho hw hk (hr w),λe h1=>?_⟩) h;have:=mem_listed h1;rw[he w]at this;simp at this
theorem kX{b:aoz}{a:Act}{k:List Item}{ops:Array apy}{i:Nat}{rest:List Nat}{o:apy}{f:alB}{fn:Func}{args:Array Operand}{ats:Array TypeId}{vals:Array aad}(ho:ops[i]? =some o)(hw:apY o (yielded ops a.tmps)=true)(hk:b.kind≠ .early)
  (hop:o.op= .call {callee:= .value (.func f),args,argTypes:=ats}) (hf:P.funcs[f]? =some fn) (hname:(fn.name== "runtime.NumGoroutine")=false) (hb:fn.body.isNone=false) (hv:args.map a.eval=vals)
  (h:aK P mb F Stop r (ao7 P f vals .normal) (b.at a (.inRegion ops (i::rest)::k)::cs)):
  aK P mb F Stop r (b.at a (.inRegion ops (i::rest)::k)) cs:=by
 subst hv;exact uq ho hw hk (λw=>run_call_body hop hf hname hb) (λw=>events_call_body hop hf hname hb _) h
theorem mA{b:aoz}{a:Act}{k:List Item}{ops:Array apy}{i:Nat}{rest:List Nat}{o:apy}{blk:Nat}{x:aad}{ety:TypeId}(ho:ops[i]? =some o)(hw:apY o (yielded ops a.tmps)=true)(hk:b.kind≠ .early)
  (hb:r.e blk=some (.cells #[x] ety (0,0))∨r.s blk=some (.cells #[x] ety (0,0)))
  (hr: ∀w:aly,w.cell? ⟨blk,0,none⟩=some x→(execOp a.eval o).run P w= .ok (.value x) w∧(execOp a.eval o).events P w #[]= #[⟨.cell ⟨blk,0,none⟩,false,false⟩])
  (h:aK P mb F Stop r (b.at (a.put o.dst x) (.inRegion ops rest::k)) cs):aK P mb F Stop r (b.at a (.inRegion ops (i::rest)::k)) cs:=by
 refine .value x ho hw hk (λw hf=>?_) h;have hc:w.heap[blk]? =some (.cells #[x] ety (0,0)):=hb.elim (hf.e _ _) (hf.s _ _);obtain⟨h1,h2⟩:=hr w (by simp[alH,hc]);refine⟨h1,λe he=>?_⟩;rw[h2]at he;simp at he;subst he;exact⟨rfl,hb.elim (λh=> .inl (.inl (by rw[h];simp))) λh=> .inr ⟨rfl,by rw[h];simp⟩⟩
noncomputable def bot:Frame:={ (default:aoz)with fn:=Tryz.prog.funcs.size,defers:= [],mode:= .panicking [goexitEntry]}
theorem baseD_kind(f:alB):(baseD f).kind≠ .early:=by unfold baseD;simp
theorem Mm{f:alB}{fn:Func}{T:Array aad}(hf:Tryz.prog.funcs[f]? =some fn)(hr:fn.results= #[]):QuitsD Tryz.prog 2 0 (G { (baseD f).at ⟨T,[]⟩ []with mode:= .returning} [bot]):=by
 refine arL (g':=G bot []) rfl (λw=>?_) ?_
 ·simp[G,stepG,unwind,doReturn,Frame.at,baseD,bot,hf,results,hr,seen,aoS,goexitEntry]
 refine arL (g':={G bot []with status:= .finished}) rfl (λw=>?_) ⟨rfl,rfl⟩;simp[G,stepG,unwind,bot,goexitEntry,Frame.catches];rfl
end
section
variable{X:Pl}{r:bF}
theorem IQ(hP:X.P=Tryz.prog)(hty:X.ty=272){f:alB}{fn:Func}{T:Array aad}(hf:Tryz.prog.funcs[f]? =some fn)(hr:fn.results= #[]){ety:TypeId}{C:Nat}{x:aad}(X_:r.tok=none)(hC:r.e C=some (.cells #[x] ety)):
  aK X.P false X.F (Lm X) r ((baseD f).at ⟨T,[dcall 151 #[.pointer (some ⟨X.wg,0,none⟩)]]⟩ []) [bot]:=by
 rw[hP];refine aK.ctl (λw=>stepG_end) ?_;refine aK.ctl (λw=>stepG_unwind_enter rfl Tryz.func151 rfl rfl) ?_;refine .stop ⟨ety,C,x,23,X_,hC,λw hw jk=>?_⟩;rw[hP,hty]at*;have:= @M4 ⟨ety⟩ Ln X.wg C 1 0 1 x ({ (baseD f).at ⟨T,[]⟩ []with mode:= .returning}) [bot] 2 Tryz.prog NQ rfl (Mm hf hr) w ⟨jk,?_⟩
 ·exact this
 ·have:=hw.e C _ hC;simp[Has,alH,this]
end
end Go.Proofs.YtkdljbnllgpfhaaGreat
end
section
namespace Go.Proofs.YtkdljbnllgpfhaaGreat
open Go.Upr Go.Conc Go.Conc.Lib
structure nM(X:Pl):Prop where
 P:X.P=Tryz.prog
 ty:X.ty=272
 item:X.Item=D_
 held:Held Tryz.prog X.F
 z:X.z=FJ
 grow: ∀i xs f f' v v',X.Pre i xs f v→f.le f'→Grown v v'→(∃w,Fit Tryz.prog X.F f' v' w)→X.Pre i xs f' v'
 dom: ∀i xs f v,X.Pre i xs f v→PH f v
abbrev FX(wg b8 b4:Nat):Deferred:={target:= .fn (.func 150) #[.pointer (some ⟨wg,0,none⟩),.pointer (some ⟨b8,0,none⟩),.pointer (some ⟨b4,0,none⟩)],args:= #[]}
abbrev FN(wg b11 b5 kI kz:Nat):Deferred:={target:= .fn (.func 153) #[.pointer (some ⟨wg,0,none⟩),.pointer (some ⟨b11,0,none⟩),.pointer (some ⟨b5,0,none⟩),.pointer (some ⟨kI,0,none⟩),.pointer (some ⟨kz,0,none⟩)],args:= #[]}
abbrev Gt:Array Oper:= #[{dst:=some 3,op:=aqv 274 (apH 1),type:=274,pos:= "pipe.go:49",after:= #[],guard:=none},
 {dst:=some 4,op:=aqv 93 (apH 2),type:=93,pos:= "pipe.go:49",after:= #[],guard:=none},
 {dst:=some 5,op:=aqw {callee:=aro (arp 152),args:= #[apH 3,apH 4],argTypes:= #[353,93]},type:=0,pos:= "pipe.go:49",after:= #[{on:=0,ground:=apI},{on:=1,ground:=apI}],guard:=none}]
abbrev Gv:Array Oper:= #[{dst:=none,op:=arV {callee:=aro (arp 151),args:= #[apH 0],argTypes:= #[272]},type:=0,pos:= "pipe.go:48",after:= #[],guard:=none}]
theorem Z3:Tryz.f150.body=some ((apN 0 Gv false).seq (apN 1 Gt false)):=rfl
theorem Na(wg b8 b4:Nat)(w:aly):stepG Tryz.prog false (G (born Tryz.prog (FX wg b8 b4)).frame []) w=
  .go (G ((baseD 150).at ⟨#[.pointer (some ⟨wg,0,none⟩),.pointer (some ⟨b8,0,none⟩),.pointer (some ⟨b4,0,none⟩),undef,undef,undef],[]⟩ [.code ((apN 0 Gv false).seq (apN 1 Gt false))]) [bot]) w #[]:=by
 have jT:=Z3;have h2:(Tryz.f150.name== "runtime.NumGoroutine")=false:=rfl;simp at h2;simp[born,stepG,unwind,callDeferred,invoke,callFunc,Tryz.func150,jT,h2,seen,aoS,G,ao7,Frame.at,baseD,bot]
section
variable{X:Pl}{e s:Nat→Option Obj}
theorem Rf(hX:nM X){k0 b8 b4:Nat}{f:Ren}{v:aly}{s0 s':aad}{xs:List dU}(h8:e b8=some (.cells #[.chan (some k0)] 274 (0,0))∨s b8=some (.cells #[.chan (some k0)] 274 (0,0)))(h4:e b4=some (.cells #[s'] 93 (0,0)))
  (hn:xs.length≤1099511627776) (hp:X.Pre 0 (xs.map dU.val) f v) (hL:gN v s0 xs) (hr:aA X.F f s0 s'):
  aK X.P false X.F (Snd X 0 k0) ⟨some (f,v),e,s⟩ (born Tryz.prog (FX X.wg b8 b4)).frame []:=by
 unfold Snd;rw[hX.P,hX.item];refine aK.ctl (λw=>Na _ _ _ w) ?_;refine aK.ctl (λw=>apU) ?_;refine aK.ctl (λw=>apR) ?_;refine aK.ctl (λw=>arU (ops:=Gv) (i:=0) rfl rfl (baseD_kind _) rfl) ?_;walk_nrm;refine aK.ctl (λw=>apQ) ?_;refine aK.ctl (λw=>apR) ?_;refine mA (blk:=b8) (x:= .chan (some k0)) (ety:=274) rfl rfl (baseD_kind _) h8 (λw c0=>⟨by simp[go_sem,c0],by simp[go_sem,c0]⟩) ?_;walk_nrm;refine mA (blk:=b4) (x:=s') (ety:=93) rfl rfl (baseD_kind _) (.inl h4) (λw c0=>⟨by simp[go_sem,c0],by simp[go_sem,c0]⟩) ?_;walk_nrm;refine kX (f:=152) (vals:= #[.chan (some k0),s']) rfl rfl (baseD_kind _) rfl Tryz.func152 rfl rfl (by simp[aqV]) ?_;refine Cy (k:=λ_=>k0) (Dn:=λ_=>Lm X) hX.held hn (hX.grow 0 _) (λT=>?_) hp hL hr;refine aK.ctl (λw=>apQ) ?_;refine xp Tryz.func152 rfl ?_;rw[Frame.iE (o:=Gt[2]) rfl];walk_nrm;refine aK.ctl (λw=>apQ) ?_;have:=IQ (X:=X) (r:=⟨none,e,s⟩) hX.P hX.ty (f:=150) (T:= #[.pointer (some ⟨X.wg,0,none⟩),.pointer (some ⟨b8,0,none⟩),.pointer (some ⟨b4,0,none⟩),.chan (some k0),s',.tuple #[]]) Tryz.func150 rfl rfl h4;rw[hX.P]at this;exact this
end
end Go.Proofs.YtkdljbnllgpfhaaGreat
end
namespace Go.Proofs.YtkdljbnllgpfhaaGreat
open Go.Upr Go.Conc
theorem Jh(t:Nat)(ht:t<5): ∀ (zs:List dU) (j:Nat) (x:dU),zs[j]? =some x→(zs.flatMap dU.cells)[j*5+t]? =x.cells[t]? :=by
 intro zs
 induction zs with
 |nil=>intro j x h;simp at h
 |cons z zs ih=>
  intro j x h;have hz:z.cells.length=5:=rfl;cases j with
  |zero=>
   simp only[List.getElem?_cons_zero,apx]at h;subst h;rw[arH,Nat.zero_mul,arN,List.getElem?_append_left aj]
  |succ j=>
   rw[List.getElem?_cons_succ]at h;rw[arH,List.getElem?_append_right aj,hz,show(j+1)*5+t- 5=j*5+t by omega];exact ih j x h
theorem wH.owns{w:aly}{s:aad}{xs:List dU}(h:wH w s xs):w.ownsRow 0 156 5 s xs.length (xs.flatMap dU.cells):=by
 refine⟨rh xs,?_⟩;rcases h with⟨rfl,rfl⟩|⟨g,cap,cur,rfl,h2,h3,h4,h5,h6,_⟩
 ·exact .inl ⟨rfl,rfl⟩
 ·exact .inr ⟨g,cap,cur,rfl,arQ _,h2,h3,h4,h5,h6⟩
theorem tU{w:aly}{s:aad}{zs:List dU}(h:w.ownsRow 0 156 5 s zs.length (zs.flatMap dU.cells)):gN w s zs:=by
 rcases h.2 with⟨rfl,h0⟩|⟨g,cap,cur,rfl,_,hg,uN,hcm,hcs,nD⟩
 ·exact .inl ⟨List.eq_nil_of_length_eq_zero h0,none,0,rfl⟩
 ·refine .inr ⟨g,0,cap,cur,156,(0,0),rfl,hg,λj x hx=>?_⟩;have hj:j<zs.length:=(apT.1 hx).1;have key: ∀t,t<5→cur[0+j*5+t]? =x.cells[t]? :=by
   intro t ht;have h1:=Jh t ht zs j x hx;rw[←nD,List.getElem?_take,if_pos aj]at h1;rw[arN];simpa using h1
  exact⟨key 0 aj,key 1 aj,key 2 aj,key 3 aj,key 4 aj⟩
theorem VN{w:aly}{s0 r0:aad}{xs ys:List dU}(hG:wH w s0 xs)(hL:gN w r0 ys)(hn:xs.length+ys.length≤1099511627776):
  ∃v' w',(anF #[93,93] 93 #[s0,r0]).run Tryz.prog w= .ok v' w'∧gN w' v' (xs++ys)∧w.grownBy w' s0.ownBlock:=by
 obtain⟨i,hi,hz0,hz1,hz2⟩:=info_parts Gj;have hown:=hG.owns;have one: ∀u∈ys.flatMap dU.cells,u.oneCell'=true:=by
  intro u hu;obtain⟨x,_,h⟩:=List.mem_flatMap.1 hu;simp only[dU.cells,ap9,aqm,or_false]at h;rcases h with rfl|rfl|rfl|rfl|rfl<;>rfl
 have wV: ∀ad cp,r0= .slice (some ad) ys.length cp→(∀j u,(ys.flatMap dU.cells)[j]? =some u→w.cell? (ad.add j)=some u)→
   ∃v' w',(anF #[93,93] 93 #[s0,r0]).run Tryz.prog w= .ok v' w'∧gN w' v' (xs++ys)∧w.grownBy w' s0.ownBlock:=by
  rintro ad cp rfl hc;obtain⟨v',w',h1,h2,h3,_⟩:=run_append_own (P:=Tryz.prog) w 0 93 93 156 i _ 5 48 xg hi hz0 hz1 hz2 rfl aj s0 xs.length _ hown ad ys.length cp _ (rh ys) hc one (by simp only[maxLen];omega) aj (arQ _);refine⟨v',w',h1,tU ?_,h3⟩;rw[ap2,List.flatMap_append];exact h2
 rcases hL with⟨rfl,ad,cp,rfl⟩|⟨b,o,cp,cc,ee,fr,rfl,hb,hc⟩
 ·cases ad with
  |some ad=>exact wV ad cp rfl (λj u hu=>by simp at hu)
  |none=>
   have h1:=run_append_owned_none (P:=Tryz.prog) w 0 93 93 156 i 5 xg hi s0 xs.length _ hown;refine⟨s0,w,?_,by rw[List.append_nil];exact tU hown,arM _ _⟩
   first|exact h1|simpa using h1
 ·refine wV ⟨b,o,none⟩ cp rfl (λj u hu=>?_);have Lc:(⟨b,o,none⟩:Addr).add j=⟨b,o+j,none⟩:=Addr.add_lit ..;rw[Lc];have hj:=(apT.1 hu).1;rw[rh]at hj;obtain⟨x,hx⟩: ∃x,ys[j/5]? =some x:=⟨_,arn aj⟩;have h1:=Jh (j % 5) (Nat.mod_lt _ aj) ys (j/5) x hx;rw[show j/5*5+j % 5=j by omega,hu]at h1;obtain⟨q0,q1,q2,q3,q4⟩:=hc (j/5) x hx;have hcell:w.cell? ⟨b,o+j,none⟩=cc[o+j]? :=by simp[alH,hb]
  rw[hcell];have:j % 5=0∨j % 5=1∨j % 5=2∨j % 5=3∨j % 5=4:=by omega
  rcases this with e|e|e|e|e<;>rw[e]at h1<;>rw[h1]
  ·rw[show o+j=o+j/5*5 by omega,q0];rfl
  ·rw[show o+j=o+j/5*5+1 by omega,q1];rfl
  ·rw[show o+j=o+j/5*5+2 by omega,q2];rfl
  ·rw[show o+j=o+j/5*5+3 by omega,q3];rfl
  ·rw[show o+j=o+j/5*5+4 by omega,q4];rfl
end Go.Proofs.YtkdljbnllgpfhaaGreat
section
namespace Go.Proofs.YtkdljbnllgpfhaaGreat
open Go.Upr Go.Conc Go.Conc.Lib
abbrev Tz:Array Oper:= #[{dst:=some 9,op:=ap1 (apH 2),type:=354,pos:= "pipe.go:68",after:= #[],guard:=none},
 {dst:=some 10,op:=aqw {callee:=aro (arp 155),args:= #[apH 9],argTypes:= #[354]},type:=93,pos:= "pipe.go:68",after:= #[{on:=0,ground:=apI}],guard:=none},
 {dst:=some 8,op:=Op.assign (apH 10),type:=93,pos:= "pipe.go:68",after:= #[{on:=1,ground:=apI},{on:=1,ground:=arD},{on:=0,ground:=apK},{on:=1,ground:=apK}],guard:=none}]
abbrev jz:Array Oper:= #[{dst:=some 11,op:=ap1 (apH 3),type:=353,pos:= "pipe.go:69",after:= #[],guard:=none},
 {dst:=some 12,op:=ap1 (apH 8),type:=93,pos:= "pipe.go:69",after:= #[],guard:=none},
 {dst:=some 13,op:=ap1 (apH 1),type:=169,pos:= "pipe.go:69",after:= #[],guard:=none},
 {dst:=some 14,op:=ap1 (apH 0),type:=171,pos:= "pipe.go:69",after:= #[],guard:=none},
 {dst:=some 15,op:=ap1 (apH 8),type:=93,pos:= "pipe.go:69",after:= #[],guard:=none},
 {dst:=some 16,op:=aqw {callee:=aro (apH 13),args:= #[apH 14,apH 15],argTypes:= #[171,93]},type:=93,pos:= "pipe.go:69",after:= #[{on:=2,ground:=apI},{on:=3,ground:=apI},{on:=4,ground:=apI}],guard:=none},
 {dst:=some 17,op:=aqw {callee:=Callee.builtin Builtin.append,args:= #[apH 12,apH 16],argTypes:= #[93,93]},type:=93,pos:= "pipe.go:69",after:= #[{on:=1,ground:=apI},{on:=5,ground:=apI},{on:=5,ground:=arD}],guard:=none},
 {dst:=some 18,op:=aqw {callee:=aro (arp 152),args:= #[apH 11,apH 17],argTypes:= #[353,93]},type:=0,pos:= "pipe.go:69",after:= #[{on:=0,ground:=apI},{on:=6,ground:=apI},{on:=6,ground:=arD}],guard:=none}]
abbrev Gu:Array Oper:= #[{dst:=none,op:=arV {callee:=aro (arp 151),args:= #[apH 0],argTypes:= #[272]},type:=0,pos:= "pipe.go:55",after:= #[],guard:=none}]
abbrev A6:Array Oper:= #[{dst:=some 5,op:=aqv 171 (apH 1),type:=171,pos:= "pipe.go:56",after:= #[],guard:=none},
 {dst:=some 6,op:=aqv 169 (apH 2),type:=169,pos:= "pipe.go:56",after:= #[],guard:=none},
 {dst:=some 7,op:=aqv 274 (apH 3),type:=274,pos:= "pipe.go:56",after:= #[],guard:=none},
 {dst:=some 8,op:=aqv 274 (apH 4),type:=274,pos:= "pipe.go:56",after:= #[],guard:=none},
 {dst:=some 9,op:=aqw {callee:=aro (arp 154),args:= #[apH 5,apH 6,apH 7,apH 8],argTypes:= #[171,169,354,353]},type:=0,pos:= "pipe.go:56",after:= #[{on:=0,ground:=apI},{on:=1,ground:=apI},{on:=2,ground:=apI},{on:=3,ground:=apI}],guard:=none}]
theorem Z2:Tryz.f153.body=some ((apN 0 Gu false).seq (apN 1 A6 false)):=rfl
theorem M_(wg b11 b5 kI kz:Nat)(w:aly):stepG Tryz.prog false (G (born Tryz.prog (FN wg b11 b5 kI kz)).frame []) w=
  .go (G ((baseD 153).at ⟨#[.pointer (some ⟨wg,0,none⟩),.pointer (some ⟨b11,0,none⟩),.pointer (some ⟨b5,0,none⟩),.pointer (some ⟨kI,0,none⟩),.pointer (some ⟨kz,0,none⟩),undef,undef,undef,undef,undef],[]⟩ [.code ((apN 0 Gu false).seq (apN 1 A6 false))]) [bot]) w #[]:=by
 have jT:=Z2;have h2:(Tryz.f153.name== "runtime.NumGoroutine")=false:=rfl;simp at h2;simp[born,stepG,unwind,callDeferred,invoke,callFunc,Tryz.func153,jT,h2,seen,aoS,G,ao7,Frame.at,baseD,bot]
abbrev yI(lay part:aad)(a b:Nat):Frame:=(base 154).at ⟨#[lay,part,.chan (some a),.chan (some b),undef,undef,undef,undef,undef,.chan (some a),undef,undef,undef,undef,undef,undef,undef,undef,undef],[]⟩ [.inRegion Tz [1,2],.code (.region 1 jz false)]
abbrev Cx(wg b11 b5 kI kz:Nat)(lay part:aad)(a b:Nat):Frame:=(baseD 153).at ⟨#[.pointer (some ⟨wg,0,none⟩),.pointer (some ⟨b11,0,none⟩),.pointer (some ⟨b5,0,none⟩),.pointer (some ⟨kI,0,none⟩),.pointer (some ⟨kz,0,none⟩),lay,part,.chan (some a),.chan (some b),undef],[dcall 151 #[.pointer (some ⟨wg,0,none⟩)]]⟩ [.inRegion A6 [4]]
def nR(F:alB→Bool)(Pre:Nat→List aad→Ren→aly→Prop)(i:Nat)(lay part:aad)(e s:Nat→Option Obj):Prop:=
 ∀ (Stop:bF→aoz→List aoz→Prop) (a:Act) (k:List Item) (cs:List aoz) (f0 f:Ren) (v0 v:aly) (s0 s':aad) (xs:List dU),
  Pre (i- 1) (xs.map dU.val) f0 v0→f0.le f→Grown v0 v→PH f v→wH v s0 xs→aA F f s0 s'→(∀ad n cp,s0= .slice (some ad) n cp→v0.heap.size≤ad.block)→
  a.eval (.tmp 13)=part→a.eval (.tmp 14)=lay→a.eval (.tmp 15)=s'→
  (∀ (f':Ren) (v':aly) (r0 r':aad) (ys:List dU),f.le f'→wH v' s0 xs→gN v' r0 ys→aA F f' r0 r'→xs.length+ys.length≤1099511627776→
   (∀ (XJ:Ren) (W_:aly),f'.le XJ→(∀ (b:Nat) (o:Obj),v'.heap[b]? =some o→some b≠s0.ownBlock→W_.heap[b]? =some o)→(∃w,Fit Tryz.prog F XJ W_ w)→Pre i ((xs++ys).map dU.val) XJ W_)→
   aK Tryz.prog false F Stop ⟨some (f',v'),e,s⟩ ((base 154).at (a.put (some 16) r') (.inRegion jz [6,7]::k)) cs)→
  aK Tryz.prog false F Stop ⟨some (f,v),e,s⟩ ((base 154).at a (.inRegion jz [5,6,7]::k)) cs
def A9(F:alB→Bool)(Pre:Nat→List aad→Ren→aly→Prop)(wg i a b:Nat)(ys:List aad)(r:bF)(fr:aoz)(cs:List aoz):Prop:=
 ∃ (e s:Nat→Option Obj) (b11 b5 kI kz:Nat) (lay part:aad),e b11=some (.cells #[lay] 171 (0,0))∧nR F Pre i lay part e s∧tq F a e s (yI lay part a b) [Cx wg b11 b5 kI kz lay part a b,bot] ys r fr cs
section
variable{X:Pl}{e s:Nat→Option Obj}
theorem Qq(hX:nM X){i a b b11 b5 kI kz:Nat}{f:Ren}{u:aly}{lay part:aad}(h11:e b11=some (.cells #[lay] 171 (0,0)))(h5:e b5=some (.cells #[part] 169 (0,0))∨s b5=some (.cells #[part] 169 (0,0)))
  (ky:e kI=some (.cells #[.chan (some a)] 274 (0,0))∨s kI=some (.cells #[.chan (some a)] 274 (0,0))) (AU:e kz=some (.cells #[.chan (some b)] 274 (0,0))∨s kz=some (.cells #[.chan (some b)] 274 (0,0)))
  (hp:nR X.F X.Pre i lay part e s):
  aK X.P false X.F (A9 X.F X.Pre X.wg i a b []) ⟨some (f,u),e,s⟩ (born Tryz.prog (FN X.wg b11 b5 kI kz)).frame []:=by
 rw[hX.P];refine aK.ctl (λw=>M_ _ _ _ _ _ w) ?_;refine aK.ctl (λw=>apU) ?_;refine aK.ctl (λw=>apR) ?_;refine aK.ctl (λw=>arU (ops:=Gu) (i:=0) rfl rfl (baseD_kind _) rfl) ?_;walk_nrm;refine aK.ctl (λw=>apQ) ?_;refine aK.ctl (λw=>apR) ?_;refine mA (blk:=b11) (x:=lay) (ety:=171) rfl rfl (baseD_kind _) (.inl h11) (λw c0=>⟨by simp[go_sem,c0],by simp[go_sem,c0]⟩) ?_;walk_nrm;refine mA (blk:=b5) (x:=part) (ety:=169) rfl rfl (baseD_kind _) h5 (λw c0=>⟨by simp[go_sem,c0],by simp[go_sem,c0]⟩) ?_;walk_nrm;refine mA (blk:=kI) (x:= .chan (some a)) (ety:=274) rfl rfl (baseD_kind _) ky (λw c0=>⟨by simp[go_sem,c0],by simp[go_sem,c0]⟩) ?_;walk_nrm;refine mA (blk:=kz) (x:= .chan (some b)) (ety:=274) rfl rfl (baseD_kind _) AU (λw c0=>⟨by simp[go_sem,c0],by simp[go_sem,c0]⟩) ?_;walk_nrm;refine kX (f:=154) (vals:= #[lay,part,.chan (some a),.chan (some b)]) rfl rfl (baseD_kind _) rfl Tryz.func154 rfl rfl (by simp[aqV]) ?_;have e1:ao7 Tryz.prog 154 #[lay,part,.chan (some a),.chan (some b)] .normal=(base 154).at ⟨#[lay,part,.chan (some a),.chan (some b),undef,undef,undef,undef,undef,undef,undef,undef,undef,undef,undef,undef,undef,undef,undef],[]⟩ [.code ((apN 0 Tz false).seq (apN 1 jz false))]:=by
  unfold ao7;rw[Tryz.func154];rfl
 rw[e1];refine aK.ctl (λw=>apU) ?_;refine aK.ctl (λw=>apR) ?_;refine aK.pure (.chan (some a)) rfl rfl (base_kind _) (λw=>by simp[go_sem]) (λw=>by simp[go_sem]) ?_;walk_nrm;refine kX (f:=155) (vals:= #[.chan (some a)]) rfl rfl (base_kind _) rfl Tryz.func155 rfl rfl (by simp[aqV]) ?_;exact CB.mono λr fr cs h=>⟨e,s,b11,b5,kI,kz,lay,part,h11,hp,h⟩
end
end Go.Proofs.YtkdljbnllgpfhaaGreat
end
section
namespace Go.Proofs.YtkdljbnllgpfhaaGreat
open Go.Upr Go.Conc Go.Conc.Lib
theorem vv:jz[6].op.operands= #[.tmp 12,.tmp 16]:=by kernel_rfl
theorem Y_{F:alB→Bool}:qd Tryz.prog F jz[6].op=true:=by
 unfold qd;rw[vv];simp[bP,iU,yL]
section
variable{X:Pl}{e s:Nat→Option Obj}
theorem Qr(hX:nM X){i a b b11 b5 kI kz:Nat}{f0 f:Ren}{v0 v:aly}{lay part s0 s':aad}{xs:List dU}(h11:e b11=some (.cells #[lay] 171 (0,0)))(hp:nR X.F X.Pre i lay part e s)
  (nj:X.Pre (i- 1) (xs.map dU.val) f0 v0) (hle:f0.le f) (hg:Grown v0 v) (hd:PH f v) (hG:wH v s0 xs) (hr:aA X.F f s0 s') (jg: ∀ad n cp,s0= .slice (some ad) n cp→v0.heap.size≤ad.block):
  aK Tryz.prog false X.F (LY Tryz.prog X.F (λ_=>b) X.Pre D_ (λ_=>Lm X) i) ⟨some (f,v),e,s⟩ ((yI lay part a b).finish s') [Cx X.wg b11 b5 kI kz lay part a b,bot]:=by
 have FH:(yI lay part a b).finish s'=(base 154).at ⟨#[lay,part,.chan (some a),.chan (some b),undef,undef,undef,undef,undef,.chan (some a),s',undef,undef,undef,undef,undef,undef,undef,undef],[]⟩ [.inRegion Tz [2],.code (.region 1 jz false)]:=rfl;rw[FH];refine aK.pure s' rfl rfl (base_kind _) (λw=>by simp[go_sem]) (λw=>by simp[go_sem]) ?_;walk_nrm;refine aK.ctl (λw=>apQ) ?_;refine aK.ctl (λw=>apR) ?_;refine aK.pure (.chan (some b)) rfl rfl (base_kind _) (λw=>by simp[go_sem]) (λw=>by simp[go_sem]) ?_;walk_nrm;refine aK.pure s' rfl rfl (base_kind _) (λw=>by simp[go_sem]) (λw=>by simp[go_sem]) ?_;walk_nrm;refine aK.pure part rfl rfl (base_kind _) (λw=>by simp[go_sem]) (λw=>by simp[go_sem]) ?_;walk_nrm;refine aK.pure lay rfl rfl (base_kind _) (λw=>by simp[go_sem]) (λw=>by simp[go_sem]) ?_;walk_nrm;refine aK.pure s' rfl rfl (base_kind _) (λw=>by simp[go_sem]) (λw=>by simp[go_sem]) ?_;walk_nrm;refine hp _ _ _ _ f0 f v0 v s0 s' xs nj hle hg hd hG hr jg rfl rfl rfl λf1 v1 r0 r' ys H4 uR hL1 hr1 hn N6=>?_;walk_nrm;refine aK.ghost (o:=jz[6]) hX.held rfl rfl (base_kind _) Y_ (ρ:=λ| .tmp 12=>s0| .tmp 16=>r0|_=>undef)
  (Q:=λu v2=>gN v2 u (xs++ys)∧∀ (b:Nat) (o:Obj),v1.heap[b]? =some o→some b≠s0.ownBlock→v2.heap[b]? =some o) ?_ (λT=>?_) ?_
 ·intro y hy;rw[vv]at hy;simp at hy;rcases hy with rfl|rfl
  ·exact hr.mono H4
  ·exact hr1
 ·obtain⟨v',w',h1,h2,h3⟩:=VN (w:=ax v1 T) uR hL1 hn;refine⟨.value v',v',w',by simp[execOp,resolve,invoke,builtin,h1],.inl rfl,h2,λb o hb hne=>?_⟩;rw[h3.block b (ad3.1 hb).1 hne];exact hb
 rintro f2 u2 u2' v2 cC KB ⟨hL2,wZ⟩;walk_nrm;refine qs λ⟨ww,Sq⟩=>?_;refine kX (f:=152) (vals:= #[.chan (some b),u2']) rfl rfl (base_kind _) rfl Tryz.func152 rfl rfl (by simp[aqV]) ?_;refine Cy (k:=λ_=>b) (Dn:=λ_=>Lm X) hX.held (by rw[ap2];exact hn) (hX.grow i _) (λT=>?_) (N6 f2 v2 cC wZ ⟨ww,Sq.tok _ _ rfl⟩) hL2 KB;refine aK.ctl (λw=>apQ) ?_;refine xp Tryz.func152 rfl ?_;rw[Frame.iE (o:=jz[7]) rfl];walk_nrm;refine aK.ctl (λw=>apQ) ?_;refine xp Tryz.func154 rfl ?_;rw[Frame.iE (o:=A6[4]) rfl];walk_nrm;refine aK.ctl (λw=>apQ) ?_;have:=IQ (X:=X) (r:=⟨none,e,s⟩) hX.P hX.ty (f:=153) (T:= #[.pointer (some ⟨X.wg,0,none⟩),.pointer (some ⟨b11,0,none⟩),.pointer (some ⟨b5,0,none⟩),.pointer (some ⟨kI,0,none⟩),.pointer (some ⟨kz,0,none⟩),lay,part,.chan (some a),.chan (some b),.tuple #[]]) Tryz.func153 rfl rfl h11;rw[hX.P]at this;exact this
theorem JM(hX:nM X)(hA: ∀i a b,X.A i a b=A9 X.F X.Pre X.wg i a b)(i a b:Nat):Recvs X.P X.F (λ_=>a) X.Pre X.Item false (i- 1) X.z (X.A i a b) (Snd X i b):=by
 unfold Snd;rw[hX.P,hX.item,hX.z,hA];refine⟨λys r fr cs h w _=>?_,λys r fr cs x h hx=>?_,λys r fr cs f v h nj=>?_⟩
 ·obtain⟨e,s,b11,b5,kI,kz,lay,part,h11,hp,h⟩:=h;exact El h w
 ·obtain⟨e,s,b11,b5,kI,kz,lay,part,h11,hp,h⟩:=h;exact(I0 hX.held h hx).mono λr fr cs h=>⟨e,s,b11,b5,kI,kz,lay,part,h11,hp,h⟩
 ·obtain⟨e,s,b11,b5,kI,kz,lay,part,h11,hp,h⟩:=h;refine I2 h (hX.dom _ _ _ _ nj) λf' v1 s0 s' xs mL hn hle hg hd hG hr jg=>?_;subst mL;exact Qr hX h11 hp nj hle hg hd hG hr jg
end
end Go.Proofs.YtkdljbnllgpfhaaGreat
end
section
namespace Go.Upr
open Go.Conc
open Go.ConcN (upd upd_same upd_ne sumTo WD CTag WgLive ShN RelBy Deaf_still)
open Go.ConcR (KK WgAt stA smA)
section
variable{X:Pl}{W:D1}{S:nY}{gs gs':Array aqi}{w w':aly}{t u:ap8}
def Ol(B:Nat)(G G':Nat)(op:MemOp):Prop:=op.act.touch?=none∧(∀m,op.act≠ .mark m)∧op.act.low B∧(op.g=G∨op.g=G')
theorem CF{B G G':Nat}(h: ∀said,¬Race said t)(hu: ∀op∈u,Ol B G G' op): ∀said,¬Race said (t++u):=by
 rintro said ⟨i,j,tX,⟨a,b,ha,hb,hc⟩,n1,n2⟩;have key: ∀l x,touchAt (t++u) l=some x→touchAt t l=some x:=by
  intro l x hx;rcases dA hx with h1|⟨op,h1,_,h3⟩
  ·exact h1
  ·rw[(hu op h1).1]at h3;cases h3
 exact h said ⟨i,j,tX,⟨a,b,key i a ha,key j b hb,hc⟩,λe=>n1 (hb_app u e),λe=>n2 (hb_app u e)⟩
theorem PI.comm'(h:PI X W S gs w t){c:Nat}(hc:c<S.j){c':o_}{μ':Nat→Wt}{μr':Wt}(hch: ∀i,i≠c→c'.ch i=S.c.ch i)(hcc:c'.ch c≠none)(hr: ∀p,p≠c→p≠c+1→c'.r p=S.c.r p)(hr2:c+1≤X.n→S.j≤c+1→c'.r (c+1)=S.c.r (c+1))
  (hit: ∀p x,(Go.Upr.aW c' c).aJ[p]? =some x→X.Item p x) (hw0:c+1=S.j→S.j≤X.n→(Go.Upr.aW c' c).rc=0∧((Go.Upr.aW c' c).cl=true→∃f v,(Go.Upr.aW c' c).pend=some (f,v)∧X.Pre c (Go.Upr.aW c' c).aJ f v)) (hg:lM X.P X.F S.k X.wg c' w') (hT:Told (gid W.m X.n) c' w' (t++u)) (hH:Handed S.k c' (t++u)) (hsz':w'.heap.size=w.heap.size) (hw:w'.heap[X.wg]? =w.heap[X.wg]?) (Xi:w'.tape=w.tape) (Xq:w'.os=w.os) (hou:w'.output=w.output)
  (hsz:gs'.size=gs.size) (WQ: ∀x,x≠W.m+c→x≠gid W.m X.n (c+1)→gs'[x]? =gs[x]?) (hμ: ∀p,p≠c→p≠c+1→μ' p=S.μ p) (hμr:c≠X.n→μr'=S.μr)
  (hS:sq X W {S with c:=c',μ:=μ',μr:=μr'} gs' w' c) (hR:sq X W {S with c:=c',μ:=μ',μr:=μr'} gs' w' (c+1))
  (hu: ∀op∈u,Ol w'.heap.size (W.m+c) (gid W.m X.n (c+1)) op) (WJ:c+1≤X.n→S.j≤c+1→∀op∈u,op.g=W.m+c)
  (abY:(c+1<S.j∨c=X.n)→(Go.Upr.aW c' c).cl=false→(if c+1≤X.n then μ' (c+1)else μr').1=12) (abX:(μ' c).1=12∨(S.μ c).1≠12):PI X W {S with c:=c',μ:=μ',μr:=μr'} gs' w' (t++u):=by
 have jk:WgLive X.ty X.wg w':=by obtain⟨st,sm,h1⟩:=h.live;exact⟨st,sm,hw.trans h1⟩
 have hle:=h.le hc;have hm:=h.m0;have hout: ∀i,i≠c→Go.Upr.aW c' i=Go.Upr.aW S.c i:=λi hi=>by unfold Go.Upr.aW;rw[hch i hi]
 have still: ∀g,Deaf (t++u) g=Deaf t g:=λg=>Deaf_still t g u λop hop=>⟨(hu op hop).2.1 _,(hu op hop).2.1 _⟩;have qJ: ∀p,sq X W {S with c:=c',μ:=μ',μr:=μr'} gs' w' p:=by
  intro p;by_cases e1:p=c
  ·subst e1;exact hS
  by_cases e2:p=c+1
  ·subst e2;exact hR
  have hg2:gid W.m X.n (c+1)=if c+1≤X.n then W.m+(c+1)else 0:=rfl
  refine(h.aa5 p).keep rfl rfl rfl rfl rfl rfl rfl (hr p e1 e2) (λh0=>hout _ aj) (λ_=>hout _ e1) (hμ p e1 e2) (λe=>hμr aj) (λhp=>WQ _ aj ?_) (λe=>WQ 0 aj ?_) (h.dp.fits p) (by have:=hg.fits p;rwa [hr p e1 e2]at this) (λ_=>jk) (λh0 hp=>?_) (λhp=>?_)
  ·have:=h.le hp;rw[hg2];split<;>omega
  ·rw[kN aj];omega
  ·by_cases e:p- 1=c
   ·omega
   ·have:=hg.chan (p- 1) _ ((hch _ e).trans (h.eO aj));exact this
  ·exact hg.chan p _ ((hch _ e1).trans (h.eO hp))
 refine h.next rfl rfl rfl hsz (λi g h0 hi hx=>?_) ((qJ (X.n+1)).1 rfl) (λi hi=>(qJ i).2 hi) (λi h1 h2=>?_) (λ_ _=>rfl) (λi=>?_) (λi hi p x hx=>?_) (λi h1 h2=>?_) hg hT hH (aqX hsz'.symm) (λz h1 h2 h3=>?_) (λop hop=>?_) (λop hop x hx=>by rw[(hu op hop).1]at hx;cases hx)
  (λop hop x hx=>by rw[(hu op hop).1]at hx;cases hx) (λop hop _=>(hu op hop).2.1 _) (λop hop=>(hu op hop).2.2.1) ((still 0).trans h.d0) (λi hi=>(still _).trans (h.dW i hi)) (λi _ _=>still _) (λi hi hs=> .inl ⟨hs,λop hop _=>(hu op hop).1⟩) (λe=>(h.acq e).app λop hop _ _ _=>(hu op hop).1) ?_ Xi Xq hou
 ·refine⟨g,?_,λ_=>rfl,λ_=>rfl⟩;rw[←hx];refine(WQ i aj ?_).symm;unfold gid;split<;>omega
 ·dsimp only;by_cases e1:i=c
  ·omega
  by_cases e2:i=c+1
  ·subst e2;exact hr2 (by have:=h.Sm;omega) h1
  exact hr i e1 e2
 ·dsimp only;by_cases e:i=c
  ·subst e;exact⟨λ_=>(h.XM i).2 hc,λ_=>hcc⟩
  ·rw[hch i e]
 ·dsimp only at hx;by_cases e:i=c
  ·subst e;exact hit p x hx
  ·rw[hout i e]at hx;exact h.items i hi p x hx
 ·dsimp only;by_cases e:i=c
  ·subst e;exact hw0 h1 h2
  ·rw[hout i e];exact h.rT i h1 h2
 ·dsimp only at h3;by_cases e:z=c
  ·subst e;exact abY h2 h3
  ·rw[hout z e]at h3;have hold:=h.mI z h1 h2 h3;unfold nu at hold⊢;dsimp only;split
   ·rename_i hz;rw[if_pos hz]at hold;by_cases e2:z+1=c
    ·subst e2;exact abX.elim id λh=>absurd hold h
    ·rw[hμ _ e2 aj];exact hold
   ·rename_i hz;rw[if_neg hz]at hold;rw[hμr (by have:=h.le h1;omega)];exact hold
 ·rcases(hu op hop).2.2.2 with e|e
  ·exact .inr ⟨c,hc,e⟩
  ·by_cases p7:c+1≤X.n
   ·by_cases hj:S.j≤c+1
    ·exact .inr ⟨c,hc,WJ p7 hj op hop⟩
    ·exact .inr ⟨c+1,by omega,by rw[e,kN p7]⟩
   ·exact .inl (by rw[e];exact if_neg p7)
 ·exact h.xf hw rfl (.inl rfl)
end
end Go.Upr
end
namespace Go.Upr
open Go.Conc
open Go.ConcN (upd upd_same upd_ne)
section
variable{P:alu}{F:alB→Bool}{k:Nat→Nat}{wg:Nat}{c:o_}{w w1:aly}{gi:Nat→Nat}{t u:ap8}
theorem bF.Sub.own{r1 r:bF}(h:bF.Sub r1 r){b:Nat}(hb:r1.Own b):r.Own b:=by
 rcases hb with hb|⟨f,v,a,hf,_⟩
 ·obtain⟨o,ho⟩:=apO.1 hb;exact .inl (by rw[h.e b o ho];simp)
 ·rw[h.tok]at hf;cases hf
theorem bF.Sub.has{r1 r:bF}(h:bF.Sub r1 r){b:Nat}(hb:r1.Has b):r.Has b:=hb.imp h.own λhb=>by rw[←h.s];exact hb
theorem bF.Sub.fits{r1 r:bF}(h:bF.Sub r1 r)(hf:r.Fits P F w):r1.Fits P F w:=
 ⟨λf v hv=>(by rw[h.tok]at hv;cases hv),λb o hb=>hf.e b o (h.e b o hb),λb o hb=>hf.s b o (by rw[←h.s];exact hb),λf v hv=>(by rw[h.tok]at hv;cases hv),λb o hb=>by rw[h.s];exact hf.alone b o (h.e b o hb)⟩
theorem lM.give(h:lM P F k wg c w){i p:Nat}{x y:Ch}{r1:bF}{f:Ren}{v:aly}(hx:c.ch i=some x)(hy:y.rc≤y.aJ.length)(hp:y.pend=some (f,v))(ht:(c.r p).tok=some (f,v))(hs:bF.Sub r1 (c.r p))(h1:w1.heap=w.heap.setIfInBounds (k i) y.obj):
  lM P F k wg ⟨upd c.r p r1,upd c.ch i (some y)⟩ w1:=by
 have hlt:k i<w.heap.size:=(ad3.1 (h.chan i x hx)).1;have hne: ∀b,b≠k i→w1.heap[b]? =w.heap[b]? :=λb hb=>by rw[h1,als λe=>hb e.symm]
 have hsz:w.heap.size≤w1.heap.size:=by rw[h1];simp
 have old: ∀j z,upd c.ch i (some y) j=some z→j≠i→c.ch j=some z:=λj z hz hj=>by rwa [upd_ne c.ch (some y) hj]at hz
 have wV: ∀j z,upd c.ch i (some y) j=some z→∃z0,c.ch j=some z0:=λj z hz=>by
  by_cases hj:j=i
  ·subst hj;exact⟨x,hx⟩
  ·exact⟨z,old j z hz hj⟩
 have wO: ∀j b,(upd c.r p r1 j).Has b→(c.r j).Has b:=λj b hb=>by
  by_cases hj:j=p
  ·subst hj;rw[upd_same]at hb;exact hs.has hb
  ·rwa [upd_ne c.r r1 hj]at hb
 have aa6: ∀j b,(upd c.r p r1 j).Own b→(c.r j).Own b:=λj b hb=>by
  by_cases hj:j=p
  ·subst hj;rw[upd_same]at hb;exact hs.own hb
  ·rwa [upd_ne c.r r1 hj]at hb
 have pg:=(h.fits p).tok f v ht;have yq: ∀a b,f a=some b→(c.r p).Own b:=λa b hab=> .inr ⟨f,v,a,ht,hab⟩;have acx: ∀a b,f a=some b→∀j,¬(upd c.r p r1 j).Has b:=by
  intro a b hab j hb;by_cases hj:j=p
  ·subst hj;rw[upd_same]at hb;obtain⟨n1,n2⟩:=(h.fits j).apart f v ht a b hab;rcases hb with(hb|⟨f',v',a',hf',_⟩)|hb
   ·obtain⟨o,ho⟩:=apO.1 hb;rw[hs.e b o ho]at n1;cases n1
   ·rw[hs.tok]at hf';cases hf'
   ·rw[hs.s]at hb;exact hb n2
  ·rw[upd_ne c.r r1 hj]at hb;exact h.sep p j b (λe=>hj e.symm) (yq a b hab) hb
 refine⟨λj=>?_,λj j' b hjj hb hb'=>h.sep j j' b hjj (aa6 j b hb) (wO j' b hb'),λj z hz=>?_,λj z hz=>?_,λj z j' hz hb=>?_,λj j' z z' hz hz' e=>?_,Nat.lt_of_lt_of_le h.Br hsz,λj hb=>h.jO j (wO j _ hb),λj z hz=>?_,λj z f' v' hz uM=>?_,λj z f' v' a b hz uM hab=>?_⟩
 ·dsimp only;by_cases hj:j=p
  ·subst hj;rw[upd_same];exact(hs.fits (h.fits j)).other (λb hb=>hne b λe=>h.free i x j hx (e▸hs.has hb)) hsz
  ·rw[upd_ne c.r r1 hj];exact(h.fits j).other (λb hb=>hne b λe=>h.free i x j hx (e▸hb)) hsz
 ·dsimp only at hz;by_cases hj:j=i
  ·subst hj;rw[upd_same]at hz;cases hz;rw[h1,alC hlt]
  ·have hz0:=old j z hz hj;rw[hne _ λe=>hj (h.inj j i z x hz0 hx e)];exact h.chan j z hz0
 ·dsimp only at hz;by_cases hj:j=i
  ·subst hj;rw[upd_same]at hz;cases hz;exact hy
  ·exact h.Sj j z (old j z hz hj)
 ·obtain⟨z0,h0⟩:=wV j z hz;exact h.free j z0 j' h0 (wO j' _ hb)
 ·obtain⟨z0,h0⟩:=wV j z hz;obtain⟨z1,Bp⟩:=wV j' z' hz';exact h.inj j j' z0 z1 h0 Bp e
 ·obtain⟨z0,h0⟩:=wV j z hz;exact h.Ab j z0 h0
 ·dsimp only at hz;by_cases hj:j=i
  ·subst hj;rw[upd_same]at hz;cases hz;rw[hp]at uM;cases uM;exact pg.other (λa b hab=>hne b λe=>h.free j x p hx (e▸ .inl (yq a b hab))) hsz
  ·have hz0:=old j z hz hj;exact(h.pend j z f' v' hz0 uM).other (λa b hab=>hne b λe=>(h.f_ j z f' v' a b hz0 uM hab).2.2.1 i x hx e.symm) hsz
 ·dsimp only at hz;by_cases hj:j=i
  ·subst hj;rw[upd_same]at hz;cases hz;rw[hp]at uM;cases uM;refine⟨acx a b hab,λe=>h.jO p (e▸ .inl (yq a b hab)),λj' z' hz' e=>?_,λj' z' XJ W_ a' hj' hz' vC ye=>?_⟩
   ·obtain⟨z0,h0⟩:=wV j' z' hz';exact h.free j' z0 p h0 (e▸ .inl (yq a b hab))
   ·have hz0:=old j' z' hz' hj';exact(h.f_ j' z' XJ W_ a' b hz0 vC ye).1 p (.inl (yq a b hab))
  ·have hz0:=old j z hz hj;obtain⟨p1,p2,p3,p4⟩:=h.f_ j z f' v' a b hz0 uM hab;refine⟨λj' hb=>p1 j' (wO j' b hb),p2,λj' z' hz'=>?_,λj' z' XJ W_ a' hj' hz' vC=>?_⟩
   ·obtain⟨z0,h0⟩:=wV j' z' hz';exact p3 j' z0 h0
   ·dsimp only at hz';by_cases hi':j'=i
    ·subst hi';rw[upd_same]at hz';cases hz';rw[hp]at vC;cases vC;intro ye;exact p1 p (.inl (yq a' b ye))
    ·exact p4 j' z' XJ W_ a' hj' (old j' z' hz' hi') vC
theorem lM.take(h:lM P F k wg c w){i p:Nat}{x y:Ch}{r1:bF}{f:Ren}{v:aly}(hx:c.ch i=some x)(hp:x.pend=some (f,v))(ho:y.obj=x.obj)(hr:y.rc=x.rc∧y.aJ=x.aJ)(hy:y.pend=none)(ht:A8 P F (c.r p) f v r1):
  lM P F k wg ⟨upd c.r p r1,upd c.ch i (some y)⟩ w:=by
 have old: ∀j z,upd c.ch i (some y) j=some z→∃z0,c.ch j=some z0∧z.obj=z0.obj∧(z.rc=z0.rc∧z.aJ=z0.aJ)∧(j≠i→z=z0)∧(j=i→z.pend=none):=by
  intro j z hz;by_cases hj:j=i
  ·subst hj;rw[upd_same]at hz;cases hz;exact⟨x,hx,ho,hr,λe=>absurd rfl e,λ_=>hy⟩
  ·rw[upd_ne c.ch (some y) hj]at hz;exact⟨z,hz,rfl,⟨rfl,rfl⟩,λ_=>rfl,λe=>absurd e hj⟩
 have pf:=λa b hab=>h.f_ i x f v a b hx hp hab;have apart: ∀a b,f a=some b→¬((c.r p).Own b∨(c.r p).s b≠none):=λa b hab hb=>(pf a b hab).1 p hb;have Ae: ∀b,r1.Own b→(c.r p).Own b∨∃a,f a=some b:=ht.own;have aiz: ∀b,r1.Has b→(c.r p).Has b∨∃a,f a=some b:=by
  rintro b (hb|hb)
  ·exact(Ae b hb).imp .inl id
  ·obtain⟨o,ho⟩:=apO.1 hb;exact .inl (.inr (by rw[ht.seen b o ho];simp))
 have wO: ∀j b,(upd c.r p r1 j).Has b→(c.r j).Has b∨(j=p∧∃a,f a=some b):=λj b hb=>by
  by_cases hj:j=p
  ·subst hj;rw[upd_same]at hb;exact(aiz b hb).imp id λh=>⟨rfl,h⟩
  ·rw[upd_ne c.r r1 hj]at hb;exact .inl hb
 have aa6: ∀j b,(upd c.r p r1 j).Own b→(c.r j).Own b∨(j=p∧∃a,f a=some b):=λj b hb=>by
  by_cases hj:j=p
  ·subst hj;rw[upd_same]at hb;exact(Ae b hb).imp id λh=>⟨rfl,h⟩
  ·rw[upd_ne c.r r1 hj]at hb;exact .inl hb
 refine⟨λj=>?_,λj j' b hjj hb hb'=>?_,λj z hz=>?_,λj z hz=>?_,λj z j' hz hb=>?_,λj j' z z' hz hz' e=>?_,h.Br,λj hb=>?_,λj z hz=>?_,λj z f' v' hz uM=>?_,λj z f' v' a b hz uM hab=>?_⟩
 ·dsimp only;by_cases hj:j=p
  ·subst hj;rw[upd_same];exact ht.fits w (h.fits j) (h.pend i x f v hx hp) apart
  ·rw[upd_ne c.r r1 hj];exact h.fits j
 ·rcases aa6 j b hb with h1|⟨e1,a,ha⟩<;>rcases wO j' b hb' with h2|⟨e2,a',ha'⟩
  ·exact h.sep j j' b hjj h1 h2
  ·exact(pf a' b ha').1 j (.inl h1)
  ·exact(pf a b ha).1 j' h2
  ·exact hjj (e1.trans e2.symm)
 ·obtain⟨z0,h0,h1,_⟩:=old j z hz;rw[h1];exact h.chan j z0 h0
 ·obtain⟨z0,h0,_,⟨h1,h2⟩,_⟩:=old j z hz;rw[h1,h2];exact h.Sj j z0 h0
 ·obtain⟨z0,h0,_⟩:=old j z hz;rcases wO j' _ hb with h1|⟨_,a,ha⟩
  ·exact h.free j z0 j' h0 h1
  ·exact(pf a _ ha).2.2.1 j z0 h0 rfl
 ·obtain⟨z0,h0,_⟩:=old j z hz;obtain⟨z1,h1,_⟩:=old j' z' hz';exact h.inj j j' z0 z1 h0 h1 e
 ·rcases wO j _ hb with h1|⟨_,a,ha⟩
  ·exact h.jO j h1
  ·exact(pf a _ ha).2.1 rfl
 ·obtain⟨z0,h0,_⟩:=old j z hz;exact h.Ab j z0 h0
 ·obtain⟨z0,h0,_,_,h3,h4⟩:=old j z hz;by_cases hj:j=i
  ·rw[h4 hj]at uM;cases uM
  ·rw[h3 hj]at uM;exact h.pend j z0 f' v' h0 uM
 ·obtain⟨z0,h0,_,_,h3,h4⟩:=old j z hz;by_cases hj:j=i
  ·rw[h4 hj]at uM;cases uM
  ·rw[h3 hj]at uM;obtain⟨p1,p2,p3,p4⟩:=h.f_ j z0 f' v' a b h0 uM hab;refine⟨λj' hb=>?_,p2,λj' z' hz'=>?_,λj' z' XJ W_ a' hj' hz' vC=>?_⟩
   ·rcases wO j' b hb with h1|⟨_,a',ha'⟩
    ·exact p1 j' h1
    ·exact p4 i x f v a' (λe=>hj e.symm) hx hp ha'
   ·obtain⟨z1,h1,_⟩:=old j' z' hz';exact p3 j' z1 h1
   ·obtain⟨z1,h1,_,_,h5,h6⟩:=old j' z' hz';by_cases hi:j'=i
    ·rw[h6 hi]at vC;cases vC
    ·rw[h5 hi]at vC;exact p4 j' z1 XJ W_ a' hj' h1 vC
end
end Go.Upr
section
namespace Go.Upr
open Go.Conc
open Go.ConcN (upd upd_same upd_ne sumTo WD CTag WgLive ShN RelBy)
open Go.ConcR (KK WgAt stA smA)
def KN(X:Pl)(S:nY)(c:Nat):List aad→bF→aoz→List aoz→Prop:=if c+1≤X.n then X.A (c+1) (S.k c) (S.k (c+1))else X.AM (S.k c)
def BAt(X:Pl)(S:nY)(c:Nat):bF→aoz→List aoz→Prop:=if c+1≤X.n then Snd X (c+1) (S.k (c+1))else BU X
theorem Gq{m n c:Nat}(h:c+1≤n):(gid m n (c+1)==0)=false:=by rw[kN h];simp
theorem kY{m n c:Nat}(h: ¬c+1≤n):gid m n (c+1)=0:=if_neg h
theorem Pl.Ok.recv{X:Pl}(ok:X.Ok){m:Nat}(S:nY){c:Nat}(hc:c≤X.n):Recvs X.P X.F (λ_=>S.k c) X.Pre X.Item (gid m X.n (c+1)==0) c X.z (KN X S c) (BAt X S c):=by
 unfold KN BAt;by_cases h:c+1≤X.n
 ·rw[if_pos h,if_pos h,Gq h];exact ok.aai (c+1) (S.k c) (S.k (c+1)) (ary _) h
 ·rw[if_neg h,if_neg h,kY h];obtain rfl:c=X.n:=by omega
  exact ok.aaj (S.k X.n)
structure Ia(X:Pl)(S:nY)(c:Nat):Prop where
 wk:c+1≤X.n→c+1<S.j∧(aW S.c (c+1)).aJ= []∧(aW S.c (c+1)).cl=false∧S.D (c+1)=⟨7,0,0⟩
 mn:c=X.n→S.j=X.n+1∧S.tag= .kd∧S.added=true∧S.dd=0∧S.μs=(0,0,.leaf)
section
variable{X:Pl}{W:D1}{S:nY}{gs gs':Array aqi}{w w':aly}{t:ap8}{c:Nat}{c':o_}{y:Ch}{μ':Nat→Wt}{μr' ν:Wt}{g':aqi}{fr:aoz}{cs:List aoz}{tr:Tr}
theorem Ia.recv(h:Ia X S c)(hj:S.j≤X.n+1)(p7:c≤X.n)(hy:c'.ch c=some y)(ho:c+1≤X.n→c'.ch (c+1)=S.c.ch (c+1))(hμ:c+1≤X.n→μ' (c+1)=(12,2*(y.aJ.length- y.rc)+1,tr))(hμr:c=X.n→μr'=(12,2*(y.aJ.length- y.rc)+1,tr))
  (hg:gs'[gid W.m X.n (c+1)]? =some g') (hr:si g' fr cs) (hw:Walk X.P (gid W.m X.n (c+1)==0) X.F (KN X S c (y.aJ.take y.rc)) tr (c'.r (c+1)) fr cs) (hp:y.cl=true→∃f v,y.pend=some (f,v)∧X.Pre c y.aJ f v):
  sq X W {S with c:=c',μ:=μ',μr:=μr'} gs' w' (c+1):=by
 have ey:aW c' c=y:=by unfold aW;rw[hy];rfl
 refine⟨λe=>?_,λhlt=>?_⟩
 ·obtain rfl:c=X.n:=by omega
  obtain⟨h1,h2,h3,h4,h5⟩:=h.mn rfl;have hn: ¬X.n+1≤X.n:=by omega
  rw[kY hn]at hg hw;unfold KN at hw;rw[if_neg hn]at hw;refine⟨g',hg,?_⟩;dsimp only;rw[h2,h3,h4,h5,hμr rfl,lR,ey];exact .recv h1 hr hw hp
 ·have hle:c+1≤X.n:=by have:c+1<S.j:=hlt;omega
  obtain⟨h1,h2,h3,h4⟩:=h.wk hle;rw[kN hle]at hg;rw[Gq hle]at hw;unfold KN at hw;rw[if_pos hle]at hw;have eo:aW c' (c+1)=aW S.c (c+1):=by unfold aW;rw[ho hle]
  refine⟨g',hg,?_⟩;dsimp only;rw[h4,hμ hle,lR,ey,eo];exact .recv (ary _) hr hw ⟨h2,h3⟩ hp
theorem Ia.ahl(h:Ia X S c)(hj:S.j≤X.n+1)(p7:c≤X.n)(hy:c'.ch c=some y)(ho:c+1≤X.n→c'.ch (c+1)=S.c.ch (c+1))(hμ:c+1≤X.n→μ' (c+1)=(12,0,.leaf))(hμr:c=X.n→μr'=(12,0,.leaf))
  (hg:gs'[gid W.m X.n (c+1)]? =some (parked (G fr cs) #[rcase (S.k c) X.z] (.recv true))) (hA:KN X S c (y.aJ.take y.rc) (c'.r (c+1)) fr cs) (he:y.rc=y.aJ.length∧y.cl=false):
  sq X W {S with c:=c',μ:=μ',μr:=μr'} gs' w' (c+1):=by
 have ey:aW c' c=y:=by unfold aW;rw[hy];rfl
 unfold KN at hA;refine⟨λe=>?_,λhlt=>?_⟩
 ·obtain rfl:c=X.n:=by omega
  obtain⟨h1,h2,h3,h4,h5⟩:=h.mn rfl;have hn: ¬X.n+1≤X.n:=by omega
  rw[kY hn]at hg;rw[if_neg hn]at hA;refine⟨_,hg,?_⟩;dsimp only;rw[h2,h3,h4,h5,hμr rfl,lR,ey];exact .cf h1 hA he
 ·have hle:c+1≤X.n:=by have:c+1<S.j:=hlt;omega
  obtain⟨h1,h2,h3,h4⟩:=h.wk hle;rw[kN hle]at hg;rw[if_pos hle]at hA;have eo:aW c' (c+1)=aW S.c (c+1):=by unfold aW;rw[ho hle]
  refine⟨_,hg,?_⟩;dsimp only;rw[h4,hμ hle,lR,ey,eo];exact .cf (ary _) hA he ⟨h2,h3⟩
theorem Ia.work(h:Ia X S c)(hj:S.j≤X.n+1)(p7:c≤X.n)(ho:c+1≤X.n→c'.ch (c+1)=S.c.ch (c+1))(hμ:c+1≤X.n→μ' (c+1)=(11,0,tr))(hμr:c=X.n→μr'=(11,0,tr))
  (hg:gs'[gid W.m X.n (c+1)]? =some (G fr cs)) (hw:Walk X.P (gid W.m X.n (c+1)==0) X.F (BAt X S c) tr (c'.r (c+1)) fr cs):
  sq X W {S with c:=c',μ:=μ',μr:=μr'} gs' w' (c+1):=by
 refine⟨λe=>?_,λhlt=>?_⟩
 ·obtain rfl:c=X.n:=by omega
  obtain⟨h1,h2,h3,h4,h5⟩:=h.mn rfl;have hn: ¬X.n+1≤X.n:=by omega
  rw[kY hn]at hg hw;unfold BAt at hw;rw[if_neg hn]at hw;refine⟨_,hg,?_⟩;dsimp only;rw[h2,h3,h4,h5,hμr rfl];exact .post h1 hw
 ·have hle:c+1≤X.n:=by have:c+1<S.j:=hlt;omega
  obtain⟨h1,h2,h3,h4⟩:=h.wk hle;rw[kN hle]at hg;rw[Gq hle]at hw;unfold BAt at hw;rw[if_pos hle]at hw;have eo:aW c' (c+1)=aW S.c (c+1):=by unfold aW;rw[ho hle]
  refine⟨_,hg,?_⟩;dsimp only;rw[h4,hμ hle,eo];exact .work (jm _ _) hw ⟨h2,h3⟩
theorem PI.cf(h:PI X W S gs w t)(hc:c<S.j)(hg:gs[gid W.m X.n (c+1)]? =some (parked (G fr cs) #[rcase (S.k c) X.z] (.recv true))):
  Ia X S c∧KN X S c ((aW S.c c).aJ.take (aW S.c c).rc) (S.c.r (c+1)) fr cs∧(aW S.c c).rc=(aW S.c c).aJ.length∧(aW S.c c).cl=false∧nu X S c=(12,0,.leaf):=by
 have hle:=h.le hc;have ado: ∀ {fr fr':aoz} {cs cs':List aoz} {a a':Nat},parked (G fr cs) #[rcase a X.z] (.recv true)=parked (G fr' cs') #[rcase a' X.z] (.recv true)→fr=fr'∧cs=cs':=by
  intro fr fr' cs cs' a a' e;simp only[parked,G,apf]at e;exact⟨e.1,e.2.1⟩
 by_cases h1:c+1≤X.n
 ·have hlt:c+1<S.j:=by
   have h2:gid W.m X.n (c+1)<gs.size:=(ad3.1 hg).1;rw[kN h1,h.size]at h2;omega
  obtain⟨g,SA,hs⟩:=h.wk (c+1) hlt;rw[kN h1,SA]at hg;have hg:=alN hg;have key: ∀d μ,wG X (c+1) (S.k (c+1- 1)) (S.k (c+1)) (dR S.c (c+1)) (Go.Upr.aW S.c (c+1)) (S.c.r (c+1)) w g d μ→X.A (c+1) (S.k c) (S.k (c+1)) ((dR S.c (c+1)).aJ.take (dR S.c (c+1)).rc) (S.c.r (c+1)) fr cs∧((dR S.c (c+1)).rc=(dR S.c (c+1)).aJ.length∧(dR S.c (c+1)).cl=false)∧((Go.Upr.aW S.c (c+1)).aJ= []∧(Go.Upr.aW S.c (c+1)).cl=false)∧d=⟨7,0,0⟩∧μ=(12,0,.leaf):=by
   intro d μ hs;subst hg;generalize pP:parked (G fr cs) #[rcase (S.k c) X.z] (.recv true)=g at hs;cases hs with
   |recv _ hr _ _ _=>rw[←pP]at hr;exact absurd hr.2.2.1 (by simp[parked])
   |cf Km h he ho=>
    obtain⟨rfl,rfl⟩:=ado pP;exact⟨h,he,ho,rfl,rfl⟩
   |work hr _ _=>rw[←pP]at hr;exact absurd hr.2.2.1 (by simp[parked])
   |send hr _ _=>rw[←pP]at hr;exact absurd hr.2.2.1 (by simp[parked])
   |dD _ _ _ _=>simp[parked,rcase,scase]at pP
   |shut _ _=>simp[parked,G]at pP
   |tail iu _=>
    rw[←pP]at iu;rcases iu.status with e|e<;>simp[parked]at e
  obtain⟨k1,k2,k3,k4,k5⟩:=key _ _ hs;exact⟨⟨λ_=>⟨hlt,k3.1,k3.2,k4⟩,λe=>by omega⟩,by unfold KN;rw[if_pos h1];exact k1,k2.1,k2.2,by unfold nu;rw[if_pos h1];exact k5⟩
 ·obtain rfl:c=X.n:=by omega
  rw[kY h1]at hg;obtain⟨a,ha,hm⟩:=h.main;rw[ha]at hg;have hg:=alN hg;have key: ∀tag ad dd μs μr,iv X S.j (aq0 (X.n+1) S.D) S.k (dR S.c (X.n+1)) (S.c.r (X.n+1)) w a tag ad dd μs μr→X.AM (S.k X.n) ((dR S.c (X.n+1)).aJ.take (dR S.c (X.n+1)).rc) (S.c.r (X.n+1)) fr cs∧((dR S.c (X.n+1)).rc=(dR S.c (X.n+1)).aJ.length∧(dR S.c (X.n+1)).cl=false)∧(S.j=X.n+1∧tag= .kd∧ad=true∧dd=0∧μs=(0,0,.leaf))∧μr=(12,0,.leaf):=by
   intro tag ad dd μs μr hm;subst hg;have hst:(parked (G fr cs) #[rcase (S.k X.n) X.z] (.recv true)).status= .blocked:=rfl;generalize pP:parked (G fr cs) #[rcase (S.k X.n) X.z] (.recv true)=g at hm hst;cases hm with
   |cf hj h he=>
    obtain⟨rfl,rfl⟩:=ado pP;exact⟨h,he,⟨hj,rfl,rfl,rfl,rfl⟩,rfl⟩
   |pre _ _=>cases hst
   |a1 _ h=>rw[b_ RM.refl (λ_ _ x=>x.1) h]at hst;cases hst
   |a2 _ h=>rw[b_ RM.refl (λ_ _ x=>x.1) h]at hst;cases hst
   |a3 _ h=>rw[b_ RM.refl (λ_ _ x=>x.1) h]at hst;cases hst
   |a4 _ h=>rw[b_ RM.refl (λ_ _ x=>x.1) h]at hst;cases hst
   |a5 _ h=>rw[b_ RM.refl (λ_ _ x=>by obtain⟨_,_,rfl,_⟩:=x;rfl) h]at hst;cases hst
   |spawn _ hg _=>rw[hg.2.2.1]at hst;cases hst
   |recv _ hg _ _=>rw[hg.2.2.1]at hst;cases hst
   |post _ _=>cases hst
   |wait eU hj hA hw=>
    rcases hw.status (λg w h=>(hA g w h).1)with⟨e,_⟩|⟨_,rfl⟩
    ·rw[e]at hst;cases hst
    ·cases hw with
     |blk hb=>
      have:=(hb w (.refl w)).2.1;simp only[parked,apf]at pP;rw[this]at pP;exact absurd pP.2.2.2.2 bz
  obtain⟨k1,k2,k3,k5⟩:=key _ _ _ _ _ hm;exact⟨⟨λe=>absurd e h1,λ_=>k3⟩,by unfold KN;rw[if_neg h1];exact k1,k2.1,k2.2,by unfold nu;rw[if_neg h1];exact k5⟩
end
end Go.Upr
end
section
namespace Go.Upr
open Go.Conc
open Go.ConcN (upd upd_same upd_ne sumTo WD CTag WgLive ShN RelBy)
open Go.ConcR (KK WgAt stA smA)
def rμ(X:Pl)(S:nY)(c:Nat)(ν:Wt):Nat→Wt:=if c+1≤X.n then upd S.μ (c+1) ν else S.μ
def rμr(X:Pl)(S:nY)(c:Nat)(ν:Wt):Wt:=if c+1≤X.n then S.μr else ν
theorem rμ_ne{X:Pl}{S:nY}{c:Nat}{ν:Wt}{x:Nat}(h:x≠c+1):rμ X S c ν x=S.μ x:=by
 unfold rμ;split
 ·exact upd_ne _ _ h
 ·rfl
theorem rμ_eq{X:Pl}{S:nY}{c:Nat}{ν:Wt}(h:c+1≤X.n):rμ X S c ν (c+1)=ν:=by unfold rμ;rw[if_pos h,upd_same]
theorem rμr_eq{X:Pl}{S:nY}{c:Nat}{ν:Wt}(h:c=X.n):rμr X S c ν=ν:=if_neg aj
theorem r12{X:Pl}{S:nY}{c:Nat}{ν:Wt}(hc:c≤X.n)(h:ν.1=12):(if c+1≤X.n then rμ X S c ν (c+1)else rμr X S c ν).1=12:=by
 split
 ·rename_i h1;rw[rμ_eq h1];exact h
 ·rw[rμr_eq aj];exact h
theorem aa4{X:Pl}{S:nY}{c:Nat}{ν x:Wt}(hc:c≤X.n)(h:ν.1=12):(if c+1≤X.n then upd (rμ X S c ν) c x (c+1)else rμr X S c ν).1=12:=by
 rw[upd_ne _ _ aj];exact r12 hc h
theorem rμr_ne{X:Pl}{S:nY}{c:Nat}{ν:Wt}(h:c≤X.n)(h':c≠X.n):rμr X S c ν=S.μr:=if_pos aj
section
variable{X:Pl}{W:D1}{S:nY}{gs gs':Array aqi}{w w':aly}{t u:ap8}{c:Nat}{sl:Option (Nat×Nat)}
theorem Cc{c':o_}{μ':Nat→Wt}{μr' ν:Wt}(p7:c≤X.n)(hlt:Wt.Lt ν (nu X S c))(hμ: ∀x,x≠c+1→μ' x=S.μ x)(hμ1:c+1≤X.n→μ' (c+1)=ν)(hr:c=X.n→μr'=ν):
  Row.Lt (X.n+4) (({S with c:=c',μ:=μ',μr:=μr'}:nY).row W.m X.n) (S.row W.m X.n):=by
 unfold nu at hlt;by_cases h1:c+1≤X.n
 ·rw[if_pos h1]at hlt;exact kv h1 rfl rfl (λx hx=>hμ x aj) (by show Wt.Lt (μ' (c+1)) _;rw[hμ1 h1];exact hlt)
 ·rw[if_neg h1]at hlt;exact IY rfl rfl (λx hx=>hμ x aj) (by show Wt.Lt μr' _;rw[hr aj];exact hlt)
theorem Told.ch{gi:Nat→Nat}{c:o_}(h:Told gi c w t)(a:Nat→Option Ch):Told gi ⟨c.r,a⟩ w t:=⟨h.clean,h.own,h.read,h.low⟩
theorem PI.comm(h:PI X W S gs w t)(hc:c<S.j){y:Ch}{μ':Nat→Wt}{μr':Wt}(hrc:y.rc≤y.aJ.length)(Xn:y.pend=(aW S.c c).pend)(hit: ∀p x,y.aJ[p]? =some x→X.Item p x)(hw0:c+1=S.j→S.j≤X.n→y.rc=0∧(y.cl=true→∃f v,y.pend=some (f,v)∧X.Pre c y.aJ f v))(hh:w'.heap=w.heap.setIfInBounds (S.k c) y.obj)(Xi:w'.tape=w.tape)(Xq:w'.os=w.os)(hou:w'.output=w.output)
  (hsz:gs'.size=gs.size) (WQ: ∀x,x≠W.m+c→x≠gid W.m X.n (c+1)→gs'[x]? =gs[x]?) (hμ: ∀p,p≠c→p≠c+1→μ' p=S.μ p) (hμr:c≠X.n→μr'=S.μr)
  (hS:sq X W {S with c:={S.c with ch:=upd S.c.ch c (some y)},μ:=μ',μr:=μr'} gs' w' c) (hR:sq X W {S with c:={S.c with ch:=upd S.c.ch c (some y)},μ:=μ',μr:=μr'} gs' w' (c+1))
  (hu: ∀op∈u,Ol w'.heap.size (W.m+c) (gid W.m X.n (c+1)) op) (WJ:c+1≤X.n→S.j≤c+1→∀op∈u,op.g=W.m+c)
  (abY:(c+1<S.j∨c=X.n)→y.cl=false→(if c+1≤X.n then μ' (c+1)else μr').1=12) (abX:(μ' c).1=12∨(S.μ c).1≠12):PI X W {S with c:={S.c with ch:=upd S.c.ch c (some y)},μ:=μ',μr:=μr'} gs' w' (t++u):=by
 have hg:=h.dp.Gw (h.eO hc) hrc Xn hh;have hsz':w'.heap.size=w.heap.size:=by rw[hh];simp
 have hne: ∀b,b≠S.k c→w'.heap[b]? =w.heap[b]? :=λb hb=>by rw[hh,als λe=>hb e.symm]
 refine h.comm' hc (λi hi=>upd_ne _ _ hi) (by dsimp only;rw[upd_same];simp) (λ_ _ _=>rfl) (λ_ _=>rfl) (λp x hx=>hit p x ?_) (λh1 h2=>?_) hg ?_ ?_ hsz' (hne _ λe=>h.dp.Ab c _ (h.eO hc) e.symm) Xi Xq hou hsz WQ hμ hμr hS hR hu WJ (λh1 h2=>abY h1 (by unfold aW at h2;dsimp only at h2;rw[upd_same]at h2;exact h2)) abX
 ·unfold aW at hx;dsimp only at hx;rw[upd_same]at hx;exact hx
 ·have e:aW {S.c with ch:=upd S.c.ch c (some y)} c=y:=by unfold aW;dsimp only;rw[upd_same];rfl
  rw[e];exact hw0 h1 h2
 ·exact(h.told.aside (w1:=w') (CF h.told.clean hu) (λop hop x hx=>by rw[(hu op hop).1]at hx;cases hx) (aqX hsz'.symm)).ch _
 ·have:Handed S.k {S.c with ch:=upd S.c.ch c (some y)} t:=by
   intro i x f v hx hp;by_cases e:i=c
   ·subst e;dsimp only at hx;rw[upd_same]at hx;cases hx;exact h.handed i _ f v (h.eO hc) (by rw[←Xn];exact hp)
   ·exact h.handed i x f v (by rw[←upd_ne S.c.ch (some y) e];exact hx) hp
  exact this.app λi x f v a b hx hp hab op hop z hz _=>by rw[(hu op hop).1]at hz;cases hz
theorem eR(g:Nat)(fn:alB)(pos:String):ap6 g fn pos #[]= #[]:=by rw[ofEvents_eq];simp
theorem PI.dD(h:PI X W S gs w t)(hc:c<S.j){fr:aoz}{cs:List aoz}{v zz:aad}(hg:gs[W.m+c]? =some (parked (G fr cs) #[scase (S.k c) v zz] .send)):
  ∃rest,X.Item (aW S.c c).aJ.length v∧aK X.P false X.F (Tw X c (S.k c) ((aW S.c c).aJ++v::rest) rest) (S.c.r c) (fr.finish undef) cs∧(aW S.c c).cl=false∧room≤(aW S.c c).aJ.length-(aW S.c c).rc∧S.D c=⟨7,0,0⟩∧S.μ c=(10,2*rest.length+2,.leaf):=by
 obtain⟨g,SA,hs⟩:=h.wk c hc;rw[SA]at hg;have hg:=alN hg;generalize S.D c=d at hs⊢;generalize S.μ c=μ at hs⊢;subst hg;generalize pP:parked (G fr cs) #[scase (S.k c) v zz] .send=g at hs;cases hs with
 |recv _ hr _ _ _=>rw[←pP]at hr;exact absurd hr.2.2.1 (by simp[parked])
 |cf _ _ _ _=>simp[parked,rcase,scase]at pP
 |work hr _ _=>rw[←pP]at hr;exact absurd hr.2.2.1 (by simp[parked])
 |send hr _ _=>rw[←pP]at hr;exact absurd hr.2.2.1 (by simp[parked])
 |dD hx KU ho hf=>
  simp only[parked,G,scase,apf,apx,Prod.mk.injEq,apG,amr,arR]at pP;obtain⟨rfl,rfl,_,_,⟨⟨_,rfl,_⟩,_⟩,_⟩:=pP;exact⟨_,hx,KU,ho,hf,rfl,rfl⟩
 |shut _ _=>simp[parked,G]at pP
 |tail iu _=>
  rw[←pP]at iu;rcases iu.status with e|e<;>simp[parked]at e
theorem tT{l:List aad}{n:Nat}(h:n<l.length):l.take (n+1)=l.take n++ [l.getD n undef]:=by
 rw[List.take_add_one,arB,arn h];rfl
theorem PI.I3(h:PI X W S gs w t)(ok:X.Ok)(hc:c<S.j)(hS:Ia X S c){g:aqi}{fr:aoz}{cs:List aoz}(hg:gs[gid W.m X.n (c+1)]? =some g)(hr:si g fr cs)(hA:KN X S c ((aW S.c c).aJ.take (aW S.c c).rc) (S.c.r (c+1)) fr cs)
  (hp:(aW S.c c).cl=true→∃f v,(aW S.c c).pend=some (f,v)∧X.Pre c (aW S.c c).aJ f v) (hν:nu X S c=(12,2*((aW S.c c).aJ.length-(aW S.c c).rc)+1,.leaf)):zy X W S gs w t sl (gid W.m X.n (c+1)):=by
 have p7:=h.le hc;have rS:=h.Sm;have hm:=h.m0;have R:=ok.recv (m:=W.m) S p7;have hch:=h.LW hc;have PV:=h.dp.Sj c _ (h.eO hc);have nI:=h.items c hc;have KE:S.k c<w.heap.size:=(ad3.1 hch).1;have zA:stepG X.P (gid W.m X.n (c+1)==0) g w= .comm (G fr cs) #[rcase (S.k c) X.z] true (.recv true) w #[]:=by rw[hr.step];exact R.comm _ _ _ _ hA w (h.dp.fits (c+1))
 have hne:gid W.m X.n (c+1)≠W.m+c:=by unfold gid;split<;>omega
 have o8:gid W.m X.n (c+1)<gs.size:=(ad3.1 hg).1;have WJ:c+1≤X.n→S.j≤c+1→∀u:ap8,∀op∈u,op.g=W.m+c:=λh1 h2=>by have:=(hS.wk h1).1;omega
 have TR:=(h.aa5 c);generalize ho:aW S.c c=o at*;have R2:S.c.ch c=some o:=by rw[←ho];exact h.eO hc
 rcases Nat.lt_or_ge o.rc o.aJ.length with hlt|hge
 ·have hsome:0<(o.aJ.drop o.rc).toArray.size:=by simp;omega
  have aaK:X.Item (o.aJ.take o.rc).length (o.aJ.getD o.rc undef):=by
   rw[List.length_take,Nat.min_eq_left aj,arB,arn hlt];exact nI _ _ (arn hlt)
  by_cases hs: ∃fr cs v zz,gs[W.m+c]? =some (parked (G fr cs) #[scase (S.k c) v zz] .send)
  · -- the parked ahg value goes in
   obtain⟨frs,dS,v,zz,WQ⟩:=hs;obtain⟨rest,hx,⟨ts,hws⟩,bW,hf,hD,hμs⟩:=h.dD hc WQ;rw[ho]at hx hws bW hf;have hrun:=xM (P:=X.P) (sl:=sl) hg zA (show w.heap[S.k c]? =some (.chan room (o.aJ.drop o.rc).toArray o.cl o.aJ.length o.rc o.tm)from hch) hsome (arz hne) WQ (h.Y6 hc WQ hne);rw[eR,Ch.Je,arE,finishComm_send]at hrun;obtain⟨tr,hwr⟩:=R.val _ _ _ _ _ hA aaK;have eo:=Ch.Mx (h:=o) (v:=v) hlt;refine⟨{S with c:={S.c with ch:=upd S.c.ch c (some {o with aJ:=o.aJ++ [v],rc:=o.rc+1})},μ:=upd (rμ X S c (12,2*((o.aJ++ [v]).length-(o.rc+1))+1,tr)) c (10,2*rest.length+1,ts),μr:=rμr X S c (12,2*((o.aJ++ [v]).length-(o.rc+1))+1,tr)},_,_,_,hrun,?_,?_⟩
   ·refine h.comm hc (y:={o with aJ:=o.aJ++ [v],rc:=o.rc+1}) lq (by rw[ho]) (vZ nI hx) (λh1 h2=>absurd (hS.wk aj).1 aj) (by rw[eo];rfl) rfl rfl rfl bz (λx h1 h2=>?_) (λp h1 h2=>?_) (λe=>rμr_ne p7 e) ?_ ?_ (λop hop=>?_) (λh1 h2 op hop=>WJ h1 h2 _ op hop) (λ_ _=>aa4 p7 rfl) (.inr (by rw[hμs];simp))
    ·rw[als (arz h2),als (arz h1)]
    ·rw[upd_ne _ _ h1,rμ_ne h2]
    ·refine⟨λe=>by omega,λhp=>⟨Go.Conc.served (G frs dS) undef,?_,?_⟩⟩
     ·rw[als hne,alC (ad3.1 WQ).1]
     ·dsimp only;have e1:aW ({S.c with ch:=upd S.c.ch c (some {o with aJ:=o.aJ++ [v],rc:=o.rc+1})}:o_) c={o with aJ:=o.aJ++ [v],rc:=o.rc+1}:=by unfold aW;dsimp only;rw[upd_same];rfl
      rw[e1,hD,upd_same];exact .send (mD _ _ _) (by dsimp only;rw[List.append_assoc];exact hws) bW
    ·refine hS.recv rS p7 (upd_same _ _ _) (λ_=>upd_ne _ _ aj) (λh1=>?_) (λh1=>rμr_eq h1) (by rw[alC (by simpa using o8)]) (mD _ _ _) (tr:=tr) ?_ (λe=>?_)
     ·rw[upd_ne _ _ aj,rμ_eq h1]
     ·dsimp only;rw[List.take_append_of_le_length aj,tT hlt];exact hwr
     ·dsimp only at e;rw[bW]at e;cases e
    ·simp only[arA,ap9,aqm,or_false,aqg]at hop;have hb:S.k c<(w.setChan (S.k c) room (((o.aJ.drop o.rc).toArray.extract 1 (o.aJ.drop o.rc).toArray.size).push v) o.cl (o.aJ.length+1) (o.rc+1) o.tm).heap.size:=by simp[arC];exact KE
     rcases hop with rfl|rfl|rfl|rfl<;>refine⟨rfl,by simp,hb,?_⟩<;>first|exact .inr rfl|exact .inl rfl
   ·exact kv p7 rfl rfl (λx hx=>by dsimp only;rw[upd_ne _ _ aj,rμ_ne aj]) (by dsimp only;rw[upd_same,hμs];exact Wt.Kf aj)
  · -- out of the buffer
   have hno:=h.noSend (G:=gid W.m X.n (c+1)) hc (λfr cs v zz=> .inl λe=>hs ⟨fr,cs,v,zz,e⟩);have hrun:=crowd_recv_buf (P:=X.P) (sl:=sl) hg zA (show w.heap[S.k c]? =some (.chan room (o.aJ.drop o.rc).toArray o.cl o.aJ.length o.rc o.tm)from hch) hsome hno;rw[eR,Ch.Je,arE]at hrun;obtain⟨tr,hwr⟩:=R.val _ _ _ _ _ hA aaK;have eo:=Ch.I8 (h:=o);refine⟨{S with c:={S.c with ch:=upd S.c.ch c (some {o with rc:=o.rc+1})},μ:=rμ X S c (12,2*(o.aJ.length-(o.rc+1))+1,tr),μr:=rμr X S c (12,2*(o.aJ.length-(o.rc+1))+1,tr)},_,_,_,hrun,?_,?_⟩
   ·refine h.comm hc (y:={o with rc:=o.rc+1}) lq (by rw[ho]) nI (λh1 h2=>absurd (hS.wk aj).1 aj) (by rw[eo];rfl) rfl rfl rfl bz (λx h1 h2=>?_) (λp h1 h2=>?_) (λe=>rμr_ne p7 e) ?_ ?_ (λop hop=>?_) (λh1 h2 op hop=>WJ h1 h2 _ op hop) (λ_ _=>r12 p7 rfl) (by rw[rμ_ne aj];exact arj _)
    ·rw[als (arz h2)]
    ·exact rμ_ne h2
    ·refine⟨λe=>by omega,λ_=>?_⟩;obtain⟨gw,RZ,sS⟩:=TR.2 hc;refine⟨gw,by rw[als hne];exact RZ,?_⟩;have e1:aW ({S.c with ch:=upd S.c.ch c (some {o with rc:=o.rc+1})}:o_) c={o with rc:=o.rc+1}:=by unfold aW;dsimp only;rw[upd_same];rfl
     dsimp only;have e2:rμ X S c (12,2*(o.aJ.length-(o.rc+1))+1,tr) c=S.μ c:=rμ_ne aj;rw[e1,e2];rw[ho]at sS;have e3:0<c→dR ({S.c with ch:=upd S.c.ch c (some {o with rc:=o.rc+1})}:o_) c=dR S.c c:=λh0=>by unfold dR;dsimp only;rw[upd_ne _ _ aj]
     have agx:=(h.dp.Gw (h.eO hc) (y:={o with rc:=o.rc+1}) lq (by rw[ho]) (show(w.setChan (S.k c) room ((o.aJ.drop o.rc).toArray.extract 1 (o.aJ.drop o.rc).toArray.size) o.cl o.aJ.length (o.rc+1) o.tm).heap=_ by rw[eo];rfl)).fits c
     have hlv:WgLive X.ty X.wg w→WgLive X.ty X.wg (w.setChan (S.k c) room ((o.aJ.drop o.rc).toArray.extract 1 (o.aJ.drop o.rc).toArray.size) o.cl o.aJ.length (o.rc+1) o.tm):=λ⟨st,sm,hw⟩=>⟨st,sm,by
      have:X.wg≠S.k c:=λe=>h.dp.Ab c _ (h.eO hc) e.symm
      unfold WgAt arC;dsimp only;rw[als (arz this)];exact hw⟩
     generalize S.D c=d at sS⊢;generalize S.μ c=μ at sS⊢;cases sS with
     |recv hi hgr hw m_ Nw=>rw[e3 hi];exact .recv hi hgr hw m_ Nw
     |cf hi hA' he m_=>rw[e3 hi];exact .cf hi hA' he m_
     |work hgr hw m_=>exact .work hgr hw m_
     |send hgr hw m_=>exact .send hgr hw m_
     |dD hx KU m_ hf=>exact absurd ⟨_,_,_,_,RZ⟩ hs
     |shut hw m_=>exact .shut hw m_
     |tail iu m_=>exact .tail (iu.stay (h.dp.fits c) agx hlv) m_
    ·refine hS.recv rS p7 (upd_same _ _ _) (λ_=>upd_ne _ _ aj) (λh1=>?_) (λh1=>rμr_eq h1) (by rw[alC o8]) (mD _ _ _) (tr:=tr) ?_ (λe=>?_)
     ·exact rμ_eq h1
     ·dsimp only;rw[tT hlt];exact hwr
     ·exact hp e
    ·simp only[arA,ap9,aqm,or_false,aqg]at hop;have hb:S.k c<(w.setChan (S.k c) room ((o.aJ.drop o.rc).toArray.extract 1 (o.aJ.drop o.rc).toArray.size) o.cl o.aJ.length (o.rc+1) o.tm).heap.size:=by simp[arC];exact KE
     rcases hop with rfl|rfl<;>exact⟨rfl,by simp,hb,.inr rfl⟩
   ·exact Cc p7 (by rw[hν];exact Wt.Kf aj) (λx hx=>rμ_ne hx) (λh1=>rμ_eq h1) (λh1=>rμr_eq h1)
 ·have hend:o.rc=o.aJ.length:=by omega
  have Yi:(o.aJ.drop o.rc).toArray= #[]:=by rw[hend];simp
  have ahO: ∀fr cs v zz,gs[W.m+c]? ≠some (parked (G fr cs) #[scase (S.k c) v zz] .send):=λfr cs v zz e=>by
   obtain⟨_,_,_,_,hf,_⟩:=h.dD hc e;rw[ho,hend]at hf;simp[room]at hf
  have hno:=h.noSend (G:=gid W.m X.n (c+1)) hc (λfr cs v zz=> .inl (ahO fr cs v zz));have ahz:o.aJ.take o.rc=o.aJ:=by rw[hend];exact List.take_length
  cases bW:o.cl with
  |true=>
   obtain⟨f,v,Xn,yh⟩:=hp bW;have WT:w.heap[S.k c]? =some (.chan room #[] true o.aJ.length o.rc o.tm):=by rw[hch];unfold Ch.obj;rw[Yi,bW]
   have hrun:=crowd_recv_closed (P:=X.P) (sl:=sl) hg zA WT hno;rw[eR,arE]at hrun;obtain⟨r',hti,tr,hwr⟩:=R.fin _ _ _ _ f v hA (by rw[ahz];exact yh);have TS:Deaf t (gid W.m X.n (c+1))=0:=by
    by_cases h1:c+1≤X.n
    ·rw[kN h1,h.dW (c+1) (hS.wk h1).1,(hS.wk h1).2.2.2]
    ·rw[kY h1,h.d0,(hS.mn aj).2.2.2.1]
   have C3:=h.dp.take (p:=c+1) (y:={o with pend:=none}) R2 Xn rfl ⟨rfl,rfl⟩ rfl hti;refine⟨{S with c:=⟨upd S.c.r (c+1) r',upd S.c.ch c (some {o with pend:=none})⟩,μ:=rμ X S c (11,0,tr),μr:=rμr X S c (11,0,tr)},_,_,_,hrun,?_,?_⟩
   ·have hu: ∀op∈(#[]++ #[({g:=gid W.m X.n (c+1),fn:=(G fr cs).frame.fn,pos:=(G fr cs).frame.place,act:= .recvClosed (S.k c)}:MemOp)]:ap8),Ol w.heap.size (W.m+c) (gid W.m X.n (c+1)) op:=by
     intro op hop;simp only[arA,ap9,aqm,or_false,aqg]at hop;subst hop;exact⟨rfl,by simp,KE,.inr rfl⟩
    refine h.comm' hc (λi hi=>upd_ne _ _ hi) (by dsimp only;rw[upd_same];simp) (λp _ h2=>upd_ne _ _ h2) (λh1 h2=>absurd (hS.wk h1).1 aj) (λp x hx=>nI p x (by unfold aW at hx;dsimp only at hx;rw[upd_same]at hx;exact hx)) (λh1 h2=>absurd (hS.wk aj).1 aj) C3 ?_ ?_ rfl rfl rfl rfl rfl bz (λx h1 h2=>?_) (λp h1 h2=>rμ_ne h2) (λe=>rμr_ne p7 e) ?_ ?_ hu (λh1 h2 op hop=>WJ h1 h2 _ op hop) (λ_ h2=>by unfold aW at h2;dsimp only at h2;rw[upd_same]at h2;rw[show o.cl=false from h2]at bW;cases bW) (by rw[rμ_ne aj];exact arj _)
    ·obtain⟨p,op,i1,i2,i3,i4⟩:=h.handed c o f v R2 Xn;have kn: ∀a b,f a=some b→Kn (t++(#[]++ #[({g:=gid W.m X.n (c+1),fn:=(G fr cs).frame.fn,pos:=(G fr cs).frame.place,act:= .recvClosed (S.k c)}:MemOp)])) (gid W.m X.n (c+1)) b:=by
      intro a b hab j x hx hl;rw[aqg]at hx⊢;have hk:=GQ (g:=gid W.m X.n (c+1)) (y:={g:=gid W.m X.n (c+1),fn:=(G fr cs).frame.fn,pos:=(G fr cs).frame.place,act:= .recvClosed (S.k c)}) i1 i2 i3 rfl rfl TS;rcases dA hx with h5|⟨Xa,h5,_,h6⟩
      ·exact Knows.of_before ((i4 a b hab j x h5 hl).app _) hk
      ·rw[(hu Xa (by rw[aqg];exact h5)).1]at h6;cases h6
     have base:=(h.told.aside (w1:=w) (CF h.told.clean hu) (λop hop x hx=>by rw[(hu op hop).1]at hx;cases hx) (agl _));refine⟨base.clean,λi b hb=>?_,λi b hb=>?_,base.low⟩
     ·dsimp only at hb;by_cases e:i=c+1
      ·subst e;rw[upd_same]at hb;rcases hti.own b hb with h1|⟨a,ha⟩
       ·exact base.own _ b h1
       ·exact kn a b ha
      ·rw[upd_ne _ _ e]at hb;exact base.own i b hb
     ·dsimp only at hb;by_cases e:i=c+1
      ·subst e;rw[upd_same]at hb;obtain⟨oo,hoo⟩:=apO.1 hb;exact base.read _ b (by rw[hti.seen b oo hoo];simp)
      ·rw[upd_ne _ _ e]at hb;exact base.read i b hb
    ·have:Handed S.k ⟨upd S.c.r (c+1) r',upd S.c.ch c (some {o with pend:=none})⟩ t:=by
      intro i x f' v' hx RV;by_cases e:i=c
      ·subst e;dsimp only at hx;rw[upd_same]at hx;cases hx;cases RV
      ·exact h.handed i x f' v' (by rw[←upd_ne S.c.ch (some {o with pend:=none}) e];exact hx) RV
     exact this.app λi x f v a b hx hp hab op hop z hz _=>by rw[(hu op hop).1]at hz;cases hz
    ·rw[als (arz h2)]
    ·refine⟨λe=>by omega,λ_=>?_⟩;obtain⟨gw,RZ,sS⟩:=TR.2 hc;refine⟨gw,by rw[als hne];exact RZ,?_⟩;have e1:aW (⟨upd S.c.r (c+1) r',upd S.c.ch c (some {o with pend:=none})⟩:o_) c={o with pend:=none}:=by unfold aW;dsimp only;rw[upd_same];rfl
     have e3:0<c→dR (⟨upd S.c.r (c+1) r',upd S.c.ch c (some {o with pend:=none})⟩:o_) c=dR S.c c:=λh0=>by unfold dR;dsimp only;rw[upd_ne _ _ aj]
     have e4:upd S.c.r (c+1) r' c=S.c.r c:=upd_ne _ _ aj;dsimp only;rw[e1,rμ_ne aj,e4];rw[ho]at sS;generalize S.D c=d at sS⊢;generalize S.μ c=μ at sS⊢;cases sS with
     |recv hi hgr hw m_ Nw=>rw[bW]at m_;exact absurd m_.2 bz
     |cf hi hA' he m_=>rw[bW]at m_;exact absurd m_.2 bz
     |work hgr hw m_=>rw[bW]at m_;exact absurd m_.2 bz
     |send hgr hw m_=>rw[bW]at m_;cases m_
     |dD hx KU m_ hf=>rw[bW]at m_;cases m_
     |shut hw m_=>exact .shut hw m_
     |tail iu m_=>exact .tail iu m_
    ·exact hS.work rS p7 (λ_=>upd_ne _ _ aj) (λh1=>rμ_eq h1) (λh1=>rμr_eq h1) (by rw[alC o8];rfl) (by dsimp only;rw[upd_same];exact hwr)
   ·exact Cc p7 (by rw[hν];exact Wt.Xb aj) (λx hx=>rμ_ne hx) (λh1=>rμ_eq h1) (λh1=>rμr_eq h1)
  |false=>
   have WT:w.heap[S.k c]? =some (.chan room #[] false o.aJ.length o.rc o.tm):=by rw[hch];unfold Ch.obj;rw[Yi,bW]
   have hrun:=crowd_waits (P:=X.P) (sl:=sl) hg zA (λcc hcc=>by simp at hcc;subst hcc;exact ways_recv_none WT hno);rw[eR]at hrun;refine⟨{S with μ:=rμ X S c (12,0,.leaf),μr:=rμr X S c (12,0,.leaf)},_,_,_,hrun,?_,?_⟩
   ·refine h.comm' (c':=S.c) hc (λ_ _=>rfl) (by rw[R2];simp) (λ_ _ _=>rfl) (λ_ _=>rfl) (by rw[ho];exact nI) (h.rT c) h.dp (by simpa using h.told) (by simpa using h.handed) rfl rfl rfl rfl rfl bz (λx h1 h2=>?_) (λp h1 h2=>rμ_ne h2) (λe=>rμr_ne p7 e) ?_ ?_ bz bz (λ_ _=>r12 p7 rfl) (by rw[rμ_ne aj];exact arj _)
    ·rw[als (arz h2)]
    ·refine⟨λe=>by omega,λ_=>?_⟩;obtain⟨gw,RZ,sS⟩:=TR.2 hc;exact⟨gw,by rw[als hne];exact RZ,by dsimp only;rw[rμ_ne aj];exact sS⟩
    ·exact hS.ahl rS p7 R2 (λ_=>rfl) (λh1=>rμ_eq h1) (λh1=>rμr_eq h1) (by rw[alC o8]) hA ⟨hend,bW⟩
   ·exact Cc p7 (by rw[hν];exact Wt.Kf aj) (λx hx=>rμ_ne hx) (λh1=>rμ_eq h1) (λh1=>rμr_eq h1)
end
end Go.Upr
end
