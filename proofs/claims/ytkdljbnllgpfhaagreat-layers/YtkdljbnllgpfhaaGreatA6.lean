import Derived.Test.YtkdljbnllgpfhaaGreatA5
set_option maxRecDepth 100000
set_option maxHeartbeats 8000000
open Array renaming getElem?_setIfInBounds_ne→als,getElem?_eq_some_iff→ad3,getElem?_setIfInBounds_self_of_lt→alC,mem_append→aoi,empty_append→aqg,getElem?_append_right→arY,getElem?_eq_getElem→arZ,getElem?_push_lt→ar0
open Go renaming Goroutine→aqi,World→aly,Trace→ap8,Frame→aoz,MemOp→ar5,Event→amp
open Go.MemOp renaming ofEvents→ap6
open Go.Conc.Goes renaming cases→art
open Go.ConcN renaming Vc→aq0,Mode→aqS,fork_knows→asf,Deaf_still→ash
open Option renaming map_eq_some_iff→ant
open Ne renaming symm→arz
open Nat renaming eq_zero_or_pos→arG,le_refl→agl,le_of_eq→aqX
open Go.Trace renaming g?→aq7
open Go.Conc renaming lt_size_of_getElem?→aqp,runT_crowd_go→ar2,aside_setCell→aru,Deaf→arf,served→ar3,getElem?_append_cases→aq6,getElem?_append_old→ar4,Deaf_other→ara,finishComm_send→ar7,hb_app→ar8,ofEvents_eq→asa,Knows→asb
open Option.some renaming inj→alN,injEq→apx
open List renaming take_length→arX,not_mem_nil→aqm,mem_toArray→arA,mem_cons→ap9
open Prod renaming lex_def→ar1
open Go.World renaming setChan→arC
open Go.ConcN.WSit renaming running_of→ar6
open Go.ConcN.Mode renaming opn→arP
open Go.ConcN.RW renaming refl→ar9
open Go.Goroutine renaming again→aq1
open InvImage renaming wf→asc
open Go.ConcR renaming mk→ase,loc_of_ofEvent→ark
section
namespace Go.Upr
open Go.Conc
open Go.ConcN (upd upd_same upd_ne sumTo WD CTag WgLive ShN RelBy)
open Go.ConcR (KK WgAt stA smA)
section
variable{X:Pl}{W:D1}{S:nY}{gs gs':Array aqi}{w w':aly}{t u:ap8}{c:Nat}{sl:Option (Nat×Nat)}
theorem PI.grown(h:PI X W S gs w t)(hc:c<S.j){y:Ch}(hy:y.rc=(aW S.c c).rc∧(∃x,y.aJ=(aW S.c c).aJ++ [x])∧y.cl=false)(hnp: ∀fr cs,gs[gid W.m X.n (c+1)]? ≠some (parked (G fr cs) #[rcase (S.k c) X.z] (.recv true)))
  (jW:gs'[gid W.m X.n (c+1)]? =gs[gid W.m X.n (c+1)]?) (hf':(S.c.r (c+1)).Fits X.P X.F w') (hl:WgLive X.ty X.wg w→WgLive X.ty X.wg w') (ν:Wt):
  ∃ν',ν'.1=(nu X S c).1∧sq X W {S with c:={S.c with ch:=upd S.c.ch c (some y)},μ:=upd (rμ X S c ν') c ν,μr:=rμr X S c ν'} gs' w' (c+1):=by
 have p7:=h.le hc;have PV:=h.dp.Sj c _ (h.eO hc);obtain⟨hy1,⟨x,hy2⟩,hy3⟩:=hy;have ey:aW {S.c with ch:=upd S.c.ch c (some y)} c=y:=by unfold aW;dsimp only;rw[upd_same];rfl
 have eo:aW {S.c with ch:=upd S.c.ch c (some y)} (c+1)=aW S.c (c+1):=by unfold aW;dsimp only;rw[upd_ne _ _ aj]
 have etk:y.aJ.take y.rc=(aW S.c c).aJ.take (aW S.c c).rc:=by rw[hy2,hy1,List.take_append_of_le_length PV]
 by_cases h1:c+1≤X.n
 ·by_cases h2:c+1<S.j
  ·obtain⟨g,hg,hs⟩:=h.wk (c+1) h2;rw[kN h1]at jW hnp;rw[lR]at hs;have fin: ∀d ν',S.D (c+1)=d→wG X (c+1) (S.k (c+1- 1)) (S.k (c+1)) y (aW S.c (c+1)) (S.c.r (c+1)) w' g d ν'→sq X W {S with c:={S.c with ch:=upd S.c.ch c (some y)},μ:=upd (rμ X S c ν') c ν,μr:=rμr X S c ν'} gs' w' (c+1):=by
    intro d ν' hd hs;refine⟨λe=>by omega,λ_=>⟨g,by rw[jW];exact hg,?_⟩⟩;dsimp only;rw[lR,ey,eo,hd,upd_ne _ _ aj,rμ_eq h1];exact hs
   generalize hd:S.D (c+1)=d at hs;have enu:nu X S c=S.μ (c+1):=by unfold nu;rw[if_pos h1]
   rw[enu];generalize S.μ (c+1)=μ at hs⊢;cases hs with
   |recv hi hgr hw ho hp=>exact⟨(12,2*(y.aJ.length- y.rc)+1,_),rfl,fin _ _ hd (.recv hi hgr (by rw[etk];exact hw) ho (λe=>by rw[hy3]at e;cases e))⟩
   |cf hi hA he ho=>exact absurd hg (hnp _ _)
   |work hgr hw ho=>exact⟨_,rfl,fin _ _ hd (.work hgr hw ho)⟩
   |send hgr hw ho=>exact⟨_,rfl,fin _ _ hd (.send hgr hw ho)⟩
   |dD hx KU ho hf=>exact⟨_,rfl,fin _ _ hd (.dD hx KU ho hf)⟩
   |shut hw ho=>exact⟨_,rfl,fin _ _ hd (.shut hw ho)⟩
   |tail iu ho=>exact⟨_,rfl,fin _ _ hd (.tail (iu.stay (h.dp.fits _) hf' hl) ho)⟩
  ·exact⟨nu X S c,rfl,λe=>by omega,λe=>absurd e h2⟩
 ·obtain rfl:c=X.n:=by omega
  obtain⟨a,ha,hm⟩:=h.main;rw[kY h1]at jW hnp;have key: ∀tag ad dd μs μr,iv X S.j (aq0 (X.n+1) S.D) S.k (dR S.c (X.n+1)) (S.c.r (X.n+1)) w a tag ad dd μs μr→∃ν',ν'.1=μr.1∧iv X S.j (aq0 (X.n+1) S.D) S.k y (S.c.r (X.n+1)) w' a tag ad dd μs ν':=by
   intro tag ad dd μs μr hm;have hm:=hm.keep (w':=w') hf' hl;rw[lR]at hm;cases hm with
   |pre hj h=>exact⟨_,rfl,.pre hj h⟩
   |a1 hj h=>exact⟨_,rfl,.a1 hj h⟩
   |a2 hj h=>exact⟨_,rfl,.a2 hj h⟩
   |a3 hj h=>exact⟨_,rfl,.a3 hj h⟩
   |a4 hj h=>exact⟨_,rfl,.a4 hj h⟩
   |a5 hj h=>exact⟨_,rfl,.a5 hj h⟩
   |spawn hq hg h=>exact⟨_,rfl,.spawn hq hg h⟩
   |recv hj hg h hp=>exact⟨(12,2*(y.aJ.length- y.rc)+1,_),rfl,.recv hj hg (by rw[etk];exact h) (λe=>by rw[hy3]at e;cases e)⟩
   |cf hj h he=>exact absurd ha (hnp _ _)
   |post hj h=>exact⟨_,rfl,.post hj h⟩
   |wait eU hj hA h=>exact⟨_,rfl,.wait eU hj hA h⟩
  obtain⟨ν',hν',z6⟩:=key _ _ _ _ _ hm;refine⟨ν',by unfold nu;rw[if_neg h1];exact hν',λ_=>⟨a,by rw[jW];exact ha,?_⟩,λe=>?_⟩
  ·dsimp only;rw[lR,ey,rμr_eq rfl];exact z6
  ·have:=h.Sm;have:X.n+1<S.j:=e;omega
theorem PI.IW(h:PI X W S gs w t)(ok:X.Ok)(hc:c<S.j){g:aqi}{fr:aoz}{cs:List aoz}{x:Value}{rest:List Value}(hg:gs[W.m+c]? =some g)(hr:si g fr cs)(GY:Tw X c (S.k c) ((aW S.c c).aJ++x::rest) (x::rest) (S.c.r c) fr cs)(bW:(aW S.c c).cl=false)
  (hD:S.D c=⟨7,0,0⟩) (hμ: ∀ν,Wt.Lt ν (10,2*(rest.length+1)+1,.leaf)→Wt.Lt ν (S.μ c)) (ky:(S.μ c).1≠12):zy X W S gs w t sl (W.m+c):=by
 have p7:=h.le hc;have rS:=h.Sm;have hm:=h.m0;have R:=ok.recv (m:=W.m) S p7;have hch:=h.LW hc;have PV:=h.dp.Sj c _ (h.eO hc);have nI:=h.items c hc;have KE:S.k c<w.heap.size:=(ad3.1 hch).1;obtain⟨hix,⟨zz,hstep⟩,ts,hws⟩:=GY;replace hix:X.Item (aW S.c c).aJ.length x:=by simpa using hix
 have Km:(W.m+c==0)=false:=by simp;omega
 have zA:stepG X.P (W.m+c==0) g w= .comm (G fr cs) #[scase (S.k c) x zz] true .send w #[]:=by rw[Km,hr.step];exact hstep w (h.dp.fits c)
 have hne:gid W.m X.n (c+1)≠W.m+c:=by unfold gid;split<;>omega
 have o8:W.m+c<gs.size:=(ad3.1 hg).1;have agn: ∀w':aly,(∀b,b≠S.k c→w'.heap[b]? =w.heap[b]?)→WgLive X.ty X.wg w→WgLive X.ty X.wg w':=λw' hb ⟨st,sm,hw⟩=>⟨st,sm,(hb _ λe=>h.dp.Ab c _ (h.eO hc) e.symm).trans hw⟩;have grown:=λ(gs':Array aqi) (w':aly) (y:Ch)=>h.grown (gs':=gs') (w':=w') hc (y:=y);have hw0:c+1=S.j→S.j≤X.n→(aW S.c c).rc=0:=λh1 h2=>(h.rT c h1 h2).1;have aaE:(c+1<S.j∨c=X.n)→(nu X S c).1=12:=λh1=>h.mI c hc h1 bW;generalize ho:aW S.c c=o at*;have R2:S.c.ch c=some o:=by rw[←ho];exact h.eO hc
 have snd: ∀ (y:Ch) (c':o_) (gs':Array aqi) (w':aly) (μ':Nat→Wt) (μr':Wt),c'.ch c=some y→y.aJ=o.aJ++ [x]→y.cl=false→c'.r c=S.c.r c→gs'[W.m+c]? =some (ar3 (G fr cs) undef)→μ' c=(10,2*rest.length+1,ts)→sq X W {S with c:=c',μ:=μ',μr:=μr'} gs' w' c:=by
  intro y c' gs' w' μ' μr' h1 h2 h3 h4 h5 h6;refine⟨λe=>by omega,λ_=>⟨_,h5,?_⟩⟩;have e1:aW c' c=y:=by unfold aW;rw[h1];rfl
  dsimp only;rw[e1,hD,h4,h6];exact .send (mD _ _ _) (by rw[h2,List.append_assoc];exact hws) h3
 by_cases hp: ∃fr' cs',gs[gid W.m X.n (c+1)]? =some (parked (G fr' cs') #[rcase (S.k c) X.z] (.recv true))
 · -- to the one who waits
  obtain⟨fr',cs',hgr⟩:=hp;obtain⟨hS,hA,hend,_,hν⟩:=h.cf hc hgr;rw[ho]at hA hend;have Yi:(o.aJ.drop o.rc).toArray= #[]:=by rw[hend];simp
  have WT:w.heap[S.k c]? =some (.chan room #[] false o.aJ.length o.rc o.tm):=by rw[hch];unfold Ch.obj;rw[Yi,bW]
  have hrun:=crowd_send_meets (P:=X.P) (sl:=sl) hg zA WT hne hgr (h.Y7 hc hgr (arz hne));rw[eR,finishComm_recv,ar7]at hrun;obtain⟨tr,hwr⟩:=R.val _ _ _ _ _ hA (by rw[hend,arX];exact hix);have eo:=Ch.Vo (h:=o) (v:=x) hend;have aia:gid W.m X.n (c+1)<gs.size:=(ad3.1 hgr).1;refine⟨{S with c:={S.c with ch:=upd S.c.ch c (some {o with aJ:=o.aJ++ [x],rc:=o.rc+1})},μ:=upd (rμ X S c (12,2*((o.aJ++ [x]).length-(o.rc+1))+1,tr)) c (10,2*rest.length+1,ts),μr:=rμr X S c (12,2*((o.aJ++ [x]).length-(o.rc+1))+1,tr)},_,_,_,hrun,?_,?_⟩
  ·refine h.comm hc (y:={o with aJ:=o.aJ++ [x],rc:=o.rc+1}) lq (by rw[ho]) (vZ nI hix) (λh1 h2=>absurd (hS.wk aj).1 aj) (by rw[eo,bW];rfl) rfl rfl rfl bz (λz h1 h2=>?_) (λp h1 h2=>?_) (λe=>rμr_ne p7 e) (snd _ _ _ _ _ _ (upd_same _ _ _) rfl bW rfl ?_ (upd_same _ _ _)) ?_ (λop hop=>?_) (λh1 h2 op hop=>absurd (hS.wk h1).1 aj) (λ_ _=>aa4 p7 rfl) (.inr ky)
   ·rw[als (arz h1),als (arz h2)]
   ·rw[upd_ne _ _ h1,rμ_ne h2]
   ·rw[alC (by simpa using o8)]
   ·refine hS.recv rS p7 (upd_same _ _ _) (λ_=>upd_ne _ _ aj) (λh1=>?_) (λh1=>rμr_eq h1) (by rw[als (arz hne),alC aia]) (mD _ _ _) (tr:=tr) ?_ (λe=>?_)
    ·rw[upd_ne _ _ aj,rμ_eq h1]
    ·dsimp only;have:(o.aJ++ [x]).take (o.rc+1)=o.aJ.take o.rc++ [x]:=by rw[hend,arX,show o.aJ.length+1=(o.aJ++ [x]).length by simp,arX]
     rw[this];exact hwr
    ·dsimp only at e;rw[bW]at e;cases e
   ·simp only[arA,ap9,aqm,or_false,aqg]at hop;have hb:S.k c<(w.setChan (S.k c) room #[] false (o.aJ.length+1) (o.rc+1) o.tm).heap.size:=by simp[arC];exact KE
    rcases hop with rfl|rfl|rfl|rfl<;>refine⟨rfl,by simp,hb,?_⟩<;>first|exact .inr rfl|exact .inl rfl
  ·exact kv p7 rfl rfl (λz hz=>by dsimp only;rw[upd_ne _ _ aj,rμ_ne aj]) (by dsimp only;rw[upd_same];exact hμ _ (Wt.Kf aj))
 ·have hnp: ∀fr cs,gs[gid W.m X.n (c+1)]? ≠some (parked (G fr cs) #[rcase (S.k c) X.z] (.recv true)):=λfr cs e=>hp ⟨fr,cs,e⟩;have hno:=h.acN (G:=W.m+c) hc (λfr cs=> .inl (hnp fr cs));have WT:w.heap[S.k c]? =some (.chan room (o.aJ.drop o.rc).toArray false o.aJ.length o.rc o.tm):=by rw[hch];unfold Ch.obj;rw[bW]
  by_cases hroom:o.aJ.length- o.rc<room
  · -- into the buffer
   have hrun:=crowd_send_room (P:=X.P) (sl:=sl) hg zA WT (by rw[Ch.IU];exact hroom) hno;rw[eR,ar7]at hrun;have eo:=Ch.Vn (h:=o) (v:=x) PV;have ew:(w.setChan (S.k c) room ((o.aJ.drop o.rc).toArray.push x) false (o.aJ.length+1) o.rc o.tm).heap=w.heap.setIfInBounds (S.k c) ({o with aJ:=o.aJ++ [x]}:Ch).obj:=by rw[eo,bW];rfl
   have adN:({o with aJ:=o.aJ++ [x]}:Ch).rc≤({o with aJ:=o.aJ++ [x]}:Ch).aJ.length:=by simp;omega
   have hG':=h.dp.Gw (h.eO hc) adN (by rw[ho]) ew;obtain⟨ν',hν',qJ⟩:=grown (gs.setIfInBounds (W.m+c) (ar3 (G fr cs) undef)) (w.setChan (S.k c) room ((o.aJ.drop o.rc).toArray.push x) false (o.aJ.length+1) o.rc o.tm) {o with aJ:=o.aJ++ [x]} ⟨rfl,⟨x,rfl⟩,bW⟩ hnp
    (by rw[als (arz hne)]) (hG'.fits (c+1)) (agn _ λb hb=>by rw[ew,als λe=>hb e.symm]) (10,2*rest.length+1,ts)
   refine⟨_,_,_,_,hrun,h.comm hc (y:={o with aJ:=o.aJ++ [x]}) (μ':=upd (rμ X S c ν') c (10,2*rest.length+1,ts)) (μr':=rμr X S c ν') adN (by rw[ho]) (vZ nI hix) (λh1 h2=>⟨hw0 h1 h2,λe=>by dsimp only at e;rw[bW]at e;cases e⟩) ew rfl rfl rfl bz (λz h1 h2=>?_) (λp h1 h2=>?_) (λe=>rμr_ne p7 e) (snd _ _ _ _ _ _ (upd_same _ _ _) rfl bW rfl ?_ (upd_same _ _ _)) qJ (λop hop=>?_) (λh1 h2 op hop=>?_) (λh1 h2=>aa4 p7 (by rw[hν'];exact aaE h1)) (.inr ky),?_⟩
   ·rw[als (arz h1)]
   ·rw[upd_ne _ _ h1,rμ_ne h2]
   ·rw[alC o8]
   ·simp only[arA,ap9,aqm,or_false,aqg]at hop;have hb:S.k c<(w.setChan (S.k c) room ((o.aJ.drop o.rc).toArray.push x) false (o.aJ.length+1) o.rc o.tm).heap.size:=by simp[arC];exact KE
    rcases hop with rfl|rfl<;>exact⟨rfl,by simp,hb,.inl rfl⟩
   ·simp only[arA,ap9,aqm,or_false,aqg]at hop;rcases hop with rfl|rfl<;>rfl
   ·exact kv p7 rfl rfl (λz hz=>by dsimp only;rw[upd_ne _ _ aj,rμ_ne aj]) (by dsimp only;rw[upd_same];exact hμ _ (Wt.Kf aj))
  · -- it is parked
   have N7:room≤o.aJ.length- o.rc:=by omega
   have hrun:=crowd_waits (P:=X.P) (sl:=sl) hg zA (λcc hcc=>by simp at hcc;subst hcc;exact ways_send_none WT (by rw[Ch.IU];omega) hno);rw[eR]at hrun;refine⟨{S with μ:=upd S.μ c (10,2*rest.length+2,.leaf)},_,_,_,hrun,?_,?_⟩
   ·refine h.comm' (c':=S.c) (μr':=S.μr) hc (λ_ _=>rfl) (by rw[R2];simp) (λ_ _ _=>rfl) (λ_ _=>rfl) (by rw[ho];exact nI) (h.rT c) h.dp (by simpa using h.told) (by simpa using h.handed) rfl rfl rfl rfl rfl bz (λz h1 h2=>?_) (λp h1 h2=>upd_ne _ _ h1) (λe=>rfl) ?_ ?_ bz bz (λh1 _=>by rw[upd_ne _ _ aj];exact aaE h1) (.inr ky)
    ·rw[als (arz h1)]
    ·refine⟨λe=>by omega,λ_=>⟨_,by rw[alC o8],?_⟩⟩;dsimp only;rw[ho,hD,upd_same];exact .dD hix ⟨ts,hws⟩ bW N7
    ·have hk:=h.aa5 (c+1);refine⟨λe=>?_,λhlt=>?_⟩
     ·obtain⟨a,ha,rQ⟩:=hk.1 e;refine⟨a,by rw[als aj];exact ha,rQ⟩
     ·obtain⟨gw,RZ,hsw⟩:=hk.2 hlt;refine⟨gw,by rw[als aj];exact RZ,?_⟩;dsimp only;rw[upd_ne _ _ aj];exact hsw
   ·exact kv p7 rfl rfl (λz hz=>upd_ne _ _ aj) (by dsimp only;rw[upd_same];exact hμ _ (Wt.Kf aj))
end
end Go.Upr
end
section
namespace Go.Upr
open Go.Conc
open Go.ConcN (upd upd_same upd_ne sumTo WD CTag WgLive ShN RelBy get_map_set get_map_set_same)
open Go.ConcR (KK WgAt stA smA)
theorem C2{g:aqi}{w:aly}(h:(g.again w).status= .blocked):g.again w=g:=by
 unfold aq1 at h⊢;dsimp only at h⊢;split at h
 ·split at h
  ·cases h
  ·rename_i h2;rw[if_neg h2]
 ·cases h
 ·cases h
 ·rfl
theorem vk{P:Program}{g1 g1' g:aqi}{w:aly}(h:(woken P g1 g1' w g).status= .blocked):woken P g1 g1' w g=g:=by
 unfold woken at h⊢;split at h
 ·rename_i h2;rw[if_pos h2];exact C2 h
 ·rename_i h2;rw[if_neg h2]
theorem wG.adw{X:Pl}{r:bF}{w:aly}{a b:Nat}{ib out:Ch}{g:aqi}{d:WD}{μ:Wt}(h:wG X 0 a b ib out r w g d μ)(ib':Ch):wG X 0 a b ib' out r w g d μ:=by
 cases h with
 |recv hi=>omega
 |cf hi=>omega
 |work hg h ho=>exact .work hg h ho
 |send hg h ho=>exact .send hg h ho
 |dD hx h ho Fa=>exact .dD hx h ho Fa
 |shut h ho=>exact .shut h ho
 |tail h ho=>exact .tail h ho
section
variable{X:Pl}{W:D1}{S:nY}{gs gs':Array aqi}{w w':aly}{t u:ap8}{c:Nat}{sl:Option (Nat×Nat)}
theorem PI.afl(h:PI X W S gs w t)(hc:c<S.j){y:Ch}{f:Ren}{v:aly}(hy:y.rc=(aW S.c c).rc∧y.aJ=(aW S.c c).aJ∧y.cl=true∧y.pend=some (f,v))(yh:X.Pre c y.aJ f v){g1 g1':aqi}(hwk:mayWake X.P g1=true)(hrun:g1'.status= .running){c':o_}(hc1:c'.ch c=some y)(hc2:c'.ch (c+1)=S.c.ch (c+1))(hc3:c'.r (c+1)=S.c.r (c+1))
  (jW: ∀x,gs[gid W.m X.n (c+1)]? =some x→gs'[gid W.m X.n (c+1)]? =some (woken X.P g1 g1' w' x)) (hf':(S.c.r (c+1)).Fits X.P X.F w') (hl:WgLive X.ty X.wg w→WgLive X.ty X.wg w') (hch:w'.heap[S.k c]? =some y.obj) (aiq:c+1<S.j→w'.heap[S.k (c+1)]? =some (aW S.c (c+1)).obj) (ν:Wt):
  ∃ν' cF,(cF=S.tag∨(S.tag= .blk∧cF= .w3))∧sq X W {S with c:=c',μ:=upd (rμ X S c ν') c ν,μr:=rμr X S c ν',tag:=cF} gs' w' (c+1):=by
 have p7:=h.le hc;obtain⟨hy1,hy2,hy3,hy4⟩:=hy;have ey:aW c' c=y:=by unfold aW;rw[hc1];rfl
 have eo:aW c' (c+1)=aW S.c (c+1):=by unfold aW;rw[hc2]
 have etk:y.aJ.take y.rc=(aW S.c c).aJ.take (aW S.c c).rc:=by rw[hy2,hy1]
 have again: ∀ (fr:aoz) (cs:List aoz),woken X.P g1 g1' w' (parked (G fr cs) #[rcase (S.k c) X.z] (.recv true))={parked (G fr cs) #[rcase (S.k c) X.z] (.recv true)with status:= .running}:=by
  intro fr cs;unfold woken;rw[if_pos (by simp[hwk,hrun])];refine Ng (a:=S.k c) rfl (cap:=room) (buf:=(y.aJ.drop y.rc).toArray) (s:=y.aJ.length) (q:=y.rc) (tm:=y.tm) ?_;rw[hch];unfold Ch.obj;rw[hy3]
 by_cases h1:c+1≤X.n
 ·by_cases h2:c+1<S.j
  ·obtain⟨g,hg,hs⟩:=h.wk (c+1) h2;rw[kN h1]at jW;have hg2:=jW g hg;have fin: ∀d ν' g',woken X.P g1 g1' w' g=g'→S.D (c+1)=d→wG X (c+1) (S.k (c+1- 1)) (S.k (c+1)) y (aW S.c (c+1)) (S.c.r (c+1)) w' g' d ν'→∃ν' cF,(cF=S.tag∨(S.tag= .blk∧cF= .w3))∧sq X W {S with c:=c',μ:=upd (rμ X S c ν') c ν,μr:=rμr X S c ν',tag:=cF} gs' w' (c+1):=by
    intro d ν' g' hw hd hs;refine⟨ν',S.tag,.inl rfl,λe=>by omega,λ_=>⟨g',by rw[hg2,hw],?_⟩⟩;dsimp only;rw[lR,ey,eo,hd,hc3,upd_ne _ _ aj,rμ_eq h1];exact hs
   generalize hd:S.D (c+1)=d at hs;generalize S.μ (c+1)=μ at hs;by_cases Nv: ∃fr cs,g=parked (G fr cs) #[rcase (S.k c) X.z] (.recv true)
   ·obtain⟨fr,cs,rfl⟩:=Nv;have SA:gs[gid W.m X.n (c+1)]? =some (parked (G fr cs) #[rcase (S.k c) X.z] (.recv true)):=by rw[kN h1];exact hg
    obtain⟨hS,hA,_⟩:=h.cf hc SA;obtain⟨_,k2,k3,k4⟩:=hS.wk h1;unfold KN at hA;rw[if_pos h1]at hA;exact fin _ (12,2*(y.aJ.length- y.rc)+1,.leaf) _ (again fr cs) k4 (.recv (Nat.succ_pos _) (zJ fr cs _ _) (by rw[etk];exact hA) ⟨k2,k3⟩ (λ_=>⟨f,v,hy4,yh⟩))
   ·have hst:=hs.stay (w':=w') (h.dp.fits _) hf' hl (λe _=>absurd e Nv) (.inl (aiq h2)) g1 g1';generalize ij:woken X.P g1 g1' w' g=gw at hst;have npk: ∀fr cs,gw≠parked (G fr cs) #[rcase (S.k c) X.z] (.recv true):=by
     rintro fr cs rfl;have:g=parked (G fr cs) #[rcase (S.k c) X.z] (.recv true):=ij▸ (vk (by rw[ij];rfl)).symm;exact Nv ⟨fr,cs,this⟩
    cases hst with
    |recv hi hgr hw ho hp=>exact fin _ _ _ ij hd (.recv hi hgr (by rw[etk];exact hw) ho (λ_=>⟨f,v,hy4,yh⟩))
    |cf hi hA he ho=>exact absurd rfl (npk _ _)
    |work hgr hw ho=>exact fin _ _ _ ij hd (.work hgr hw ho)
    |send hgr hw ho=>exact fin _ _ _ ij hd (.send hgr hw ho)
    |dD hx KU ho hf=>exact fin _ _ _ ij hd (.dD hx KU ho hf)
    |shut hw ho=>exact fin _ _ _ ij hd (.shut hw ho)
    |tail iu ho=>exact fin _ _ _ ij hd (.tail iu ho)
  ·exact⟨(0,0,.leaf),S.tag,.inl rfl,λe=>by omega,λe=>absurd e h2⟩
 ·obtain rfl:c=X.n:=by omega
  obtain⟨a,ha,hm⟩:=h.main;rw[kY h1]at jW;have hg2:=jW a ha;have fin: ∀cF ν' g',woken X.P g1 g1' w' a=g'→(cF=S.tag∨(S.tag= .blk∧cF= .w3))→iv X S.j (aq0 (X.n+1) S.D) S.k y (S.c.r (X.n+1)) w' g' cF S.added S.dd S.μs ν'→
    ∃ν' cF,(cF=S.tag∨(S.tag= .blk∧cF= .w3))∧sq X W {S with c:=c',μ:=upd (rμ X S X.n ν') X.n ν,μr:=rμr X S X.n ν',tag:=cF} gs' w' (X.n+1):=by
   intro cF ν' g' hw ht hm;refine⟨ν',cF,ht,λ_=>⟨g',by rw[hg2,hw],?_⟩,λe=>?_⟩
   ·dsimp only;rw[lR,ey,hc3,rμr_eq rfl];exact hm
   ·have:=h.Sm;have:X.n+1<S.j:=e;omega
  by_cases Nv: ∃fr cs,a=parked (G fr cs) #[rcase (S.k X.n) X.z] (.recv true)
  ·obtain⟨fr,cs,rfl⟩:=Nv;have SA:gs[gid W.m X.n (X.n+1)]? =some (parked (G fr cs) #[rcase (S.k X.n) X.z] (.recv true)):=by rw[kY h1];exact ha
   obtain⟨hS,hA,_⟩:=h.cf hc SA;obtain⟨k1,k2,k3,k4,k5⟩:=hS.mn rfl;unfold KN at hA;rw[if_neg h1]at hA;exact fin S.tag (12,2*(y.aJ.length- y.rc)+1,.leaf) _ (again fr cs) (.inl rfl) (by rw[k2,k3,k4,k5];exact .recv k1 (zJ fr cs _ _) (by rw[etk];exact hA) (λ_=>⟨f,v,hy4,yh⟩))
  ·obtain⟨cF,μr',z6,ht,_,_⟩:=hm.stay (w':=w') (aq0 (X.n+1) S.D) hf' hl (λe _=>absurd e Nv) g1 g1';rw[lR]at z6;generalize ij:woken X.P g1 g1' w' a=gw at z6;have npk: ∀fr cs,gw≠parked (G fr cs) #[rcase (S.k X.n) X.z] (.recv true):=by
    rintro fr cs rfl;have:a=parked (G fr cs) #[rcase (S.k X.n) X.z] (.recv true):=ij▸ (vk (by rw[ij];rfl)).symm;exact Nv ⟨fr,cs,this⟩
   generalize hdd:S.dd=dd at z6;generalize had:S.added=ad at z6;generalize hμs:S.μs=μs at z6;have il: ∃ν',iv X S.j (aq0 (X.n+1) S.D) S.k y (S.c.r (X.n+1)) w' gw cF ad dd μs ν':=by
    cases z6 with
    |pre hj h=>exact⟨_,.pre hj h⟩
    |a1 hj h=>exact⟨_,.a1 hj h⟩
    |a2 hj h=>exact⟨_,.a2 hj h⟩
    |a3 hj h=>exact⟨_,.a3 hj h⟩
    |a4 hj h=>exact⟨_,.a4 hj h⟩
    |a5 hj h=>exact⟨_,.a5 hj h⟩
    |spawn hq hg h=>exact⟨_,.spawn hq hg h⟩
    |recv hj hg h hp=>exact⟨_,.recv hj hg (by rw[etk];exact h) (λ_=>⟨f,v,hy4,yh⟩)⟩
    |cf hj h he=>exact absurd rfl (npk _ _)
    |post hj h=>exact⟨_,.post hj h⟩
    |wait eU hj hA h=>exact⟨_,.wait eU hj hA h⟩
   obtain⟨ν',il⟩:=il;subst hdd had hμs;exact fin cF ν' gw ij ht il
theorem PI.EL(h:PI X W S gs w t)(hc:c<S.j){g:aqi}{fr:aoz}{cs:List aoz}(hg:gs[W.m+c]? =some g)(hr:si g fr cs)(GY:Tw X c (S.k c) (aW S.c c).aJ [] (S.c.r c) fr cs)(bW:(aW S.c c).cl=false)(hD:S.D c=⟨7,0,0⟩)
  (hμ: ∀ν,Wt.Lt ν (10,1,.leaf)→Wt.Lt ν (S.μ c)) (ky:(S.μ c).1≠12):zy X W S gs w t sl (W.m+c):=by
 have p7:=h.le hc;have rS:=h.Sm;have hm:=h.m0;have hch:=h.LW hc;have PV:=h.dp.Sj c _ (h.eO hc);have KE:S.k c<w.heap.size:=(ad3.1 hch).1;obtain⟨⟨f,v,X_,yh⟩,hmw,fr1,cs1,r1,iX,⟨ts,hws⟩,hstep⟩:=GY;have hne:gid W.m X.n (c+1)≠W.m+c:=by unfold gid;split<;>omega
 have o8:W.m+c<gs.size:=(ad3.1 hg).1;have TS:arf t (W.m+c)=0:=by rw[h.dW c hc,hD]
 have egid:gid W.m X.n c=W.m+c:=kN p7;have nI:=h.items c hc;have hw0:c+1=S.j→S.j≤X.n→(aW S.c c).rc=0:=λh1 h2=>(h.rT c h1 h2).1;generalize ho:aW S.c c=o at*;have R2:S.c.ch c=some o:=by rw[←ho];exact h.eO hc
 have WT:w.heap[S.k c]? =some (.chan room (o.aJ.drop o.rc).toArray false o.aJ.length o.rc o.tm):=by rw[hch];unfold Ch.obj;rw[bW]
 have hgo:stepG X.P false g w= .go (G fr1 cs1) (w.setChan (S.k c) room (o.aJ.drop o.rc).toArray true o.aJ.length o.rc o.tm) #[⟨.obj (S.k c),false,true⟩,⟨.obj (S.k c),true,true⟩]:=by
  rw[hr.step];exact hstep w (h.dp.fits c) _ _ _ _ WT
 have Km:(W.m+c==0)=false:=by simp;omega
 have hrun:=ar2 (P:=X.P) (sl:=sl) (i:=W.m+c) hg (by rw[Km];exact hgo);have aiP:ap6 (W.m+c) g.frame.fn g.frame.place #[⟨.obj (S.k c),false,true⟩,⟨.obj (S.k c),true,true⟩]= #[{g:=W.m+c,fn:=g.frame.fn,pos:=g.frame.place,act:= .access ⟨.obj (S.k c),false,true⟩},{g:=W.m+c,fn:=g.frame.fn,pos:=g.frame.place,act:= .close (S.k c)}]:=by
  rw[asa];simp[MemAct.ofEvent]
 rw[aiP]at hrun;generalize hx1:({g:=W.m+c,fn:=g.frame.fn,pos:=g.frame.place,act:= .access ⟨.obj (S.k c),false,true⟩}:ar5)=x1 at hrun;generalize hx2:({g:=W.m+c,fn:=g.frame.fn,pos:=g.frame.place,act:= .close (S.k c)}:ar5)=x2 at hrun;generalize ew':w.setChan (S.k c) room (o.aJ.drop o.rc).toArray true o.aJ.length o.rc o.tm=w' at hrun;have X7:w'.heap=w.heap.setIfInBounds (S.k c) ({o with cl:=true,pend:=some (f,v)}:Ch).obj:=by rw[←ew'];rfl
 have abd:w'.tape=w.tape∧w'.os=w.os∧w'.output=w.output:=by rw[←ew'];exact⟨rfl,rfl,rfl⟩
 have hsz':w'.heap.size=w.heap.size:=by rw[X7];simp
 have aiu: ∀b,b≠S.k c→w'.heap[b]? =w.heap[b]? :=λb hb=>by rw[X7,als λe=>hb e.symm]
 have ah0:S.k c≠X.wg:=h.dp.Ab c _ (h.eO hc);have adB:w'.heap[X.wg]? =w.heap[X.wg]? :=aiu _ (arz ah0);have jk:WgLive X.ty X.wg w→WgLive X.ty X.wg w':=λ⟨st,sm,hw⟩=>⟨st,sm,adB.trans hw⟩;have hG:=h.dp.give (y:={o with cl:=true,pend:=some (f,v)}) R2 PV rfl X_ iX X7;have gJ: ∀op∈(#[x1,x2]:ap8),op=x1∨op=x2:=λop hop=>by simpa using hop
 have TQ: ∀op∈(#[x1,x2]:ap8),op.g=W.m+c:=λop hop=>by rcases gJ op hop with rfl|rfl<;>(first|rw[←hx1]|rw[←hx2])
 have Ya: ∀op∈(#[x1,x2]:ap8),∀x,op.act.touch?=some x→x.loc= .obj (S.k c)∧x.write=false∧x.kind= .atomic:=by
  intro op hop x hx;rcases gJ op hop with rfl|rfl
  ·rw[←hx1]at hx;simp only[MemAct.touch?,apx]at hx;subst hx;exact⟨rfl,rfl,rfl⟩
  ·rw[←hx2]at hx;cases hx
 have hloc: ∀op∈(#[x1,x2]:ap8),∀x,op.act.touch?=some x→∀b,iK b x.loc→b=S.k c:=λop hop x hx b hb=>by
  rw[(Ya op hop x hx).1]at hb;exact hb.symm
 have BD: ∀op∈(#[x1,x2]:ap8),∀m,op.act≠ .mark m:=λop hop m=>by
  rcases gJ op hop with rfl|rfl
  ·rw[←hx1];simp
  ·rw[←hx2];simp
 have still: ∀g,arf (t++ #[x1,x2]) g=arf t g:=λg=>ash t g _ λop hop=>⟨BD op hop _,BD op hop _⟩;have LP: ∀said,¬Race said (t++ #[x1,x2]):=λsaid=>noRace_append (h.told.clean said) TQ λi a ha op hop b hb hcf=>by
  obtain⟨e1,e2,_⟩:=Ya op hop b hb;obtain⟨k1,_,k2,_⟩:=hcf;exact h.XN c hc i a ha (by rw[k1,e1];exact rfl) (k2.resolve_right (by rw[e2];simp))
 have hT:Told (gid W.m X.n) ⟨upd S.c.r c r1,upd S.c.ch c (some {o with cl:=true,pend:=some (f,v)})⟩ w' (t++ #[x1,x2]):=by
  have base:=h.told.aside (w1:=w') LP (λop hop x hx b hb=>by rw[hloc op hop x hx b hb];exact⟨λi=>h.dp.free c _ i R2,by rw[hsz'];exact KE⟩) (aqX hsz'.symm);refine⟨base.clean,λi b hb=>?_,λi b hb=>?_,base.low⟩
  ·dsimp only at hb;by_cases e:i=c
   ·subst e;rw[upd_same]at hb;exact base.own _ b (iX.own hb)
   ·rw[upd_ne _ _ e]at hb;exact base.own i b hb
  ·dsimp only at hb;by_cases e:i=c
   ·subst e;rw[upd_same,iX.s]at hb;exact base.read _ b hb
   ·rw[upd_ne _ _ e]at hb;exact base.read i b hb
 have zY:(t++ #[x1,x2])[t.size]? =some x1:=by rw[arY (agl _)];simp
 have zX:(t++ #[x1,x2])[t.size+1]? =some x2:=by rw[arY aj];simp
 have hH:Handed S.k ⟨upd S.c.r c r1,upd S.c.ch c (some {o with cl:=true,pend:=some (f,v)})⟩ (t++ #[x1,x2]):=by
  intro i x f' v' hx RV;by_cases e:i=c
  ·subst e;dsimp only at hx;rw[upd_same]at hx;cases hx;cases RV;refine⟨t.size+1,x2,zX,by rw[←hx2],⟨W.m+i,by simp[aq7,←hx2],?_⟩,λa b hab j x hx hl=>?_⟩
   ·rw[deaf_succ zY,deaf_old (agl _)];have:Trace.deaf t (W.m+i) t.size=0:=TS;rw[this,←hx1];rfl
   ·have hown:(S.c.r i).Own b:= .inr ⟨f,v,a,X_,hab⟩;rcases dA hx with h5|⟨Xa,h5,_,h6⟩
    ·have hk:=h.told.own i b hown j x h5 hl;rw[egid]at hk;exact .inr (hk.hb_new (Nat.le_succ _) zX (by rw[←hx2]))
    ·exact absurd (.inl hown) (hloc Xa h5 x h6 b hl▸h.dp.free i _ i R2)
  ·obtain⟨p,op,i1,i2,i3,i4⟩:=h.handed i x f' v' (by rw[←upd_ne S.c.ch (some {o with cl:=true,pend:=some (f,v)}) e];exact hx) RV;have hlt:=aqp i1;refine⟨p,op,by rw[ar4 hlt];exact i1,i2,(heard_old hlt).2 i3,λa b hab j y hy hl=>?_⟩;rcases dA hy with h5|⟨Xa,h5,_,h6⟩
   ·exact(i4 a b hab j y h5 hl).app _
   ·have hb:=hloc Xa h5 y h6 b hl;have Xh:S.c.ch i=some x:=by rw[←upd_ne S.c.ch (some {o with cl:=true,pend:=some (f,v)}) e];exact hx
    exact absurd hb.symm ((h.dp.f_ i x f' v' a b Xh RV hab).2.2.1 c o R2)
 have abB: ∀x y,x≠W.m+c→gs[x]? =some y→((gs.map (woken X.P g (G fr1 cs1) w')).setIfInBounds (W.m+c) (G fr1 cs1))[x]? =some (woken X.P g (G fr1 cs1) w' y):=λx y hx hy=>by
  rw[get_map_set _ _ _ _ (arz hx),hy];rfl
 have ahP:mayWake X.P g=true:=by
  rw[←hmw];unfold mayWake;rw[hr.1];rfl
 obtain⟨ν',cF,iH,qJ⟩:=h.afl (f:=f) (v:=v) (gs':=(gs.map (woken X.P g (G fr1 cs1) w')).setIfInBounds (W.m+c) (G fr1 cs1)) (w':=w') hc (y:={o with cl:=true,pend:=some (f,v)}) ⟨by rw[ho],by rw[ho],rfl,rfl⟩ yh ahP (g1':=G fr1 cs1) rfl (c':=⟨upd S.c.r c r1,upd S.c.ch c (some {o with cl:=true,pend:=some (f,v)})⟩) (upd_same _ _ _) (upd_ne _ _ aj) (upd_ne _ _ aj)
  (λx hx=>abB _ x hne hx) (by have:=hG.fits (c+1);rwa [show(⟨upd S.c.r c r1,upd S.c.ch c (some {o with cl:=true,pend:=some (f,v)})⟩:o_).r (c+1)=S.c.r (c+1)from upd_ne _ _ aj]at this) jk (by rw[X7,alC KE])
  (λhlt=>by have:=hG.chan (c+1) _ ((upd_ne _ _ aj).trans (h.eO hlt));exact this) (9,0,ts)
 obtain⟨PM,μrF,aaz,Dm,ac0⟩: ∃PM μrF,(PM=S.tag∨(S.tag= .blk∧PM= .w3))∧(c≠X.n→μrF.1=S.μr.1)∧∃a,((gs.map (woken X.P g (G fr1 cs1) w')).setIfInBounds (W.m+c) (G fr1 cs1))[0]? =some a∧
   iv X S.j (aq0 (X.n+1) S.D) S.k (dR (⟨upd S.c.r c r1,upd S.c.ch c (some {o with cl:=true,pend:=some (f,v)})⟩:o_) (X.n+1)) (upd S.c.r c r1 (X.n+1)) w' a PM S.added S.dd S.μs μrF:=by
  by_cases e:c=X.n
  ·subst e;exact⟨cF,_,iH,λe=>absurd rfl e,qJ.1 rfl⟩
  ·obtain⟨a,ha,rQ⟩:=h.main;have e1:(⟨upd S.c.r c r1,upd S.c.ch c (some {o with cl:=true,pend:=some (f,v)})⟩:o_).r (X.n+1)=S.c.r (X.n+1):=upd_ne _ _ aj;have dC:dR (⟨upd S.c.r c r1,upd S.c.ch c (some {o with cl:=true,pend:=some (f,v)})⟩:o_) (X.n+1)=dR S.c (X.n+1):=by
    show aW _ X.n=aW _ X.n;unfold aW;dsimp only;rw[upd_ne _ _ (λe'=>e e'.symm)]
   obtain⟨ahj,μr2,il,aF,_,aiO⟩:=rQ.stay (w':=w') (aq0 (X.n+1) S.D) (by have:=hG.fits (X.n+1);rwa [e1]at this) jk
    (λ_ hj=>by have:=hG.chan X.n _ ((upd_ne _ _ (λe'=>e e'.symm)).trans (h.eO aj));exact this) g (G fr1 cs1)
   exact⟨ahj,μr2,aF,λ_=>aiO,_,abB 0 a aj ha,by rw[dC];rw[show upd S.c.r c r1 (X.n+1)=S.c.r (X.n+1)from e1];exact il⟩
 refine⟨{S with c:=⟨upd S.c.r c r1,upd S.c.ch c (some {o with cl:=true,pend:=some (f,v)})⟩,μ:=upd (rμ X S c ν') c (9,0,ts),μr:=μrF,tag:=PM},_,w',_,hrun,?_,?_⟩
 ·have hout: ∀i,i≠c→aW (⟨upd S.c.r c r1,upd S.c.ch c (some {o with cl:=true,pend:=some (f,v)})⟩:o_) i=aW S.c i:=λi hi=>by unfold aW;dsimp only;rw[upd_ne _ _ hi]
  have ey:aW (⟨upd S.c.r c r1,upd S.c.ch c (some {o with cl:=true,pend:=some (f,v)})⟩:o_) c={o with cl:=true,pend:=some (f,v)}:=by unfold aW;dsimp only;rw[upd_same];rfl
  refine h.next rfl rfl rfl bz (h.olds (.inr aj)) ac0 (λi hi=>?_) (λi h1 _=>upd_ne _ _ aj) (λ_ _=>rfl) (λi=>?_) (λi hi p x hx=>?_) (λi h1 h2=>?_) hG hT hH (aqX hsz'.symm) (λz h1 h2 h3=>?_) (λop hop=> .inr ⟨c,hc,TQ op hop⟩) (λop hop x hx RU=>?_) (λop hop x hx hwr=>?_) (λop hop _=>BD op hop _) (λop hop=>?_) ((still 0).trans h.d0) (λi hi=>(still _).trans (h.dW i hi)) (λi _ _=>still _)
   (λi hi hs=> .inl ⟨hs,λop hop e=>?_⟩) (λe=>?_) (h.xf adB rfl aaz) abd.1 abd.2.1 abd.2.2
  ·by_cases e:i=c
   ·subst e;refine⟨G fr1 cs1,get_map_set_same _ _ _ o8,?_⟩;dsimp only;rw[ey,hD,upd_same,upd_same];exact .shut hws rfl
   ·by_cases e2:i=c+1
    ·subst e2;exact qJ.2 hi
    ·obtain⟨x,hx,hs⟩:=h.wk i hi;have ak6:=h.le hi;refine⟨_,abB _ x aj hx,?_⟩;dsimp only;rw[hout i e,upd_ne _ _ e,upd_ne _ _ e,rμ_ne e2];have vy:=hG.fits i;rw[show(⟨upd S.c.r c r1,upd S.c.ch c (some {o with cl:=true,pend:=some (f,v)})⟩:o_).r i=S.c.r i from upd_ne _ _ e]at vy;have dC:0<i→dR (⟨upd S.c.r c r1,upd S.c.ch c (some {o with cl:=true,pend:=some (f,v)})⟩:o_) i=dR S.c i:=λh0=>hout (i- 1) aj;have hst:=hs.stay (w':=w') (h.dp.fits i) vy jk (λ_ h0=>by have:=hG.chan (i- 1) _ ((upd_ne _ _ aj).trans (h.eO aj));exact this) (.inl (hG.chan i _ ((upd_ne _ _ e).trans (h.eO hi)))) g (G fr1 cs1);rcases arG i with h0|h0
     ·subst h0;exact hst.adw _
     ·rw[dC h0];exact hst
  ·dsimp only;by_cases e:i=c
   ·subst e;rw[upd_same];exact⟨λ_=>by rw[R2];simp,λ_=>by simp⟩
   ·rw[upd_ne _ _ e]
  ·dsimp only at hx;by_cases e:i=c
   ·subst e;rw[ey]at hx;exact nI p x hx
   ·rw[hout i e]at hx;exact h.items i hi p x hx
  ·dsimp only;by_cases e:i=c
   ·subst e;rw[ey];exact⟨hw0 h1 h2,λ_=>⟨f,v,rfl,yh⟩⟩
   ·rw[hout i e];exact h.rT i h1 h2
  ·dsimp only at h3;by_cases e:z=c
   ·subst e;rw[ey]at h3;cases h3
   ·rw[hout z e]at h3;have hold:=h.mI z h1 h2 h3;unfold nu at hold⊢;dsimp only;split
    ·rename_i hz;rw[if_pos hz]at hold;by_cases e2:z+1=c
     ·subst e2;exact absurd hold ky
     ·rw[upd_ne _ _ e2,rμ_ne aj];exact hold
    ·rename_i hz;rw[if_neg hz]at hold;rw[Dm (by have:=h.le h1;omega)];exact hold
  ·obtain⟨ad,hl,_⟩:=RU;rw[(Ya op hop x hx).1]at hl;cases hl
  ·rw[(Ya op hop x hx).2.1]at hwr;cases hwr
  ·rcases gJ op hop with rfl|rfl
   ·rw[←hx1];show S.k c<_;rw[hsz'];exact KE
   ·rw[←hx2];show S.k c<_;rw[hsz'];exact KE
  ·rw[TQ op hop]at e;have:i=c:=by omega
   subst this;rw[show S.D i=⟨7,0,0⟩from hD]at hs;simp at hs
  ·have:S.tag= .ret:=by
    rcases aaz with h1|⟨_,h1⟩
    ·rw[←h1];exact e
    ·rw[show PM=CTag.ret from e]at h1;cases h1
   exact absurd this (h.LH p7 (by rw[hD];simp))
 ·exact kv p7 rfl rfl (λz hz=>by dsimp only;rw[upd_ne _ _ aj,rμ_ne aj]) (by dsimp only;rw[upd_same];exact hμ _ (Wt.Xb aj))
end
end Go.Upr
end
section
namespace Go.Upr
open Go.Conc
open Go.ConcN (upd upd_same upd_ne sumTo WD CTag WgLive ShN RelBy get_map_set get_map_set_same)
open Go.ConcR (KK WgAt stA smA rd wr mk DC0 Bk)
section
variable{X:Pl}{W:D1}{S:nY}{gs gs':Array aqi}{w w':aly}{t u:ap8}{c:Nat}{sl:Option (Nat×Nat)}
theorem PI.aaf(h:PI X W S gs w t){a a':aqi}{es:Array amp}(ha:gs[0]? =some a)(hgo:stepG X.P true a w= .go a' w' es){r1:bF}{cF:CTag}{lu:Bool}{dd':Nat}{μs' μr':Wt}
  (hG:lM X.P X.F S.k X.wg {S.c with r:=upd S.c.r (X.n+1) r1} w') (hT:Told (gid W.m X.n) {S.c with r:=upd S.c.r (X.n+1) r1} w' (t++ap6 0 a.frame.fn a.frame.place es))
  (hH:Handed S.k {S.c with r:=upd S.c.r (X.n+1) r1} (t++ap6 0 a.frame.fn a.frame.place es)) (hB:w.heap.size≤w'.heap.size)
  (hq: ∀op∈ap6 0 a.frame.fn a.frame.place es,∀x,op.act.touch?=some x→ShN X.wg x.loc→x.kind≠ .plain∧(x.kind= .said→op.g=0))
  (hck: ∀op∈ap6 0 a.frame.fn a.frame.place es,∀x,op.act.touch?=some x→x.write=true→∀i,i<S.j→¬iK (S.k i) x.loc)
  (hn: ∀op∈ap6 0 a.frame.fn a.frame.place es,∀a,op.act≠ .mark (.release a)) (hl: ∀op∈ap6 0 a.frame.fn a.frame.place es,op.act.low w'.heap.size)
  (sS:iv X S.j (aq0 (X.n+1) S.D) S.k (dR S.c (X.n+1)) r1 w' a' cF lu dd' μs' μr') (WS:deafBehind S.dd es=dd')
  (Xi:w'.tape=w.tape) (Xq:w'.os=w.os) (hop:w'.output=w.output) (jk:WgLive X.ty X.wg w')
  (ij: ∃st sm,WgAt X.ty X.wg w' st sm∧((lu=false∧st=0∧sm=0)∨(lu=true∧aqS (X.n+1) S.D cF st sm)))
  (vE:cF= .ret→AcqAll W.m X.n X.wg (t++ap6 0 a.frame.fn a.frame.place es)) (hlt:Wt.Lt μs' S.μs∨(μs'=S.μs∧Wt.Lt μr' S.μr)) (ky:μr'.1=12∨S.μr.1≠12):zy X W S gs w t sl 0:=by
 have hm:=h.m0;have hrun:=ar2 (P:=X.P) (sl:=sl) (i:=0) ha (show stepG X.P (0==0) a w=_ from hgo);have hr: ∀x,x≠X.n+1→upd S.c.r (X.n+1) r1 x=S.c.r x:=λx hx=>upd_ne _ _ hx;have h0l:0<gs.size:=(ad3.1 ha).1;refine⟨{S with c:={S.c with r:=upd S.c.r (X.n+1) r1},tag:=cF,added:=lu,dd:=dd',μs:=μs',μr:=μr'},_,w',_,hrun,?_,?_⟩
 ·refine h.next rfl rfl rfl bz (h.olds (.inl rfl)) ⟨a',get_map_set_same _ _ _ h0l,by dsimp only;rw[upd_same];exact sS⟩ (λi hi=>?_) (λi h1 h2=>hr i h2) (λ_ _=>rfl) (λ_=>Iff.rfl) h.items h.rT hG hT hH hB (λc h1 h2 h3=>?_)
   (λop hop=> .inl (dE hop)) hq hck hn hl ?_ (λi hi=>?_) (λi h0 h1=>?_) (λi hi hs=> .inl ⟨hs,λop hop e=>?_⟩) vE ij Xi Xq hop
  ·have dC:=h.le hi;obtain⟨x,hx,hs⟩:=h.wk i hi;refine⟨_,by rw[get_map_set _ _ _ _ aj,hx];rfl,?_⟩;dsimp only;rw[hr i aj];refine hs.stay (h.dp.fits i) (by have:=hG.fits i;rw[show({S.c with r:=upd S.c.r (X.n+1) r1}:o_).r i=S.c.r i from hr i aj]at this;exact this) (λ_=>jk) (λ_ h0=>?_) (.inl (hG.chan i _ (h.eO hi))) a a';rw[uf];exact hG.chan (i- 1) _ (h.eO aj)
  ·have hold:=h.mI c h1 h2 h3;unfold nu at hold⊢;dsimp only;split
   ·rename_i hc;rw[if_pos hc]at hold;exact hold
   ·rename_i hc;rw[if_neg hc]at hold;exact ky.elim id λh=>absurd hold h
  ·rw[Deaf_own,h.d0];exact WS
  ·rw[ara t (g':=0) aj _ λop hop=>dE hop,h.dW i hi]
  ·exact ara t (g':=0) aj _ λop hop=>dE hop
  ·have:=dE hop;omega
 ·rcases hlt with e|⟨e1,e2⟩
  ·exact Ek rfl e
  ·exact IY rfl e1 (λ_ _=>rfl) e2
theorem PI.Fw(h:PI X W S gs w t){a:aqi}(ha:gs[0]? =some a){fr:aoz}{cs:List aoz}{c:aly→Tr}{Stop:bF→aoz→List aoz→Prop}{μs' μr':Tr→Wt}(TJ:si a fr cs)(hw:Walk X.P true X.F Stop (.node c) (S.c.r (X.n+1)) fr cs)
  (hmk: ∀fr1 cs1 r1 w1 t1,Walk X.P true X.F Stop t1 r1 fr1 cs1→iv X S.j (aq0 (X.n+1) S.D) S.k (dR S.c (X.n+1)) r1 w1 (G fr1 cs1) S.tag S.added S.dd (μs' t1) (μr' t1)) (hnr:S.tag≠ .ret)
  (hlt: ∀t1,Tr.Lt t1 (.node c)→Wt.Lt (μs' t1) S.μs∨(μs' t1=S.μs∧Wt.Lt (μr' t1) S.μr)) (ky: ∀t1,(μr' t1).1=12∨S.μr.1≠12):zy X W S gs w t sl 0:=by
 obtain⟨fr1,cs1,w1,es,r1,h1,h2,h3,h4,h5⟩:=hw w (h.dp.fits (X.n+1));have eg:gid W.m X.n (X.n+1)=0:=u7;obtain⟨q1,q2,q3,q4,q5,q6,q7,q8,q9⟩:=h.own (p:=X.n+1) (fn:=a.frame.fn) (pos:=a.frame.place) h3 h2 h4;rw[eg]at q2 q3 q4 q5 q6 q7;have hgo:stepG X.P true a w= .go {frame:=fr1,callers:=cs1,status:= .running,dying:=none} w1 es:=by rw[TJ.step];exact h1
 obtain⟨st,sm,hwl⟩:=h.live;exact h.aaf (sl:=sl) ha hgo q1 q2 q3 h3.size q4 q5 q6 q7 (hmk fr1 cs1 r1 w1 (c w) h5) (q9 _) h3.tape h3.os h3.output ⟨st,sm,q8.trans hwl⟩ (h.xf q8 rfl (.inl rfl)) (λe=>absurd e hnr) (hlt _ (.child c w)) (ky _)
theorem PI.ab0(h:PI X W S gs w t){a a':aqi}{es:Array amp}(ha:gs[0]? =some a)(hgo:stepG X.P true a w= .go a' w' es)(hA:Aside X.wg w w'){bB C9:Int}(Bw:WgAt X.ty X.wg w' bB C9)(hes: ∀e∈es,Hu X.wg true e){cF:CTag}{lu:Bool}{dd':Nat}{μs' μr':Wt}
  (sS:iv X S.j (aq0 (X.n+1) S.D) S.k (dR S.c (X.n+1)) (S.c.r (X.n+1)) w' a' cF lu dd' μs' μr') (WS:deafBehind S.dd es=dd') (dv:(lu=false∧bB=0∧C9=0)∨(lu=true∧aqS (X.n+1) S.D cF bB C9))
  (vE:cF= .ret→AcqAll W.m X.n X.wg (t++ap6 0 a.frame.fn a.frame.place es)) (hlt:Wt.Lt μs' S.μs∨(μs'=S.μs∧Wt.Lt μr' S.μr)) (ky:μr'.1=12∨S.μr.1≠12):zy X W S gs w t sl 0:=by
 obtain⟨q1,q2,q3,q4,q5,q6,q7⟩:=h.KJ (G:=0) (fn:=a.frame.fn) (pos:=a.frame.place) hes (λ_=>rfl) hA.block hA.size;have er:upd S.c.r (X.n+1) (S.c.r (X.n+1))=S.c.r:=B6 _ _ rfl;exact h.aaf (sl:=sl) (r1:=S.c.r (X.n+1)) ha hgo (by rw[er];exact q1) (by rw[er];exact q2) (by rw[er];exact q3) (aqX hA.size.symm) q4 q5 q6 q7 sS WS hA.tape hA.os hA.output ⟨_,_,Bw⟩ ⟨bB,C9,Bw,dv⟩ vE hlt ky
end
end Go.Upr
end
section
namespace Go.Upr
open Go.Conc
open Go.ConcN (upd upd_same upd_ne sumTo WD CTag WgLive ShN RelBy Vc Vc_le isOpen isW3 isFin OpenSt AllQuit allQuit_of cnt pend bk_cell Mode.reopen Mode.open_inv Mode.fin_inv)
open Go.ConcR (KK WgAt stA smA rd wr mk DC0 Bk ofEvent_mk)
theorem Zf{j:Nat}{D:Nat→WD}{st sm:Int}(h:aqS j D .w3 st sm):(sm=0∧aqS j D .blk st sm)∨(st=0∧sm=1∧AllQuit j D):=by
 cases h with
 |opn h1 _ _=>exact h1.elim
 |reg h1 h2 h3=>exact .inl ⟨rfl,.reg trivial h2 h3⟩
 |last L h1 h2 h3 h4=>exact .inl ⟨rfl,.last L trivial h2 h3 h4⟩
 |sema h2=>exact .inr ⟨rfl,rfl,h2⟩
 |fin h1 _=>exact h1.elim
section
variable{X:Pl}{W:D1}{S:nY}{gs gs':Array aqi}{w w':aly}{t u:ap8}{c:Nat}{sl:Option (Nat×Nat)}
theorem vO{wg:Nat}{mn:Bool}{m:Mark}(h:m= .disable∨m= .enable∨m= .acquire (stA wg)∨m= .releaseMerge (stA wg)∨(mn=true∧(m= .read (smA wg)∨m= .write (smA wg)))): ∀e∈ #[mk m],Hu wg mn e:=by
 intro e he;simp at he;subst he;exact .inl ⟨m,rfl,h⟩
theorem FW{wg:Nat}{mn:Bool}: ∀e∈ #[rd (stA wg)],Hu wg mn e:=by
 intro e he;simp at he;subst he;exact .Ij (bk_cell _ _ rfl)
theorem Uw{wg:Nat}{mn:Bool}: ∀e∈ #[rd (stA wg),wr (stA wg)],Hu wg mn e:=by
 intro e he;simp at he;rcases he with rfl|rfl<;>exact .Ij (bk_cell _ _ rfl)
theorem ZJ{wg:Nat}{mn:Bool}: ∀e∈semEvents (smA wg),Hu wg mn e:=by
 intro e he;simp[semEvents]at he;rcases he with rfl|rfl|rfl|rfl
 ·exact .inl ⟨_,rfl,.inl rfl⟩
 ·exact .Ij (bk_cell _ _ rfl)
 ·exact .Ij (bk_cell _ _ rfl)
 ·exact .inl ⟨_,rfl,.inr (.inl rfl)⟩
theorem PI.IJ(h:PI X W S gs w t)(ok:X.Ok){a:aqi}(ha:gs[0]? =some a)(hj:S.j=X.n+1){eU:aqi→aly→Prop}
  (hA: ∀g w,eU g w→g.status= .running∧∃m,Goes X.P true (RM X.P X.F (S.c.r (X.n+1)) X.ty X.wg) DC0 (W1 X.P X.ty X.wg (RM X.P X.F (S.c.r (X.n+1)) X.ty X.wg) eU (ix X (S.c.r (X.n+1)))) m g w)
  {tag:CTag} {dd:Nat} {μ:Nat×Nat} (hw:kC X (Vc (X.n+1) S.D) (S.c.r (X.n+1)) w eU a tag dd μ) (iH:S.tag=tag) (hdd:S.dd=dd) (hμs:S.μs=(0,0,.leaf)) (hμr: ∀ν,Wt.Lt ν (2,μ.1,.ofNat μ.2)→Wt.Lt ν S.μr) (ky:S.μr.1≠12) (hrun:a.status= .running):
  zy X W S gs w t sl 0∨(S.tag= .ret∧ix X (S.c.r (X.n+1)) a w):=by
 obtain⟨st,sm,ij,dv⟩:=h.mode (i:=0) aj;have hVn:=Vc_le (X.n+1) S.D;have hsm:=ok.small;rw[iH]at dv;have book: ∀ {a':aqi} {w':aly} {es:Array amp} {cF:CTag} {dd':Nat} {μ':Nat×Nat} {bB C9:Int},stepG X.P true a w= .go a' w' es→Aside X.wg w w'→WgAt X.ty X.wg w' bB C9→(∀e∈es,Hu X.wg true e)→
   kC X (Vc (X.n+1) S.D) (S.c.r (X.n+1)) w' eU a' cF dd' μ'→deafBehind dd es=dd'→aqS (X.n+1) S.D cF bB C9→(cF= .ret→AcqAll W.m X.n X.wg (t++ap6 0 a.frame.fn a.frame.place es))→(μ'.1<μ.1∨(μ'.1=μ.1∧μ'.2+1=μ.2))→zy X W S gs w t sl 0:=by
  intro a' w' es cF dd' μ' bB C9 hgo hAs Bw hes hs' hd z6 vE hlt;refine h.ab0 ha hgo hAs Bw hes (.wait eU hj hA hs') (by rw[hdd];exact hd) (.inr ⟨rfl,z6⟩) vE (.inr ⟨hμs.symm,?_⟩) (.inr ky);refine hμr _ ?_;rcases hlt with e|⟨e1,e2⟩
  ·exact Wt.Kf e
  ·rw[e1,←e2];exact Wt.Sk (Tr.ofNat_lt _)
 have idle: ∀ {a':aqi} {μ':Nat×Nat},stepG X.P true a w= .go a' w #[]→kC X (Vc (X.n+1) S.D) (S.c.r (X.n+1)) w eU a' tag dd μ'→μ'.1=μ.1→μ'.2+1=μ.2→zy X W S gs w t sl 0:=by
  intro a' μ' hgo hs' e1 e2;exact book hgo (.refl _ w) ij bz hs' rfl dv (λe=>by have:=h.acq (iH.trans e);rw[eR];simpa using this) (.inr ⟨e1,e2⟩)
 have w1: ∀ {N:Nat},(8*Vc (X.n+1) S.D+5<μ.1∨(8*Vc (X.n+1) S.D+5=μ.1∧N=μ.2))→dd=1→aqS (X.n+1) S.D .w1 st sm→Goes X.P true (RM X.P X.F (S.c.r (X.n+1)) X.ty X.wg) DC0 (W1 X.P X.ty X.wg (RM X.P X.F (S.c.r (X.n+1)) X.ty X.wg) eU (ix X (S.c.r (X.n+1)))) N a w→zy X W S gs w t sl 0:=by
  intro N hle Ko dv hG;subst Ko;rcases art hG with dn|⟨m',rfl,hstep⟩
  ·obtain⟨_,hall⟩:=dn w (.refl w);obtain⟨ho,rfl,rfl,_⟩:=dv.open_inv trivial;obtain⟨a',hgo,h0,hne⟩:=hall (Vc (X.n+1) S.D) aj (by simpa[pend]using ij);by_cases hv:Vc (X.n+1) S.D=0
   ·obtain⟨m₂,hk⟩:=h0 hv;refine book hgo (.refl _ w) ij FW (.ke hk) rfl ?_ bz (.inl (by dsimp only;omega));have e:((Vc (X.n+1) S.D+pend .w1:Nat):Int)*KK=0:=by rw[hv];simp[pend]
    rw[e];exact .fin trivial (allQuit_of ho hv)
   ·obtain⟨m₂,hk⟩:=hne hv;exact book hgo (.refl _ w) ij FW (.w2 hk) rfl (dv.reopen trivial trivial rfl (λvs e=>by cases e;omega)) bz (.inl (by dsimp only;omega))
  ·obtain⟨a',w',es,hgo,⟨rfl,rfl⟩,jW⟩:=hstep w (.refl w);exact book hgo (.refl _ w') ij bz (.w1 jW) rfl dv bz (hle.imp id λe=>⟨e.1,by dsimp only;exact e.2⟩)
 cases hw with
 |kd hG=>
  rcases art hG with dn|⟨m',rfl,hstep⟩
  ·obtain⟨_,a',hgo,m₂,hk⟩:=dn w (.refl w);exact .inl (book hgo (.refl _ w) ij (vO (.inl rfl)) (.anch hk) rfl (dv.reopen trivial trivial rfl bz) bz (.inl (by dsimp only;omega)))
  ·obtain⟨a',w',es,hgo,⟨rfl,rfl⟩,jW⟩:=hstep w (.refl w);exact .inl (idle hgo (.kd jW) rfl rfl)
 |anch hG=>
  rcases art hG with dn|⟨m',rfl,hstep⟩
  ·obtain⟨_,m₂,hk⟩:=hA a w (dn w (.refl w));exact .inl (w1 (.inl (by dsimp only;omega)) rfl (dv.reopen trivial trivial rfl bz) hk)
  ·obtain⟨a',w',es,hgo,⟨rfl,rfl⟩,jW⟩:=hstep w (.refl w);exact .inl (idle hgo (.anch jW) rfl rfl)
 |w1 hG=>exact .inl (w1 (.inr ⟨rfl,rfl⟩) rfl dv hG)
 |w2 hG=>
  rename_i N vs;rcases art hG with dn|⟨m',rfl,hstep⟩
  ·obtain⟨_,hall⟩:=dn w (.refl w);obtain⟨ho,rfl,rfl,hw2⟩:=dv.open_inv trivial;obtain⟨hle,h1⟩:=hw2 vs rfl;obtain⟨ah7,agk⟩:=hall (Vc (X.n+1) S.D) aj (by simpa[pend]using ij);by_cases e:Vc (X.n+1) S.D=vs
   ·obtain⟨a',hgo,m₂,hk⟩:=ah7 e;exact .inl (book hgo (aru w (stA X.wg) _) (ij.setSt _) Uw (.said hk) rfl (.reg trivial ho aj) bz (.inl (by dsimp only;omega)))
   ·obtain⟨a',hgo,m₂,hk⟩:=agk e;exact .inl (book hgo (.refl _ w) ij FW (.anch hk) rfl (dv.reopen trivial trivial rfl bz) bz (.inl (by dsimp only;omega)))
  ·obtain⟨a',w',es,hgo,⟨rfl,rfl⟩,jW⟩:=hstep w (.refl w);exact .inl (idle hgo (.w2 jW) rfl rfl)
 |said hG=>
  rcases art hG with dn|⟨m',rfl,hstep⟩
  ·obtain⟨_,a',hgo,m₂,hk⟩:=dn w (.refl w);exact .inl (book hgo (.refl _ w) ij (vO (.inr (.inr (.inr (.inr ⟨rfl,.inr rfl⟩))))) (.w3 hk) rfl dv bz (.inl (by dsimp only;omega)))
  ·obtain⟨a',w',es,hgo,⟨rfl,rfl⟩,jW⟩:=hstep w (.refl w);exact .inl (idle hgo (.said jW) rfl rfl)
 |w3 hG=>
  rcases art hG with dn|⟨m',rfl,hstep⟩
  ·obtain⟨_,qg,hblk,nD⟩:=dn w (.refl w);rcases Zf dv with⟨rfl,z6⟩|⟨rfl,rfl,hq⟩
   ·exact .inl (h.ab0 ha (hblk ⟨_,ij⟩) (.refl _ w) ij bz (.wait eU hj hA (.blk dn)) (by rw[hdd];rfl) (.inr ⟨rfl,z6⟩) bz (.inr ⟨hμs.symm,hμr _ (Wt.Kf (by dsimp only;omega))⟩) (.inr ky))
   ·obtain⟨a',hgo,m₂,hk⟩:=nD ij;exact .inl (book hgo (aru w (smA X.wg) _) (ij.setSm 0) ZJ (.w4 hk) (by simp[deafBehind,semEvents]) (.fin trivial hq) bz (.inl (by dsimp only;omega)))
  ·obtain⟨a',w',es,hgo,⟨rfl,rfl⟩,jW⟩:=hstep w (.refl w);exact .inl (idle hgo (.w3 jW) rfl rfl)
 |blk h=>cases hrun
 |w4 hG=>
  rcases art hG with dn|⟨m',rfl,hstep⟩
  ·obtain⟨_,hx⟩:=dn w (.refl w);obtain⟨hq,rfl,rfl⟩:=dv.fin_inv trivial;obtain⟨a',hgo,m₂,hk⟩:=hx ij;exact .inl (book hgo (.refl _ w) ij FW (.ke hk) rfl (.fin trivial hq) bz (.inl (by dsimp only;omega)))
  ·obtain⟨a',w',es,hgo,⟨rfl,rfl⟩,jW⟩:=hstep w (.refl w);exact .inl (idle hgo (.w4 jW) rfl rfl)
 |ke hG=>
  rcases art hG with dn|⟨m',rfl,hstep⟩
  ·obtain⟨_,a',hgo,m₂,hk⟩:=dn w (.refl w);obtain⟨hq,rfl,rfl⟩:=dv.fin_inv trivial;exact .inl (book hgo (.refl _ w) ij (vO (.inr (.inl rfl))) (.acq hk) rfl (.fin trivial hq) bz (.inl (by dsimp only;omega)))
  ·obtain⟨a',w',es,hgo,⟨rfl,rfl⟩,jW⟩:=hstep w (.refl w);exact .inl (idle hgo (.ke jW) rfl rfl)
 |acq hG=>
  rcases art hG with dn|⟨m',rfl,hstep⟩
  ·obtain⟨_,a',hgo,m₂,hk⟩:=dn w (.refl w);obtain⟨hq,rfl,rfl⟩:=dv.fin_inv trivial;refine .inl (book hgo (.refl _ w) ij (vO (.inr (.inr (.inl rfl)))) (.fin hk) rfl (.fin trivial hq) (λ_=>?_) (.inl (by dsimp only;omega)));have e1:ap6 0 a.frame.fn a.frame.place #[ase (.acquire (stA X.wg))]= #[{g:=0,fn:=a.frame.fn,pos:=a.frame.place,act:= .mark (.acquire (stA X.wg))}]:=by rw[asa];simp[ofEvent_mk]
   have hy:(t++ #[({g:=0,fn:=a.frame.fn,pos:=a.frame.place,act:= .mark (.acquire (stA X.wg))}:ar5)])[t.size]? =some {g:=0,fn:=a.frame.fn,pos:=a.frame.place,act:= .mark (.acquire (stA X.wg))}:=by simp
   have hd0:arf t 0=0:=by rw[h.d0,hdd]
   refine⟨t.size,by rw[e1,act?_of hy],by rw[e1];simp[aq7],by rw[e1];exact⟨0,by simp[aq7],by rw[deaf_old (agl _)];exact hd0⟩,λi hi=>?_⟩;obtain⟨r,hr⟩:=h.rel i aj (by rw[hq i hi];omega);exact⟨r,qA hr λop hop e=>by have:=dE hop;have:=h.m0;omega,lt_of_act? hr.act⟩
  ·obtain⟨a',w',es,hgo,⟨rfl,rfl⟩,jW⟩:=hstep w (.refl w);exact .inl (idle hgo (.acq jW) rfl rfl)
 |fin hG=>
  rcases art hG with dn|⟨m',rfl,hstep⟩
  ·exact .inr ⟨iH,dn w (.refl w)⟩
  ·obtain⟨a',w',es,hgo,⟨rfl,rfl⟩,jW⟩:=hstep w (.refl w);exact .inl (idle hgo (.fin jW) rfl rfl)
end
end Go.Upr
end
section
namespace Go.Upr
open Go.Conc
open Go.ConcN (upd upd_same upd_ne sumTo WD CTag WgLive ShN RelBy Deaf_still Deaf_absent)
open Go.ConcR (KK WgAt stA smA)
theorem J8{t:ap8}{k:Nat}{x y:ar5}(hx:x.g=0∧x.act= .go k)(hy:y.g=k∧y.act= .start)(h0:arf t 0=0)(hk:arf t k=0){i:Nat}(h:asb t 0 i):asb (t++ #[x,y]) k i:=asf hx hy h0 hk h
section
variable{X:Pl}{k:Nat→Nat}{wg:Nat}{c:o_}{w:aly}
theorem lM.spawn(h:lM X.P X.F k wg c w){j p b:Nat}{rc rm:bF}(hj:c.ch j=none)(hjr: ∀x,¬(c.r j).Has x)(hpj:p≠j)(hp:zD X (c.r p) b rc rm):lM X.P X.F (upd k j b) wg ⟨upd (upd c.r j rc) p rm,upd c.ch j (some uS)⟩ w:=by
 have hb:(c.r p).Own b:= .inl (by rw[hp.chan];simp);have own: ∀i x,(upd (upd c.r j rc) p rm i).Own x→((i=p∨i=j)∧(c.r p).Own x∧x≠b)∨(i≠p∧i≠j∧(c.r i).Own x):=by
  intro i x hx;by_cases e1:i=p
  ·subst e1;rw[upd_same]at hx;obtain⟨q1,q2,_⟩:=hp.Fw x hx;exact .inl ⟨.inl rfl,q1,q2⟩
  ·rw[upd_ne _ _ e1]at hx;by_cases e2:i=j
   ·subst e2;rw[upd_same]at hx;obtain⟨q1,q2,_⟩:=hp.aa7 x hx;exact .inl ⟨.inr rfl,q1,q2⟩
   ·rw[upd_ne _ _ e2]at hx;exact .inr ⟨e1,e2,hx⟩
 have has: ∀i x,(upd (upd c.r j rc) p rm i).Has x→((i=p∨i=j)∧(c.r p).Has x∧x≠b)∨(i≠p∧i≠j∧(c.r i).Has x):=by
  intro i x hx;rcases hx with hx|hx
  ·rcases own i x hx with⟨q1,q2,q3⟩|⟨q1,q2,q3⟩
   ·exact .inl ⟨q1,.inl q2,q3⟩
   ·exact .inr ⟨q1,q2,.inl q3⟩
  ·by_cases e1:i=p
   ·subst e1;rw[upd_same]at hx;obtain⟨q1,q2⟩:=hp.sM x hx;exact .inl ⟨.inl rfl,q1,q2⟩
   ·rw[upd_ne _ _ e1]at hx;by_cases e2:i=j
    ·subst e2;rw[upd_same]at hx;obtain⟨q1,q2⟩:=hp.sC x hx;exact .inl ⟨.inr rfl,q1,q2⟩
    ·rw[upd_ne _ _ e2]at hx;exact .inr ⟨e1,e2,.inr hx⟩
 have old: ∀i z,upd c.ch j (some uS) i=some z→(i=j∧z=uS)∨(i≠j∧c.ch i=some z):=by
  intro i z hz;by_cases e:i=j
  ·subst e;rw[upd_same]at hz;cases hz;exact .inl ⟨rfl,rfl⟩
  ·rw[upd_ne _ _ e]at hz;exact .inr ⟨e,hz⟩
 have fits:=hp.fits w (h.fits p);refine⟨λi=>?_,λi i' x hii hx kx=>?_,λi z hz=>?_,λi z hz=>?_,λi z j' hz hx=>?_,λi i' z z' hz hz' e=>?_,h.Br,λi hx=>?_,λi z hz e=>?_,λi z f v hz uM=>?_,λi z f v a x hz uM hab=>?_⟩
 ·dsimp only;by_cases e1:i=p
  ·subst e1;rw[upd_same];exact fits.2
  ·rw[upd_ne _ _ e1];by_cases e2:i=j
   ·subst e2;rw[upd_same];exact fits.1
   ·rw[upd_ne _ _ e2];exact h.fits i
 ·dsimp only at hx kx;rcases own i x hx with⟨q1,q2,q3⟩|⟨q1,q2,q3⟩
  ·rcases has i' x kx with⟨s1,s2,s3⟩|⟨s1,s2,s3⟩
   ·rcases q1 with rfl|rfl<;>rcases s1 with rfl|rfl
    ·exact hii rfl
    ·rw[upd_same]at hx;rw[upd_ne _ _ (arz hpj),upd_same]at kx;exact(hp.Fw x hx).2.2 kx
    ·rw[upd_ne _ _ (arz hpj),upd_same]at hx;rw[upd_same]at kx;exact(hp.aa7 x hx).2.2 kx
    ·exact hii rfl
   ·exact h.sep p i' x (λe=>s1 e.symm) q2 s3
  ·rcases has i' x kx with⟨s1,s2,s3⟩|⟨s1,s2,s3⟩
   ·exact h.sep i p x q1 q3 s2
   ·exact h.sep i i' x hii q3 s3
 ·dsimp only at hz;rcases old i z hz with⟨rfl,rfl⟩|⟨e,hz⟩
  ·rw[upd_same];exact(h.fits p).e _ _ hp.chan
  ·rw[upd_ne _ _ e];exact h.chan i z hz
 ·rcases old i z hz with⟨rfl,rfl⟩|⟨e,hz⟩
  ·exact agl _
  ·exact h.Sj i z hz
 ·dsimp only at hx;rcases old i z hz with⟨rfl,rfl⟩|⟨e,hz⟩
  ·rw[upd_same]at hx;rcases has j' b hx with⟨_,_,s3⟩|⟨s1,_,s3⟩
   ·exact s3 rfl
   ·exact h.sep p j' b (λe=>s1 e.symm) hb s3
  ·rw[upd_ne _ _ e]at hx;rcases has j' _ hx with⟨_,s2,_⟩|⟨_,_,s3⟩
   ·exact h.free i z p hz s2
   ·exact h.free i z j' hz s3
 ·rcases old i z hz with⟨u1,_⟩|⟨e1,hz1⟩<;>rcases old i' z' hz' with⟨u2,_⟩|⟨e2,hz2⟩
  ·exact u1.trans u2.symm
  ·rw[u1,upd_same,upd_ne _ _ e2]at e;exact absurd (.inl (e▸hb)) (h.free i' z' p hz2)
  ·rw[u2,upd_same,upd_ne _ _ e1]at e;exact absurd (.inl (e▸hb)) (h.free i z p hz1)
  ·rw[upd_ne _ _ e1,upd_ne _ _ e2]at e;exact h.inj i i' z z' hz1 hz2 e
 ·rcases has i wg hx with⟨_,s2,_⟩|⟨_,_,s3⟩
  ·exact h.jO p s2
  ·exact h.jO i s3
 ·rcases old i z hz with⟨rfl,rfl⟩|⟨e1,hz⟩
  ·rw[upd_same]at e;exact h.jO p (.inl (e▸hb))
  ·rw[upd_ne _ _ e1]at e;exact h.Ab i z hz e
 ·rcases old i z hz with⟨rfl,rfl⟩|⟨e1,hz⟩
  ·cases uM
  ·exact h.pend i z f v hz uM
 ·rcases old i z hz with⟨rfl,rfl⟩|⟨e1,hz⟩
  ·cases uM
  ·obtain⟨p1,p2,p3,p4⟩:=h.f_ i z f v a x hz uM hab;refine⟨λj' hx=>?_,p2,λj' z' hz' e=>?_,λj' z' f' v' a' hj' hz' vC=>?_⟩
   ·rcases has j' x hx with⟨_,s2,_⟩|⟨_,_,s3⟩
    ·exact p1 p s2
    ·exact p1 j' s3
   ·rcases old j' z' hz' with⟨rfl,rfl⟩|⟨e2,hz'⟩
    ·rw[upd_same]at e;exact p1 p (.inl (e▸hb))
    ·rw[upd_ne _ _ e2]at e;exact p3 j' z' hz' e
   ·rcases old j' z' hz' with⟨rfl,rfl⟩|⟨e2,hz'⟩
    ·cases vC
    ·exact p4 j' z' f' v' a' hj' hz' vC
end
section
variable{X:Pl}{W:D1}{S:nY}{gs:Array aqi}{w:aly}{t:ap8}{sl:Option (Nat×Nat)}
theorem PI.Eg(h:PI X W S gs w t){q:Nat}(hq:S.j+(q+1)=X.n+1){a:aqi}{fr:aoz}{cs:List aoz}(ha:gs[0]? =some a)(hr:si a fr cs)(hs:jB X (q+1) S.j S.k (S.c.r (X.n+1)) fr cs)(iH:S.tag= .kd)(had:S.added=true)(hdd:S.dd=0)
  (hμ: ∀ν,Wt.Lt ν (1,q+1,.leaf)→Wt.Lt ν S.μs):zy X W S gs w t sl 0:=by
 have hm:=h.m0;obtain⟨b,fr',cs',SP,rc,rm,hstep,pS,hc0,hcj,⟨tm,hwm⟩⟩:=hs;have hjn:S.j≤X.n:=by omega
 have ah4:S.c.ch S.j=none:=by
  cases TT:S.c.ch S.j with
  |none=>rfl
  |some z=>exact absurd ((h.XM S.j).1 (by rw[TT];simp)) aj
 have agv:=h.off S.j (agl _) aj;have hDj:=h.stage S.j (agl _);have hsp:stepG X.P (0==0) a w= .spawn (G fr' cs') (G SP []) w #[]:=by show stepG X.P true a w=_;rw[hr.step];exact hstep w (h.dp.fits _)
 have hrun:=runT_crowd_spawn (P:=X.P) (sl:=sl) (i:=0) ha hsp;rw[eR]at hrun;have hsz:=h.size;generalize hx:({g:=0,fn:=a.frame.fn,pos:=a.frame.place,act:= .go gs.size}:ar5)=x at hrun;generalize hy:({g:=gs.size,fn:=(G SP []).frame.fn,pos:=a.frame.place,act:= .start}:ar5)=y at hrun;have kx:x.g=0∧x.act= .go (W.m+S.j):=by rw[←hx,hsz];exact⟨rfl,rfl⟩
 have hy':y.g=W.m+S.j∧y.act= .start:=by rw[←hy,hsz];exact⟨rfl,rfl⟩
 have eu:((#[]:ap8).push x).push y= #[x,y]:=rfl;rw[eu]at hrun;have gJ: ∀op∈(#[x,y]:ap8),op=x∨op=y:=λop hop=>by simpa using hop
 have hnt: ∀op∈(#[x,y]:ap8),op.act.touch?=none:=λop hop=>by
  rcases gJ op hop with rfl|rfl
  ·rw[kx.2];rfl
  ·rw[hy'.2];rfl
 have BD: ∀op∈(#[x,y]:ap8),∀m,op.act≠ .mark m:=λop hop m=>by
  rcases gJ op hop with rfl|rfl
  ·rw[kx.2];simp
  ·rw[hy'.2];simp
 have still: ∀g,arf (t++ #[x,y]) g=arf t g:=λg=>Deaf_still t g _ λop hop=>⟨BD op hop _,BD op hop _⟩;have hd0:arf t 0=0:=by rw[h.d0,hdd]
 have hdj:arf t (W.m+S.j)=0:=Deaf_absent λi op hop e=>by
  have:=h.gs op (Array.mem_of_getElem? hop);omega
 have fk: ∀ {i:Nat},asb t 0 i→asb (t++ #[x,y]) (W.m+S.j) i:=λhk=>J8 kx hy' hd0 hdj hk;have WC: ∀i x',touchAt (t++ #[x,y]) i=some x'→touchAt t i=some x':=λi x' S7=>by
  rcases dA S7 with h1|⟨op,h1,_,h3⟩
  ·exact h1
  ·rw[hnt op h1]at h3;cases h3
 have LP: ∀said,¬Race said (t++ #[x,y]):=by
  rintro said ⟨i,j,tX,⟨p,p',hp,Nw,hc⟩,n1,n2⟩;exact h.told.clean said ⟨i,j,tX,⟨p,p',WC i p hp,WC j p' Nw,hc⟩,λe=>n1 (ar8 _ e),λe=>n2 (ar8 _ e)⟩
 have e0:gid W.m X.n (X.n+1)=0:=u7;have ej:gid W.m X.n S.j=W.m+S.j:=kN hjn;have XY: ∀x,(S.c.r (X.n+1)).Own x→Kn t 0 x:=λx hx=>e0▸h.told.own (X.n+1) x hx;have aeg: ∀x,(S.c.r (X.n+1)).Has x→NM t 0 x:=λx hx=>hx.elim (λhx=>(XY x hx).w) λhx=>e0▸h.told.read (X.n+1) x hx;have hG:=h.dp.spawn ah4 agv.1 (p:=X.n+1) aj pS;have agA:(S.c.r (X.n+1)).Own b:= .inl (by rw[pS.chan];simp);have rne: ∀i,i≠X.n+1→i≠S.j→upd (upd S.c.r S.j rc) (X.n+1) rm i=S.c.r i:=λi h1 h2=>by rw[upd_ne _ _ h1,upd_ne _ _ h2]
 have rj:upd (upd S.c.r S.j rc) (X.n+1) rm S.j=rc:=by rw[upd_ne _ _ aj,upd_same]
 have rM:upd (upd S.c.r S.j rc) (X.n+1) rm (X.n+1)=rm:=upd_same _ _ _;have aax: ∀ {g b'},Kn t g b'→Kn (t++ #[x,y]) g b':=λhk=>hk.app λop hop x hx _=>by rw[hnt op hop]at hx;cases hx
 have LN: ∀ {g b'},NM t g b'→NM (t++ #[x,y]) g b':=λhk=>hk.app λop hop x hx _ _=>by rw[hnt op hop]at hx;cases hx
 have Up: ∀ {b'},Kn t 0 b'→Kn (t++ #[x,y]) (W.m+S.j) b':=λhk i x' S7 hl=>fk (hk i x' (WC i x' S7) hl);have Zz: ∀ {b'},NM t 0 b'→NM (t++ #[x,y]) (W.m+S.j) b':=λhk i x' S7 hl hw=>fk (hk i x' (WC i x' S7) hl hw);have hT:Told (gid W.m X.n) ⟨upd (upd S.c.r S.j rc) (X.n+1) rm,upd S.c.ch S.j (some uS)⟩ w (t++ #[x,y]):=by
  refine⟨LP,λi b' hb=>?_,λi b' hb=>?_,h.told.low.app λop hop x hx b hl=>by rw[hnt op hop]at hx;cases hx⟩
  ·dsimp only at hb;by_cases e1:i=X.n+1
   ·subst e1;rw[rM]at hb;rw[e0];exact aax (XY b' (pS.Fw b' hb).1)
   ·by_cases e2:i=S.j
    ·subst e2;rw[rj]at hb;rw[ej];exact Up (XY b' (pS.aa7 b' hb).1)
    ·rw[rne i e1 e2]at hb;exact aax (h.told.own i b' hb)
  ·dsimp only at hb;by_cases e1:i=X.n+1
   ·subst e1;rw[rM]at hb;rw[e0];exact LN (aeg b' (pS.sM b' hb).1)
   ·by_cases e2:i=S.j
    ·subst e2;rw[rj]at hb;rw[ej];exact Zz (aeg b' (pS.sC b' hb).1)
    ·rw[rne i e1 e2]at hb;exact LN (h.told.read i b' hb)
 have SZ: ∀i,i<S.j→aW (⟨upd (upd S.c.r S.j rc) (X.n+1) rm,upd S.c.ch S.j (some uS)⟩:o_) i=aW S.c i:=λi hi=>by unfold aW;dsimp only;rw[upd_ne _ _ aj]
 have XZ:aW (⟨upd (upd S.c.r S.j rc) (X.n+1) rm,upd S.c.ch S.j (some uS)⟩:o_) S.j=uS:=by unfold aW;dsimp only;rw[upd_same];rfl
 have kO: ∀i,i<S.j→upd S.k S.j b i=S.k i:=λi hi=>upd_ne _ _ aj;have h0l:0<gs.size:=(ad3.1 ha).1;have gsO: ∀i,i≠0→i<gs.size→((gs.setIfInBounds 0 (G fr' cs')).push (G SP []))[i]? =gs[i]? :=λi hi hl=>by
  rw[ar0 (by simpa using hl),←arZ (by simpa using hl),als (arz hi)]
 have gs0:((gs.setIfInBounds 0 (G fr' cs')).push (G SP []))[0]? =some (G fr' cs'):=by
  rw[ar0 (by simpa using h0l),←arZ (by simpa using h0l),alC h0l]
 have gsJ:((gs.setIfInBounds 0 (G fr' cs')).push (G SP []))[W.m+S.j]? =some (G SP []):=by
  rw[←hsz,show gs.size=(gs.setIfInBounds 0 (G fr' cs')).size by simp,Array.getElem?_push_size]
 obtain⟨νc,ais,ac4⟩: ∃νc,(0<S.j→νc.1=12)∧wG X S.j (upd S.k S.j b (S.j- 1)) b (dR (⟨upd (upd S.c.r S.j rc) (X.n+1) rm,upd S.c.ch S.j (some uS)⟩:o_) S.j) uS rc w (G SP []) ⟨7,0,0⟩ νc:=by
  rcases arG S.j with e|e
  ·obtain⟨tc,hwc⟩:=hc0 e;exact⟨_,λe'=>by omega,.work (jm _ _) (by rw[e];exact hwc) ⟨rfl,rfl⟩⟩
  ·obtain⟨tc,hwc⟩:=hcj e;have dC:dR (⟨upd (upd S.c.r S.j rc) (X.n+1) rm,upd S.c.ch S.j (some uS)⟩:o_) S.j=aW S.c (S.j- 1):=SZ (S.j- 1) aj;obtain⟨ahK,Xn⟩:=h.rT (S.j- 1) aj hjn;rw[dC,kO (S.j- 1) aj];exact⟨_,λ_=>rfl,.recv e (jm _ _) (by rw[ahK];exact hwc) ⟨rfl,rfl⟩ Xn⟩
 obtain⟨νs,νr,hlt,Dm,TL⟩: ∃νs νr,Wt.Lt νs (1,q+1,.leaf)∧(S.j=X.n→νr.1=12)∧iv X (S.j+1) (aq0 (X.n+1) S.D) (upd S.k S.j b) (dR (⟨upd (upd S.c.r S.j rc) (X.n+1) rm,upd S.c.ch S.j (some uS)⟩:o_) (X.n+1)) rm w (G fr' cs') .kd true 0 νs νr:=by
  cases q with
  |zero=>
   have ejn:S.j=X.n:=by omega
   have dC:dR (⟨upd (upd S.c.r S.j rc) (X.n+1) rm,upd S.c.ch S.j (some uS)⟩:o_) (X.n+1)=uS:=by
    show aW _ X.n=uS;rw[←ejn];exact XZ
   rw[dC];exact⟨(0,0,.leaf),_,Wt.Xb aj,λ_=>rfl,.recv aj (jm _ _) hwm (λe=>by cases e)⟩
  |succ q=>exact⟨(1,q+1,tm),_,Wt.Kf aj,λe=>by omega,.spawn aj (jm _ _) hwm⟩
 refine⟨{S with c:=⟨upd (upd S.c.r S.j rc) (X.n+1) rm,upd S.c.ch S.j (some uS)⟩,k:=upd S.k S.j b,j:=S.j+1,μ:=upd S.μ S.j νc,μs:=νs,μr:=νr},_,w,_,hrun,?_,Ek rfl (hμ νs hlt)⟩
 refine{
  m0:=hm
  size:=by simp;omega
  Sm:=by dsimp only;omega
  main:=⟨_,gs0,by dsimp only;rw[rM,iH,had,hdd];exact TL⟩
  old:=λi g h0 hi hg=>by rw[gsO i aj aj]at hg;rw[still];exact h.old i g h0 hi hg
  wk:=λi hi=>?_
  off:=λi h1 h2=>by dsimp only at h1⊢;rw[rne i h2 aj];exact h.off i aj h2
  stage:=λi h1=>h.stage i (by dsimp only at h1;omega)
  XM:=λi=>?_
  dp:=hG
  told:=hT
  handed:=?_
  XN:=λi hi=>?_
  items:=λi hi p x hx=>?_
  rT:=λi h1 h2=>?_
  mI:=λz h1 h2 h3=>?_
  quiet:=h.quiet.app λop hop x hx _=>by rw[hnt op hop]at hx;cases hx
  norel:=λop hop=>(aoi.1 hop).elim (h.norel op) λh1 _=>BD op h1 _
  low:=λop hop=>(aoi.1 hop).elim (h.low op) λh1=>by
   rcases gJ op h1 with rfl|rfl
   ·rw[kx.2];trivial
   ·rw[hy'.2];trivial
  gs:=λop hop=>by
   rcases aoi.1 hop with h1|h1
   ·have:=h.gs op h1;dsimp only;omega
   ·rcases gJ op h1 with rfl|rfl
    ·rw[kx.1];dsimp only;omega
    ·rw[hy'.1];dsimp only;omega
  d0:=(still 0).trans h.d0
  dW:=λi hi=>?_
  rel:=λi hi hs=>?_
  over:=λz g hzg hne hlt Dq=>?_
  acq:=λe=>by rw[show S.tag=_ from iH]at e;cases e
  wI:=h.wI
  tape:=h.tape
  os:=h.os
  output:=h.output}
 ·dsimp only at hi⊢;by_cases e:i=S.j
  ·subst e;exact⟨_,gsJ,by rw[rj,XZ,hDj,upd_same,upd_same];exact ac4⟩
  ·obtain⟨g,hg,hs⟩:=h.wk i aj;refine⟨g,by rw[gsO _ aj aj];exact hg,?_⟩;rw[rne i aj e,SZ i aj,kO i aj,upd_ne S.μ _ e];rcases arG i with h0|h0
   ·subst h0;rw[kO 0 aj];exact hs.adw _
   ·have:dR (⟨upd (upd S.c.r S.j rc) (X.n+1) rm,upd S.c.ch S.j (some uS)⟩:o_) i=dR S.c i:=SZ (i- 1) aj;rw[this,kO (i- 1) aj];exact hs
 ·dsimp only;by_cases e:i=S.j
  ·subst e;rw[upd_same];simp
  ·rw[upd_ne _ _ e,h.XM i];omega
 ·intro i z f v hz uM;dsimp only at hz;by_cases e:i=S.j
  ·subst e;rw[upd_same]at hz;cases hz;cases uM
  ·rw[upd_ne _ _ e]at hz;dsimp only;rw[upd_ne _ _ e];obtain⟨p,op,i1,i2,i3,i4⟩:=h.handed i z f v hz uM;have hlt:=aqp i1;exact⟨p,op,by rw[ar4 hlt];exact i1,i2,(heard_old hlt).2 i3,λa b hab j y hy hl=>(i4 a b hab j y (WC j y hy) hl).app _⟩
 ·dsimp only at hi⊢;by_cases e:i=S.j
  ·subst e;rw[upd_same];exact(Up (XY b agA)).w
  ·rw[upd_ne _ _ e];exact LN (h.XN i aj)
 ·dsimp only at hi hx;by_cases e:i=S.j
  ·subst e;rw[XZ]at hx;simp[uS]at hx
  ·rw[SZ i aj]at hx;exact h.items i aj p x hx
 ·dsimp only at h1 h2⊢;obtain rfl:i=S.j:=by omega
  rw[XZ];exact⟨rfl,λe=>by cases e⟩
 ·dsimp only at h1 h2 h3;unfold nu;dsimp only;by_cases e:z=S.j
  ·subst e;have ejn:S.j=X.n:=by omega
   rw[if_neg aj];exact Dm ejn
  ·rw[SZ z aj]at h3;rw[if_pos aj];by_cases e2:z+1=S.j
   ·rw[e2,upd_same];exact ais aj
   ·rw[upd_ne _ _ e2];have hold:=h.mI z aj (.inl aj) h3;unfold nu at hold;rw[if_pos aj]at hold;exact hold
 ·dsimp only at hi⊢;rw[still];by_cases e:i=S.j
  ·subst e;rw[hdj,hDj]
  ·exact h.dW i aj
 ·dsimp only at hi hs;by_cases e:i=S.j
  ·subst e;rw[hDj]at hs;simp at hs
  ·obtain⟨r,hr⟩:=h.rel i aj hs;exact⟨r,qA hr λop hop _=>hnt op hop⟩
 ·unfold aq7 at hzg;obtain⟨op,hop,Sx⟩:=ant.1 hzg;rcases aq6 hop with⟨hzi,abo⟩|⟨_,abn⟩
  ·obtain⟨y',KT,hb⟩:=h.over z g (by simp[aq7,abo,Sx]) hne hlt ((counts_old hzi).1 Dq);have Xe:y'<t.size:=by
    unfold aq7 at KT;obtain⟨z',hz',_⟩:=ant.1 KT;exact aqp hz'
   exact⟨y',by rw[g?_old Xe];exact KT,ar8 _ hb⟩
  ·rcases gJ op abn with rfl|rfl
   ·rw[kx.1]at Sx;exact absurd Sx.symm hne
   ·rw[hy'.1]at Sx;omega
end
end Go.Upr
end
section
namespace Go.Upr
open Go.Conc
open Go.ConcN (upd upd_same upd_ne sumTo sumTo_upd WD CTag WgLive ShN RelBy get_map_set get_map_set_same Vc cnt isOpen isW3 exists_counted)
open Go.ConcR (KK WgAt stA smA rd wr mk DC0)
section
variable{X:Pl}{W:D1}{S:nY}{gs:Array aqi}{w:aly}{t:ap8}{sl:Option (Nat×Nat)}
theorem PI.at(h:PI X W S gs w t)(d:Nat):PI X W S gs (w.at d) t:=by
 have hg:lM X.P X.F S.k X.wg S.c (w.at d):=h.dp.group (λ_ _=>rfl) rfl;have hl:WgLive X.ty X.wg w→WgLive X.ty X.wg (w.at d):=id
 refine{h with
  main:=?_
  wk:=λi hi=>?_
  dp:=hg
  told:=⟨h.told.clean,h.told.own,h.told.read,h.told.low⟩
  low:=h.low
  wI:=h.wI
  tape:=h.tape
  os:=h.os
  output:=h.output}
 ·obtain⟨a,ha,hm⟩:=h.main;exact⟨a,ha,hm.keep (hg.fits _) hl⟩
 ·obtain⟨g,wD,hs⟩:=h.wk i hi;exact⟨g,wD,hs.keep (h.dp.fits i) (hg.fits i) hl (λh0=>by rw[uf];exact hg.chan (i- 1) _ (h.eO aj)) (hg.chan i _ (h.eO hi))⟩
theorem PI.Y8(h:PI X W S gs w t){i:Nat}(h0:0<i)(hm:i<W.m){g:aqi}(hg:gs[i]? =some g)(hrun:g.status= .running):zy X W S gs w t sl i:=by
 have hq:=h.old i g h0 hm hg;have Km:(i==0)=false:=by simp;omega
 cases hqi:S.q i with
 |zero=>rw[hqi]at hq;rw[hq.1]at hrun;cases hrun
 |succ k=>
  rw[hqi]at hq;rcases hq with⟨hf,_⟩|⟨_,g',es,s6,abh,hq'⟩
  ·rw[hf]at hrun;cases hrun
  have D6:=ar2 (P:=X.P) (sl:=sl) (i:=i) hg (by rw[Km];exact abh w);have np: ∀op∈ap6 i g.frame.fn g.frame.place es,op.g=i∧op.act.touch?=none∧(∀a,op.act≠ .mark (.release a))∧op.act.low w.heap.size:=by
   intro op hop;obtain⟨e,he,rfl⟩:=Go.Conc.mem_ofEvents hop;refine⟨rfl,touch_mute (s6 e he),λa ha=>?_,low_mute (s6 e he) _⟩;have:=s6 e he;rw[ark ha|>λhl=>show e.mute=false from by obtain⟨loc,wr,sy⟩:=e;dsimp only at hl;subst hl;rfl]at this;cases this
  have WC: ∀j x,touchAt (t++ap6 i g.frame.fn g.frame.place es) j=some x→touchAt t j=some x:=λj x hx=>by
   rcases dA hx with h1|⟨op,h1,_,h3⟩
   ·exact h1
   ·rw[(np op h1).2.1]at h3;cases h3
  have dne: ∀j,j≠i→arf (t++ap6 i g.frame.fn g.frame.place es) j=arf t j:=λj hj=>ara t (g':=i) (arz hj) _ λop hop=>(np op hop).1;obtain⟨a,ha,DL⟩:=h.main;obtain⟨cF,μr',abu,iH,_,Dm⟩:=DL.stay (w':=w) (Vc (X.n+1) S.D) (h.dp.fits _) id (λ_ hj=>h.dp.chan X.n _ (h.eO aj)) g g';have gsO: ∀x y,x≠i→gs[x]? =some y→((gs.map (woken X.P g g' w)).setIfInBounds i g')[x]? =some (woken X.P g g' w y):=λx y hx hy=>by
   rw[get_map_set _ _ _ _ (arz hx),hy];rfl
  have hlt:i<gs.size:=(ad3.1 hg).1;refine⟨{S with q:=upd S.q i k,tag:=cF,μr:=μr'},_,w,_,D6,?_,YV ?_⟩
  ·refine{h with
    size:=by simp;exact h.size
    main:=⟨_,gsO 0 a aj ha,abu⟩
    old:=λj y hj0 hjm hy=>?_
    wk:=λj hj=>?_
    told:=h.told.quiet (λop hop=>(np op hop).2.1) (agl _)
    handed:=h.handed.app λ_ _ _ _ _ _ _ _ _ op hop y hy _=>by rw[(np op hop).2.1]at hy;cases hy
    XN:=λj hj=>(h.XN j hj).app λop hop x hx _ _=>by rw[(np op hop).2.1]at hx;cases hx
    mI:=λc h1 h2 h3=>?_
    quiet:=h.quiet.app λop hop x hx _=>by rw[(np op hop).2.1]at hx;cases hx
    norel:=λop hop=>(aoi.1 hop).elim (h.norel op) λh1=>(np op h1).2.2.1
    low:=λop hop=>(aoi.1 hop).elim (h.low op) λh1=>(np op h1).2.2.2
    gs:=λop hop=>(aoi.1 hop).elim (h.gs op) λh1=>by rw[(np op h1).1];dsimp only;omega
    d0:=(dne 0 aj).trans h.d0
    dW:=λj hj=>(dne (W.m+j) aj).trans (h.dW j hj)
    rel:=λj hj hs=>let⟨r,hr⟩:=h.rel j hj hs; ⟨r,qA hr λop hop _=>(np op hop).2.1⟩
    over:=λz gz hz hne hzl Dq=>?_
    acq:=λe=>?_
    wI:=h.xf rfl rfl iH}
   ·dsimp only;by_cases e:j=i
    ·subst e;rw[get_map_set_same _ _ _ hlt]at hy;obtain rfl:=alN hy;rw[upd_same,Deaf_own];exact hq'
    ·rw[get_map_set _ _ _ _ (arz e)]at hy;obtain⟨y0,hy0,rfl⟩:=ant.1 hy;have hqj:=h.old j y0 hj0 hjm hy0;rw[woken_quitsD hqj,upd_ne _ _ e,dne j e];exact hqj
   ·obtain⟨y,hy,hs⟩:=h.wk j hj;refine⟨_,gsO _ y aj hy,?_⟩;exact hs.stay (h.dp.fits j) (h.dp.fits j) id (λ_ hj0=>by rw[uf];exact h.dp.chan (j- 1) _ (h.eO (Nat.lt_of_le_of_lt (Nat.sub_le _ _) hj))) (.inl (h.dp.chan j _ (h.eO hj))) g g'
   ·have hold:=h.mI c h1 h2 h3;unfold nu at hold⊢;dsimp only;split
    ·rename_i hc;rw[if_pos hc]at hold;exact hold
    ·rename_i hc;rw[if_neg hc]at hold;rw[Dm];exact hold
   ·unfold aq7 at hz;obtain⟨op,hop,Sx⟩:=ant.1 hz;rcases aq6 hop with⟨hzi,abo⟩|⟨_,abn⟩
    ·obtain⟨y',KT,hb⟩:=h.over z gz (by simp[aq7,abo,Sx]) hne hzl ((counts_old hzi).1 Dq);have Xe:y'<t.size:=by
      unfold aq7 at KT;obtain⟨z',hz',_⟩:=ant.1 KT;exact aqp hz'
     exact⟨y',by rw[g?_old Xe];exact KT,ar8 _ hb⟩
    ·exact absurd Dq (xK hop (np op abn).2.1)
   ·have:S.tag= .ret:=by
     rcases iH with h1|⟨_,h1⟩
     ·rw[←h1];exact e
     ·rw[show cF=CTag.ret from e]at h1;cases h1
    exact(h.acq this).app λop hop _ _ _=>(np op hop).2.1
  ·have:sumTo W.m (upd S.q i k)+(k+1)=sumTo W.m S.q+k:=by
    have:=sumTo_upd S.q k id hm;simpa[hqi]using this
   dsimp only;omega
theorem Wt.up{ν:Wt}{a b a' b':Nat}{s s':Tr}(h:Wt.Lt ν (a,b,s))(ha:a<a'):Wt.Lt ν (a',b',s'):=by
 obtain⟨x,y,z⟩:=ν;rcases ar1.1 h with h|⟨h,_⟩
 ·exact Wt.Xb (Nat.lt_trans h ha)
 ·exact Wt.Xb (by dsimp only at h;omega)
theorem Wz{c:Nat}(h:c+1≤X.n):KN X S c=X.A (c+1) (S.k c) (S.k (c+1)):=if_pos h
theorem WA:KN X S X.n=X.AM (S.k X.n):=if_neg aj
theorem OI{c:Nat}(h:c+1≤X.n):nu X S c=S.μ (c+1):=if_pos h
theorem OJ:nu X S X.n=S.μr:=if_neg aj
theorem PI.UI(h:PI X W S gs w t)(ok:X.Ok){i:Nat}(hi:i<S.j){g:aqi}(wD:gs[W.m+i]? =some g)(hrun:g.status= .running):zy X W S gs w t sl (W.m+i):=by
 obtain⟨g',jW,hs⟩:=h.wk i hi;obtain rfl:g=g':=by rw[wD]at jW;exact alN jW
 have dC:=h.le hi;generalize hD:S.D i=d at hs;generalize hμ:S.μ i=μ at hs;cases hs with
 |recv Km hgr hw ho hp=>
  rename_i fr cs tr;cases tr with
  |node c=>exact h.XX hi wD hgr hw hD hμ λfr1 cs1 r1 w1 t1 ik=> .recv Km (jm _ _) ik ho hp
  |leaf=>
   obtain⟨c,rfl⟩: ∃c,i=c+1:=⟨i- 1,by omega⟩;rw[←kN dC];exact h.I3 ok (c:=c) aj ⟨λ_=>⟨hi,ho.1,ho.2,hD⟩,λe=>by omega⟩ (by rw[kN dC];exact wD) hgr (by rw[Wz dC];exact hw) hp (by rw[OI dC];exact hμ)
 |cf _ _ _ _=>cases hrun
 |work hgr hw ho=>
  rename_i fr cs tr;cases tr with
  |node c=>exact h.XX hi wD hgr hw hD hμ λfr1 cs1 r1 w1 t1 ik=> .work (jm _ _) ik ho
  |leaf=>
   obtain⟨xs,GY⟩:=hw;cases xs with
   |nil=>exact h.EL hi wD hgr (by rw[ho.1];exact GY) ho.2 hD (fun ν hν=>by rw[hμ];exact Wt.up hν aj) (by rw[hμ];simp)
   |cons x rest=>exact h.IW ok hi wD hgr (by rw[ho.1];exact GY) ho.2 hD (fun ν hν=>by rw[hμ];exact Wt.up hν aj) (by rw[hμ];simp)
 |send hgr hw ho=>
  rename_i fr cs tr rest;cases tr with
  |node c=>exact h.XX hi wD hgr hw hD hμ λfr1 cs1 r1 w1 t1 ik=> .send (jm _ _) ik ho
  |leaf=>
   cases rest with
   |nil=>exact h.EL hi wD hgr (by have:=hw;rw[List.append_nil]at this;exact this) ho hD (fun ν hν=>by rw[hμ];exact hν) (by rw[hμ];simp)
   |cons x rest=>exact h.IW ok hi wD hgr hw ho hD (fun ν hν=>by rw[hμ];exact hν) (by rw[hμ];simp)
 |dD _ _ _ _=>cases hrun
 |shut hw ho=>
  rename_i fr cs tr;cases tr with
  |node c=>exact h.XX hi wD (jm _ _) hw hD hμ λfr1 cs1 r1 w1 t1 ik=> .shut ik ho
  |leaf=>
   obtain⟨ety,C,x,N,h0,h1,hG⟩:=hw;have iu:mS X (S.c.r i) ⟨7,N,0⟩ (G fr cs) w:=⟨ety,C,x,h0,h1,.inl ⟨rfl,rfl,hG w (h.dp.fits i) h.live⟩⟩;exact h.tailW ok.small hi wD (by rw[hD]) (by rw[hD]) iu ho rfl (fun ν hν=>by rw[hμ];exact Wt.up hν bz) (by rw[hμ];simp)
 |tail iu ho=>exact h.tailW ok.small hi wD (by rw[hD]) (by rw[hD]) iu ho hrun (fun ν hν=>by rw[hμ];exact hν) (by
   rw[hμ];obtain⟨_,_,_,_,_,h2⟩:=iu;dsimp only
   rcases h2 with⟨e,_⟩|⟨e,_⟩<;>omega)
end
end Go.Upr
end
section
namespace Go.Upr
open Go.Conc
open Go.ConcN (upd upd_same upd_ne sumTo WD CTag WgLive ShN RelBy Vc cnt isOpen isW3 exists_counted OpenSt pend)
open Go.ConcR (KK WgAt stA smA rd wr mk DC0)
theorem Ox{D:Nat→WD}(h: ∀i,D i=⟨7,0,0⟩): ∀j,Vc j D=j
 |0=>rfl
 |j+1=>by
  have:=Ox h j;simp only[Vc,sumTo]at this⊢;rw[this,show cnt (D j)=1 by rw[h j];rfl]
theorem Wt.up2{ν:Wt}{a b b':Nat}{s s':Tr}(h:Wt.Lt ν (a,b,s))(hb:b<b'):Wt.Lt ν (a,b',s'):=by
 obtain⟨x,y,z⟩:=ν;rcases ar1.1 h with h|⟨h,h'⟩
 ·exact Wt.Xb h
 ·dsimp only at h h';subst h;rcases ar1.1 h' with h|⟨h,_⟩<;>exact Wt.Kf (by dsimp only at h;omega)
section
variable{X:Pl}{W:D1}{S:nY}{gs:Array aqi}{w:aly}{t:ap8}{sl:Option (Nat×Nat)}
theorem PI.rek(h:PI X W S gs w t)(hj:S.j=0)(k':Nat→Nat)(hm: ∃a,gs[0]? =some a∧iv X S.j (Vc (X.n+1) S.D) k' (dR S.c (X.n+1)) (S.c.r (X.n+1)) w a S.tag S.added S.dd S.μs S.μr):PI X W {S with k:=k'} gs w t:=by
 have none': ∀i z,S.c.ch i≠some z:=λi z e=>by
  have:=(h.XM i).1 (by rw[e];simp);omega
 refine{h with
  main:=hm
  wk:=λi hi=>absurd hi (by dsimp only;omega)
  dp:=⟨h.dp.fits,h.dp.sep,λi z hz=>absurd hz (none' i z),h.dp.Sj,λi z j hz=>absurd hz (none' i z),λi j z z' hz=>absurd hz (none' i z),h.dp.Br,h.dp.jO,λi z hz=>absurd hz (none' i z),h.dp.pend,λi z f v a b hz=>absurd hz (none' i z)⟩
  handed:=λi z f v hz=>absurd hz (none' i z)
  XN:=λi hi=>absurd hi (by dsimp only;omega)}
theorem zy.rek{k':Nat→Nat}(h:zy X W {S with k:=k'} gs w t sl 0):zy X W S gs w t sl 0:=h
theorem PI.VA(h:PI X W S gs w t)(ok:X.Ok){a:aqi}(ha:gs[0]? =some a)(hrun:a.status= .running):zy X W S gs w t sl 0∨(S.tag= .ret∧ix X (S.c.r (X.n+1)) a w):=by
 obtain⟨a',ha',DL⟩:=h.main;obtain rfl:a=a':=by rw[ha]at ha';exact alN ha'
 generalize iH:S.tag=tag at DL;generalize had:S.added=ad at DL;generalize hdd:S.dd=dd at DL;generalize hμs:S.μs=μs at DL;generalize hμr:S.μr=μr at DL;have jk:=h.live;have pg:=h.dp.fits (X.n+1);have live: ∀ {w},WgLive X.ty X.wg w→WgLive X.ty X.wg w:=id;have book: ∀ {a':aqi} {w':aly} {es:Array amp} {lu:Bool} {dd':Nat} {μs':Wt} {bB C9:Int},μr=(0,0,.leaf)→stepG X.P true a w= .go a' w' es→Aside X.wg w w'→WgAt X.ty X.wg w' bB C9→(∀e∈es,Hu X.wg true e)→
   iv X S.j (Vc (X.n+1) S.D) S.k (dR S.c (X.n+1)) (S.c.r (X.n+1)) w' a' .kd lu dd' μs' (0,0,.leaf)→deafBehind dd es=dd'→((lu=false∧bB=0∧C9=0)∨(lu=true∧aqS (X.n+1) S.D .kd bB C9))→Wt.Lt μs' μs→zy X W S gs w t sl 0:=by
  intro a' w' es lu dd' μs' bB C9 e0 hgo hAs Bw hes hs' hd z6 hlt;exact h.ab0 ha hgo hAs Bw hes hs' (by rw[hdd];exact hd) z6 bz (.inl (by rw[hμs];exact hlt)) (.inr (by rw[hμr,e0];simp))
 have fls:ad=false→WgAt X.ty X.wg w 0 0:=λe=>by
  obtain⟨st,sm,h1,h2⟩:=h.wI;rcases h2 with⟨_,rfl,rfl⟩|⟨e',_⟩
  ·exact h1
  ·rw[had,e]at e';cases e'
 have tru:ad=true→∃st sm,WgAt X.ty X.wg w st sm∧aqS (X.n+1) S.D tag st sm:=λe=>by
  obtain⟨st,sm,h1,h2⟩:=h.wI;rcases h2 with⟨e',_⟩|⟨_,h2⟩
  ·rw[had,e]at e';cases e'
  ·exact⟨st,sm,h1,iH▸h2⟩
 have a1: ∀ {N:Nat},S.j=0→ad=false→dd=0→μr=(0,0,.leaf)→(∀ν,Wt.Lt ν (2,8,.ofNat N)→Wt.Lt ν μs)→Goes X.P true (RM X.P X.F (S.c.r (X.n+1)) X.ty X.wg) DC0 (AKd X.P X.ty X.wg (RM X.P X.F (S.c.r (X.n+1)) X.ty X.wg) (X.n+1) (Ib X (S.c.r (X.n+1)))) N a w→zy X W S gs w t sl 0:=by
  intro N hj e1 e2 e3 hlt hG;subst e1 e2;have ij:=fls rfl;rcases art hG with dn|⟨m',rfl,hstep⟩
  ·obtain⟨_,a',hgo,m₂,hk⟩:=dn w (.refl w);exact book e3 hgo (.refl _ w) ij (vO (.inl rfl)) (.a2 hj hk) rfl (.inl ⟨rfl,rfl,rfl⟩) (hlt _ (Wt.Kf aj))
  ·obtain⟨a',w',es,hgo,⟨rfl,rfl⟩,jW⟩:=hstep w (.refl w);exact book e3 hgo (.refl _ w') ij bz (.a1 hj jW) rfl (.inl ⟨rfl,rfl,rfl⟩) (hlt _ (Wt.Sk (Tr.ofNat_lt _)))
 cases DL with
 |pre hj hw=>
  rename_i fr cs tr;cases tr with
  |node c=>exact .inl (h.Fw ha (jm _ _) hw (μs':=λt=>(2,9,t)) (μr':=λ_=>(0,0,.leaf)) (λfr1 cs1 r1 w1 t1 ik=>by rw[iH,had,hdd];exact .pre hj ik) (by rw[iH];simp) (λt1 ht=> .inl (by rw[hμs];exact Wt.Sk ht)) (λ_=> .inr (by rw[hμr];simp)))
  |leaf=>
   obtain⟨N,hG⟩:=hw (h.dp.jO _);exact .inl (a1 hj rfl rfl rfl (fun ν hν=>Wt.up2 hν aj) (hG w pg jk))
 |a1 hj hG=>exact .inl (a1 hj rfl rfl rfl (fun ν hν=>hν) hG)
 |a2 hj hG=>
  have ij:=fls rfl;rcases art hG with dn|⟨m',rfl,hstep⟩
  ·obtain⟨_,hx⟩:=dn w (.refl w);obtain⟨a',hgo,m₂,hk⟩:=hx ij;have hall: ∀i,S.D i=⟨7,0,0⟩:=λi=>h.stage i aj;have hm:aqS (X.n+1) S.D .kd (((X.n+1:Nat):Int)*KK) 0:=by
    have:=arP (j:=X.n+1) (D:=S.D) (tag:= .kd) trivial (λi _=> .inl (by rw[hall i])) bz;rw[Ox hall]at this;simpa[pend]using this
   exact .inl (book rfl hgo (aru w (stA X.wg) _) (ij.setSt _) Uw (.a3 hj hk) rfl (.inr ⟨rfl,hm⟩) (Wt.Kf aj))
  ·obtain⟨a',w',es,hgo,⟨rfl,rfl⟩,jW⟩:=hstep w (.refl w);exact .inl (book rfl hgo (.refl _ w') ij bz (.a2 hj jW) rfl (.inl ⟨rfl,rfl,rfl⟩) (Wt.Sk (Tr.ofNat_lt _)))
 |a3 hj hG=>
  obtain⟨st,sm,ij,dv⟩:=tru rfl;rcases art hG with dn|⟨m',rfl,hstep⟩
  ·obtain⟨_,a',hgo,m₂,hk⟩:=dn w (.refl w);exact .inl (book rfl hgo (.refl _ w) ij (vO (.inr (.inr (.inr (.inr ⟨rfl,.inl rfl⟩))))) (.a4 hj hk) rfl (.inr ⟨rfl,dv⟩) (Wt.Kf aj))
  ·obtain⟨a',w',es,hgo,⟨rfl,rfl⟩,jW⟩:=hstep w (.refl w);exact .inl (book rfl hgo (.refl _ w') ij bz (.a3 hj jW) rfl (.inr ⟨rfl,dv⟩) (Wt.Sk (Tr.ofNat_lt _)))
 |a4 hj hG=>
  obtain⟨st,sm,ij,dv⟩:=tru rfl;rcases art hG with dn|⟨m',rfl,hstep⟩
  ·obtain⟨_,a',hgo,m₂,hk⟩:=dn w (.refl w);exact .inl (book rfl hgo (.refl _ w) ij (vO (.inr (.inl rfl))) (.a5 hj hk) rfl (.inr ⟨rfl,dv⟩) (Wt.Kf aj))
  ·obtain⟨a',w',es,hgo,⟨rfl,rfl⟩,jW⟩:=hstep w (.refl w);exact .inl (book rfl hgo (.refl _ w') ij bz (.a4 hj jW) rfl (.inr ⟨rfl,dv⟩) (Wt.Sk (Tr.ofNat_lt _)))
 |a5 hj hG=>
  obtain⟨st,sm,ij,dv⟩:=tru rfl;rcases art hG with dn|⟨m',rfl,hstep⟩
  ·obtain⟨fr,cs,rfl,k',tr,hw⟩:=dn w (.refl w);have h1:PI X W {S with k:=k'} gs w t:=h.rek hj k' ⟨_,ha,by rw[iH,had,hdd,hμs,hμr];exact .a5 hj hG⟩;have hw':Walk X.P true X.F (jB X (X.n+1) S.j k') tr (S.c.r (X.n+1)) fr cs:=by rw[hj];exact hw
   refine .inl (zy.rek (k':=k') ?_);cases tr with
   |node c=>
    exact h1.Fw ha (jm _ _) hw' (μs':=λt=>(1,X.n+1,t)) (μr':=λ_=>(0,0,.leaf)) (λfr1 cs1 r1 w1 t1 ik=>by dsimp only;rw[iH,had,hdd];exact .spawn aj (jm _ _) ik) (by dsimp only;rw[iH];simp) (λt1 ht=> .inl (by dsimp only;rw[hμs];exact Wt.Xb aj)) (λ_=> .inr (by dsimp only;rw[hμr];simp))
   |leaf=>exact h1.Eg (q:=X.n) (by dsimp only;omega) ha (jm _ _) hw' iH had hdd (fun ν hν=>by dsimp only;rw[hμs];exact Wt.up hν aj)
  ·obtain⟨a',w',es,hgo,⟨rfl,rfl⟩,jW⟩:=hstep w (.refl w);exact .inl (book rfl hgo (.refl _ w') ij bz (.a5 hj jW) rfl (.inr ⟨rfl,dv⟩) (Wt.Sk (Tr.ofNat_lt _)))
 |spawn hq hg hw=>
  rename_i fr cs tr q;cases tr with
  |node c=>exact .inl (h.Fw ha hg hw (μs':=λt=>(1,q+1,t)) (μr':=λ_=>(0,0,.leaf)) (λfr1 cs1 r1 w1 t1 ik=>by rw[iH,had,hdd];exact .spawn hq (jm _ _) ik) (by rw[iH];simp) (λt1 ht=> .inl (by rw[hμs];exact Wt.Sk ht)) (λ_=> .inr (by rw[hμr];simp)))
  |leaf=>exact .inl (h.Eg hq ha hg hw iH had hdd (fun ν hν=>by rw[hμs];exact hν))
 |recv hj hg hw hp=>
  rename_i fr cs tr;cases tr with
  |node c=>exact .inl (h.Fw ha hg hw (μs':=λ_=>(0,0,.leaf)) (μr':=λt=>(12,2*((dR S.c (X.n+1)).aJ.length-(dR S.c (X.n+1)).rc)+1,t)) (λfr1 cs1 r1 w1 t1 ik=>by rw[iH,had,hdd];exact .recv hj (jm _ _) ik hp) (by rw[iH];simp) (λt1 ht=> .inr ⟨hμs.symm,by rw[hμr];exact Wt.Sk ht⟩) (λ_=> .inl rfl))
  |leaf=>
   have:=h.I3 (sl:=sl) ok (c:=X.n) aj ⟨λe=>by omega,λ_=>⟨hj,iH,had,hdd,hμs⟩⟩ (by rw[u7];exact ha) hg (by rw[WA];exact hw) hp (by rw[OJ];exact hμr);rw[u7]at this;exact .inl this
 |cf _ _ _=>cases hrun
 |post hj hw=>
  rename_i fr cs tr;cases tr with
  |node c=>exact .inl (h.Fw ha (jm _ _) hw (μs':=λ_=>(0,0,.leaf)) (μr':=λt=>(11,0,t)) (λfr1 cs1 r1 w1 t1 ik=>by rw[iH,had,hdd];exact .post hj ik) (by rw[iH];simp) (λt1 ht=> .inr ⟨hμs.symm,by rw[hμr];exact Wt.Sk ht⟩) (λ_=> .inr (by rw[hμr];simp)))
  |leaf=>
   obtain⟨eU,N,hG,hA⟩:=hw (h.dp.jO _);have:=h.IJ (sl:=sl) ok ha hj hA (.kd (hG w pg jk)) iH hdd hμs (fun ν hν=>by rw[hμr];exact Wt.up hν aj) (by rw[hμr];simp) hrun;rw[iH]at this;exact this
 |wait eU hj hA hw=>
  have:=h.IJ (sl:=sl) ok ha hj hA hw iH hdd hμs (fun ν hν=>by rw[hμr];exact hν) (by rw[hμr];simp) hrun;rw[iH]at this;exact this
theorem PI.OG(h:PI X W S gs w t)(hj:S.j=X.n+1)(hne: ∀a,gs[0]? =some a→a.status≠ .running){i:Nat}(hi:i<S.j)(bW:(aW S.c i).cl=false)(dC:0<i→(aW S.c (i- 1)).cl=true): ∃ (x:Nat) (g:aqi),gs[x]? =some g∧g.status= .running:=by
 obtain⟨g,hg,hs⟩:=h.wk i hi;have hle:=h.le hi;generalize S.D i=d at hs;generalize S.μ i=μ at hs;cases hs with
 |recv _ hr _ _ _=>exact⟨_,_,hg,hr.2.2.1⟩
 |cf h0 _ he _=>rw[uf]at he;rw[dC h0]at he;exact absurd he.2 bz
 |work hr _ _=>exact⟨_,_,hg,hr.2.2.1⟩
 |send hr _ _=>exact⟨_,_,hg,hr.2.2.1⟩
 |shut _ ho=>rw[bW]at ho;cases ho
 |tail _ ho=>rw[bW]at ho;cases ho
 |dD _ _ _ hf=>
  have ky:=h.mI i hi aj bW;by_cases h1:i+1≤X.n
  ·rw[OI h1]at ky;obtain⟨g2,hg2,hs2⟩:=h.wk (i+1) aj;generalize S.D (i+1)=d at hs2;generalize S.μ (i+1)=μ at hs2 ky;cases hs2 with
   |recv _ hr _ _ _=>exact⟨_,_,hg2,hr.2.2.1⟩
   |cf _ _ he _=>rw[lR]at he;rw[he.1]at hf;simp[room]at hf
   |work _ _ _=>simp at ky
   |send _ _ _=>simp at ky
   |dD _ _ _ _=>simp at ky
   |shut _ _=>simp at ky
   |tail iu _=>
    obtain⟨_,_,_,_,_,h2⟩:=iu;dsimp only at ky;rcases h2 with⟨e,_⟩|⟨e,_⟩<;>omega
  ·obtain rfl:i=X.n:=by omega
   rw[OJ]at ky;obtain⟨a,ha,hm⟩:=h.main;have hna:=hne a ha;generalize S.tag=tag at hm;generalize S.added=ad at hm;generalize S.dd=dd at hm;generalize S.μs=μs at hm;generalize S.μr=μr at hm ky;cases hm with
   |cf _ _ he=>rw[lR]at he;rw[he.1]at hf;simp[room]at hf
   |recv _ hr _ _=>exact absurd hr.2.2.1 hna
   |pre _ _=>simp at ky
   |a1 _ _=>simp at ky
   |a2 _ _=>simp at ky
   |a3 _ _=>simp at ky
   |a4 _ _=>simp at ky
   |a5 _ _=>simp at ky
   |spawn _ _ _=>simp at ky
   |post _ _=>simp at ky
   |wait _ _ _ _=>simp at ky
theorem PI.I6(h:PI X W S gs w t)(hj:S.j=X.n+1)(hne: ∀a,gs[0]? =some a→a.status≠ .running): ∀i,i<S.j→(aW S.c i).cl=false→∃ (x:Nat) (g:aqi),gs[x]? =some g∧g.status= .running:=by
 intro i
 induction i with
 |zero=>exact λhi bW=>h.OG hj hne hi bW (λh0=>by omega)
 |succ i ih=>
  intro hi bW;cases hc:(aW S.c i).cl with
  |false=>exact ih aj hc
  |true=>exact h.OG hj hne hi bW (λ_=>by rw[show i+1- 1=i from rfl];exact hc)
theorem PI.YQ(h:PI X W S gs w t): ∃ (x:Nat) (g:aqi),gs[x]? =some g∧g.status= .running:=by
 obtain⟨a,ha,hm⟩:=h.main;by_cases hrun:a.status= .running
 ·exact⟨0,a,ha,hrun⟩
 have hne: ∀a',gs[0]? =some a'→a'.status≠ .running:=λa' h'=>by rw[ha]at h';cases h';exact hrun
 rcases hm.status with hs|⟨_,iH|⟨fr,cs,_,hj,hend,bW⟩⟩
 ·exact absurd hs hrun
 · -- at the semaphore
  have hj:S.j=X.n+1:=by
   generalize S.tag=tag at hm iH;subst iH;generalize S.added=ad at hm;generalize S.dd=dd at hm;generalize S.μs=μs at hm;generalize S.μr=μr at hm;cases hm with
   |wait _ hj _ _=>exact hj
  obtain⟨st,sm,_,dv⟩:=h.mode (i:=0) aj;rw[iH]at dv;have fin: ∀i,i<X.n+1→(S.D i).stage≠1→∃ (x:Nat) (g:aqi),gs[x]? =some g∧g.status= .running:=by
   intro i hi hst;obtain⟨g,hg,hs⟩:=h.wk i aj;cases bW:(aW S.c i).cl with
   |false=>exact h.I6 hj hne i aj bW
   |true=>
    generalize S.D i=d at hs hst;generalize S.μ i=μ at hs;cases hs with
    |recv _ hr _ _ _=>exact⟨_,_,hg,hr.2.2.1⟩
    |cf _ _ _ ho=>rw[bW]at ho;exact absurd ho.2 bz
    |work hr _ _=>exact⟨_,_,hg,hr.2.2.1⟩
    |send hr _ _=>exact⟨_,_,hg,hr.2.2.1⟩
    |dD _ _ ho _=>rw[bW]at ho;cases ho
    |shut _ _=>exact⟨_,_,hg,rfl⟩
    |tail iu _=>
     obtain⟨ety,C,x,_,_,h2⟩:=iu;refine⟨_,_,hg,?_⟩;rcases h2 with⟨_,_,a3⟩|⟨_,a2⟩
     ·exact Goes.running (λ_ _ x=>x.1) w (@ar9 ⟨ety⟩ _ _ _ _ _ _ w) a3
     ·exact @ar6 ⟨ety⟩ _ _ _ _ _ _ _ _ _ _ _ _ _ _ _ a2 hst
  cases dv with
  |opn h1 _ _=>exact h1.elim
  |reg _ _ h3=>
   obtain⟨i,hi,h5⟩:=exists_counted h3;exact fin i hi aj
  |last L _ h2 h3 _=>exact fin L h2 aj
  |fin h1 _=>exact h1.elim
 ·exact h.I6 hj hne X.n aj bW
theorem PI.F3(h:PI X W S gs w t): ∀g∈gs,awake g:=by
 intro g hg;obtain⟨x,hx⟩:=Array.mem_iff_getElem?.1 hg;rcases arG x with rfl|h0
 ·obtain⟨a,ha,hm⟩:=h.main;rw[ha]at hx;cases hx;intro tm;rcases hm.status with hs|⟨hs,_⟩<;>rw[hs]<;>simp
 ·by_cases hm:x<W.m
  ·exact awake_of ((h.old x g h0 hm hx).status.elim .inl λx=> .inr (.inr x))
  ·have hlt:x<gs.size:=(ad3.1 hx).1;rw[h.size]at hlt;obtain⟨i,rfl⟩: ∃i,x=W.m+i:=⟨x- W.m,by omega⟩;obtain⟨g',jW,hs⟩:=h.wk i aj;rw[hx]at jW;cases jW;exact hs.awake
theorem PI.runs(ok:X.Ok): ∀ (S:nY) (gs:Array aqi) (w:aly) (sl:Option (Nat×Nat)) (t:ap8),PI X W S gs w t→
  ∃ (N:Nat) (S':nY) (gs':Array aqi) (w':aly) (sl':Option (Nat×Nat)) (t':ap8) (a:aqi),runNT X.P N (crowd gs w sl) t=(.next (crowd gs' w' sl'),t')∧PI X W S' gs' w' t'∧gs'[0]? =some a∧S'.tag= .ret∧ix X (S'.c.r (X.n+1)) a w':=by
 intro S
 refine(asc (λS:nY=>S.row W.m X.n) (Row.wf (X.n+4))).induction (C:=λS=>∀ (gs:Array aqi) (w:aly) (sl:Option (Nat×Nat)) (t:ap8),PI X W S gs w t→
  ∃ (N:Nat) (S':nY) (gs':Array aqi) (w':aly) (sl':Option (Nat×Nat)) (t':ap8) (a:aqi),runNT X.P N (crowd gs w sl) t=(.next (crowd gs' w' sl'),t')∧PI X W S' gs' w' t'∧gs'[0]? =some a∧S'.tag= .ret∧ix X (S'.c.r (X.n+1)) a w') S ?_
 intro S ih gs w sl t h;by_cases hdone: ∃a,gs[0]? =some a∧S.tag= .ret∧ix X (S.c.r (X.n+1)) a w
 ·obtain⟨a,h1,h2,h3⟩:=hdone;exact⟨0,S,gs,w,sl,t,a,rfl,h,h1,h2,h3⟩
 obtain⟨i,g,d,sl',hg,hrun,hstep⟩:=crowd_pick (P:=X.P) (w:=w) (sl:=sl) h.F3 h.YQ;have h':=h.at d;have hnx:zy X W S gs (w.at d) t sl' i:=by
  rcases arG i with rfl|h0
  ·rcases h'.VA (sl:=sl') ok hg hrun with h1|⟨h1,h2⟩
   ·exact h1
   ·exact absurd ⟨g,hg,h1,h2⟩ hdone
  ·by_cases hm:i<W.m
   ·exact h'.Y8 h0 hm hg hrun
   ·have hlt:i<gs.size:=(ad3.1 hg).1;rw[h.size]at hlt;obtain⟨x,rfl⟩: ∃x,i=W.m+x:=⟨i- W.m,by omega⟩;exact h'.UI ok aj hg hrun
 obtain⟨S1,gs1,w1,ops,hr,hp,hlt⟩:=hnx;obtain⟨N,S',gs',w',He,t',a,i1,i2⟩:=ih S1 hlt gs1 w1 sl' (t++ops) hp;exact⟨N+1,S',gs',w',He,t',a,by simp only[runNT,hstep,hr];exact i1,i2⟩
end
end Go.Upr
end
