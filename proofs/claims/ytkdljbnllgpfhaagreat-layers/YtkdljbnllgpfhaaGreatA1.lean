import Derived.Test.YtkdljbnllgpfhaaGreatA0
set_option maxRecDepth 100000
set_option maxHeartbeats 8000000
open Go.Op renaming operands→anc,maxDepth→amw,addrMod→anB,eqGuardIn→anH,unary→aoa,equalIn→amD,twoPlaces→aot
open Pure renaming pure→ads
open Go renaming TypeId→acs,Value→aad,Program→alu,Operand→ang,behindNumber→amc,MapEntry→alz,FuncId→alB,eqGuard→ank,underlying→alJ,binOp→ano,movedNumber→anq,mayBeOne→anw,frozen→anz,Addr→alA,stuck→alO,BinOp→anZ,World→aly,setObj→alY,noView→amS,newObj→alZ,choose→alI,stringish→an7,sameAddr→aob,callFunc→aoc,asNumber→aod,Code→amq,execOp→aom,movedPointer→aon,IntKind→aor,unsupported→alW,storeCells→am1,Deferred→amI,program→alw,builtin→aov,Sem→alP,sizeOf→amR,getObj→alS,asAddr→ana,shape→alX
open Bool renaming false_eq_true→amA,and_eq_true→anh,not_eq_true'→anC,not_true→aop
open Array renaming all_eq_true_iff_forall_mem→al0,length_toList→ane,toList_modify→anv,toList_map→anG,getElem?_eq_none_iff→anN,isEmpty→anY,getElem?_toList→an0,foldl_toList→amu,toList_push→aof,toList_zip→aoh,mem_append→aoi,all_toList→aoj
open Go.Builtin renaming unsafeAdd_→anf,firstCells→ani,lenOf→anp,max2→ans,zeroCells→anA,delete_→anE,append_→anF,clear_→anK,copy_→anM,max_→anV,len_→anW,cap_→anX
open Go.Conv renaming bytesToString→anj,runesToString→aoe
open Go.Instr renaming sliceBounds→anl,sliceBound→anm,makeInterface→anu,keyThatStays→anx,entryStore→anD,panic→anI,mapUpdate→anJ,mapEntry→anL,sliceAt→anR,makeMap→anS,getLoop→anT,extract→anU,yield→an1,slice→an2,range→an3,index→an4,field→an5,entry→an6,next→an9
open List renaming mem_of_getElem?→ann,getElem?_map→anr,getElem?_append_right→anP,getElem?_append_left→anQ,filter_cons→aol
open Go.Value renaming tuple→al5,pointer→amM,map→aos
open Option renaming map_eq_some_iff→ant,map_some→aog
open Go.Sem renaming runT→aab
open Prod.mk renaming injEq→ae
open Go.Next renaming value→anO,skip→aou
open Option.some renaming inj→alN
open Go.Result.ok renaming injEq→aB
open ForInStep renaming yield→an8
open Go.Call renaming operands→aoo
open UInt8 renaming ofNat→aoq
open Nat renaming min→aow
open Go.Deferred renaming ofValue→aox
namespace Go.Upr
section
variable{α α' β β':Type}{P:alu}{F:alB→Bool}{C:amq→Bool}{f:Ren}{w w':aly}
theorem dT.modify{h h':alz→alz}(hh: ∀e e':alz,aA F f e.key e'.key→aA F f e.val e'.val→e'.born=e.born→aA F f (h e).key (h' e').key∧aA F f (h e).val (h' e').val∧(h' e').born=(h e).born):
  ∀ {l l':List alz} (i:Nat),dT F f l l'→dT F f (l.modify i h) (l'.modify i h')
 |_,_,_,.nil=>by simpa using .nil
 |_,_,0,.cons hk hv hb t=>by
  obtain⟨a,b,c⟩:=hh _ _ hk hv hb;simpa using .cons a b c t
 |_,_,i+1,.cons hk hv hb t=>by simpa using .cons hk hv hb (dT.modify hh i t)
theorem dT.erase: ∀ {l l':List alz} (i:Nat),dT F f l l'→dT F f (l.eraseIdx i) (l'.eraseIdx i)
 |_,_,_,.nil=>by simpa using .nil
 |_,_,0,.cons hk hv hb t=>by simpa using t
 |_,_,i+1,.cons hk hv hb t=>by simpa using .cons hk hv hb (dT.erase i t)
theorem dT.filter(p:Nat→Bool): ∀ {l l':List alz},dT F f l l'→dT F f (l.filter λe=>p e.born) (l'.filter λe=>p e.born)
 |_,_,.nil=> .nil
 |_,_,.cons hk hv hb t=>by
  rw[aol,aol,hb];split
  ·exact .cons hk hv hb (dT.filter p t)
  ·exact dT.filter p t
theorem dT.all(p:Nat→Bool): ∀ {l l':List alz},dT F f l l'→l'.all (λe=>p e.born)=l.all (λe=>p e.born)
 |_,_,.nil=>rfl
 |_,_,.cons hk hv hb t=>by simp only[List.all_cons,hb,dT.all p t]
theorem dT.find(p:Nat→Bool): ∀ {l l':List alz},dT F f l l'→(l.find? (λe=>p e.born)=none∧l'.find? (λe=>p e.born)=none)∨∃e e':alz,l.find? (λe=>p e.born)=some e∧l'.find? (λe=>p e.born)=some e'∧aA F f e.key e'.key∧aA F f e.val e'.val
 |_,_,.nil=> .inl ⟨rfl,rfl⟩
 |_,_,.cons hk hv hb t=>by
  simp only[List.find?_cons,hb];split
  ·exact .inr ⟨_,_,rfl,rfl,hk,hv⟩
  ·exact dT.find p t
theorem dT.findIdx(p:Nat→Bool): ∀ {l l':List alz},dT F f l l'→l'.findIdx? (λe=>p e.born)=l.findIdx? (λe=>p e.born)
 |_,_,.nil=>rfl
 |_,_,.cons hk hv hb t=>by simp only[List.findIdx?_cons,hb,dT.findIdx p t]
theorem aH.keyThatStays{a a' b b':aad}(ha:aA F f a a')(hb:aA F f b b'):aH P F C (aA F) f (anx a b) (anx a' b'):=by
 refine .Ic λ_ lJ=>?_;unfold anx;rw[GG lJ 10000 ha hb];split
 ·exact .pure' hb
 ·refine .bind .choose λg n n' hle hn=>?_;subst hn;by_cases h0:n=0
  ·simp only[if_pos h0];exact .pure' (hb.mono hle)
  ·simp only[if_neg h0];exact .pure' (ha.mono hle)
theorem Jf{es es':Array alz}(h:dT F f es.toList es'.toList)(i:Nat){k k':aad}(hk:aA F f k k'):aA F f (((es[i]?).map (·.key)).getD k) (((es'[i]?).map (·.key)).getD k'):=by
 cases he:es[i]? with
 |none=>
  have:es'[i]? =none:=by
   rw[anN]at*;have:=h.length;simp only[ane]at this;omega
  rw[this];exact hk
 |some e=>
  obtain⟨e',h1,h2,h3,h4⟩:=h.get i e (by simpa using he);rw[show es'[i]? =some e' by simpa using h1];exact h2
def Oh(P:alu)(F:alB→Bool)(t:acs):Prop:=∀k e,P.underlying t=some (.map k e)→lT P amw k=true∧pU P F e
theorem aH.mapUpdate{t:acs}(ht:Oh P F t){m m' k k' v v':aad}(hm:aA F f m m')(hk:aA F f k k')(hv:aA F f v v'):
  aH P F C (λ_ _ _=>True) f (anJ t m k v) (anJ t m' k' v'):=by
 unfold anJ;refine .bind (.underlying t) λg u u' hle hu=>?_;obtain⟨rfl,hu⟩:=hu;replace hm:=hm.mono hle;replace hk:=hk.mono hle;replace hv:=hv.mono hle;cases u with
 |map kt et=>
  dsimp only;obtain⟨KD,het⟩:=ht _ _ hu;cases hm<;>first|exact .halt|exact .never (aL _)|skip
  rename_i r r' hr;refine .bind (.getObj hr) λg2 o o' h2 ho=>?_;cases ho.1 with
  |map c hes=>
   dsimp only;refine .bind (.checkKey _ 10000 kt g2 KD (hk.mono h2)) λg3 _ _ h3 _=>?_;refine .bind (.findKey KD (hes.mono h3) ((hk.mono h2).mono h3)) λg4 q q' h4 hq=>?_;rcases hq with⟨rfl,rfl⟩|⟨i,x,x',rfl,rfl,hx⟩
   ·dsimp only;refine .setObj (h4 _ _ (h3 _ _ (h2 _ _ hr))) (.map _ ?_);simp only[aof];exact .append ((hes.mono h3).mono h4) (.cons (((hk.mono h2).mono h3).mono h4) (((hv.mono h2).mono h3).mono h4) rfl .nil)
   ·dsimp only;refine .bind (.keyThatStays (Jf ((hes.mono h3).mono h4) i (((hk.mono h2).mono h3).mono h4)) (((hk.mono h2).mono h3).mono h4)) λg5 y y' h5 hy=>?_;refine .setObj (h5 _ _ (h4 _ _ (h3 _ _ (h2 _ _ hr)))) (.map _ ?_);simp only[anv];exact dT.modify (h:=λe=>{e with key:=y,val:=v}) (h':=λe=>{e with key:=y',val:=v'}) (λe e' _ _ hb=>⟨hy,(((hv.mono h2).mono h3).mono h4).mono h5,hb⟩) i (((hes.mono h3).mono h4).mono h5)
  |_=>first|exact .halt|exact .never (.aO (.halt _))
 |_=>exact .halt
theorem aH.mapEntry{t:acs}(ht:Oh P F t){m m' k k':aad}(hm:aA F f m m')(hk:aA F f k k'):
  aH P F C (aA F) f (anL t m k) (anL t m' k'):=by
 unfold anL;refine .bind (.underlying t) λg u u' hle hu=>?_;obtain⟨rfl,hu⟩:=hu;replace hm:=hm.mono hle;replace hk:=hk.mono hle;cases u with
 |map kt et=>
  dsimp only;obtain⟨KD,het⟩:=ht _ _ hu;cases hm<;>first|exact .halt|exact .never (aL _)|skip
  rename_i r r' hr;refine .bind (.getObj hr) λg2 o o' h2 ho=>?_;cases ho.1 with
  |map c hes=>
   rename_i es es';dsimp only;refine .bind (.checkKey _ 10000 kt g2 KD (hk.mono h2)) λg3 _ _ h3 _=>?_;refine .bind (.findKey KD (hes.mono h3) ((hk.mono h2).mono h3)) λg4 q q' h4 hq=>?_;rcases hq with⟨rfl,rfl⟩|⟨i,x,x',rfl,rfl,hx⟩
   ·dsimp only;refine .bind (.zeroValue het) λg5 z z' h5 hz=>?_;obtain⟨rfl,hp⟩:=hz;refine .bind (.setObj (h5 _ _ (h4 _ _ (h3 _ _ (h2 _ _ hr)))) (.map _ ?_)) λg6 _ _ h6 _=> .pure' (.tuple (.cons (hp _) (.cons (.int _ _) .nil)));simp only[aof];exact .append (((hes.mono h3).mono h4).mono h5) (.cons ((((hk.mono h2).mono h3).mono h4).mono h5) (hp _) rfl .nil)
   ·dsimp only;refine .bind (.keyThatStays (Jf ((hes.mono h3).mono h4) i (((hk.mono h2).mono h3).mono h4)) (((hk.mono h2).mono h3).mono h4)) λg5 y y' h5 hy=>?_;have agz:((es'[i]?).map (λe=>(e.born:Int))).getD 0=((es[i]?).map (λe=>(e.born:Int))).getD 0:=by
     cases he:es[i]? with
     |none=>
      have:es'[i]? =none:=by
       rw[anN]at*;have:=hes.length;simp only[ane]at this;omega
      rw[this]
     |some e=>
      obtain⟨e',i1,_,_,i4⟩:=hes.get i e (by simpa using he);rw[show es'[i]? =some e' by simpa using i1];simp only[aog,Option.getD_some,i4]
    rw[agz];refine .bind (.setObj (h5 _ _ (h4 _ _ (h3 _ _ (h2 _ _ hr)))) (.map _ ?_)) λg6 _ _ h6 _=> .pure' (.tuple (.cons ((hx.mono h5).mono h6) (.cons (.int _ _) .nil)));simp only[anv];exact dT.modify (h:=λe=>{e with key:=y}) (h':=λe=>{e with key:=y'}) (λe e' _ hv hb=>⟨hy,hv,hb⟩) i (((hes.mono h3).mono h4).mono h5)
  |_=>first|exact .halt|exact .never (.aO (.halt _))
 |_=>exact .halt
theorem aH.entryStore(t:acs){m m' s s' v v':aad}(hm:aA F f m m')(hs:aA F f s s')(hv:aA F f v v'):
  aH P F C (λ_ _ _=>True) f (anD t m s v) (anD t m' s' v'):=by
 unfold anD;cases hm<;>first|exact .halt|skip
 rename_i r r' hr;dsimp only;refine .bind (.getObj hr) λg2 o o' h2 ho=>?_;cases ho.1 with
 |map c hes=>
  dsimp only;refine .bind (.asInt (hs.mono h2)) λg3 n n' h3 hn=>?_;subst hn;rename_i es es';have vy:es'.findIdx? (λe=>(e.born:Int)==n)=es.findIdx? (λe=>(e.born:Int)==n):=by
   have:=dT.findIdx (λb=>(b:Int)==n) hes;obtain⟨l⟩:=es;obtain⟨l'⟩:=es';simpa using this
  rw[vy];split
  ·rename_i i _;refine .setObj (h3 _ _ (h2 _ _ hr)) (.map _ ?_);simp only[anv];exact dT.modify (h:=λe=>{e with val:=v}) (h':=λe=>{e with val:=v'}) (λe e' hk _ hb=>⟨hk,(hv.mono h2).mono h3,hb⟩) i (hes.mono h3)
  ·exact .halt
 |_=>first|exact .halt|exact .never (.aO (.halt _))
theorem aH.range(t:acs){x x':aad}(hx:aA F f x x')(ht: ∀d,P.underlying t=some d→∃a b,d= .map a b):aH P F C (aA F) f (an3 t x) (an3 t x'):=by
 unfold an3;refine .bind (.underlying t) λg u u' hle hu=>?_;obtain⟨rfl,hu⟩:=hu;obtain⟨a,b,rfl⟩:=ht _ hu;replace hx:=hx.mono hle;have fin: ∀g2 (o o':Obj),jf P F C g2 o o'→aH P F C (aA F) g2 (do ads (amM (some ⟨←alZ o,0,none⟩))) (do ads (amM (some ⟨←alZ o',0,none⟩))):=
  λg2 o o' ho=> .bind (.newObj ho) λg3 r r' _ hr=> .pure' (.ptr (a:=⟨r,0,none⟩) hr)
 cases hx<;>first|exact .halt|skip
 ·exact .bind (.pure' (A:=λg a a'=>jf P F C g a a') (.D4 0 #[] 0)) λg2 o o' h2 ho=>fin g2 o o' ho
 ·rename_i r r' hr;refine .bind (.getObj hr) λg2 o o' h2 ho=>?_;cases ho.1 with
  |map c h=>exact .bind (.pure' (A:=λg a a'=>jf P F C g a a') (.iter (h2 _ _ hr) _ _ _)) λg3 o o' h3 ho=>fin g3 o o' ho
  |_=>first|exact .halt|exact .never (.aO (.halt _))
theorem Mk{l l':List alz}(h:dT F f l l')(pre:List (Option alz))(nj: ∀x∈pre,x=none)(i:Nat):
  ((pre++l.map some)[i]? =none∧(pre++l'.map some)[i]? =none)∨((pre++l.map some)[i]? =some none∧(pre++l'.map some)[i]? =some none)∨
  ∃e e':alz,(pre++l.map some)[i]? =some (some e)∧(pre++l'.map some)[i]? =some (some e')∧aA F f e.key e'.key∧aA F f e.val e'.val∧e'.born=e.born:=by
 by_cases hi:i<pre.length
 ·right;left;rw[anQ hi,anQ hi];obtain⟨x,hx⟩: ∃x,pre[i]? =some x:=⟨_,List.getElem?_eq_getElem hi⟩;have:=nj x (ann hx);subst this;exact⟨hx,hx⟩
 ·rw[anP aj,anP aj];simp only[anr];cases he:l[i- pre.length]? with
  |none=>
   left;have:l'[i- pre.length]? =none:=by rw[List.getElem?_eq_none_iff]at*;rw[←h.length];exact he
   rw[this];exact⟨rfl,rfl⟩
  |some e=>
   obtain⟨e',h1,h2,h3,h4⟩:=h.get _ _ he;right;right;exact⟨e,e',rfl,by rw[h1];rfl,h2,h3,h4⟩
theorem aH.next{x x':aad}(hx:aA F f x x')(t:acs):aH P F C (aA F) f (an9 x false t) (an9 x' false t):=by
 unfold an9;cases hx<;>first|exact .halt|skip
 rename_i a b hb;obtain⟨r,off,spot⟩:=a;cases off with
 |succ n=>exact .halt
 |zero=>
  dsimp only at hb⊢;refine .bind (.getObj hb) λg2 o o' h2 ho=>?_;cases ho.1 with
  |D4 a b c=>exact .pure' (.tuple (.cons (.bool false) .nil))
  |iter hm since seen last=>
   rename_i m m';dsimp only;refine .bind (.getObj hm) λg3 p p' h3 hp=>?_;cases hp.1 with
   |map clock hes=>
    rename_i es es';dsimp only;have P2:es'.isEmpty=es.isEmpty:=by
     have:=hes.length;simp only[ane]at this;simp only[anY,this]
    have hall:es'.all (λe=>decide (e.born≥last))=es.all (λe=>decide (e.born≥last)):=by
     rw[←aoj,←aoj];exact dT.all (λb=>decide (b≥last)) hes
    rw[P2,hall];split
    ·exact .never (.aO (.halt _))
    ·have TM:=dT.filter (λb=> !seen.contains b) hes;have hold:=dT.filter (λb=>decide (b<since)) TM;have se:=dT.filter (λb=>decide (b≥since)) TM;have P3:=hold.append se;have hlen:=P3.length;have hol:=hold.length;have key: ∀ (pre:Array (Option alz)),(∀x∈pre,x=none)→∀ (ca ca':Array (Option alz)),
       ca.toList=pre.toList++(((es.toList.filter λe=> !seen.contains e.born).filter λe=>decide (e.born<since))++((es.toList.filter λe=> !seen.contains e.born).filter λe=>decide (e.born≥since))).map some→
       ca'.toList=pre.toList++(((es'.toList.filter λe=> !seen.contains e.born).filter λe=>decide (e.born<since))++((es'.toList.filter λe=> !seen.contains e.born).filter λe=>decide (e.born≥since))).map some→
       aH P F C (aA F) g3 (do
        match ca[←alI (.mapNext ca.size)]? with
        |some (some e)=>
         alY r (.mapIter (some m) since (seen.push e.born) clock)
         ads (.tuple #[.bool true,e.key,e.val])
        |some none=>ads (.tuple #[.bool false])
        |none=>alO "Next: no such candidate") (do
        match ca'[←alI (.mapNext ca'.size)]? with
        |some (some e)=>
         alY b (.mapIter (some m') since (seen.push e.born) clock)
         ads (.tuple #[.bool true,e.key,e.val])
        |some none=>ads (.tuple #[.bool false])
        |none=>alO "Next: no such candidate"):=by
      intro pre nj ca ca' hca ad5;have hsz:ca'.size=ca.size:=by
       rw[←ane,←ane,hca,ad5];simp only[List.length_append,List.length_map]at hlen⊢;omega
      rw[hsz];refine .bind .choose λg4 n n' h4 hn=>?_;subst hn;have hi:=Mk P3 pre.toList (λx hx=>nj x (by simpa using hx)) n;rw[←hca,←ad5,an0,an0]at hi;rcases hi with⟨h5,h6⟩|⟨h5,h6⟩|⟨e,e',h5,h6,k1,k2,k3⟩
      ·rw[h5,h6];exact .halt
      ·rw[h5,h6];exact .pure' (.tuple (.cons (.bool false) .nil))
      ·rw[h5,h6];dsimp only;rw[k3];refine .bind (.setObj (h4 _ _ (h3 _ _ (h2 _ _ hb))) (.iter (h4 _ _ (h3 _ _ hm)) _ _ _)) λg5 _ _ h6 _=>?_;exact .pure' (.tuple (.cons (.bool true) (.cons ((k1.mono h4).mono h6) (.cons ((k2.mono h4).mono h6) .nil))))
     have hoe:((es'.filter λe=> !seen.contains e.born).filter λe=>decide (e.born<since)).isEmpty=((es.filter λe=> !seen.contains e.born).filter λe=>decide (e.born<since)).isEmpty:=by
      have a1:((es'.filter λe=> !seen.contains e.born).filter λe=>decide (e.born<since)).size=((es.filter λe=> !seen.contains e.born).filter λe=>decide (e.born<since)).size:=by
       clear key hall P2 P3 hlen se hold TM;obtain⟨l⟩:=es;obtain⟨l'⟩:=es';simpa using hol.symm
      simp only[anY,a1]
     rw[hoe];refine key (if((es.filter λe=> !seen.contains e.born).filter λe=>decide (e.born<since)).isEmpty=true then #[none]else #[]) ?_ _ _ ?_ ?_
     ·intro x hx;split at hx<;>simp at hx;exact hx
     ·simp
     ·simp
   |_=>first|exact .halt|exact .never (.aO (.halt _))
  |_=>first|exact .halt|exact .never (.aO (.halt _))
end
section
variable{α α' β β':Type}{P:alu}{F:alB→Bool}{C:amq→Bool}{f:Ren}{w w':aly}
def ku(F:alB→Bool)(f:Ren)(a a':Option aad):Prop:=(a=none∧a'=none)∨∃v v',a=some v∧a'=some v'∧aA F f v v'
theorem ku.mono{g:Ren}(h:f.le g){a a':Option aad}(x:ku F f a a'):ku F g a a':=by
 rcases x with h'|⟨v,v',h1,h2,h3⟩
 ·exact .inl h'
 ·exact .inr ⟨v,v',h1,h2,h3.mono h⟩
theorem aH.sliceBound{x x':aad}(h:aA F f x x')(y:Nat)(c:BoundsCode):aH P F C (λ_ a a'=>a=a') f (anm x y c) (anm x' y c):=by
 unfold anm;refine .bind (.asIntOf h) λg a a' _ ha=>?_;subst ha;obtain⟨k,i⟩:=a;dsimp only;by_cases hi:0≤i∧i≤y
 ·simp only[if_pos hi];exact .pure' rfl
 ·simp only[if_neg hi];exact .never (gS _ _ _ _)
theorem aH.sliceBounds(b:Bool)(len cap:Nat){lo Sl hi hi' mx mx':Option aad}(h1:ku F f lo Sl)(h2:ku F f hi hi')(h3:ku F f mx mx'):
  aH P F C (λ_ a a'=>a=a') f (anl b len cap lo hi mx) (anl b len cap Sl hi' mx'):=by
 unfold anl;have low: ∀ (g:Ren) (m h:Nat) (s:Bool),ku F g lo Sl→aH P F C (λ_ a a'=>a=a') g
   (do let l←match lo with
         |some v=>anm v h (if s then .slice3C else .sliceB)
         |none=>ads 0
       ads (l,h,m))
   (do let l←match Sl with
         |some v=>anm v h (if s then .slice3C else .sliceB)
         |none=>ads 0
       ads (l,h,m)):=by
  intro g m h s hl;rcases hl with⟨rfl,rfl⟩|⟨v,v',rfl,rfl,hv⟩
  ·exact .still (.bind (.pure _) λ_=> .pure _)
  ·exact .bind (.sliceBound hv h _) λ_ a a' _ ha=>by subst ha;exact .pure' rfl
 rcases h3 with⟨rfl,rfl⟩|⟨v3,v3',rfl,rfl,hv3⟩
 ·dsimp only;refine .bind (.still (.pure _)) λg m m' hle hm=>?_;subst hm;rcases h2 with⟨rfl,rfl⟩|⟨v2,v2',rfl,rfl,hv2⟩
  ·dsimp only;refine .bind (.still (.pure _)) λg2 h h' cC hh=>?_;subst hh;exact low g2 m h false ((h1.mono hle).mono cC)
  ·dsimp only;refine .bind (.sliceBound (hv2.mono hle) _ _) λg2 h h' cC hh=>?_;subst hh;exact low g2 m h false ((h1.mono hle).mono cC)
 ·dsimp only;refine .bind (.sliceBound hv3 _ _) λg m m' hle hm=>?_;subst hm;rcases h2 with⟨rfl,rfl⟩|⟨v2,v2',rfl,rfl,hv2⟩
  ·exact .never (.aO (.halt _))
  ·dsimp only;refine .bind (.sliceBound (hv2.mono hle) _ _) λg2 h h' cC hh=>?_;subst hh;exact low g2 m h true ((h1.mono hle).mono cC)
theorem QD{a:Option alA}{v':aad}{n c:Nat}(h:aA F f (.slice a n c) v'): ∃a',v'= .slice a' n c∧((a=none∧a'=none)∨∃x x',a=some x∧a'=some x'∧bE f x x'):=by
 cases h with
 |Kw=>exact⟨none,rfl,.inl ⟨rfl,rfl⟩⟩
 |sl _ _ h=>exact⟨_,rfl,.inr ⟨_,_,rfl,rfl,_,h,rfl⟩⟩
theorem aH.slice(t:acs){x x':aad}(hx:aA F f x x'){lo Sl hi hi' mx mx':Option aad}(h1:ku F f lo Sl)(h2:ku F f hi hi')(h3:ku F f mx mx'):
  aH P F C (aA F) f (an2 t x lo hi mx) (an2 t x' Sl hi' mx'):=by
 unfold an2;refine .bind (.underlying t) λg u u' hle hu=>?_;obtain⟨rfl,hu⟩:=hu;replace hx:=hx.mono hle;replace h1:=h1.mono hle;replace h2:=h2.mono hle;replace h3:=h3.mono hle;have DL:mx'.isSome=mx.isSome:=by rcases h3 with⟨rfl,rfl⟩|⟨_,_,rfl,rfl,_⟩<;>rfl
 cases u with
 |string=>
  cases hx<;>first|exact .halt|skip
  rename_i s;dsimp only;rw[DL];split
  ·exact .never (.aO (.halt _))
  ·refine .bind (.sliceBounds _ _ _ h1 h2 (.inl ⟨rfl,rfl⟩)) λg2 a a' _ ha=>?_;subst ha;exact .pure' (.string _)
 |slice e=>
  cases hx<;>first|exact .halt|skip
  ·rename_i n c;dsimp only;refine .bind (.sliceBounds _ _ _ h1 h2 h3) λg2 a a' _ ha=>?_;subst ha;obtain⟨l,h,m⟩:=a;dsimp only;refine .bind (.still (bO e)) λg3 k k' _ hk=>?_;subst hk;have:(if m=l then(none:Option alA)else Option.map (λx:alA=>x.add (l*k)) none)=none:=by split<;>rfl
   rw[this];exact .pure' (.Kw _ _)
  ·rename_i a b n c hb;dsimp only;refine .bind (.sliceBounds _ _ _ h1 h2 h3) λg2 q q' cC hq=>?_;subst hq;obtain⟨l,h,m⟩:=q;dsimp only;refine .bind (.still (bO e)) λg3 k k' eQ hk=>?_;subst hk;have hab:bE g3 a {a with block:=b}:=⟨b,eQ _ _ (cC _ _ hb),rfl⟩;by_cases E3:m=l
   ·simp only[if_pos E3];exact .pure' (.lO hab _ _)
   ·simp only[if_neg E3,aog];exact .pure' (.lO (hab.add _) _ _)
 |pointer arr=>
  dsimp only;have body:aH P F C (aA F) g
    (do let a←ana x
        let .array n elem←alJ arr|alO "Slice: array type expected"
        let(l,h,m) ←anl false n n lo hi mx
        let size←amR elem
        ads (.slice (some (if m=l then a else a.add (l*size))) (h- l) (m- l)))
    (do let a←ana x'
        let .array n elem←alJ arr|alO "Slice: array type expected"
        let(l,h,m) ←anl false n n Sl hi' mx'
        let size←amR elem
        ads (.slice (some (if m=l then a else a.add (l*size))) (h- l) (m- l))):=by
   refine .bind (.asAddr hx) λg2 a a' cC ha=>?_;refine .bind (.underlying arr) λg3 d d' eQ hd=>?_;obtain⟨rfl,_⟩:=hd;cases d with
   |array n elem=>
    dsimp only;refine .bind (.sliceBounds _ _ _ ((h1.mono cC).mono eQ) ((h2.mono cC).mono eQ) ((h3.mono cC).mono eQ)) λg4 q q' mP hq=>?_;subst hq;obtain⟨l,h,m⟩:=q;dsimp only;refine .bind (.still (bO elem)) λg5 k k' pO hk=>?_;subst hk;have ha':=((ha.mono eQ).mono mP).mono pO;by_cases E3:m=l
    ·simp only[if_pos E3];exact .pure' (.lO ha' _ _)
    ·simp only[if_neg E3];exact .pure' (.lO (ha'.add _) _ _)
   |_=>exact .halt
  exact body
 |_=>cases hx<;>exact .halt
theorem aH.sliceAt(t:acs){x x':aad}(hx:aA F f x x'){lo Sl hi hi' mx mx':Option aad}(h1:ku F f lo Sl)(h2:ku F f hi hi')(h3:ku F f mx mx'):
  aH P F C (aA F) f (anR t x lo hi mx) (anR t x' Sl hi' mx'):=by
 unfold anR;refine .bind (.underlying t) λg u u' hle hu=>?_;obtain⟨rfl,hu⟩:=hu;replace hx:=hx.mono hle;replace h1:=h1.mono hle;replace h2:=h2.mono hle;replace h3:=h3.mono hle;cases u with
 |array n elem=>
  dsimp only;refine .bind (.sureAddr hx) λg2 a a' cC ha=>?_;refine .bind (.sliceBounds _ _ _ (h1.mono cC) (h2.mono cC) (h3.mono cC)) λg4 q q' mP hq=>?_;subst hq;obtain⟨l,h,m⟩:=q;dsimp only;refine .bind (.still (bO elem)) λg5 k k' pO hk=>?_;subst hk;have ha':=(ha.mono mP).mono pO;by_cases E3:m=l
  ·simp only[if_pos E3];exact .pure' (.lO ha' _ _)
  ·simp only[if_neg E3];exact .pure' (.lO (ha'.add _) _ _)
 |_=>exact .slice t hx h1 h2 h3
theorem aH.index(t:acs){x x' i i':aad}(hx:aA F f x x')(hi:aA F f i i'):aH P F C (aA F) f (an4 t x i) (an4 t x' i'):=by
 unfold an4;refine .bind (.asIntOf hi) λg a a' hle ha=>?_;subst ha;obtain⟨k,n⟩:=a;dsimp only;refine .bind (.underlying t) λg2 u u' cC hu=>?_;obtain⟨rfl,hu⟩:=hu;replace hx:=(hx.mono hle).mono cC;cases u with
 |array len e=>
  cases hx<;>first|exact .halt|skip
  rename_i c c' hc;dsimp only;by_cases h0:0≤n∧n<len
  ·simp only[if_pos h0];refine .bind (.still (bO e)) λg3 q q' eQ hq=>?_;subst hq;exact .part e (cz.mono eQ hc) _
  ·simp only[if_neg h0];exact .never (gS _ _ _ _)
 |string=>
  cases hx<;>first|exact .halt|skip
  rename_i s;dsimp only;cases(if 0≤n then s[n.toNat]? else none)with
  |none=>exact .never (gS _ _ _ _)
  |some b=>exact .pure' (.int _ _)
 |_=>cases hx<;>exact .halt
theorem aH.extract{x x':aad}(hx:aA F f x x')(i:Nat):aH P F C (aA F) f (anU x i) (anU x' i):=by
 unfold anU;cases hx<;>first|exact .halt|skip
 rename_i c c' hc;dsimp only;cases he:c[i]? with
 |none=>exact .halt
 |some v=>obtain⟨v',h1,h2⟩:=RelA.get hc i v he;rw[h1];exact .pure' h2
theorem aH.makeMap(t:acs){r r':Option aad}(h:ku F f r r'):aH P F C (aA F) f (anS t r) (anS t r'):=by
 unfold anS;have fin: ∀g,aH P F C (aA F) g (do ads (aos (some (←alZ (.map #[] 0))))) (do ads (aos (some (←alZ (.map #[] 0))))):=
  λg=> .bind (.newObj (.map 0 .nil)) λg2 a a' _ ha=> .pure' (.map ha)
 rcases h with⟨rfl,rfl⟩|⟨v,v',rfl,rfl,hv⟩
 ·exact fin f
 ·dsimp only;refine .bind (.underlying t) λg u u' hle hu=>?_;obtain⟨rfl,hu⟩:=hu;cases u with
  |map a b=>exact .bind (.asInt (hv.mono hle)) λg2 _ _ _ _=>fin g2
  |_=>first|exact .halt|exact .never (.aO (.halt _))
/-! ### the built-ins-/
theorem aH.len(ts:Array acs)(t:acs){a a':Array aad}(h:RelA F f a a'):aH P F C (aA F) f (anW ts t a) (anW ts t a'):=by
 unfold anW;cases ts[0]? with
 |none=>exact .halt
 |some t0=>
  cases h0:a[0]? with
  |none=>rw[h.none 0 h0];exact .halt
  |some x=>
   obtain⟨x',NI,hx⟩:=h.get 0 x h0;rw[NI];dsimp only;refine .bind (.underlying t0) λg u u' hle hu=>?_;obtain⟨rfl,hu⟩:=hu;replace hx:=hx.mono hle;cases u with
   |string=>cases hx<;>first|exact .halt|exact .pure' (.int _ _)
   |array n e=>exact .pure' (.int _ _)
   |pointer arr=>
    dsimp only;refine .bind (.underlying arr) λg2 d d' cC hd=>?_;obtain⟨rfl,_⟩:=hd;cases d<;>first|exact .halt|exact .pure' (.int _ _)
   |slice e=>cases hx<;>first|exact .halt|exact .pure' (.int _ _)
   |map k e=>
    cases hx<;>first|exact .halt|exact .pure' (.int _ _)|skip
    rename_i r r' hr;dsimp only;refine .bind (.getObj hr) λg2 o o' h2 ho=>?_;cases ho.1 with
    |map c hes=>
     dsimp only;have:=hes.length;simp only[ane]at this;rw[this];exact .pure' (.int _ _)
    |_=>first|exact .halt|exact .never (.aO (.halt _))
   |_=>cases hx<;>exact .halt
theorem aH.delete{ts:Array acs}(iu: ∀t,ts[0]? =some t→Oh P F t)(t:acs){a a':Array aad}(h:RelA F f a a'):aH P F C (aA F) f (anE ts t a) (anE ts t a'):=by
 unfold anE;cases RR:ts[0]? with
 |none=>exact .halt
 |some t0=>
  cases h0:a[0]? with
  |none=>rw[h.none 0 h0];exact .halt
  |some m=>
   obtain⟨m',NI,hm⟩:=h.get 0 m h0;cases h1:a[1]? with
   |none=>rw[NI,h.none 1 h1];exact .halt
   |some k=>
    obtain⟨k',Bp,hk⟩:=h.get 1 k h1;rw[NI,Bp];dsimp only;refine .bind (.underlying t0) λg u u' hle hu=>?_;obtain⟨rfl,hu⟩:=hu;replace hm:=hm.mono hle;replace hk:=hk.mono hle;cases u with
    |map kt et=>
     obtain⟨KD,het⟩:=iu t0 RR _ _ hu;cases hm<;>first|exact .halt|exact .never (.aO (.halt _))|skip
     ·exact .bind (.checkKey _ 10000 kt g KD hk) λ_ _ _ _ _=> .pure' (.tuple .nil)
     ·rename_i r r' hr;dsimp only;refine .bind (.getObj hr) λg2 o o' h2 ho=>?_;cases ho.1 with
      |map c hes=>
       rename_i es es';dsimp only;have P2:es'.isEmpty=es.isEmpty:=by
        have:=hes.length;simp only[ane]at this;simp only[anY,this]
       rw[P2];refine .bind (.checkKey _ 10000 kt g2 KD (hk.mono h2)) λg3 _ _ h3 _=>?_;refine .bind (.findKey KD (hes.mono h3) ((hk.mono h2).mono h3)) λg4 q q' h4 hq=>?_;rcases hq with⟨rfl,rfl⟩|⟨i,x,x',rfl,rfl,hx⟩
       ·exact .bind (.setObj (h4 _ _ (h3 _ _ (h2 _ _ hr))) (.map _ ((hes.mono h3).mono h4))) λ_ _ _ _ _=> .pure' (.tuple .nil)
       ·refine .bind (.setObj (h4 _ _ (h3 _ _ (h2 _ _ hr))) (.map _ ?_)) λ_ _ _ _ _=> .pure' (.tuple .nil);have:=((hes.mono h3).mono h4).erase i;simpa using this
      |_=>first|exact .halt|exact .never (.aO (.halt _))
    |_=>first|exact .halt|exact .never (.aO (.halt _))
theorem Cz{z z':Array aad}(hz:RelA F f z z')(n:Nat):RelA F f (anA z n) (anA z' n):=by
 unfold anA;have:=pE hz (n*z.size);rw[←hz.size]at*;exact this
theorem aH.clear{ts:Array acs}(iu: ∀t e,ts[0]? =some t→P.underlying t=some (.slice e)→pU P F e)(t:acs){a a':Array aad}(h:RelA F f a a'):aH P F C (aA F) f (anK ts t a) (anK ts t a'):=by
 unfold anK;cases RR:ts[0]? with
 |none=>exact .halt
 |some t0=>
  cases h0:a[0]? with
  |none=>rw[h.none 0 h0];exact .halt
  |some m=>
   obtain⟨m',NI,hm⟩:=h.get 0 m h0;rw[NI];dsimp only;refine .bind (.underlying t0) λg u u' hle hu=>?_;obtain⟨rfl,hu⟩:=hu;replace hm:=hm.mono hle;have ok:aH P F C (aA F) g ((ads ():alP Unit) >>= λ_=>ads (al5 #[])) ((ads ():alP Unit) >>= λ_=>ads (al5 #[])):= .bind (.pure' (A:=λ_ _ _=>True) trivial) λg2 _ _ _ _=> .pure' (A:=aA F) (f:=g2) (.tuple .nil);have isMap: ∀r r',g r=some r'→aH P F C (aA F) g
     (do let .map _ clock←alS r|(do alO "clear: map expected";ads (al5 #[]))
         alY r (.map #[] clock)
         ads (al5 #[]))
     (do let .map _ clock←alS r'|(do alO "clear: map expected";ads (al5 #[]))
         alY r' (.map #[] clock)
         ads (al5 #[])):=by
    intro r r' hr;refine .bind (.getObj hr) λg2 o o' h2 ho=>?_;cases ho.1 with
    |map c hes=>exact .bind (.setObj (h2 _ _ hr) (.map _ .nil)) λ_ _ _ _ _=> .pure' (.tuple .nil)
    |_=>first|exact .halt|exact .never (.aO (.halt _))
   cases u with
   |slice e=>
    cases hm<;>first|exact .halt|exact .never (.aO (.halt _))|exact ok|skip
    ·rename_i a b n c hb;cases n with
     |zero=>exact ok
     |succ n=>
      refine .bind (.zeroValue (iu t0 e RR hu)) λg2 z z' h2 hz=>?_;obtain⟨rfl,hp⟩:=hz;exact .bind (.storeCells ⟨b,h2 _ _ hb,rfl⟩ (Cz (hp.cells _) _) 0) λ_ _ _ _ _=> .pure' (.tuple .nil)
    ·exact isMap _ _ ‹_›
   |_=>
    cases hm<;>first|exact .halt|exact .never (.aO (.halt _))|exact ok|exact isMap _ _ ‹_› |skip
    rename_i a b n c hb;cases n with
    |zero=>exact ok
    |succ n=>first|exact .halt|exact .never (.aO (.halt _))
end
section
variable{α α' β β':Type}{P:alu}{F:alB→Bool}{C:amq→Bool}{f:Ren}{w w':aly}
theorem aH.lenOf{x x':aad}(h:aA F f x x'):aH P F C (λ_ a a'=>a=a') f (anp x) (anp x'):=by
 unfold anp;cases h<;>first|exact .halt|exact .pure' rfl
theorem aH.firstCells(size n:Nat){x x':aad}(h:aA F f x x'):aH P F C (RelA F) f (ani size n x) (ani size n x'):=by
 unfold ani;cases h<;>first|exact .halt|skip
 ·rename_i s;refine .pure' ?_;unfold RelA;refine cz.lV rfl λi v v' h1 h2=>?_;rw[h1]at h2;cases h2;simp only[anG,anr,ant]at h1;obtain⟨b,_,rfl⟩:=h1;exact .int _ _
 ·exact .pure' .empty
 ·rename_i a b n' c hb;exact .loadCells ⟨b,hb,rfl⟩ _
theorem aH.append{ts:Array acs}(iu: ∀t e,ts[0]? =some t→P.underlying t=some (.slice e)→pU P F e)(hnz: ∃t1,ts[1]? =some t1∧∀k,P.underlying t1≠some (.int k))(t:acs){a a':Array aad}(h:RelA F f a a'):
  aH P F C (aA F) f (anF ts t a) (anF ts t a'):=by
 unfold anF;cases RR:ts[0]? with
 |none=>exact .halt
 |some t0=>
  cases h0:a[0]? with
  |none=>rw[h.none 0 h0];exact .halt
  |some s=>
   obtain⟨s',NI,hs⟩:=h.get 0 s h0;cases h1:a[1]? with
   |none=>rw[NI,h.none 1 h1];exact .halt
   |some x=>
    obtain⟨x',Bp,hx⟩:=h.get 1 x h1;rw[NI,Bp];dsimp only;refine .bind (.underlying t0) λg u u' hle hu=>?_;obtain⟨rfl,hu⟩:=hu;cases u with
    |slice elem=>
     dsimp only;have hz:=iu t0 elem RR hu;replace hs:=hs.mono hle;replace hx:=hx.mono hle;obtain⟨base,KO,XU,rfl⟩|hno:(∃b l c,s= .slice b l c)∨∀b l c,s≠ .slice b l c:=by
      cases s<;>first|exact .inl ⟨_,_,_,rfl⟩|exact .inr bz
     ·obtain⟨base',rfl,hb⟩:=QD hs;dsimp only;refine .bind (.still (bO elem)) λg2 size size' cC hsz=>?_;subst hsz;have hx2:=hx.mono cC;have hb2:(base=none∧base'=none)∨∃x x',base=some x∧base'=some x'∧bE g2 x x':=by
       rcases hb with hb|⟨y,y',h1,h2,h3⟩
       ·exact .inl hb
       ·exact .inr ⟨y,y',h1,h2,h3.mono cC⟩
      obtain⟨t1,jh,hnt⟩:=hnz;rw[jh];dsimp only;refine .bind (.underlying t1) λg3 d d' eQ hd=>?_;obtain⟨rfl,hd⟩:=hd;refine .bind (.pure' (A:=λ_ a a'=>a=false∧a'=false) (by cases d<;>first|exact⟨rfl,rfl⟩|exact absurd hd (hnt _))) λg4 z z' mP hz0=>?_;obtain⟨rfl,rfl⟩:=hz0;simp only[amA,if_false,Bool.not_false,if_true,false_or];have TN:=Ren.le_trans eQ mP;refine .bind (.lenOf (hx2.mono TN)) λg5 n n' pO hn=>?_;subst hn;have Pu:=(hx2.mono TN).mono pO;have sI:(base=none∧base'=none)∨∃x x',base=some x∧base'=some x'∧bE g5 x x':=by
       rcases hb2 with hb|⟨y,y',h1,h2,h3⟩
       ·exact .inl hb
       ·exact .inr ⟨y,y',h1,h2,(h3.mono TN).mono pO⟩
      by_cases Dr:KO+n≤XU
      ·simp only[if_pos Dr];refine .bind (.firstCells _ _ Pu) λg6 c c' Yd hc=>?_;rcases sI with⟨rfl,rfl⟩|⟨y,y',rfl,rfl,hy⟩
       ·exact .pure' (.Kw _ _)
       ·dsimp only;exact .bind (.storeCells ((hy.mono Yd).add _) hc 0) λg7 _ _ aby _=> .pure' (.lO ((hy.mono Yd).mono aby) _ _)
      ·simp only[if_neg Dr];refine .bind (.typeInfo elem) λg6 i i' Yd hi=>?_;obtain⟨rfl,hi⟩:=hi;by_cases hA:((KO+n:Nat):Int) >IntKind.i64.max∧i.bytes=0
       ·simp only[if_pos hA];exact .never (.aO (aL _))
       ·simp only[if_neg hA];refine .bind (.typeInfo elem) λg7 i i' aby hi=>?_;obtain⟨rfl,hi⟩:=hi;by_cases hB:Builtin.nextslicecap (KO+n) XU*i.bytes>2^48
        ·simp only[if_pos hB];refine .never (.aO (.bind (.mayShare _ _ _ _ _) λb=>?_));split
         ·exact .bind (.mark _) λ_=> .halt _
         ·exact .halt _
        ·simp only[if_neg hB];refine .bind .choose λg8 cap cap' ahX hcp=>?_;subst hcp;refine .bind (.typeInfo elem) λg9 i i' ahW hi=>?_;obtain⟨rfl,hi⟩:=hi;refine .bind (.askRoom _) λg10 _ _ agt _=>?_;have Ut:=Ren.le_trans Yd (Ren.le_trans aby (Ren.le_trans ahX (Ren.le_trans ahW agt)));have pZ:aA F g10 (.slice base KO XU) (.slice base' KO XU):=by
          rcases sI with⟨rfl,rfl⟩|⟨y,y',rfl,rfl,hy⟩
          ·exact .Kw _ _
          ·exact .lO (hy.mono Ut) _ _
         refine .bind (.firstCells _ _ pZ) λg11 o o' ags ho=>?_;refine .bind (.firstCells _ _ ((Pu.mono Ut).mono ags)) λg12 c c' agq hc=>?_;refine .bind (.zeroValue hz) λg13 z z' aaI hzz=>?_;obtain⟨rfl,hp⟩:=hzz;refine .bind (.newRow elem ((((ho.mono agq).mono aaI).append (hc.mono aaI)).append (Cz (hp.cells _) _))) λg14 r r' _ hr=>?_;exact .pure' (.lO hr _ _)
     ·cases hs<;>first|exact .halt|exact absurd rfl (hno _ _ _)
    |_=>exact .halt
end
section
variable{α α' β β':Type}{P:alu}{F:alB→Bool}{C:amq→Bool}{f:Ren}{w w':aly}
theorem aH.unsafeAdd(ts:Array acs)(t:acs){x x' y y':aad}(hx:aA F f x x')(hy:aA F f y y'):aH P F C (aA F) f (anf ts t #[x,y]) (anf ts t #[x',y']):=by
 unfold anf;cases hx<;>first|exact .halt|skip
 ·dsimp only;refine .never (.still (JJ _) λn=>?_);dsimp only
  repeat' split
  all_goals first|exact .halt _|exact .aO (.halt _)
 ·rename_i a b hb;dsimp only;refine .bind (.asInt hy) λg n n' hle hn=>?_;subst hn;by_cases h0:n=0
  ·simp only[if_pos h0];refine .bind (.viewAt (hle _ _ hb)) λg2 v v' cC hv=>?_;rcases hv with⟨rfl,rfl⟩|⟨x,x',u,rfl,rfl,hx⟩
   ·simp only[Option.isSome_none,amA,if_false];exact .pure' (.ptr (cC _ _ (hle _ _ hb)))
   ·simp only[Option.isSome_some,if_true];exact .never (.aO (.halt _))
  ·simp only[if_neg h0];by_cases vD:n<0
   ·simp only[if_pos vD];exact .never (.aO (.halt _))
   ·simp only[if_neg vD];refine .bind (.shape (hle _ _ hb)) λg2 s s' cC hs=>?_;subst hs;cases s with
    |none=>exact .halt
    |some s=>
     obtain⟨e,m⟩:=s;dsimp only;refine .bind .program λg3 p p' eQ hp=>?_;obtain⟨rfl,rfl⟩:=hp;cases cellAtBytes P P.depth e (m/P.cellsOf e) a.off n with
     |none=>exact .halt
     |some off=>exact .pure' (.ptr (a:={a with off}) (eQ _ _ (cC _ _ (hle _ _ hb))))
theorem aH.movedNumber(t:acs){x x' y y':aad}(hx:aA F f x x')(hy:aA F f y y'):aH P F C (aA F) f (anq t x y) (anq t x' y'):=by
 unfold anq;refine .bind (.underlying t) λg u u' hle hu=>?_;obtain⟨rfl,hu⟩:=hu;replace hx:=hx.mono hle;replace hy:=hy.mono hle;have rest:aH P F C (aA F) g
   (do let .pointer (some n):=x|anf #[] t #[x,y]
       let(a,lost) ←amc n
       match←anf #[] t #[.pointer (some a),y]with
       | .pointer (some b)=>aod b lost
       |v=>ads v)
   (do let .pointer (some n):=x'|anf #[] t #[x',y']
       let(a,lost) ←amc n
       match←anf #[] t #[.pointer (some a),y']with
       | .pointer (some b)=>aod b lost
       |v=>ads v):=by
  cases hx
  case ptr a b hb=>
   dsimp only;refine .bind (.behindNumber ⟨b,hb,rfl⟩) λg2 q q' cC hq=>?_;obtain⟨z,z',l,rfl,rfl,hz⟩:=hq;dsimp only;refine .bind (.unsafeAdd _ _ (.BB hz) (hy.mono cC)) λg3 v v' eQ hv=>?_;cases hv
   case ptr c d hd=>
    dsimp only;unfold aod;exact .bind (.newObj (.number hd l)) λg4 r r' _ hr=> .pure' (.ptr (a:=⟨r,0,none⟩) hr)
   all_goals exact .pure' (by constructor<;>assumption)
  all_goals exact .unsafeAdd _ _ (by constructor<;>assumption) hy
 cases u<;>first|exact .never (.aO (.halt _))|exact rest
theorem aH.addrMod(k:aor){a a':alA}(ha:bE f a a')(n:Int):aH P F C (aA F) f (anB k a n) (anB k a' n):=by
 unfold anB;have ha0:=ha;obtain⟨b,hb,rfl⟩:=ha;refine .bind (.shape hb) λg s s' hle hs=>?_;subst hs;cases s with
 |none=>exact .halt
 |some s=>
  obtain⟨e,m⟩:=s;dsimp only;refine .bind (.typeInfo e) λg2 i i' cC hi=>?_;obtain⟨rfl,_⟩:=hi;split
  ·exact .never (.aO (.halt _))
  ·refine .bind (.byteOf ((ha0.mono hle).mono cC)) λg3 q q' _ hq=>?_;subst hq;exact .pure' (.int _ _)
theorem r7{a b:alA}(ha:P.globals.size≤a.block):ie P (aot a b):=by
 unfold aot;have hc:(a.block != b.block||decide (a.block≥P.globals.size))=true:=by simp;exact .inr ha
 intro w es;rw[runT_bind'];simp only[alw,aab];rw[if_pos hc];exact ie.aO (.halt _) w es
def Ii(P:alu)(op:anZ)(t:acs):Bool:=
 match op with
 | .eql| .neq=>lT P amw t&& !P.eqGuardType P.depth t
 |_=>match P.underlying t with|some (.int _)|some .string=>true|_=>false
theorem r6(d:Nat)(t:acs):Still P (anH (d+1) t .nilIface .nilIface):=by
 unfold anH;refine .bind (dm t) λu=>?_;cases u<;>exact .pure _
theorem aH.eqGuard{op:anZ}{t:acs}(ho:Ii P op t=true)(x y:ang){a a' b b':aad}(ha:aA F f a a')(hb:aA F f b b'):
  aH P F C (λ_ _ _=>True) f (ank op t x y a b) (ank op t x y a' b'):=by
 have main:op= .eql∨op= .neq→aH P F C (λ_ _ _=>True) f (ank op t x y a b) (ank op t x y a' b'):=by
  intro hop;have h2:P.eqGuardType P.depth t=false:=by
   rcases hop with rfl|rfl<;>(simp only[Ii,anh,anC]at ho;exact ho.2)
  have nn: ∀q:ang,∀q2:ang,Still P (if((match q with| .const _=>true|_=>false)||(match q2 with| .const _=>true|_=>false))=true then(ads ():alP Unit)else do
    if←anH amw t .nilIface .nilIface then alW (.noEntry "binop/eql: two nil values of an interface type with methods, neither of them the literal nil")else ads ()):=by
   intro q q2;generalize((match q with| .const _=>true|_=>false)||(match q2 with| .const _=>true|_=>false))=c;cases c
   ·simp only[amA,if_false];refine .bind (r6 9999 t) λq=>?_;cases q
    ·exact .pure _
    ·exact .halt _
   ·exact .pure _
  rcases hop with rfl|rfl
  all_goals
   unfold ank;simp only[aop,amA,if_false];cases ha<;>cases hb<;>first
    |exact .pure' trivial
    |exact .mono (.still (nn x y)) λ_ _ _ _ _=>trivial
    |(refine .bind .program λg p p' _ hp=>?_
      obtain⟨rfl,rfl⟩:=hp;refine .bind .program λg p p' _ hp=>?_;obtain⟨rfl,rfl⟩:=hp;rw[h2]
      exact .pure' trivial)
 by_cases hop:op= .eql∨op= .neq
 ·exact main hop
 ·unfold ank;cases op<;>first|exact .pure' trivial|exact absurd (.inl rfl) hop|exact absurd (.inr rfl) hop
theorem aH.aay(op:anZ)(t:acs)(k k':aor)(a b:Int):aH P F C (aA F) f (ano op t (.int k a) (.int k' b)) (ano op t (.int k a) (.int k' b)):=by
 cases op<;>
 ·dsimp only[ano,Op.intArith,Op.intDiv,Op.intBits,Op.intCmp,Op.shift]
  repeat' split
  all_goals first|exact .pure' (.int _ _)|exact .pure' (.bool _)|exact .halt|exact .never (aL _)
theorem aH.aae(op:anZ)(t:acs)(a b:ByteArray):aH P F C (aA F) f (ano op t (.string a) (.string b)) (ano op t (.string a) (.string b)):=by
 cases op<;>
 ·dsimp only[ano,Op.stringOp]
  repeat' split
  all_goals first|exact .pure' (.string _)|exact .pure' (.bool _)|exact .halt
theorem aH.binOp{op:anZ}{t:acs}(ho:Ii P op t=true){a a' b b':aad}(ha:aA F f a a')(hb:aA F f b b'):
  aH P F C (aA F) f (ano op t a b) (ano op t a' b'):=by
 by_cases h1: ∃k x k' y,a= .int k x∧b= .int k' y
 ·obtain⟨k,x,k',y,rfl,rfl⟩:=h1;cases ha;cases hb;exact .aay op t k k' x y
 by_cases h2: ∃x y,a= .string x∧b= .string y
 ·obtain⟨x,y,rfl,rfl⟩:=h2;cases ha;cases hb;exact .aae op t x y
 by_cases h3:op= .eql∨op= .neq
 ·have h4:lT P amw t=true:=by
   rcases h3 with rfl|rfl<;>(simp only[Ii,anh,anC]at ho;exact ho.1)
  have hE:=aH.equalIn (P:=P) (F:=F) (C:=C) amw t f h4 ha hb;rcases h3 with rfl|rfl
  ·cases ha<;>cases hb<;>first
    |exact absurd ⟨_,_,_,_,rfl,rfl⟩ h1
    |exact absurd ⟨_,_,rfl,rfl⟩ h2
    |exact .bind hE λ_ _ _ _ e=>by subst e;exact .pure' (.bool _)
  ·cases ha<;>cases hb<;>first
    |exact absurd ⟨_,_,_,_,rfl,rfl⟩ h1
    |exact absurd ⟨_,_,rfl,rfl⟩ h2
    |exact .bind hE λ_ _ _ _ e=>by subst e;exact .pure' (.bool _)
 ·have hu: ∀d,P.underlying t=some d→(d matches .unsafePointer)=false:=by
   intro d hd;have:(match P.underlying t with|some (.int _)|some .string=>true|_=>false)=true:=by
    cases op<;>first|exact ho|exact absurd (.inl rfl) h3|exact absurd (.inr rfl) h3
   rw[hd]at this;cases d<;>first|rfl|simp at this
  have mF: ∀ (g:Ren) (x x' y y':aad),aA F g x x'→aA F g y y'→aH P F C (aA F) g
    (do if(←alJ t) matches .unsafePointer then aon t x y else anq t x y) (do if(←alJ t) matches .unsafePointer then aon t x' y' else anq t x' y'):=by
   intro g x x' y y' hx hy;refine .bind (.underlying t) λg2 d d' hle hd=>?_;obtain⟨rfl,hd⟩:=hd;rw[if_neg (by rw[hu d hd];simp),if_neg (by rw[hu d hd];simp)];exact .movedNumber t (hx.mono hle) (hy.mono hle)
  have two: ∀ (g:Ren) (a b c d:alA) (k:alA→alA→alP aad),(∀x y,P.globals.size≤x.block→ie P (k x y))→bE g a b→bE g c d→aH P F C (aA F) g
    (do k (←amc a).1 (←amc c).1) (do k (←amc b).1 (←amc d).1):=by
   intro g a b c d k hk hab hcd;refine .bind (.behindNumber hab) λg2 x x' hle hx=>?_;obtain⟨y,y',l,rfl,rfl,hy⟩:=hx;refine .bind (.behindNumber (hcd.mono hle)) λg3 x x' cC hx=>?_;obtain⟨z,z',l,rfl,rfl,hz⟩:=hx;refine .Ic λfD _=> .never ?_;obtain⟨q,hq,_⟩:=hy.mono cC;exact hk _ _ (fD _ _ hq).1
  have ahn: ∀ (k:aor) (x y:alA),P.globals.size≤x.block→ie P (Op.addrSub k x y):=λk x y h=> .aO (r7 h);have ahr: ∀ (o:anZ) (x y:alA),P.globals.size≤x.block→ie P (Op.addrCmp o x y):=λo x y h=> .aO (r7 h);have md: ∀ (g:Ren) (k:aor) (a b:alA) (n:Int),bE g a b→aH P F C (aA F) g (do anB k (←amc a).1 n) (do anB k (←amc b).1 n):=by
   intro g k a b n hab;refine .bind (.behindNumber hab) λg2 x x' hle hx=>?_;obtain⟨y,y',l,rfl,rfl,hy⟩:=hx;exact .addrMod k hy n
  cases ha<;>cases hb<;>first
   |exact absurd ⟨_,_,_,_,rfl,rfl⟩ h1
   |exact absurd ⟨_,_,rfl,rfl⟩ h2
   |(cases op<;>first|exact absurd (.inl rfl) h3|exact absurd (.inr rfl) h3|exact .halt)
   |skip
  case int.ptrN=>cases op<;>first|exact absurd (.inl rfl) h3|exact absurd (.inr rfl) h3|exact .halt|exact .movedNumber t .ptrN (.int _ _)
  case ptrN.int=>cases op<;>first|exact absurd (.inl rfl) h3|exact absurd (.inr rfl) h3|exact .halt|exact mF _ _ _ _ _ .ptrN (.int _ _)|exact .movedNumber t .ptrN (.int _ _)
  case int.ptr h=>cases op<;>first|exact absurd (.inl rfl) h3|exact absurd (.inr rfl) h3|exact .halt|exact .movedNumber t (.ptr h) (.int _ _)|exact md _ _ _ _ _ ⟨_,h,rfl⟩
  case ptr.int h _ _=>cases op<;>first|exact absurd (.inl rfl) h3|exact absurd (.inr rfl) h3|exact .halt|exact mF _ _ _ _ _ (.ptr h) (.int _ _)|exact .movedNumber t (.ptr h) (.int _ _)|exact md _ _ _ _ _ ⟨_,h,rfl⟩
  case ptr.ptr h _ _ h'=>cases op<;>first|exact absurd (.inl rfl) h3|exact absurd (.inr rfl) h3|exact .halt|exact two _ _ _ _ _ _ (ahn _) ⟨_,h,rfl⟩ ⟨_,h',rfl⟩|exact two _ _ _ _ _ _ (ahr _) ⟨_,h,rfl⟩ ⟨_,h',rfl⟩
end
section
variable{α α' β β':Type}{P:alu}{F:alB→Bool}{C:amq→Bool}{f:Ren}{w w':aly}
theorem aH.makeInterface(t:acs){x x':aad}(h:aA F f x x'):aH P F C (aA F) f (anu t x) (anu t x'):=by
 unfold anu;refine .bind (.underlying t) λg d d' hle hd=>?_;obtain⟨rfl,_⟩:=hd;cases d<;>first|exact .halt|exact .pure' (.iface t (h.mono hle))
theorem aH.field(t:acs){x x':aad}(h:aA F f x x')(k:Nat):aH P F C (aA F) f (an5 t x k) (an5 t x' k):=by
 unfold an5;refine .bind (.underlying t) λg d d' hle hd=>?_;obtain⟨rfl,_⟩:=hd;replace h:=h.mono hle;cases d<;>first|exact .halt|skip
 rename_i fs _;dsimp only;cases fs[k]? with
 |none=>exact .halt
 |some fd=>
  dsimp only;cases h with
  |agg hc=>
   unfold asAgg;exact .bind (A:=RelA F) (.pure' hc) λg2 c c' _ h2=> .part fd.type h2 fd.offset
  |_=>exact .never (.aO (.halt _))
theorem aH.cap(ts:Array acs)(t:acs){a a':Array aad}(h:RelA F f a a'):aH P F C (aA F) f (anX ts t a) (anX ts t a'):=by
 unfold anX;cases ht:ts[0]? with
 |none=>exact .halt
 |some t0=>
  cases ha:a[0]? with
  |none=>exact .halt
  |some x=>
   obtain⟨x',kx,hx⟩:=h.get 0 x ha;rw[kx];dsimp only;refine .bind (.underlying t0) λg d d' hle hd=>?_;obtain⟨rfl,_⟩:=hd;replace hx:=hx.mono hle;cases d with
   |array n e=>exact .pure' (.int _ _)
   |pointer arr=>
    dsimp only;refine .bind (.underlying arr) λg2 d2 d2' _ Dd=>?_;obtain⟨rfl,_⟩:=Dd;cases d2<;>first|exact .halt|exact .pure' (.int _ _)
   |slice e=>cases hx<;>first|exact .halt|exact .pure' (.int _ _)
   |chan _ _=>cases hx<;>exact .halt
   |_=>exact .halt
theorem aH.copy{ts:Array acs}(t:acs){a a':Array aad}(h:RelA F f a a'):aH P F C (aA F) f (anM ts t a) (anM ts t a'):=by
 unfold anM;cases ht:ts[0]? with
 |none=>exact .halt
 |some t0=>
  cases ha:a[0]? with
  |none=>exact .halt
  |some x=>
   obtain⟨x',kx,hx⟩:=h.get 0 x ha;cases hb:a[1]? with
   |none=>exact .halt
   |some y=>
    obtain⟨y',hy',hy⟩:=h.get 1 y hb;rw[kx,hy'];dsimp only;refine .bind (.underlying t0) λg d d' hle hd=>?_;obtain⟨rfl,_⟩:=hd;replace hx:=hx.mono hle;replace hy:=hy.mono hle;cases d<;>first|exact .halt|skip
    rename_i e _;have main: ∀ (b b':Option alA) (n:Nat),(∀ad,b=some ad→∃lu,b'=some lu∧bE g ad lu)→(b=none→b'=none)→
      aH P F C (aA F) g (do
       let m:=aow (←anp y) n
       let cells←ani (←sizeOf e) m y
       if let some a:=b then am1 a cells.toList
       ads (goInt m)) (do
       let m:=aow (←anp y') n
       let cells←ani (←sizeOf e) m y'
       if let some a:=b' then am1 a cells.toList
       ads (goInt m)):=by
     intro b b' n h1 h2;refine .bind (.lenOf hy) λg1 l l' H4 hl=>?_;subst hl;refine .bind (.still (bO e)) λg2 sz sz' cC hs=>?_;subst hs;refine .bind (.firstCells _ _ ((hy.mono H4).mono cC)) λg3 c c' eQ hc=>?_;cases b with
     |none=>rw[h2 rfl];exact .pure' (.int _ _)
     |some ad=>
      obtain⟨lu,rfl,hr⟩:=h1 ad rfl;refine .bind (.storeCells (((hr.mono H4).mono cC).mono eQ) hc 0) λg4 _ _ _ _=> .pure' (.int _ _)
    cases hx<;>first|exact .halt|skip
    ·exact main none none _ (λ_ h=>by cases h) λ_=>rfl
    ·rename_i ad b' n c' hab;exact main (some ad) (some _) n (λ_ h=>by cases h;exact⟨_,rfl,_,hab,rfl⟩) λh=>by cases h
theorem Wq{γ:Type}: ∀ (k:Ask γ) (w:aly),(w.ask k).2.heap=w.heap:=by
 intro k
 induction k with
 |done a=>intro w;rfl
 |ask what range k ih=>
  intro w;unfold World.ask;dsimp only;split
  ·exact ih _ w
  ·exact ih _ _
theorem UY(w:aly)(c:Sys):(w.sys c).2.heap=w.heap:=by
 have h:=Wq (Kernel.perform c w.os) w;unfold World.sys;split
 ·rfl
 ·rename_i hx;rw[hx]at h;exact h
theorem QR{c:Sys}{k:SysRet→alP α}(h: ∀r,ie P (k r)):ie P (Sem.sys c k):=by
 intro w es;unfold aab;obtain⟨h',w1,ft,h1,h2,h3⟩:=h (w.sys c).1 (w.sys c).2 (es.push ⟨.output,true,false⟩);exact⟨h',w1,ft,h1,h2,Grow.trans (λb o hb=>by rw[UY];exact hb) h3⟩
theorem JS{x:aad}:ie P (anI x):=by
 unfold anI;cases x with
 |iface t v=>exact .halt _
 |nilIface=>
  dsimp only;unfold Instr.panicnil sys;refine QR λr=>?_;cases r with
  |strings env=>
   refine ie.still (s:=alw) .program λp=>?_;dsimp only;split
   ·exact .halt _
   ·exact aL _
  |_=>exact .halt _
 |_=>exact .halt _
theorem aH.panic{x x':aad}{A:Ren→aad→aad→Prop}:aH P F C A f (anI x) (anI x'):= .never JS
theorem aH.frozen{a a':alA}(ha:bE f a a'):aH P F C (λ_ x x'=>x=x') f (anz a) (anz a'):=by
 refine⟨?_,λw w' es hw=>⟨λh w1 ft hr=>by simp only[anz,aab,ae,reduceCtorEq,false_and]at hr,λx w1 ft hr=>?_⟩⟩;rotate_left
 ·simp only[anz,aab,ae,aB]at hr;obtain⟨⟨rfl,rfl⟩,rfl⟩:=hr;exact⟨Nat.le_refl _,rfl,λ_ _=>rfl⟩
 intro w w' es es' hw x w1 ft h;simp only[anz,aab,ae,aB]at h;obtain⟨⟨rfl,rfl⟩,rfl⟩:=h;exact⟨f,w.frozen? a,w',#[],by simp only[anz,aab,hw.frozen ha,Array.append_empty],hw,.refl _ _,rfl,by simp⟩
theorem aH.ud{a a':alA}(ha:bE f a a'):aH P F C (λ_ x x'=>x=x') f (alX a.block) (alX a'.block):=by
 obtain⟨b,hb,rfl⟩:=ha;exact .shape hb
theorem bE.at{a a':alA}(ha:bE f a a')(n:Nat):bE f {block:=a.block,off:=n} {block:=a'.block,off:=n}:=by
 obtain⟨b,hb,rfl⟩:=ha;exact⟨b,hb,rfl⟩
theorem aH.stringish{a a':alA}(ha:bE f a a'):aH P F C (λ_ x x'=>x=x') f (an7 a) (an7 a'):=by
 unfold an7;refine .bind (.frozen ha) λg q q' hle hq=>?_;subst hq;cases q
 ·simp only[amA,if_false];refine .bind (.ud (ha.mono hle)) λg2 s s' cC hs=>?_;subst hs;cases s with
  |none=>exact .pure' rfl
  |some s=>exact .frozen (((ha.mono hle).mono cC).at s.2)
 ·exact .pure' rfl
theorem aH.mayBeOne{a a' b b':alA}(ha:bE f a a')(hb:bE f b b'):aH P F C (λ_ x x'=>x=x') f (anw a b) (anw a' b'):=by
 unfold anw;dsimp only;refine .bind (.stringish ha) λg1 p p' h1 hp=>?_;subst hp;refine .bind (.stringish (hb.mono h1)) λg2 q q' h2 hq=>?_;subst hq;have ha2:=(ha.mono h1).mono h2;have hb2:=(hb.mono h1).mono h2;refine .bind (A:=λ_ x x'=>x=x') (.bind (.ud ha2) λg3 s s' _ hs=>?_) λg3 x x' h3 hx=>?_
 ·subst hs;exact .pure' rfl
 subst hx;refine .bind (A:=λ_ x x'=>x=x') (.bind (.ud (hb2.mono h3)) λg4 s s' _ hs=>?_) λg4 y y' h4 hy=>?_
 ·subst hs;exact .pure' rfl
 subst hy;exact .pure' rfl
theorem aH.sameAddr{a a' b b':alA}(ha:bE f a a')(hb:bE f b b'):aH P F C (λ_ x x'=>x=x') f (aob a b) (aob a' b'):=by
 unfold aob;refine .Ic λ_ lJ=>?_;obtain⟨e1,e2⟩:=bE.beq' lJ ha hb;rw[e1,e2];split
 ·exact .pure' rfl
 refine .bind (.frozen ha) λg1 p p' h1 hp=>?_;subst hp;refine .bind (.frozen (hb.mono h1)) λg2 q q' h2 hq=>?_;subst hq;have ha2:=(ha.mono h1).mono h2;have hb2:=(hb.mono h1).mono h2
 have rest:aH P F C (λ_ x x'=>x=x') g2 (do
   amS a
   amS b
   if←anw a b then return (←alI (.extern "sameAddr.stringBytes" 2))==1
   ads false) (do
   amS a'
   amS b'
   if←anw a' b' then return (←alI (.extern "sameAddr.stringBytes" 2))==1
   ads false):=by
  refine .bind (.noView ha2) λg3 _ _ h3 _=>?_;refine .bind (.noView (hb2.mono h3)) λg4 _ _ h4 _=>?_;refine .bind (.mayBeOne ((ha2.mono h3).mono h4) ((hb2.mono h3).mono h4)) λg5 x x' _ hx=>?_;subst hx;split
  ·exact .bind .choose λ_ y y' _ hy=>by subst hy;exact .pure' rfl
  ·exact .pure' rfl
 split
 ·exact .never (.aO (.halt _))
 ·exact rest
theorem aH.Wa(d:Nat){t:acs}(ht:(∃e,P.underlying t=some (.pointer e))∨P.underlying t=some .unsafePointer){x x' y y':aad}(hx:aA F f x x')(hy:aA F f y y'):
  aH P F C (λ_ a a'=>a=a') f (amD (d+1) t x y) (amD (d+1) t x' y'):=by
 unfold amD;refine .bind (.underlying t) λg u u' hle hu=>?_;obtain⟨rfl,hu⟩:=hu;replace hx:=hx.mono hle;replace hy:=hy.mono hle;rcases ht with⟨e,he⟩|he
 ·rw[hu]at he;obtain rfl:=alN he;cases hx<;>cases hy<;>first|exact .halt|exact .pure' rfl|skip
  rename_i a b ha c e' hc;dsimp only;refine .bind (.still (bO e)) λg2 n n' h2 hn=>?_;subst hn;have ha2:bE g2 a _:=⟨b,h2 _ _ ha,rfl⟩;have hc2:bE g2 c _:=⟨e',h2 _ _ hc,rfl⟩;split
  ·exact .sameAddr ha2 hc2
  ·refine .Ic λ_ lJ=>?_;obtain⟨e1,_⟩:=bE.beq' lJ ha2 hc2;rw[e1];split
   ·exact .pure' rfl
   ·exact .bind .choose λ_ y y' _ hy=>by subst hy;exact .pure' rfl
 ·rw[hu]at he;obtain rfl:=alN he;cases hx<;>cases hy<;>first|exact .halt|exact .pure' rfl|skip
  rename_i a b ha c e' hc;exact .sameAddr ⟨b,ha,rfl⟩ ⟨e',hc,rfl⟩
def NW(P:alu)(op:anZ)(t:acs):Bool:=
 (match op with| .eql| .neq=>true|_=>false)&&(match P.underlying t with|some (.pointer _)|some .unsafePointer=>true|_=>false)&& !P.eqGuardType P.depth t
theorem vW{op:anZ}{t:acs}(h:NW P op t=true):(op= .eql∨op= .neq)∧((∃e,P.underlying t=some (.pointer e))∨P.underlying t=some .unsafePointer)∧P.eqGuardType P.depth t=false:=by
 unfold NW at h;simp only[anh,anC]at h;obtain⟨⟨h1,h2⟩,h3⟩:=h;refine⟨?_,?_,h3⟩
 ·cases op<;>first|exact .inl rfl|exact .inr rfl|simp at h1
 ·cases hu:P.underlying t with
  |none=>rw[hu]at h2;simp at h2
  |some d=>rw[hu]at h2;cases d<;>first|exact .inl ⟨_,rfl⟩|exact .inr rfl|simp at h2
theorem aH.M3{op:anZ}{t:acs}(hop:op= .eql∨op= .neq)(h2:P.eqGuardType P.depth t=false)(x y:ang){a a' b b':aad}(ha:aA F f a a')(hb:aA F f b b'):
  aH P F C (λ_ _ _=>True) f (ank op t x y a b) (ank op t x y a' b'):=by
 have nn: ∀q:ang,∀q2:ang,Still P (if((match q with| .const _=>true|_=>false)||(match q2 with| .const _=>true|_=>false))=true then(ads ():alP Unit)else do
   if←anH amw t .nilIface .nilIface then alW (.noEntry "binop/eql: two nil values of an interface type with methods, neither of them the literal nil")else ads ()):=by
  intro q q2;generalize((match q with| .const _=>true|_=>false)||(match q2 with| .const _=>true|_=>false))=c;cases c
  ·simp only[amA,if_false];refine .bind (r6 9999 t) λq=>?_;cases q
   ·exact .pure _
   ·exact .halt _
  ·exact .pure _
 rcases hop with rfl|rfl
 all_goals
  unfold ank;simp only[aop,amA,if_false];cases ha<;>cases hb<;>first
   |exact .pure' trivial
   |exact .mono (.still (nn x y)) λ_ _ _ _ _=>trivial
   |(refine .bind .program λg p p' _ hp=>?_
     obtain⟨rfl,rfl⟩:=hp;refine .bind .program λg p p' _ hp=>?_;obtain⟨rfl,rfl⟩:=hp;rw[h2]
     exact .pure' trivial)
theorem aH.adi{op:anZ}{t:acs}(ho:NW P op t=true){a a' b b':aad}(ha:aA F f a a')(hb:aA F f b b'):aH P F C (aA F) f (ano op t a b) (ano op t a' b'):=by
 obtain⟨h3,h4,_⟩:=vW ho;by_cases h1: ∃k x k' y,a= .int k x∧b= .int k' y
 ·obtain⟨k,x,k',y,rfl,rfl⟩:=h1;cases ha;cases hb;exact .aay op t k k' x y
 by_cases h2: ∃x y,a= .string x∧b= .string y
 ·obtain⟨x,y,rfl,rfl⟩:=h2;cases ha;cases hb;exact .aae op t x y
 have hE:=aH.Wa (P:=P) (F:=F) (C:=C) 9999 h4 ha hb;rcases h3 with rfl|rfl
 ·cases ha<;>cases hb<;>first
   |exact absurd ⟨_,_,_,_,rfl,rfl⟩ h1
   |exact absurd ⟨_,_,rfl,rfl⟩ h2
   |exact .bind hE λ_ _ _ _ e=>by subst e;exact .pure' (.bool _)
 ·cases ha<;>cases hb<;>first
   |exact absurd ⟨_,_,_,_,rfl,rfl⟩ h1
   |exact absurd ⟨_,_,rfl,rfl⟩ h2
   |exact .bind hE λ_ _ _ _ e=>by subst e;exact .pure' (.bool _)
end
section
variable{α α' β β':Type}{P:alu}{F:alB→Bool}{C:amq→Bool}{f:Ren}{w w':aly}
theorem aH.neg{x x':aad}(h:aA F f x x'):aH P F C (aA F) f (aoa .neg x) (aoa .neg x'):=by
 unfold aoa;cases h with
 |int k n=>exact .pure' (.int _ _)
 |_=>exact .halt
theorem aH.bytesToString{x x':aad}(h:aA F f x x'):aH P F C (aA F) f (anj x) (anj x'):=by
 unfold anj;cases h with
 |Kw n c=>exact .pure' (.string _)
 |sl n c hb=>
  rename_i a b;refine .bind (.loadCells ⟨b,hb,rfl⟩ n) λg cs cs' hle hcs=>?_;obtain⟨l⟩:=cs;obtain⟨l'⟩:=cs';unfold RelA at hcs;dsimp only at hcs;simp only[List.forIn_toArray];have key: ∀ (s:ByteArray),aH P F C (λ_ a a'=>a=a') g
    (forIn l s λc r=>match c with| .int .u8 n=>(ads (an8 (r.push (aoq n.toNat))):alP (ForInStep ByteArray))|_=>stuck "bytesToString: byte expected")
    (forIn l' s λc r=>match c with| .int .u8 n=>(ads (an8 (r.push (aoq n.toNat))):alP (ForInStep ByteArray))|_=>stuck "bytesToString: byte expected"):=by
   clear hle hb
   induction hcs using cz.rec (motive_1:=λ_ _ _=>True)with
   |nil=>intro s;simp only[List.forIn_nil];exact .pure' rfl
   |cons hv t _ ih=>
    intro s;simp only[List.forIn_cons];cases hv with
    |int k n=>
     cases k<;>first
      |exact .never (.aO (.halt _))
      |exact ih _
    |_=>exact .never (.aO (.halt _))
   |_=>trivial
  refine .bind (key _) λg2 a a' _ e=>?_;subst e;exact .pure' (.string _)
 |_=>exact .halt
end
def rC:aad→Bool
 | .bool _| .int _ _| .string _| .pointer none| .slice none _ _| .map none| .nilFunc| .nilIface=>true
 | .tuple cs=>cs.isEmpty
 |_=>false
theorem ln{F:alB→Bool}: ∀ {v:aad},rC v=true→Plain F v
 | .bool _,_,_=> .bool _
 | .int _ _,_,_=> .int _ _
 | .string _,_,_=> .string _
 | .pointer none,_,_=> .ptrN
 | .slice none _ _,_,_=> .Kw _ _
 | .map none,_,_=> .PO
 | .nilFunc,_,_=> .nilFunc
 | .nilIface,_,_=> .nilIface
 | .tuple ⟨[]⟩,_,_=> .tuple .nil
def bP(F:alB→Bool):ang→Bool
 | .tmp _=>true
 | .const v=>rC v
 | .global _=>false
 | .func g=>F g
def vI(P:alu)(t:acs):Bool:=
 match P.info? t with
 |some i=>(match i.zero with|some v=>(match v with| .agg cs=>cs.all rC|v=>rC v)|none=>true)
 |none=>true
theorem rk{P:alu}{F:alB→Bool}{t:acs}(h:vI P t=true):pU P F t:=by
 intro i hi v hv f;unfold vI at h;rw[hi]at h;simp only[hv]at h;cases v with
 |agg cs=>
  refine .agg (cz.lV rfl λj x x' h1 h2=>?_);rw[h1]at h2;cases h2;simp only[al0]at h;exact ln (h x (by simpa using ann h1)) f
 |_=>exact ln h f
def Ik(P:alu)(t:acs):Bool:=match P.underlying t with|some (.map k e)=>lT P amw k&&vI P e|_=>true
theorem qC{P:alu}{F:alB→Bool}{t:acs}(h:Ik P t=true):Oh P F t:=by
 intro k e hu;unfold Ik at h;simp only[hu,anh]at h;exact⟨h.1,rk h.2⟩
def qX(P:alu)(t:acs):Bool:=match P.underlying t with|some (.slice e)=>vI P e|_=>true
theorem pD{P:alu}{F:alB→Bool}{t:acs}(h:qX P t=true): ∀e,P.underlying t=some (.slice e)→pU P F e:=by
 intro e hu;unfold qX at h;simp only[hu]at h;exact rk h
def Gs(P:alu)(s:acs)(k:Nat):Bool:=match P.underlying s with|some (.struct fs)=>(match fs[k]? with|some x=>(match P.info? x.type with|some i=>i.size != 0|none=>true)|none=>true)|_=>true
theorem J_{P:alu}{s:acs}{k:Nat}(h:Gs P s k=true):Pp P s k:=by
 intro fs hu x hx i hi;unfold Gs at h;simp only[hu,hx,hi,bne_iff_ne,ne_eq]at h;exact h
def iU(P:alu)(b:Builtin)(ts:Array acs):Bool:=
 match b with
 | .len=>true
 | .max=>true
 | .cap=>true
 | .copy=>true
 | .append=>(match ts[0]?,ts[1]? with|some t0,some t1=>qX P t0&&(match P.underlying t1 with|some (.int _)=>false|_=>true)|_,_=>false)
 | .delete=>(match ts[0]? with|some t0=>Ik P t0|none=>true)
 | .clear=>(match ts[0]? with|some t0=>qX P t0|none=>true)
 |_=>false
def qd(P:alu)(F:alB→Bool)(o:Op):Bool:=
 o.operands.all (bP F)&&
 match o with
 | .move _| .assign _| .pick .. | .box .. | .load .. | .store .. | .makeMap .. | .slice .. | .indexAddr .. | .index .. | .entryStore .. | .next _ false| .entry _| .extract .. =>true
 | .makeFunc fn _ _=>(match fn with| .func g=>F g|_=>false)
 | .alloc t=>vI P t
 | .build t _=>vI P t
 | .buildSlice t _ _=>qX P t
 | .nilCheck _| .makeInterface .. | .field .. | .panic _=>true
 | .binOp op t _ _ _=>Ii P op t||NW P op t
 | .unOp op _ _=>(match op with| .not| .neg=>true|_=>false)
 | .convert s t _=>(match P.underlying s,P.underlying t with|some (.int _),some (.int _)=>true|some (.slice e),some .string=>(match P.underlying e with|some (.int .u8)=>true|_=>false)|_,_=>false)
 | .fieldAddr s _ k=>Gs P s k
 | .lookup t _ _ _=>Ik P t
 | .mapUpdate t _ _ _| .insert t _ _ _| .mapEntry t _ _=>Ik P t
 | .range t _=>(match P.underlying t with|some (.map _ _)=>true|_=>false)
 | .call {callee:= .value _,..}=>true
 | .call {callee:= .builtin b,argTypes,..}=>iU P b argTypes
 |_=>false
inductive qh(F:alB→Bool)(C:amq→Bool)(f:Ren):Next→Next→Prop
 |value {v v':aad} (h:aA F f v v'):qh F C f (.value v) (.value v')
 |skip:qh F C f .skip .skip
 |enter {g:alB} {a a':Array aad} (hg:F g=true) (h:RelA F f a a'):qh F C f (.enter g a) (.enter g a')
 |round {l l':Nat} {g:alB} {a a':Array aad} {x y:amq} (hl:f l=some l') (hg:F g=true) (h:RelA F f a a') (cx:C x=true) (cy:C y=true):qh F C f (.round l g a x y) (.round l' g a' x y)
structure Fits(P:alu)(F:alB→Bool)(C:amq→Bool):Prop where
 fn: ∀g,F g=true→∃x,P.funcs[g]? =some x∧(x.name== "runtime.NumGoroutine")=false∧
  (x.body.isSome=true∨(x.body.isNone=true∧Extern.findNext x=none∧∃e,Extern.find x=some e∧∀f a a',RelA F f a a'→aH P F C (aA F) f (e a) (e a')))
section
variable{α α' β β':Type}{P:alu}{F:alB→Bool}{C:amq→Bool}{f:Ren}{w w':aly}
theorem aH.max2{a a' b b':aad}(ha:aA F f a a')(hb:aA F f b b'):aH P F C (aA F) f (ans a b) (ans a' b'):=by
 cases ha<;>cases hb<;>first
  |exact .halt
  |exact .pure' (.int _ _)
  |skip
 rename_i x y;dsimp only[ans];refine .bind (A:=λ_ a a'=>a=a') (.still (.pure _)) λg b b' _ hb=>?_;subst hb;refine .bind (A:=λ_ a a'=>a=a') (.still ?_) λg b b' _ hb=>?_
 ·unfold Go.asBool;split<;>first|exact .pure _|exact .halt _
 ·subst hb;exact .pure' (aA.string _)
theorem aH.adu: ∀ {l l':List aad} {f:Ren} {a a':aad},cz F f l l'→aA F f a a'→aH P F C (aA F) f (l.foldlM ans a) (l'.foldlM ans a')
 |_,_,_,_,_,.nil,h=>by simpa using aH.pure' h
 |_,_,_,_,_,.cons hv t,h=>by
  simp only[List.foldlM_cons];exact .bind (.max2 h hv) λg x x' hle hx=>aH.adu (t.mono hle) hx
theorem aH.max_(ts:Array acs)(t:acs){a a':Array aad}(h:RelA F f a a'):aH P F C (aA F) f (anV ts t a) (anV ts t a'):=by
 unfold anV;unfold RelA at h;generalize a.toList=l at h;generalize a'.toList=l' at h;cases h with
 |nil=>exact .halt
 |cons h t=>exact .adu t h
theorem aH.builtin{b:Builtin}{ts:Array acs}(ho:iU P b ts=true)(t:acs)(cs:Array Bool){a a':Array aad}(h:RelA F f a a'):
  aH P F C (qh F C) f (aov b ts t cs a) (aov b ts t cs a'):=by
 have v: ∀ {s s':alP aad},aH P F C (aA F) f s s'→aH P F C (qh F C) f (do ads (anO (←s))) (do ads (anO (←s'))):=
  λhs=> .bind hs λ_ _ _ _ hx=> .pure' (.value hx)
 cases b<;>first|(simp[iU]at ho;done)|skip
 ·refine v (.append ?_ ?_ t h)
  ·intro t0 e h0 hu;simp only[iU]at ho;split at ho
   ·rename_i t0' t1 NI Bp;rw[NI]at h0;cases h0;simp only[anh]at ho;exact pD ho.1 _ hu
   ·simp at ho
  ·simp only[iU]at ho;split at ho
   ·rename_i t0' t1 NI Bp;simp only[anh]at ho;refine⟨t1,Bp,λk hk=>?_⟩;rw[hk]at ho;simp at ho
   ·simp at ho
 ·exact v (.cap ts t h)
 ·refine v (.clear ?_ t h);intro t0 e h0 hu;simp only[iU,h0]at ho;exact pD ho _ hu
 ·exact v (.copy t h)
 ·refine v (.delete ?_ t h);intro t0 h0;simp only[iU,h0]at ho;exact qC ho
 ·exact v (.len ts t h)
 ·exact v (.max_ ts t h)
theorem aH.callFunc(hf:Fits P F C){g:alB}(hg:F g=true){a a':Array aad}(h:RelA F f a a'):aH P F C (qh F C) f (aoc g a) (aoc g a'):=by
 unfold aoc;refine .bind .program λg1 p p' hle hp=>?_;obtain⟨rfl,rfl⟩:=hp;obtain⟨x,hx,hn,hb⟩:=hf.fn g hg;rw[hx];dsimp only;simp only[hn,amA,if_false];rcases hb with hb|⟨hb,hfn,e,he,hs⟩
 ·have:x.body.isNone=false:=by cases hx:x.body<;>simp_all
  simp only[this,amA,if_false];exact .pure' (.enter hg (h.mono hle))
 ·simp only[hb,if_true];refine .bind (.aav trivial) λg2 _ _ cC _=>?_;rw[hfn,he];dsimp only;exact .bind (hs _ _ _ ((h.mono hle).mono cC)) λ_ _ _ _ hv=> .pure' (.value hv)
theorem aH.getLoop{l l':Nat}(hl:f l=some l'):aH P F C (λg (r r':Loop)=>jf P F C g (.loop r) (.loop r')) f (anT l) (anT l'):=by
 unfold anT;refine .bind (.getObj hl) λg o o' hle ho=>?_;cases ho.1 with
 |loop a b c d e k l m n p q r=>exact .pure' (.loop a b c d e k l m n p q r)
 |_=>exact .halt
theorem aH.yield{l l':Nat}(hl:f l=some l'){a a':Array aad}(h:RelA F f a a'):aH P F C (qh F C) f (an1 l a) (an1 l' a'):=by
 unfold an1;refine .bind (.getLoop hl) λg r r' hle hr=>?_;cases hr with
 |loop hs hp hfn hF ht qJ ha hb hd ca cb cp=>
  rw[qJ,←h.size];split
  ·exact .never (.aO (.halt _))
  ·rw[hfn,ha,hb];refine .pure' (.round (hle _ _ hl) hF ?_ ca cb);have hz: ∀ (ps:List Tmp) (l l':List aad) (t t':Array aad),cz F g l l'→RelA F g t t'→RelA F g ((ps.zip l).foldl (λtmps x=>tmps.setIfInBounds x.1 x.2) t) ((ps.zip l').foldl (λtmps x=>tmps.setIfInBounds x.1 x.2) t'):=by
    intro ps
    induction ps with
    |nil=>intro l l' t t' _ ht;simpa using ht
    |cons p ps ih=>
     intro l l' t t' hl ht;cases hl with
     |nil=>simpa using ht
     |cons hv tl=>simpa using ih _ _ _ _ tl (ht.set _ hv)
   rw[←amu,←amu,aoh,aoh];exact hz _ _ _ _ _ (h.mono hle) ht
def zC(F:alB→Bool)(f:Ren)(ρ ρ':ang→aad):Prop:=∀x,bP F x=true→aA F f (ρ x) (ρ' x)
theorem aH.call(hf:Fits P F C){c:Call}(ho:c.operands.all (bP F)=true)(hc:(match c.callee with| .value _=>true| .builtin b=>iU P b c.argTypes| .invoke _ _=>false)=true)(t:acs){ρ ρ':ang→aad}(h:zC F f ρ ρ'):
  aH P F C (qh F C) f (do let d←resolve ρ c t;invoke d.target d.args) (do let d←resolve ρ' c t;invoke d.target d.args):=by
 obtain⟨callee,args,ats⟩:=c;have qm:RelA F f (args.map ρ) (args.map ρ'):=by
  unfold RelA;refine cz.lV bz λi v v' h1 h2=>?_;simp only[anG,anr,ant]at h1 h2;obtain⟨x,hx,rfl⟩:=h1;obtain⟨x',kx,rfl⟩:=h2;rw[hx]at kx;cases kx;refine h x ?_;simp only[aoo,al0]at ho;exact ho x (aoi.2 (.inr (by simpa using ann hx)))
 cases callee with
 |invoke _ _=>simp at hc
 |builtin b=>
  refine .bind (.pure' (A:=λg (d d':amI)=>∃cs,d.target= .builtin b ats t cs∧d'.target= .builtin b ats t cs∧RelA F g d.args d'.args) ⟨_,rfl,rfl,qm⟩) λg d d' hle hd=>?_;obtain⟨cs,h1,h2,h3⟩:=hd;rw[h1,h2];exact .builtin hc t cs h3
 |value x=>
  have hx:aA F f (ρ x) (ρ' x):=h x (by
   simp only[aoo,al0]at ho
   exact ho x (aoi.2 (.inl bz)))
  unfold resolve;dsimp only;unfold aox;generalize ρ x=v at hx;generalize ρ' x=v' at hx;cases hx<;>first|exact .halt|exact .never (.bind (.pure _) λ_=>aL _)|skip
  ·rename_i g xs xs' cs cs' hg oY hcs;refine .bind (.pure' (A:=λg' (d d':amI)=>(∃cs cs',d.target= .fn (.func g) cs∧d'.target= .fn (.func g) cs'∧RelA F g' cs cs')∧RelA F g' d.args d'.args) ⟨⟨_,_,rfl,rfl,hcs⟩,RelA.append oY qm⟩) λg' d d' hle hd=>?_;obtain⟨⟨cs,cs',h1,h2,h4⟩,h3⟩:=hd;rw[h1,h2];exact .callFunc hf hg (h3.append h4)
  ·rename_i l b hl;refine .bind (.pure' (A:=λg' (d d':amI)=>(∃cs cs',d.target= .fn (.yield l) cs∧d'.target= .fn (.yield b) cs'∧g' l=some b)∧RelA F g' d.args d'.args) ⟨⟨_,_,rfl,rfl,hl⟩,by simpa using qm⟩) λg' d d' hle hd=>?_;obtain⟨⟨cs,cs',h1,h2,h4⟩,h3⟩:=hd;rw[h1,h2];exact .yield h4 h3
theorem aH.entry{x x':aad}(hx:aA F f x x'):aH P F C (aA F) f (an6 x) (an6 x'):=by
 unfold an6;cases hx<;>first|exact .halt|skip
 rename_i a b hb;obtain⟨r,off,spot⟩:=a;cases off with
 |succ n=>exact .halt
 |zero=>
  dsimp only at hb⊢;refine .bind (.getObj hb) λg2 o o' h2 ho=>?_;cases ho.1 with
  |iter hm since seen last=>
   rename_i m m';dsimp only;cases seen.back? with
   |none=>exact .halt
   |some Ie=>
    dsimp only;refine .bind (.getObj hm) λg3 p p' h3 hp=>?_;cases hp.1 with
    |map clock hes=>
     rename_i es es';dsimp only;by_cases hc:(clock != last)=true
     ·simp only[hc,if_true];exact .never (.aO (.halt _))
     ·simp only[if_neg hc];have key:=dT.find (λb=>b==Ie) hes;have e1:es.find? (λe=>e.born==Ie)=es.toList.find? (λe=>e.born==Ie):=by obtain⟨l⟩:=es;simp
      have e2:es'.find? (λe=>e.born==Ie)=es'.toList.find? (λe=>e.born==Ie):=by obtain⟨l⟩:=es';simp
      rw[e1,e2];rcases key with⟨h5,h6⟩|⟨e,e',h5,h6,k1,k2⟩
      ·rw[h5,h6];exact .halt
      ·rw[h5,h6];exact .pure' (.tuple (.cons k1 (.cons k2 .nil)))
    |_=>first|exact .halt|exact .never (.aO (.halt _))
  |_=>first|exact .halt|exact .never (.aO (.halt _))
theorem Ce{ρ ρ':ang→aad}: ∀ {ps:List (Nat×ang)},(∀x,x∈ps.map (·.2)→aA F f (ρ x) (ρ' x))→
  (ps.map λ(x:Nat×ang)=>(x.1,ρ x.2)).map (·.1)=(ps.map λ(x:Nat×ang)=>(x.1,ρ' x.2)).map (·.1)∧cz F f ((ps.map λ(x:Nat×ang)=>(x.1,ρ x.2)).map (·.2)) ((ps.map λ(x:Nat×ang)=>(x.1,ρ' x.2)).map (·.2))
 | [],_=>⟨rfl,.nil⟩
 |p::ps,h=>by
  have h2:=(Ce (ps:=ps) (λx hx=>h x (by simp only[List.map_cons,List.mem_cons];exact .inr hx))).2;exact⟨by simp,.cons (h p.2 bz) h2⟩
theorem rA{ρ ρ':ang→aad}{o:Option ang}(h: ∀x,o=some x→aA F f (ρ x) (ρ' x)):ku F f (o.map ρ) (o.map ρ'):=by
 cases o with
 |none=>exact .inl ⟨rfl,rfl⟩
 |some x=>exact .inr ⟨_,_,rfl,rfl,h x rfl⟩
theorem Cf{ρ ρ':ang→aad}{xs:Array ang}(h: ∀x,x∈xs→aA F f (ρ x) (ρ' x)):RelA F f (xs.map ρ) (xs.map ρ'):=by
 unfold RelA;refine cz.lV bz λi v v' h1 h2=>?_;simp only[anG,anr,ant]at h1 h2;obtain⟨x,hx,rfl⟩:=h1;obtain⟨x',kx,rfl⟩:=h2;rw[hx]at kx;cases kx;exact h x (by simpa using ann hx)
theorem aH.execOp(hf:Fits P F C){o:Oper}(ho:qd P F o.op=true){ρ ρ':ang→aad}(h:zC F f ρ ρ'):aH P F C (qh F C) f (aom ρ o) (aom ρ' o):=by
 have v: ∀ {s s':alP aad},aH P F C (aA F) f s s'→aH P F C (qh F C) f (do ads (anO (←s))) (do ads (anO (←s'))):=
  λhs=> .bind hs λ_ _ _ _ hx=> .pure' (.value hx)
 have u: ∀ {s s':alP Unit},aH P F C (λ_ _ _=>True) f s s'→aH P F C (qh F C) f (do s;ads aou) (do s';ads aou):=
  λhs=> .bind hs λ_ _ _ _ _=> .pure' .skip
 obtain⟨dst,op,ty,pos,after,guard⟩:=o;dsimp only at ho;unfold qd at ho;rw[anh]at ho;obtain⟨hop,ho⟩:=ho;simp only[al0]at hop;have arg: ∀x,x∈op.operands→aA F f (ρ x) (ρ' x):=λx hx=>h x (hop x hx);unfold aom;cases op with
 |move x=>exact .pure' (.value (arg x (by simp[anc])))
 |assign x=>exact .pure' (.value (arg x (by simp[anc])))
 |pick c a b=>
  refine .bind (.asBool (arg c (by simp[anc]))) λg q q' hle hq=>?_;subst hq;cases q
  ·exact .pure' (.value ((arg b (by simp[anc])).mono hle))
  ·exact .pure' (.value ((arg a (by simp[anc])).mono hle))
 |alloc t=>exact v (.alloc t (rk ho))
 |box t x=>exact v (.box t (arg x (by simp[anc])))
 |load t x=>exact v (.loadAt t (arg x (by simp[anc])))
 |store t a x=>exact u (.storeAt t (arg a (by simp[anc])) (arg x (by simp[anc])))
 |binOp op t x y ty=>
  rcases(Bool.or_eq_true _ _).mp ho with ho|ho
  ·refine v (.bind (.eqGuard ho x y (arg x (by simp[anc])) (arg y (by simp[anc]))) λg _ _ hle _=>?_);exact .binOp ho ((arg x (by simp[anc])).mono hle) ((arg y (by simp[anc])).mono hle)
  ·refine v (.bind (.M3 (vW ho).1 (vW ho).2.2 x y (arg x (by simp[anc])) (arg y (by simp[anc]))) λg _ _ hle _=>?_);exact .adi ho ((arg x (by simp[anc])).mono hle) ((arg y (by simp[anc])).mono hle)
 |makeInterface t x=>exact v (.makeInterface t (arg x (by simp[anc])))
 |field t x k=>exact v (.field t (arg x (by simp[anc])) k)
 |panic x=>exact v .panic
 |build t ps=>
  have h2:=(Ce (ps:=ps.toList) (λx hx=>arg x (by simpa[anc]using hx))).2;exact v (.build (rk ho) bz (by simpa using h2))
 |buildSlice t n ps=>
  have h2:=(Ce (ps:=ps.toList) (λx hx=>arg x (by simpa[anc]using hx))).2;exact v (.buildSlice (pD ho) n bz (by simpa using h2))
 |nilCheck x=>
  have hx:=arg x (by simp[anc]);dsimp only;generalize ρ x=a at hx⊢;generalize ρ' x=a' at hx⊢;cases hx<;>first|exact .never (aL _)|exact .pure' (.value (by constructor<;>assumption))
 |unOp op t x=>
  have hx:=arg x (by simp[anc]);cases op<;>first|(simp at ho;done)|exact v (.neg hx)|skip
  refine v ?_;dsimp only[aoa];generalize ρ x=a at hx;generalize ρ' x=a' at hx;cases hx<;>first|exact .halt|exact .pure' (.bool _)
 |convert s t x=>
  refine v ?_;have hx:=arg x (by simp[anc]);unfold Go.convert;refine .bind (.underlying s) λg d d' hle hd=>?_;obtain⟨rfl,hd⟩:=hd;refine .bind (.underlying t) λg2 e e' cC he=>?_;obtain⟨rfl,he⟩:=he;dsimp only at ho;rw[hd,he]at ho;replace hx:=(hx.mono hle).mono cC;generalize ρ x=a at hx;generalize ρ' x=a' at hx;cases d<;>first|(simp at ho;done)|skip
  ·cases e<;>first|(simp at ho;done)|skip
   cases hx<;>first|exact .halt|exact .pure' (.int _ _)
  ·rename_i el;cases e<;>first|(simp at ho;done)|skip
   dsimp only at ho;have main:aH P F C (aA F) g2 (do match←alJ el with| .int .u8=>anj a| .int .i32=>aoe a|_=>stuck "Convert: a slice of what to string?")
     (do match←alJ el with| .int .u8=>anj a'| .int .i32=>aoe a'|_=>stuck "Convert: a slice of what to string?"):=by
    refine .bind (.underlying el) λg3 d d' eQ hd3=>?_;obtain⟨rfl,hd3⟩:=hd3;rw[hd3]at ho;cases d<;>first|(simp at ho;done)|skip
    rename_i k;cases k<;>first|(simp at ho;done)|exact .bytesToString (hx.mono eQ)
   cases hx<;>first|exact .halt|exact main|exact .pure' (.string _)|(dsimp only[Conv.intToString];exact .pure' (.string _))
 |makeFunc fn xs cs=>
  cases fn<;>first|(simp at ho;done)|skip
  refine v (.pure' (.fn ?_ (Cf λx hx=>arg x (by simp[anc,hx])) (Cf λx hx=>arg x (by simp[anc,hx]))));exact ho
 |makeMap t r=>exact v (.makeMap t (rA λx hx=>arg x (by simp[anc,hx])))
 |slice t x lo hi mx=>
  exact v (.sliceAt t (arg x (by simp[anc])) (rA λx hx=>arg x (by simp[anc,hx])) (rA λx hx=>arg x (by simp[anc,hx])) (rA λx hx=>arg x (by simp[anc,hx])))
 |fieldAddr s x k=>exact v (.fieldAt (J_ ho) (arg x (by simp[anc])))
 |indexAddr t x i=>exact v (.indexAt t (arg x (by simp[anc])) (arg i (by simp[anc])))
 |index t x i=>exact v (.index t (arg x (by simp[anc])) (arg i (by simp[anc])))
 |lookup t x i ok=>exact v (.lookup (qC ho) (arg x (by simp[anc])) (arg i (by simp[anc])) ok)
 |mapUpdate t m k x=>exact u (.mapUpdate (qC ho) (arg m (by simp[anc])) (arg k (by simp[anc])) (arg x (by simp[anc])))
 |insert t m k x=>exact u (.mapUpdate (qC ho) (arg m (by simp[anc])) (arg k (by simp[anc])) (arg x (by simp[anc])))
 |mapEntry t m k=>exact v (.mapEntry (qC ho) (arg m (by simp[anc])) (arg k (by simp[anc])))
 |entryStore t m s x=>exact u (.entryStore t (arg m (by simp[anc])) (arg s (by simp[anc])) (arg x (by simp[anc])))
 |range t x=>
  refine v (.range t (arg x (by simp[anc])) λd hd=>?_);dsimp only at ho;rw[hd]at ho;cases d<;>first|(simp at ho;done)|exact⟨_,_,rfl⟩
 |next x b=>
  cases b
  ·exact v (.next (arg x (by simp[anc])) ty)
  ·simp at ho
 |entry x=>exact v (.entry (arg x (by simp[anc])))
 |extract x i=>exact v (.extract (arg x (by simp[anc])) i)
 |call c=>
  refine .call hf (by simp only[al0];exact λx hx=>hop x (by simpa[anc]using hx)) ?_ ty h;obtain⟨callee,args,ats⟩:=c;cases callee<;>exact ho
 |_=>simp at ho
end
end Go.Upr
