import Derived.Test.YtkdljbnllgpfhaaGreatA3
import Derived.Test.YtkdljbnllgpfhaaGreatB1
import Derived.Test.YtkdljbnllgpfhaaGreatB5
import Derived.Test.YtkdljbnllgpfhaaGreatB6
import Derived.Test.YtkdljbnllgpfhaaGreatB7
set_option maxRecDepth 100000
set_option maxHeartbeats 8000000
open Go renaming lt_of_block→atm,World→aly,heap_alloc_new→atp,Value→aad,Calls→asP,Addr→alA,cell_of_row→aqF,FuncId→alB
open List renaming length_map→auB,getElem?_eq_getElem→arn,mem_of_getElem?→ann,mem_cons_self→ao3,getElem?_eq_some_iff→apT,mem_singleton→atQ,eq_nil_of_length_eq_zero→awA,getElem?_map→anr,mem_cons→ap9
open Go.Extern renaming findNext→apV,find→ap3
open Go.Value renaming string→at5,oneCell'→atv
open Nat renaming le_refl→agl,zero_le→arQ,add_assoc→at7,add_zero→at6,lt_of_lt_of_le→amC,div_le_self→awC
open Bool renaming and_eq_true→anh
open Array renaming replicate→aps,getElem?_eq_some_iff→ad3
open Option renaming isSome_iff_exists→aww
open Go.RowKit renaming run_makeMap→auj
open Go.Region renaming ready→asi,noSelect→atT
open Go.Extern.BytealgMakeNoZero renaming makeNoZero→aoD
open Go.Extern.BytealgIndexByte renaming indexByte→aoG
open Go.Extern.BytealgCompare renaming compare→aoJ
open Go.Extern.BytealgIndex renaming index→aoL
open Go.Extern.AbiNoEscape renaming same→ao1
open Int renaming natCast_ediv→awB
open Prod renaming fst→aug
open Option.some renaming inj→alN
open Function renaming comp_def→awz
section
namespace Go.Proofs.YtkdljbnllgpfhaaGreat
open Go Go.RowKit Go.Upr
structure aaY(J:Jn)(D:Bool→ByteArray→Seen)(m:Nat)(P:Nat→aS→Prop)(RS:List (Option (List aS))→Prop):Prop where
 some: ∀i<m,∃t,P i t
 last: ∀t,¬P m t
 init:RS (J.steps.map λ_=>none)
 step: ∀i<m,∀st bB xs,RS st→(∀t,t∈xs↔P i t)→xs.Nodup→gV D J xs st bB→bB.length=J.steps.length→RS bB∧∀t,P (i+1) t↔t∈(eV D J xs bB).map aug∧¬ ∃j<i+1,P j t
 inj:uK D J
theorem iC.weak{w:aly}{N M:Nat}{V:Bool→ByteArray→Vw}{D:Bool→ByteArray→Seen}(h:iC w N V D)(hm:N≤M):iC w M V D:=⟨h.now,h.came,h.gone,λs n b hb=>amC (h.low s n b hb) hm⟩
structure UF(w0:aly)(N:Nat)(V:Bool→ByteArray→Vw)(tb:Nat)(k:Hp)(jb gb:Nat)(J:Jn)(P:Nat→aS→Prop)(RS:List (Option (List aS))→Prop)(g o i fb:Nat)(w:aly):Prop where
 turn:af (λ_=>False) w0 w
 list: ∃cs,w.heap[g]? =some (.cells cs 457)∧cs[o]? =some (.pointer (some ⟨jb,0,none⟩))
 ex: ∃bf H bl G st R,aq w fb bf H∧(∀n t,eI bf H n t↔n=J.head.n∧P i t)∧(∀p∈bf,∃t,eI bf H p.1 t)∧
  aq w tb bl G∧(∀n t,eI bl G n t↔jR P J.head.n i n t)∧(∀p∈bl,∃t,eI bl G p.1 t)∧dZ V w N k jb gb J st R∧RS st∧
  (∀b,dt fb bf b→¬dt tb bl b)∧(∀b,dt tb bl b→w0.heap.size≤b∧k b=none)∧∀b,cv st R b→¬dt tb bl b
theorem sizeOf444(w:aly):(sizeOf 444).run Tryz.prog w= .ok 3 w:=by kernel_rfl
theorem aju{K:Hp}{w:aly}{lb sb:Nat}{rs:List bQ}{ra:Option alA}{rc:Nat}(hL:fB w K lb sb rs ra rc)(uB: ∀r∈rs,gW r)(hn:rs.length≤1048576){bs:dB}{F:aN}(hS:aq w sb bs F)
  {p0 p1:Option Nat} {b0 b1:dB} {G0 G1:aN} (h0:qa w p0 b0 G0) (h1:qa w p1 b1 G1) {Sg:bQ→Nat→aS→Prop}
  (hg: ∀r∈rs,∀i y,r.body[i]? =some y→fV b1 G1 b0 G0 y≠ []→uK (DJ ⟨some sb,p0,p1,bs,b0,b1⟩ F G0 G1) (ic r.head y.a (fE r i))∧BH (DJ ⟨some sb,p0,p1,bs,b0,b1⟩ F G0 G1) (ic r.head y.a (fE r i)) (fV b1 G1 b0 G0 y) (Sg r i))
  {J:Jn} (hJ:kr (eK rs) rs= [J]) (hne:J.steps≠ []) (ok:Dl J) (zZ:bZ J.head.n) (vy:J.first.n=J.head.n) (FB:(au bs J.head.n).isSome=true)
  {m:Nat} {P:Nat→aS→Prop} {RS:List (Option (List aS))→Prop} (pl:aaY J (DJ ⟨some sb,p0,p1,bs,b0,b1⟩ F G0 G1) m P RS) (zx: ∀n t,pz (fV b1 G1 b0 G0) Sg [] bR rs n t↔n=J.head.n∧P 0 t):
  asP Tryz.prog 327 #[.pointer (some ⟨lb,0,none⟩),.agg #[.map p0,.map p1]] w λe w'=>∃nb bl G F',e= .returned (.map (some nb))∧af (dt sb bs) w w'∧aq w' sb bs F'∧(∀n t,eI bs F' n t↔eI bs F n t∧¬jR P J.head.n m n t)∧aq w' nb bl G∧(∀b,dt nb bl b→w.heap.size≤b)∧(∀n t,eI bl G n t↔jR P J.head.n m n t)∧∀p∈bl,∃t,eI bl G p.1 t:=by
 have tV:= @auj Tryz.prog;obtain⟨W,hW⟩: ∃W,W=w.alloc (.cells #[.map p0,.map p1] 158):=⟨_,rfl⟩;have bM:af (λ_=>False) w W:=by rw[hW];exact(af.refl _ _).alloc _
 have f0:W.heap[w.heap.size]? =some (.cells #[.map p0,.map p1] 158):=by rw[hW];exact atp _ _
 obtain⟨s0,s1,-,-⟩:=b9 f0;have pZ:=atm f0;have XA:=hL.still bM;obtain⟨l0,l1,-,-⟩:=b9 XA.block;have jy:=atm XA.block;have k6:=λw'=>ajq (some sb) p0 p1 w';go_enter Tryz.func327,Tryz.ntmps327;go_wp2_with (rw[←hW];clear hW);refine wp_mono (Q:=λe a' w5=>e= .normal∧∃b5,af (λ_=>False) W w5∧W.heap.size≤b5∧w5.heap[b5]? =some (.cells #[.map (some sb),.map p0,.map p1] 444)∧a'={tmps:= #[.pointer (some ⟨lb,0,none⟩),.agg #[.map p0,.map p1],undef,.pointer (some ⟨w.heap.size,0,none⟩),.map none,.pointer (some ⟨b5,0,none⟩),undef,undef,undef,.pointer (some ⟨lb,0,none⟩),.pointer (some ⟨lb,0,none⟩),.pointer (some ⟨lb,0,none⟩),.pointer (some ⟨lb,1,none⟩),.map (some sb),.agg #[.map p0,.map p1],.agg #[.map (some sb),.map p0,.map p1],undef,undef,undef,undef,undef,undef,undef,undef,undef,undef,undef,undef,undef,undef,undef,undef,undef,undef,undef,undef,undef,undef,undef,undef,undef,undef,undef,undef],defers:= []}) ?_ ?_
 ·have hD:af (λ_=>False) W W.drew:=(af.refl _ _).drew;refine wh (λi=>i==6||i==7||i==8) [0,1,2,3,4,5] 6 [7,8] 7 [6,8] ar ar ?_;intro S gg fN gc gh gb;iterate 6 (refine fp pK ar aC aC λK hK=>?_;go_big_quiet_op;refine hK _ ?_;clear hK K)
  refine dw ⟨?_,?_⟩
  ·refine aV pK ar aC λQ' hQ=>?_;go_wp2_with (go_at_call 336;refine(k6 _).mono ?_;rintro e w4 ⟨rfl,ck⟩);have h4:af (λ_=>False) W w4:=hD.trans ck;refine hQ _ _ ar (λ_=>gb _ h4) ?_;clear hQ Q';iterate 2
    refine aV pK ar aC λQ' hQ=>?_;go_wp2;refine hQ _ _ ar (λ_=>gb _ (h4.alloc _)) ?_;clear hQ Q'
   exact dw ⟨trivial,_,h4.alloc _,h4.size,atp _ _,rfl⟩
  ·refine aV pK ar aC λQ' hQ=>?_;go_wp2;have hA:af (λ_=>False) W (W.drew.alloc (.cells #[.map none,.map none,.map none] 444)):=hD.alloc _;refine hQ _ _ ar (λ_=>gb _ hA) ?_;clear hQ Q';refine aV pK ar aC λQ' hQ=>?_;go_wp2_with (go_at_call 336;refine(k6 _).mono ?_;rintro e w4 ⟨rfl,ck⟩);have h4:af (λ_=>False) W w4:=hA.trans ck;refine hQ _ _ ar (λ_=>gb _ h4) ?_;clear hQ Q';have XC:=ck.kept (atp _ _) id;refine aV pK ar aC λQ' hQ=>?_;go_wp2_with (refine bV rfl (.tmp 5) (.tmp 15) rfl rfl XC rfl sizeOf444 rfl (by simp[atv]) ?_;intro w5 bA sI);have h5:af (λ_=>False) W w5:=h4.bL bA λq (hq:q=W.heap.size)=> .inl aj;refine hQ _ _ ar (λ_=>gb _ h5) ?_;exact dw ⟨trivial,_,h5,agl _,sI,rfl⟩
 ·rintro e a5 w5 ⟨rfl,b5,bA,aiy,sI,rfl⟩;dsimp only;have iW:=bM.trans bA;obtain⟨c0,c1,c2,-⟩:=bI sI;have bW:=atm sI;have DU: ∀w',af (λ_=>False) w w'→mq w' ⟨some sb,p0,p1,bs,b0,b1⟩ F G0 G1:=λw' ht=>⟨.inr ⟨sb,rfl,hS.still ht λ_ _=>id⟩,h0.still ht,h1.still ht⟩;have k7:=λ(w':aly) (ht:af (λ_=>False) w w')=>acd (hL.still ht) uB hn (DU w' ht);rw[hJ]at k7;clear hJ;dsimp only at k7;go_wp2_with (go_at_call 337;refine(k7 _ (iW.alloc _)).mono ?_;clear k7;rintro e w7 ⟨v,k,js,rfl,eC,hx,hm,Nz,rS⟩);have hE6:aq (w5.alloc (.map #[] 0)) w5.heap.size [] bR:=⟨av.made,by simp,by simp,by simp⟩;have hE7:=hE6.still eC (λ_ _=>id);have C5:=(iW.alloc (.map #[] 0)).trans eC;have htW:=(bA.alloc (.map #[] 0)).trans eC;obtain⟨jb,rfl⟩: ∃jb,js= [(jb,J)]:=by
   match js,rS with
   | [(jb,_)],rfl=>exact⟨jb,rfl⟩
  obtain⟨g,cap,cs,rfl,hgN,xQ,hg0⟩:=aw.adp hm;obtain⟨gb,Ho⟩:=(Nz (jb,J) bz).run;dsimp only at Ho;obtain⟨N,hN⟩: ∃N,N=(w5.alloc (.map #[] 0)).heap.size:=⟨_,rfl⟩;have hNt:w5.heap.size<N:=by rw[hN];simp
  have hN7:N≤w7.heap.size:=by rw[hN];exact eC.size
  have zt:=iW.size;rw[←hN]at Ho hx;have KD:k w5.heap.size=none:=by
   cases hk:k w5.heap.size with
   |none=>rfl
   |some ob=>
    rcases hx.new _ ob hk with h2|h2
    ·have:=hL.known.lt h2;omega
    ·omega
  have hkz: ∀b,w7.heap.size≤b→k b=none:=λb hb=>Ho.known.free hb;obtain⟨s0,s1,-,-⟩:=b9 (htW.kept f0 id);have pZ:=atm (htW.kept f0 id);have Hm:=((af.refl (λ_=>False) w5).alloc (.map #[] 0)).trans eC|>.kept sI id;obtain⟨c0,c1,c2,-⟩:=bI Hm;have bW:=atm Hm;obtain⟨tb,WK⟩: ∃x,x=w5.heap.size:=⟨_,rfl⟩;rw[←WK]at hE7 hNt KD zt⊢;have KV: ∀w',af (λ_=>False) w w'→iC w' N (pM ⟨some sb,p0,p1,bs,b0,b1⟩ ⟨some sb,p0,p1,bs,b0,b1⟩) (DJ ⟨some sb,p0,p1,bs,b0,b1⟩ F G0 G1):=λw' ht=>((tF (DU w (af.refl _ _)) (DU w (af.refl _ _))).weak aj).turn ht λ_ _=>id;have k8:=λw'=>ajp p0 p1 w';have k9:=λ(w':aly) (ht:af (λ_=>False) w7 w')=>aeK (hL.still (C5.trans ht)) uB hn (h1.still (C5.trans ht)) (h0.still (C5.trans ht)) (DU w' (C5.trans ht)) (hE7.still ht λ_ _=>id) hg;dsimp only at k9;clear eC hE6 hm Nz rS WK hN hx sI aiy bA htW iW f0;refine aG (λi=>i==2||i==5||i==6) ar ar ?_;intro S' gg fN gc gf gh gb';iterate 2 (refine ak ar aC aC λK hK=>?_;go_big_quiet_op;refine hK _ ?_;clear hK K)
  refine ai ar aC λQ' hQ=>?_;go_wp2_with (go_at_call 338;refine(k8 _).mono ?_;clear k8;rintro e w8 ⟨rfl,jJ⟩);have h8:af (λ_=>False) w7 w8:=(af.refl _ _).drew.trans jJ;refine hQ _ _ ar (λ_=>gb' _ h8.below) ?_;clear hQ Q';iterate 2 (refine ak ar aC aC λK hK=>?_;go_big_quiet_op;refine hK _ ?_;clear hK K)
  refine ai ar aC λQ' hQ=>?_;go_wp2_with (go_at_call 330;refine(k9 _ h8).mono ?_;clear k9;rintro e w9 ⟨fb,bf,H,rfl,Bf,hH9,Fa,hG9⟩);have h9:=h8.trans Bf;refine hQ _ _ ar (λ_=>gb' _ h9.below) ?_;clear hQ Q';refine ai ar aC λQ' hQ=>?_;go_wp2;refine hQ _ _ ar (aX ar) ?_;clear hQ Q';refine aQ ?_;have hT9:=C5.trans h9;have Xd:=h8.size;have dC:UF w N (pM ⟨some sb,p0,p1,bs,b0,b1⟩ ⟨some sb,p0,p1,bs,b0,b1⟩) tb k jb gb J P RS g 0 0 fb w9:=by
   refine⟨hT9,⟨cs,h9.kept xQ id,hg0⟩,bf,H,[],bR,_,_,hH9,λn t=>(hG9.only.1 n t).trans (zx n t),hG9.only.2,hE7.still h9 (λ_ _=>id),λn t=>by unfold jR eI;simp[au],(λ_ h=>nomatch h),Ho.turn h9,pl.init,λb hb h=>?_,λb hb=>?_,λb hb=>?_⟩
   ·have h2:=eF h;have h3:=Fa b hb;omega
   ·rw[eF hb];exact⟨zt,KD⟩
   ·obtain⟨i,T,hi,-⟩:=hb;rw[anr]at hi;cases hs:J.steps[i]? <;>rw[hs]at hi<;>cases hi
  have h79:=h9.size;clear gc gf gh gb' fN gg S' xQ hg0 hH9 Fa hG9 Ho hE7 jJ Bf h8 h9 C5 hT9 s0 s1 pZ c0 c1 c2 bW Hm zx;go_wp2
  go_loopg [8] m (λgk v wr=>∃i XI,i+gk=m∧v= .map (some XI)∧w7.heap.size≤wr.heap.size∧UF w N (pM ⟨some sb,p0,p1,bs,b0,b1⟩ ⟨some sb,p0,p1,bs,b0,b1⟩) tb k jb gb J P RS g 0 i XI wr)
  case atStart=>exact⟨0,fb,by omega,rfl,h79,dC⟩
  case round=>
   clear dC h79;obtain⟨i,XI,him,rfl,akD,hT,⟨cs,hg,hg0⟩,bf,H,bl,G,st,R,WZ,Sc,hfu,W5,hGi,hGf,hJr,hRS,d1,d2,d3⟩:=hrel;by_cases hlt:i<m
   ·obtain⟨gk',rfl⟩: ∃x,gk=x+1:=⟨gk- 1,by omega⟩;have S8:0<bf.length:=by
     obtain⟨t,ht⟩:=pl.some i hlt;have h1:=((Sc _ t).2 ⟨rfl,ht⟩).1;cases bf with
     |nil=>cases h1
     |cons _ _=>simp
    have c1:=Tu W5 WZ d1;obtain⟨cg,xQ,-⟩:=hJr.steps.cells hne;have o8:=atm hg;go_wp2_with (first|(at_len;refine fQ Tryz.underlying99 rfl (.tmp 26) rfl rfl WZ.top ?_)|(go_at_call 329;refine c1.mono ?_;clear c1;rintro e w5 ⟨PG,G5,rfl,bA,Fj,PE⟩;have hH5:=WZ.still bA d1;have hJ5:=hJr.store hne W5 bA (λb hb=>(d2 b hb).2) d3;have E_:=bA.kept hg (λh=>W5.cd h hg rfl);have iW:=hT.bL bA (λb hb=> .inl (d2 b hb).1);have zt:=bA.size;have e6:w5.cell? ⟨g,0,none⟩=some (.pointer (some ⟨jb,0,none⟩)):=(aqF w5 g 0 _ 457 (0,0) E_).trans hg0;have c4:=aeH hJ5 (KV _ iW) aj ok hne pl.inj zZ (by rw[vy];exact zZ) (cap:=cap) e6 hH5 Fj)|(go_at_call 339;refine c4.mono ?_;clear c4;rintro e w7' ⟨nb,bn,Fn,hs,xs,st7,R7,rfl,aiF,hnN,hGN,oY,Ho,hbg,jQ,eC,P1⟩));have ad1:=bA.kept xQ (λh=>W5.cd h xQ rfl);have AJ: ∀b,cv st R b→b<wr.heap.size:=λb hb=>hJr.steps.BM hb
    obtain⟨abP,hP7⟩:=pl.step i hlt st st7 xs hRS (λt=>by
     have h1:=Sc J.head.n t;have h2:= @kV bf H J.first.n t;rw[vy,h1]at h2;constructor
     ·exact λh=>(h2.1 (vy▸oY.2.1 t h)).2
     ·exact λh=>oY.1 t (by rw[vy];exact h2.2 ⟨rfl,h⟩)) oY.2.2 hbg Ho.steps.len
    have aes: ∀n t,eI PG G5 n t↔jR P J.head.n (i+1) n t:=λn t=>by rw[PE.ins,hGi,Sc,yU]
    have hNi: ∀n t,eI bn Fn n t↔n=J.head.n∧P (i+1) t:=λn t=>by
     rw[hGN.only.1,hP7];unfold vF;rw[(jQ.map aug).mem_iff,aes];unfold jR;simp
    have aiM: ∀p∈PG,∃t,eI PG G5 p.1 t:=λp hp=>by
     obtain⟨l,hl,h1⟩:=PE.pre;rw[hl]at hp;rcases List.mem_append.1 hp with hp|hp
     ·obtain⟨t,ht⟩:=hGf p hp;exact⟨t,(PE.ins _ _).2 (.inl ht)⟩
     ·obtain⟨_,t,ht⟩:=h1 p hp;exact⟨t,(PE.ins _ _).2 (.inr ht)⟩
    have C5:=iW.bL eC λb (hb:b=gb)=> .inl (by have:=hJr.steps.low;omega);have hg7:=eC.kept E_ (λe=>by rw[e,ad1]at E_;cases E_);have akE:=eC.size;have Yg: ∀b,cv st R b→¬dt tb PG b:=λb hb h=>(PE.blocks h).elim (d3 b hb) λh=>by have:=AJ b hb;omega
    have PY: ∀b,dt tb PG b→b<w5.heap.size:=λb hb=>Fj.low hb
    go_roundg gk'
    case measure=>exact Nat.lt_succ_self _
    case rel=>
     refine⟨i+1,nb,by omega,rfl,by omega,C5,⟨cs,hg7,hg0⟩,bn,Fn,PG,G5,st7,R7,aiF,hNi,hGN.only.2,Fj.still eC (λb hb=>Fj.cd hb ad1),aes,aiM,Ho,abP,λb hb h=>?_,λb hb=>?_,λb hb h=>?_⟩
     ·have:=hnN b hb;have:=PY b h;omega
     ·rcases PE.blocks hb with h|h
      ·exact d2 b h
      ·exact⟨by have:=hT.size;omega,hkz b aj⟩
     ·rcases(P1 b).1 hb with h2|h2
      ·exact Yg b h2 h
      ·have:=PY b h;omega
   ·obtain rfl:i=m:=by omega
    have hb0:bf= []:=by
     cases bf with
     |nil=>rfl
     |cons p l=>
      obtain⟨t,ht⟩:=hfu p (ao3 ..);exact absurd ((Sc _ _).1 ht).2 (pl.last t)
    subst hb0;have Sb:=hL.still hT;obtain⟨l0,l1,-,-⟩:=b9 Sb.block;have jy:=atm Sb.block;have wE:=hS.still hT (λ_ _=>id)
    have c8:=c82 wE W5 (λb hb h=>by have:=(d2 b hb).1;have:=hS.low h;omega) (λp hp=>by
     obtain⟨t,ht⟩:=hGf p hp;rw[((hGi _ _).1 ht).1]
     exact FB)
    go_wp2_with (first|(at_len;refine fQ Tryz.underlying99 rfl (.tmp 26) rfl rfl WZ.top ?_)|(go_at_call 82;refine c8.mono ?_;clear c8;rintro e w8 ⟨F8,rfl,jJ,R9,PF⟩));go_ret;refine⟨_,bl,G,F8,rfl,hT.wider.trans jJ,R9,λn t=>by rw[PF,hGi],W5.still jJ (λb hb h=>?_),λb hb=>(d2 b hb).1,hGi,hGf⟩;have:=(d2 b hb).1;have:=hS.low h;omega
end Go.Proofs.YtkdljbnllgpfhaaGreat
end
section
namespace Go.Proofs.YtkdljbnllgpfhaaGreat
open Go Go.RowKit Go.Upr
def kB(r:bQ):Jn:=ic r.head r.head (r.body.map (dI false))
theorem dZ.pick{V:Bool→ByteArray→Vw}{w:aly}{N:Nat}{k:Hp}{jb gb:Nat}{J:Jn}{st:List (Option (List aS))}{R:Nat→kP}(h:dZ V w N k jb gb J st R)(hN:N≤w.heap.size): ∃g,dZ V w N k jb g J st R∧((∃cs,w.heap[g]? =some (.cells cs 497))∨w.heap.size≤g):=by
 by_cases hs:J.steps= []
 ·obtain⟨h1,h2,h3,h4,⟨ha,hc,fa,fc,sa,sc,ga,gc,h5,a2,a3,a4,a5⟩,h7⟩:=h;have hno: ∀ (i:Nat) T,st[i]? ≠some T:=λi T hi=>by
   have h8:=(apT.1 hi).1;rw[h7.len,hs]at h8;exact absurd h8 (Nat.not_lt_zero _)
  exact⟨w.heap.size,⟨h1,h2,h3,by have:=atm h5;omega,⟨ha,hc,fa,fc,sa,sc,ga,gc,h5,a2,a3,a4,λh=>absurd hs h⟩,⟨h7.len,hN,h1.free (agl _),λh=>absurd hs h,λi s T _ hi=>absurd hi (hno _ _),λi T hi=>absurd hi (hno _ _),λi j T U hi=>absurd hi (hno _ _)⟩⟩,.inr (agl _)⟩
 ·obtain⟨cs,h1,-⟩:=h.steps.cells hs;exact⟨gb,h,.inl ⟨cs,h1⟩⟩
theorem ajo{h:Hp}{w:aly}(hw:h.In w){r:bQ}{ha ba:Option alA}{hc bc:Nat}(hH:h.list 2 r_ (.slice ha r.head.ts.length hc) r.head.ts)(hB:h.list 3 xT (.slice ba r.body.length bc) r.body)(ok:gW r){sb:Nat}{bs:dB}{F:aN}(hL:aq w sb bs F)
  {o:Option Nat} {ts:List aS} (iu:Hp.map (λb=>w.heap[b]?) fq br aY (.map o) (aU ts)) (htl:ts.length≤1048576) (D8: ¬(bJ r).cost/max 1 ts.length<(kB r).cost/kS (bU r.head.ts)) (hc1:(bJ r).cost≤1099511627776) (hc2:(kB r).cost≤1099511627776) (lJ:uK (dV bs F) (kB r)) (iQ:BH (dV bs F) (kB r) ts λ_=>False):
  asP Tryz.prog 340 #[.agg #[.string r.head.n,.slice ha r.head.ts.length hc,.slice ba r.body.length bc],.map o,.map (some sb)] w λe w'=>∃b,e= .returned (.map (some b))∧w.heap.size≤b∧af (λ_=>False) w w'∧av w' fq br aY b []:=by
 have tV:= @auj Tryz.prog;obtain⟨W,hW⟩: ∃W,W=w.alloc (.cells #[.string r.head.n,.slice ha r.head.ts.length hc,.slice ba r.body.length bc] 318):=⟨_,rfl⟩;have bM:af (λ_=>False) w W:=by rw[hW];exact(af.refl _ _).alloc _
 have lY:W.heap[w.heap.size]? =some (.cells #[.string r.head.n,.slice ha r.head.ts.length hc,.slice ba r.body.length bc] 318):=by rw[hW];exact atp _ _
 obtain⟨a0,a1,a2,-⟩:=bI lY;have qK:=atm lY;have hsc: ∀w':aly,af (λ_=>False) W w'→mq w' (fX (some sb) bs) F (λ_=> []) (λ_=> []):=λw' ht=>⟨.inr ⟨sb,rfl,hL.still (bM.trans ht) λ_ _=>id⟩,.inl ⟨rfl,rfl⟩,.inl ⟨rfl,rfl⟩⟩;have c1:=λw'=>Tt (some sb) w';have c2:=λ(w':aly) (ht:af (λ_=>False) W w')=>ajh (hw.turn (bM.trans ht) λ_ _ _ h=>h) hH hB ok (hsc w' ht);have c3:=λ(w':aly) (ht:af (λ_=>False) W w')=>aeD (hw.turn (bM.trans ht) λ_ _ _ h=>h) hH hB ok (hsc w' ht);dsimp only[fX]at c2 c3;have pZ:(aU ts).length=ts.length:=by simp[aU]
 have hvl:=iL ok.ml;have Nt:0<kS (bU r.head.ts):=by unfold kS;exact Nat.two_pow_pos _
 have gH:=xt (head:=r.head) (first:=r.head) (others:=r.body.map (dI false)) ok.nE ok.ml ok.nE ok.ml (by rw[auB];exact ok.mo) (iT ok.jl);change Dl (kB r)at gH;go_enter Tryz.func340,Tryz.ntmps340;go_wp2_with (rw[←hW];clear hW);refine aG (λi=>i==2||i==3) ar ar ?_;intro S gg fN gc gf gh gb;iterate 2 (refine ak ar aC aC λK hK=>?_;go_big_quiet_op;refine hK _ ?_;clear hK K)
 refine ai ar aC λQ' hQ=>?_;go_wp2_with (go_at_call 331;refine(c1 _).mono ?_;rintro e w2 ⟨rfl,aF⟩);have h2:af (λ_=>False) W w2:=(af.refl _ _).drew.trans aF;refine hQ _ _ ar (λ_=>gb _ h2.below) ?_;clear hQ Q';refine ai ar aC λQ' hQ=>?_;go_wp2_with (go_at_call 355;refine(c2 _ h2).mono ?_;clear c2;rintro e w3 ⟨jb,k,rfl,bX,aij,hJ⟩);have h3:=h2.trans bX;refine hQ _ _ ar (λ_=>gb _ h3.below) ?_;clear hQ Q';iterate 3 (refine ak ar aC aC λK hK=>?_;go_big_quiet_op;refine hK _ ?_;clear hK K)
 refine aQ ?_;change gO _ w3 w2.heap.size k jb (kB r)at hJ;obtain⟨g5,hrun⟩:=hJ.run;have KV:iC w3 w2.heap.size (pM (fX (some sb) bs) (fX (some sb) bs)) (dV bs F):=(tF (hsc w2 h2) (hsc w2 h2)).turn bX λ_ _ h=>h;have De:=h3.kept lY id;obtain⟨a0,a1,a2,-⟩:=bI De;have qK:=atm De;have hz2:=h2.size;clear gc gf gh gb fN gg S hJ;go_wp2;refine aG (λi=>i==2||i==3) ar ar ?_;intro S gg fN gc gf gh gb;iterate 2 (refine ak ar aC aC λK hK=>?_;go_big_quiet_op;refine hK _ ?_;clear hK K)
 refine ai ar aC λQ' hQ=>?_;go_wp2_with (go_at_call 331;refine(c1 _).mono ?_;rintro e w4 ⟨rfl,ck⟩);have h4:af (λ_=>False) w3 w4:=(af.refl _ _).drew.trans ck;refine hQ _ _ ar (λ_=>gb _ h4.below) ?_;clear hQ Q';refine ai ar aC λQ' hQ=>?_;go_wp2_with (go_at_call 356;refine(c3 _ (h3.trans h4)).mono ?_;clear c3;rintro e w5 ⟨jb2,k2,rfl,bA,-,hJ2⟩);have h5:=h4.trans bA;refine hQ _ _ ar (λ_=>gb _ h5.below) ?_;clear hQ Q';refine ak ar aC aC λK hK=>?_;go_big_quiet_op;refine hK _ ?_;clear hK K;refine aQ ?_;change gO _ w5 w4.heap.size k2 jb2 (bJ r)at hJ2;clear gc gf gh gb fN gg S;have aaB:=hrun.turn h5;obtain⟨_,_,_,_,_,_,_,_,jh,-⟩:=aaB.top;obtain⟨_,_,_,_,_,_,_,_,abf,-⟩:=hJ2.top;have q7:w5.cell? ⟨jb,7,none⟩=some (.int .i64 ((kB r).cost:Nat)):=(aqF w5 jb 7 _ 479 (0,0) jh).trans rfl;have q8:w5.cell? ⟨jb2,7,none⟩=some (.int .i64 ((bJ r).cost:Nat)):=(aqF w5 jb2 7 _ 479 (0,0) abf).trans rfl;have rS:=atm jh;have Te:=atm abf;have Bo:=h5.kept De id;obtain⟨a0,a1,a2,-⟩:=bI Bo;have qK:=atm Bo;have adF:=Hp.bY iu ((bM.trans h3).trans h5);have c6:=λ(w':aly) (ht:af (λ_=>False) w5 w')=>P7 (hw.turn (((bM.trans h3).trans h5).trans ht) λ_ _ _ h=>h) (⟨_,rfl,hH⟩:NL h [.string r.head.n,.slice ha r.head.ts.length hc] r.head) ok.nE ok.ml;have c7:=λw'=>aeC (bU r.head.ts) hvl w';generalize kS (bU r.head.ts)=pr at c7 D8 Nt;generalize bU r.head.ts=vh at c6 c7;generalize DO:(bJ r).cost=cw at q8 D8 hc1;generalize wC:(kB r).cost=ch at q7 D8 hc2;replace DO:Hid _:=DO;replace wC:Hid _:=wC;generalize jy:ts.length=tl at D8 pZ htl;replace jy:Hid _:=jy;clear jh abf Bo;go_wp2;refine aG (λi=>i==5||i==14||i==15) ar ar ?_;intro S gg fN gc gf gh gb;iterate 5 (refine ak ar aC aC λK hK=>?_;go_big_quiet_op;refine hK _ ?_;clear hK K)
 refine ai ar aC λQ' hQ=>?_;go_wp2_with (at_len;refine nS Tryz.underlying123 rfl (.tmp 25) rfl rfl (Hp.bY adF (af.refl (λ_=>False) w5).drew) ?_;rw[pZ]);refine hQ _ _ ar (λ_=>gb _ (af.refl _ _).drew.below) ?_;clear hQ Q';refine ak ar aC aC λK hK=>?_;go_big_quiet_op;refine hK _ ?_;clear hK K;refine ak ar aC aC λK hK=>?_;go_big_quiet_op;refine hK _ ?_;clear hK K;iterate 6 (refine ak ar aC aC λK hK=>?_;go_big_quiet_op;refine hK _ ?_;clear hK K)
 refine ai ar aC λQ' hQ=>?_;go_wp2_with (go_at_call 322;refine(c6 _ (af.refl _ _).drew).mono ?_;clear c6;rintro e w6 ⟨rfl,bH⟩);have h6:af (λ_=>False) w5 w6:=(af.refl _ _).drew.trans bH;refine hQ _ _ ar (λ_=>gb _ h6.below) ?_;clear hQ Q';refine ai ar aC λQ' hQ=>?_;go_wp2_with (go_at_call 357;refine(c7 _).mono ?_;clear c7;rintro e w7 ⟨rfl,eC⟩);have h7:=h6.trans eC;refine hQ _ _ ar (λ_=>gb _ h7.below) ?_;clear hQ Q';iterate 2 (refine ak ar aC aC λK hK=>?_;go_big_quiet_op;refine hK _ ?_;clear hK K)
 refine aQ ?_;clear gc gf gh gb fN gg S;have hdec:decide (wrap64 ((cw:Int) /max 1 (tl:Int))<wrap64 ((ch:Int) / (pr:Int)))=false:=by
  have e1:(cw:Int) /max 1 (tl:Int)=((cw/max 1 tl:Nat):Int):=by
   rw[show max 1 (tl:Int)=((max 1 tl:Nat):Int) by omega,awB]
  have e2:(ch:Int) / (pr:Int)=((ch/pr:Nat):Int):=(awB _ _).symm;have b1:cw/max 1 tl≤cw:=awC _ _;have b2:ch/pr≤ch:=awC _ _;rw[decide_eq_false_iff_not,e1,e2];generalize cw/max 1 tl=x at D8 b1;generalize ch/pr=y at D8 b2;unfold wrap64;omega
 have zt:=h5.size;have sD:=((bM.trans h3).trans h5).trans h7;have C_:=sD.size;have hem: ∀xs bB (hs:List (aS×Nat)),bC ts xs→gV (dV bs F) (kB r) xs ((kB r).steps.map λ_=>none) bB→bB.length=(kB r).steps.length→hs.Perm (eV (dV bs F) (kB r) xs bB)→hs= []:=λxs bB hs h1 h2 h3 h4=>by
  have h5:=iQ xs bB h1 h2 h3;cases hs with
  |nil=>rfl
  |cons p l=>exact((h5 p.1).1 (List.mem_map.2 ⟨p,h4.mem_iff.1 (ao3 ..),rfl⟩)).elim
 have SJ:av (w7.alloc (.map #[] 0)) fq br aY w7.heap.size ([]:List (aS×Unit)):=av.made;obtain⟨w8,Hj⟩: ∃x,x=w7.alloc (.map #[] 0):=⟨_,rfl⟩;rw[←Hj]at SJ;have h8:af (λ_=>False) w7 w8:=by rw[Hj];exact(af.refl _ _).alloc _
 obtain⟨g6,aaA,E6⟩:=((aaB.turn h7).turn h8).pick (by have:=bX.size;have:=h7.size;have:=h8.size;omega);have aic: ¬w7.heap.size=g6:=λe=>by
  rcases E6 with⟨cs,h1⟩|h1
  ·obtain⟨es,cl,h2,_⟩:=SJ;rw[←e,h2]at h1;cases h1
  ·have:=SJ.lt;omega
 have E_:=aaA.steps.low;have k8:=Yt aaA (((KV.turn h5 λ_ _ h=>h).turn h7 λ_ _ h=>h).turn h8 λ_ _ h=>h) (by have:=bX.size;have:=h7.size;have:=h8.size;omega) gH (Hp.bY (Hp.bY adF h7) h8) lJ;rw[hdec];clear hdec;go_wp2_with (first|(rw[←Hj];clear Hj)|(go_at_call 345;refine k8.mono ?_;clear k8;rintro e w9 ⟨hb,hs,xs,bB,R',rfl,Xu,Hn,oY,hJ9,hbg,jQ,Bf,-⟩;obtain rfl:=hem xs bB hs oY hbg hJ9.steps.len jQ)|(at_range;refine fZ Tryz.underlying324 rfl (.tmp 45) rfl rfl Hn ?_;intro WB vB abc Lj));have P5:=(SJ.turn Bf aic).turn vB id;go_frame
 go_loopg [] 0 (λgk wr=>gk=0∧wr=WB)
 case atStart=>exact⟨rfl,rfl⟩
 case round=>
  obtain⟨rfl,rfl⟩:=hrel;go_wp2_with (at_next;refine iy gL rfl (.tmp 46) rfl rfl Lj (by have:=Hn.lt;omega) ?_ ?_)
  ·go_wp2;go_ret;exact⟨_,rfl,C_,((sD.trans h8).bL Bf λb (hb:b=g6)=> .inl aj).trans vB,P5⟩
end Go.Proofs.YtkdljbnllgpfhaaGreat
end
section
namespace Go.Upr
open Go Go.RowKit
variable{P:Program}{ops:Array Oper}{C:aly→Prop}{fx:Nat→Bool}
inductive OT where
 |leaf (l:List Nat)
 |fork (pre:List Nat) (i:Nat) (l:OT) (j:Nat) (r:OT)
def OT.len:OT→Nat
 | .leaf l=>l.length
 | .fork pre _ l _ _=>pre.length+(l.len+1)
def OT.wp(P:Program)(ops:Array Oper)(C:aly→Prop)(fx:Nat→Bool)(Q:Act→aly→Prop):OT→Act→aly→Prop
 | .leaf l=>cH P ops C fx Q l
 | .fork pre i l j r=>cH P ops C fx (λa w=>cH P ops C fx (l.wp P ops C fx Q) [i] a w∧cH P ops C fx (r.wp P ops C fx Q) [j] a w) pre
def OT.ok(ops:Array Oper)(fx:Nat→Bool):OT→Array Bool→Bool
 | .leaf l,L=>qT ops fx l L&&(asi .any ops (fg l L)== [])
 | .fork pre i l j r,L=>qT ops fx pre L&&(asi .any ops (fg pre L)== [i,j])&&l.ok ops fx ((fg pre L).setIfInBounds i true)&&r.ok ops fx ((fg pre L).setIfInBounds j true)&&(l.len==r.len)
theorem OT.any{Q:Act→aly→Prop}(hs:atT ops=true): ∀ (t:OT) (L:Array Bool) (a:Act) (w:aly),t.ok ops fx L=true→Inv .any ops C fx L w→t.wp P ops C fx Q a w→iw P .any ops C fx Q t.len L a w
 | .leaf l,L,a,w,hB,hI,h=>by
  simp only[OT.ok,anh,beq_iff_eq]at hB;exact jG hs l 0 _ a w hB.1 hI (lh (λa w hq _=>⟨hB.2,hq⟩) l a w h)
 | .fork pre i l j r,L,a,w,hB,hI,h=>by
  simp only[OT.ok,anh,beq_iff_eq]at hB;obtain⟨⟨⟨⟨b1,b2⟩,b3⟩,b4⟩,b5⟩:=hB;have step: ∀ (t:OT) (x:Nat) (o:Oper) (a:Act) (w:aly),ops[x]? =some o→x∈asi .any ops (fg pre L)→Inv .any ops C fx (fg pre L) w→(∀a w,Inv .any ops C fx ((fg pre L).setIfInBounds x true) w→t.wp P ops C fx Q a w→iw P .any ops C fx Q t.len ((fg pre L).setIfInBounds x true) a w)→
    cH P ops C fx (t.wp P ops C fx Q) [x] a w→AV P .any ops C fx x o (iw P .any ops C fx Q t.len ((fg pre L).setIfInBounds x true)) a w:=by
   intro t x o a w ho hr hI ih h;unfold cH at h;rw[ho]at h;dsimp only at h;unfold AV at h⊢;split at h
   ·rename_i hw;rw[if_pos hw];exact Oper.kF (λv w' hk=>⟨hk.1,ih _ _ (hI.fix hr hw.1 hk.1) hk.2⟩) h
   ·rename_i hw;rw[if_neg hw];obtain⟨v,hv,hk⟩:=h;exact⟨v,hv,ih _ _ (hI.float hr) hk⟩
  refine jG hs pre (l.len+1) _ a _ b1 hI (lh (λa w hh hI=>?_) pre a _ h);refine⟨λhe=>?_,λx hx o ho=>?_⟩
  ·rw[b2]at he;cases he
  ·have kx:=hx;rw[b2]at kx;simp only[ap9,List.mem_nil_iff,or_false]at kx;rcases kx with rfl|rfl
   ·exact step l _ o a w ho hx hI (λa w hI' hw=>OT.any hs l _ a w b3 hI' hw) hh.1
   ·rw[b5];exact step r _ o a w ho hx hI (λa w hI' hw=>OT.any hs r _ a w b4 hI' hw) hh.2
theorem Rg{id:Nat}{Q:Exit→Act→aly→Prop}{a:Act}{w:aly}{l:List Oper}(D:Nat→Prop)(fx:Nat→Bool)(t:OT)(hm:P.follows .mixedOrders=true)(hB:(atT l.toArray&&t.ok l.toArray fx (aps l.toArray.size false)&&(t.len==l.toArray.size))=true)
  (h: ∀ (S:Type) (g:S→aly),Nonempty S→(∀x b o,b<w.heap.size→¬D b→(g x).cell? ⟨b,o,none⟩=w.cell? ⟨b,o,none⟩)→(∀x b,b<w.heap.size→¬D b→(g x).heap[b]? =w.heap[b]?)→(∀w',af D w w'→∃x,w'=g x)→
   t.wp P l.toArray (λw'=>∃x,w'=g x) fx (λa' w'=>Q .normal a' w') a w.drew):(Code.region id l.toArray true).wp P Q a w:=by
 have h0:af D w w.drew:=(af.refl _ _).drew;have h1:=h {w'//af D w w'} (λx=>x.1) ⟨⟨_,h0⟩⟩ (λx b o hb hd=>World.cell?_of_block (a:=⟨b,o,none⟩) (x.2.block b hb hd)) (λx b hb hd=>x.2.block b hb hd) (λw' hw=>⟨⟨w',hw⟩,rfl⟩);simp only[anh,beq_iff_eq]at hB;obtain⟨⟨hs,b1⟩,b2⟩:=hB;have qj:Shut .any l.toArray (aps l.toArray.size false):=λi o _ h=>by simp only[Array.getD_eq_getD_getElem?,Array.getElem?_replicate]at h;split at h<;>cases h
 have hC: ∃x:{w'//af D w w'},w.drew=x.1:=⟨⟨_,h0⟩,rfl⟩;refine wp_region_any hm (gu (C:=λw'=>∃x:{w'//af D w w'},w'=x.1) (fx:=fx) (Q:=λa' w'=>Q .normal a' w') (λ_ _ h=>h) _ _ _ _ ⟨qj,.inl hC⟩ ?_);generalize aps l.toArray.size false=L0 at b1 qj⊢;rw[←b2];exact OT.any hs t _ a _ b1 ⟨qj,.inl hC⟩ h1
end Go.Upr
end
section
namespace Go.Proofs.YtkdljbnllgpfhaaGreat
open Go Go.RowKit Go.Upr
structure acn(D:Bool→ByteArray→Seen)(r:bQ)(ts:List aS):Prop where
 len:ts.length≤1048576
 cost: ¬(bJ r).cost/max 1 ts.length<(kB r).cost/kS (bU r.head.ts)
 c1:(bJ r).cost≤1099511627776
 c2:(kB r).cost≤1099511627776
 inj:uK D (kB r)
 keys:BH D (kB r) ts λ_=>False
theorem ajt{K:Hp}{w:aly}{lb sb:Nat}{rs:List bQ}{ra:Option alA}{rc:Nat}(hL:fB w K lb sb rs ra rc)(uB: ∀r∈rs,gW r)(hn:rs.length≤1048576){bs:dB}{F:aN}(hS:aq w sb bs F)
  {tb:Nat} {bt:dB} {Ft:aN} (hT:aq w tb bt Ft) (hp: ∀r∈rs,iF bt Ft r.head.n≠ []→acn (dV bs F) r (iF bt Ft r.head.n)):
  asP Tryz.prog 328 #[.pointer (some ⟨lb,0,none⟩),.map (some tb)] w λe w'=>∃nb F',e= .returned (.map (some nb))∧w.heap.size≤nb∧af (λ_=>False) w w'∧aq w' nb [] F':=by
 have tV:= @auj Tryz.prog;obtain⟨q1,q2,hv2,hat⟩:=hL.rules.at hL.known;obtain⟨rfl,rfl⟩:ra=q1∧rc=q2:=by simpa using hv2
 clear hv2;obtain⟨l0,l1,-,-⟩:=b9 hL.block;have jy:=atm hL.block;obtain⟨W,hW⟩: ∃W,W=w.alloc (.map #[] 0):=⟨_,rfl⟩;have qL:af (λ_=>False) w W:=by rw[hW];exact(af.refl _ _).alloc _
 have hF0:aq W w.heap.size [] bR:=by rw[hW];exact⟨av.made,by simp,by simp,by simp⟩
 have hWz:w.heap.size<W.heap.size:=by rw[hW];simp
 have hlW:=qL.cell l0 id;have ahY:=qL.cell l1 id;obtain⟨fb,R1⟩: ∃x,x=w.heap.size:=⟨_,rfl⟩;rw[←R1]at hF0;go_enter Tryz.func328,Tryz.ntmps328;go_wp2_with (rw[←hW,←R1];clear hW);have hfz:w.heap.size≤fb:=by omega
 have hfW:fb<W.heap.size:=by omega
 clear R1
 go_loopw [16] (λi wr=>∃ (k:Nat) (F':aN),k≤rs.length∧i= .int .i64 k∧af (·=fb) W wr∧aq wr fb [] F') (λi _=>rs.length-(intOf i).toNat)
 case atStart=>exact⟨0,bR,arQ _,rfl,af.refl _ _,hF0⟩
 case round=>
  clear hF0 hlW ahY;obtain⟨k,F1,hk,rfl,nd,hF1⟩:=hrel;have je:af (λ_=>False) w wr:=qL.bL nd λb hb=> .inl aj;have Sb:=hL.still je;obtain⟨l0,l1,-,-⟩:=b9 Sb.block;have jy:=atm Sb.block;by_cases hlt:k<rs.length
  ·obtain⟨r,hr⟩: ∃y,rs[k]? =some y:=⟨_,arn hlt⟩;obtain⟨g,o,cc,rfl,bW,hR,ag⟩:=hat k r hr;have zu:=ann hr;have ro:=uB r zu;have Nt:=hp r zu;obtain⟨ha,hc,ba,bc,rfl,R_,DV,SB⟩:=hR;have c0:=je.cell (ag 0 aI) id;have c1:=je.cell (ag 1 aI) id;have c2:=je.cell (ag 2 aI) id;simp only[at6,←at7]at c0 c1 c2;clear hr ag bW;obtain⟨wa,gY⟩: ∃x,x=wr.alloc (.cells #[.string r.head.n,.slice ha r.head.ts.length hc,.slice ba r.body.length bc] 318):=⟨_,rfl⟩;have tA:af (λ_=>False) wr wa:=by rw[gY];exact(af.refl _ _).alloc _
   have o9:wa.heap[wr.heap.size]? =some (.cells #[.string r.head.n,.slice ha r.head.ts.length hc,.slice ba r.body.length bc] 318):=by rw[gY];exact atp _ _
   obtain⟨a0,a1,a2,-⟩:=bI o9;have qK:=atm o9;have k3:=λw'=>Tv (n:=r.head.n) (a1:=ha) (a2:=ba) (l1:=r.head.ts.length) (l2:=r.body.length) (k1:=hc) (k2:=bc) w';have hTt:=hT.still je (λ_ _=>id);obtain⟨lo,xW⟩: ∃x,x=au bt r.head.n:=⟨_,rfl⟩;have WL:(au bt r.head.n).elim (.map none) ji= .map lo:=by rw[xW];cases au bt r.head.n<;>rfl
   have hlk:Hp.map (λb=>wr.heap[b]?) fq br aY (.map lo) (aU (iF bt Ft r.head.n)):=by
    have h1:=(show qa wr (some tb) bt Ft from .inr ⟨tb,rfl,hTt⟩).look r.head.n;rw[←xW]at h1;exact h1
   clear xW;have hno:=ro.Iz;have pZ:(aU (iF bt Ft r.head.n)).length=(iF bt Ft r.head.n).length:=by simp[aU]
   generalize iF bt Ft r.head.n=gl at hlk Nt pZ;by_cases hg0:gl= []
   ·subst hg0;go_wp2_with (first|(rw[←gY];clear gY)|(go_at_call 323;refine(k3 _).mono ?_;clear k3;rintro e w2 ⟨rfl,aF⟩)|(at_lookup;refine bu cI Tryz.underlying99 gy rfl (.tmp 20) (.tmp 22) rfl rfl (aD _) ((hTt.still tA λ_ _=>id).still aF λ_ _=>id).top.hp rfl hno WL ?_)|(at_len;refine nS Tryz.underlying123 rfl (.tmp 24) rfl rfl (Hp.bY (Hp.bY hlk tA) aF) ?_;rw[pZ]));go_roundw
    case rel=>exact⟨k+1,F1,by omega,by go_num,(nd.bL tA λ_ h=>h.elim).bL aF (λ_ h=>h.elim),(hF1.still tA λ_ _=>id).still aF λ_ _=>id⟩
    case measure=>simp[intOf];omega
   ·have S8:0<gl.length:=by
     cases gl with
     |nil=>exact absurd rfl hg0
     |cons _ _=>simp
    have pr:=Nt hg0;clear Nt;have k4:=λ(w':aly) (ht:af (λ_=>False) wr w')=>ajo (hL.known.turn (je.trans ht) λ_ _ _=>id) R_ DV ro (hS.still (je.trans ht) λ_ _=>id) (Hp.bY hlk ht) pr.len pr.cost pr.c1 pr.c2 pr.inj pr.keys;clear pr;go_wp2_with (first|(rw[←gY];clear gY)|(go_at_call 323;refine(k3 _).mono ?_;rintro e w2 ⟨rfl,aF⟩)|(at_lookup;refine bu cI Tryz.underlying99 gy rfl (.tmp 20) (.tmp 22) rfl rfl (aD _) ((hTt.still tA λ_ _=>id).still aF λ_ _=>id).top.hp rfl hno WL ?_)|(at_len;refine nS Tryz.underlying123 rfl (.tmp 24) rfl rfl (Hp.bY (Hp.bY hlk tA) aF) ?_;rw[pZ]));obtain⟨rz,Xk⟩: ∃x,x=wr.heap.size:=⟨_,rfl⟩;have lC:=aF.kept o9 id;rw[←Xk]at lC⊢;clear Xk;have tB:=tA.trans aF;have hz2:=tB.size;obtain⟨a0,a1,a2,-⟩:=bI lC;have qK:=atm lC;obtain⟨l0,l1,-,-⟩:=b9 (tB.kept Sb.block id);have jy:=atm (tB.kept Sb.block id);have hF2:=hF1.still tB λ_ _=>id;have jg:fb<w2.heap.size:=hF2.top.lt;have abN:af (·=fb) W w2:=nd.bL tB λ_ h=>h.elim;have k4:=λ(w':aly) (ht:af (λ_=>False) w2 w')=>k4 w' (tB.trans ht);have key: ∀ (w5:aly) (mb eb:Nat),af (λ_=>False) w2 w5→w2.heap.size≤mb→w2.heap.size≤eb→mb≠eb→av w5 fq br aY eb []→∀w6,af (·=mb) w5 w6→av w6 bZ at5 ji mb (dO [] r.head.n eb)→af (λ_=>False) w2 w6∧asP Tryz.prog 329 #[.map (some fb),.map (some mb)] w6 λe w'=>∃F',e= .returned (.tuple #[])∧af (·=fb) w6 w'∧aq w' fb [] F':=λw5 mb eb h5 hm he hne hE w6 bH hM=>by
     have h6:=h5.bL bH λb (hb:b=mb)=> .inl aj;have hO:aq w6 mb [(r.head.n,eb)] bR:=⟨hM,λp hp=>by obtain rfl:=atQ.1 hp;exact hE.turn bH (λh=>hne h.symm),by simp,λp hp=>by obtain rfl:=atQ.1 hp;exact λh=>hne h.symm⟩;refine⟨h6,(Tu (hF2.still h6 λ_ _=>id) hO λb hb h=>?_).mono ?_⟩
     ·have hb1:b=fb:=eF h;rcases hb with hb|⟨p,hp,hb⟩
      ·omega
      ·obtain rfl:=atQ.1 hp;dsimp only at hb;omega
     ·rintro e w7 ⟨Fp,F',rfl,h7,h8,h9⟩;obtain⟨l,hl,h10⟩:=h9.pre;cases l with
      |nil=>
       obtain rfl:Fp= []:=hl;exact⟨F',rfl,h7.mono λb _ hb=>eF hb,h8⟩
      |cons p l=>
       obtain⟨_,t,_,ht⟩:=h10 p (ao3 ..);exact nomatch ht
    clear hTt hlk pZ hg0 S8 tA aF tB o9 Sb hF1 R_ DV c0 c1 c2;refine Rg (λ_=>False) (λi=>i==1||i==3||i==11||i==12||i==14) (.fork [0,2,4,5,6,7,8,9,10] 1 (.leaf [3,11,12,13,14]) 3 (.fork [] 1 (.leaf [11,12,13,14]) 11 (.leaf [1,12,13,14]))) ar ar ?_;intro S gg fN gc gh gb;have hD:af (λ_=>False) w2 w2.drew:=(af.refl _ _).drew;change cH _ _ _ _ _ _ _ _;iterate 9 (refine fp pK ar aC aC λK hK=>?_;go_big_quiet_op;refine hK _ ?_;clear hK K)
    refine dw ⟨?_,?_⟩
    ·skip
     refine aV pK ar aC λQ' hQ=>?_;go_wp2;have SM:av ((w2.alloc (.map #[] 0)).drew) bZ at5 ji w2.heap.size ([]:List (ByteArray×Nat)):=av.made (w:=w2.drew);have t3:af (λ_=>False) w2.drew ((w2.alloc (.map #[] 0)).drew):=(af.refl _ w2.drew).alloc _;obtain⟨w3,hw3⟩: ∃x,x=(w2.alloc (.map #[] 0)).drew:=⟨_,rfl⟩;obtain⟨mb,oZ⟩: ∃x,x=w2.heap.size:=⟨_,rfl⟩;have hmz:w2.heap.size≤mb:=by rw[oZ];exact hD.size
     rw[←hw3,←oZ]at SM;rw[←hw3]at t3;rw[←hw3,←oZ];have h3:=hD.trans t3;have E3:=SM.lt;have hmf:w2.drew.heap.size≤mb:=by rw[oZ];exact agl _
     clear hw3 oZ;have z3:=t3.size;have y3:=h3.size;refine hQ _ _ ar (λ_=>gb _ h3) ?_;clear hQ Q';refine dw ?_;refine aV pK ar aC λQ' hQ=>?_;go_wp2_with (go_at_call 323;refine(k3 _).mono ?_;clear k3;rintro e w4 ⟨rfl,ck⟩);have t4:af (λ_=>False) w3 w4:=ck;have h4:=h3.trans ck;have z4:=t4.size;have y4:=h4.size;refine hQ _ _ ar (λ_=>gb _ h4) ?_;clear hQ Q';refine aV pK ar aC λQ' hQ=>?_;go_wp2_with (go_at_call 340;refine(k4 _ h4).mono ?_;clear k4;rintro e w5 ⟨eb,rfl,heb,bA,G9⟩);have h5:=h4.trans bA;have t5:af (λ_=>False) w4 w5:=bA;have NB:=G9.lt;have z5:=t5.size;have y5:=h5.size;refine hQ _ _ ar (λ_=>gb _ h5) ?_;clear hQ Q';refine aV pK ar aC λQ' hQ=>?_;go_wp2_with (refine lg cI Tryz.underlying99 rfl (.tmp 28) (.tmp 30) (.tmp 38) rfl rfl ((SM.turn t4 id).turn t5 id) rfl hno eb rfl ?_;intro w6 bH Sa);obtain⟨h7,k9⟩:=key w5 mb eb h5 hmz aj aj G9 w6 bH Sa;refine hQ _ _ ar (λ_=>gb _ h7) ?_;clear hQ Q';refine fp pK ar aC aC λK hK=>?_;go_big_quiet_op;refine hK _ ?_;clear hK K;refine aV pK ar aC λQ' hQ=>?_;go_wp2_with (go_at_call 329;refine k9.mono ?_;clear k9;rintro e w8 ⟨F8,rfl,jJ,PF⟩);refine hQ _ _ ar (aX ar) ?_;refine dw ?_;clear hQ Q' gc gh gb fN gg S;go_wp2;go_roundw
     case rel=>exact⟨k+1,F8,by omega,by go_num,(abN.bL h7 λ_ h=>h.elim).trans jJ,PF⟩
     case measure=>simp[intOf];omega
    ·skip
     refine aV pK ar aC λQ' hQ=>?_;go_wp2_with (go_at_call 323;refine(k3 _).mono ?_;clear k3;rintro e w3 ⟨rfl,bX⟩);have t3:af (λ_=>False) w2.drew w3:=bX;have h3:=hD.trans bX;have z3:=t3.size;have y3:=h3.size;refine hQ _ _ ar (λ_=>gb _ h3) ?_;clear hQ Q';refine dw ?_;refine dw ⟨?_,?_⟩
     ·skip
      refine aV pK ar aC λQ' hQ=>?_;go_wp2;have hE4:av (w3.alloc (.map #[] 0)) bZ at5 ji w3.heap.size ([]:List (ByteArray×Nat)):=av.made (w:=w3);have t4:af (λ_=>False) w3 (w3.alloc (.map #[] 0)):=(af.refl _ w3).alloc _;obtain⟨w4,hw4⟩: ∃x,x=w3.alloc (.map #[] 0):=⟨_,rfl⟩;obtain⟨mb,oZ⟩: ∃x,x=w3.heap.size:=⟨_,rfl⟩;have hmz:w2.heap.size≤mb:=by rw[oZ];exact h3.size
      rw[←hw4,←oZ]at hE4;rw[←hw4]at t4;rw[←hw4,←oZ];have h4:=h3.trans t4;have E3:=hE4.lt;have hmf:w3.heap.size≤mb:=by rw[oZ];exact agl _
      clear hw4 oZ;have z4:=t4.size;have y4:=h4.size;refine hQ _ _ ar (λ_=>gb _ h4) ?_;clear hQ Q';refine dw ?_;refine aV pK ar aC λQ' hQ=>?_;go_wp2_with (go_at_call 340;refine(k4 _ h4).mono ?_;clear k4;rintro e w5 ⟨eb,rfl,heb,bA,G9⟩);have h5:=h4.trans bA;have t5:af (λ_=>False) w4 w5:=bA;have NB:=G9.lt;have z5:=t5.size;have y5:=h5.size;refine hQ _ _ ar (λ_=>gb _ h5) ?_;clear hQ Q';refine aV pK ar aC λQ' hQ=>?_;go_wp2_with (refine lg cI Tryz.underlying99 rfl (.tmp 28) (.tmp 30) (.tmp 38) rfl rfl (hE4.turn t5 id) rfl hno eb rfl ?_;intro w6 bH Sa);obtain⟨h7,k9⟩:=key w5 mb eb h5 hmz aj aj G9 w6 bH Sa;refine hQ _ _ ar (λ_=>gb _ h7) ?_;clear hQ Q';refine fp pK ar aC aC λK hK=>?_;go_big_quiet_op;refine hK _ ?_;clear hK K;refine aV pK ar aC λQ' hQ=>?_;go_wp2_with (go_at_call 329;refine k9.mono ?_;clear k9;rintro e w8 ⟨F8,rfl,jJ,PF⟩);refine hQ _ _ ar (aX ar) ?_;refine dw ?_;clear hQ Q' gc gh gb fN gg S;go_wp2;go_roundw
      case rel=>exact⟨k+1,F8,by omega,by go_num,(abN.bL h7 λ_ h=>h.elim).trans jJ,PF⟩
      case measure=>simp[intOf];omega
     ·skip
      refine aV pK ar aC λQ' hQ=>?_;go_wp2_with (go_at_call 340;refine(k4 _ h3).mono ?_;clear k4;rintro e w4 ⟨eb,rfl,heb,ck,hE4⟩);have h4:=h3.trans ck;have t4:af (λ_=>False) w3 w4:=ck;have NB:=hE4.lt;have z4:=t4.size;have y4:=h4.size;refine hQ _ _ ar (λ_=>gb _ h4) ?_;clear hQ Q';refine dw ?_;refine aV pK ar aC λQ' hQ=>?_;go_wp2;have G9:av (w4.alloc (.map #[] 0)) bZ at5 ji w4.heap.size ([]:List (ByteArray×Nat)):=av.made (w:=w4);have t5:af (λ_=>False) w4 (w4.alloc (.map #[] 0)):=(af.refl _ w4).alloc _;obtain⟨w5,Ki⟩: ∃x,x=w4.alloc (.map #[] 0):=⟨_,rfl⟩;obtain⟨mb,oZ⟩: ∃x,x=w4.heap.size:=⟨_,rfl⟩;have hmz:w2.heap.size≤mb:=by rw[oZ];exact h4.size
      rw[←Ki,←oZ]at G9;rw[←Ki]at t5;rw[←Ki,←oZ];have h5:=h4.trans t5;have E3:=G9.lt;have hmf:w4.heap.size≤mb:=by rw[oZ];exact agl _
      clear Ki oZ;have z5:=t5.size;have y5:=h5.size;refine hQ _ _ ar (λ_=>gb _ h5) ?_;clear hQ Q';refine aV pK ar aC λQ' hQ=>?_;go_wp2_with (refine lg cI Tryz.underlying99 rfl (.tmp 28) (.tmp 30) (.tmp 38) rfl rfl G9 rfl hno eb rfl ?_;intro w6 bH Sa);obtain⟨h7,k9⟩:=key w5 mb eb h5 hmz aj aj (hE4.turn t5 id) w6 bH Sa;refine hQ _ _ ar (λ_=>gb _ h7) ?_;clear hQ Q';refine fp pK ar aC aC λK hK=>?_;go_big_quiet_op;refine hK _ ?_;clear hK K;refine aV pK ar aC λQ' hQ=>?_;go_wp2_with (go_at_call 329;refine k9.mono ?_;clear k9;rintro e w8 ⟨F8,rfl,jJ,PF⟩);refine hQ _ _ ar (aX ar) ?_;refine dw ?_;clear hQ Q' gc gh gb fN gg S;go_wp2;go_roundw
      case rel=>exact⟨k+1,F8,by omega,by go_num,(abN.bL h7 λ_ h=>h.elim).trans jJ,PF⟩
      case measure=>simp[intOf];omega
  ·have iQ:k=rs.length:=by omega
   go_wp2;go_ret;exact⟨fb,F1,rfl,hfz,je,hF1⟩
end Go.Proofs.YtkdljbnllgpfhaaGreat
end
section
namespace Go.Proofs.YtkdljbnllgpfhaaGreat
open Go Go.RowKit Go.Upr
theorem cr.none{w:aly}{bs:dB}{F F':aN}{A:ByteArray→aS→Prop}(h:cr w [] bs F F' A)(hA: ∀n t,¬A n t):bs= []:=by
 obtain⟨l,hl,h1⟩:=h.pre;cases l with
 |nil=>exact hl
 |cons p l=>
  obtain⟨_,t,ht⟩:=h1 p (ao3 ..);exact absurd ht (hA _ _)
structure Pn(rs:List bQ)(sb:Nat)(bs:dB)(F:aN)(xs:List Cg)(J:Jn)(m:Nat)(P:Nat→aS→Prop)(bc bg:dB)(Fc Fg:aN)(cb gb:Nat)(Sg:bQ→Nat→aS→Prop)(RS:List (Option (List aS))→Prop):Prop where
 lost: ∀r∈rs,∀ (i:Nat) (y:iY),r.body[i]? =some y→fV bg Fg bc Fc y≠ []→uK (DJ ⟨some sb,some cb,some gb,bs,bc,bg⟩ F Fc Fg) (ic r.head y.a (fE r i))∧BH (DJ ⟨some sb,some cb,some gb,bs,bc,bg⟩ F Fc Fg) (ic r.head y.a (fE r i)) (fV bg Fg bc Fc y) (Sg r i)
 ahk:aaY J (DJ ⟨some sb,some cb,some gb,bs,bc,bg⟩ F Fc Fg) m P RS
 first: ∀n t,pz (fV bg Fg bc Fc) Sg [] bR rs n t↔n=J.head.n∧P 0 t
 won: ∀r∈rs,∀ (i:Nat) (y:iY),r.body[i]? =some y→fV bc Fc bg Fg y= []
theorem ajx{K:Hp}{w:aly}{lb sb:Nat}{rs:List bQ}{ra:Option alA}{rc:Nat}(hL:fB w K lb sb rs ra rc)(uB: ∀r∈rs,gW r)(hn:rs.length≤1048576){bs:dB}{F:aN}(hS:aq w sb bs F)(hKs: ∀b,dt sb bs b→K b=none)
  {h:Hp} (hh:h.In w) {ad:Option alA} {l c:Nat} {xs:List Cg} (hcs:h.list 5 dH (.slice ad l c) xs) (KA:xs.length≤1099511627776) (hxk: ∀x∈xs,bZ x.n∧fq x.t)
  {J:Jn} (hJ:kr (eK rs) rs= [J]) (hne:J.steps≠ []) (ok:Dl J) (zZ:bZ J.head.n) (vy:J.first.n=J.head.n) (FB:(au bs J.head.n).isSome=true) {m:Nat} {P:Nat→aS→Prop}
  (go: ∀cb gb bc bg Fc Fg,cr w [] bc bR Fc (lG xs false)→cr w [] bg bR Fg (lG xs true)→(∀p∈bc,(Fc p.1).Nodup)→(∀p∈bg,(Fg p.1).Nodup)→∃Sg RS,Pn rs sb bs F xs J m P bc bg Fc Fg cb gb Sg RS)
  (hst: ∀F' bl G,(∀n t,eI bs F' n t↔eI bs F n t∧¬jR P J.head.n m n t)→(∀n t,eI bl G n t↔jR P J.head.n m n t)→(∀p∈bs,(F' p.1).Nodup)→(∀p∈bl,(G p.1).Nodup)→∀r∈rs,iF bl G r.head.n≠ []→acn (dV bs F') r (iF bl G r.head.n))
  {L:List aS} (hPL: ∀j<m,∀t,P j t→t∈L) (hLl:L.length≤1048576):
  asP Tryz.prog 324 #[.pointer (some ⟨lb,0,none⟩),.slice ad l c] w λe w'=>∃v ys F',e= .returned v∧af (dt sb bs) w w'∧aq w' sb bs F'∧(∀n t,eI bs F' n t↔eI bs F n t∧¬jR P J.head.n m n t)∧aw w' w.heap.size 156 5 dH ko v ys∧ys.length≤2147483648∧ir (λx=>x.gone=true∧jR P J.head.n m x.n x.t) ys:=by
 have nod: ∀ (w:aly) (sb:Nat) (bs:dB) (F:aN),aq w sb bs F→∀p∈bs,(F p.1).Nodup:=λw sb bs F h p hp=>by
  have h2:=av.once (h.dy p hp);have h3:(aU (F p.1)).map aug=F p.1:=by simp[aU,awz]
  rwa [h3]at h2
 have k1:=c81 hh hcs KA hxk;go_enter Tryz.func324,Tryz.ntmps324;go_wp2_with (go_at_call 81;refine k1.mono ?_;clear k1;rintro e w1 ⟨cb,gb,bc,bg,Fc,Fg,rfl,jh,hC1,uR,Ko,Dd,hGc,hGg⟩);obtain⟨Sg,RS,hgo⟩:=go cb gb bc bg Fc Fg hGc hGg (nod _ _ _ _ hC1) (nod _ _ _ _ uR);clear go;obtain⟨B,hB⟩: ∃B,B=w1.heap.size:=⟨_,rfl⟩;obtain⟨W,hW⟩: ∃W,W=w1.alloc (.cells #[.map (some cb),.map (some gb)] 158):=⟨_,rfl⟩;have t1W:af (λ_=>False) w1 W:=by rw[hW];exact(af.refl _ _).alloc _
 have hBW:W.heap[B]? =some (.cells #[.map (some cb),.map (some gb)] 158):=by rw[hW,hB];exact atp _ _
 have tW:=jh.trans t1W;rw[←hW,←hB];have hBz:w.heap.size≤B:=by have:=jh.size;omega
 clear hW hB;obtain⟨s0,s1,-,-⟩:=b9 hBW;have hBl:=atm hBW;have hCW:=hC1.still t1W λ_ _=>id;have hGW:=uR.still t1W λ_ _=>id;have hSW:=hS.still tW λ_ _=>id;have k2:=aju (hL.still tW) uB hn hSW (p0:=some cb) (p1:=some gb) (.inr ⟨cb,rfl,hCW⟩) (.inr ⟨gb,rfl,hGW⟩) hgo.lost hJ hne ok zZ vy FB hgo.ahk hgo.first;go_wp2_with (go_at_call 327;refine k2.mono ?_;clear k2;rintro e w2 ⟨tb,bt,G,F2,rfl,aF,nX,hF2,dK,hTl,C4,hTf⟩);have d2: ∀b o,K b=some o→¬dt sb bs b:=λb o hb h=>by rw[hKs b h]at hb;cases hb
 have hL2:fB w2 K lb sb rs ra rc:=(hL.still tW).turn aF (λh=>hSW.cd h (hL.still tW).block rfl) d2;have k3:=ajt hL2 uB hn nX dK (hst F2 bt G hF2 C4 (nod _ _ _ _ nX) (nod _ _ _ _ dK));go_wp2_with (go_at_call 328;refine k3.mono ?_;clear k3;rintro e w3 ⟨fb,Ff,rfl,R1,bX,hF3⟩);have nsB: ∀b,dt sb bs b→¬B=b:=λb hb=>hSW.cd hb hBW|>λh e=>h e.symm;have t23:af (dt sb bs) W w3:=aF.bL bX λ_ h=>h.elim;have Bn:=t23.kept hBW λh=>nsB B h rfl;obtain⟨s0,s1,-,-⟩:=b9 Bn;have hBl:=atm Bn;have hL3:=hL2.still bX;obtain⟨l0,l1,-,-⟩:=b9 hL3.block;have jy:=atm hL3.block;have Bh:=nX.still bX λ_ _=>id;have low: ∀b,dt sb bs b→b<w.heap.size:=λb hb=>hS.low hb;have hC3:=hCW.still t23 λb hb h=>by have:=low b h;have:=(Ko b hb).1;omega
 have hG3:=hGW.still t23 λb hb h=>by have:=low b h;have:=Dd b hb;omega
 have k4:=λw'=>Tt (some sb) w';have k5:=λ(w':aly) (ht:af (λ_=>False) w3 w')=>aeK (hL3.still ht) uB hn (p0:=some cb) (p1:=some gb) (.inr ⟨cb,rfl,hC3.still ht λ_ _=>id⟩) (.inr ⟨gb,rfl,hG3.still ht λ_ _=>id⟩) (sc:=fX (some sb) bs) (F0:=F2) (F1:=λ_=> []) (F2:=λ_=> []) ⟨.inr ⟨sb,rfl,Bh.still ht λ_ _=>id⟩,.inl ⟨rfl,rfl⟩,.inl ⟨rfl,rfl⟩⟩ (Bh.still ht λ_ _=>id) (Sg:=Sg) (λr hr i y hy h=>absurd (hgo.won r hr i y hy) h);dsimp only[fX]at k5;have hno: ∀bk Fk n t,¬pz (fV bc Fc bg Fg) Sg bk Fk rs n t:=λbk Fk n t ⟨r,hr,i,y,hy,h,_⟩=>h (hgo.won r hr i y hy);clear hgo Bn;have hW2:=aF.size;have XA:=atm hL2.block;have nB: ¬B=fb:=by have:=atm (aF.kept (show W.heap[B]? =_ from hBW) λh=>nsB B h rfl);omega
 have nl: ¬lb=fb:=by omega
 clear hBW;refine fM (·=fb) (λi=>i==8||i==14||i==15) ar ar ?_;intro S' gg fN gc gh gb';iterate 8 (refine ak ar aC aC λK hK=>?_;go_big_quiet_op;refine hK _ ?_;clear hK K)
 refine ai ar aC λQ' hQ=>?_;go_wp2_with (go_at_call 331;refine(k4 _).mono ?_;clear k4;rintro e w4 ⟨rfl,ck⟩);have h4:af (λ_=>False) w3 w4:=(af.refl _ _).drew.trans ck;refine hQ _ _ ar (λ_=>gb' _ h4.wider) ?_;clear hQ Q';iterate 5 (refine ak ar aC aC λK hK=>?_;go_big_quiet_op;refine hK _ ?_;clear hK K)
 refine ai ar aC λQ' hQ=>?_;go_wp2_with (go_at_call 330;refine(k5 _ h4).mono ?_;clear k5;rintro e w5 ⟨nb,bn,Fn,rfl,bA,Xz,Db,Fj⟩);have h5:=h4.trans bA;refine hQ _ _ ar (λ_=>gb' _ h5.wider) ?_;clear hQ Q';obtain rfl:=Fj.none (hno _ _);have hF5:=hF3.still h5 λ_ _=>id;have wx:=h4.size;have k6:=Tu hF5 Xz λb hb h=>by rw[eF h]at hb;have:=Db _ hb;have:=hF3.top.lt;omega
 refine ai ar aC λQ' hQ=>?_;go_wp2_with (go_at_call 329;refine k6.mono ?_;clear k6;rintro e w6 ⟨bf,Ff6,rfl,bH,hF6,hG6⟩);have t36:af (·=fb) w3 w6:=h5.wider.trans (bH.mono λb _ hb=>eF hb);refine hQ _ _ ar (λ_=>gb' _ t36) ?_;clear hQ Q';refine aQ ?_;clear gc gh gb' fN gg S';obtain rfl:=hG6.none λn t h=>nomatch h.1;have hz2:=tW.size;have t26:af (λ_=>False) w2 w6:=(bX.bL t36 λb (hb:b=fb)=> .inl aj);have k7:=aaR (hL2.still t26) uB hn (nX.still t26 λ_ _=>id) hF6;go_wp2_with (first|(go_at_call 84;refine k8.mono ?_;clear k8;rintro e w8 ⟨v,ys,rfl,jJ,Ny,Sy,hA8⟩)|(go_at_call 332;refine k7.mono ?_;clear k7;rintro e w7 ⟨gb7,rfl,eC,hg7,Xw⟩;have C5:=(dK.still t26 λ_ _=>id).still eC λ_ _=>id;have RU:=C5.short (L:=L) (n:=J.head.n) (λm t h=>by obtain⟨h1,j,h2,h3⟩:=(C4 m t).1 h;exact⟨h1,hPL j h2 t h3⟩) hTf;have k8:=c84 (w:=w7) (cm:=some gb7) (gm:=some tb) (.inr ⟨gb7,rfl,Xw⟩) (.inr ⟨tb,rfl,C5⟩) bz aj (λ_ h=>nomatch h) (λp hp=>by have:=RU.2 p hp;omega)));go_ret;have t28:af (λ_=>False) w2 w8:=(t26.trans eC).trans jJ;have C_:=(t26.trans eC).size
 exact⟨v,ys,F2,rfl,(tW.wider.trans aF).bL t28 (λ_ h=>h.elim),nX.still t28 (λ_ _=>id),hF2,Ny.toaw.lower aj,Sy,hA8.congr λx=>by
  unfold mW;rw[C4]
  simp[eI,au]⟩
end Go.Proofs.YtkdljbnllgpfhaaGreat
end
section
namespace Go.Proofs.YtkdljbnllgpfhaaGreat
open Go Go.RowKit Go.Upr
theorem ir.nil{A:Cg→Prop}{xs:List Cg}(h:ir A xs)(hA: ∀x,¬A x):xs= []:=by
 cases xs with
 |nil=>rfl
 |cons x l=>exact absurd ((h.1 x).1 (ao3 ..)) (hA x)
theorem ag7{K:Hp}{w:aly}{lb sb:Nat}{rs:List bQ}{ra:Option alA}{rc:Nat}(hL:fB w K lb sb rs ra rc)(uB: ∀r∈rs,gW r)(hn:rs.length≤1048576){bs:dB}{F:aN}(hS:aq w sb bs F)
  (hpl: ∀r∈rs,dc (eK rs) r.body r.body.length≠ []):
  asP Tryz.prog 325 #[.pointer (some ⟨lb,0,none⟩)] w λe w'=>∃v,e= .returned v∧af (λ_=>False) w w'∧aw w' w.heap.size 156 5 dH ko v []:=by
 have k1:=aeJ hL uB hn hS (λ_ _=>False) (λr hr h=>absurd h (hpl r hr)) (λr hr h=>absurd h (hpl r hr));have hno: ∀n t,¬Bx rs (eK rs) (λ_ _=>False) bs F n t:=λn t ⟨r,hr,h,_⟩=>hpl r hr h;go_enter Tryz.func325,Tryz.ntmps325;go_wp2_with (first|(go_at_call 333;refine k1.mono ?_;clear k1;rintro e w2 ⟨nb,bn,Fn,rfl,aF,SI,fD,hG⟩;obtain rfl:=hG.none hno;have k2:=aaR (hL.still aF) uB hn (hS.still aF λ_ _=>id) SI)|(go_at_call 332;refine k2.mono ?_;clear k2;rintro e w3 ⟨lb3,rfl,bX,hz3,Bn⟩;have k4:=c84 (w:=w3) (cm:=some lb3) (gm:=none) (.inr ⟨lb3,rfl,Bn⟩) (.inl ⟨rfl,rfl⟩) (Fg:=bR) bz bz (λ_ h=>nomatch h) (λ_ h=>nomatch h))|(go_at_call 84;refine k4.mono ?_;clear k4;rintro e w4 ⟨v,xs,rfl,ck,lB,hl4,xS⟩));go_ret;have dK:=aF.trans bX;have hz:=dK.size;obtain rfl:=xS.nil λx h=>by rcases h with⟨_,h,_⟩|⟨_,h,_⟩<;>exact nomatch h.1
 exact⟨v,rfl,dK.trans ck,lB.toaw.lower hz⟩
theorem ag3{w:aly}{m:aad}{hb:Nat}(hH:av w fq br cU hb []):
  asP Tryz.prog 389 #[m,.map (some hb)] w λe w'=>e= .returned (.tuple #[])∧af (λ_=>False) w w':=by
 go_enter Tryz.func389,Tryz.ntmps389;go_wp2_with (at_range;refine fZ Tryz.underlying324 rfl (.tmp 6) rfl rfl hH ?_;intro w1 jh hz1 uP);go_frame
 go_loopg [] 0 (λgk wr=>gk=0∧wr=w1)
 case atStart=>exact⟨rfl,rfl⟩
 case round=>
  obtain⟨rfl,rfl⟩:=hrel;go_wp2_with (at_next;refine iy gL rfl (.tmp 7) rfl rfl uP (by have:=hH.lt;omega) ?_ ?_)
  ·go_wp2;go_end0;exact⟨rfl,jh⟩
structure pC(w:aly)(K:Hp)(lb sb mb:Nat)(rs:List bQ)(ra:Option alA)(rc:Nat):Prop where
 known:K.In w
 block:w.heap[lb]? =some (.cells #[.slice ra rs.length rc,.map (some sb),.map (some mb)] 326)
 rules:K.list 3 uJ (.slice ra rs.length rc) rs
theorem pC.turn{w w':aly}{K:Hp}{lb sb mb:Nat}{rs:List bQ}{ra:Option alA}{rc:Nat}{D:Nat→Prop}(h:pC w K lb sb mb rs ra rc)(ht:af D w w')(h1: ¬D lb)(h2: ∀b o,K b=some o→¬D b):pC w' K lb sb mb rs ra rc:=
 ⟨h.known.turn ht h2,ht.kept h.block h1,h.rules⟩
theorem pC.still{w w':aly}{K:Hp}{lb sb mb:Nat}{rs:List bQ}{ra:Option alA}{rc:Nat}(h:pC w K lb sb mb rs ra rc)(ht:af (λ_=>False) w w'):pC w' K lb sb mb rs ra rc:=h.turn ht id λ_ _ _=>id
theorem ag2{K:Hp}{w:aly}{lb sb mb:Nat}{rs:List bQ}{ra:Option alA}{rc:Nat}(hL:pC w K lb sb mb rs ra rc){bs:dB}{F:aN}(hS:aq w sb bs F){hb:Nat}(hH:av w fq br cU hb []):
  asP Tryz.prog 392 #[.pointer (some ⟨lb,0,none⟩),.map (some hb)] w λe w'=>e= .returned (.slice none 0 0)∧af (λb=>∃p∈bs,p.2=b) w w'∧aq w' sb bs F:=by
 obtain⟨W,hW⟩: ∃W,W=w.alloc (.cells #[.int .u64 0,.int .u64 0] 112):=⟨_,rfl⟩;have qL:af (λ_=>False) w W:=by rw[hW];exact(af.refl _ _).alloc _
 have hHW:=hH.turn qL id;go_enter Tryz.func392,Tryz.ntmps392;go_wp2_with (at_range;rw[←hW];clear hW;refine fZ Tryz.underlying519 rfl (.tmp 12) rfl rfl hHW ?_;intro w1 jh hz1 uP);have je:=qL.trans jh;have o7:=(hL.still je).block;obtain⟨l0,l1,l2,-⟩:=bI o7;have jy:=atm o7;have k1:=λw' (ht:af (λ_=>False) w w')=>c44 (mR w') (hS.still ht λ_ _=>id) (λ_ _=>rfl) (Hp.Cl ko 5 dH) (arQ _) (λ_ h=>nomatch h);go_frame
 go_loopg [5] 0 (λgk v wr=>gk=0∧v= .slice none 0 0∧wr=w1)
 case atStart=>exact⟨rfl,rfl,rfl⟩
 case round=>
  obtain⟨rfl,rfl,rfl⟩:=hrel;go_wp2_with (at_next;refine iy gL rfl (.tmp 13) rfl rfl uP (by have:=hHW.lt;omega) ?_ ?_)
  ·go_wp2_with (go_at_call 44;refine(k1 _ je).mono ?_;rintro e w2 ⟨rfl,aF,nX⟩);go_ret;exact⟨rfl,je.wider.trans aF,nX⟩
structure Bz(D:Bool→ByteArray→Seen)(r:bQ):Prop where
 none: ∀xs bB,bC [(0,0,0)] xs→gV D (bJ r) xs ((bJ r).steps.map λ_=>none) bB→km D (cD D (bJ r) xs) ((bJ r).steps.zip bB)= []
 inj:uK D (bJ r)
theorem ag4{K:Hp}{w:aly}{lb sb mb:Nat}{rs:List bQ}{ra:Option alA}{rc:Nat}(hL:pC w K lb sb mb rs ra rc)(uB: ∀r∈rs,gW r)(hn:rs.length≤1048576){bs:dB}{F:aN}(hS:aq w sb bs F)(hno: ∀r∈rs,Bz (dV bs F) r):
  asP Tryz.prog 386 #[.pointer (some ⟨lb,0,none⟩)] w λe w'=>e= .returned (.slice none 0 0)∧af (λb=>∃p∈bs,p.2=b) w w'∧aq w' sb bs F:=by
 have tV:= @auj Tryz.prog;obtain⟨q1,q2,hv2,hat⟩:=hL.rules.at hL.known;obtain⟨rfl,rfl⟩:ra=q1∧rc=q2:=by simpa using hv2
 clear hv2;obtain⟨W,hW⟩: ∃W,W=w.alloc (.map #[] 0):=⟨_,rfl⟩;obtain⟨B,hB⟩: ∃x,x=w.heap.size:=⟨_,rfl⟩;have qL:af (λ_=>False) w W:=by rw[hW];exact(af.refl _ _).alloc _
 have hMW:av W fq br cU B []:=by rw[hW,hB];exact av.made
 have o7:=(hL.still qL).block;obtain⟨l0,l1,l2,-⟩:=bI o7;have jy:=atm o7;go_enter Tryz.func386,Tryz.ntmps386;go_wp2_with (rw[←hW,←hB];clear hW);clear hB
 go_loopw [13] (λi wr=>∃ (k:Nat),k≤rs.length∧i= .int .i64 k∧af (λ_=>False) W wr) (λi _=>rs.length-(intOf i).toNat)
 case atStart=>exact⟨0,arQ _,rfl,af.refl _ _⟩
 case round=>
  clear l0 l1 l2 jy o7;obtain⟨k,hk,rfl,hT⟩:=hrel;have je:=qL.trans hT;have o7:=(hL.still je).block;obtain⟨l0,l1,l2,-⟩:=bI o7;have jy:=atm o7;by_cases hlt:k<rs.length
  ·obtain⟨r,hr⟩: ∃y,rs[k]? =some y:=⟨_,arn hlt⟩;obtain⟨g,o,cc,rfl,bW,hR,ag⟩:=hat k r hr;have zu:=ann hr;have ro:=uB r zu;have hno:=hno r zu;obtain⟨ha,hc,ba,bc,rfl,R_,DV,SB⟩:=hR;have c0:=je.cell (ag 0 aI) id;have c1:=je.cell (ag 1 aI) id;have c2:=je.cell (ag 2 aI) id;simp only[at6,←at7]at c0 c1 c2;clear hr ag bW;obtain⟨wa,gY⟩: ∃x,x=wr.alloc (.cells #[.string r.head.n,.slice ha r.head.ts.length hc,.slice ba r.body.length bc] 318):=⟨_,rfl⟩;obtain⟨rz,Xk⟩: ∃x,x=wr.heap.size:=⟨_,rfl⟩;have tA:af (λ_=>False) wr wa:=by rw[gY];exact(af.refl _ _).alloc _
   have o9:wa.heap[rz]? =some (.cells #[.string r.head.n,.slice ha r.head.ts.length hc,.slice ba r.body.length bc] 318):=by rw[gY,Xk];exact atp _ _
   go_wp2_with (rw[←gY,←Xk];clear gY Xk);have gI:=je.trans tA;have tWa:=hT.trans tA;obtain⟨a0,a1,a2,-⟩:=bI o9;have qK:=atm o9;have o7:=(hL.still gI).block;obtain⟨l0,l1,l2,-⟩:=bI o7;have jy:=atm o7;have k4:=λw' (ht:af (λ_=>False) w w')=>aca (hL.known.turn ht λ_ _ _=>id) R_ DV ro (m:=some sb) (.inr ⟨sb,rfl,hS.still ht λ_ _=>id⟩) hno.inj;refine aG (λi=>i==7||i==8) ar ar ?_;intro S' gg fN gc gf gh gb;iterate 7 (refine ak ar aC aC λK hK=>?_;go_big_quiet_op;refine hK _ ?_;clear hK K)
   refine ai ar aC λQ' hQ=>?_;go_wp2_with (go_at_call 349;refine(k4 _ (gI.trans (af.refl _ _).drew)).mono ?_;clear k4;rintro e w4 ⟨hb,hs,xs,bB,rfl,Xu,Hn,oY,hbg,jQ,ck⟩);have h4:af (λ_=>False) wa w4:=(af.refl _ _).drew.trans ck;refine hQ _ _ ar (λ_=>gb _ h4.below) ?_;clear hQ Q';rw[hno.none xs bB oY hbg]at jQ;obtain rfl:hs= []:=by simpa using jQ
   have k5:=ag3 (m:= .map (some B)) Hn;refine ai ar aC λQ' hQ=>?_;go_wp2_with (go_at_call 389;refine k5.mono ?_;clear k5;rintro e w5 ⟨rfl,bA⟩);have h5:=h4.trans bA;refine hQ _ _ ar (λ_=>gb _ h5.below) ?_;clear hQ Q';refine aQ ?_;clear gc gf gh gb fN gg S';go_wp2;go_roundw
   case rel=>exact⟨k+1,by omega,by go_num,tWa.trans h5⟩
   case measure=>simp[intOf];omega
  ·have k6:=ag2 (hL.still je) (hS.still je λ_ _=>id) (hMW.turn hT id);go_wp2_with (go_at_call 392;refine k6.mono ?_;clear k6;rintro e w6 ⟨rfl,bH,ND⟩);go_ret;exact⟨rfl,je.wider.trans bH,ND⟩
end Go.Proofs.YtkdljbnllgpfhaaGreat
end
section
namespace Go.Upr
open Go Go.RowKit
def uF(N:Nat)(K:Hp):Hp:=λb=>if N≤b then K b else none
theorem Ze(N:Nat)(K:Hp):(uF N K).le K:=λb o h=>by
 unfold uF at h;split at h
 ·exact h
 ·cases h
theorem OL{N b:Nat}{K:Hp}(h:N≤b):uF N K b=K b:=if_pos h
theorem xh{N b:Nat}{K:Hp}{o:Obj}(h:uF N K b=some o):N≤b∧K b=some o:=by
 unfold uF at h;split at h
 ·exact⟨by assumption,h⟩
 ·cases h
theorem dr.new{N:Nat}{K:Hp}{x:aad}(h:dr N K x):dr N (uF N K) x:=by
 rcases h with h|⟨a,n,c,h1,h2,h3⟩
 ·exact .inl h
 ·exact .inr ⟨a,n,c,h1,h2,by rw[OL h2];exact h3⟩
theorem dX.new{N:Nat}{K:Hp}(H:dX N K):dX N (uF N K):=by
 intro b o hb ho;obtain⟨c,e,fz,h1,h2⟩:=H b o hb (xh ho).2;exact⟨c,e,fz,h1,λx hx=>(h2 x hx).new⟩
theorem dX.list{α:Type}{N:Nat}{K:Hp}{sz:Nat}{R:Hp→List aad→α→Prop}{v:aad}{xs:List α}(H:dX N K)(hv:dr N K v)(hl:K.list sz R v xs)
  (hR: ∀c x,(∀y∈c,dr N K y)→R K c x→R (uF N K) c x):(uF N K).list sz R v xs:=by
 obtain⟨dS,h1,h2,h3,h4,h5⟩:=hl;rcases h5 with⟨rfl,h6⟩|⟨g,o,cap,cur,e,fz,rfl,h6,h7⟩
 ·have:dS= []:=awA aj;subst this;exact⟨[],h1,h2,λi c x hc=>(by simp at hc),by simp[h6],.inl ⟨rfl,h6⟩⟩
 ·have hg:N≤g:=by
   rcases hv with h8|⟨a,n,c,h8,h9,_⟩
   ·cases h8
   ·cases h8;exact h9
  obtain⟨c2,e2,fz2,q1,q2⟩:=H g _ hg h6;cases q1;have hcell: ∀c∈dS,∀y∈c,dr N K y:=by
   intro c hc y hy;have hyf:y∈dS.flatten:=List.mem_flatten.2 ⟨c,hc,hy⟩;obtain⟨k,hk⟩:=List.mem_iff_getElem?.1 hyf;have KE:k<xs.length*sz:=by rw[←h4];exact(apT.1 hk).1
   have:=h7 k KE;rw[hk]at this;exact q2 y (by have:=ann (l:=cur.toList) (i:=o+k) (by simpa using this);exact this)
  exact⟨dS,h1,h2,λi c x hc hx=>hR _ _ (hcell c (ann hc)) (h3 i c x hc hx),h4,.inr ⟨g,o,cap,cur,e,fz,rfl,by rw[OL hg];exact h6,h7⟩⟩
end Go.Upr
namespace Go.Proofs.YtkdljbnllgpfhaaGreat
open Go Go.RowKit Go.Upr
theorem dX.rules{N:Nat}{K:Hp}(H:dX N K){v:aad}(hv:dr N K v){rs:List bQ}(hl:K.list 3 uJ v rs):(uF N K).list 3 uJ v rs:=by
 refine H.list hv hl λc r hc hr=>?_;obtain⟨ha,hcc,ba,bc,rfl,h2,h3,h4⟩:=hr;refine⟨ha,hcc,ba,bc,rfl,H.list (hc _ bz) h2 λ_ _ _ h=>h,H.list (hc _ bz) h3 λc l hc hl=>?_,h4⟩;obtain⟨u,rfl,q2⟩:=hl;exact⟨u,rfl,H.list (hc _ bz) q2 λ_ _ _ h=>h⟩
theorem fW.new{w:aly}{K:Hp}{N:Nat}{jV:Bool}{lb sb:Nat}{rs:List bQ}(H:dX N K)(h:fW w K N jV lb sb rs):fW w (uF N K) N jV lb sb rs:=by
 obtain⟨ra,rc,h3,hV,h4⟩:=h;exact⟨ra,rc,dX.rules H hV h3,hV.new,h4⟩
structure qN(v:aly)(eb nb sb pb mb:Nat)(f:xU)(bs:dB)(F:aN)(la:Option alA)(lc:Nat)(ps:List (LB×Lay))(K:Hp)(N:Nat):Prop where
 xY:v.heap[eb]? =some (.cells #[.map (some nb),.map (some sb),.pointer (some ⟨pb,0,none⟩)] 102)
 names:av v bZ at5 Kg nb f
 store:aq v sb bs F
 low:sb<N∧∀p∈bs,p.2<N
 KR:nb<N∧¬dt sb bs nb
 KS:mb<N∧¬dt sb bs mb
 pipe:v.heap[pb]? =some (.cells #[.slice la ps.length lc,.map (some mb)] 185)
 list: ∀ (j:Nat) p,ps[j]? =some p→∃al lo cur,la=some ⟨al,lo,none⟩∧v.heap[al]? =some (.cells cur 171)∧cur[lo+j]? =some (wJ p.1)∧K al=none
 byName:av v bZ at5 wJ mb (Ks ps)
 lays: ∀p∈ps,N≤p.1.2∧fW v K N p.1.1 p.1.2 sb (p.2.rules.map cq)
 known:K.In v
 new:dX N K
 news: ∀b o,K b=some o→N≤b
 KQ:K pb=none
 S0:K eb=none
def DSp(v:aly)(sb:Nat)(bs:dB)(ps:List (LB×Lay))(K:Hp)(ls:Option Nat)(a:Nat):Prop:=
 dt sb bs a∨(∃p∈ps,p.1.2=a)∨(∃p∈ps,∃x y t,v.heap[p.1.2]? =some (.cells #[x,y,.map (some a)] t))∨(K a).isSome=true∨ls=some a
open Classical in
noncomputable def DS(v:aly)(sb:Nat)(bs:dB)(ps:List (LB×Lay))(K:Hp)(ls:Option Nat):Nat→Bool:=λa=>decide (DSp v sb bs ps K ls a)
theorem tz{v:aly}{sb:Nat}{bs:dB}{ps:List (LB×Lay)}{K:Hp}{ls:Option Nat}{a:Nat}:DS v sb bs ps K ls a=true↔DSp v sb bs ps K ls a:=by unfold DS;simp only[decide_eq_true_eq]
section
variable{v:aly}{eb nb sb pb mb:Nat}{f:xU}{bs:dB}{F:aN}{la:Option alA}{lc:Nat}{ps:List (LB×Lay)}{K:Hp}{N:Nat}{ls:Option Nat}{a:Nat}{Ff:alB→Bool}
theorem DS.st(h:dt sb bs a):DS v sb bs ps K ls a=true:=tz.2 (.inl h)
theorem DS.lay{p:LB×Lay}(h:p∈ps):DS v sb bs ps K ls p.1.2=true:=by
 exact tz.2 (.inr (.inl ⟨p,h,rfl⟩))
theorem DS.sup{p:LB×Lay}(h:p∈ps){x y:aad}{t:TypeId}(hb:v.heap[p.1.2]? =some (.cells #[x,y,.map (some a)] t)):DS v sb bs ps K ls a=true:=by
 exact tz.2 (.inr (.inr (.inl ⟨p,h,x,y,t,hb⟩)))
theorem DS.known(h:(K a).isSome=true):DS v sb bs ps K ls a=true:=tz.2 (.inr (.inr (.inr (.inl h))))
theorem DS.lst(h:ls=some a):DS v sb bs ps K ls a=true:=tz.2 (.inr (.inr (.inr (.inr h))))
theorem DS.cell{n:Nat}(hV:dr N K (.slice la n lc)): ∀ (x:aad),x= .slice la n lc→fO Ff (DS v sb bs ps K ls) x:=by
 rintro x rfl;rcases hV with h|⟨a,n,c,h1,h2,h3⟩
 ·exact .flat h
 ·cases h1;exact .slice (DS.known h3)
theorem qN.closed(E:qN v eb nb sb pb mb f bs F la lc ps K N)(hl: ∀b,ls=some b→∃cur e fz,v.heap[b]? =some (.cells cur e fz)∧∀x∈cur.toList,Flat x=true){o:Obj}(ha:DS v sb bs ps K ls a=true)(ho:v.heap[a]? =some o):
  nJ Tryz.prog Ff (DS v sb bs ps K ls) o:=by
 replace ha:=tz.1 ha;rcases ha with(rfl|⟨p,hp,rfl⟩)|⟨p,hp,rfl⟩|⟨p,hp,x,y,t,hb⟩|h|h
 ·exact .at E.store.top ho λp hp=>⟨.flat rfl,.map (DS.st (.inr ⟨p,hp,rfl⟩))⟩
 ·exact .at (E.store.dy p hp) ho λp hp=>⟨.agg λx hx=> .flat (by simp at hx;rcases hx with rfl|rfl|rfl<;>rfl),.agg λx hx=>(by simp at hx)⟩
 ·obtain⟨_,ra,rc,h3,hV,h4⟩:=E.lays p hp;split at h4
  ·rw[h4]at ho;cases ho;refine .cells λx hx=>?_;simp at hx;rcases hx with rfl|rfl
   ·exact DS.cell hV _ bz
   ·exact .map (DS.st (.inl rfl))
  ·obtain⟨mb',h5,h6,h7⟩:=h4;rw[h6]at ho;cases ho;refine .cells λx hx=>?_;simp at hx;rcases hx with rfl|rfl|rfl
   ·exact DS.cell hV _ bz
   ·exact .map (DS.st (.inl rfl))
   ·exact .map (DS.sup hp h6)
 ·obtain⟨_,ra,rc,h3,hV,h4⟩:=E.lays p hp;split at h4
  ·rw[h4]at hb;cases hb
  ·obtain⟨mb',h5,h6,h7⟩:=h4;rw[h6]at hb;cases hb;exact .at h7 ho λp hp=>(nomatch hp)
 ·obtain⟨o',m_⟩:=aww.1 h;have:=E.known a o' m_;rw[this]at ho;cases ho;exact .new E.new (λa _ h=>DS.known h) (E.news a o m_) m_
 ·obtain⟨cur,e,fz,h1,h2⟩:=hl a h;rw[h1]at ho;cases ho;exact .cells λx hx=> .flat (h2 x hx)
theorem qN.out(E:qN v eb nb sb pb mb f bs F la lc ps K N)(hl: ∀b,ls=some b→∃cur fz,v.heap[b]? =some (.cells cur 156 fz)){c:Array aad}{t:TypeId}{fz:Nat×Nat}(ha:v.heap[a]? =some (.cells c t fz))(ht:t≠322∧t≠326∧t≠156)(hK:K a=none):
  DS v sb bs ps K ls a=false:=by
 cases hd:DS v sb bs ps K ls a with
 |false=>rfl
 |true=>
  exfalso;replace hd:=tz.1 hd;rcases hd with(rfl|⟨p,hp,rfl⟩)|⟨p,hp,rfl⟩|⟨p,hp,x,y,t',hb⟩|h|h
  ·obtain⟨es,cl,h1,_⟩:=E.store.top;rw[h1]at ha;cases ha
  ·obtain⟨es,cl,h1,_⟩:=E.store.dy p hp;rw[h1]at ha;cases ha
  ·obtain⟨_,ra,rc,h3,hV,h4⟩:=E.lays p hp;split at h4
   ·rw[h4]at ha;cases ha;exact ht.1 rfl
   ·obtain⟨mb',h5,h6,h7⟩:=h4;rw[h6]at ha;cases ha;exact ht.2.1 rfl
  ·obtain⟨_,ra,rc,h3,hV,h4⟩:=E.lays p hp;split at h4
   ·rw[h4]at hb;cases hb
   ·obtain⟨mb',h5,h6,es,cl,h7,_⟩:=h4;rw[h6]at hb;cases hb;rw[h7]at ha;cases ha
  ·rw[hK]at h;cases h
  ·obtain⟨cur,fz',h1⟩:=hl a h;rw[h1]at ha;cases ha;exact ht.2.2 rfl
theorem qN.Uh(E:qN v eb nb sb pb mb f bs F la lc ps K N)(hl: ∀b,ls=some b→∃cur fz,v.heap[b]? =some (.cells cur 156 fz)){es:Array MapEntry}{cl:Nat}(ha:v.heap[a]? =some (.map es cl))(hN:a<N)(hS: ¬dt sb bs a):
  DS v sb bs ps K ls a=false:=by
 cases hd:DS v sb bs ps K ls a with
 |false=>rfl
 |true=>
  exfalso;replace hd:=tz.1 hd;rcases hd with h|⟨p,hp,rfl⟩|⟨p,hp,x,y,t',hb⟩|h|h
  ·exact hS h
  ·have:=(E.lays p hp).1;omega
  ·obtain⟨_,ra,rc,h3,hV,h4⟩:=E.lays p hp;split at h4
   ·rw[h4]at hb;cases hb
   ·obtain⟨mb',h5,h6,_⟩:=h4;rw[h6]at hb;cases hb;omega
  ·obtain⟨o,ho⟩:=aww.1 h;have:=E.news a o ho;omega
  ·obtain⟨cur,fz',h1⟩:=hl a h;rw[h1]at ha;cases ha
end
end Go.Proofs.YtkdljbnllgpfhaaGreat
end
namespace Go.Proofs.YtkdljbnllgpfhaaGreat
open Go.Upr
def Ih:List Nat:= [20,22,31,33,38,40,41,42,43,44,45,47,48,49,50,51,55,70,71,72,73,74,75,76,77,78,80,81,82,83,84,85,86,87,88,89,91,92,93,94,95,96,97,98,100,101,102,124,125,126,127,128,129,130,131,132,133,134,135,136,137,138,139,140,142,143,144,145,146,147,148,157,158,159,160,161,162,163,164,165,177,178,179,180,181,182,183,184,185,186,187,188,189,190,191,192,193,194,195,196,197,198,199,200,219,220,221,222,223,224,225,226,227,228,229,230,231,232,233,234,240,241,242,243,244,245,246,247,248,249,250,251,252,253,254,260,261,262,263,264,265,266,267,268,269,270,271,272,273,274,275,276,277,278,279,286,287,288,289,290,291,292,293,294,295,296,297,298,299,300,301,302,303,304,305,322,323,324,325,326,327,328,329,330,331,332,333,334,335,336,337,338,339,340,341,342,343,344,345,346,347,348,349,350,351,352,353,354,355,356,357,358,359,360,361,362,363,364,365,366,367,368,369,370,371,372,373,374,375,376,377,378,379,380,381,382,383,384,385,386,387,388,389,390,391,392,393,394]
abbrev bG:alB→Bool:=λg=>Ih.contains g
def TA:List Nat:= [350,394,222,254,270,301,304]
theorem Y3:(Ih.all (yw Tryz.prog (λg=>Ih.contains g) TA))=true:=by decide+kernel
theorem V9:ap3 Tryz.f222=some ao1:=by rfl
theorem V8:ap3 Tryz.f254=some aoJ:=by rfl
theorem V7:ap3 Tryz.f270=some (aoD Tryz.f270.params Tryz.f270.resultTypes):=by rfl
theorem V6:ap3 Tryz.f301=some aoL:=by rfl
theorem V5:ap3 Tryz.f304=some aoG:=by rfl
theorem Vx:apV Tryz.f222=none:=by rfl
theorem Vv:apV Tryz.f254=none:=by rfl
theorem Vu:apV Tryz.f270=none:=by rfl
theorem Vt:apV Tryz.f301=none:=by rfl
theorem Vs:apV Tryz.f304=none:=by rfl
theorem Vg(L:List Nat)(g:Nat)(hg:g∈TA)(x:Func)(hx:Tryz.prog.funcs[g]? =some x):apV x=none∧∃e,ap3 x=some e∧∀f a a',RelA (λg=>L.contains g) f a a'→aH Tryz.prog (λg=>L.contains g) (bD Tryz.prog λg=>L.contains g) (aA λg=>L.contains g) f (e a) (e a'):=by
 have h2:g∈ [350,394]∨g=222∨g=254∨g=270∨g=301∨g=304:=by
  simp only[TA,ap9,List.not_mem_nil,or_false]at hg⊢;omega
 rcases h2 with h|rfl|rfl|rfl|rfl|rfl
 ·exact Z4 L g h x hx
 ·rw[Tryz.func222]at hx;cases hx;exact⟨Vx,_,V9,λf a a' h=> .ZO h⟩
 ·rw[Tryz.func254]at hx;cases hx;exact⟨Vv,_,V8,λf a a' h=> .M0 h⟩
 ·rw[Tryz.func270]at hx;cases hx;exact⟨Vu,_,V7,λf a a' h=> .DF _ _ h⟩
 ·rw[Tryz.func301]at hx;cases hx;exact⟨Vt,_,V6,λf a a' h=> .V_ h⟩
 ·rw[Tryz.func304]at hx;cases hx;exact⟨Vs,_,V5,λf a a' h=> .GP h⟩
theorem fC:Held Tryz.prog (λg=>Ih.contains g):=ZF Y3 (Vg Ih)
end Go.Proofs.YtkdljbnllgpfhaaGreat
section
namespace Go.Proofs.YtkdljbnllgpfhaaGreat
open Go Go.RowKit Go.Upr
def xb(x:Cg):dU:=⟨x.n,x.t.1,x.t.2.1,x.t.2.2,x.gone⟩
theorem uy{w:aly}{N:Nat}{k:Hp}{v:aad}{xs:List Cg}(h:aw w N 156 5 dH k v xs):gN w v (xs.map xb):=by
 obtain⟨_,_,dS,h1,h2,h3,h4,h5⟩:=h;rcases h5 with⟨rfl,h6⟩|⟨g,cap,cur,rfl,_,h6,_,_,h7,h8⟩
 ·have:xs= []:=awA h6;subst this;exact .inl ⟨rfl,none,0,rfl⟩
 ·refine .inr ⟨g,0,cap,cur,156,(0,0),by rw[auB],h6,λj x hx=>?_⟩;rw[anr,Option.map_eq_some_iff]at hx;obtain⟨y,hy,rfl⟩:=hx;have hj:j<xs.length:=(apT.1 hy).1;obtain⟨c,hc⟩: ∃c,dS[j]? =some c:=⟨_,arn aj⟩;have hcy:c=y.cells:=h3 j c y hc hy;subst hcy;have key: ∀i,i<5→cur[0+j*5+i]? =y.cells[i]? :=by
   intro i hi;rw[←rF h2 j i hi hc,←h8,List.getElem?_take,if_pos aj,Nat.zero_add];simp
  exact⟨key 0 aI,key 1 aI,key 2 aI,key 3 aI,key 4 aI⟩
section
variable{w w':aly}{sb:Nat}{bs:dB}{F:aN}{K:Hp}{N lb:Nat}{jV:Bool}{rs:List bQ}{ps:List (LB×Lay)}{R:Nat→aN→Prop}{i:Nat}
def Live(o:Obj):Prop:=o≠jo
theorem VG{es:Array MapEntry}{c:Nat}:Live (.map es c):=λh=>nomatch h
theorem vY{c:Array aad}{t:TypeId}{fz:Nat×Nat}:Live (.cells c t fz):=λh=>nomatch h
theorem av.keep{κ ν:Type}{ok:κ→Prop}{key:κ→aad}{enc:ν→aad}{b:Nat}{l:List (κ×ν)}(h:av w ok key enc b l)(hk: ∀o,Live o→w.heap[b]? =some o→w'.heap[b]? =some o):av w' ok key enc b l:=by
 obtain⟨es,cl,h1,h2⟩:=h;exact⟨es,cl,hk _ VG h1,h2⟩
theorem aq.keep(h:aq w sb bs F)(hk: ∀a o,Live o→dt sb bs a→w.heap[a]? =some o→w'.heap[a]? =some o):aq w' sb bs F:=
 ⟨av.keep h.top λo hL=>hk _ o hL (.inl rfl),λp hp=>av.keep (h.dy p hp) λo hL=>hk _ o hL (.inr ⟨p,hp,rfl⟩),h.apart,h.off⟩
theorem fW.keep(h:fW w K N jV lb sb rs)(hN:N≤lb)(hk: ∀a o,Live o→N≤a→w.heap[a]? =some o→w'.heap[a]? =some o):fW w' K N jV lb sb rs:=by
 obtain⟨ra,rc,h3,hV,h4⟩:=h;refine⟨ra,rc,h3,hV,?_⟩;split
 ·rename_i hr;rw[if_pos hr]at h4;exact hk _ _ vY hN h4
 ·rename_i hr;rw[if_neg hr]at h4;obtain⟨mb,h5,h6,h7⟩:=h4;exact⟨mb,h5,hk _ _ vY hN h6,av.keep h7 λo hL=>hk _ o hL h5⟩
theorem fW.cond(h:fW w K N jV lb sb rs):(jV=true→∃ra rc,w.heap[lb]? =some (.cells #[.slice ra rs.length rc,.map (some sb)] 322)∧K.list 3 uJ (.slice ra rs.length rc) rs)∧
  (jV=false→∃ra rc mb,w.heap[lb]? =some (.cells #[.slice ra rs.length rc,.map (some sb),.map (some mb)] 326)∧K.list 3 uJ (.slice ra rs.length rc) rs∧N≤mb∧av w fq br cU mb []):=by
 obtain⟨ra,rc,h3,hV,h4⟩:=h;refine⟨λhr=>?_,λhr=>?_⟩
 ·rw[if_pos hr]at h4;exact⟨ra,rc,h4,h3⟩
 ·rw[if_neg (by simp[hr])]at h4;obtain⟨mb,h5,h6,h7⟩:=h4;exact⟨ra,rc,mb,h6,h3,h5,h7⟩
theorem _root_.Go.Upr.dX.live{b:Nat}{o:Obj}(H:dX N K)(hb:N≤b)(ho:K b=some o):Live o:=by
 obtain⟨c,e,fz,rfl,_⟩:=H b o hb ho;exact vY
def MW(sb:Nat)(bs:dB)(ps:List (LB×Lay))(K:Hp)(N:Nat)(R:Nat→aN→Prop)(i:Nat)(w:aly):Prop:=
 K.In w∧(∀p∈ps,fW w K N p.1.1 p.1.2 sb (p.2.rules.map cq))∧∃F,aq w sb bs F∧R i F
def MP(D:Nat→Bool)(n0 sb:Nat)(bs:dB)(ps:List (LB×Lay))(K:Hp)(N:Nat)(R:Nat→aN→Prop)(i:Nat)(l:List aad)(w:aly):Prop:=
 l.length≤(i+1)*4294967296∧(∀a,a<n0→D a=false→w.heap[a]? =some jo)∧MW sb bs ps K N R i w
theorem MW.keep(h:MW sb bs ps K N R i w)(hn: ∀b o,K b=some o→N≤b)(hK:dX N K)(hl: ∀p∈ps,N≤p.1.2)(hk: ∀a o,Live o→(dt sb bs a∨N≤a)→w.heap[a]? =some o→w'.heap[a]? =some o):MW sb bs ps K N R i w':=by
 obtain⟨h1,h2,F,h3,h4⟩:=h;exact⟨λb o hb=>hk b o (hK.live (hn b o hb) hb) (.inr (hn b o hb)) (h1 b o hb),λp hp=>(h2 p hp).keep (hl p hp) λa o hL ha=>hk a o hL (.inr ha),F,h3.keep λa o hL ha=>hk a o hL (.inl ha),h4⟩
def tJ(sb:Nat)(bs:dB)(ps:List (LB×Lay))(K:Hp)(N:Nat)(R:Nat→aN→Prop):Prop:=
 ∀j p,ps[j]? =some p→∀w F,K.In w→fW w K N p.1.1 p.1.2 sb (p.2.rules.map cq)→aq w sb bs F→R j F→
  asP Tryz.prog (if p.1.1 then 325 else 386) #[.pointer (some ⟨p.1.2,0,none⟩)] w λe w'=>∃u xs F',e= .returned u∧af (dt sb bs) w w'∧aq w' sb bs F'∧R (j+1) F'∧aw w' w.heap.size 156 5 dH ko u xs∧xs.length≤2147483648
theorem ZM:yG 320 325:=O3 Tryz.func325 rfl rfl Zj Vy
theorem ZL:yG 323 386:=O3 Tryz.func386 rfl rfl Zk Vz
theorem ac7(b:Bool):yG (if b=true then 320 else 323) (if b=true then 325 else 386):=by
 cases b
 ·exact ZL
 ·exact ZM
end
section
variable{v:aly}{eb nb sb pb mb:Nat}{fn:xU}{bs:dB}{F:aN}{la:Option alA}{lc:Nat}{ps:List (LB×Lay)}{K:Hp}{N:Nat}{R:Nat→aN→Prop}{e s:Nat→Option Obj}{f g:Ren}
theorem BQ{w:aly}{M:Nat}{k:Hp}{u:aad}{xs:List Cg}(h:aw w M 156 5 dH k u xs){b:Nat}(hb:u.ownBlock=some b): ∃cur fz,w.heap[b]? =some (.cells cur 156 fz):=by
 obtain⟨_,_,dS,_,_,_,_,h5⟩:=h;rcases h5 with⟨rfl,_⟩|⟨g,cap,cur,rfl,_,h6,_⟩
 ·cases hb
 ·cases hb;exact⟨cur,_,h6⟩
theorem qN.start(E:qN v eb nb sb pb mb fn bs F la lc ps K N)(ls:Option Nat)(h0:R 0 F):MW sb bs ps K N R 0 (pd (DS v sb bs ps K ls) v):=by
 have hk: ∀b o,DS v sb bs ps K ls b=true→v.heap[b]? =some o→(pd (DS v sb bs ps K ls) v).heap[b]? =some o:=λb o hd ho=>by rw[A5 hd];exact ho
 refine⟨λb o hb=>hk b o (DS.known (by rw[hb];rfl)) (E.known b o hb),λp hp=>?_,F,E.store.keep λa o _ ha=>hk a o (DS.st ha),h0⟩;obtain⟨_,ra,rc,h3,hV,h4⟩:=E.lays p hp;refine⟨ra,rc,h3,hV,?_⟩;split
 ·rename_i hr;rw[if_pos hr]at h4;exact hk _ _ (DS.lay hp) h4
 ·rename_i hr;rw[if_neg hr]at h4;obtain⟨mb,h5,h6,h7⟩:=h4;exact⟨mb,h5,hk _ _ (DS.lay hp) h6,av.keep h7 λo _=>hk _ o (DS.sup hp h6)⟩
theorem qN.filled(E:qN v eb nb sb pb mb fn bs F la lc ps K N)(hst:tJ sb bs ps K N R)(hn:ps.length≤100){M:Nat}{k:Hp}{u:aad}{xs:List Cg}(hm:lL v M 156 5 dH k u xs):
  LZ bG (DS v sb bs ps K u.ownBlock) g v pb ps.length (MP (DS v sb bs ps K u.ownBlock) v.heap.size sb bs ps K N R):=by
 have hl:=λb (hb:u.ownBlock=some b)=>BQ hm.toaw hb;refine⟨fC,λa b o o' hf hD ho hr=>E.closed hm.flat hD ho _ _ _ hr,λi l w w' h hg=>⟨h.1,λa ha hd=>hg _ _ (h.2.1 a ha hd),h.2.2.keep E.news E.new (λp hp=>(E.lays p hp).1) λa o _ _ ho=>hg a o ho⟩,by omega,E.out hl E.pipe aI E.KQ,_,_,_,la,lc,E.pipe,rfl,λj hj=>?_⟩;obtain⟨p,hp⟩: ∃p,ps[j]? =some p:=⟨_,arn hj⟩;have jQ:=ann hp;obtain⟨al,lo,cur,h1,h2,h3,h4⟩:=E.list j p hp;refine⟨al,lo,171,_,.pointer (some ⟨p.1.2,0,none⟩),cur,(0,0),_,h1,E.out hl h2 aI h4,h2,h3,ac7 p.1.1,by cases p.1.1<;>decide,λx'=>fO.ptr (F:=bG) (DS.lay jQ) _ _,?_⟩;intro l v0 v1 hM hz Nu hg T;obtain⟨m1,m2,m3⟩:=hM;have mi: ∀p∈ps,N≤p.1.2:=λp hp=>(E.lays p hp).1;have hSB: ∀b,dt sb bs b→b<N:=λb hb=>by
  rcases hb with rfl|⟨q,hq,rfl⟩
  ·exact E.low.1
  ·exact E.low.2 q hq
 obtain⟨q1,q2,G,q3,q4⟩:=m3.keep (w':=v1) E.news E.new mi λa o _ _ ho=>hg a o ho;obtain⟨r1,r2,G0,r3,_⟩:=m3;have WU: ∀b,dt sb bs b→b<v0.heap.size:=λb hb=>by
  rcases hb with rfl|⟨q,hq,rfl⟩
  ·exact r3.top.lt
  ·exact(r3.dy q hq).lt
 refine(hst j p hp (ax v1 T) G q1 (q2 p jQ) (q3.keep λ_ _ _ _ h=>h) q4).mono ?_;rintro ex w ⟨u',ys,F',rfl,ht,fN,Xy,z6,Xe⟩;have hsz:v1.heap.size≤w.heap.size:=ht.size;have wZ: ∀a o,¬dt sb bs a→v1.heap[a]? =some o→w.heap[a]? =some o:=λa o ha ho=>ht.kept (w:=ax v1 T) ho ha;have ahx:v0.heap.size≤v1.heap.size:=nT hg;have hnS: ∀a,a<v.heap.size→DS v sb bs ps K u.ownBlock a=false→¬dt sb bs a:=λa _ hd hS=>by rw[DS.st hS]at hd;cases hd
 have hpw: ∀a,a<v.heap.size→DS v sb bs ps K u.ownBlock a=false→w.heap[a]? =some jo:=λa ha hd=>wZ a _ (hnS a ha hd) (hg _ _ (Nu a ha hd));refine⟨u',rfl,ys.map xb,uy z6,?_,⟨by omega,hpw⟩,λa o ha ho=>wZ a o (λhS=>by have:=WU a hS;omega) ho,λw' hw'=>⟨?_,λa ha hd=>hw' a _ (hpw a ha hd) (.inl aj),?_⟩⟩
 ·rw[auB]at m1⊢;have:(j+1)*4294967296≤101*4294967296:=Nat.mul_le_mul_right _ aj;omega
 ·rw[auB]at m1⊢;rw[List.length_append,auB,Nat.succ_mul (j+1)];omega
 · -- whatever lay there at first
  have hold: ∀a o,¬dt sb bs a→v0.heap[a]? =some o→w'.heap[a]? =some o:=λa o ha ho=>hw' a o (wZ a o ha (hg a o ho)) (.inl (ad3.1 ho).1);refine⟨λb o hb=>hold b o (λhS=>by have:=hSB b hS;have:=E.news b o hb;omega) (r1 b o hb),λp hp=>(r2 p hp).keep (mi p hp) λa o _ ha ho=>hold a o (λhS=>by have:=hSB a hS;omega) ho,F',fN.keep λa o _ ha ho=>hw' a o ho (.inl (WU a ha)),Xy⟩
end
end Go.Proofs.YtkdljbnllgpfhaaGreat
end
section
namespace Go.Proofs.YtkdljbnllgpfhaaGreat
open Go Go.RowKit Go.Upr
section
variable{v:aly}{eb nb sb pb mb:Nat}{fn:xU}{bs:dB}{F:aN}{la:Option alA}{lc:Nat}{ps:List (LB×Lay)}{K:Hp}{N:Nat}{R:Nat→aN→Prop}{e s:Nat→Option Obj}{f g:Ren}
theorem OD{Ff:alB→Bool}{x y:aad}{a:Array aad}(h:RelA Ff g #[x,y] a): ∃x' y',a= #[x',y']∧aA Ff g x x'∧aA Ff g y y':=by
 obtain⟨l⟩:=a;unfold RelA at h;dsimp only at h;cases h with
 |cons h1 t=>
  cases t with
  |cons h2 t=>
   cases t with
   |nil=>exact⟨_,_,rfl,h1,h2⟩
theorem qN.whole(E:qN v eb nb sb pb mb fn bs F la lc ps K N){ls:Option Nat}(hl: ∀b,ls=some b→∃cur fz,v.heap[b]? =some (.cells cur 156 fz)){v':aly}(hz:v.heap.size≤v'.heap.size){i:Nat}{l:List aad}(hM:MP (DS v sb bs ps K ls) v.heap.size sb bs ps K N R i l v'):
  ∃F',R i F'∧qN (dJ (DS v sb bs ps K ls) v v') eb nb sb pb mb fn bs F' la lc ps K N:=by
 obtain⟨_,m2,m3⟩:=hM;have jk: ∀a o,Live o→v'.heap[a]? =some o→(dJ (DS v sb bs ps K ls) v v').heap[a]? =some o:=λa o hL ho=>by
  rw[xn λ⟨h1,h2⟩=>hL (alN (ho.symm.trans (m2 a h1 h2)))];exact ho
 have hout: ∀a o,DS v sb bs ps K ls a=false→v.heap[a]? =some o→(dJ (DS v sb bs ps K ls) v v').heap[a]? =some o:=λa o hd ho=>
  yJ hd ho (amC (ad3.1 ho).1 hz)
 obtain⟨k1,k2,F',k3,k4⟩:=m3.keep (w':=dJ (DS v sb bs ps K ls) v v') E.news E.new (λp hp=>(E.lays p hp).1) λa o hL _ ho=>jk a o hL ho;refine⟨F',k4,hout _ _ (E.out hl E.xY aI E.S0) E.xY,?_,k3,E.low,E.KR,E.KS,hout _ _ (E.out hl E.pipe aI E.KQ) E.pipe,λj p hp=>?_,?_,λp hp=>⟨(E.lays p hp).1,k2 p hp⟩,k1,E.new,E.news,E.KQ,E.S0⟩
 ·obtain⟨es,cl,h1,h2⟩:=E.names;exact⟨es,cl,hout _ _ (E.Uh hl h1 E.KR.1 E.KR.2) h1,h2⟩
 ·obtain⟨al,lo,cur,h1,h2,h3,h4⟩:=E.list j p hp;exact⟨al,lo,cur,h1,hout _ _ (E.out hl h2 aI h4) h2,h3,h4⟩
 ·obtain⟨es,cl,h1,h2⟩:=E.byName;exact⟨es,cl,hout _ _ (E.Uh hl h1 E.KS.1 E.KS.2) h1,h2⟩
theorem Cu{Ff:alB→Bool}{M:Nat}{k:Hp}{u:aad}{xs:List Cg}(hm:aw v M 156 5 dH k u xs):fO Ff (DS v sb bs ps K u.ownBlock) u:=by
 obtain⟨_,_,dS,_,_,_,_,h5⟩:=hm;rcases h5 with⟨rfl,_⟩|⟨g,cap,cur,rfl,_⟩
 ·exact .flat rfl
 ·exact .slice (DS.lst rfl)
theorem EC{D:Nat→Bool}{u:aad}{xs:List dU}(h:gN v u xs)(hD: ∀b,u.ownBlock=some b→D b=true):gN (pd D v) u xs:=by
 rcases h with h|⟨b,o,cp,c,ee,fr,rfl,h2,h3⟩
 ·exact .inl h
 ·exact .inr ⟨b,o,cp,c,ee,fr,rfl,by rw[A5 (hD b rfl)];exact h2,h3⟩
theorem qN.fill(E:qN v eb nb sb pb mb fn bs F la lc ps K N)(hst:tJ sb bs ps K N R)(h0:R 0 F)(hn:ps.length≤100){M:Nat}{k:Hp}{u:aad}{xs:List Cg}(hm:lL v M 156 5 dH k u xs)(hx:xs.length≤1048576):
  Goes Tryz.prog bG 79 #[.pointer (some ⟨pb,0,none⟩),u] f v e s λu' v'=>u'= .tuple #[]∧∃F',R ps.length F'∧qN v' eb nb sb pb mb fn bs F' la lc ps K N:=by
 intro g args' c cs hle hr;obtain⟨p',base',rfl,hp,hb⟩:=OD hr;have hl:=λb (hb:u.ownBlock=some b)=>BQ hm.toaw hb;refine(M5 (E.filled hst hn hm) hp (xs:=xs.map xb) (by rw[auB];omega) ⟨?_,λa ha hd=>tH hd ha,E.start _ h0⟩ (EC (uy hm.toaw) λb hb=>DS.lst hb) (Cu hm.toaw _ _ hb)).mono ?_
 ·rw[auB,auB];omega
 ·rintro _ _ _ ⟨f2,v',ys,q1,q2,q3,rfl,rfl,rfl⟩;exact⟨f2,_,.tuple #[],.tuple #[],q1,.tuple .nil,⟨rfl,E.whole hl q3 q2⟩,rfl,rfl,rfl⟩
end
end Go.Proofs.YtkdljbnllgpfhaaGreat
end
section
namespace Go.Proofs.YtkdljbnllgpfhaaGreat
open Go Go.RowKit Go.Upr
def kJ(b:eB)(t:ni):ni:=if t.c=0 then⟨b.getD t.v 0,t.v⟩else t
def NN(b:eB)(a:sW):sW:=⟨a.n,a.ts.map (kJ b)⟩
theorem JC{b:eB}{ts:List ni}{k:Nat}{y:ni}(hy:ts[k]? =some y):(ts.take (k+1)).map (kJ b)=(ts.take k).map (kJ b)++ [kJ b y]:=by
 rw[List.take_add_one,hy];simp
theorem aey{h:Hp}{w:aly}(hw:h.In w){x:ByteArray}{ad:Option alA}{l c:Nat}{a:sW}(ha:NL h [.string x,.slice ad l c] a)(hn:a.ts.length≤3)(hv: ∀t∈a.ts,qP t){b:eB}(hb:okB b):
  asP Tryz.prog 368 #[.agg #[.string x,.slice ad l c],cZ b] w λe w'=>∃v,e= .returned (.agg #[.string a.n,v])∧af (λ_=>False) w w'∧aw w' w.heap.size 413 2 r_ h v (a.ts.map (kJ b)):=by
 obtain⟨v,hv0,iu⟩:=ha;obtain⟨rfl,rfl⟩:x=a.n∧ .slice ad l c=v:=by simpa using hv0
 obtain⟨lu,cap',hv2,hat⟩:=iu.at hw;obtain⟨rfl,rfl,rfl⟩:ad=lu∧l=a.ts.length∧c=cap':=by simpa using hv2
 clear hv2 hv0;unfold cZ;obtain⟨w1,ik⟩: ∃x,x=(w.alloc (.cells #[.string a.n,.slice ad a.ts.length c] 315)).alloc (.cells (aM b) 467):=⟨_,rfl⟩;obtain⟨W,hW⟩: ∃W,W=(w1.alloc (.cells #[.string ⟨#[]⟩,.slice none 0 0] 315)).alloc (.cells #[.string a.n,.slice none 0 0] 315):=⟨_,rfl⟩;have hz1:w1.heap.size=w.heap.size+2:=by rw[ik];simp
 have je:af (λ_=>False) w w1:=by rw[ik];exact((af.refl _ w).alloc _).alloc _
 have hN1:bS w1 (w.heap.size+1) 467 b:=by rw[ik];exact aR _ _ _
 have bM:af (λ_=>False) w W:=by rw[hW];exact(je.alloc _).alloc _
 have NG:bS W (w.heap.size+1) 467 b:=by rw[hW];exact(hN1.alloc).alloc
 have lY:W.heap[w.heap.size+2]? =some (.cells #[.string ⟨#[]⟩,.slice none 0 0] 315):=by rw[hW,←hz1];exact bq _ _ _
 have lH:W.heap[w.heap.size+3]? =some (.cells #[.string a.n,.slice none 0 0] 315):=by
  rw[hW];have:=aR w1 (.cells #[.string ⟨#[]⟩,.slice none 0 0] 315) (.cells #[.string a.n,.slice none 0 0] 315)
  rwa [hz1]at this
 have lr:aw W (w.heap.size+4) 413 2 r_ h (.slice none 0 0) ((a.ts.take 0).map (kJ b)):= .nil (hw.turn bM (λ_ _ _ h=>h));go_enter Tryz.func368,Tryz.ntmps368;go_wp2;rw[ik]at hW;rw[←hW];clear hW hN1 je;obtain⟨N,hN⟩: ∃N,N=w.heap.size+1:=⟨_,rfl⟩;obtain⟨A,hA⟩: ∃B,B=w.heap.size+1+1:=⟨_,rfl⟩;obtain⟨B,hB⟩: ∃B,B=w.heap.size+1+1+1:=⟨_,rfl⟩;have hA':w.heap.size+2=A:=by omega
 have hB':w.heap.size+3=B:=by omega
 have uD:w.heap.size+4=B+1:=by omega
 rw[←hN]at NG;rw[hA']at lY;rw[hB']at lH;rw[uD]at lr;rw[←hB,←hA,←hN];rw[←hN]at hA;rw[←hN,←hA]at hB;obtain⟨n1,n2,n3,n4⟩:w.heap.size<N∧N<A∧A<B∧w.heap.size≤N:=by omega
 clear ik hz1 hA' hB' uD hA hB hN w1
 go_loopw [14] (λi wr=>∃ (k:Nat) (v:aad),k≤a.ts.length∧i= .int .i64 k∧af (λ_=>False) w wr∧bS wr N 467 b∧wr.heap[A]? =some (.cells #[.string ⟨#[]⟩,.slice none 0 0] 315)∧wr.heap[B]? =some (.cells #[.string a.n,v] 315)∧aw wr (B+1) 413 2 r_ h v ((a.ts.take k).map (kJ b))) (λi _=>a.ts.length-(intOf i).toNat)
 case atStart=>exact⟨0,_,arQ _,rfl,bM,NG,lY,lH,lr⟩
 case round=>
  clear lr NG lY lH;obtain⟨k,v,hk,rfl,hT,hN,hA,hB,hm⟩:=hrel;have hsz:=atm hB;by_cases hlt:k<a.ts.length
  ·obtain⟨y,hy⟩: ∃y,a.ts[k]? =some y:=⟨_,arn hlt⟩;obtain⟨g,o,cc,rfl,bW,rfl,ag⟩:=hat k y hy;have e0:=hT.cell (ag 0 aI) id;have e1:=hT.cell (ag 1 aI) id;simp only[at6,←at7]at e0 e1;have HS:Hid ((a.ts.take (k+1)).map (kJ b)=(a.ts.take k).map (kJ b)++ [kJ b y]):=JC hy;obtain⟨y1,y2⟩:=hv y (ann hy);have jy:((a.ts.take k).map (kJ b)).length≤3:=by rw[auB,List.length_take];omega
   clear hy ag bW;generalize(a.ts.take k).map (kJ b)=rs at hm jy HS;obtain⟨yc,yv⟩:=y;dsimp only at y1 y2 e0 e1;obtain⟨bx,vz⟩: ∃bx,b[yv]? =some bx:=⟨_,arn (by have:=hb.1;omega)⟩;have hbd:b.getD yv 0=bx:=by rw[List.getD_eq_getElem?_getD,vz];rfl
   have sH:=hb.2 bx (ann vz);obtain⟨wa,gY⟩: ∃wa,wa=wr.alloc (.cells #[.int .u64 (yc:Nat),.int .i64 (yv:Nat)] 413):=⟨_,rfl⟩;obtain⟨P,zw⟩: ∃P,P=wr.heap.size:=⟨_,rfl⟩;have gI:af (λ_=>False) wr wa:=by rw[gY];exact(af.refl _ wr).alloc _
   have hP:wa.heap[P]? =some (.cells #[.int .u64 (yc:Nat),.int .i64 (yv:Nat)] 413):=by rw[gY,zw];exact atp _ _
   have hpl:=atm hP;have sJ:=gI.kept hB id;have hBl:=atm sJ;obtain⟨b0,b1,fb0,fb1⟩:=b9 sJ;obtain⟨p0,p1,fp0,fp1⟩:=b9 hP;have rQ:=hm.turn gI (λ_ _ h=>h) (λ_ _ _ h=>h);have hown:=rQ.own;obtain⟨nb,nf⟩:=(hN.turn gI id).cell vz;have Db:=(hN.turn gI id).lt;have hPz:B<P:=by omega
   have hPr:wr.heap.size≤P:=by omega
   have fin: ∀ (r:ni) (w5 w6:aly) (u:aad),kJ b ⟨yc,yv⟩=r→af (·=P) wa w5→aw w6 (B+1) 413 2 r_ h u (rs++ [r])→af (λb=>v.ownBlock=some b) w5 w6→
     af (λ_=>False) w (w6.setCell ⟨B,1,none⟩ u)∧bS (w6.setCell ⟨B,1,none⟩ u) N 467 b∧(w6.setCell ⟨B,1,none⟩ u).heap[A]? =some (.cells #[.string ⟨#[]⟩,.slice none 0 0] 315)∧(w6.setCell ⟨B,1,none⟩ u).heap[B]? =some (.cells #[.string a.n,u] 315)∧aw (w6.setCell ⟨B,1,none⟩ u) (B+1) 413 2 r_ h u ((a.ts.take (k+1)).map (kJ b)):=by
    intro r w5 w6 u h1 h2 h4 h5;have ho: ∀b,v.ownBlock=some b→B+1≤b:=λb hb=>(hown b hb).1;have hz0:=hT.size;have hD:af (λ_=>False) w w6:=((hT.trans gI).bL h2 λb (hb:b=P)=> .inl aj).bL h5 λb hb=> .inl (by have:=ho b hb;omega);have hS:=(af.refl (·=B) w6).setCell (p:=⟨B,1,none⟩) (.inr rfl) u;have hne: ∀b,b<B+1→¬v.ownBlock=some b:=λb hb he=>by have:=ho b he;omega
    have keep: ∀ {b:Nat} {ob:Obj},b<B+1→wr.heap[b]? =some ob→w6.heap[b]? =some ob:=λ{b ob} hb h=>h5.kept (h2.kept (gI.kept h id) aj) (hne _ hb);rw[HS.out,h1];exact⟨hD.setCell (p:=⟨B,1,none⟩) (.inl (by show _≤B;omega)) _,hS.kept (keep aj hN) aj,hS.kept (keep aj hA) aj,cR (o:=1) (keep aj hB) u,h4.gB hS (λb hb=>by have:=(h4.own b hb).1;omega) λb ob hb=>by have:=hw.lt hb;omega⟩
   by_cases hc0:yc=0
   ·subst hc0;have hr:kJ b ⟨0,yv⟩=⟨bx,yv⟩:=by unfold kJ;rw[if_pos rfl,hbd]
    replace hr:Hid _:=hr;clear vz hbd;change wa=wr.alloc (.cells #[.int .u64 0,.int .i64 (yv:Nat)] 413)at gY;change wa.heap[P]? =some (.cells #[.int .u64 0,.int .i64 (yv:Nat)] 413)at hP;change wa.cell? _=some (.int .u64 0)at p0;change wr.cell? _=some (.int .u64 0)at e0;obtain⟨wb,Be⟩: ∃wb,wb=wa.setCell ⟨P,0,none⟩ (.int .u64 (bx:Nat)):=⟨_,rfl⟩;have AQ:af (·=P) wa wb:=by rw[Be];exact(af.refl (·=P) _).setCell (p:=⟨P,0,none⟩) (.inr rfl) _
    have hPb:wb.heap[P]? =some (.cells #[.int .u64 (bx:Nat),.int .i64 (yv:Nat)] 413):=by rw[Be];exact cR (o:=0) hP _
    have oZ:=rQ.gB AQ (λb hb=>by have:=(hm.own b hb).2;omega) λb ob hb=>by have:=hw.lt hb;have:=hT.size;omega
    obtain⟨q0,q1,-,-⟩:=b9 hPb;obtain⟨c0,c1,-,-⟩:=b9 (AQ.kept sJ aj);have KC:=atm hPb;have bW:=atm (AQ.kept sJ aj);go_wp2_with (first|(rw[←gY,←zw];clear gY zw)|(rw[←Be];clear Be)|(at_builtin;refine bK xj rfl (.tmp 27) (.tmp 29) rfl oZ rfl ⟨bx,yv⟩ #[.int .u64 (bx:Nat),.int .i64 (yv:Nat)] rfl rfl (by simp[atv]) rfl rfl aj aj aj ?_;intro g4 lK w6 gQ bH _;have wA:=bH.kept (b:=B) (AQ.kept sJ aj) (λhb=>by have:=(hown _ hb).1;omega);obtain⟨x0,x1,-,x3⟩:=b9 wA;have Ak:=atm wA));obtain⟨x1,x2,x3,x4,x5⟩:=fin ⟨bx,yv⟩ wb w6 _ hr.out AQ gQ bH;go_roundw
    case rel=>exact⟨k+1,_,by omega,by go_num,x1,x2,x3,x4,x5⟩
    case measure=>simp[intOf];omega
   ·have hr:kJ b ⟨yc,yv⟩=⟨yc,yv⟩:=by unfold kJ;rw[if_neg hc0]
    replace hr:Hid _:=hr;clear vz hbd nb nf;have hcd:decide ((yc:Int)=0)=false:=by rw[decide_eq_false_iff_not];omega
    go_wp2_with (first|(rw[←gY,←zw];clear gY zw)|(rw[hcd];clear hcd)|(at_builtin;refine bK xj rfl (.tmp 27) (.tmp 29) rfl rQ rfl ⟨yc,yv⟩ #[.int .u64 (yc:Nat),.int .i64 (yv:Nat)] rfl rfl (by simp[atv]) rfl rfl aj aj aj ?_;intro g4 lK w6 gQ bH _;have wA:=bH.kept (b:=B) sJ (λhb=>by have:=(hown _ hb).1;omega);obtain⟨x0,x1,-,x3⟩:=b9 wA;have Ak:=atm wA));obtain⟨x1,x2,x3,x4,x5⟩:=fin ⟨yc,yv⟩ wa w6 _ hr.out (af.refl _ _) gQ bH;go_roundw
    case rel=>exact⟨k+1,_,by omega,by go_num,x1,x2,x3,x4,x5⟩
    case measure=>simp[intOf];omega
  ·have iQ:a.ts.take k=a.ts:=List.take_of_length_le aj;rw[iQ]at hm;obtain⟨b0,b1,-,-⟩:=b9 hB;obtain⟨a0,a1,f0,f1⟩:=b9 hA;have qK:=atm hA;obtain⟨va,vc,rfl⟩:=hm.shape;have E3:(a.ts.map (kJ b)).length=a.ts.length:=auB ..;rw[E3]at hm b1;clear E3;go_wp2;refine bodyPost_ret (v:= .agg #[.string a.n,.slice va a.ts.length vc]) (by simp[results,Tryz.results368,go_sem,a0,a1]) rfl ?_;have hS:=((af.refl (·=A) wr).setCell (p:=⟨A,0,none⟩) (.inr rfl) (.string a.n)).setCell (p:=⟨A,1,none⟩) (.inr rfl) (.slice va a.ts.length vc);exact⟨_,rfl,hT.bL hS λb (hb:b=A)=> .inl aj,(hm.gB hS (λb hb=>by have:=(hm.own b hb).1;omega) λb ob hb (e:b=A)=>by have:=hw.lt hb;omega).lower aj⟩
end Go.Proofs.YtkdljbnllgpfhaaGreat
end
