import Derived.Test.YtkdljbnllgpfhaaGreatA8
import Derived.Test.YtkdljbnllgpfhaaGreatB1
import Derived.Test.YtkdljbnllgpfhaaGreatB2
import Derived.Test.YtkdljbnllgpfhaaGreatB4
import Derived.Test.YtkdljbnllgpfhaaGreatB5
set_option maxRecDepth 100000
set_option maxHeartbeats 8000000
open Go renaming lt_of_block→atm,heap_alloc_new→atp,World→aly,cell_of_row→aqF,Value→aad,Calls→asP,Addr→alA,MapEntry→alz
open List renaming getElem?_eq_getElem→arn,mem_of_getElem?→ann,take_of_length_le→at4,length_map→auB,length_take→as1,take_add_one→at8,mem_append→aqo,mem_singleton→atQ,map_append→atW,mem_cons_self→ao3,mem_of_mem_take→ava,foldl_append→at9,mem_cons_of_mem→ao0,length_append→ap2,mem_map→amk,mem_of_mem_drop→avc,length→awu,length_drop→avb,length_cons→as2,foldl_cons→auW
open Go.Value renaming string→at5,oneCell'→atv,cells→av2,slice→am0
open Nat renaming add_zero→at6,add_assoc→at7,zero_le→arQ,le_refl→agl,lt_succ_self→atG,le_trans→al2
open ByteArray renaming empty→ati
open Option renaming toList_some→avV
open Option.some renaming inj→alN
open Go.RowKit.Below renaming heap_alloc→atn
open Prod renaming snd→auw,fst→aug
open Go.RowKit renaming run_makeMap→auj,Hid→at3
open Go.World renaming block_lt_of_cell?→avT
open Or renaming inl→awv
open List.cons renaming injEq→amr
section
namespace Go.Proofs.YtkdljbnllgpfhaaGreat
open Go Go.RowKit Go.Upr
theorem O7:eL Tryz.prog 316 382 3 48:= .mk' Tryz.underlying316 (z:= .agg #[.string ati,.slice none 0 0,.bool false]) ar rfl aI
theorem Yx:((Tryz.prog.info? 382).bind (·.zero))=some (.agg #[.string ati,.slice none 0 0,.bool false]):=by kernel_rfl
def S3(s:List iY×wQ)(l:sK):List iY×wQ:=(s.1++ [⟨⟨l.a.n,(eP s.2 l.a.ts).1⟩,l.neg⟩],(eP s.2 l.a.ts).2)
def pw(f:wQ)(ls:List sK):List iY×wQ:=ls.foldl S3 ([],f)
theorem Mz{f:wQ}{ls:List sK}{k:Nat}{y:sK}(hy:ls[k]? =some y):pw f (ls.take (k+1))=S3 (pw f (ls.take k)) y:=by
 unfold pw;rw[at8,hy,avV,at9];rfl
theorem QQ(f:wQ)(ls:List sK):(pw f ls).1.length=ls.length:=by
 have h: ∀ (ls:List sK) s,(ls.foldl S3 s).1.length=s.1.length+ls.length:=by
  intro ls
  induction ls with
  |nil=>exact λ_=>rfl
  |cons t ls ih=>
   intro s;rw[auW,ih];simp[S3];omega
 exact(h ls ([],f)).trans (Nat.zero_add _)
def cq(c:cS):bQ:=⟨⟨c.head.n,(eP [] c.head.ts).1⟩,(pw (eP [] c.head.ts).2 c.body).1⟩
def uJ(h:Hp)(c:List aad)(r:bQ):Prop:=∃ha hc ba bc,c= [.string r.head.n,.slice ha r.head.ts.length hc,.slice ba r.body.length bc]∧h.list 2 r_ (.slice ha r.head.ts.length hc) r.head.ts∧h.list 3 xT (.slice ba r.body.length bc) r.body∧r.body.length≤bc
theorem uJ.mono{h k:Hp}(e:h.le k){c:List aad}{r:bQ}(H:uJ h c r):uJ k c r:=by
 obtain⟨ha,hc,ba,bc,h1,h2,h3,h4⟩:=H;exact⟨ha,hc,ba,bc,h1,Hp.list.mono (h:=h) (k:=k) (λ_ _ q=>q) h2 e,Hp.list.mono (h:=h) (k:=k) (λ_ _=>xT.mono e) h3 e,h4⟩
def yD(c:cS):Prop:=c.head.ts.length≤3∧(∀t∈c.head.ts,bZ t.t)∧c.body.length≤4∧∀l∈c.body,l.a.ts.length≤3∧∀t∈l.a.ts,bZ t.t
theorem _root_.Go.Upr.aw.cap{α:Type}{w:aly}{N e sz:Nat}{R:Hp→List aad→α→Prop}{k:Hp}{v:aad}{xs:List α}(h:aw w N e sz R k v xs): ∃ad c,v= .slice ad xs.length c∧xs.length≤c:=by
 obtain⟨_,_,dS,_,_,_,h4⟩:=h;rcases h4.2 with⟨rfl,h5⟩|⟨g,cap,cur,rfl,_,_,h6,_⟩
 ·exact⟨none,0,by rw[h5],by omega⟩
 ·exact⟨_,_,rfl,h6⟩
theorem ajQ{h:Hp}{w:aly}(hw:h.In w){x:ByteArray}{ad mh:Option alA}{l c l2 c2:Nat}{cl:cS}(bW:cW h [.string x,.slice ad l c,.slice mh l2 c2] cl)(hsm:yD cl):
  asP Tryz.prog 184 #[.agg #[.string x,.slice ad l c,.slice mh l2 c2]] w λe w'=>∃v1 v2,e= .returned (.agg #[.string cl.head.n,v1,v2])∧af (λ_=>False) w w'∧∃k:Hp,k.In w'∧Hp.Ext w.heap.size h k∧uJ k [.string cl.head.n,v1,v2] (cq cl)∧dX w.heap.size k∧dr w.heap.size k v1∧dr w.heap.size k v2:=by
 obtain⟨d,v,⟨vt,rfl,iu⟩,hce,jT⟩:=bW;obtain⟨rfl,rfl,rfl⟩:x=cl.head.n∧ .slice ad l c=vt∧ .slice mh l2 c2=v:=by simpa using hce
 clear hce;obtain⟨s1,s2,s3,s4⟩:=hsm;obtain⟨q1,q2,hv2,hat⟩:=jT.at hw;obtain⟨rfl,rfl,rfl⟩:mh=q1∧l2=cl.body.length∧c2=q2:=by simpa using hv2
 clear hv2;obtain⟨W,hW⟩: ∃W,W=((w.alloc (.cells #[.string cl.head.n,.slice ad l c,.slice mh cl.body.length c2] 236)).alloc (.cells #[.string ⟨#[]⟩,.slice none 0 0,.slice none 0 0] 318)).alloc (.map #[] 0):=⟨_,rfl⟩;have bM:af (λ_=>False) w W:=by rw[hW];exact(((af.refl _ w).alloc _).alloc _).alloc _
 have zx:W.heap[w.heap.size]? =some (.cells #[.string cl.head.n,.slice ad l c,.slice mh cl.body.length c2] 236):=by rw[hW];exact(atn _ _ _ lq).trans (bq _ _ _)
 have lY:W.heap[w.heap.size+1]? =some (.cells #[.string ⟨#[]⟩,.slice none 0 0,.slice none 0 0] 318):=by rw[hW];exact(atn _ _ _ bz).trans (aR _ _ _)
 have p8:av W bZ at5 Hw (w.heap.size+2) []:=by
  rw[hW];have:=av.made (w:=(w.alloc (.cells #[.string cl.head.n,.slice ad l c,.slice mh cl.body.length c2] 236)).alloc (.cells #[.string ⟨#[]⟩,.slice none 0 0,.slice none 0 0] 318)) (ok:=bZ) (key:=at5) (enc:=Hw);simpa using this
 have RP:W.heap.size=w.heap.size+3:=by rw[hW];simp
 have hwW:=hw.turn bM (λ_ _ _ h=>h);have tV:= @auj Tryz.prog;go_enter Tryz.func184,Tryz.ntmps184;go_wp2_with (go_at_call 246;rw[←hW];refine(aeM hwW (⟨_,rfl,iu⟩:kQ h [.string cl.head.n,.slice ad l c] cl.head) s1 s2 p8 (hw.free aj)).mono ?_;clear hW p8;rintro e w2 ⟨v1,rfl,aF,wz,il,abV⟩;have DW:=aF.kept zx aj;have lC:=aF.kept lY aj;obtain⟨p0,p1,p2,-⟩:=bI DW;obtain⟨va,vc,rfl⟩:=il.shape;have hzp:=atm DW);obtain⟨v1,xP⟩: ∃v1,v1=am0 va (eP [] cl.head.ts).1.length vc:=⟨_,rfl⟩;rw[←xP];rw[←xP]at il abV;clear xP;obtain⟨k1,d1,d2,d3,d4⟩:=il.done (λ_ _ _ _ q=>q);have hx1:Hp.Ext (w.heap.size+3) h k1:=⟨d2,λb o hb=>(d3 b o hb).imp id λe=>by have:=(il.own b e).1;omega⟩;have hN1:dX w.heap.size k1:=(dX.start hw (agl _)).done d2 d1 d3 (abV.mono λ_ h=> .inl h);have hV1:dr w.heap.size k1 v1:= .list d4 λb hb=>by have:=(il.own b hb).1;omega
 obtain⟨B,hB⟩: ∃B,B=w2.heap.size:=⟨_,rfl⟩;obtain⟨wb,Be⟩: ∃x,x=w2.alloc (.cells #[.string cl.head.n,v1,.slice none 0 0] 318):=⟨_,rfl⟩;have tb:af (λ_=>False) w2 wb:=by rw[Be];exact(af.refl _ _).alloc _
 have hBb:wb.heap[B]? =some (.cells #[.string cl.head.n,v1,.slice none 0 0] 318):=by rw[Be,hB];exact atp _ _
 have hz2:=aF.size;have hkB:k1 B=none:=d1.free aj;have hBw:w.heap.size+3≤B:=by omega
 rw[←Be,←hB];have dK:af (λ_=>False) w wb:=(bM.bL aF λb (hb:b=w.heap.size+2)=> .inl aj).bL tb λ_ h=>h.elim;have hMb:=wz.turn tb id;have XF:=tb.kept lC id;have oZ:aw wb (B+1) 382 3 xT k1 (.slice none 0 0) (pw (eP [] cl.head.ts).2 (cl.body.take 0)).1:= .nil (d1.turn tb (λ_ _ _ h=>h));clear Be hB p0 p1 p2 DW lC wz il aF tb hz2
 go_loopw [16] (λi wr=>∃ (k:Nat) (v2:aad) (K:Hp),k≤cl.body.length∧i= .int .i64 k∧af (λ_=>False) w wr∧wr.heap[w.heap.size+1]? =some (.cells #[.string ⟨#[]⟩,.slice none 0 0,.slice none 0 0] 318)∧wr.heap[B]? =some (.cells #[.string cl.head.n,v1,v2] 318)∧av wr bZ at5 Hw (w.heap.size+2) (pw (eP [] cl.head.ts).2 (cl.body.take k)).2∧Hp.Ext (w.heap.size+3) h K∧K B=none∧K.list 2 r_ v1 (eP [] cl.head.ts).1∧aw wr (B+1) 382 3 xT K v2 (pw (eP [] cl.head.ts).2 (cl.body.take k)).1∧dX w.heap.size K∧dr w.heap.size K v1∧mG wr v2 (dr w.heap.size K)) (λi _=>cl.body.length-(intOf i).toNat)
 case atStart=>exact⟨0,_,k1,arQ _,rfl,dK,XF,hBb,hMb,hx1,hkB,d4,oZ,hN1,hV1,.nil⟩
 case round=>
  clear hN1 hV1 abV hkB oZ hMb XF hBb dK hx1 d1 d2 d3 d4 k1 wb hzp zx lY RP bM hwW;obtain⟨k,v2,K,hk,rfl,hT,hA,KH,xR,hx,hKB,o7,hm,hNK,hV1,Sd⟩:=hrel;have hsz:=atm KH;by_cases hlt:k<cl.body.length
  ·obtain⟨y,hy⟩: ∃y,cl.body[k]? =some y:=⟨_,arn hlt⟩;obtain⟨g,o,cc,rfl,bW,hR,ag⟩:=hat k y hy;obtain⟨ya,yc,rfl,wF⟩:=hR.cells;have e0:=hT.cell (ag 0 aI) id;have e1:=hT.cell (ag 1 aI) id;have e2:=hT.cell (ag 2 aI) id;simp only[at6,←at7]at e0 e1 e2;have HS:at3 (pw (eP [] cl.head.ts).2 (cl.body.take (k+1))=S3 (pw (eP [] cl.head.ts).2 (cl.body.take k)) y):=Mz hy;obtain⟨y3,yo⟩:=s4 y (ann hy);have jy:(pw (eP [] cl.head.ts).2 (cl.body.take k)).1.length≤4:=by rw[QQ,as1];omega
   clear hy ag bW hR;generalize pw (eP [] cl.head.ts).2 (cl.body.take k)=s at xR hm jy HS;obtain⟨rs,f'⟩:=s;dsimp only at xR hm jy;obtain⟨wa,gY⟩: ∃wa,wa=wr.alloc (.cells #[.string y.a.n,.slice ya y.a.ts.length yc,.bool y.neg] 309):=⟨_,rfl⟩;have gI:af (λ_=>False) wr wa:=by rw[gY];exact(af.refl _ wr).alloc _
   have hP:wa.heap[wr.heap.size]? =some (.cells #[.string y.a.n,.slice ya y.a.ts.length yc,.bool y.neg] 309):=by rw[gY];exact atp _ _
   have hpl:=atm hP;have sJ:=gI.kept KH id;have hBl:=atm sJ;obtain⟨b0,b1,b2,fb0,fb1,fb2⟩:=bI sJ;obtain⟨p0,p1,p2,-⟩:=bI hP;have rQ:=hm.turn gI (λ_ _ h=>h) (λ_ _ _ h=>h);have Fi:=xR.turn gI id;have o9:=Sd.turn gI λ_ _=>id;have E1: ∀b o,K b=some o→¬b=w.heap.size+2:=λb o hb e=>by
    rcases hx.new b o hb with h1|h1
    ·have:=hw.lt h1;omega
    ·omega
   have abt: ¬B=w.heap.size+2:=by omega
   have adQ: ¬wr.heap.size=w.heap.size+2:=by omega
   have c2:=aeM (rQ.known.turn (af.refl (λ_=>False) wa).drew (λ_ _ _ h=>h)) (wF.mono hx.le) y3 yo (Fi.turn (af.refl (λ_=>False) wa).drew id) (by
    cases hk:K (w.heap.size+2)with
    |none=>rfl
    |some o=>exact absurd rfl (E1 _ o hk))
   have hya:wr.heap.size≤wa.heap.size:=gI.size;go_wp2_with (rw[←gY]);clear gY;refine fM (·=w.heap.size+2) (λi=>i==5||i==9||i==10||i==11||i==12) ar ar ?_;intro S gg fN gc gh gb;iterate 5 (refine ak ar aC aC λK hK=>?_;go_big_quiet_op;refine hK _ ?_;clear hK K)
   refine ai ar aC λQ' hQ=>?_;go_wp2_with (go_at_call 246;refine c2.mono ?_;rintro e w4 ⟨v4,rfl,ck,NH,lB,xS⟩);have h4:af (·=w.heap.size+2) wa w4:=(af.refl _ _).drew.trans ck;refine hQ _ _ ar (λ_=>gb _ h4) ?_;clear hQ Q' c2;iterate 3 (refine ak ar aC aC λK hK=>?_;go_big_quiet_op;refine hK _ ?_;clear hK K)
   refine ai ar aC λQ' hQ=>?_;go_wp2;refine hQ _ _ ar (λ_=>gb _ (h4.alloc _)) ?_;clear hQ Q';obtain⟨K4,q1,q2,q3,q4⟩:=lB.done (λ_ _ _ _ q=>q)
   have uC:Hp.Ext (w.heap.size+3) h K4:=⟨hx.le.trans q2,λb o hb=>by
    rcases q3 b o hb with h1|h1
    ·exact hx.new b o h1
    ·have:=(lB.own b h1).1;simp at this;exact .inr aj⟩
   have o0:=(rQ.gB h4 (λb hb=>by have:=(rQ.own b hb).1;omega) E1).wider (λc x=>xT.mono q2) q1 (λb o hb hb2=>by
    rcases q3 b o hb with h1|h1
    ·exact rQ.apart b o h1 hb2
    ·have h5:=(lB.own b h1).1;have h6:=(rQ.own b hb2).2;simp at h5
     omega)
   have Th:K4 B=none:=by
    cases hk4:K4 B with
    |none=>rfl
    |some ob=>
     rcases q3 B ob hk4 with h1|h1
     ·rw[hKB]at h1;cases h1
     ·have:=(lB.own B h1).1;simp at this;omega
   have hN4:dX w.heap.size K4:=hNK.done q2 q1 q3 (xS.mono λ_ h=> .inl h);have hV4:dr w.heap.size K4 v4:= .list q4 λb hb=>by have:=(lB.own b hb).1;simp at this;omega
   have XF:=(o9.turn h4 (λb hb=>by have:=(rQ.own b hb).1;omega)).mono λx hx=>dr.mono q2 hx;obtain⟨va,vc,rfl⟩:=lB.shape;have wx:=h4.size;refine ai ar aC λQ' hQ=>?_;refine gq O7 rfl (.tmp 21) (.tmp 29) rfl o0 rfl ⟨⟨y.a.n,(eP f' y.a.ts).1⟩,y.neg⟩ #[.string y.a.n,.slice va (eP f' y.a.ts).1.length vc,.bool y.neg] ⟨_,rfl,q4⟩ rfl (by simp[atv]) rfl rfl aj aj aj (Pc:=dr w.heap.size K4) Yx (λx hx=>by simp[av2]at hx;rcases hx with rfl|rfl|rfl<;>exact awv rfl) (λx hx=>by simp at hx;rcases hx with rfl|rfl|rfl<;>first|exact awv rfl|exact hV4) XF ?_;intro g6 Am w6 gQ bH _ AR;go_wp2;refine hQ _ _ ar (aX ar) ?_;clear hQ Q';refine ai ar aC λQ' hQ=>?_;go_wp2;refine hQ _ _ ar (aX ar) ?_;clear hQ Q';have ho: ∀b,v2.ownBlock=some b→B+1≤b:=λb hb=>(rQ.own b hb).1;have hne: ∀b,b<B+1→¬v2.ownBlock=some b:=λb hb he=>by have:=ho b he;omega
   have wA:=bH.kept (h4.kept sJ abt) (hne _ aj);obtain⟨y0,y1,y2,y3,y4,y5⟩:=bI wA;have Ak:=atm wA;refine ai ar aC λQ' hQ=>?_;go_wp2;refine hQ _ _ ar (aX ar) ?_;clear hQ Q';refine aQ ?_;go_wp2;have hS:=(af.refl (·=B) w6).setCell (p:=⟨B,2,none⟩) (.inr rfl) (.slice (some ⟨g6,0,none⟩) (rs.length+1) Am);have hD:af (λ_=>False) w w6:=((hT.trans gI).bL h4 λb (hb:b=w.heap.size+2)=> .inl aj).bL bH λb hb=> .inl (by have:=ho b hb;omega);go_roundw
   case rel=>
    refine⟨k+1,_,K4,by omega,by go_num,hD.setCell (p:=⟨B,2,none⟩) (.inl (by show _≤B;omega)) _,hS.kept (bH.kept (h4.kept (gI.kept hA id) aj) (hne _ aj)) aj,cR (o:=2) wA _,?_,uC,Th,Hp.list.mono (h:=K) (k:=K4) (λ_ _ q=>q) o7 q2,?_,hN4,hV1.mono q2,AR.turn hS λb hb=>by have:=(gQ.own b hb).1;omega⟩
    ·rw[HS.out];exact(NH.turn bH (hne _ aj)).turn hS aj
    ·rw[HS.out];refine gQ.gB hS (λb hb=>by have:=(gQ.own b hb).1;omega) λb ob hb=>?_;rintro rfl;rw[Th]at hb;cases hb
   case measure=>simp[intOf];omega
  ·have iQ:cl.body.take k=cl.body:=at4 aj;rw[iQ]at hm;obtain⟨h1,h2,h3,-⟩:=bI KH;obtain⟨a0,a1,a2,f0,f1,f2⟩:=bI hA;have qK:=atm hA;obtain⟨va,vc,rfl⟩:=o7.shape;obtain⟨vb,vd,rfl,Dr⟩:=hm.cap;go_wp2;refine bodyPost_ret (v:= .agg #[.string cl.head.n,.slice va (eP [] cl.head.ts).1.length vc,.slice vb (pw (eP [] cl.head.ts).2 cl.body).1.length vd]) (by simp[results,Tryz.results184,go_sem,a0,a1,a2]) rfl ?_;have hS:=(((af.refl (·=w.heap.size+1) wr).setCell (p:=⟨w.heap.size+1,0,none⟩) (.inr rfl) (.string cl.head.n)).setCell (p:=⟨w.heap.size+1,1,none⟩) (.inr rfl) (.slice va (eP [] cl.head.ts).1.length vc)).setCell (p:=⟨w.heap.size+1,2,none⟩) (.inr rfl) (.slice vb (pw (eP [] cl.head.ts).2 cl.body).1.length vd);have hmS:=hm.gB hS (λb hb=>by have:=(hm.own b hb).1;omega) λb ob hb=>by
    rcases hx.new b ob hb with h5|h5
    ·have:=hw.lt h5;omega
    ·omega
   obtain⟨K5,q1,q2,q3,q4⟩:=hmS.done (λk' hk c x=>xT.mono hk);exact⟨_,_,rfl,hT.bL hS λb (hb:b=w.heap.size+1)=> .inl aj,K5,q1,⟨hx.le.trans q2,λb ob hb=>(q3 b ob hb).elim (λh5=>(hx.new b ob h5).imp id λh6=>by omega) λh5=> .inr (by have:=(hm.own b h5).1;omega)⟩,⟨va,vc,vb,vd,rfl,Hp.list.mono (h:=K) (k:=K5) (λ_ _ q=>q) o7 q2,q4,Dr⟩,hNK.done q2 q1 q3 (Sd.turn hS λb hb=>by have:=(hm.own b hb).1;omega),hV1.mono q2,.list q4 λb hb=>by have:=(hm.own b hb).1;omega⟩
end Go.Proofs.YtkdljbnllgpfhaaGreat
end
section
namespace Go.Proofs.YtkdljbnllgpfhaaGreat
open Go Go.RowKit Go.Upr
theorem ZT:eL Tryz.prog 310 318 3 64:= .mk' Tryz.underlying310 (z:= .agg #[.string ati,.slice none 0 0,.slice none 0 0]) ar rfl aI
def fW(w:aly)(K:Hp)(N:Nat)(jV:Bool)(lb sb:Nat)(rs:List bQ):Prop:=∃ra rc,K.list 3 uJ (.slice ra rs.length rc) rs∧dr N K (.slice ra rs.length rc)∧
 if jV then w.heap[lb]? =some (.cells #[.slice ra rs.length rc,.map (some sb)] 322)else ∃mb,N≤mb∧w.heap[lb]? =some (.cells #[.slice ra rs.length rc,.map (some sb),.map (some mb)] 326)∧av w fq br cU mb []
theorem Yy:((Tryz.prog.info? 318).bind (·.zero))=some (.agg #[.string ati,.slice none 0 0,.slice none 0 0]):=by kernel_rfl
def PS(jV:Bool)(lb:Nat):Value:= .iface (if jV then 320 else 323) (.pointer (some ⟨lb,0,none⟩))
theorem QP{cs:List cS}{k:Nat}{y:cS}(hy:cs[k]? =some y):(cs.take (k+1)).map cq=(cs.take k).map cq++ [cq y]:=by
 rw[at8,hy,atW];rfl
theorem aj5{h:Hp}{w:aly}(hw:h.In w){ad:Option alA}{l c:Nat}{cs:List cS}(hcs:h.list 3 cW (.slice ad l c) cs)(hn:cs.length≤1048576)(hsm: ∀c∈cs,yD c)(jV:Bool)(sb:Nat):
  asP Tryz.prog 136 #[.agg #[.slice ad l c,.bool jV],.map (some sb)] w λe w'=>∃lb,e= .returned (PS jV lb)∧af (λ_=>False) w w'∧w.heap.size≤lb∧∃k:Hp,k.In w'∧Hp.Ext w.heap.size h k∧k lb=none∧fW w' k w.heap.size jV lb sb (cs.map cq)∧dX w.heap.size k:=by
 obtain⟨q1,q2,hv2,hat⟩:=hcs.at hw;obtain⟨rfl,rfl,rfl⟩:ad=q1∧l=cs.length∧c=q2:=by simpa using hv2
 clear hv2;obtain⟨W,hW⟩: ∃W,W=(w.alloc (.cells #[.slice ad cs.length c,.bool jV] 245)).alloc (.cells #[.slice none 0 0,.map (some sb)] 312):=⟨_,rfl⟩;have bM:af (λ_=>False) w W:=by rw[hW];exact((af.refl _ w).alloc _).alloc _
 have zx:W.heap[w.heap.size]? =some (.cells #[.slice ad cs.length c,.bool jV] 245):=by rw[hW];exact bq _ _ _
 have lY:W.heap[w.heap.size+1]? =some (.cells #[.slice none 0 0,.map (some sb)] 312):=by rw[hW];exact aR _ _ _
 have lr:aw W (w.heap.size+2) 318 3 uJ h (.slice none 0 0) ((cs.take 0).map cq):= .nil (hw.turn bM (λ_ _ _ h=>h));have tV:= @auj Tryz.prog;go_enter Tryz.func136,Tryz.ntmps136;go_wp2_with (rw[←hW]);clear hW
 go_loopw [13] (λi wr=>∃ (k:Nat) (v:aad) (K:Hp),k≤cs.length∧i= .int .i64 k∧af (λ_=>False) w wr∧wr.heap[w.heap.size]? =some (.cells #[.slice ad cs.length c,.bool jV] 245)∧wr.heap[w.heap.size+1]? =some (.cells #[v,.map (some sb)] 312)∧Hp.Ext (w.heap.size+2) h K∧aw wr (w.heap.size+2) 318 3 uJ K v ((cs.take k).map cq)∧dX w.heap.size K∧mG wr v (dr w.heap.size K)) (λi _=>cs.length-(intOf i).toNat)
 case atStart=>exact⟨0,_,h,arQ _,rfl,bM,zx,lY,Hp.Ext.refl _ _,lr,.start hw (agl _),.nil⟩
 case round=>
  clear lr lY zx bM;obtain⟨k,v,K,hk,rfl,hT,hP,hA,hx,hm,hNK,Sd⟩:=hrel;have hsz:=atm hA;have WY:K (w.heap.size+1)=none:=by
   cases vx:K (w.heap.size+1)with
   |none=>rfl
   |some o=>
    rcases hx.new _ o vx with h1|h1
    ·have:=hw.lt h1;omega
    ·omega
  by_cases hlt:k<cs.length
  ·obtain⟨y,hy⟩: ∃y,cs[k]? =some y:=⟨_,arn hlt⟩;obtain⟨g,o,cc,rfl,bW,hR,ag⟩:=hat k y hy;have mL:=hsm y (ann hy);have HS:at3 ((cs.take (k+1)).map cq=(cs.take k).map cq++ [cq y]):=QP hy;obtain⟨ya,yc,lA,lz,rfl⟩:=hR.cells;have e0:=hT.cell (ag 0 aI) id;have e1:=hT.cell (ag 1 aI) id;have e2:=hT.cell (ag 2 aI) id;simp only[at6,←at7]at e0 e1 e2;have jy:((cs.take k).map cq).length≤1048576:=by rw[auB,as1];omega
   clear hy ag bW;generalize(cs.take k).map cq=rs at hm jy HS;obtain⟨wa,gY⟩: ∃wa,wa=wr.alloc (.cells #[.string y.head.n,.slice ya y.head.ts.length yc,.slice lA y.body.length lz] 236):=⟨_,rfl⟩;have gI:af (λ_=>False) wr wa:=by rw[gY];exact(af.refl _ wr).alloc _
   have WV:wa.heap[wr.heap.size]? =some (.cells #[.string y.head.n,.slice ya y.head.ts.length yc,.slice lA y.body.length lz] 236):=by rw[gY];exact atp _ _
   have hpl:=atm WV;have o9:=gI.kept hA id;have hBl:=atm o9;obtain⟨b0,b1,fb0,fb1⟩:=b9 o9;obtain⟨p0,p1,p2,-⟩:=bI WV;have rQ:=hm.turn gI (λ_ _ h=>h) (λ_ _ _ h=>h);have hCa:=Sd.turn gI λ_ _=>id;have c2:=ajQ (rQ.known.turn (af.refl (λ_=>False) wa).drew (λ_ _ _ h=>h)) (hR.mono hx.le) mL;have hya:wr.heap.size≤wa.heap.size:=gI.size;go_wp2_with (rw[←gY]);clear gY;refine aG (λi=>i==3||i==4||i==5||i==6||i==7) ar ar ?_;intro S gg fN gc gf gh gb;iterate 3 (refine ak ar aC aC λK hK=>?_;go_big_quiet_op;refine hK _ ?_;clear hK K)
   refine ai ar aC λQ' hQ=>?_;go_wp2_with (go_at_call 184;refine c2.mono ?_;rintro e w4 ⟨v1,v2,rfl,ck,K4,hk4,uC,hr4,hN4,hV1,hV2⟩);have h4:af (λ_=>False) wa w4:=(af.refl _ _).drew.trans ck;refine hQ _ _ ar (λ_=>gb _ h4.below) ?_;clear hQ Q' c2;refine ai ar aC λQ' hQ=>?_;go_wp2;refine hQ _ _ ar (λ_=>gb _ (h4.alloc _).below) ?_;clear hQ Q'
   have o0:=(rQ.turn h4 (λ_ _ h=>h) (λ_ _ _ h=>h)).wider (λc x=>uJ.mono uC.le) hk4 (λb o hb hb2=>by
    rcases uC.new b o hb with h1|h1
    ·exact rQ.apart b o h1 hb2
    ·have h6:=(rQ.own b hb2).2;simp at h1
     omega)
   have Pu:Hp.Ext (w.heap.size+2) h K4:=hx.trans uC lq;have wx:=h4.size;have abQ:dX w.heap.size K4:=hNK.join uC hN4 lq;replace hV1:dr w.heap.size K4 v1:=hV1.low lq;replace hV2:dr w.heap.size K4 v2:=hV2.low lq;have XF:=(hCa.turn h4 λ_ _=>id).mono λx hx=>dr.mono uC.le hx;have S_: ∀u∈(#[at5 y.head.n,v1,v2]:Array aad).toList,u.oneCell'=true:=by
    obtain⟨_,_,_,_,h1,_⟩:=hr4;simp only[amr,and_true]at h1;obtain⟨_,h2,h3⟩:=h1;rw[h2,h3];simp[atv]
   refine ai ar aC λQ' hQ=>?_;refine gq ZT rfl (.tmp 18) (.tmp 21) rfl o0 rfl (cq y) #[.string y.head.n,v1,v2] hr4 rfl S_ rfl rfl aj aj aj (Pc:=dr w.heap.size K4) Yy (λx hx=>by simp[av2]at hx;rcases hx with rfl|rfl|rfl<;>exact awv rfl) (λx hx=>by simp at hx;rcases hx with rfl|rfl|rfl<;>first|exact awv rfl|exact hV1|exact hV2) XF ?_;intro g6 Am w6 gQ bH _ AR;go_wp2;refine hQ _ _ ar (aX ar) ?_;clear hQ Q';refine ai ar aC λQ' hQ=>?_;go_wp2;refine hQ _ _ ar (aX ar) ?_;clear hQ Q';have ho: ∀b,v.ownBlock=some b→w.heap.size+2≤b:=λb hb=>(rQ.own b hb).1;have hne: ∀b,b<w.heap.size+2→¬v.ownBlock=some b:=λb hb he=>by have:=ho b he;omega
   have wA:=bH.kept (h4.kept o9 id) (hne _ aj);obtain⟨y0,y1,y3,y4⟩:=b9 wA;have Ak:=atm wA;refine ai ar aC λQ' hQ=>?_;go_wp2;refine hQ _ _ ar (aX ar) ?_;clear hQ Q';refine aQ ?_;go_wp2;have hS:=(af.refl (·=w.heap.size+1) w6).setCell (p:=⟨w.heap.size+1,0,none⟩) (.inr rfl) (.slice (some ⟨g6,0,none⟩) (rs.length+1) Am);have hD:af (λ_=>False) w w6:=((hT.trans gI).trans h4).bL bH λb hb=> .inl (by have:=ho b hb;omega);go_roundw
   case rel=>
    refine⟨k+1,_,K4,by omega,by go_num,hD.setCell (p:=⟨w.heap.size+1,0,none⟩) (.inl (by show _≤w.heap.size+1;omega)) _,hS.kept (bH.kept (h4.kept (gI.kept hP id) id) (hne _ aj)) aj,cR (o:=0) wA _,Pu,?_,abQ,AR.turn hS λb hb=>by have:=(gQ.own b hb).1;omega⟩;rw[HS.out];refine gQ.gB hS (λb hb=>by have:=(gQ.own b hb).1;omega) λb ob hb=>?_;rintro rfl;rcases uC.new _ ob hb with h1|h1
    ·rw[WY]at h1;cases h1
    ·simp at h1;omega
   case measure=>simp[intOf];omega
  ·have iQ:cs.take k=cs:=at4 aj;rw[iQ]at hm;obtain⟨a0,a1,-,-⟩:=b9 hA;obtain⟨p0,p1,-,-⟩:=b9 hP;obtain⟨K5,q1,q2,q3,q4⟩:=hm.done (λk' hk c x=>uJ.mono hk);have Xz:dX w.heap.size K5:=hNK.done q2 q1 q3 Sd;have hV5:dr w.heap.size K5 v:= .list q4 λb hb=>by have:=(hm.own b hb).1;omega
   obtain⟨va,vc,rfl⟩:=hm.shape;have Sn:Hp.Ext w.heap.size h K5:=⟨hx.le.trans q2,λb ob hb=>(q3 b ob hb).elim (λh5=>(hx.new b ob h5).imp id λh6=>by omega) λh5=> .inr (by have:=(hm.own b h5).1;omega)⟩;have hz:=hT.size;have dC: ∀w',af (λ_=>False) wr w'→K5.In w':=λw' ht=>q1.turn ht λ_ _ _ h=>h;cases jV with
   |true=>
    go_wp2;go_ret;exact⟨wr.heap.size,rfl,hT.alloc _,by omega,K5,dC _ ((af.refl _ _).alloc _),Sn,q1.free (agl _),⟨va,vc,q4,hV5,by rw[if_pos rfl,auB];exact atp _ _⟩,Xz⟩
   |false=>
    go_wp2;go_ret;refine⟨wr.heap.size+1,rfl,(hT.alloc _).alloc _,by omega,K5,dC _ (((af.refl _ _).alloc _).alloc _),Sn,q1.free aj,⟨va,vc,q4,hV5,wr.heap.size,hz,?_,(av.made (w:=wr)).turn ((af.refl (λ_=>False) _).alloc _) id⟩,Xz⟩;rw[auB];exact aR _ _ _
end Go.Proofs.YtkdljbnllgpfhaaGreat
end
section
namespace Go.Proofs.YtkdljbnllgpfhaaGreat
open Go Go.RowKit Go.Upr
theorem ZV:eL Tryz.prog 182 171 1 16:= .mk' Tryz.underlying182 (z:= .nilIface) ar rfl aI
structure Lay where
 rules:List cS
 jV:Bool
def rZ(h:Hp)(c:List aad)(x:Lay):Prop:=∃v,c= [v,.bool x.jV]∧h.list 3 cW v x.rules
abbrev LB:=Bool×Nat
abbrev wJ(x:LB):Value:=PS x.1 x.2
def Yw(_:Hp)(c:List aad)(p:LB×Lay):Prop:=c= [wJ p.1]
def xe(f:List (ByteArray×LB))(x:LB)(cs:List cS):List (ByteArray×LB):=cs.foldl (λf c=>dO f c.head.n x) f
def Ks(ps:List (LB×Lay)):List (ByteArray×LB):=ps.foldl (λf p=>xe f p.1 p.2.rules) []
theorem Wj(ps:List (LB×Lay))(p:LB×Lay):Ks (ps++ [p])=xe (Ks ps) p.1 p.2.rules:=by simp[Ks]
theorem Ni{f:List (ByteArray×LB)}{x:LB}{cs:List cS}{k:Nat}{y:cS}(hy:cs[k]? =some y):xe f x (cs.take (k+1))=dO (xe f x (cs.take k)) y.head.n x:=by
 unfold xe;rw[at8,hy,avV,at9];rfl
theorem _root_.Go.Upr.aw.kT{α:Type}{w:aly}{N e sz:Nat}{R:Hp→List aad→α→Prop}{k:Hp}{v:aad}{xs:List α}(h:aw w N e sz R k v xs){b:Nat}{ob:Obj}(hb:w.heap[b]? =some ob)(hne: ∀cs,ob≠ .cells cs e): ¬v.ownBlock=some b:=by
 obtain⟨_,_,dS,_,_,_,h4⟩:=h;rcases h4.2 with⟨rfl,h5⟩|⟨g,cap,cur,rfl,_,h6,_⟩
 ·exact λh=>nomatch h
 ·intro he;obtain rfl:=alN he;rw[hb]at h6;exact hne _ (alN h6)
theorem _root_.Go.Upr.aw.ext{α:Type}{w w':aly}{N e sz:Nat}{R:Hp→List aad→α→Prop}{k k':Hp}{v:aad}{xs:List α}(h:aw w N e sz R k v xs)(ht:af (λ_=>False) w w')(hx:Hp.Ext w.heap.size k k')(hk:k'.In w')(hR: ∀c x,R k c x→R k' c x):aw w' N e sz R k' v xs:=
 (h.turn ht (λ_ _ h=>h) (λ_ _ _ h=>h)).wider hR hk λb o hb hb2=>by
  rcases hx.new b o hb with h1|h1
  ·exact h.apart b o h1 hb2
  ·have:=(h.own b hb2).2;omega
theorem fW.turn{w w':aly}{K K':Hp}{N:Nat}{jV:Bool}{lb sb:Nat}{rs:List bQ}{D:Nat→Prop}(h:fW w K N jV lb sb rs)(hk:K.le K')(ht:af D w w')(h1: ¬D lb)(h2: ∀mb es cl,N≤mb→w.heap[mb]? =some (.map es cl)→¬D mb):fW w' K' N jV lb sb rs:=by
 obtain⟨ra,rc,h3,hV,h4⟩:=h;refine⟨ra,rc,Hp.list.mono (h:=K) (k:=K') (λ_ _=>uJ.mono hk) h3 hk,hV.mono hk,?_⟩;split
 ·rename_i hr;rw[if_pos hr]at h4;exact ht.kept h4 h1
 ·rename_i hr;rw[if_neg hr]at h4;obtain⟨mb,h5,h6,h7⟩:=h4;obtain⟨es,cl,h8,h9⟩:=h7;exact⟨mb,h5,ht.kept h6 h1,av.turn ⟨es,cl,h8,h9⟩ ht (h2 mb es cl h5 h8)⟩
theorem fW.weak{w:aly}{K:Hp}{N M:Nat}{jV:Bool}{lb sb:Nat}{rs:List bQ}(h:fW w K N jV lb sb rs)(hm:M≤N):fW w K M jV lb sb rs:=by
 obtain⟨ra,rc,h3,hV,h4⟩:=h;refine⟨ra,rc,h3,hV.low hm,?_⟩;split
 ·rename_i hr
  rwa [if_pos hr]at h4
 ·rename_i hr;rw[if_neg hr]at h4;obtain⟨mb,h5,h6⟩:=h4;exact⟨mb,al2 hm h5,h6⟩
theorem fW.cells{w:aly}{K:Hp}{N:Nat}{jV:Bool}{lb sb:Nat}{rs:List bQ}(h:fW w K N jV lb sb rs): ∃cs t,w.heap[lb]? =some (.cells cs t)∧300<t:=by
 obtain⟨ra,rc,h3,_,h4⟩:=h;split at h4
 ·exact⟨_,_,h4,by decide⟩
 ·obtain⟨mb,_,h6,_⟩:=h4;exact⟨_,_,h6,by decide⟩
theorem c77{h:Hp}{w:aly}(hw:h.In w){ad:Option alA}{l c:Nat}{Ls:List Lay}(hLs:h.list 2 rZ (.slice ad l c) Ls)(hn:Ls.length≤1048576)(hsm: ∀L∈Ls,L.rules.length≤1048576∧∀c∈L.rules,yD c∧bZ c.head.n)(sb:Nat):
  asP Tryz.prog 77 #[.slice ad l c,.map (some sb)] w λe w'=>∃pb mb la lc,∃ (ps:List (LB×Lay)) (K:Hp),e= .returned (.pointer (some ⟨pb,0,none⟩))∧af (λ_=>False) w w'∧(w.heap.size≤pb∧pb<w.heap.size+2∧w.heap.size≤mb∧mb<w.heap.size+2)∧K.In w'∧Hp.Ext w.heap.size h K∧K pb=none∧
   w'.heap[pb]? =some (.cells #[.slice la Ls.length lc,.map (some mb)] 185)∧av w' bZ at5 wJ mb (Ks ps)∧K.list 1 Yw (.slice la Ls.length lc) ps∧ps.map auw=Ls∧∃K0:Hp,K0.le K∧Hp.Ext (w.heap.size+2) h K0∧K0 pb=none∧dX (w.heap.size+2) K0∧(∀g o,la=some ⟨g,o,none⟩→K0 g=none∧w.heap.size≤g∧∃cur,w'.heap[g]? =some (.cells cur 171))∧∀p∈ps,p.1.1=p.2.jV∧w.heap.size+2≤p.1.2∧fW w' K0 (w.heap.size+2) p.1.1 p.1.2 sb (p.2.rules.map cq):=by
 obtain⟨q1,q2,hv2,hat⟩:=hLs.at hw;obtain⟨rfl,rfl,rfl⟩:ad=q1∧l=Ls.length∧c=q2:=by simpa using hv2
 clear hv2;obtain⟨W,hW⟩: ∃W,W=(w.alloc (.map #[] 0)).alloc (.cells #[.slice none 0 0,.map (some w.heap.size)] 185):=⟨_,rfl⟩;have bM:af (λ_=>False) w W:=by rw[hW];exact((af.refl _ w).alloc _).alloc _
 have lY:W.heap[w.heap.size+1]? =some (.cells #[.slice none 0 0,.map (some w.heap.size)] 185):=by rw[hW];exact aR _ _ _
 have p8:av W bZ at5 wJ w.heap.size (Ks []):=by rw[hW];exact(av.made (w:=w)).turn ((af.refl (λ_=>False) _).alloc _) id
 have lr:aw W (w.heap.size+2) 171 1 Yw h (.slice none 0 0) ([]:List (LB×Lay)):= .nil (hw.turn bM (λ_ _ _ h=>h));have tV:= @auj Tryz.prog;go_enter Tryz.func77,Tryz.ntmps77;go_wp2_with (rw[←hW]);clear hW
 go_loopw [8,16] (λ_ i wr=>∃ (k:Nat) (v:aad) (K:Hp) (ps:List (LB×Lay)),k≤Ls.length∧i= .int .i64 k∧af (λ_=>False) w wr∧wr.heap[w.heap.size+1]? =some (.cells #[v,.map (some w.heap.size)] 185)∧av wr bZ at5 wJ w.heap.size (Ks ps)∧Hp.Ext (w.heap.size+2) h K∧aw wr (w.heap.size+2) 171 1 Yw K v ps∧ps.map auw=Ls.take k∧dX (w.heap.size+2) K∧∀p∈ps,p.1.1=p.2.jV∧w.heap.size+2≤p.1.2∧fW wr K (w.heap.size+2) p.1.1 p.1.2 sb (p.2.rules.map cq)) (λ_ i _=>Ls.length-(intOf i).toNat)
 case atStart=>exact⟨0,_,h,[],arQ _,rfl,bM,lY,p8,Hp.Ext.refl _ _,lr,rfl,.start hw aj,λ_ h=>nomatch h⟩
 case round=>
  clear lr lY p8 bM;obtain⟨k,v,K,ps,hk,rfl,hT,hA,hM,hx,hm,qJ,hNK,mi⟩:=hrel;have hsz:=atm hA;have WY:K (w.heap.size+1)=none:=by
   cases vx:K (w.heap.size+1)with
   |none=>rfl
   |some o=>
    rcases hx.new _ o vx with h1|h1
    ·have:=hw.lt h1;omega
    ·omega
  have hK0:K w.heap.size=none:=by
   cases vx:K w.heap.size with
   |none=>rfl
   |some o=>
    rcases hx.new _ o vx with h1|h1
    ·have:=hw.lt h1;omega
    ·omega
  by_cases hlt:k<Ls.length
  ·obtain⟨L,hL⟩: ∃y,Ls[k]? =some y:=⟨_,arn hlt⟩;obtain⟨g,o,cc,rfl,bW,hR,ag⟩:=hat k L hL;obtain⟨hrn,Nr⟩:=hsm L (ann hL);obtain⟨vr,rfl,hRl⟩:=hR;obtain⟨ra,rc,rfl⟩:=hRl.shape;have e0:=hT.cell (ag 0 aI) id;have e1:=hT.cell (ag 1 aI) id;simp only[at6,←at7]at e0 e1;have hpl:ps.length≤1048576:=by have:=congrArg awu qJ;rw[auB,as1]at this;omega
   have HP:at3 (ps.map auw++ [L]=Ls.take (k+1)):=by show _=_;rw[at8,hL,qJ];rfl
   clear ag bW hL qJ;have hKa:=hm.known.turn ((af.refl (λ_=>False) wr).alloc (.cells #[.slice ra L.rules.length rc,.bool L.jV] 245)) (λ_ _ _ h=>h);have c2:=aj5 hKa (Hp.list.mono (h:=h) (k:=K) (λ_ _=>cW.mono hx.le) hRl hx.le) hrn (λc hc=>(Nr c hc).1) L.jV sb;obtain⟨ty,hty⟩: ∃ty,(if L.jV=true then 320 else 323)=ty:=⟨_,rfl⟩;have HV:at3 (∀lb,PS L.jV lb= .iface ty (.pointer (some ⟨lb,0,none⟩))):=λlb=>by unfold PS;rw[hty]
   unfold PS at c2;rw[hty]at c2;clear hty;have De:=((af.refl (λ_=>False) wr).alloc (.cells #[.slice ra L.rules.length rc,.bool L.jV] 245)).kept hA id;have rR:=hm.turn ((af.refl (λ_=>False) wr).alloc (.cells #[.slice ra L.rules.length rc,.bool L.jV] 245)) (λ_ _ h=>h) (λ_ _ _ h=>h);have akP: ¬w.heap.size+1=wr.heap.size:=by omega
   go_wp2_with (first|(go_at_call 136;refine c2.mono ?_;rintro e w4 ⟨lb,rfl,ck,Hl,K4,hk4,uC,akY,hl4,hN4⟩;have xS:=ck.kept De id;have XC:=ck.kept (atp wr _) id;have wx:=ck.size;have o0:=rR.ext ck uC hk4 (λ_ _ h=>h);obtain⟨a0,a1,f0,f1⟩:=b9 xS;have qK:=atm xS)|(at_builtin;refine bK ZV rfl (.tmp 27) (.tmp 29) rfl o0 rfl ((L.jV,lb),L) #[.iface ty (.pointer (some ⟨lb,0,none⟩))] (by show _= [PS _ _];rw[HV.out]) rfl (by simp[atv]) rfl rfl aj aj aj ?_;intro g6 Am w6 gQ bH _;have ho:(∀b,b<w.heap.size+2∨wr.heap.size≤b→¬v.ownBlock=some b):=(λb hb he=>by have h1:=(o0.own b he).1;have h2:=(hm.own b he).2;omega);have AR:=bH.kept xS (ho _ aj);have wA:=bH.kept XC (ho _ aj);obtain⟨y0,y1,y3,y4⟩:=b9 AR;obtain⟨z0,z1,-,-⟩:=b9 wA;have Xe:=atm AR;have hzl:=atm wA));obtain⟨w8,Hj⟩: ∃x,x=w6.setCell ⟨w.heap.size+1,0,none⟩ (.slice (some ⟨g6,0,none⟩) (ps.length+1) Am):=⟨_,rfl⟩;rw[←Hj];have R9:af (·=w.heap.size+1) w6 w8:=by rw[Hj];exact(af.refl (·=w.heap.size+1) w6).setCell (p:=⟨w.heap.size+1,0,none⟩) (.inr rfl) _
   have hA8:w8.heap[w.heap.size+1]? =some (.cells #[.slice (some ⟨g6,0,none⟩) (ps.length+1) Am,.map (some w.heap.size)] 185):=by rw[Hj];exact cR AR _
   clear Hj;have SJ:=(((hM.turn ((af.refl (λ_=>False) wr).alloc (.cells #[.slice ra L.rules.length rc,.bool L.jV] 245)) id).turn ck id).turn bH (ho _ aj)).turn R9 aj;have aeq: ∀b,b<w.heap.size+2→w.heap.size≤b→K4 b=none:=λb hb hb2=>by
    cases vx:K4 b with
    |none=>rfl
    |some o=>
     rcases uC.new _ o vx with h1|h1
     ·rcases hx.new _ o h1 with h2|h2
      ·have:=hw.lt h2;omega
      ·omega
     ·simp at h1;omega
   have Ny:=gQ.gB R9 (λb hb=>by have:=(gQ.own b hb).1;omega) (λb o hb R5=>by rw[aeq b aj aj]at hb;cases hb);have zv:af (λ_=>False) w w8:=(((hT.alloc _).trans ck).bL bH λb hb=> .inl (by have:=(o0.own b hb).1;omega)).bL R9 λb (hb:b=w.heap.size+1)=> .inl aj;have hstep: ∀jV lb' rs,fW w4 K4 (w.heap.size+2) jV lb' sb rs→w.heap.size+2≤lb'→fW w8 K4 (w.heap.size+2) jV lb' sb rs:=λjV lb' rs h hl=>by
    obtain⟨cs,t,hc,ht⟩:=h.cells;exact(h.turn (Hp.le_refl _) bH (o0.kT hc (λcs' e=>by cases e;exact absurd ht aI)) (λmb es cl _ oZ=>o0.kT oZ (λ_ e=>nomatch e))).turn (Hp.le_refl _) R9 aj (λmb es cl oZ _=>by omega)
   have agu: ∀p∈ps++ [((L.jV,lb),L)],p.1.1=p.2.jV∧w.heap.size+2≤p.1.2∧fW w8 K4 (w.heap.size+2) p.1.1 p.1.2 sb (p.2.rules.map cq):=by
    intro p hp;rcases aqo.1 hp with hp|hp
    ·obtain⟨h1,h2,h3⟩:=mi p hp;exact⟨h1,h2,hstep _ _ _ (h3.turn uC.le (((af.refl (λ_=>False) wr).alloc _).trans ck) id λ_ _ _ _ _=>id) h2⟩
    ·obtain rfl:=atQ.1 hp;have h2:w.heap.size+2≤lb:=by simp at Hl;omega
     exact⟨rfl,h2,hstep _ _ _ (hl4.weak lq) h2⟩
   have hx8:Hp.Ext (w.heap.size+2) h K4:=hx.trans uC lq;have abQ:dX (w.heap.size+2) K4:=hNK.join uC hN4 lq;obtain⟨q5,q6,RQ,x_⟩:=hRl.at hw;obtain⟨rfl,rfl⟩:ra=q5∧rc=q6:=by simpa using RQ
   clear RQ mi hm rR o0 gQ hM hA De xS AR XC wA hl4 ck bH R9 a0 a1 f0 f1 y0 y1 y3 y4 z0 z1 hKa c2 Hl wx hstep e0 e1;have hM9:av w8 bZ at5 wJ w.heap.size (xe (Ks ps) (L.jV,lb) (L.rules.take 0)):=SJ;have ali:=atm hA8;clear SJ hzl Xe qK
   go_loopw [36] (λi wr=>∃j:Nat,j≤L.rules.length∧i= .int .i64 j∧af (·=w.heap.size) w8 wr∧av wr bZ at5 wJ w.heap.size (xe (Ks ps) (L.jV,lb) (L.rules.take j))) (λi _=>L.rules.length-(intOf i).toNat)
   case atStart=>exact⟨0,arQ _,rfl,af.refl _ _,hM9⟩
   case round=>
    clear hM9;obtain⟨j,hj,rfl,gT,kH⟩:=hrel;have Kq:=gT.kept hA8 aj;obtain⟨a0,a1,-,-⟩:=b9 Kq;have haq:=atm Kq;by_cases hlt:j<L.rules.length
    ·obtain⟨y,hy⟩: ∃y,L.rules[j]? =some y:=⟨_,arn hlt⟩;obtain⟨g',o',cc,rfl,bW,hR,ag⟩:=x_ j y hy;have Hi:=(Nr y (ann hy)).2;obtain⟨ya,yc,lA,lz,rfl⟩:=hR.cells;have sD:af (λ_=>False) w wr:=zv.bL gT λb (hb:b=w.heap.size)=> .inl aj;have e0:=sD.cell (ag 0 aI) id;have e1:=sD.cell (ag 1 aI) id;have e2:=sD.cell (ag 2 aI) id;simp only[at6,←at7]at e0 e1 e2;have HS:at3 (xe (Ks ps) (L.jV,lb) (L.rules.take (j+1))=dO (xe (Ks ps) (L.jV,lb) (L.rules.take j)) y.head.n (L.jV,lb)):=Ni hy;clear hy ag bW hR;obtain⟨wa,gY⟩: ∃wa,wa=wr.alloc (.cells #[.string y.head.n,.slice ya y.head.ts.length yc,.slice lA y.body.length lz] 236):=⟨_,rfl⟩;have gI:af (λ_=>False) wr wa:=by rw[gY];exact(af.refl _ wr).alloc _
     have WV:wa.heap[wr.heap.size]? =some (.cells #[.string y.head.n,.slice ya y.head.ts.length yc,.slice lA y.body.length lz] 236):=by rw[gY];exact atp _ _
     have hpl:=atm WV;obtain⟨p0,p1,p2,-⟩:=bI WV;have o9:=gI.kept Kq id;obtain⟨b0,b1,-,-⟩:=b9 o9;have hBl:=atm o9;have Fi:=kH.turn gI id;go_wp2_with (rw[←gY]);clear gY;refine aG (λi=>i==8) ar ar ?_;intro S gg fN gc gf gh gb;iterate 8 (refine ak ar aC aC λK hK=>?_;go_big_quiet_op;refine hK _ ?_;clear hK K)
     refine ai ar aC λQ' hQ=>?_;go_wp2_with (at_mapUpdate;refine bj cI Tryz.underlying183 rfl (.tmp 43) (.tmp 46) (.tmp 47) rfl rfl (Fi.turn (af.refl (λ_=>False) wa).drew id) rfl Hi (L.jV,lb) (HV.out lb).symm ?_;intro w9 Bf aiI);refine hQ _ _ ar (aX ar) ?_;clear hQ Q';refine aQ ?_;go_wp2;go_roundw
     case rel=>exact⟨j+1,by omega,by go_num,(gT.trans (gI.wider.trans (af.refl _ _).drew)).trans Bf,by rw[HS.out];exact aiI⟩
     case measure=>simp[intOf];omega
    ·have iQ:L.rules.take j=L.rules:=at4 aj;rw[iQ]at kH;have sD:af (λ_=>False) w wr:=zv.bL gT λb (hb:b=w.heap.size)=> .inl aj;go_wp2;go_roundw
     case rel=>
      refine⟨k+1,_,K4,ps++ [((L.jV,lb),L)],by omega,by go_num,sD,Kq,by rw[Wj];exact kH,hx8,?_,by rw[atW];exact HP.out,abQ,λp hp=>?_⟩
      ·exact Ny.gB gT (λb hb=>by have:=(Ny.own b hb).1;omega) (λb o hb R5=>by rw[aeq b aj aj]at hb;cases hb)
      ·obtain⟨h1,h2,h3⟩:=agu p hp;exact⟨h1,h2,h3.turn (Hp.le_refl _) gT aj λmb es cl oZ _=>by omega⟩
     case measure=>simp[intOf];omega
  ·have iQ:Ls.take k=Ls:=at4 aj;rw[iQ]at qJ;have hpl:ps.length=Ls.length:=by rw[←qJ,auB]
   obtain⟨va,vc,rfl⟩:=hm.shape;obtain⟨K5,q1,q2,q3,q4⟩:=hm.done (λk' hk c x h=>h);have WX:K5 (w.heap.size+1)=none:=by
    cases RY:K5 (w.heap.size+1)with
    |none=>rfl
    |some o=>
     rcases q3 _ o RY with h1|h1
     ·rw[WY]at h1;cases h1
     ·have:=(hm.own _ h1).1;omega
   rw[hpl]at hA q4;replace hpl:at3 _:=hpl;go_wp2;go_ret;refine⟨_,_,va,vc,ps,K5,rfl,hT,⟨by omega,by omega,by omega,by omega⟩,q1,⟨hx.le.trans q2,λb ob hb=>(q3 b ob hb).elim (λh5=>(hx.new b ob h5).imp id λh6=>by omega) λh5=> .inr (by have:=(hm.own b h5).1;omega)⟩,WX,hA,hM,q4,qJ,K,q2,hx,WY,hNK,λg o hg=>?_,λp hp=>?_⟩
   ·subst hg;have pk:=hm.own g rfl;refine⟨?_,by omega,?_⟩
    ·cases hk2:K g with
     |none=>rfl
     |some ob=>exact absurd rfl (hm.apart g ob hk2)
    ·obtain⟨_,_,dS,_,_,_,h4⟩:=hm;rcases h4.2 with⟨h5,_⟩|⟨g',cap,cur,h5,_,h6,_⟩
     ·cases h5
     ·cases h5;exact⟨cur,h6⟩
   ·obtain⟨h1,h2,h3⟩:=mi p hp;exact⟨h1,h2,h3⟩
end Go.Proofs.YtkdljbnllgpfhaaGreat
end
section
namespace Go.Proofs.YtkdljbnllgpfhaaGreat
open Go Go.RowKit Go.Upr
theorem A7:eL Tryz.prog 93 156 5 48:= .mk' Tryz.underlying93 (z:= .agg #[.string ati,.int .u64 0,.int .u64 0,.int .u64 0,.bool false]) ar rfl aI
abbrev aN:=ByteArray→List aS
def Ag(s:aN×List Cg)(c:cS):aN×List Cg:=
 if c.body.length=0 then(vA s.1 c.head.n (ly (s.1 c.head.n) (gC (jY c.head))),if gP (s.1 c.head.n) (gC (jY c.head))then s.2 else s.2++ [⟨c.head.n,gC (jY c.head),false⟩])else s
def jc(F:aN)(cs:List cS):aN×List Cg:=cs.foldl Ag (F,[])
theorem MN{F:aN}{cs:List cS}{k:Nat}{y:cS}(hy:cs[k]? =some y):jc F (cs.take (k+1))=Ag (jc F (cs.take k)) y:=by
 unfold jc;rw[at8,hy,avV,at9];rfl
theorem Q2(F:aN)(cs:List cS):(jc F cs).2.length≤cs.length:=by
 have h: ∀ (cs:List cS) s,(cs.foldl Ag s).2.length≤s.2.length+cs.length:=by
  intro cs
  induction cs with
  |nil=>exact λ_=>agl _
  |cons c cs ih=>
   intro s;rw[auW,as2];refine al2 (ih _) ?_;have:(Ag s c).2.length≤s.2.length+1:=by
    unfold Ag;split
    ·dsimp only;split
     ·omega
     ·simp
    ·omega
   omega
 have:=h cs (F,[]);simpa[jc]using this
theorem sizeOf156(w:aly):(sizeOf 156).run Tryz.prog w= .ok 5 w:=by kernel_rfl
theorem BZ:((Tryz.prog.info? 156).bind (·.zero))=some (.agg #[.string ati,.int .u64 0,.int .u64 0,.int .u64 0,.bool false]):=by kernel_rfl
theorem c80{h:Hp}{w:aly}(hw:h.In w){eb sb:Nat}{x z:aad}{bs:List (ByteArray×Nat)}{F:aN}(hE:w.heap[eb]? =some (.cells #[x,.map (some sb),z] 102))(hS:aq w sb bs F)(qg: ∀p∈bs,h p.2=none)
  {ad:Option alA} {l c:Nat} {cs:List cS} (hcs:h.list 3 cW (.slice ad l c) cs) (hn:cs.length≤1048576) (hsm: ∀c∈cs,c.head.ts.length≤3∧bZ c.head.n∧(au bs c.head.n).isSome=true):
  asP Tryz.prog 80 #[.pointer (some ⟨eb,0,none⟩),.slice ad l c] w λe w'=>∃v,e= .returned v∧af (λb=>∃p∈bs,p.2=b) w w'∧aq w' sb bs (jc F cs).1∧aw w' w.heap.size 156 5 dH h v (jc F cs).2∧mG w' v (Flat ·=true):=by
 obtain⟨q1,q2,hv2,hat⟩:=hcs.at hw;obtain⟨rfl,rfl,rfl⟩:ad=q1∧l=cs.length∧c=q2:=by simpa using hv2
 clear hv2;have lr:aw w w.heap.size 156 5 dH h (.slice none 0 0) (jc F (cs.take 0)).2:= .nil hw;have hmap: ∀p∈bs,∃es cl,w.heap[p.2]? =some (.map es cl):=λp hp=>by
  obtain⟨es,cl,h1,_⟩:=hS.dy p hp;exact⟨es,cl,h1⟩
 have z7: ∀b o,h b=some o→¬ ∃p∈bs,p.2=b:=by
  rintro b o hb ⟨p,hp,rfl⟩;rw[qg p hp]at hb;cases hb
 have hgn: ∀g o,ad=some ⟨g,o,none⟩→¬ ∃p∈bs,p.2=g:=by
  rintro g o rfl;obtain⟨ob,pk⟩:=hcs.block;exact z7 g ob pk
 have hEn: ¬ ∃p∈bs,p.2=eb:=by
  rintro⟨p,hp,rfl⟩;obtain⟨es,cl,h1⟩:=hmap p hp;rw[hE]at h1;cases h1
 have pZ: ¬ ∃p∈bs,p.2=sb:=λ⟨p,hp,e⟩=>hS.off p hp e;have fD: ∀b,(∃p∈bs,p.2=b)→b<w.heap.size:=by
  rintro b ⟨p,hp,rfl⟩;exact(hS.dy p hp).lt
 have NB:=atm hE;go_enter Tryz.func80,Tryz.ntmps80;go_wp2
 go_loopw [5,11] (λv i wr=>∃k:Nat,k≤cs.length∧i= .int .i64 k∧af (λb=>∃p∈bs,p.2=b) w wr∧aq wr sb bs (jc F (cs.take k)).1∧aw wr w.heap.size 156 5 dH h v (jc F (cs.take k)).2∧mG wr v (Flat ·=true)) (λ_ i _=>cs.length-(intOf i).toNat)
 case atStart=>exact⟨0,arQ _,rfl,af.refl _ _,hS,lr,.nil⟩
 case round=>
  clear lr;obtain⟨k,hk,rfl,hT,wE,hm,Sd⟩:=hrel;by_cases hlt:k<cs.length
  ·obtain⟨y,hy⟩: ∃y,cs[k]? =some y:=⟨_,arn hlt⟩;obtain⟨g,o,cc,rfl,bW,hR,ag⟩:=hat k y hy;obtain⟨y3,yo,yl⟩:=hsm y (ann hy);obtain⟨rb,Kk⟩:=Option.isSome_iff_exists.1 yl;have HS:at3 (jc F (cs.take (k+1))=Ag (jc F (cs.take k)) y):=MN hy;have jy:=Q2 F (cs.take k);rw[as1]at jy;have Xy:=hR;obtain⟨d,vb,⟨vt,rfl,iu⟩,hce,jT⟩:=Xy;obtain⟨ya,yc,lA,lz,rfl⟩:=hR.cells;obtain⟨rfl,rfl⟩: .slice ya y.head.ts.length yc=vt∧ .slice lA y.body.length lz=vb:=by simpa using hce
   have hgb:=hgn g o rfl;have e0:=hT.cell (ag 0 aI) hgb;have e1:=hT.cell (ag 1 aI) hgb;have e2:=hT.cell (ag 2 aI) hgb;simp only[at6,←at7]at e0 e1 e2;clear hy ag bW hce yl;generalize jc F (cs.take k)=s at wE hm jy HS;obtain⟨G,laid⟩:=s;dsimp only at wE hm jy;obtain⟨wa,gY⟩: ∃wa,wa=wr.alloc (.cells #[.string y.head.n,.slice ya y.head.ts.length yc,.slice lA y.body.length lz] 236):=⟨_,rfl⟩;have gI:af (λ_=>False) wr wa:=by rw[gY];exact(af.refl _ wr).alloc _
   have WV:wa.heap[wr.heap.size]? =some (.cells #[.string y.head.n,.slice ya y.head.ts.length yc,.slice lA y.body.length lz] 236):=by rw[gY];exact atp _ _
   have hpl:=atm WV;obtain⟨p0,p1,p2,-⟩:=bI WV;have rQ:=hm.turn gI (λ_ _ h=>h) (λ_ _ _ h=>h);have hSa:=wE.turn gI id (λ_ _=>id);have k3:=P8 y.head.n ya lA y.head.ts.length yc y.body.length lz wa;by_cases hb0:y.body.length=0
   ·have HB:at3 (y.body.length=0):=hb0;have hd:decide (y.body.length=0)=true:=by simpa using hb0
    rw[hd]at k3;clear hd hb0;have k4:=λ(w':aly) (ht:af (λ_=>False) wa w')=>aj1 (rQ.known.turn ht λ_ _ _ h=>h) (⟨_,rfl,iu⟩:kQ h [.string y.head.n,.slice ya y.head.ts.length yc] y.head) y3;have Da:=xo (jY y.head);obtain⟨t,ht⟩: ∃t,t=gC (jY y.head):=⟨_,rfl⟩;have HT:at3 (t=gC (jY y.head)):=ht;rw[←ht]at k4 Da;clear ht;obtain⟨t1,t2,t3⟩:=t;dsimp only[br]at k4;go_wp2_with (first|(rw[←gY];clear gY)|(go_at_call 133;refine k3.mono ?_;rintro e w2 ⟨rfl,aF⟩;have DW:=aF.kept WV id;obtain⟨p0,p1,p2,-⟩:=bI DW;have abm:=atm DW))
    refine wp_mono (Q:=λe a' w5=>e= .normal∧∃b8,af (λ_=>False) w2 w5∧w2.heap.size≤b8∧w5.heap[b8]? =some (.cells #[.string y.head.n,.int .u64 t1,.int .u64 t2,.int .u64 t3,.bool false] 156)∧a'={tmps:= #[.pointer (some ⟨eb,0,none⟩),.slice (some ⟨g,o,none⟩) cs.length c,undef,undef,.slice none 0 0,u5,undef,.pointer (some ⟨wr.heap.size,0,none⟩),.pointer (some ⟨b8,0,none⟩),.slice (some ⟨g,o,none⟩) cs.length c,.int .i64 cs.length,.int .i64 k,.bool true,.pointer (some ⟨g,o+k*3,none⟩),
     .agg #[.string y.head.n,.slice ya y.head.ts.length yc,.slice lA y.body.length lz],.agg #[.string y.head.n,.slice ya y.head.ts.length yc,.slice lA y.body.length lz],.bool true,.bool false,.pointer (some ⟨wr.heap.size,0,none⟩),.pointer (some ⟨wr.heap.size,0,none⟩),.string y.head.n,.pointer (some ⟨wr.heap.size,0,none⟩),.agg #[.string y.head.n,.slice ya y.head.ts.length yc],.agg #[.int .u64 t1,.int .u64 t2,.int .u64 t3],.agg #[.string y.head.n,.int .u64 t1,.int .u64 t2,.int .u64 t3,.bool false],u25,u26,u27,u28,u29,u30,u31,u32,u33,u34,u35,u36,u37,u38,undef],defers:= []}) ?_ ?_
    ·have hD:af (λ_=>False) w2 w2.drew:=(af.refl _ _).drew;refine wh (λi=>i==5||i==7||i==8) [0,1,2,3,4] 5 [6,7,8] 7 [5,6,8] ar ar ?_;intro S gg fN gc gh gb;iterate 5 (refine fp pK ar aC aC λK hK=>?_;go_big_quiet_op;refine hK _ ?_;clear hK K)
     refine dw ⟨?_,?_⟩
     ·refine aV pK ar aC λQ' hQ=>?_;go_wp2_with (go_at_call 142;refine(k4 _ (aF.trans hD)).mono ?_;rintro e w4 ⟨rfl,ck⟩);have h4:af (λ_=>False) w2 w4:=hD.trans ck;refine hQ _ _ ar (λ_=>gb _ h4) ?_;clear hQ Q';refine fp pK ar aC aC λK hK=>?_;go_big_quiet_op;refine hK _ ?_;clear hK K;iterate 2
       refine aV pK ar aC λQ' hQ=>?_;go_wp2;refine hQ _ _ ar (λ_=>gb _ (h4.alloc _)) ?_;clear hQ Q'
      exact dw ⟨trivial,_,h4.alloc _,h4.size,atp _ _,rfl⟩
     ·refine aV pK ar aC λQ' hQ=>?_;go_wp2;have hA:af (λ_=>False) w2 (w2.drew.alloc (.cells #[.string ⟨#[]⟩,.int .u64 0,.int .u64 0,.int .u64 0,.bool false] 156)):=hD.alloc _;refine hQ _ _ ar (λ_=>gb _ hA) ?_;clear hQ Q';refine aV pK ar aC λQ' hQ=>?_;go_wp2_with (go_at_call 142;refine(k4 _ (aF.trans hA)).mono ?_;rintro e w4 ⟨rfl,ck⟩);have h4:af (λ_=>False) w2 w4:=hA.trans ck;refine hQ _ _ ar (λ_=>gb _ h4) ?_;clear hQ Q';refine fp pK ar aC aC λK hK=>?_;go_big_quiet_op;refine hK _ ?_;clear hK K;have XC:=ck.kept (atp _ _) id;refine aV pK ar aC λQ' hQ=>?_;go_wp2_with (refine bV rfl (.tmp 8) (.tmp 24) rfl rfl XC rfl sizeOf156 rfl (by simp[atv]) ?_;intro w5 bA sI);have h5:af (λ_=>False) w2 w5:=h4.bL bA λq (hq:q=w2.heap.size)=> .inl aj;refine hQ _ _ ar (λ_=>gb _ h5) ?_;exact dw ⟨trivial,_,h5,agl _,sI,rfl⟩
    ·rintro e a5 w5 ⟨rfl,b8,h5,Fe,sI,rfl⟩;dsimp only;have Le:af (λ_=>False) wr w5:=(gI.trans aF).trans h5;have iW:af (λb=>∃p∈bs,p.2=b) w w5:=hT.bL Le λ_ h=>h.elim;have G9:=iW.kept hE hEn;have DU:=wE.turn Le id (λ_ _=>id);have o0:=hm.turn Le (λ_ _ h=>h) (λ_ _ _ h=>h);have hC5:=Sd.turn Le λ_ _=>id;have y0:w5.cell? ⟨b8,0,none⟩=some (.string y.head.n):=(aqF w5 b8 0 _ 156 (0,0) sI).trans rfl;have y1:w5.cell? ⟨b8,1,none⟩=some (.int .u64 t1):=(aqF w5 b8 1 _ 156 (0,0) sI).trans rfl;have y2:w5.cell? ⟨b8,2,none⟩=some (.int .u64 t2):=(aqF w5 b8 2 _ 156 (0,0) sI).trans rfl;have y4:w5.cell? ⟨b8,3,none⟩=some (.int .u64 t3):=(aqF w5 b8 3 _ 156 (0,0) sI).trans rfl;have y5:w5.cell? ⟨b8,4,none⟩=some (.bool false):=(aqF w5 b8 4 _ 156 (0,0) sI).trans rfl;obtain⟨-,z1,-,-⟩:=bI G9;have alg:=atm sI;have ale:=atm G9;have AJ:=(DU.dy _ (cB Kk)).lt;have zu: ∃p∈bs,p.2=rb:=⟨_,cB Kk,rfl⟩;have hrw:=fD rb zu;have zt:=Le.size;have WH:=hT.size;have hz2:wr.heap.size≤w2.heap.size:=(gI.trans aF).size;have k5:=c87 (DU.turn (af.refl (λ_=>False) w5).drew id (λ_ _=>id)) yo Kk t1 t2 t3 Da;have HL:at3 (Ag (G,laid) y=(vA G y.head.n (ly (G y.head.n) (t1,t2,t3)),if gP (G y.head.n) (t1,t2,t3)then laid else laid++ [⟨y.head.n,(t1,t2,t3),false⟩])):=by
      show _=_;unfold Ag;rw[if_pos HB.out,HT.out]
     clear DW WV hpl abm p0 p1 p2 aF h5 gI rQ hSa k4 k3;obtain⟨q,hq⟩: ∃q,gP (G y.head.n) (t1,t2,t3)=q:=⟨_,rfl⟩;rw[hq]at k5 HL;clear hq;go_wp2;refine aG (λi=>i==8) ar ar ?_;intro S gg fN gc gf gh gb;iterate 8 (refine ak ar aC aC λK hK=>?_;go_big_quiet_op;refine hK _ ?_;clear hK K)
     refine ai ar aC λQ' hQ=>?_;go_wp2_with (go_at_call 87;refine k5.mono ?_;clear k5;rintro e w6 ⟨rfl,bH,ND⟩);refine hQ _ _ ar (aX ar) ?_;clear hQ Q';refine aQ ?_;have h6:af (·=rb) w5 w6:=(af.refl _ _).drew.trans bH;have gQ:=o0.gB h6 (λb hb (R5:b=rb)=>by have:=(o0.own b hb).1;omega) (λb o hb (R5:b=rb)=>z7 b o hb (R5▸zu));have hC6:=hC5.turn h6 (λb hb (R5:b=rb)=>by have:=(o0.own b hb).1;omega);have uO:af (λb=>∃p∈bs,p.2=b) w w6:=iW.bL h6 λb (hb:b=rb)=> .inr (hb▸zu);cases q with
     |true=>
      go_wp2;go_roundw
      case rel=>exact⟨k+1,by omega,by go_num,uO,by rw[HS.out,HL.out];exact ND,by rw[HS.out,HL.out];exact gQ,hC6⟩
      case measure=>simp[intOf];omega
     |false=>
      have Fh:=h6.kept sI (by show ¬b8=rb;omega);have y0:w6.cell? ⟨b8,0,none⟩=some (.string y.head.n):=(aqF w6 b8 0 _ 156 (0,0) Fh).trans rfl;have y1:w6.cell? ⟨b8,1,none⟩=some (.int .u64 t1):=(aqF w6 b8 1 _ 156 (0,0) Fh).trans rfl;have y2:w6.cell? ⟨b8,2,none⟩=some (.int .u64 t2):=(aqF w6 b8 2 _ 156 (0,0) Fh).trans rfl;have y4:w6.cell? ⟨b8,3,none⟩=some (.int .u64 t3):=(aqF w6 b8 3 _ 156 (0,0) Fh).trans rfl;have y5:w6.cell? ⟨b8,4,none⟩=some (.bool false):=(aqF w6 b8 4 _ 156 (0,0) Fh).trans rfl;have Hh:=h6.size;go_wp2_with (at_builtin;refine gq A7 rfl (.tmp 34) (.tmp 36) rfl gQ rfl ⟨y.head.n,(t1,t2,t3),false⟩ #[.string y.head.n,.int .u64 t1,.int .u64 t2,.int .u64 t3,.bool false] rfl rfl (by simp[atv]) rfl rfl aj aj aj BZ (by simp[av2,Flat]) (by simp[Flat]) hC6 ?_;intro g7 aln w7 Dc eC _ hC7);go_roundw
      case rel=>exact⟨k+1,by omega,by go_num,uO.bL eC (λb hb=> .inl (gQ.own b hb).1),by rw[HS.out,HL.out];exact ND.turn eC (λhb=>by have:=(gQ.own _ hb).1;have:=hS.top.lt;omega) (λp hp hb=>by have:=(gQ.own _ hb).1;have:=fD _ ⟨p,hp,rfl⟩;omega),by rw[HS.out,HL.out];exact Dc,hC7⟩
      case measure=>simp[intOf];omega
   ·have HB:at3 (Ag (G,laid) y=(G,laid)):=if_neg hb0;have hd:decide (y.body.length=0)=false:=by simpa using hb0
    rw[hd]at k3;clear hd hb0;go_wp2_with (first|(rw[←gY];clear gY)|(go_at_call 133;refine k3.mono ?_;rintro e w2 ⟨rfl,aF⟩));have nd:=gI.trans aF;go_roundw
    case rel=>exact⟨k+1,by omega,by go_num,hT.bL nd λ_ h=>h.elim,by rw[HS.out,HB.out];exact wE.turn nd id (λ_ _=>id),by rw[HS.out,HB.out];exact hm.turn nd (λ_ _ h=>h) (λ_ _ _ h=>h),Sd.turn nd λ_ _=>id⟩
    case measure=>simp[intOf];omega
  ·have iQ:cs.take k=cs:=at4 aj;rw[iQ]at hm wE;go_wp2;go_ret;exact⟨_,rfl,hT,wE,hm,Sd⟩
end Go.Proofs.YtkdljbnllgpfhaaGreat
end
namespace Go.Upr
section
variable{P:Program}{F:FuncId→Bool}{D:Nat→Bool}{f:Ren}{v:aly}
def fO(F:FuncId→Bool)(D:Nat→Bool)(x:aad):Prop:=∀f x',aA F f x x'→aA F (cut D f) x x'
theorem LV{a b:Nat}(h:D a=true)(hf:f a=some b):cut D f a=some b:=by unfold cut;rw[if_pos h];exact hf
theorem fO.flat{x:aad}(h:Flat x=true):fO F D x:=by
 intro f x' h';cases h'<;>first|(simp[Flat]at h;done)|exact .bool _|exact .int _ _|exact .string _|exact .ptrN|exact .Kw _ _|exact .PO|exact .nilFunc|exact .nilIface
theorem fO.slice{a:alA}{n c:Nat}(h:D a.block=true):fO F D (.slice (some a) n c):=by
 intro f x' h';cases h' with
 |sl _ _ hb=>exact .sl _ _ (LV h hb)
theorem fO.map{r:Nat}(h:D r=true):fO F D (.map (some r)):=by
 intro f x' h';cases h' with
 |map hb=>exact .map (LV h hb)
theorem fO.ptr{a:alA}(h:D a.block=true):fO F D (.pointer (some a)):=by
 intro f x' h';cases h' with
 |ptr hb=>exact .ptr (LV h hb)
theorem fO.list: ∀ {l l':List aad},(∀x∈l,fO F D x)→cz F f l l'→cz F (cut D f) l l'
 |_,_,_,.nil=> .nil
 |_,_,h,.cons hv t=> .cons (h _ (ao3 ..) _ _ hv) (fO.list (λx hx=>h x (ao0 _ hx)) t)
theorem fO.agg{cs:Array aad}(h: ∀x∈cs.toList,fO F D x):fO F D (.agg cs):=by
 intro f x' h';cases h' with
 |agg hx=>exact .agg (fO.list h hx)
def nJ(P:Program)(F:FuncId→Bool)(D:Nat→Bool)(o:Obj):Prop:=∀C f o',jf P F C f o o'→jf P F C (cut D f) o o'
theorem nJ.cells{c:Array aad}{e:TypeId}{fr:Nat×Nat}(h: ∀x∈c.toList,fO F D x):nJ P F D (.cells c e fr):=by
 intro C f o' h';cases h' with
 |cells _ _ hc=>exact .cells _ _ (fO.list h hc)
theorem fO.aeu: ∀ {l l':List alz},(∀x∈l,fO F D x.key∧fO F D x.val)→dT F f l l'→dT F (cut D f) l l'
 |_,_,_,.nil=> .nil
 |_,_,h,.cons hk hv hb t=> .cons ((h _ (ao3 ..)).1 _ _ hk) ((h _ (ao3 ..)).2 _ _ hv) hb (fO.aeu (λx hx=>h x (ao0 _ hx)) t)
theorem nJ.map{es:Array alz}{cl:Nat}(h: ∀x∈es.toList,fO F D x.key∧fO F D x.val):nJ P F D (.map es cl):=by
 intro C f o' h';cases h' with
 |map _ hc=>exact .map _ (fO.aeu h hc)
theorem nJ.holds{κ ν:Type}{ok:κ→Prop}{key:κ→aad}{enc:ν→aad}{es:Array alz}{cl:Nat}{l:List (κ×ν)}(H:Holds ok key enc es cl l)(h: ∀p∈l,fO F D (key p.1)∧fO F D (enc p.2)):nJ P F D (.map es cl):=by
 refine .map λx hx=>?_;have:(x.key,x.val)∈l.map λp=>(key p.1,enc p.2):=by
  rw[←H.rows];exact amk.2 ⟨x,hx,rfl⟩
 obtain⟨p,hp,he⟩:=amk.1 this;simp only[Prod.mk.injEq]at he;rw[←he.1,←he.2];exact h p hp
theorem nJ.at{κ ν:Type}{ok:κ→Prop}{key:κ→aad}{enc:ν→aad}{w:aly}{b:Nat}{o:Obj}{l:List (κ×ν)}(H:av w ok key enc b l)(ho:w.heap[b]? =some o)(h: ∀p∈l,fO F D (key p.1)∧fO F D (enc p.2)):nJ P F D o:=by
 obtain⟨es,cl,h1,h2⟩:=H;rw[h1]at ho;cases ho;exact .holds h2 h
theorem nJ.new{N:Nat}{K:Hp}{b:Nat}{o:Obj}(H:dX N K)(hD: ∀a,N≤a→(K a).isSome=true→D a=true)(hb:N≤b)(ho:K b=some o):nJ P F D o:=by
 obtain⟨c,e,fz,rfl,h⟩:=H b o hb ho;refine .cells λx hx=>?_;rcases h x hx with h1|⟨a,n,cc,rfl,h2,h3⟩
 ·exact .flat h1
 ·exact .slice (hD _ h2 h3)
end
end Go.Upr
section
namespace Go.Proofs.YtkdljbnllgpfhaaGreat
open Go Go.RowKit Go.Upr
def fE(r:bQ)(i:Nat):List bN:=(r.body.take i).map (dI false)++(r.body.drop (i+1)).map (dI true)
theorem aeG{h:Hp}{w:aly}(hw:h.In w){r:bQ}{ha ba:Option alA}{hc bc:Nat}(hH:h.list 2 r_ (.slice ha r.head.ts.length hc) r.head.ts)(hB:h.list 3 xT (.slice ba r.body.length bc) r.body)(SB:r.body.length≤bc)(ok:gW r)(i:Nat){y:iY}(hy:r.body[i]? =some y)
  {sa sb:Hs} {F0 F1 F2 G0 G1 G2:ByteArray→List aS} (hA:mq w sa F0 F1 F2) (hS:mq w sb G0 G1 G2):
  asP Tryz.prog 344 #[.agg #[.string r.head.n,.slice ha r.head.ts.length hc,.slice ba r.body.length bc],.int .i64 i,.agg #[.map sa.m0,.map sa.m1,.map sa.m2],.agg #[.map sb.m0,.map sb.m1,.map sb.m2]] w λe w'=>∃jb k,e= .returned (.pointer (some ⟨jb,0,none⟩))∧af (λ_=>False) w w'∧Hp.Ext w.heap.size h k∧gO (pM sa sb) w' w.heap.size k jb (ic r.head y.a (fE r i)):=by
 have NA:=(List.getElem?_eq_some_iff.1 hy).1;obtain⟨q7,q8,hv3,hat⟩:=hB.at hw;obtain⟨rfl,rfl⟩:ba=q7∧bc=q8:=by simpa using hv3
 clear hv3;obtain⟨g,o,cc,rfl,bW,hR,ag⟩:=hat i y hy;obtain⟨ya,yc,rfl,wF⟩:=hR.cells;have e0:=(af.refl (λ_=>False) w).cell (ag 0 aI) id;have e1:=(af.refl (λ_=>False) w).cell (ag 1 aI) id;have e2:=(af.refl (λ_=>False) w).cell (ag 2 aI) id;simp only[at6,←at7]at e0 e1 e2;have r8:=ok.jl y (ann hy);clear ag bW hat hR;have E4: ∀b o,h b=some o→b<w.heap.size:=λb o hb=>hw.lt hb;have hb4:=ok.mo;obtain⟨W,hW⟩: ∃W,W=((w.alloc (.cells #[.string r.head.n,.slice ha r.head.ts.length hc,.slice (some ⟨g,o,none⟩) r.body.length bc] 318)).alloc (.cells #[.map sa.m0,.map sa.m1,.map sa.m2] 444)).alloc (.cells #[.map sb.m0,.map sb.m1,.map sb.m2] 444):=⟨_,rfl⟩;have bM:af (λ_=>False) w W:=by rw[hW];exact(((af.refl _ w).alloc _).alloc _).alloc _
 have lY:W.heap[w.heap.size]? =some (.cells #[.string r.head.n,.slice ha r.head.ts.length hc,.slice (some ⟨g,o,none⟩) r.body.length bc] 318):=by rw[hW];exact(atn _ _ _ lq).trans (bq _ _ _)
 have lH:W.heap[w.heap.size+1]? =some (.cells #[.map sa.m0,.map sa.m1,.map sa.m2] 444):=by rw[hW];exact(atn _ _ _ bz).trans (aR _ _ _)
 have hC0:W.heap[w.heap.size+2]? =some (.cells #[.map sb.m0,.map sb.m1,.map sb.m2] 444):=by
  rw[hW];have:=aR (w.alloc (.cells #[.string r.head.n,.slice ha r.head.ts.length hc,.slice (some ⟨g,o,none⟩) r.body.length bc] 318)) (.cells #[.map sa.m0,.map sa.m1,.map sa.m2] 444) (.cells #[.map sb.m0,.map sb.m1,.map sb.m2] 444)
  rwa [World.size_alloc]at this
 obtain⟨a0,a1,a2,_,_,_⟩:=bI lY;obtain⟨b0,b1,b2,_,_,_⟩:=bI lH;obtain⟨c0,c1,c2,_,_,_⟩:=bI hC0;have qK:=atm lY;have hbl:=atm lH;have bW:=atm hC0;have k1:=λ(w':aly) (ht:af (λ_=>False) W w')=>Ys (V:=pM sa sb) (s:=false) (hw.turn (bM.trans ht) (λ_ _ _ h=>h)) (hA.turn (bM.trans ht)).s0 (hA.turn (bM.trans ht)).s1 (hA.turn (bM.trans ht)).s2 (λn=>rfl) (hB.take i aj) (by rw[as1];omega) (λl hl=>ok.jl l (ava hl));have k2:=λ(w':aly) (ht:af (λ_=>False) W w') (o2 m c3:Nat) (hm:m=r.body.length-(i+1)) (ho:m=0∨o2=o+(i+1)*3)=>Ys (V:=pM sa sb) (s:=true) (hw.turn (bM.trans ht) (λ_ _ _ h=>h)) (hS.turn (bM.trans ht)).s0 (hS.turn (bM.trans ht)).s1 (hS.turn (bM.trans ht)).s2 (λn=>rfl) (hB.drop (i+1) c3 hm ho) (by rw[avb];omega) (λl hl=>ok.jl l (avc hl));have zY:=iT (s:=false) (ls:=r.body.take i) (λl hl=>ok.jl l (ava hl));have zX:=iT (s:=true) (ls:=r.body.drop (i+1)) (λl hl=>ok.jl l (avc hl));have HPF:at3 (fE r i=(r.body.take i).map (dI false)++(r.body.drop (i+1)).map (dI true)):=rfl;have o7:((r.body.take i).map (dI false)).length≤i:=by rw[auB,as1];omega
 have hl2:((r.body.drop (i+1)).map (dI true)).length=r.body.length-(i+1):=by rw[auB,avb]
 generalize(r.body.take i).map (dI false)=p1 at*;generalize(r.body.drop (i+1)).map (dI true)=p2 at*;generalize fE r i=ps at*;have Nu: ∀p∈ps,dP p:=λp hp=>by rw[HPF.out]at hp;exact(aqo.1 hp).elim (zY p) (zX p)
 have hpl:ps.length≤4:=by rw[HPF.out,ap2];omega
 have H6:p2.length≤4:=by omega
 have ak0:p1.length≤4:=by omega
 clear o7 hl2;have o8:g<w.heap.size:=avT w _ e0;go_enter Tryz.func344,Tryz.ntmps344;go_wp2_with (rw[←hW]);clear hW;refine aG (λi=>i==5||i==12||i==13||i==14) ar ar ?_;intro S gg fN gc gf gh gb;iterate 5 (refine ak ar aC aC λK hK=>?_;go_big_quiet_op;refine hK _ ?_;clear hK K)
 refine ai ar aC λQ' hQ=>?_;go_wp2_with (go_at_call 361;refine(k1 _ (af.refl _ W).drew).mono ?_;clear k1;rintro e w2 ⟨v2,rfl,aF,il⟩);have h2:af (λ_=>False) W w2:=(af.refl _ _).drew.trans aF;refine hQ _ _ ar (λ_=>gb _ h2.below) ?_;clear hQ Q';iterate 6 (refine ak ar aC aC λK hK=>?_;go_big_quiet_op;refine hK _ ?_;clear hK K)
 obtain⟨o2,ho2,ho3⟩: ∃o2,(if bc=i+1 then some (⟨g,o,none⟩:alA)else some ⟨g,o+(i+1)*3,none⟩)=some ⟨g,o2,none⟩∧(r.body.length-(i+1)=0∨o2=o+(i+1)*3):=by
  by_cases hbi:bc=i+1
  ·exact⟨o,by rw[if_pos hbi],.inl aj⟩
  ·exact⟨_,by rw[if_neg hbi],.inr rfl⟩
 rw[ho2];clear ho2;have k2':=k2 w2 h2 o2 (r.body.length-(i+1)) (bc-(i+1)) rfl ho3;clear k2 ho3;have hz2:=h2.size;have hz0:=bM.size;refine ai ar aC λQ' hQ=>?_;go_wp2_with (go_at_call 361;refine k2'.mono ?_;clear k2';rintro e w3 ⟨v3,rfl,bX,rR⟩);have h3:=h2.trans bX;refine hQ _ _ ar (λ_=>gb _ h3.below) ?_;clear hQ Q';obtain⟨kk,q1,q2,q3,q4⟩:=rR.done (λk' hk c x=>jX.mono hk)
 have abv:=(il.turn bX (λ_ _ h=>h) (λ_ _ _ h=>h)).join q1 (λb o hb hb2=>by
  rcases q3 b o hb with h4|h4
  ·exact il.apart b o h4 hb2
  ·have h5:=(rR.own b h4).1;have h6:=(il.own b hb2).2
   omega) (λk' hk c x=>jX.mono hk)
 have hmz:=abv.own;have hz3:=bX.size;refine ai ar aC λQ' hQ=>?_;refine l9 rf rfl (.tmp 15) (.tmp 22) rfl abv rfl (Hp.list.mono (h:=kk) (k:=h.or kk) (λ_ _=>jX.mono (Hp.gR (il.known.turn bX (λ_ _ _ h=>h)) q1)) q4 (Hp.gR (il.known.turn bX (λ_ _ _ h=>h)) q1)) rfl jX.one (by simp[maxLen];omega) aj lq ?_;intro v4 w4 lB ck alh;rw[←HPF.out]at lB;go_wp2;refine hQ _ _ ar (aX ar) ?_;clear hQ Q';refine ai ar aC λQ' hQ=>?_;go_wp2;refine hQ _ _ ar (aX ar) ?_;clear hQ Q';refine aQ ?_;have xX:af (λ_=>False) W w4:=h3.bL ck (λb hb=> .inl (by have:=(abv.own b hb).1;simp at this;omega));have sD:=bM.trans xX;obtain⟨k5,r1,r2,r3,r4⟩:=lB.done (λk' hk c x=>jX.mono hk);obtain⟨va,vc,rfl⟩:=lB.shape;have pO:h.le k5:=(Hp.lW h kk).trans r2;have xS:=xX.kept lY id;have alj:=atm xS;obtain⟨x0,x1,x2,_,_,_⟩:=bI xS;have f0:=sD.cell e0 id;have f1:=sD.cell e1 id;have ak8:g<w4.heap.size:=avT w4 _ f0;have k6:=Yr r1 (head:=r.head) (first:=y.a) (ba:=some ⟨g,o,none⟩) (bl:=r.body.length) (bc:=bc) (Hp.list.mono (h:=h) (k:=k5) (λ_ _ q=>q) hH pO) (Hp.list.mono (h:=h) (k:=k5) (λ_ _ q=>q) wF pO) r4 ok.nE ok.ml r8.1 r8.2.1 hpl Nu;have agj: ∀b o,k5 b=some o→h b=some o∨w.heap.size≤b:=λb o hb=>by
  rcases r3 b o hb with h4|h4
  ·rcases Hp.nP h4 with h5|h5
   ·exact .inl h5
   ·rcases q3 b o h5 with h6|h6
    ·exact .inl h6
    ·have:=(rR.own b h6).1;exact .inr aj
  ·have:=(lB.own b h4).1;simp at this;exact .inr aj
 go_wp2;refine aG (λi=>i==8||i==9) ar ar ?_;intro S2 gg2 nX gc2 gf2 gh2 gb2;iterate 8 (refine ak ar aC aC λK hK=>?_;go_big_quiet_op;refine hK _ ?_;clear hK K)
 refine ai ar aC λQ' hQ=>?_;have k7:=Yr (r1.turn (af.refl (λ_=>False) w4).drew (λ_ _ _ h=>h)) (head:=r.head) (first:=y.a) (ba:=some ⟨g,o,none⟩) (bl:=r.body.length) (bc:=bc) (Hp.list.mono (h:=h) (k:=k5) (λ_ _ q=>q) hH pO) (Hp.list.mono (h:=h) (k:=k5) (λ_ _ q=>q) wF pO) r4 ok.nE ok.ml r8.1 r8.2.1 hpl Nu;go_wp2_with (go_at_call 362;refine k7.mono ?_;rintro e w5 ⟨jb,k6,rfl,bA,Pu,hJ⟩);have h5:af (λ_=>False) w4 w5:=(af.refl _ _).drew.trans bA;refine hQ _ _ ar (λ_=>gb2 _ h5.below) ?_;clear hQ Q';refine ai ar aC λQ' hQ=>?_;go_wp2;refine hQ _ _ ar (aX ar) ?_;clear hQ Q';refine aQ ?_;go_wp2;go_ret;have wx:=sD.size;exact⟨jb,k6,rfl,sD.trans h5,(⟨pO,agj⟩:Hp.Ext w.heap.size h k5).trans Pu wx,hJ.weak wx⟩
end Go.Proofs.YtkdljbnllgpfhaaGreat
end
section
namespace Go.Proofs.YtkdljbnllgpfhaaGreat
open Go Go.RowKit Go.Upr
abbrev dB:=List (ByteArray×Nat)
def dt(sb:Nat)(bs:dB)(b:Nat):Prop:=b=sb∨∃p∈bs,p.2=b
def eI(bs:dB)(F:aN)(n:ByteArray)(t:aS):Prop:=(au bs n).isSome=true∧t∈F n
structure cr(w:aly)(bs Fp:dB)(F F':aN)(A:ByteArray→aS→Prop):Prop where
 pre: ∃l,Fp=bs++l∧∀p∈l,w.heap.size≤p.2∧∃t,A p.1 t
 ins: ∀m u,eI Fp F' m u↔eI bs F m u∨A m u
theorem cr.refl(w:aly)(bs:dB)(F:aN):cr w bs bs F F λ_ _=>False:=⟨⟨[],by simp,λ_ h=>nomatch h⟩,λ_ _=>by simp⟩
theorem cr.trans{w w':aly}{b0 b1 b2:dB}{F0 F1 F2:aN}{A B:ByteArray→aS→Prop}(h:cr w b0 b1 F0 F1 A)(k:cr w' b1 b2 F1 F2 B)(hz:w.heap.size≤w'.heap.size):cr w b0 b2 F0 F2 λm u=>A m u∨B m u:=by
 obtain⟨l,rfl,h1⟩:=h.pre;obtain⟨l',rfl,h2⟩:=k.pre;refine⟨⟨l++l',by simp,λp hp=>?_⟩,λm u=>?_⟩
 ·rcases aqo.1 hp with hp|hp
  ·obtain⟨h3,t,h4⟩:=h1 p hp;exact⟨h3,t,.inl h4⟩
  ·obtain⟨h3,t,h4⟩:=h2 p hp;exact⟨al2 hz h3,t,.inr h4⟩
 ·rw[k.ins,h.ins,or_assoc]
theorem cr.congr{w:aly}{b b':dB}{F F':aN}{A B:ByteArray→aS→Prop}(h:cr w b b' F F' A)(hAB: ∀m u,A m u↔B m u):cr w b b' F F' B:=by
 obtain⟨l,e,h1⟩:=h.pre;exact⟨⟨l,e,λp hp=>(h1 p hp).imp id λ⟨t,h⟩=>⟨t,(hAB _ _).1 h⟩⟩,λm u=>by rw[h.ins,hAB]⟩
theorem QZ{κ ν:Type}[DecidableEq κ](l l':List (κ×ν))(x:κ):au (l++l') x=(au l x).or (au l' x):=by
 unfold au;rw[List.find?_append];cases l.find? λp=>p.1=x<;>rfl
theorem cr.fix{w:aly}{b b':dB}{F F':aN}{A:ByteArray→aS→Prop}(h:cr w b b' F F' A)(ho:(b'.map aug).Nodup)(hA: ∀m u,A m u→(au b m).isSome=true):b'=b:=by
 obtain⟨l,rfl,h1⟩:=h.pre;cases l with
 |nil=>simp
 |cons p l=>
  obtain⟨_,t,ht⟩:=h1 p (ao3 ..);have h2:=fL.1 (hA _ _ ht);rw[atW,List.nodup_append]at ho;exact absurd rfl (ho.2.2 _ h2 p.1 bz)
theorem cr.blocks{w:aly}{b b':dB}{F F':aN}{A:ByteArray→aS→Prop}(h:cr w b b' F F' A){sb x:Nat}(hx:dt sb b' x):dt sb b x∨w.heap.size≤x:=by
 obtain⟨l,rfl,h1⟩:=h.pre;rcases hx with hx|⟨p,hp,rfl⟩
 ·exact .inl (.inl hx)
 ·rcases aqo.1 hp with hp|hp
  ·exact .inl (.inr ⟨p,hp,rfl⟩)
  ·exact .inr (h1 p hp).1
theorem aq.low{w:aly}{sb:Nat}{bs:dB}{F:aN}(h:aq w sb bs F){b:Nat}(hb:dt sb bs b):b<w.heap.size:=by
 rcases hb with rfl|⟨p,hp,rfl⟩
 ·exact h.top.lt
 ·exact(h.dy p hp).lt
theorem aq.still{w w':aly}{sb:Nat}{bs:dB}{F:aN}{D:Nat→Prop}(h:aq w sb bs F)(ht:af D w w')(hd: ∀b,dt sb bs b→¬D b):aq w' sb bs F:=
 h.turn ht (hd _ (.inl rfl)) λp hp=>hd _ (.inr ⟨p,hp,rfl⟩)
theorem Jx{α:Type}[DecidableEq α]{l:List α}{x y:α}:y∈ly l x↔y∈l∨y=x:=by
 unfold ly;split
 ·rename_i h;have:x∈l:=by simpa[gP]using h
  exact⟨.inl,λh=>h.elim id λe=>e▸this⟩
 ·simp
theorem Yp{w:aly}{sb:Nat}{bs:dB}{F:aN}(hS:aq w sb bs F){n:ByteArray}(hn:bZ n)(a b c:Nat)(ht:fq (a,b,c)):
  asP Tryz.prog 87 #[.map (some sb),.string n,.agg #[.int .u64 a,.int .u64 b,.int .u64 c]] w λe w'=>∃Fp F',∃x:Bool,e= .returned (.bool x)∧af (dt sb bs) w w'∧aq w' sb Fp F'∧cr w bs Fp F F' λm u=>m=n∧u=(a,b,c):=by
 cases hl:au bs n with
 |some rb=>
  refine(c87 hS hn hl a b c ht).mono ?_;rintro e w' ⟨rfl,h1,h2⟩;have hm:=cB hl;refine⟨bs,_,_,rfl,h1.mono λk _ (hk:k=rb)=> .inr ⟨_,hm,hk.symm⟩,h2,⟨[],by simp,λ_ h=>nomatch h⟩,λm u=>?_⟩;unfold eI;by_cases DN:m=n
  ·subst DN;rw[lU,Jx,hl];simp
  ·rw[ju _ DN];simp[DN]
 |none=>
  refine(Z1 hS hn hl a b c ht).mono ?_;rintro e w' ⟨rb,rfl,h0,h1,h2⟩;refine⟨_,_,_,rfl,h1.mono λk _ (hk:k=sb)=> .inl hk,h2,⟨[(n,rb)],rfl,λp hp=>?_⟩,λm u=>?_⟩
  ·obtain rfl:=atQ.1 hp;exact⟨h0,_,rfl,rfl⟩
  ·unfold eI;rw[QZ];by_cases DN:m=n
   ·subst DN;rw[lU,hl];simp[au]
   ·rw[ju _ DN];have:au [(n,rb)] m=none:=rD λp hp=>by obtain rfl:=atQ.1 hp;exact λe=>DN e.symm
    rw[this];simp[DN]
theorem Tu{w:aly}{sb:Nat}{bs:dB}{F:aN}(hS:aq w sb bs F){so:Nat}{bo:dB}{Fo:aN}(hO:aq w so bo Fo)(hd: ∀b,dt so bo b→¬dt sb bs b):
  asP Tryz.prog 329 #[.map (some sb),.map (some so)] w λe w'=>∃Fp F',e= .returned (.tuple #[])∧af (dt sb bs) w w'∧aq w' sb Fp F'∧cr w bs Fp F F' (eI bo Fo):=by
 have hol:=hO.top.lt;have hbo:=av.once hO.top;go_enter Tryz.func329,Tryz.ntmps329;go_wp2_with (at_range;refine fZ Tryz.underlying99 rfl (.tmp 7) rfl rfl hO.top ?_;intro w1 jh hz1 uP);go_frame
 go_loopg [4,5] bo.length (λgk _ _ wr=>∃ (came Fp:dB) (F':aN),came.length+gk=bo.length∧af (dt sb bs) w wr∧w.heap.size<wr.heap.size∧aq wr sb Fp F'∧cr w bs Fp F F' (λm u=>(∃p∈came,p.1=m)∧u∈Fo m)∧cN wr bZ at5 ji so w.heap.size bo came)
 case atStart=>exact⟨[],bs,F,by simp,jh.wider,by omega,hS.still jh (λ_ _=>id),(cr.refl w bs F).congr λm u=>by simp,uP⟩
 case round=>
  clear uP hz1 jh;obtain⟨came,Hb,F1,bW,hT,WH,hS1,uR,hR⟩:=hrel;have hO1:=hO.still hT hd;go_wp2_with (at_next;refine iy cI rfl (.tmp 8) rfl rfl hR aj ?_ ?_)
  ·intro sB;have mf: ∀p∈bo,p∈came:=λ⟨x,y⟩ hp=>sB x y hp;clear sB;have iX:=hR.sub;have HG:at3 (cr w bs Hb F F1 (eI bo Fo)):=uR.congr λm u=>by
    unfold eI;rw[fL,amk];constructor
    ·rintro⟨⟨p,hp,rfl⟩,hu⟩;exact⟨⟨p,iX.1 p hp,rfl⟩,hu⟩
    ·rintro⟨⟨p,hp,rfl⟩,hu⟩;exact⟨⟨p,mf p hp,rfl⟩,hu⟩
   clear uR mf iX;go_wp2;go_end0;exact⟨Hb,F1,rfl,hT,hS1,HG.out⟩
  ·intro n rb w2 jQ uN hlt aF iG;obtain⟨m,rfl⟩: ∃m,gk=m+1:=⟨gk- 1,by omega⟩;have hno:bZ n:=iG.sub.2.2 (n,rb) bz;have hit: ∀b,dt sb Hb b→¬b=w.heap.size:=by
    rintro b hb rfl;obtain⟨es,cl,h1⟩: ∃es cl,wr.heap[w.heap.size]? =some (.map es cl):=by
     rcases hb with hb|⟨p,hp,hb⟩
     ·obtain⟨es,cl,h1,_⟩:=hS1.top;exact⟨es,cl,hb▸h1⟩
     ·obtain⟨es,cl,h1,_⟩:=hS1.dy p hp;exact⟨es,cl,hb▸h1⟩
    obtain⟨_,_,_,_,_,_,h2,_⟩:=hR;rw[h1]at h2;cases h2
   have dK:=hT.bL aF λb (hb:b=w.heap.size)=> .inl aj;have nX:=hS1.still aF λb hb=>hit b hb;have SH:=hO.still dK hd;have AJ:=(SH.dy _ jQ).lt;have hz2:=aF.size;dsimp only at AJ;go_wp2_with (first|(refine fI rfl (.tmp 8) rfl rfl iG ?_)|(at_range;refine fZ Tryz.underlying123 rfl (.tmp 14) rfl rfl (SH.dy _ jQ) ?_;intro w3 bX hz3 qM));have Bg: ∀b,dt so bo b→¬dt sb Hb b:=λb hb hb2=>(uR.blocks hb2).elim (hd b hb) λh=>by have:=hO.low hb;omega
   have hrn:=Bg rb (.inr ⟨_,jQ,rfl⟩);have GY:=Bg so (.inl rfl);have fD:=λb (hb:dt sb Hb b)=>nX.low hb;obtain⟨it,wK⟩: ∃x,x=w2.heap.size:=⟨_,rfl⟩;rw[←wK]at qM hz3 hz2 fD⊢;have dC: ¬dt sb Hb it:=λh=>by have:=fD it h;omega
   have Bh:=nX.still bX (λ_ _=>id);have FE:=iG.turn bX id id;have eN:=dK.bL bX λ_ h=>h.elim;have hlen:(aU (Fo n)).length=(Fo n).length:=by simp[aU]
   have ahH:rb<w.heap.size:=hO.low (.inr ⟨_,jQ,rfl⟩);clear wK bX aF iG nX SH dK hR hT hS1 hO1 fD AJ
   go_loopg [] (Fo n).length (λgk wr=>∃ (dM:List (aS×Unit)) (bs2:dB) (F2:aN),dM.length+gk=(Fo n).length∧af (λb=>b=it∨dt sb Hb b) w3 wr∧it<wr.heap.size∧aq wr sb bs2 F2∧cr w3 Hb bs2 F1 F2 (λm u=>m=n∧(u,())∈dM)∧cN wr fq br aY rb it (aU (Fo n)) dM)
   case atStart=>exact⟨[],Hb,F1,by simp,af.refl _ _,by omega,Bh,(cr.refl _ _ _).congr λm u=>by simp,qM⟩
   case round=>
    clear qM Bh;obtain⟨dM,bs2,F2,sU,C4,hzi,nX,Aa,C6⟩:=hrel;have hri: ¬rb=it:=by omega
    go_wp2_with (at_next;refine iy gL rfl (.tmp 15) rfl rfl C6 hri ?_ ?_)
    ·intro sB;have mf: ∀t∈Fo n,(t,())∈dM:=λ⟨x,y,z⟩ ht=>sB x y z () (fe.2 ht);clear sB;have iX:=C6.sub;have hG:cr w bs bs2 F F2 (λm u=>(∃p∈came++ [(n,rb)],p.1=m)∧u∈Fo m):=(uR.trans Aa eN.size).congr λm u=>by
      constructor
      ·rintro(⟨⟨p,hp,rfl⟩,hu⟩|⟨rfl,hu⟩)
       ·exact⟨⟨p,aqo.2 (.inl hp),rfl⟩,hu⟩
       ·exact⟨⟨(m,rb),by simp,rfl⟩,fe.1 (iX.1 _ hu)⟩
      ·rintro⟨⟨p,hp,rfl⟩,hu⟩;rcases aqo.1 hp with hp|hp
       ·exact .inl ⟨⟨p,hp,rfl⟩,hu⟩
       ·obtain rfl:=atQ.1 hp;exact .inr ⟨rfl,mf u hu⟩
     have PD:=FE.turn C4 (λh=>h.elim aj GY) (λh=>h.elim aj λh=>hit _ h rfl);have hTo:af (dt sb bs) w wr:=eN.bL C4 λb hb=>hb.elim (λe=> .inl aj) λhb=>(uR.blocks hb).symm;have hzo:w.heap.size<wr.heap.size:=by omega
     clear mf iX Aa C4;go_wp2
     go_roundg m
     case measure=>exact atG m
     case rel=>exact⟨came++ [(n,rb)],bs2,F2,by simp;omega,hTo,hzo,nX,hG,PD⟩
    ·intro x y z u w5 S9 PX xZ bA qH;obtain⟨m2,rfl⟩: ∃m,gk=m+1:=⟨gk- 1,by omega⟩;have Da:fq (x,y,z):=qH.sub.2.2 ((x,y,z),u) bz;have hbl: ∀b,dt sb bs2 b→dt sb Hb b∨w3.heap.size≤b:=λb hb=>Aa.blocks hb;have Tg: ¬dt sb bs2 it:=λh=>(hbl _ h).elim dC λh=>by omega
     have ahG: ¬dt sb bs2 rb:=λh=>(hbl _ h).elim hrn λh=>by have:=eN.size;omega
     have tA:=(af.refl (λ_=>False) w5).alloc (.cells #[.int .u64 x,.int .u64 y,.int .u64 z] 116);have DU:=(nX.still bA λb hb (e:b=it)=>Tg (e▸hb)).still tA (λ_ _=>id);have k7:=Yp DU hno x y z Da;have zt:=bA.size;go_wp2_with (first|(refine fI rfl (.tmp 15) rfl rfl qH ?_;dsimp only[br])|(go_at_call 87;refine k7.mono ?_;clear k7;rintro e w7 ⟨bs7,F7,b7,rfl,eC,Xw,SL⟩));have C5:af (λb=>b=it∨dt sb Hb b) w3 w7:=((C4.bL bA λb (hb:b=it)=> .inr (.inl hb)).trans tA.wider).bL eC λb hb=>(hbl b hb).symm.imp id .inr;have Bi:=(qH.turn tA id id).turn eC ahG Tg;have hG:cr w3 Hb bs7 F1 F7 (λm u=>m=n∧(u,())∈dM++ [((x,y,z),())]):=(Aa.trans SL (by simp;have:=C4.size;omega)).congr λm u=>by
      rw[aqo,atQ];constructor
      ·rintro(⟨h1,h2⟩|⟨h1,rfl⟩)
       ·exact⟨h1,.inl h2⟩
       ·exact⟨h1,.inr rfl⟩
      ·rintro⟨h1,h2|h2⟩
       ·exact .inl ⟨h1,h2⟩
       ·exact .inr ⟨h1,(Prod.ext_iff.1 h2).1⟩
     have C_:it<w7.heap.size:=by have:=eC.size;simp at this;omega
     clear SL Aa eC qH DU tA;go_wp2
     go_roundg m2
     case measure=>exact atG m2
     case rel=>exact⟨dM++ [((x,y,z),())],bs7,F7,by simp;omega,C5,C_,Xw,hG,Bi⟩
end Go.Proofs.YtkdljbnllgpfhaaGreat
end
section
namespace Go.Proofs.YtkdljbnllgpfhaaGreat
open Go Go.RowKit Go.Upr
theorem A3{bs:dB}{F:aN}{n:ByteArray}{t:aS}:gP (iF bs F n) t=true↔eI bs F n t:=by
 unfold iF eI gP;split
 ·rename_i h;simp[h]
 ·rename_i h;simp[h]
def vF(n:ByteArray)(hs:List (aS×Nat))(bk:dB)(Fk:aN)(m:ByteArray)(u:aS):Prop:=m=n∧u∈hs.map aug∧¬eI bk Fk n u
theorem acb{w:aly}{sb:Nat}{bs:dB}{F:aN}(hS:aq w sb bs F){n:ByteArray}(hn:bZ n){hb:Nat}{hs:List (aS×Nat)}(hH:av w fq br cU hb hs)(Xu: ¬dt sb bs hb){kb:Nat}{bk:dB}{Fk:aN}(hK:aq w kb bk Fk)(hd: ∀b,dt kb bk b→¬dt sb bs b):
  asP Tryz.prog 343 #[.map (some sb),.string n,.map (some hb),.map (some kb)] w λe w'=>∃Fp F',e= .returned (.tuple #[])∧af (dt sb bs) w w'∧aq w' sb Fp F'∧cr w bs Fp F F' (vF n hs bk Fk):=by
 have hhl:=hH.lt;go_enter Tryz.func343,Tryz.ntmps343;go_wp2_with (at_range;refine fZ Tryz.underlying324 rfl (.tmp 9) rfl rfl hH ?_;intro w1 jh hz1 uP);go_frame
 go_loopg [] hs.length (λgk wr=>∃ (came:List (aS×Nat)) (Fp:dB) (F':aN),came.length+gk=hs.length∧af (dt sb bs) w wr∧w.heap.size<wr.heap.size∧aq wr sb Fp F'∧cr w bs Fp F F' (vF n came bk Fk)∧cN wr fq br cU hb w.heap.size hs came)
 case atStart=>exact⟨[],bs,F,by simp,jh.wider,by omega,hS.still jh (λ_ _=>id),(cr.refl w bs F).congr λm u=>by simp[vF],uP⟩
 case round=>
  clear uP hz1 jh;obtain⟨came,Hb,F1,bW,hT,WH,hS1,uR,hR⟩:=hrel;go_wp2_with (at_next;refine iy gL rfl (.tmp 10) rfl rfl hR aj ?_ ?_)
  ·intro sB;have mf: ∀p∈hs,p∈came:=λ⟨⟨x,y,z⟩,c⟩ hp=>sB x y z c hp;clear sB;have iX:=hR.sub;have HG:at3 (cr w bs Hb F F1 (vF n hs bk Fk)):=uR.congr λm u=>by
    unfold vF;simp only[amk];constructor
    ·rintro⟨h1,⟨p,hp,rfl⟩,h3⟩;exact⟨h1,⟨p,iX.1 p hp,rfl⟩,h3⟩
    ·rintro⟨h1,⟨p,hp,rfl⟩,h3⟩;exact⟨h1,⟨p,mf p hp,rfl⟩,h3⟩
   clear uR mf iX;go_wp2;go_end0;exact⟨Hb,F1,rfl,hT,hS1,HG.out⟩
  ·intro x y z c w2 jQ uN hlt aF iG;obtain⟨m,rfl⟩: ∃m,gk=m+1:=⟨gk- 1,by omega⟩;have Da:fq (x,y,z):=iG.sub.2.2 ((x,y,z),c) bz;have hit: ¬dt sb Hb w.heap.size:=by
    intro hb;obtain⟨es,cl,h1⟩: ∃es cl,wr.heap[w.heap.size]? =some (.map es cl):=by
     rcases hb with hb|⟨p,hp,hb⟩
     ·obtain⟨es,cl,h1,_⟩:=hS1.top;exact⟨es,cl,hb▸h1⟩
     ·obtain⟨es,cl,h1,_⟩:=hS1.dy p hp;exact⟨es,cl,hb▸h1⟩
    obtain⟨_,_,_,_,_,_,h2,_⟩:=hR;rw[h1]at h2;cases h2
   have tA:=(af.refl (λ_=>False) w2).alloc (.cells #[.int .u64 x,.int .u64 y,.int .u64 z] 116);have dK:=(hT.bL aF λb (hb:b=w.heap.size)=> .inl aj).bL tA λ_ h=>h.elim;have nX:=(hS1.still aF λb hb (e:b=w.heap.size)=>hit (e▸hb)).still tA (λ_ _=>id);have k6:=c86 (hK.still dK hd) hn x y z Da;have ah8: ¬dt sb Hb hb:=λh=>(uR.blocks h).elim Xu λh=>by omega
   have hz2:=aF.size;have vz:=atp w2 (.cells #[.int .u64 x,.int .u64 y,.int .u64 z] 116);have hstep: ∀ (b:Bool),gP (iF bk Fk n) (x,y,z)=b→∀m u,vF n (came++ [((x,y,z),c)]) bk Fk m u↔vF n came bk Fk m u∨(b=false∧m=n∧u=(x,y,z)):=by
    intro b hb m u;unfold vF;rw[atW,aqo];constructor
    ·rintro⟨h1,h2|h2,h3⟩
     ·exact .inl ⟨h1,h2,h3⟩
     ·obtain rfl:u=(x,y,z):=by simpa using h2
      refine .inr ⟨?_,h1,rfl⟩;cases b with
      |false=>rfl
      |true=>exact absurd (A3.1 hb) h3
    ·rintro(⟨h1,h2,h3⟩|⟨h1,h2,rfl⟩)
     ·exact⟨h1,.inl h2,h3⟩
     ·exact⟨h2,.inr bz,λh=>by rw[h1]at hb;rw[A3.2 h]at hb;cases hb⟩
   obtain⟨b,hb⟩: ∃b,gP (iF bk Fk n) (x,y,z)=b:=⟨_,rfl⟩;have hst:=hstep b hb;rw[hb]at k6;clear hb hstep;cases b with
   |true=>
    go_wp2_with (first|(refine fI rfl (.tmp 10) rfl rfl iG ?_;dsimp only[br])|(go_at_call 86;refine k6.mono ?_;clear k6;rintro e w6 ⟨rfl,bH⟩));have C7:=(iG.turn tA id id).turn bH id id;have Hh:=bH.size;simp at Hh
    go_roundg m
    case measure=>exact atG m
    case rel=>exact⟨came++ [((x,y,z),c)],Hb,F1,by simp;omega,dK.bL bH λ_ h=>h.elim,by omega,nX.still bH (λ_ _=>id),uR.congr λm u=>by rw[hst];simp,C7⟩
   |false=>
    have k7:=λ(w6:aly) bH=>Yp (nX.still (bH:af (λ_=>False) _ w6) (λ_ _=>id)) hn x y z Da;go_wp2_with (first|(refine fI rfl (.tmp 10) rfl rfl iG ?_;dsimp only[br])|(go_at_call 86;refine k6.mono ?_;clear k6;rintro e w6 ⟨rfl,bH⟩;obtain⟨y0,y1,y2,-⟩:=bI (bH.kept vz id))|(go_at_call 87;refine(k7 w6 bH).mono ?_;clear k7;rintro e w7 ⟨bs7,F7,b7,rfl,eC,Xw,SL⟩));have Bi:=((iG.turn tA id id).turn bH id id).turn eC ah8 hit;have Hh:=bH.size;have C_:=eC.size;simp at Hh;have C5:af (dt sb bs) w w7:=(dK.bL bH λ_ h=>h.elim).bL eC λb hb=>(uR.blocks hb).symm;have hG:cr w bs bs7 F F7 (vF n (came++ [((x,y,z),c)]) bk Fk):=(uR.trans SL aj).congr λm u=>by rw[hst];simp
    clear SL;go_wp2
    go_roundg m
    case measure=>exact atG m
    case rel=>exact⟨came++ [((x,y,z),c)],bs7,F7,by simp;omega,C5,by omega,Xw,hG,Bi⟩
end Go.Proofs.YtkdljbnllgpfhaaGreat
end
section
namespace Go.Proofs.YtkdljbnllgpfhaaGreat
open Go Go.RowKit Go.Upr
def eK(rs:List bQ):List ByteArray:=rs.foldl (λg r=>ly g r.head.n) []
theorem JV{rs:List bQ}{k:Nat}{y:bQ}(hy:rs[k]? =some y):eK (rs.take (k+1))=ly (eK (rs.take k)) y.head.n:=by
 unfold eK;rw[at8,hy,avV,at9];rfl
structure fB(w:aly)(K:Hp)(lb sb:Nat)(rs:List bQ)(ra:Option alA)(rc:Nat):Prop where
 known:K.In w
 block:w.heap[lb]? =some (.cells #[.slice ra rs.length rc,.map (some sb)] 322)
 rules:K.list 3 uJ (.slice ra rs.length rc) rs
theorem fB.turn{w w':aly}{K:Hp}{lb sb:Nat}{rs:List bQ}{ra:Option alA}{rc:Nat}{D:Nat→Prop}(h:fB w K lb sb rs ra rc)(ht:af D w w')(h1: ¬D lb)(h2: ∀b o,K b=some o→¬D b):fB w' K lb sb rs ra rc:=
 ⟨h.known.turn ht h2,ht.kept h.block h1,h.rules⟩
theorem fB.still{w w':aly}{K:Hp}{lb sb:Nat}{rs:List bQ}{ra:Option alA}{rc:Nat}(h:fB w K lb sb rs ra rc)(ht:af (λ_=>False) w w'):fB w' K lb sb rs ra rc:=h.turn ht id λ_ _ _=>id
theorem aeF{K:Hp}{w:aly}{lb sb:Nat}{rs:List bQ}{ra:Option alA}{rc:Nat}(hL:fB w K lb sb rs ra rc)(gH: ∀r∈rs,bZ r.head.n)(hn:rs.length≤1048576):
  asP Tryz.prog 347 #[.pointer (some ⟨lb,0,none⟩)] w λe w'=>∃nb,e= .returned (.map (some nb))∧w.heap.size≤nb∧af (λ_=>False) w w'∧av w' bZ at5 aY nb (aU (eK rs)):=by
 obtain⟨q1,q2,hv2,hat⟩:=hL.rules.at hL.known;obtain⟨rfl,rfl⟩:ra=q1∧rc=q2:=by simpa using hv2
 clear hv2;have tV:= @auj Tryz.prog;have p8:av (w.alloc (.map #[] 0)) bZ at5 aY w.heap.size (aU (eK (rs.take 0))):=av.made;obtain⟨a0,a1,-,-⟩:=b9 hL.block;have jy:=atm hL.block;go_enter Tryz.func347,Tryz.ntmps347;go_wp2
 go_loopw [13] (λi wr=>∃k:Nat,k≤rs.length∧i= .int .i64 k∧af (λ_=>False) w wr∧av wr bZ at5 aY w.heap.size (aU (eK (rs.take k)))) (λi _=>rs.length-(intOf i).toNat)
 case atStart=>exact⟨0,arQ _,rfl,(af.refl _ _).alloc _,p8⟩
 case round=>
  clear p8;obtain⟨k,hk,rfl,hT,hM⟩:=hrel;by_cases hlt:k<rs.length
  ·obtain⟨y,hy⟩: ∃y,rs[k]? =some y:=⟨_,arn hlt⟩;obtain⟨g,o,cc,rfl,bW,hR,ag⟩:=hat k y hy;have Hi:=gH y (ann hy);obtain⟨ha,hc,ba,bc,rfl,-⟩:=hR;have e0:=hT.cell (ag 0 aI) id;have e1:=hT.cell (ag 1 aI) id;have e2:=hT.cell (ag 2 aI) id;simp only[at6,←at7]at e0 e1 e2;have HS:at3 (aU (eK (rs.take (k+1)))=dO (aU (eK (rs.take k))) y.head.n ()):=by show _=_;rw[JV hy,qq]
   clear hy ag bW;have k3:=λw'=>Tv (n:=y.head.n) (a1:=ha) (a2:=ba) (l1:=y.head.ts.length) (l2:=y.body.length) (k1:=hc) (k2:=bc) w';have Fi:=hM.turn ((af.refl (λ_=>False) wr).alloc (.cells #[.string y.head.n,.slice ha y.head.ts.length hc,.slice ba y.body.length bc] 318)) id;go_wp2_with (first|(go_at_call 323;refine(k3 _).mono ?_;rintro e w4 ⟨rfl,ck⟩)|(at_mapUpdate;refine bj cI Tryz.underlying249 rfl (.tmp 17) (.tmp 19) (.tmp 20) rfl rfl (Fi.turn ck id) rfl Hi () rfl ?_;intro w5 bA mg));go_roundw
   case rel=>exact⟨k+1,by omega,by go_num,((hT.alloc _).trans ck).bL bA (λb (hb:b=w.heap.size)=> .inl aj),by rw[HS.out];exact mg⟩
   case measure=>simp[intOf];omega
  ·have iQ:rs.take k=rs:=at4 aj;rw[iQ]at hM;go_wp2;go_ret;exact⟨_,rfl,agl _,hT,hM⟩
end Go.Proofs.YtkdljbnllgpfhaaGreat
end
section
namespace Go.Proofs.YtkdljbnllgpfhaaGreat
open Go Go.RowKit Go.Upr
theorem ZR:eL Tryz.prog 450 457 1 8:= .mk' Tryz.underlying450 (z:= .pointer none) ar rfl aI
def vM(r:bQ)(i:Nat):Jn:=ic r.head ((r.body[i]?).elim wX (·.a)) (fE r i)
def yA(ns:List ByteArray)(r:bQ):List Jn:=(dc ns r.body r.body.length).map (vM r)
def kr(ns:List ByteArray)(rs:List bQ):List Jn:=rs.flatMap (yA ns)
theorem J7{ns:List ByteArray}{rs:List bQ}{k:Nat}{y:bQ}(hy:rs[k]? =some y):kr ns (rs.take (k+1))=kr ns (rs.take k)++yA ns y:=by
 unfold kr;rw[at8,hy,List.flatMap_append];simp
theorem CN{ns:List ByteArray}{rs:List bQ}(h: ∀r∈rs,r.body.length≤4):(kr ns rs).length≤4*rs.length:=by
 unfold kr
 induction rs with
 |nil=>exact agl _
 |cons r rs ih=>
  have h1:=ih λr hr=>h r (ao0 _ hr);have h2:=pF ns r.body r.body.length;have h3:=h r (ao3 ..);rw[List.flatMap_cons,ap2,as2];have h4:(yA ns r).length≤4:=by unfold yA;rw[auB];omega
  omega
def RdJ(_:Hp)(c:List aad)(p:Nat×Jn):Prop:=c= [.pointer (some ⟨p.1,0,none⟩)]
theorem gO.ext{V:Bool→ByteArray→Vw}{w w':aly}{N:Nat}{k k':Hp}{jb:Nat}{J:Jn}(h:gO V w N k jb J)(ht:af (λ_=>False) w w')(hx:Hp.Ext w.heap.size k k')(hk:k'.In w'):gO V w' N k' jb J:=by
 obtain⟨h1,h2,h3,ha,hc,fa,fc,sa,sc,ga,gc,a1,a2,a3,a4,a5,a6⟩:=h;refine⟨hk,h2,?_,ha,hc,fa,fc,sa,sc,ga,gc,ht.kept a1 id,Hp.list.mono (h:=k) (k:=k') (λ_ _ q=>q) a2 hx.le,Hp.list.mono (h:=k) (k:=k') (λ_ _ q=>q) a3 hx.le,Hp.list.mono (h:=k) (k:=k') (λ_ _=>jX.mono hx.le) a4 hx.le,a5.ext ht hx hk (λ_ _=>Dh.mono hx.le),a6⟩;cases hj:k' jb with
 |none=>rfl
 |some o=>
  rcases hx.new jb o hj with h5|h5
  ·rw[h3]at h5;cases h5
  ·have:=atm a1;omega
theorem _root_.Go.Upr.aw.row{α:Type}{w:aly}{N e sz:Nat}{R:Hp→List aad→α→Prop}{k:Hp}{v:aad}{xs:List α}(h:aw w N e sz R k v xs){b:Nat}(hb:v.ownBlock=some b): ∃cs,w.heap[b]? =some (.cells cs e):=by
 obtain⟨_,_,dS,_,_,_,h4⟩:=h;rcases h4.2 with⟨rfl,h5⟩|⟨g,cap,cur,rfl,_,h6,_⟩
 ·cases hb
 ·exact⟨cur,alN hb▸h6⟩
theorem gO.frame{V:Bool→ByteArray→Vw}{w w':aly}{N:Nat}{k:Hp}{jb:Nat}{J:Jn}{D:Nat→Prop}(h:gO V w N k jb J)(ht:af D w w')(d1: ∀b o,k b=some o→¬D b)(d2: ∀b cs t,w.heap[b]? =some (.cells cs t)→t=479∨t=497→¬D b):gO V w' N k jb J:=by
 obtain⟨h1,h2,h3,ha,hc,fa,fc,sa,sc,ga,gc,a1,a2,a3,a4,a5,a6⟩:=h;exact⟨h1.turn ht d1,h2,h3,ha,hc,fa,fc,sa,sc,ga,gc,ht.kept a1 (d2 _ _ _ a1 (.inl rfl)),a2,a3,a4,a5.gB ht (λb hb=>by obtain⟨cs,h5⟩:=a5.row hb;exact d2 _ _ _ h5 (.inr rfl)) d1,a6⟩
theorem acd{K:Hp}{w:aly}{lb sb:Nat}{rs:List bQ}{ra:Option alA}{rc:Nat}(hL:fB w K lb sb rs ra rc)(ok: ∀r∈rs,gW r)(hn:rs.length≤1048576){sc:Hs}{F0 F1 F2:aN}(hS:mq w sc F0 F1 F2):
  asP Tryz.prog 337 #[.pointer (some ⟨lb,0,none⟩),.agg #[.map sc.m0,.map sc.m1,.map sc.m2]] w λe w'=>∃v k,∃js:List (Nat×Jn),e= .returned v∧af (λ_=>False) w w'∧Hp.Ext w.heap.size K k∧aw w' w.heap.size 457 1 RdJ k v js∧(∀p∈js,gO (pM sc sc) w' w.heap.size k p.1 p.2)∧js.map auw=kr (eK rs) rs:=by
 obtain⟨q1,q2,hv2,hat⟩:=hL.rules.at hL.known;obtain⟨rfl,rfl⟩:ra=q1∧rc=q2:=by simpa using hv2
 clear hv2;obtain⟨W,hW⟩: ∃W,W=w.alloc (.cells #[.map sc.m0,.map sc.m1,.map sc.m2] 444):=⟨_,rfl⟩;have bM:af (λ_=>False) w W:=by rw[hW];exact(af.refl _ w).alloc _
 have zx:W.heap[w.heap.size]? =some (.cells #[.map sc.m0,.map sc.m1,.map sc.m2] 444):=by rw[hW];exact atp _ _
 have k1:=aeF (hL.still bM) (λr hr=>(ok r hr).Iz) hn;generalize eK rs=ns at k1⊢;go_enter Tryz.func337,Tryz.ntmps337;go_wp2_with (first|(rw[←hW];clear hW)|(go_at_call 347;refine k1.mono ?_;clear k1;rintro e w2 ⟨nb,rfl,AL,aF,SI⟩;have dK:=bM.trans aF;obtain⟨a0,a1,-,-⟩:=b9 (dK.kept hL.block id);have qK:=atm (dK.kept hL.block id)));have DW:=aF.kept zx id;have hz0:=bM.size;have lr:aw w2 w2.heap.size 457 1 RdJ K (.slice none 0 0) ([]:List (Nat×Jn)):= .nil (hL.known.turn dK λ_ _ _=>id);clear bM aF AL zx a0 a1 qK
 go_loopw [6,10,19] (λv _ i wr=>∃k:Nat,∃ (K1:Hp) (js:List (Nat×Jn)),k≤rs.length∧i= .int .i64 k∧af (λ_=>False) w2 wr∧Hp.Ext w.heap.size K K1∧aw wr w2.heap.size 457 1 RdJ K1 v js∧at3 (∀p∈js,gO (pM sc sc) wr w.heap.size K1 p.1 p.2)∧at3 (js.map auw=kr ns (rs.take k))) (λ_ _ i _=>rs.length-(intOf i).toNat)
 case atStart=>exact⟨0,K,[],arQ _,rfl,af.refl _ _,Hp.Ext.refl _ _,lr,λ_ h=>(nomatch h),rfl⟩
 case round=>
  clear lr;obtain⟨k,K1,js,hk,rfl,hT,hx,hm,Nz,rS⟩:=hrel;have sD:=dK.trans hT;by_cases hlt:k<rs.length
  ·obtain⟨r,hr⟩: ∃y,rs[k]? =some y:=⟨_,arn hlt⟩;obtain⟨g,o,cc,rfl,bW,hR,ag⟩:=hat k r hr;have ro:=ok r (ann hr);obtain⟨ha,hc,ba,bc,rfl,R_,DV,SB⟩:=hR;have e0:=sD.cell (ag 0 aI) id;have e1:=sD.cell (ag 1 aI) id;have e2:=sD.cell (ag 2 aI) id;simp only[at6,←at7]at e0 e1 e2;have HS:at3 (kr ns (rs.take (k+1))=kr ns (rs.take k)++yA ns r):=J7 hr;have jy:js.length≤4*k:=by
    have h1:=CN (ns:=ns) (rs:=rs.take k) λr hr=>(ok r (ava hr)).mo;have h2:=congrArg awu rS.out;rw[auB]at h2;rw[as1]at h1;omega
   obtain⟨pl,hpl⟩: ∃pl,pl=dc ns r.body r.body.length:=⟨_,rfl⟩;have G3:pl.length≤4:=by rw[hpl];have:=pF ns r.body r.body.length;have:=ro.mo;omega
   have Nt: ∀i∈pl,i<r.body.length:=λi hi=>by rw[hpl]at hi;exact List.mem_range.1 (List.mem_filter.1 hi).1
   have HJ:at3 (yA ns r=pl.map (vM r)):=by show _=_;rw[hpl];rfl
   clear hr ag bW;have tA:=(af.refl (λ_=>False) wr).alloc (.cells #[.string r.head.n,.slice ha r.head.ts.length hc,.slice ba r.body.length bc] 318);have k2:=aeE (r:=r) (ha:=ha) (hl:=r.head.ts.length) (hc:=hc) ((hL.known.turn sD λ_ _ _=>id).turn tA λ_ _ _=>id) DV (λl hl=>(ro.jl l hl).2.2) (by have:=ro.mo;omega) (SI.turn (hT.trans tA) id);rw[←hpl]at k2;clear hpl;go_wp2_with (go_at_call 348;refine k2.mono ?_;clear k2;rintro e w5 ⟨v5,k5,rfl,bA,RY,Pu,Sz⟩;obtain⟨pa,pc,rfl⟩:=Sz.shape);have iW:=tA.trans bA;have Le:=sD.trans iW;have Bo:=bA.kept (atp wr (.cells #[.string r.head.n,.slice ha r.head.ts.length hc,.slice ba r.body.length bc] 318)) id;have Bj:=(hT.trans iW).kept DW id;have o0:=hm.turn iW (λ_ _ h=>h) (λ_ _ _ h=>h);have adW: ∀p∈js,gO (pM sc sc) w5 w.heap.size K1 p.1 p.2:=λp hp=>(Nz.out p hp).frame iW (λ_ _ _=>id) λ_ _ _ _ _=>id;have hT9:=hT;obtain⟨q5,q6,RQ,x_⟩:=Sz.at RY;obtain⟨rfl,rfl⟩:pa=q5∧pc=q6:=by simpa using RQ
   have hzz:wr.heap.size<w5.heap.size:=atm Bo;have hgn: ∀g o,pa=some ⟨g,o,none⟩→¬(w2.heap.size≤g∧g<wr.heap.size):=by
    rintro g o rfl ⟨h1,h2⟩;obtain⟨ob,pk⟩:=Sz.block;rcases Pu.new g ob pk with h3|h3
    ·have:=hL.known.lt h3;have:=dK.size;omega
    ·simp at h3;omega
   have D7: ∀b,u6.ownBlock=some b→b<wr.heap.size∨w5.heap.size≤b:=λb hb=> .inl (hm.own b hb).2;have hwp:=atm DW;have hTz:=hT.size;obtain⟨z0,hz0⟩: ∃z,z=wr.heap.size:=⟨_,rfl⟩;rw[←hz0]at Bo hzz hgn D7 hTz⊢;clear RQ Nz hm tA bA hz0 hT
   go_loopw [6,10,27] (λv _ i wr=>∃j:Nat,∃ (K2:Hp) (Xc:List (Nat×Jn)),j≤pl.length∧i= .int .i64 j∧af (λb=>w2.heap.size≤b∧b<z0) w5 wr∧at3 (∀b,v.ownBlock=some b→b<z0∨w5.heap.size≤b)∧Hp.Ext w.heap.size K K2∧aw wr w2.heap.size 457 1 RdJ K2 v Xc∧at3 (∀p∈Xc,gO (pM sc sc) wr w.heap.size K2 p.1 p.2)∧at3 (Xc.map auw=kr ns (rs.take k)++(pl.take j).map (vM r))) (λ_ _ i _=>pl.length-(intOf i).toNat)
   case atStart=>exact⟨0,K1,js,arQ _,rfl,af.refl _ _,D7,hx,o0,adW,by show _=_;rw[rS.out];simp⟩
   case round=>
    clear o0 adW rS D7;obtain⟨j,K2,Xc,hj,rfl,hT,hown,hx2,hm,Nz,Te⟩:=hrel;by_cases hlt:j<pl.length
    ·obtain⟨i,hi⟩: ∃y,pl[j]? =some y:=⟨_,arn hlt⟩;obtain⟨g',o',cc,rfl,bW,rfl,ag⟩:=x_ j i hi;have e3:=hT.cell (ag 0 aI) (hgn g' o' rfl);simp only[at6,Nat.mul_one]at e3;obtain⟨l,hl⟩: ∃y,r.body[i]? =some y:=⟨_,arn (Nt i (ann hi))⟩;have HP:at3 ((pl.take (j+1)).map (vM r)=(pl.take j).map (vM r)++ [ic r.head l.a (fE r i)]):=by
      show _=_;rw[at8,hi,atW];show _++ [vM r i]=_;unfold vM;rw[hl];rfl
     have hl2:Xc.length≤4*k+4:=by
      have h1:=CN (ns:=ns) (rs:=rs.take k) λr hr=>(ok r (ava hr)).mo;have h2:=congrArg awu Te.out;rw[auB,ap2,auB,as1]at h2;rw[as1]at h1;omega
     clear ag bW;have gT:af (λ_=>False) w wr:=Le.bL hT λb hb=> .inl (by have:=dK.size;omega);have hAr:=hT.kept Bo aj;have hPr:=hT.kept Bj aj;obtain⟨a0,a1,a2,-⟩:=bI hAr;obtain⟨b0,b1,b2,-⟩:=bI hPr;have qK:=atm hAr;have hbl:=atm hPr;have wE:=hS.turn gT;have k4:=aeG hm.known (Hp.list.mono (h:=K) (k:=K2) (λ_ _ q=>q) R_ hx2.le) (Hp.list.mono (h:=K) (k:=K2) (λ_ _=>xT.mono hx2.le) DV hx2.le) SB ro i hl wE wE;have hzq:=gT.size;generalize ic r.head l.a (fE r i)=J at k4 HP;clear hl hi;go_wp2_with (first|(go_at_call 344;refine k4.mono ?_;clear k4;rintro e w7 ⟨jb,K7,rfl,eC,Nq,Ho⟩;have Dc:=hm.ext eC Nq Ho.known (λ_ _ h=>h);have C_:=eC.size)|(at_builtin;refine bK ZR rfl (.tmp 31) (.tmp 37) rfl Dc rfl (jb,J) #[.pointer (some ⟨jb,0,none⟩)] rfl rfl (by simp[atv]) rfl rfl aj aj aj ?_;intro g8 Tq w8 Ny jJ hg8));have hno: ∀b cs t,w7.heap[b]? =some (.cells cs t)→t=479∨t=497→¬u6.ownBlock=some b:=λb cs t hb ht=>Dc.kT hb λcs' e=>by
      cases e;rcases ht with h|h<;>cases h
     have WH:=hT.size;have agi: ∀b,(am0 (some ⟨g8,0,none⟩) (Xc.length+1) Tq).ownBlock=some b→b<z0∨w5.heap.size≤b:=by
      intro b hb;obtain rfl:=alN hb;rcases hg8 with h|h
      ·exact hown.out _ h
      ·exact .inr (by show _≤g8;omega)
     have zv:af (λb=>w2.heap.size≤b∧b<z0) w5 w8:=(hT.bL eC λ_ h=>h.elim).bL jJ λb hb=>(hown.out b hb).symm.imp id λh=>⟨(Dc.own b hb).1,h⟩;have ah1: ∀p∈Xc++ [(jb,J)],gO (pM sc sc) w8 w.heap.size K7 p.1 p.2:=by
      intro p hp;rcases aqo.1 hp with hp|hp
      ·exact((Nz.out p hp).ext eC Nq Ho.known).frame jJ (λb o hb=>Dc.apart b o hb) hno
      ·obtain rfl:=atQ.1 hp;exact(Ho.weak aj).frame jJ (λb o hb=>Dc.apart b o hb) hno
     go_roundw
     case rel=>exact⟨j+1,K7,Xc++ [(jb,J)],by omega,by go_num,zv,agi,hx2.trans Nq aj,Ny,ah1,by show _=_;rw[HP.out,atW,Te.out,List.append_assoc];rfl⟩
     case measure=>simp[intOf];omega
    ·have iQ:pl.take j=pl:=at4 aj;rw[iQ,←HJ.out]at Te;go_wp2;go_roundw
     case rel=>exact⟨k+1,K2,Xc,by omega,by go_num,(hT9.trans iW).bL hT λb hb=> .inl hb.1,hx2,hm,Nz,by show _=_;rw[HS.out,Te.out]⟩
     case measure=>simp[intOf];omega
  ·have iQ:rs.take k=rs:=at4 aj;rw[iQ]at rS;go_wp2;go_ret;exact⟨_,K1,js,rfl,sD,hx,hm.lower dK.size,Nz.out,rS.out⟩
end Go.Proofs.YtkdljbnllgpfhaaGreat
end
