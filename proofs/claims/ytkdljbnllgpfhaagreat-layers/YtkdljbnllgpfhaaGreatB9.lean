import Derived.Test.YtkdljbnllgpfhaaGreatA8
import Derived.Test.YtkdljbnllgpfhaaGreatB0
import Derived.Test.YtkdljbnllgpfhaaGreatB2
import Derived.Test.YtkdljbnllgpfhaaGreatB8
import Derived.Shelf.SlSortCmp.Insertion
set_option maxRecDepth 100000
set_option maxHeartbeats 8000000
open Go renaming lt_of_block→atm,heap_alloc_new→atp,World→aly,Value→aad,cell_of_row→aqF,Calls→asP,Oper→apy,bodyPost_ret→atg,Frame→aoz,FuncId→alB,Item→api,Program→alu,Operand→ang,Addr→alA
open Go.Value renaming string→at5,oneCell'→atv
open List renaming getElem?_eq_getElem→arn,take_of_length_le→at4,mem_of_getElem?→ann,length_map→auB,take_add_one→at8,length_take→as1,foldl_append→at9,getElem?_map→anr,any_eq_true→aue,getElem?_eq_none→avj,length_cons→as2,mem_map→amk
open Go.Sort renaming insertionSort→awD,ahead→awF,insertionSort_holds→awG
open Nat renaming zero_le→arQ,zero_add→arN,add_assoc→at7,add_zero→at6,le_refl→agl,min_eq_left→avl
open Option renaming toList_some→avV
open Go.Region renaming wanted→apY
open Go.Lib renaming compareInt→awE
open Go.ByteArray renaming toList_eq→asT
open Array renaming getElem?_toList→an0
open Go.RowKit renaming Hid→at3,run_makeMap→auj
open Go.RowKit.Below renaming heap_alloc→atn
open Subtype renaming val→awH
open Int renaming le_refl→awI
open Go.Proofs renaming sortWorld_none→awJ
open Option.some renaming inj→alN
open ByteArray renaming mk→awK
open Go.Shelf renaming Ren→asR
section
namespace Go.Proofs.YtkdljbnllgpfhaaGreat
open Go Go.RowKit Go.Upr
def qi(b:eB)(l:iY):iY:=⟨NN b l.a,l.neg⟩
def kK(b:eB)(r:bQ):bQ:=⟨NN b r.head,r.body.map (qi b)⟩
theorem JD{b:eB}{ls:List iY}{k:Nat}{y:iY}(hy:ls[k]? =some y):(ls.take (k+1)).map (qi b)=(ls.take k).map (qi b)++ [qi b y]:=by
 rw[at8,hy];simp
theorem ajk{h:Hp}{w:aly}(hw:h.In w){r:bQ}{ha ba:Option alA}{hc bc:Nat}(hH:h.list 2 r_ (.slice ha r.head.ts.length hc) r.head.ts)(hB:h.list 3 xT (.slice ba r.body.length bc) r.body)(ok:gW r){b:eB}(hb:okB b):
  asP Tryz.prog 352 #[.agg #[.string r.head.n,.slice ha r.head.ts.length hc,.slice ba r.body.length bc],cZ b] w λe w'=>∃va vc vb vd,e= .returned (.agg #[.string r.head.n,.slice va r.head.ts.length vc,.slice vb r.body.length vd])∧af (λ_=>False) w w'∧∃k:Hp,k.In w'∧h.le k∧k.list 2 r_ (.slice va r.head.ts.length vc) (NN b r.head).ts∧k.list 3 xT (.slice vb r.body.length vd) (r.body.map (qi b)):=by
 obtain⟨q1,q2,hv2,hat⟩:=hB.at hw;obtain⟨rfl,rfl⟩:ba=q1∧bc=q2:=by simpa using hv2
 clear hv2;have Iw:(aM b).size=12:=by rw[cX];exact hb.1
 obtain⟨w1,ik⟩: ∃x,x=(w.alloc (.cells #[.string r.head.n,.slice ha r.head.ts.length hc,.slice ba r.body.length bc] 318)).alloc (.cells (aM b) 467):=⟨_,rfl⟩;obtain⟨W,hW⟩: ∃W,W=w1.alloc (.cells #[.string ⟨#[]⟩,.slice none 0 0,.slice none 0 0] 318):=⟨_,rfl⟩;have hz1:w1.heap.size=w.heap.size+2:=by rw[ik];simp
 have je:af (λ_=>False) w w1:=by rw[ik];exact((af.refl _ w).alloc _).alloc _
 have hN1:bS w1 (w.heap.size+1) 467 b:=by rw[ik];exact aR _ _ _
 have WW:w1.heap[w.heap.size]? =some (.cells #[.string r.head.n,.slice ha r.head.ts.length hc,.slice ba r.body.length bc] 318):=by rw[ik];exact bq _ _ _
 have t1:af (λ_=>False) w1 W:=by rw[hW];exact(af.refl _ _).alloc _
 have bM:af (λ_=>False) w W:=je.trans t1;have NG:bS W (w.heap.size+1) 467 b:=t1.kept hN1 id;have zx:=t1.kept WW id;have lY:W.heap[w.heap.size+2]? =some (.cells #[.string ⟨#[]⟩,.slice none 0 0,.slice none 0 0] 318):=by rw[hW,←hz1];exact atp _ _
 have hWz:W.heap.size=w.heap.size+3:=by rw[hW];simp[hz1]
 rw[ik]at hW;obtain⟨N,hN⟩: ∃N,N=w.heap.size+1:=⟨_,rfl⟩;obtain⟨A,hA⟩: ∃B,B=w.heap.size+1+1:=⟨_,rfl⟩;have hA':w.heap.size+2=A:=by omega
 rw[←hN]at NG;rw[hA']at lY;have n1:w.heap.size<N:=by omega
 have n2:N<A:=by omega
 have n3:W.heap.size=A+1:=by omega
 obtain⟨p0,p1,p2,-⟩:=bI zx;have hpl:=atm zx;have k1:=aey (hw.turn bM λ_ _ _=>id) (⟨_,rfl,hH⟩:NL h [.string r.head.n,.slice ha r.head.ts.length hc] r.head) ok.nE ok.ml hb;unfold cZ at k1⊢;clear ik hz1 je hN1 WW t1 hA' w1 hWz;go_enter Tryz.func352,Tryz.ntmps352;go_wp2_with (first|(rw[←hW,←hA,←hN];clear hW hA hN;refine fH rfl (.tmp 3) rfl rfl NG Tryz.underlying467 rfl (by rw[Iw];kernel_rfl) ?_)|(go_at_call 368;refine k1.mono ?_;clear k1;rintro e w2 ⟨v1,rfl,aF,il⟩;have DW:=aF.kept zx id;obtain⟨p0,p1,p2,-⟩:=bI DW;have hzp:=atm DW;obtain⟨va,vc,xP⟩:=il.shape;rw[auB]at xP;subst xP));obtain⟨v1,xP⟩: ∃v1,v1=Value.slice va r.head.ts.length vc:=⟨_,rfl⟩;rw[←xP];rw[←xP]at il;replace xP:at3 _:=xP;obtain⟨k1,d1,d2,d3,d4⟩:=il.done (λ_ _ _ _ q=>q);have hx1:Hp.Ext (A+1) h k1:=⟨d2,λb o hb=>(d3 b o hb).imp id λe=>by have:=(il.own b e).1;omega⟩;obtain⟨B,hB⟩: ∃B,B=w2.heap.size:=⟨_,rfl⟩;obtain⟨wb,Be⟩: ∃x,x=w2.alloc (.cells #[.string r.head.n,v1,.slice none 0 0] 318):=⟨_,rfl⟩;have tb:af (λ_=>False) w2 wb:=by rw[Be];exact(af.refl _ _).alloc _
 have hBb:wb.heap[B]? =some (.cells #[.string r.head.n,v1,.slice none 0 0] 318):=by rw[Be,hB];exact atp _ _
 have hz2:=aF.size;have hkB:k1 B=none:=d1.free aj;have hBw:A+1≤B:=by omega
 rw[←Be,←hB];have dK:af (λ_=>False) w wb:=(bM.trans aF).trans tb;have XF:=tb.kept (aF.kept lY id) id;have hNb:bS wb N 467 b:=tb.kept (aF.kept NG id) id;have oZ:aw wb (B+1) 382 3 xT k1 (.slice none 0 0) ((r.body.take 0).map (qi b)):= .nil (d1.turn tb (λ_ _ _ h=>h));clear Be hB p0 p1 p2 DW il aF tb hz2 hzp
 go_loopw [16] (λi wr=>∃ (k:Nat) (v2:aad) (K:Hp),k≤r.body.length∧i= .int .i64 k∧af (λ_=>False) w wr∧bS wr N 467 b∧wr.heap[A]? =some (.cells #[.string ⟨#[]⟩,.slice none 0 0,.slice none 0 0] 318)∧wr.heap[B]? =some (.cells #[.string r.head.n,v1,v2] 318)∧Hp.Ext (A+1) h K∧K B=none∧K.list 2 r_ v1 (NN b r.head).ts∧aw wr (B+1) 382 3 xT K v2 ((r.body.take k).map (qi b))) (λi _=>r.body.length-(intOf i).toNat)
 case atStart=>exact⟨0,_,k1,arQ _,rfl,dK,hNb,XF,hBb,hx1,hkB,d4,oZ⟩
 case round=>
  clear hkB oZ hNb XF hBb dK hx1 d1 d2 d3 d4 k1 wb zx lY NG bM;obtain⟨k,v2,K,hk,rfl,hT,hN,hA,KH,hx,hKB,o7,hm⟩:=hrel;have hsz:=atm KH;by_cases hlt:k<r.body.length
  ·obtain⟨y,hy⟩: ∃y,r.body[k]? =some y:=⟨_,arn hlt⟩;obtain⟨g,o,cc,rfl,bW,hR,ag⟩:=hat k y hy;obtain⟨ya,yc,rfl,wF⟩:=hR.cells;have e0:=hT.cell (ag 0 aI) id;have e1:=hT.cell (ag 1 aI) id;have e2:=hT.cell (ag 2 aI) id;simp only[at6,←at7]at e0 e1 e2;have HS:at3 ((r.body.take (k+1)).map (qi b)=(r.body.take k).map (qi b)++ [qi b y]):=JD hy;obtain⟨y3,yo,-⟩:=ok.jl y (ann hy);have jy:((r.body.take k).map (qi b)).length≤4:=by rw[auB,as1];have:=ok.mo;omega
   have hb4:=ok.mo;clear hy ag bW hR;generalize(r.body.take k).map (qi b)=rs at hm jy HS;obtain⟨wa,gY⟩: ∃wa,wa=wr.alloc (.cells #[.string y.a.n,.slice ya y.a.ts.length yc,.bool y.neg] 382):=⟨_,rfl⟩;obtain⟨P,zw⟩: ∃P,P=wr.heap.size:=⟨_,rfl⟩;have gI:af (λ_=>False) wr wa:=by rw[gY];exact(af.refl _ wr).alloc _
   have hP:wa.heap[P]? =some (.cells #[.string y.a.n,.slice ya y.a.ts.length yc,.bool y.neg] 382):=by rw[gY,zw];exact atp _ _
   have hpl:=atm hP;have sJ:=gI.kept KH id;have hBl:=atm sJ;obtain⟨b0,b1,b2,fb0,fb1,fb2⟩:=bI sJ;obtain⟨p0,p1,p2,-⟩:=bI hP;have hNa:bS wa N 467 b:=gI.kept hN id;have Db:=hNa.lt;have rQ:=hm.turn gI (λ_ _ h=>h) (λ_ _ _ h=>h);have c2:=aey (rQ.known.turn (af.refl (λ_=>False) wa).drew (λ_ _ _ h=>h)) (⟨_,rfl,Hp.list.mono (h:=h) (k:=K) (λ_ _ q=>q) wF hx.le⟩:NL K [.string y.a.n,.slice ya y.a.ts.length yc] y.a) y3 yo hb;unfold cZ at c2;go_wp2_with (rw[←gY,←zw];clear gY zw);refine aG (λi=>i==5||i==9||i==10||i==11||i==12) ar ar ?_;intro S gg fN gc gf gh gb;iterate 4 (refine ak ar aC aC λK hK=>?_;go_big_quiet_op;refine hK _ ?_;clear hK K)
   refine dF ar aC (.tmp 3) rfl rfl (λw' ⟨x,e⟩=>by rw[e];exact(gh x _ Db).trans hNa) Tryz.underlying467 rfl (by rw[Iw];kernel_rfl) ?_;go_frame;refine ai ar aC λQ' hQ=>?_;go_wp2_with (go_at_call 368;refine c2.mono ?_;rintro e w4 ⟨v4,rfl,ck,lB⟩);have h4:af (λ_=>False) wa w4:=(af.refl _ _).drew.trans ck;refine hQ _ _ ar (λ_=>gb _ h4.below) ?_;clear hQ Q' c2;iterate 3 (refine ak ar aC aC λK hK=>?_;go_big_quiet_op;refine hK _ ?_;clear hK K)
   refine ai ar aC λQ' hQ=>?_;go_wp2;refine hQ _ _ ar (λ_=>gb _ (h4.alloc _).below) ?_;clear hQ Q';obtain⟨K4,q1,q2,q3,q4⟩:=lB.done (λ_ _ _ _ q=>q);have akG:wa.drew.heap.size=wa.heap.size:=rfl
   have uC:Hp.Ext (A+1) h K4:=⟨hx.le.trans q2,λb o hb=>by
    rcases q3 b o hb with h1|h1
    ·exact hx.new b o h1
    ·have:=(lB.own b h1).1;exact .inr aj⟩
   have o0:=(rQ.gB h4 (λb hb=>id) λ_ _ _=>id).wider (λc x=>xT.mono q2) q1 (λb o hb hb2=>by
    rcases q3 b o hb with h1|h1
    ·exact rQ.apart b o h1 hb2
    ·have h5:=(lB.own b h1).1;have h6:=(rQ.own b hb2).2
     omega)
   have Th:K4 B=none:=by
    cases hk4:K4 B with
    |none=>rfl
    |some ob=>
     rcases q3 B ob hk4 with h1|h1
     ·rw[hKB]at h1;cases h1
     ·have:=(lB.own B h1).1;omega
   obtain⟨va,vc,hv4⟩:=lB.shape;rw[auB]at hv4;subst hv4;have wx:=h4.size;refine ai ar aC λQ' hQ=>?_;refine bK O7 rfl (.tmp 21) (.tmp 29) rfl o0 rfl (qi b y) #[.string y.a.n,.slice va y.a.ts.length vc,.bool y.neg] ⟨_,rfl,q4⟩ rfl (by simp[atv]) rfl rfl aj aj aj ?_;intro g6 Am w6 gQ bH _;go_wp2;refine hQ _ _ ar (aX ar) ?_;clear hQ Q';refine ai ar aC λQ' hQ=>?_;go_wp2;refine hQ _ _ ar (aX ar) ?_;clear hQ Q';have ho: ∀b,v2.ownBlock=some b→B+1≤b:=λb hb=>(rQ.own b hb).1;have hne: ∀b,b<B+1→¬v2.ownBlock=some b:=λb hb he=>by have:=ho b he;omega
   have wA:=bH.kept (h4.kept sJ id) (hne _ aj);obtain⟨y0,y1,y2,y3,y4,y5⟩:=bI wA;have Ak:=atm wA;refine ai ar aC λQ' hQ=>?_;go_wp2;refine hQ _ _ ar (aX ar) ?_;clear hQ Q';refine aQ ?_;go_wp2;have hS:=(af.refl (·=B) w6).setCell (p:=⟨B,2,none⟩) (.inr rfl) (.slice (some ⟨g6,0,none⟩) (rs.length+1) Am);have hD:af (λ_=>False) w w6:=((hT.trans gI).trans h4).bL bH λb hb=> .inl (by have:=ho b hb;omega);go_roundw
   case rel=>
    refine⟨k+1,_,K4,by omega,by go_num,hD.setCell (p:=⟨B,2,none⟩) (.inl (by show _≤B;omega)) _,hS.kept (bH.kept (h4.kept hNa id) (hne _ aj)) aj,hS.kept (bH.kept (h4.kept (gI.kept hA id) id) (hne _ aj)) aj,cR (o:=2) wA _,uC,Th,Hp.list.mono (h:=K) (k:=K4) (λ_ _ q=>q) o7 q2,?_⟩;rw[HS.out];refine gQ.gB hS (λb hb=>by have:=(gQ.own b hb).1;omega) λb ob hb=>?_;rintro rfl;rw[Th]at hb;cases hb
   case measure=>simp[intOf];omega
  ·have iQ:r.body.take k=r.body:=at4 aj;rw[iQ]at hm;obtain⟨h1,h2,h3,-⟩:=bI KH;obtain⟨a0,a1,a2,f0,f1,f2⟩:=bI hA;have qK:=atm hA;have xP:=xP.out;subst xP;obtain⟨vb,vd,hv2⟩:=hm.shape;rw[auB]at hv2;subst hv2;go_wp2;refine atg (v:= .agg #[.string r.head.n,.slice va r.head.ts.length vc,.slice vb r.body.length vd]) (by simp[results,Tryz.results352,go_sem,a0,a1,a2]) rfl ?_;have hS:=(((af.refl (·=A) wr).setCell (p:=⟨A,0,none⟩) (.inr rfl) (.string r.head.n)).setCell (p:=⟨A,1,none⟩) (.inr rfl) (.slice va r.head.ts.length vc)).setCell (p:=⟨A,2,none⟩) (.inr rfl) (.slice vb r.body.length vd);have hmS:=hm.gB hS (λb hb=>by have:=(hm.own b hb).1;omega) λb ob hb (e:b=A)=>by
    rcases hx.new b ob hb with h5|h5
    ·have:=hw.lt h5;omega
    ·omega
   obtain⟨K5,q1,q2,q3,q4⟩:=hmS.done (λk' hk c x=>xT.mono hk);exact⟨_,_,_,_,rfl,hT.bL hS λb (hb:b=A)=> .inl aj,K5,q1,hx.le.trans q2,Hp.list.mono (h:=K) (k:=K5) (λ_ _ q=>q) o7 q2,q4⟩
end Go.Proofs.YtkdljbnllgpfhaaGreat
end
section
namespace Go.Proofs.YtkdljbnllgpfhaaGreat
open Go Go.RowKit Go.Upr
theorem ajr{h:Hp}{w:aly}(hw:h.In w){r:bQ}{ha ba:Option alA}{hc bc:Nat}(hH:h.list 2 r_ (.slice ha r.head.ts.length hc) r.head.ts)(hB:h.list 3 xT (.slice ba r.body.length bc) r.body)(ok:gW r){t:aS}(ht:fq t){b:eB}(hm:cO r.head.ts (lx t)=some b)(hb:okB b)(ok2:gW (kK b r))
  {m:Option Nat} {bs:dB} {F:aN} (hL:qa w m bs F) (lJ:uK (dV bs F) (bJ (kK b r))):
  asP Tryz.prog 335 #[.agg #[.string r.head.n,.slice ha r.head.ts.length hc,.slice ba r.body.length bc],br t,.map m] w λe w'=>∃hs xs bB,e= .returned (cU ((au hs t).getD 0))∧bC [(0,0,0)] xs∧gV (dV bs F) (bJ (kK b r)) xs ((bJ (kK b r)).steps.map λ_=>none) bB∧
   hs.Perm ((km (dV bs F) (cD (dV bs F) (bJ (kK b r)) xs) ((bJ (kK b r)).steps.zip bB)).map λp=>(g_ (bJ (kK b r)).head.ts p.1,p.2))∧af (λ_=>False) w w':=by
 have Iw:(aM b).size=12:=by rw[cX];exact hb.1
 obtain⟨x,y,z⟩:=t;obtain⟨w1,ik⟩: ∃x,x=w.alloc (.cells #[.string r.head.n,.slice ha r.head.ts.length hc,.slice ba r.body.length bc] 318):=⟨_,rfl⟩;obtain⟨W,hW⟩: ∃W,W=(w1.alloc (.cells #[.int .u64 x,.int .u64 y,.int .u64 z] 116)).alloc (.cells #[.int .u64 0,.int .u64 0] 112):=⟨_,rfl⟩;have t0:af (λ_=>False) w w1:=by rw[ik];exact(af.refl _ w).alloc _
 have hz1:w1.heap.size=w.heap.size+1:=by rw[ik];simp
 have WW:w1.heap[w.heap.size]? =some (.cells #[.string r.head.n,.slice ha r.head.ts.length hc,.slice ba r.body.length bc] 318):=by rw[ik];exact atp _ _
 have t1:af (λ_=>False) w1 W:=by rw[hW];exact((af.refl _ _).alloc _).alloc _
 have bM:=t0.trans t1;have zx:=t1.kept WW id;have SF:W.heap[w.heap.size+1]? =some (.cells #[.int .u64 x,.int .u64 y,.int .u64 z] 116):=by rw[hW,←hz1];exact bq _ _ _
 have SE:W.heap[w.heap.size+2]? =some (.cells #[.int .u64 0,.int .u64 0] 112):=by
  rw[hW];have:=aR w1 (.cells #[.int .u64 x,.int .u64 y,.int .u64 z] 116) (.cells #[.int .u64 0,.int .u64 0] 112)
  rwa [hz1]at this
 obtain⟨N,hN⟩: ∃N,N=w.heap.size+1:=⟨_,rfl⟩;obtain⟨A,hA⟩: ∃B,B=w.heap.size+1+1:=⟨_,rfl⟩;have hA':w.heap.size+2=A:=by omega
 rw[ik]at hW;rw[←hN]at SF;rw[hA']at SE;have n1:w.heap.size<N:=by omega
 have n2:N<A:=by omega
 clear ik hz1 WW t1 hA' t0 w1;obtain⟨p0,p1,p2,-⟩:=bI zx;obtain⟨q0,q1,q2,-⟩:=bI SF;have hpl:=atm zx;have KC:=atm SF;have k1:=ab9 (hw.turn bM λ_ _ _=>id) (⟨_,rfl,hH⟩:NL h [.string r.head.n,.slice ha r.head.ts.length hc] r.head) ok.nE ok.ml ht;rw[hm]at k1;change asP Tryz.prog 351 _ W λe w'=>e= .returned (.tuple #[.agg (aM b),.bool true])∧_ at k1;unfold br at k1⊢;go_enter Tryz.func335,Tryz.ntmps335;go_wp2_with (first|(go_at_call 351;rw[←hW,←hA,←hN];clear hW hA hN;refine k1.mono ?_;clear k1;rintro e w2 ⟨rfl,aF⟩)|(refine bV rfl (.tmp 7) (.tmp 14) rfl rfl (atp w2 (.cells (aM dL) 467)) rfl (λw=>Tryz.sizeOf467 w) (by rw[Iw];rfl) (eA _) ?_;intro w3 bX hb3));obtain⟨B,hBe⟩: ∃B,B=w2.heap.size:=⟨_,rfl⟩;rw[←hBe]at hb3⊢;have t23:af (λ_=>False) w2 w3:=((af.refl (λ_=>False) w2).alloc _).bL bX λb (hb:b=_)=> .inl aj;have t3:=aF.trans t23;clear hBe;obtain⟨p0,p1,p2,-⟩:=bI (t3.kept zx id);obtain⟨q0,q1,q2,-⟩:=bI (t3.kept SF id);have hpl:=atm (t3.kept zx id);have KC:=atm (t3.kept SF id);have Db:=atm hb3;have eN:=bM.trans t3;have k2:=λw' (ht:af (λ_=>False) w w')=>ajk (hw.turn ht λ_ _ _=>id) hH hB ok hb;have hlen:(kK b r).head.ts.length=r.head.ts.length:=auB ..;have aaH:(kK b r).body.length=r.body.length:=auB ..;unfold cZ at k2;refine aG (λi=>i==2||i==4||i==6||i==7) ar ar ?_;intro S gg fN gc gf gh gb;refine ak ar aC aC λK hK=>?_;go_big_quiet_op;refine hK _ ?_;clear hK K;refine dF ar aC (.tmp 7) rfl rfl (λw' ⟨x,e⟩=>by rw[e];exact(gh x _ Db).trans hb3) Tryz.underlying467 rfl (by rw[Iw];kernel_rfl) ?_;go_frame;refine ai ar aC λQ' hQ=>?_;go_wp2_with (go_at_call 352;refine(k2 _ (eN.trans (af.refl _ _).drew)).mono ?_;clear k2;rintro e w4 ⟨va,vc,vb,vd,rfl,ck,k,hk4,hle,hH4,XC⟩);have h4:af (λ_=>False) w3 w4:=(af.refl _ _).drew.trans ck;refine hQ _ _ ar (λ_=>gb _ h4.below) ?_;clear hQ Q';refine ak ar aC aC λK hK=>?_;go_big_quiet_op;refine hK _ ?_;clear hK K;have k3:=aca hk4 (r:=kK b r) (ha:=va) (hc:=vc) (ba:=vb) (bc:=vd) (by rw[hlen];exact hH4) (by rw[aaH];exact XC) ok2 (hL.still (eN.trans h4)) lJ;rw[hlen,aaH]at k3;refine ai ar aC λQ' hQ=>?_;go_wp2_with (go_at_call 349;refine k3.mono ?_;clear k3;rintro e w5 ⟨sH,hs,xs,bB,rfl,Xu,Hn,oY,hbg,jQ,bA⟩);have h5:=h4.trans bA;refine hQ _ _ ar (λ_=>gb _ h5.below) ?_;clear hQ Q';refine ak ar aC aC λK hK=>?_;go_big_quiet_op;refine hK _ ?_;clear hK K;have WL:(au hs (x,y,z)).elim (cU 0) cU=cU ((au hs (x,y,z)).getD 0):=by cases au hs (x,y,z)<;>rfl
 refine ai ar aC λQ' hQ=>?_;go_wp2_with (at_lookup;refine bu gL Tryz.underlying324 Ou rfl (.tmp 23) (.tmp 24) rfl rfl (aD _) Hn.hp (x:=(x,y,z)) rfl ht WL ?_);refine hQ _ _ ar (λ_=>gb _ h5.below) ?_;clear hQ Q';generalize hNN:(au hs (x,y,z)).getD 0=n at*;replace hNN:at3 _:=hNN;have qH:=(t3.trans h5).kept SE id;obtain⟨-,-,r2,r3⟩:=b9 qH;obtain⟨r0,r1,-,-⟩:=b9 qH;have AJ:=atm qH;unfold cU;refine ai ar aC λQ' hQ=>?_;go_wp2;refine hQ _ _ ar (aX ar) ?_;clear hQ Q';refine aQ ?_;clear gc gf gh gb fN gg S;go_wp2;refine atg (v:=cU n) (by simp[results,Tryz.results335,go_sem,r0,r1,cU]) rfl ?_;have hS:=((af.refl (·=A) w5).setCell (p:=⟨A,0,none⟩) (.inr rfl) (.int .u64 (n/18446744073709551616:Nat))).setCell (p:=⟨A,1,none⟩) (.inr rfl) (.int .u64 (n % 18446744073709551616:Nat));exact⟨hs,xs,bB,by rw[hNN.out],oY,hbg,jQ,(eN.trans h5).bL hS λb (hb:b=A)=> .inl aj⟩
end Go.Proofs.YtkdljbnllgpfhaaGreat
end
section
namespace Go.Proofs.YtkdljbnllgpfhaaGreat
open Go Go.RowKit Go.Upr
structure Po(D:Bool→ByteArray→Seen)(r:bQ)(t:aS)(n:Nat):Prop where
 fits: ∃b,cO r.head.ts (lx t)=some b∧okB b∧gW (kK b r)∧uK D (bJ (kK b r))∧
  ∀hs xs bB,bC [(0,0,0)] xs→gV D (bJ (kK b r)) xs ((bJ (kK b r)).steps.map λ_=>none) bB→hs.Perm ((km D (cD D (bJ (kK b r)) xs) ((bJ (kK b r)).steps.zip bB)).map λp=>(g_ (bJ (kK b r)).head.ts p.1,p.2))→(au hs t).getD 0=n
def sX(Wy:bQ→Nat)(n:ByteArray)(rs:List bQ):Nat:=rs.foldl (λs r=>if r.head.n=n then(s+Wy r) % gK else s) 0
theorem L5{Wy:bQ→Nat}{n:ByteArray}{rs:List bQ}{k:Nat}{y:bQ}(hy:rs[k]? =some y):sX Wy n (rs.take (k+1))=if y.head.n=n then(sX Wy n (rs.take k)+Wy y) % gK else sX Wy n (rs.take k):=by
 unfold sX;rw[at8,hy,avV,at9];rfl
theorem NR(a b:ByteArray):(a.toList==b.toList)=decide (a=b):=by
 rw[Bool.eq_iff_iff,beq_iff_eq,decide_eq_true_iff,asT,asT];constructor
 ·intro h;cases a;cases b;exact congrArg awK (Array.toList_inj.1 h)
 ·rintro rfl;rfl
theorem ajv{K:Hp}{w:aly}{lb sb:Nat}{rs:List bQ}{ra:Option alA}{rc:Nat}(hL:fB w K lb sb rs ra rc)(uB: ∀r∈rs,gW r)(hn:rs.length≤1048576){bs:dB}{F:aN}(hS:aq w sb bs F){n:ByteArray}{t:aS}(ht:fq t){Wy:bQ→Nat}(hy: ∀r∈rs,r.head.n=n→Po (dV bs F) r t (Wy r)):
  asP Tryz.prog 326 #[.pointer (some ⟨lb,0,none⟩),.string n,br t] w λe w'=>e= .returned (cU (sX Wy n rs))∧af (λ_=>False) w w':=by
 obtain⟨q1,q2,hv2,hat⟩:=hL.rules.at hL.known;obtain⟨rfl,rfl⟩:ra=q1∧rc=q2:=by simpa using hv2
 clear hv2;obtain⟨x,y,z⟩:=t;obtain⟨W,hW⟩: ∃W,W=((w.alloc (.cells #[.int .u64 x,.int .u64 y,.int .u64 z] 116)).alloc (.cells #[.int .u64 0,.int .u64 0] 112)).alloc (.cells #[.int .u64 0,.int .u64 0] 112):=⟨_,rfl⟩;have bM:af (λ_=>False) w W:=by rw[hW];exact(((af.refl _ w).alloc _).alloc _).alloc _
 have SF:W.heap[w.heap.size]? =some (.cells #[.int .u64 x,.int .u64 y,.int .u64 z] 116):=by rw[hW];exact(atn _ _ _ lq).trans (bq _ _ _)
 have lY:W.heap[w.heap.size+1]? =some (.cells #[.int .u64 0,.int .u64 0] 112):=by rw[hW];exact(atn _ _ _ bz).trans (aR _ _ _)
 have lH:W.heap[w.heap.size+1+1]? =some (.cells #[.int .u64 0,.int .u64 0] 112):=by
  rw[hW];have:=aR (w.alloc (.cells #[.int .u64 x,.int .u64 y,.int .u64 z] 116)) (.cells #[.int .u64 0,.int .u64 0] 112) (.cells #[.int .u64 0,.int .u64 0] 112)
  rwa [World.size_alloc]at this
 obtain⟨l0,l1,-,-⟩:=b9 (hL.still bM).block;have jy:=atm (hL.still bM).block;obtain⟨A,hA⟩: ∃B,B=w.heap.size+1:=⟨_,rfl⟩;obtain⟨B,hB⟩: ∃B,B=w.heap.size+1+1:=⟨_,rfl⟩;rw[←hB]at lH;rw[←hA]at lY;have n1:w.heap.size<A:=by omega
 have n2:A<B:=by omega
 unfold br;go_enter Tryz.func326,Tryz.ntmps326;go_wp2_with (rw[←hW,←hB,←hA];clear hW hA hB);clear l0 l1 jy
 go_loopw [16] (λi wr=>∃ (k:Nat) (s:Nat),k≤rs.length∧i= .int .i64 k∧af (λ_=>False) w wr∧wr.heap[w.heap.size]? =some (.cells #[.int .u64 x,.int .u64 y,.int .u64 z] 116)∧wr.heap[A]? =some (.cells #[.int .u64 0,.int .u64 0] 112)∧wr.heap[B]? =some (.cells #[.int .u64 (s/18446744073709551616:Nat),.int .u64 (s % 18446744073709551616:Nat)] 112)∧at3 (sX Wy n (rs.take k)=s)) (λi _=>rs.length-(intOf i).toNat)
 case atStart=>exact⟨0,0,arQ _,rfl,bM,SF,lY,lH,(rfl:sX Wy n (rs.take 0)=0)⟩
 case round=>
  clear bM SF lY lH;obtain⟨k,s,hk,rfl,hT,hQ,hA,hB,hs⟩:=hrel;have hlr:=(hL.still hT).block;obtain⟨l0,l1,-,-⟩:=b9 hlr;have jy:=atm hlr;by_cases hlt:k<rs.length
  ·obtain⟨r,hr⟩: ∃y,rs[k]? =some y:=⟨_,arn hlt⟩;obtain⟨g,o,cc,rfl,bW,hR,ag⟩:=hat k r hr;have zu:=ann hr;have ro:=uB r zu;have hy:=hy r zu;obtain⟨ha,hc,ba,bc,rfl,R_,DV,SB⟩:=hR;have c0:=hT.cell (ag 0 aI) id;have c1:=hT.cell (ag 1 aI) id;have c2:=hT.cell (ag 2 aI) id;simp only[at6,←at7]at c0 c1 c2;have HS:at3 (sX Wy n (rs.take (k+1))=if r.head.n=n then(sX Wy n (rs.take k)+Wy r) % gK else sX Wy n (rs.take k)):=L5 hr;clear hr ag bW;obtain⟨wa,gY⟩: ∃x,x=wr.alloc (.cells #[.string r.head.n,.slice ha r.head.ts.length hc,.slice ba r.body.length bc] 318):=⟨_,rfl⟩;obtain⟨P,zw⟩: ∃x,x=wr.heap.size:=⟨_,rfl⟩;have tA:af (λ_=>False) wr wa:=by rw[gY];exact(af.refl _ _).alloc _
   have o9:wa.heap[P]? =some (.cells #[.string r.head.n,.slice ha r.head.ts.length hc,.slice ba r.body.length bc] 318):=by rw[gY,zw];exact atp _ _
   obtain⟨a0,a1,a2,-⟩:=bI o9;have qK:=atm o9;have k3:=λw'=>Tv (n:=r.head.n) (a1:=ha) (a2:=ba) (l1:=r.head.ts.length) (l2:=r.body.length) (k1:=hc) (k2:=bc) w';go_wp2_with (first|(rw[←gY,←zw];clear gY zw)|(go_at_call 323;refine(k3 _).mono ?_;clear k3;rintro e w2 ⟨rfl,aF⟩))
   ·rename_i E2;rw[NR,decide_eq_true_iff]at E2;obtain⟨bb,hm,R5,ok2,lJ,Dq⟩:=(hy E2).fits;rw[if_pos E2,hs.out]at HS;have k5:=λw' (Kj:af (λ_=>False) w w')=>ajr (hL.known.turn Kj λ_ _ _=>id) R_ DV ro ht hm R5 ok2 (m:=some sb) (.inr ⟨sb,rfl,hS.still Kj λ_ _=>id⟩) lJ;have k6:=λw'=>aeI s (Wy r) w';unfold br at k5;have tW2:=(hT.trans tA).trans aF;have hl2:=(hL.still tW2).block;obtain⟨l0,l1,-,-⟩:=b9 hl2;have jy:=atm hl2;have tr2:=tA.trans aF;have lC:=aF.kept o9 id;obtain⟨a0,a1,a2,-⟩:=bI lC;have qK:=atm lC;have uD:=tr2.kept hB id;obtain⟨b0,b1,-,-⟩:=b9 uD;have hbl:=atm uD;have hQ2:=tr2.kept hQ id;obtain⟨y0,y1,y2,-⟩:=bI hQ2;have KC:=atm hQ2;clear E2 hm hy;refine aG (λi=>i==8||i==9||i==10) ar ar ?_;intro S' gg fN gc gf gh gb;iterate 8 (refine ak ar aC aC λK hK=>?_;go_big_quiet_op;refine hK _ ?_;clear hK K)
    refine ai ar aC λQ' hQ=>?_;go_wp2_with (go_at_call 335;refine(k5 _ (tW2.trans (af.refl _ _).drew)).mono ?_;clear k5;rintro e w4 ⟨hs',xs,bB,rfl,oY,hbg,jQ,ck⟩);have h4:af (λ_=>False) w2 w4:=(af.refl _ _).drew.trans ck;refine hQ _ _ ar (λ_=>gb _ h4.below) ?_;clear hQ Q';rw[Dq hs' xs bB oY hbg jQ];refine ai ar aC λQ' hQ=>?_;go_wp2_with (go_at_call 334;refine(k6 _).mono ?_;clear k6;rintro e w5 ⟨rfl,bA⟩);have h5:=h4.trans bA;refine hQ _ _ ar (λ_=>gb _ h5.below) ?_;clear hQ Q';generalize(s+Wy r) % gK=s2 at*;have W6:=h5.kept uD id;obtain⟨z0,z1,z2,z3⟩:=b9 W6;have abK:=atm W6;unfold cU;refine ai ar aC λQ' hQ=>?_;go_wp2;refine hQ _ _ ar (aX ar) ?_;clear hQ Q';refine aQ ?_;clear gc gf gh gb fN gg S';go_wp2;have t25:=tr2.trans h5;have hS1:=((af.refl (·=B) w5).setCell (p:=⟨B,0,none⟩) (.inr rfl) (.int .u64 (s2/18446744073709551616:Nat))).setCell (p:=⟨B,1,none⟩) (.inr rfl) (.int .u64 (s2 % 18446744073709551616:Nat));have hrow:=cR (o:=1) (cR (o:=0) W6 (.int .u64 (s2/18446744073709551616:Nat))) (.int .u64 (s2 % 18446744073709551616:Nat));go_roundw
    case rel=>exact⟨k+1,s2,by omega,by go_num,(hT.trans t25).bL hS1 λb (hb:b=B)=> .inl aj,hS1.kept (t25.kept hQ id) aj,hS1.kept (t25.kept hA id) aj,hrow,HS⟩
    case measure=>simp[intOf];omega
   ·rename_i E2;rw[NR,decide_eq_false_iff_not]at E2;rw[if_neg E2]at HS;have tr2:=tA.trans aF;go_roundw
    case rel=>exact⟨k+1,s,by omega,by go_num,hT.trans tr2,tr2.kept hQ id,tr2.kept hA id,tr2.kept hB id,HS.out.trans hs.out⟩
    case measure=>simp[intOf];omega
  ·have iQ:rs.take k=rs:=at4 aj;rw[iQ]at hs;obtain⟨a0,a1,f0,f1⟩:=b9 hA;have qK:=atm hA;obtain⟨b0,b1,-,-⟩:=b9 hB;have hbl:=atm hB;go_wp2;refine atg (v:=cU s) (by simp[results,Tryz.results326,go_sem,a0,a1,cU]) rfl ?_;have hS1:=((af.refl (·=A) wr).setCell (p:=⟨A,0,none⟩) (.inr rfl) (.int .u64 (s/18446744073709551616:Nat))).setCell (p:=⟨A,1,none⟩) (.inr rfl) (.int .u64 (s % 18446744073709551616:Nat));exact⟨by rw[hs.out],hT.bL hS1 λb (hb:b=A)=> .inl aj⟩
end Go.Proofs.YtkdljbnllgpfhaaGreat
end
section
namespace Go.Proofs
open Go.Shelf
def Tryz.Qv:asR:=⟨λ|20=>287|n=>n,λ|0=>0|3=>3|4=>4|22=>23|24=>9|25=>264|n=>n,λ|n=>n⟩
theorem Tryz.afk:SlLaysF.n20 Tryz.prog Tryz.Qv:={
 mixed:=by kernel_rfl
 f20:=⟨Tryz.f287.name,by decide,Tryz.func287.trans (congrArg some ar)⟩
 t0:=Tryz.underlying0
 a0:=Tryz.isAgg0
 z0:=Tryz.sizeOf0
 v0:=Tryz.zeroValue0
 t3:=Tryz.underlying3
 a3:=Tryz.isAgg3
 z3:=Tryz.sizeOf3
 v3:=Tryz.zeroValue3
 t4:=Tryz.underlying4
 a4:=Tryz.isAgg4
 z4:=Tryz.sizeOf4
 v4:=Tryz.zeroValue4
 t22:=Tryz.underlying23
 a22:=Tryz.isAgg23
 z22:=Tryz.sizeOf23
 v22:=Tryz.zeroValue23
 a24:=Tryz.isAgg9
 z24:=Tryz.sizeOf9
 t25:=Tryz.underlying264
 a25:=Tryz.isAgg264
 z25:=Tryz.sizeOf264
 v25:=Tryz.zeroValue264}
end Go.Proofs
namespace Go.Proofs.YtkdljbnllgpfhaaGreat
open Go Go.RowKit Go.Upr Go.Lib Go.Sort
theorem ag8{w:aly}{hb pb:Nat}{f:List (ByteArray×Int)}(hM:av w bZ at5 Ai hb f)(hc:w.cell? ⟨pb,0,none⟩=some (.map (some hb))){a b:ByteArray}(ha:bZ a)(sH:bZ b):
  asP Tryz.prog 188 #[.string a,.string b,.pointer (some ⟨pb,0,none⟩)] w λe w'=>e= .returned (.int .i64 (awE (C3 f a) (C3 f b)))∧w'=w:=by
 have h1:=Gl f a;have h2:=Gl f b;generalize C3 f a=x at h1;generalize C3 f b=y at h2;have hcc:=λw=>Tryz.cmp_Compare_int x y w;go_enter Tryz.func188,Tryz.ntmps188;go_wp2_with (first|(at_lookup;refine bu cI Tryz.underlying307 wR rfl (.tmp 6) (.tmp 7) rfl rfl (aD _) hM.hp rfl ha h1 ?_)|(at_lookup;refine bu cI Tryz.underlying307 wR rfl (.tmp 9) (.tmp 10) rfl rfl (aD _) hM.hp rfl sH h2 ?_)|(go_at_call 189;refine(hcc _).mono ?_;rintro e w2 ⟨rfl,rfl⟩));go_ret;exact⟨rfl,rfl⟩
abbrev OkS:={s:ByteArray//bZ s}
instance:Inhabited OkS:=⟨⟨⟨#[]⟩,by decide⟩⟩
def encS(x:OkS):Value:= .string x.1
def wL(f:List (ByteArray×Int))(x y:OkS):Int:=awE (C3 f x.1) (C3 f y.1)
theorem LO(f:List (ByteArray×Int)):SWO (ltOf (wL f)):=by
 have hlt: ∀x y,ltOf (wL f) x y=decide (C3 f x.1<C3 f y.1):=λx y=>by
  unfold ltOf wL awE;split
  ·rename_i h;simp[h]
  ·rename_i h;split<;>simp[h]
 refine⟨λx=>?_,λx y z=>?_,λx y z=>?_⟩
 ·rw[hlt];simp
 ·rw[hlt,hlt,hlt];simp only[decide_eq_true_eq];omega
 ·rw[hlt,hlt,hlt];simp only[decide_eq_false_iff_not];omega
theorem tS(w:aly)(g o m:Nat)(dk:Array OkS)(os:Array Obj):af (·=g) w (sortWorld encS w g o m dk os):=by
 refine⟨rfl,rfl,rfl,?_,λk hk hne=>?_⟩
 ·unfold sortWorld grow;simp[Go.Sort.size_putRow,awF]
 ·unfold sortWorld grow putRow mapBlock awF;simp only[Array.getElem?_append,Array.size_modify,hk,if_true];rw[Array.getElem?_modify,if_neg λe=>hne e.symm]
theorem ajy{w:aly}{hb pb g o cap:Nat}{f:List (ByteArray×Int)}(hM:av w bZ at5 Ai hb f)(hc:w.cell? ⟨pb,0,none⟩=some (.map (some hb)))(h1:hb≠g)(h2:pb≠g){d:Array OkS}(hH:Holds encS w g o d)(hsz:d.size<4611686018427387904):
  asP Tryz.prog 287 #[.slice (some ⟨g,o,none⟩) d.size cap,.int .i64 0,.int .i64 d.size,.func (.func 188) #[] #[.pointer (some ⟨pb,0,none⟩)]] w λe w'=>e= .returned (.tuple #[])∧af (·=g) w w'∧Holds encS w' g o (awD (ltOf (wL f)) d 0 d.size):=by
 have eg: ∀args w,(callFunc 188 args).run Tryz.prog w= .ok (.enter 188 args) w:=λargs w=>by kernel_rfl
 have aio:CmpReads Tryz.prog 188 #[.pointer (some ⟨pb,0,none⟩)] encS (wL f) g o d.size w:=λm os dk hs x y=>by
  have ht:=tS w g o m dk os;have:=ag8 (hM.turn ht h1) (ht.cell hc h2) x.2 y.2;exact this.mono λe w' h=>⟨h.1,0,h.2⟩
 refine(Any.insertionSortCmpFunc_one Tryz.afk encS (λ_=>rfl) (wL f) 188 _ g o cap 0 d.size d w eg aio hH (arQ _) (agl _) hsz).mono ?_;rintro e w' ⟨rfl,n,rfl⟩;have hs:=((awG (lt:=ltOf (wL f)) (LO f) d 0 d.size (arQ _) (agl _)).1).1;rw[←awJ];refine⟨rfl,tS _ _ _ _ _ _,?_⟩;rw[awJ];exact holds_putRow encS w g o d _ hH hs
theorem ajF{w:aly}{hb pb g o cap:Nat}{f:List (ByteArray×Int)}(hM:av w bZ at5 Ai hb f)(hc:w.cell? ⟨pb,0,none⟩=some (.map (some hb)))(h1:hb≠g)(h2:pb≠g){d:Array OkS}(hH:Holds encS w g o d)(hsz:d.size<20):
  asP Tryz.prog 247 #[.slice (some ⟨g,o,none⟩) d.size cap,.int .i64 d.size,.func (.func 188) #[] #[.pointer (some ⟨pb,0,none⟩)]] w λe w'=>e= .returned (.tuple #[])∧af (·=g) w w'∧Holds encS w' g o (awD (ltOf (wL f)) d 0 d.size):=by
 have k1:=ajy (cap:=cap) hM hc h1 h2 hH aj;go_enter Tryz.func247,Tryz.ntmps247;go_wp2
 go_loopg [7,8] 0 (λgk a b wr=>gk=0∧a= .int .i64 0∧b= .int .i64 20∧wr=w)
 case atStart=>exact⟨rfl,rfl,rfl,rfl⟩
 case round=>
  obtain⟨rfl,rfl,rfl,rfl⟩:=hrel;go_wp2_with (go_at_call 287;refine k1.mono ?_;clear k1;rintro e w2 ⟨rfl,aF,XB⟩)
  go_loopg [6] 0 (λgk a wr=>gk=0∧a= .int .i64 20∧wr=w2)
  case atStart=>exact⟨rfl,rfl,rfl⟩
  case round=>
   obtain⟨rfl,rfl,rfl⟩:=hrel;go_wp2;go_end0;exact⟨rfl,aF,XB⟩
theorem ajO{w:aly}{hb pb g o cap:Nat}{f:List (ByteArray×Int)}(hM:av w bZ at5 Ai hb f)(hc:w.cell? ⟨pb,0,none⟩=some (.map (some hb)))(h1:hb≠g)(h2:pb≠g){d:Array OkS}(hH:Holds encS w g o d)(hsz:d.size<20):
  asP Tryz.prog 187 #[.slice (some ⟨g,o,none⟩) d.size cap,.func (.func 188) #[] #[.pointer (some ⟨pb,0,none⟩)]] w λe w'=>e= .returned (.tuple #[])∧af (·=g) w w'∧Holds encS w' g o (awD (ltOf (wL f)) d 0 d.size):=by
 have k1:=ajF (cap:=cap) hM hc h1 h2 hH hsz;go_enter Tryz.func187,Tryz.ntmps187;go_wp2_with (go_at_call 247;refine k1.mono ?_;clear k1;rintro e w2 ⟨rfl,aF,XB⟩);go_end0;exact⟨rfl,aF,XB⟩
end Go.Proofs.YtkdljbnllgpfhaaGreat
end
section
namespace Go.Proofs.YtkdljbnllgpfhaaGreat
open Go Go.RowKit Go.Upr
theorem ag9{h:Hp}{w:aly}(hw:h.In w){ad:Option alA}{l c:Nat}{cs:List cS}(hcs:h.list 3 cW (.slice ad l c) cs)(_hn:cs.length≤1099511627776)(hsm: ∀cl∈cs,Small 1099511627776 cl)
  (hB: ∀k,(a_ (cs.take k)).length≤1099511627776):asP Tryz.prog 185 #[.slice ad l c] w λe w'=>∃v,e= .returned v∧af (λ_=>False) w w'∧aw w' w.heap.size 9 1 gX h v (a_ cs):=by
 obtain⟨q7,q8,hv3,hat⟩:=hcs.at hw;obtain⟨rfl,rfl,rfl⟩:ad=q7∧l=cs.length∧c=q8:=by simpa using hv3
 clear hv3;have tV:= @auj Tryz.prog;have E4: ∀b o,h b=some o→b<w.heap.size:=λb o hb=>hw.lt hb;go_enter Tryz.func185,Tryz.ntmps185;go_wp2;have p8:av (w.alloc (.map #[] 0)) bZ at5 aY w.heap.size (jM []):=av.made;have lr:aw (w.alloc (.map #[] 0)) (w.heap.size+1) 9 1 gX h (.slice none 0 0) []:= .nil (hw.turn ((af.refl (λ_=>False) w).alloc _) (λ_ _ _ h=>h))
 go_loopw [4,14] (λv i wr=>∃ (k:Nat),k≤cs.length∧i= .int .i64 k∧af (λ_=>False) w wr∧av wr bZ at5 aY w.heap.size (jM (a_ (cs.take k)))∧aw wr (w.heap.size+1) 9 1 gX h v (a_ (cs.take k))) (λ_ i _=>cs.length-(intOf i).toNat)
 case atStart=>exact⟨0,arQ _,rfl,(af.refl _ w).alloc _,p8,lr⟩
 case round=>
  clear p8 lr;obtain⟨k,hk,rfl,hT,hM,hm⟩:=hrel;by_cases hlt:k<cs.length
  ·obtain⟨y,hy⟩: ∃y,cs[k]? =some y:=⟨_,arn hlt⟩;obtain⟨g,o,cc,rfl,bW,hR,ag⟩:=hat k y hy;obtain⟨ya,yc,lA,lz,rfl⟩:=hR.cells;have mL:=hsm y (ann hy);have e0:=hT.cell (ag 0 aI) id;have e1:=hT.cell (ag 1 aI) id;have e2:=hT.cell (ag 2 aI) id;simp only[at6,←at7]at e0 e1 e2;have hst:=EU hy;have hBk:=hB (k+1);have HS:at3 (a_ (cs.take (k+1))=gG (a_ (cs.take k)) (ay y)):=hst;clear hst hy;have vx:=(hw.turn hT (λ_ _ _ h=>h)).turn ((af.refl (λ_=>False) wr).alloc (.cells #[.string y.head.n,.slice ya y.head.ts.length yc,.slice lA y.body.length lz] 236)) (λ_ _ _ h=>h);go_wp2_with (go_at_call 132;refine(P9 vx hR (by have:=mL.1;omega)).mono ?_;rintro e w2 ⟨KL,l3,c3,rfl,aF,k2,hk2,hx2,hl2⟩;obtain⟨q5,q6,hv2⟩:=hl2.shape;obtain⟨rfl,rfl,rfl⟩:KL=q5∧l3=(ay y).length∧c3=q6:=by simpa using hv2);have hz2:=aF.size;have KX:=hM.lt;have KZ: ∀b o,k2 b=some o→¬b=w.heap.size:=λb o hb h=>by
    rcases hx2.new b o hb with h1|h1
    ·have:=E4 b o h1;omega
    ·simp at h1;omega
   have wz:av w2 bZ at5 aY w.heap.size (jM (a_ (cs.take k))):=(hM.turn ((af.refl (λ_=>False) wr).alloc _) id).turn aF id
   have il:aw w2 (w.heap.size+1) 9 1 gX k2 _ (a_ (cs.take k)):=((hm.turn ((af.refl (λ_=>False) wr).alloc (.cells #[.string y.head.n,.slice ya y.head.ts.length yc,.slice lA y.body.length lz] 236)) (λ_ _ h=>h) (λ_ _ _ h=>h)).turn aF (λ_ _ h=>h) (λ_ _ _ h=>h)).wider (λ_ _ h=>h) hk2 (λb o hb h'=>by
    have:=(hm.own b h');rcases hx2.new b o hb with h1|h1
    ·have:=E4 b o h1;omega
    ·simp at h1;omega)
   have yf:=(hT.alloc (.cells #[.string y.head.n,.slice ya y.head.ts.length yc,.slice lA y.body.length lz] 236)).trans aF;have hlen:(ay y).length≤1099511627776:=by have:=mL.1;simp[ay];omega
   obtain⟨n0,AO⟩: ∃n0,n0=a_ (cs.take k):=⟨_,rfl⟩;have lH:=hB k;rw[←AO]at wz il lH;have HN0:at3 (n0=a_ (cs.take k)):=AO;clear AO
   go_loopw [4,21] (λv i wq=>∃ (j:Nat),j≤(ay y).length∧i= .int .i64 j∧af (λ_=>False) w wq∧av wq bZ at5 aY w.heap.size (jM (gG n0 ((ay y).take j)))∧aw wq (w.heap.size+1) 9 1 gX k2 v (gG n0 ((ay y).take j))) (λ_ i _=>(ay y).length-(intOf i).toNat)
   case atStart=>exact⟨0,arQ _,rfl,yf,wz,il⟩
   case round=>
    clear wz il hm hM;obtain⟨j,hj,rfl,gT,kH,DM⟩:=hrel;by_cases pL:j<(ay y).length
    ·obtain⟨z,hz⟩: ∃z,(ay y)[j]? =some z:=⟨_,arn pL⟩;obtain⟨g2,o2,cc2,rfl,sU,iG,dh⟩:=hl2.cell DM.known hz;obtain⟨za,zc,rfl⟩:=iG.cells;have AH:bZ z.n:=ig (mL.2 z (ann hz)).2.1;have u0:_=some _:=dh 0 aI;have u1:_=some _:=dh 1 aI;simp only[at6,←at7]at u0 u1;have HZ:at3 (gG n0 ((ay y).take (j+1))=addN (gG n0 ((ay y).take j)) z.n):=CV hz;clear hz;have Hl:=rO ((ay y).take j) n0;have xZ:((ay y).take j).length≤(ay y).length:=by rw[as1];omega
     obtain⟨f,hf⟩: ∃f,f=gG n0 ((ay y).take j):=⟨_,rfl⟩;rw[←hf]at kH DM Hl;have HF:at3 (f=gG n0 ((ay y).take j)):=hf;clear hf;have ahQ:=kH.lt;have jN:=(kH.turn ((af.refl (λ_=>False) wr).alloc (.cells #[.string z.n,.slice za z.ts.length zc] 233)) id);cases dC:inN f z.n with
     |true=>
      have HA:at3 (addN f z.n=f):=by show _=_;unfold addN;rw[if_pos dC]
      have hl:au (jM f) z.n=some ():=by rw[rH,if_pos dC]
      clear dC;go_wp2_with (at_lookup;refine aP cI Tryz.underlying249 bT rfl (.tmp 26) (.tmp 28) rfl rfl (aD _) jN.hp rfl AH hl ?_);go_roundw
      case rel=>exact⟨j+1,by omega,by go_num,(gT.alloc _).alloc _,by rw[HZ.out,←HF.out,HA.out];exact jN.turn ((af.refl (λ_=>False) _).alloc _) id,by rw[HZ.out,←HF.out,HA.out];exact DM.turn (((af.refl (λ_=>False) wr).alloc _).alloc _) (λ_ _ h=>h) (λ_ _ _ h=>h)⟩
      case measure=>simp[intOf];omega
     |false=>
      have HA:at3 (addN f z.n=f++ [z.n]):=by show _=_;unfold addN;rw[if_neg (by rw[dC];simp)]
      have HP:at3 (dO (jM f) z.n ()=jM (f++ [z.n])):=ES dC;have hl:au (jM f) z.n=none:=by rw[rH,if_neg (by rw[dC];simp)]
      clear dC;have abS:=jN.turn ((af.refl (λ_=>False) _).alloc (.cells #[] 251)) id;have KY:=DM.turn (((af.refl (λ_=>False) wr).alloc (.cells #[.string z.n,.slice za z.ts.length zc] 233)).alloc (.cells #[] 251)) (λ_ _ h=>h) (λ_ _ _ h=>h);go_wp2_with (first|(at_lookup;refine aZ cI Tryz.underlying249 bT rfl (.tmp 26) (.tmp 28) rfl rfl (aD _) jN.hp rfl AH hl ?_)|(at_mapUpdate;refine bj cI Tryz.underlying249 rfl (.tmp 34) (.tmp 36) (.tmp 37) rfl rfl abS rfl AH () rfl ?_;intro w5 bA mg;obtain⟨t0,t1,_,_⟩:=b9 (bA.kept (bq wr _ _) aj))|(at_builtin;refine di D9 rfl (.tmp 38) (.tmp 41) rfl (KY.turn bA (λb hb h=>by omega) KZ) rfl z.n #[.string z.n] rfl rfl (by simp[atv]) rfl bz aj aj (by have:=mg.lt;omega) ?_;intro g4 lK w6 gQ bH));go_roundw
      case rel=>
       refine⟨j+1,by omega,by go_num,?_,?_,by rw[HZ.out,←HF.out,HA.out];exact gQ⟩
       ·exact(((gT.alloc _).alloc _).bL bA (λb (h:b=w.heap.size)=> .inl aj)).bL bH (λb hb=> .inl (by have:=(KY.own b hb).1;omega))
       ·rw[HZ.out,←HF.out,HA.out,←HP.out];exact mg.turn bH (λh=>by have:=(KY.own _ h).1;omega)
      case measure=>simp[intOf];omega
    ·have AP:gG n0 ((ay y).take j)=gG n0 (ay y):=by rw[at4 aj]
     rw[AP]at kH DM;go_wp2;go_roundw
     case rel=>exact⟨k+1,by omega,by go_num,gT,by rw[HS.out,←HN0.out];exact kH,by rw[HS.out,←HN0.out];exact DM.wider (λ_ _ h=>h) (hw.turn gT (λ_ _ _ h=>h)) (λb o hb=>DM.apart b o (hx2.le b o hb))⟩
     case measure=>simp[intOf];omega
  ·have iQ:a_ (cs.take k)=a_ cs:=by rw[at4 aj]
   rw[iQ]at hm;obtain⟨va,vc,rfl⟩:=hm.shape;go_wp2;go_ret;exact⟨_,rfl,hT,hm.lower (Nat.le_succ _)⟩
end Go.Proofs.YtkdljbnllgpfhaaGreat
end
section
namespace Go.Proofs.YtkdljbnllgpfhaaGreat
open Go Go.RowKit Go.Upr Go.Lib Go.Sort
theorem V2(ns:List ByteArray):(ns.map λx=> [at5 x]).flatten=ns.map at5:=by
 induction ns with
 |nil=>rfl
 |cons a l ih=>rw[List.map_cons,List.flatten_cons,ih];rfl
theorem aw.names{w:aly}{N:Nat}{k:Hp}{v:aad}{ns:List ByteArray}(h:aw w N 9 1 gX k v ns)(hne:ns≠ []): ∃g cap cur,v= .slice (some ⟨g,0,none⟩) ns.length cap∧N≤g∧w.heap[g]? =some (.cells cur 9)∧∀ (i:Nat) x,ns[i]? =some x→cur[i]? =some (at5 x):=by
 obtain⟨_,_,dS,h1,_,h3,h4⟩:=h;rcases h4.2 with⟨_,h5⟩|⟨g,cap,cur,rfl,h5,h6,_,_,_,h7⟩
 ·exact absurd (List.length_eq_zero_iff.1 h5) hne
 ·refine⟨g,cap,cur,rfl,h5,h6,λi x hx=>?_⟩;have h8:dS=ns.map λx=> [at5 x]:=by
   apply List.ext_getElem?;intro j;rw[anr];by_cases hj:j<ns.length
   ·have hc:dS[j]? =some dS[j]:=arn aj;have hy:ns[j]? =some ns[j]:=arn hj;rw[hc,hy];exact congrArg some (h3 j _ _ hc hy)
   ·rw[avj aj,avj aj];rfl
  have h9:dS.flatten=ns.map at5:=by
   rw[h8];exact V2 ns
  rw[h9,Nat.mul_one]at h7;have hi:=(List.getElem?_eq_some_iff.1 hx).1;have h10:=congrArg (λl=>l[i]?) h7;rw[List.getElem?_take,if_pos hi,anr,hx,an0]at h10;exact h10
def Qa(ab:List (ByteArray×ByteArray))(a:ByteArray)(f:List (ByteArray×Int))(b:ByteArray):List (ByteArray×Int):=if gP ab (a,b)||decide (a=b)then dO f a (C3 f a+1)else f
def RO(ab:List (ByteArray×ByteArray))(ns:List ByteArray)(f:List (ByteArray×Int))(a:ByteArray):List (ByteArray×Int):=ns.foldl (Qa ab a) f
def Kv(ab:List (ByteArray×ByteArray))(ns ms:List ByteArray):List (ByteArray×Int):=ms.foldl (RO ab ns) []
theorem VU{ab:List (ByteArray×ByteArray)}{ns:List ByteArray}{f:List (ByteArray×Int)}{a:ByteArray}{k:Nat}{y:ByteArray}(hy:ns[k]? =some y):RO ab (ns.take (k+1)) f a=Qa ab a (RO ab (ns.take k) f a) y:=by
 unfold RO;rw[at8,hy,avV,at9];rfl
theorem UL{ab:List (ByteArray×ByteArray)}{ns ms:List ByteArray}{k:Nat}{y:ByteArray}(hy:ms[k]? =some y):Kv ab ns (ms.take (k+1))=RO ab ns (Kv ab ns (ms.take k)) y:=by
 unfold Kv;rw[at8,hy,avV,at9];rfl
def FM(f:List (ByteArray×Int))(n:Nat):Prop:=∀x,0≤C3 f x∧C3 f x≤n
theorem Wx{ab:List (ByteArray×ByteArray)}{a b:ByteArray}{f:List (ByteArray×Int)}{n:Nat}(h:FM f n):FM (Qa ab a f b) (n+1):=λx=>by
 have h1:=h x;have h2:=h a;unfold Qa;split
 ·have h3:C3 (dO f a (C3 f a+1)) x=if x=a then C3 f a+1 else C3 f x:=by
   unfold C3;rw[yN];split<;>rfl
  rw[h3];split<;>omega
 ·omega
theorem OX{ab:List (ByteArray×ByteArray)}{ns:List ByteArray}{a:ByteArray}: ∀ {f:List (ByteArray×Int)} {n:Nat},FM f n→FM (RO ab ns f a) (n+ns.length):=by
 induction ns with
 |nil=>exact λh=>h
 |cons b l ih=>
  intro f n h;have h1:=ih (Wx (ab:=ab) (a:=a) (b:=b) h);have h2:n+1+l.length=n+(b::l).length:=by simp;omega
  rw[h2]at h1;exact h1
theorem YF{ab:List (ByteArray×ByteArray)}{ns ms:List ByteArray}:FM (Kv ab ns ms) (ms.length*ns.length):=by
 have h: ∀ (ms:List ByteArray) (f:List (ByteArray×Int)) (n:Nat),FM f n→FM (ms.foldl (RO ab ns) f) (n+ms.length*ns.length):=by
  intro ms
  induction ms with
  |nil=>intro f n h;simpa using h
  |cons a l ih=>
   intro f n h;have h1:=ih _ _ (OX (ab:=ab) (ns:=ns) (a:=a) h);have h2:n+ns.length+l.length*ns.length=n+(a::l).length*ns.length:=by rw[as2,Nat.add_mul];omega
   rw[h2]at h1;exact h1
 have:=h ms [] 0 λx=>⟨awI _,awI _⟩
 rwa [arN]at this
def Hf(ns:List ByteArray)(h: ∀x∈ns,bZ x):Array OkS:=(ns.pmap (λx hx=>⟨x,hx⟩) h).toArray
theorem mB{ns:List ByteArray}{h: ∀x∈ns,bZ x}:(Hf ns h).size=ns.length:=by simp[Hf]
theorem QK{w:aly}{g:Nat}{cur:Array aad}{ns:List ByteArray}{h: ∀x∈ns,bZ x}(hb:w.heap[g]? =some (.cells cur 9))(hc: ∀ (i:Nat) x,ns[i]? =some x→cur[i]? =some (at5 x)):Holds encS w g 0 (Hf ns h):=λj hj=>by
 rw[mB]at hj;refine⟨?_,eY hb⟩;rw[arN];refine(aqF w g j _ 9 (0,0) hb).trans ?_;rw[hc j ns[j] (arn hj)];unfold encS;rw[getElem!_pos (Hf ns h) j (by rw[mB];exact hj)];simp[Hf]
theorem aj4{h:Hp}{w:aly}(hw:h.In w){ad:Option alA}{l c:Nat}{cs:List cS}(hcs:h.list 3 cW (.slice ad l c) cs)(hn:cs.length≤1099511627776)(hsm: ∀cl∈cs,Small 1099511627776 cl)
  (hB: ∀k,(a_ (cs.take k)).length≤1099511627776) (hN: ∀x∈a_ cs,bZ x) (hne:a_ cs≠ []) (h20:(a_ cs).length<20) {mb:Nat} {ab:List (ByteArray×ByteArray)} (hM:lF w mb ab):
  asP Tryz.prog 138 #[.slice ad l c,.map (some mb)] w λe w'=>∃g cap,e= .returned (.slice (some ⟨g,0,none⟩) (a_ cs).length cap)∧w.heap.size≤g∧g<w'.heap.size∧af (λ_=>False) w w'∧Holds encS w' g 0 (awD (ltOf (wL (Kv ab (a_ cs) (a_ cs)))) (Hf (a_ cs) hN) 0 (a_ cs).length):=by
 have tV:= @auj Tryz.prog;have k1:=ag9 hw hcs hn hsm hB;obtain⟨ns,AK⟩: ∃ns,ns=a_ cs:=⟨_,rfl⟩;have hN': ∀x∈ns,bZ x:=AK▸hN
 suffices H:asP Tryz.prog 138 #[.slice ad l c,.map (some mb)] w λe w'=>∃g cap,e= .returned (.slice (some ⟨g,0,none⟩) ns.length cap)∧w.heap.size≤g∧g<w'.heap.size∧af (λ_=>False) w w'∧Holds encS w' g 0 (awD (ltOf (wL (Kv ab ns ns))) (Hf ns hN') 0 ns.length) by
  subst AK;exact H
 rw[←AK]at k1 hne h20;clear AK hN hcs hn hsm hB hw;go_enter Tryz.func138,Tryz.ntmps138;go_wp2_with (go_at_call 185;refine k1.mono ?_;clear k1;rintro e w2 ⟨v,rfl,aF,il⟩;obtain⟨g,cap,cur,rfl,hgN,xQ,pQ⟩:=aw.names il hne);obtain⟨M,hMe⟩: ∃x,x=w2.heap.size:=⟨_,rfl⟩;obtain⟨P,zw⟩: ∃x,x=w2.heap.size+1:=⟨_,rfl⟩;obtain⟨w3,hw3⟩: ∃x,x=(w2.alloc (.map #[] 0)).alloc (.cells #[.map (some M)] 307):=⟨_,rfl⟩;have t3:af (λ_=>False) w2 w3:=by rw[hw3];exact((af.refl _ _).alloc _).alloc _
 have Kp:av w3 bZ at5 Ai M []:=by rw[hw3,hMe];exact(av.made (w:=w2)).turn ((af.refl (λ_=>False) _).alloc _) id
 have hP3:w3.heap[P]? =some (.cells #[.map (some M)] 307):=by rw[hw3,zw];exact aR _ _ _
 rw[←hMe]at zw⊢;rw[←hw3,←zw];have hMz:w.heap.size≤M:=by have:=aF.size;omega
 have hgM:g<M:=by rw[hMe];exact atm xQ
 have hPM:M<P:=by omega
 have hg3:=t3.kept xQ id;have eN:=aF.trans t3;have De:=hM.turn eN id;have oZ:=hM.lt;have h23:=t3.size;clear hMe zw hw3 xQ il
 go_loopw [18] (λi wr=>∃ (k:Nat) (f:List (ByteArray×Int)),k≤ns.length∧i= .int .i64 k∧af (·=M) w3 wr∧av wr bZ at5 Ai M f∧at3 (f=Kv ab ns (ns.take k))) (λi _=>ns.length-(intOf i).toNat)
 case atStart=>exact⟨0,[],arQ _,rfl,af.refl _ _,Kp,(rfl:([]:List (ByteArray×Int))=Kv ab ns (ns.take 0))⟩
 case round=>
  clear Kp;obtain⟨k,f,hk,rfl,hT,xR,hf⟩:=hrel;by_cases hlt:k<ns.length
  ·obtain⟨a,ha⟩: ∃y,ns[k]? =some y:=⟨_,arn hlt⟩;have hao:bZ a:=hN' a (ann ha);have e0:wr.cell? ⟨g,k,none⟩=some (.string a):=(aqF wr g k _ 9 (0,0) (hT.kept hg3 aj)).trans (pQ k a ha);have e0':wr.cell? ⟨g,0+k,none⟩=some (.string a):=by rw[arN];exact e0
   have HS:at3 (Kv ab ns (ns.take (k+1))=RO ab ns (Kv ab ns (ns.take k)) a):=UL ha;have fD:at3 (FM f (k*ns.length)):=by
    have:=YF (ab:=ab) (ns:=ns) (ms:=ns.take k);rw[←hf.out,as1,avl hk]at this;exact this
   rw[←hf.out]at HS;clear ha;go_wp2
   go_loopw [24] (λi wr=>∃ (j:Nat) (f':List (ByteArray×Int)),j≤ns.length∧i= .int .i64 j∧af (·=M) w3 wr∧av wr bZ at5 Ai M f'∧at3 (f'=RO ab (ns.take j) f a)) (λi _=>ns.length-(intOf i).toNat)
   case atStart=>exact⟨0,f,arQ _,rfl,hT,xR,(rfl:f=RO ab (ns.take 0) f a)⟩
   case round=>
    clear xR hT;obtain⟨j,f',hj,rfl,gT,kH,hf'⟩:=hrel;by_cases pL:j<ns.length
    ·obtain⟨b,hb⟩: ∃y,ns[j]? =some y:=⟨_,arn pL⟩;have hbo:bZ b:=hN' b (ann hb);have e1:wr.cell? ⟨g,j,none⟩=some (.string b):=(aqF wr g j _ 9 (0,0) (gT.kept hg3 aj)).trans (pQ j b hb);have e1':wr.cell? ⟨g,0+j,none⟩=some (.string b):=by rw[arN];exact e1
     have HT:at3 (RO ab (ns.take (j+1)) f a=Qa ab a (RO ab (ns.take j) f a) b):=VU hb;have abw:FM f' (k*ns.length+j):=by
      have:=OX (ab:=ab) (ns:=ns.take j) (a:=a) fD.out;rw[←hf'.out,as1,avl hj]at this;exact this
     obtain⟨u1,u2⟩:=abw a;have RX:k*ns.length≤400:=by
      have:=Nat.mul_le_mul (show k≤20 by omega) (show ns.length≤20 by omega);omega
     rw[←hf'.out]at HT;have HA:at3 (Qa ab a f' b=if gP ab (a,b)||decide (a=b)then dO f' a (C3 f' a+1)else f'):=rfl;have hqv:=Gl f' a;clear abw hb;generalize C3 f' a=q at u1 u2 hqv HA;have hq1:wrap64 (q+1)=q+1:=by unfold wrap64;omega
     have hP:=gT.kept hP3 aj;have p0:wr.cell? ⟨P,0,none⟩=some (.map (some M)):=(aqF wr P 0 _ 307 (0,0) hP).trans rfl;have hpl:=atm hP;have Kq:lF wr mb ab:=De.turn gT aj;have jN:=kH.turn ((af.refl (λ_=>False) wr).alloc (.cells #[] 251)) id;have tv:=(gT.alloc (.cells #[] 251));cases dC:gP ab (a,b)with
     |true=>
      have o7:au (aU ab) (a,b)=some ():=by rw[cA,if_pos dC]
      rw[dC]at HA;clear dC;go_wp2_with (first|(at_lookup;refine aP gU Tryz.underlying247 bT rfl (.tmp 29) (.tmp 32) rfl rfl (aD _) Kq.hp rfl ⟨hao,hbo⟩ o7 ?_)|(at_lookup;refine bu cI Tryz.underlying307 wR rfl (.tmp 42) (.tmp 43) rfl rfl (aD _) jN.hp rfl hao hqv ?_)|(at_mapUpdate;refine bj cI Tryz.underlying307 rfl (.tmp 42) (.tmp 43) (.tmp 45) rfl rfl jN rfl hao (q+1) rfl ?_;intro w5 bA mg));go_roundw
      case rel=>exact⟨j+1,_,by omega,by go_num,tv.trans bA,mg,by rw[HT.out,HA.out];rfl⟩
      case measure=>simp[intOf];omega
     |false=>
      have o7:au (aU ab) (a,b)=none:=by rw[cA,if_neg (by rw[dC];simp)]
      rw[dC]at HA;clear dC;go_wp2_with (first|(at_lookup;refine aZ gU Tryz.underlying247 bT rfl (.tmp 29) (.tmp 32) rfl rfl (aD _) Kq.hp rfl ⟨hao,hbo⟩ o7 ?_)|(at_lookup;refine bu cI Tryz.underlying307 wR rfl (.tmp 42) (.tmp 43) rfl rfl (aD _) jN.hp rfl hao hqv ?_)|(at_mapUpdate;refine bj cI Tryz.underlying307 rfl (.tmp 42) (.tmp 43) (.tmp 45) rfl rfl jN rfl hao (q+1) rfl ?_;intro w5 bA mg))
      ·rename_i hab;rw[NR]at hab;rw[hab]at HA;go_roundw
       case rel=>exact⟨j+1,_,by omega,by go_num,tv.trans bA,mg,by rw[HT.out,HA.out];rfl⟩
       case measure=>simp[intOf];omega
      ·rename_i hab;rw[NR]at hab;rw[hab]at HA;go_roundw
       case rel=>exact⟨j+1,_,by omega,by go_num,tv,jN,by rw[HT.out,HA.out];rfl⟩
       case measure=>simp[intOf];omega
    ·have AP:ns.take j=ns:=at4 aj;rw[AP]at hf';go_wp2;go_roundw
     case rel=>exact⟨k+1,f',by omega,by go_num,gT,kH,by rw[HS.out];exact hf'.out⟩
     case measure=>simp[intOf];omega
  ·have iQ:ns.take k=ns:=at4 aj;rw[iQ]at hf;have hP:=hT.kept hP3 aj;have p0:wr.cell? ⟨P,0,none⟩=some (.map (some M)):=(aqF wr P 0 _ 307 (0,0) hP).trans rfl;have hgr:=hT.kept hg3 aj;have hsz:(Hf ns hN').size=ns.length:=mB;have k9:=ajO (cap:=cap) xR p0 aj aj (QK (h:=hN') hgr pQ) aj;rw[hsz,hf.out]at k9;go_wp2_with (go_at_call 187;refine k9.mono ?_;clear k9;rintro e w9 ⟨rfl,Bf,hH9⟩);go_ret;exact⟨g,cap,rfl,hgN,Nat.lt_of_lt_of_le (atm hgr) Bf.size,(eN.bL hT λb (hb:b=M)=> .inl aj).bL Bf λb (hb:b=g)=> .inl aj,hH9⟩
end Go.Proofs.YtkdljbnllgpfhaaGreat
end
section
namespace Go.Proofs.YtkdljbnllgpfhaaGreat
open Go Go.RowKit Go.Upr Go.Lib Go.Sort
theorem O_:eL Tryz.prog 152 245 2 32:= .mk' Tryz.underlying152 (z:= .agg #[.slice none 0 0,.bool false]) ar rfl aI
def iz(ab:List (ByteArray×ByteArray))(ns:List ByteArray)(h: ∀x∈ns,bZ x):List ByteArray:=(awD (ltOf (wL (Kv ab ns ns))) (Hf ns h) 0 ns.length).toList.map awH
def sP(ab:List (ByteArray×ByteArray))(cs:List cS)(ns:List ByteArray)(st:List ByteArray×List Lay)(n:ByteArray):List ByteArray×List Lay:=
 if gP st.1 n then st else(st.1++sO ab n ns,if dY (sO ab n ns) cs= []then st.2 else st.2++ [⟨dY (sO ab n ns) cs,gP ab (n,n)⟩])
def qc(ab:List (ByteArray×ByteArray))(cs:List cS)(ns ms:List ByteArray):List ByteArray×List Lay:=ms.foldl (sP ab cs ns) ([],[])
theorem Qm{ab:List (ByteArray×ByteArray)}{cs:List cS}{ns ms:List ByteArray}{k:Nat}{y:ByteArray}(hy:ms[k]? =some y):qc ab cs ns (ms.take (k+1))=sP ab cs ns (qc ab cs ns (ms.take k)) y:=by
 unfold qc;rw[at8,hy,avV,at9];rfl
theorem U3{ab:List (ByteArray×ByteArray)}{cs:List cS}{ns ms:List ByteArray}:(qc ab cs ns ms).2.length≤ms.length:=by
 have h: ∀ (ms:List ByteArray) (st:List ByteArray×List Lay),(ms.foldl (sP ab cs ns) st).2.length≤st.2.length+ms.length:=by
  intro ms
  induction ms with
  |nil=>intro st;exact agl _
  |cons a l ih=>
   intro st;have h1:=ih (sP ab cs ns st a);have h2:(sP ab cs ns st a).2.length≤st.2.length+1:=by
    unfold sP;split
    ·omega
    ·dsimp only;split
     ·omega
     ·simp
   rw[List.foldl_cons,as2];omega
 have:=h ms ([],[]);exact Nat.le_trans this bz
theorem rZ.mono{h k:Hp}(e:h.le k){c:List aad}{x:Lay}(H:rZ h c x):rZ k c x:=by
 obtain⟨v,h1,h2⟩:=H;exact⟨v,h1,Hp.list.mono (h:=h) (k:=k) (λ_ _=>cW.mono e) h2 e⟩
theorem c78{h:Hp}{w:aly}(hw:h.In w){ad:Option alA}{l c:Nat}{cs:List cS}(hcs:h.list 3 cW (.slice ad l c) cs)(hn:cs.length≤1099511627776)(hsm: ∀cl∈cs,Small 1099511627776 cl)
  (hB: ∀k,(a_ (cs.take k)).length≤1099511627776) (hN: ∀x∈a_ cs,bZ x) (hne:a_ cs≠ []) (h20:(a_ cs).length<20):
  asP Tryz.prog 78 #[.slice ad l c] w λe w'=>∃la lc K,e= .returned (.slice la (qc (dz cs) cs (a_ cs) (iz (dz cs) (a_ cs) hN)).2.length lc)∧af (λ_=>False) w w'∧K.In w'∧Hp.Ext w.heap.size h K∧K.list 2 rZ (.slice la (qc (dz cs) cs (a_ cs) (iz (dz cs) (a_ cs) hN)).2.length lc) (qc (dz cs) cs (a_ cs) (iz (dz cs) (a_ cs) hN)).2:=by
 have tV:= @auj Tryz.prog;have k1:=aeT hw hcs hn hsm hB hN;obtain⟨ab,hab⟩: ∃x,x=dz cs:=⟨_,rfl⟩;rw[←hab]at k1⊢;clear hab;have abW:=λw' mb (ht:af (λ_=>False) w w') (hA:lF w' mb ab)=>aj4 (hw.turn ht λ_ _ _=>id) hcs hn hsm hB hN hne h20 hA;obtain⟨d,hd⟩: ∃d,d=awD (ltOf (wL (Kv ab (a_ cs) (a_ cs)))) (Hf (a_ cs) hN) 0 (a_ cs).length:=⟨_,rfl⟩;obtain⟨sl,pZ⟩: ∃sl,sl=iz ab (a_ cs) hN:=⟨_,rfl⟩;have hsd:sl=d.toList.map awH:=by rw[pZ,hd];rfl
 have hdz:d.size=(a_ cs).length:=by
  have h1:=((awG (LO (Kv ab (a_ cs) (a_ cs))) (Hf (a_ cs) hN) 0 (a_ cs).length (arQ _) (by rw[mB];exact agl _)).1).1;rw[←hd,mB]at h1;exact h1
 rw[←hd]at abW;rw[←pZ];clear pZ hd;go_enter Tryz.func78,Tryz.ntmps78;go_wp2_with (first|(go_at_call 137;refine k1.mono ?_;clear k1;rintro e w2 ⟨mb,rfl,oZ,aF,lC⟩;have tA:=(af.refl (λ_=>False) w2).alloc (.map #[] 0);have k2:=abW _ mb (aF.trans tA) (lC.turn tA id);clear abW;have Kp:av (w2.alloc (.map #[] 0)) bZ at5 aY w2.heap.size (aU ([]:List ByteArray)):=av.made)|(go_at_call 138;refine k2.mono ?_;clear k2;rintro e w4 ⟨g,cap,rfl,hgz,o8,ck,hH4⟩));obtain⟨S,hS⟩: ∃x,x=w2.heap.size:=⟨_,rfl⟩;have NH:=Kp.turn ck id;have xX:=(aF.trans tA).trans ck;have xS:=(lC.turn tA id).turn ck id;have hmS:=lC.lt;have hSl:=NH.lt;rw[←hS]at NH hmS hSl⊢;have hSz:w.heap.size≤S:=by have:=aF.size;omega
 have hgS:S<g:=by simp at hgz;omega
 have hw4:=hw.turn xX λ_ _ _=>id;have lB:aw w4 w4.heap.size 245 2 rZ h (.slice none 0 0) ([]:List Lay):= .nil hw4;have h24:=xX.size;clear Kp hS tA aF ck lC;obtain⟨N4,hN4⟩: ∃x,x=w4.heap.size:=⟨_,rfl⟩;have aks:sl.length=(a_ cs).length:=by rw[hsd,auB,Array.length_toList,hdz]
 have akT:S<N4:=by omega
 have akS:w.heap.size≤N4:=by omega
 rw[←hN4]at lB
 go_loopw [4,22] (λv i wr=>∃ (k:Nat) (sn:List ByteArray) (K:Hp),k≤(a_ cs).length∧i= .int .i64 k∧af (·=S) w4 wr∧av wr bZ at5 aY S (aU sn)∧at3 (∀x,x∈sn↔x∈(qc ab cs (a_ cs) (sl.take k)).1)∧Hp.Ext N4 h K∧aw wr N4 245 2 rZ K v (qc ab cs (a_ cs) (sl.take k)).2) (λ_ i _=>(a_ cs).length-(intOf i).toNat)
 case atStart=>exact⟨0,[],h,arQ _,rfl,af.refl _ _,NH,(λx=>Iff.rfl: ∀x,x∈([]:List ByteArray)↔x∈(qc ab cs (a_ cs) (sl.take 0)).1),Hp.Ext.refl _ _,lB⟩
 case round=>
  clear lB NH;obtain⟨k,sn,K,hk,rfl,hT,xR,GY,hx,hm⟩:=hrel;have WH:=hT.size;by_cases hlt:k<(a_ cs).length
  ·obtain⟨nm,E2⟩: ∃y,sl[k]? =some y:=⟨_,arn aj⟩;have WR:(d[k]!).1=nm:=by
    rw[hsd,anr,an0,Array.getElem?_eq_getElem aj]at E2;rw[getElem!_pos d k aj];exact alN E2
   have hno:bZ nm:=WR▸ (d[k]!).2;have e0:wr.cell? ⟨g,0+k,none⟩=some (.string nm):=by
    rw[←WR];exact hT.cell (hH4 k aj).1 aj
   have e0':wr.cell? ⟨g,k,none⟩=some (.string nm):=by rw[arN]at e0;exact e0
   have HS:at3 (qc ab cs (a_ cs) (sl.take (k+1))=sP ab cs (a_ cs) (qc ab cs (a_ cs) (sl.take k)) nm):=Qm E2;have hol:(qc ab cs (a_ cs) (sl.take k)).2.length≤20:=by
    have:=U3 (ab:=ab) (cs:=cs) (ns:=a_ cs) (ms:=sl.take k);rw[as1]at this;omega
   clear E2 WR;generalize qc ab cs (a_ cs) (sl.take k)=st at GY hm HS hol;have hKS: ∀b o,K b=some o→¬b=S:=λb o hb e=>by
    rcases hx.new b o hb with h1|h1
    ·have:=hw.lt h1;omega
    ·omega
   have tv:=(af.refl (λ_=>False) wr).alloc (.cells #[] 251);cases dC:gP sn nm with
   |true=>
    have o7:au (aU sn) nm=some ():=by rw[cA,if_pos dC]
    have hst:gP st.1 nm=true:=by
     rw[gP,aue]at dC⊢;obtain⟨y,h1,h2⟩:=dC;exact⟨y,(GY.out y).1 h1,h2⟩
    have HF:at3 (sP ab cs (a_ cs) st nm=st):=by show _=_;unfold sP;rw[if_pos hst]
    clear dC hst;go_wp2_with (at_lookup;refine aP cI Tryz.underlying249 bT rfl (.tmp 27) (.tmp 28) rfl rfl (aD _) xR.hp rfl hno o7 ?_);go_roundw
    case rel=>exact⟨k+1,sn,K,by omega,by go_num,hT.bL tv λ_ h=>h.elim,xR.turn tv id,by rw[HS.out,HF.out];exact GY,hx,by rw[HS.out,HF.out];exact hm.turn tv (λ_ _=>id) λ_ _ _=>id⟩
    case measure=>simp[intOf];omega
   |false=>
    have o7:au (aU sn) nm=none:=by rw[cA,if_neg (by rw[dC];simp)]
    have hst: ¬gP st.1 nm=true:=by
     intro h1;rw[gP,aue]at h1;obtain⟨y,h2,h3⟩:=h1;have h4:gP sn nm=true:=by
      rw[gP,aue];exact⟨y,(GY.out y).2 h2,h3⟩
     rw[dC]at h4;cases h4
    have HF:at3 (sP ab cs (a_ cs) st nm=(st.1++sO ab nm (a_ cs),if dY (sO ab nm (a_ cs)) cs= []then st.2 else st.2++ [⟨dY (sO ab nm (a_ cs)) cs,gP ab (nm,nm)⟩])):=by show _=_;unfold sP;rw[if_neg hst]
    clear dC hst;have sD:af (λ_=>False) w wr:=xX.bL hT λb (hb:b=S)=> .inl aj;have hAr:lF wr mb ab:=xS.turn hT aj;have k5:=aj3 (hw.turn (sD.trans tv) λ_ _ _=>id) hno (hAr.turn tv id) hcs hn hsm hB hN;generalize sO ab nm (a_ cs)=KJ at k5 HF;go_wp2_with (first|(at_lookup;refine aZ cI Tryz.underlying249 bT rfl (.tmp 27) (.tmp 28) rfl rfl (aD _) xR.hp rfl hno o7 ?_)|(go_at_call 139;refine k5.mono ?_;clear k5;rintro e w5 ⟨gb,rfl,hgb,bA,Fj⟩)|(at_range;refine fZ Tryz.underlying249 rfl (.tmp 37) rfl rfl Fj ?_;intro w6 bH Hh C7));have t6:af (λ_=>False) wr w6:=(tv.trans bA).trans bH;have ad4:wr.heap.size<gb:=by simp at hgb;omega
    have adZ:=Fj.lt;have zt:=t6.size;obtain⟨it,hit⟩: ∃x,x=w5.heap.size:=⟨_,rfl⟩;rw[←hit]at C7 Hh adZ⊢;have wE:S<wr.heap.size:=xR.lt;have Sa:=xR.turn t6 id;have wK:wr.heap.size≤it:=by omega
    clear hit o7 bA bH Fj;go_frame
    go_loopg [] (aU KJ).length (λgk wq=>∃ (came:List (ByteArray×Unit)) (RL:List ByteArray),came.length+gk=(aU KJ).length∧af (λb=>b=S∨b=it) w6 wq∧av wq bZ at5 aY S (aU RL)∧at3 (∀x,x∈RL↔x∈sn∨(x,())∈came)∧cN wq bZ at5 aY gb it (aU KJ) came)
    case atStart=>exact⟨[],sn,by simp,af.refl _ _,Sa,(λx=>by simp: ∀x,x∈sn↔x∈sn∨(x,())∈([]:List (ByteArray×Unit))),C7⟩
    case round=>
     clear C7 Sa;obtain⟨came,RL,bW,gT,kH,abj,hR⟩:=hrel;go_wp2_with (at_next;refine iy cI rfl (.tmp 38) rfl rfl hR aj ?_ ?_)
     ·intro sB;have mf: ∀x∈KJ,(x,())∈came:=λx hx=>sB x () (amk.2 ⟨x,hx,rfl⟩);have iX:=hR.sub;have gJ:at3 (∀x,x∈RL↔x∈st.1++KJ):=λx=>by
       rw[abj.out,GY.out,List.mem_append];constructor
       ·rintro(h1|h1)
        ·exact .inl h1
        ·obtain⟨y,hy,e⟩:=amk.1 (iX.1 _ h1);cases e;exact .inr hy
       ·rintro(h1|h1)
        ·exact .inl h1
        ·exact .inr (mf x h1)
      clear sB mf iX abj;have PL:af (·=S) w4 wr:=(hT.bL t6 λ_ h=>h.elim).bL gT λb hb=>hb.elim .inr λe=> .inl aj;have alk:af (λ_=>False) w wr:=xX.bL PL λb (hb:b=S)=> .inl aj;have hGq:=hR.map;have Kq:lF wr mb ab:=xS.turn PL aj;have DM:aw wr N4 245 2 rZ K u4 st.2:=(hm.turn t6 (λ_ _=>id) λ_ _ _=>id).gB gT (λb hb h=>by have h1:=hm.own b hb;omega) λb ob hb h=>h.elim (hKS b ob hb) λh=>by have:=hm.known.lt hb;omega
      have hzq:=PL.size;have k7:=aj2 DM.known hGq (Hp.list.mono (h:=h) (k:=K) (λ_ _=>cW.mono hx.le) hcs hx.le) hn hsm;by_cases hr:dY KJ cs= []
      ·rw[hr]at k7;rw[if_pos hr]at HF;clear hr;go_wp2_with (go_at_call 140;refine k7.mono ?_;clear k7;rintro e w7 ⟨ad7,c7,rfl,eC,K7,hk7,Nq,hl7⟩);go_roundw
       case rel=>exact⟨k+1,RL,K,by omega,by go_num,PL.bL eC λ_ h=>h.elim,kH.turn eC id,by rw[HS.out,HF.out];exact gJ,hx,by rw[HS.out,HF.out];exact DM.turn eC (λ_ _=>id) λ_ _ _=>id⟩
       case measure=>simp[intOf];omega
      ·rw[if_neg hr]at HF;have AJ:0<(dY KJ cs).length:=by
        cases hh:dY KJ cs with
        |nil=>exact absurd hh hr
        |cons _ _=>simp
       clear hr;cases DK:gP ab (nm,nm)with
       |false=>
        have hl2:au (aU ab) (nm,nm)=none:=by rw[cA,if_neg (by rw[DK];simp)]
        rw[DK]at HF;clear DK;go_wp2_with (first|(go_at_call 140;refine k7.mono ?_;clear k7;rintro e w7 ⟨ad7,c7,rfl,eC,K7,hk7,Nq,hl7⟩;have hA7:=Kq.turn eC id;have tv7:=(af.refl (λ_=>False) w7).alloc (.cells #[] 251);have Dc:=(DM.ext eC Nq hk7 (λ_ _=>rZ.mono Nq.le)).turn tv7 (λ_ _=>id) (λ_ _ _=>id);have C_:=eC.size)|(at_lookup;refine aZ gU Tryz.underlying247 bT rfl (.tmp 53) (.tmp 56) rfl rfl (aD _) hA7.hp rfl ⟨hno,hno⟩ hl2 ?_)|(at_builtin;refine bK O_ rfl (.tmp 60) (.tmp 64) rfl Dc rfl ⟨dY KJ cs,false⟩ #[.slice ad7 (dY KJ cs).length c7,.bool false] ⟨_,rfl,hl7⟩ rfl (by simp[atv]) rfl bz aj aj lq ?_;intro g8 Tq w8 Ny jJ _));go_roundw
        case rel=>
         refine⟨k+1,RL,K7,by omega,by go_num,(PL.bL (eC.trans tv7) λ_ h=>h.elim).bL jJ λb hb=> .inl (by have:=(Dc.own b hb).1;omega),(((kH.turn eC id).turn tv7 id).turn jJ λh=>by have:=(Dc.own _ h).1;omega),by rw[HS.out,HF.out];exact gJ,⟨hx.le.trans Nq.le,λb o hb=>(Nq.new b o hb).elim (hx.new b o) λh=> .inr aj⟩,by rw[HS.out,HF.out];exact Ny⟩
        case measure=>simp[intOf];omega
       |true=>
        have hl2:au (aU ab) (nm,nm)=some ():=by rw[cA,if_pos DK]
        rw[DK]at HF;clear DK;go_wp2_with (first|(go_at_call 140;refine k7.mono ?_;clear k7;rintro e w7 ⟨ad7,c7,rfl,eC,K7,hk7,Nq,hl7⟩;have hA7:=Kq.turn eC id;have tv7:=(af.refl (λ_=>False) w7).alloc (.cells #[] 251);have Dc:=(DM.ext eC Nq hk7 (λ_ _=>rZ.mono Nq.le)).turn tv7 (λ_ _=>id) (λ_ _ _=>id);have C_:=eC.size)|(at_lookup;refine aP gU Tryz.underlying247 bT rfl (.tmp 53) (.tmp 56) rfl rfl (aD _) hA7.hp rfl ⟨hno,hno⟩ hl2 ?_)|(at_builtin;refine bK O_ rfl (.tmp 60) (.tmp 64) rfl Dc rfl ⟨dY KJ cs,true⟩ #[.slice ad7 (dY KJ cs).length c7,.bool true] ⟨_,rfl,hl7⟩ rfl (by simp[atv]) rfl bz aj aj lq ?_;intro g8 Tq w8 Ny jJ _));go_roundw
        case rel=>
         refine⟨k+1,RL,K7,by omega,by go_num,(PL.bL (eC.trans tv7) λ_ h=>h.elim).bL jJ λb hb=> .inl (by have:=(Dc.own b hb).1;omega),(((kH.turn eC id).turn tv7 id).turn jJ λh=>by have:=(Dc.own _ h).1;omega),by rw[HS.out,HF.out];exact gJ,⟨hx.le.trans Nq.le,λb o hb=>(Nq.new b o hb).elim (hx.new b o) λh=> .inr aj⟩,by rw[HS.out,HF.out];exact Ny⟩
        case measure=>simp[intOf];omega
     ·intro x u w7 jQ uN xZ eC Bi;obtain⟨m,rfl⟩: ∃m,gk=m+1:=⟨gk- 1,by omega⟩;have Xg:bZ x:=Bi.sub.2.2 (x,u) bz;have hM7:=kH.turn eC aj;have HP:at3 (dO (aU RL) x ()=aU (ly RL x)):=qq RL x;have jN:=hM7.turn ((af.refl (λ_=>False) w7).alloc (.cells #[] 251)) id;have alm:=Bi.turn ((af.refl (λ_=>False) w7).alloc (.cells #[] 251)) id id;go_wp2_with (first|(refine fI rfl (.tmp 38) rfl rfl Bi ?_)|(at_mapUpdate;refine bj cI Tryz.underlying249 rfl (.tmp 43) (.tmp 44) (.tmp 45) rfl rfl hM7 rfl Xg () rfl ?_;intro w8 jJ SJ))
      go_roundg m
      case measure=>exact Nat.lt_succ_self m
      case rel=>
       refine⟨came++ [(x,u)],ly RL x,by simp;omega,(gT.trans (eC.mono λb _ hb=> .inr hb)).trans (jJ.mono λb _ hb=> .inl hb),by rw[←HP.out];exact SJ,(λy=>?_: ∀y,y∈ly RL x↔y∈sn∨(y,())∈came++ [(x,u)]),Bi.turn jJ aj aj⟩;rw[Jx,abj.out];simp[or_assoc]
  ·have iQ:sl.take k=sl:=at4 aj;rw[iQ]at hm;obtain⟨va,vc,rfl⟩:=hm.shape;obtain⟨K5,q1,q2,q3,q4⟩:=hm.done (λk' hk c x=>rZ.mono hk);go_wp2;go_ret
   exact⟨_,_,K5,rfl,xX.bL hT λb (hb:b=S)=> .inl aj,q1,⟨hx.le.trans q2,λb o hb=>by
    rcases q3 b o hb with h5|h5
    ·exact(hx.new b o h5).imp id λh6=>by omega
    ·exact .inr (by have:=(hm.own b h5).1;omega)⟩,q4⟩
end Go.Proofs.YtkdljbnllgpfhaaGreat
end
namespace Go.Upr
open Go.Conc
def pv(ρ:ang→aad)(o:apy):Option Value:=
 match o.op with
 | .move x| .assign x=>some (ρ x)
 | .extract x i=>match ρ x with
  | .tuple vs=>vs[i]?
  |_=>none
 | .pick c x y=>match ρ c with
  | .bool b=>some (ρ (if b then x else y))
  |_=>none
 |_=>none
section
variable{P:alu}{F:alB→Bool}{Q:bF→aoz→List aoz→Prop}{f:Ren}{v:aly}{e s:Nat→Option Obj}{b:aoz}{a0 a1:Act}{k k1:List api}{cs:List aoz}{ops:Array apy}
theorem acJ{ρ:ang→aad}{o:apy}{u:aad}(h:pv ρ o=some u)(w:aly):(execOp ρ o).run P w= .ok (.value u) w:=by
 obtain⟨dst,op,ty,pos,after,guard⟩:=o;unfold pv at h;dsimp only at h;split at h
 ·cases h;simp[go_sem]
 ·cases h;simp[go_sem]
 ·split at h
  ·rename_i x i vs hx;simp[go_sem,hx,h]
  ·cases h
 ·split at h
  ·rename_i c x y b hb;cases h;cases b<;>simp[go_sem,hb]
  ·cases h
 ·cases h
theorem az.one(H:Held P F){i:Nat}{rest:List Nat}{o:apy}(u:aad)(ho:ops[i]? =some o)(hw:apY o (yielded ops a0.tmps)=true)(hk:b.kind≠ .early)(gH:mM P F o=true)
  (hl: ∀T,(execOp a0.eval o).run P (ax v T)= .ok (.value u) (ax v T)) (hs:az P F Q f v e s b (a0.put o.dst u) (.inRegion ops rest::k) cs):az P F Q f v e s b a0 (.inRegion ops (i::rest)::k) cs:=by
 refine az.op H ho hw hk gH (Y:=λu' w=>u'=u∧∃T,w=ax v T) (λT _=>⟨_,u,_,hl T,.inl rfl,rfl,T,rfl⟩) λu' v1 hY=>?_;obtain⟨rfl,T,h2⟩:=hY v1.tape λ_ _=>rfl;have h4:ax v1 v1.tape=ax v T:=h2;have h3:ax v1 v.tape=v:=by
  have:=congrArg (λx=>ax x v.tape) h4;exact this
 exact az.yu v.tape (by rw[h3];exact hs)
theorem az.grow(H:Held P F){i:Nat}{rest:List Nat}{o:apy}(u:aad)(ob:Obj)(ho:ops[i]? =some o)(hw:apY o (yielded ops a0.tmps)=true)(hk:b.kind≠ .early)(gH:mM P F o=true)
  (hl: ∀T,(execOp a0.eval o).run P (ax v T)= .ok (.value u) (ax (v.alloc ob) T)) (hs:az P F Q f (v.alloc ob) e s b (a0.put o.dst u) (.inRegion ops rest::k) cs):az P F Q f v e s b a0 (.inRegion ops (i::rest)::k) cs:=by
 refine az.op H ho hw hk gH (Y:=λu' w=>u'=u∧∃T,w=ax (v.alloc ob) T) (λT _=>⟨_,u,_,hl T,.inl rfl,rfl,T,rfl⟩) λu' v1 hY=>?_;obtain⟨rfl,T,h2⟩:=hY v1.tape λ_ _=>rfl;have h4:ax v1 v1.tape=ax (v.alloc ob) T:=h2;have h3:ax v1 (v.alloc ob).tape=v.alloc ob:=by
  have:=congrArg (λx=>ax x (v.alloc ob).tape) h4;exact this
 exact az.yu (v.alloc ob).tape (by rw[h3];exact hs)
def nth:List apy→Nat→Option apy
 | [],_=>none
 |o::_,0=>some o
 |_::l,n+1=>nth l n
theorem Uk: ∀ (l:List apy) (i:Nat),nth l i=l[i]?
 | [],_=>rfl
 |_::_,0=>rfl
 |_::l,n+1=>Uk l n
theorem yx{i:Nat}{o:apy}(h:nth ops.toList i=some o):ops[i]? =some o:=by rw[Uk]at h;simpa using h
def rgs:Code→List (Array apy)
 | .region _ o _=> [o]
 | .seq a b=>rgs a++rgs b
 | .cond _ a b=>rgs a++rgs b
 | .block _ a=>rgs a
 | .loop a=>rgs a
 | .scope a=>rgs a
 |_=> []
def adr:List (Array apy)→Nat→Array apy
 | [],_=> #[]
 |o::_,0=>o
 |_::l,n+1=>adr l n
def rg(f:Func)(i:Nat):Array Oper:=match f.body with
 |some c=>adr (rgs c) i
 |none=> #[]
inductive Stt where
 |st (a:Act) (k:List api)
 |no
def P_(a:Act):List api→Stt
 | .code (.seq x y)::k=> .st a (.code x:: .code y::k)
 | .code .skip::k=> .st a k
 | .code (.region _ ops false)::k=> .st a (.inRegion ops (List.range ops.size)::k)
 | .inRegion _ []::k=> .st a k
 | .inRegion ops (i::l)::k=>match nth ops.toList i with
  |some o=>bif apY o (yielded ops a.tmps)then(match pv a.eval o with
   |some u=> .st (a.put o.dst u) (.inRegion ops l::k)
   |none=> .no)else .st (a.put o.dst undef) (.inRegion ops l::k)
  |none=> .no
 | .code (.cond (.tmp t) c1 c2)::k=>match a.eval (.tmp t)with
  | .bool x=> .st a (.code (bif x then c1 else c2)::k)
  |_=> .no
 | .code (.block id c)::k=> .st a (.code c:: .inBlock id::k)
 | .inBlock _::k=> .st a k
 | .code (.loop c)::k=> .st a (.code c:: .inLoop c::k)
 | .inLoop c::k=> .st a (.code c:: .inLoop c::k)
 | .code (.exit id)::k=>match exitTo id k with
  |some k'=> .st a k'
  |none=> .no
 |_=> .no
def okI(P:alu)(F:alB→Bool):List api→Bool
 | .inRegion ops (i::_)::_=>(ops[i]?).elim true (mM P F)
 |_=>true
theorem az.P_(H:Held P F)(hk:b.kind≠ .early)(h:Go.Upr.P_ a0 k= .st a1 k1)(hi:okI P F k=true)(hs:az P F Q f v e s b a1 k1 cs):az P F Q f v e s b a0 k cs:=by
 unfold Go.Upr.P_ at h;split at h
 ·cases h;exact .ctl (λa w=>stepG_seq) hs
 ·cases h;exact .ctl (λa w=>stepG_skip) hs
 ·cases h;exact .ctl (λa w=>stepG_region) hs
 ·cases h;exact .ctl (λa w=>stepG_region_end) hs
 ·split at h
  ·rename_i o ho;replace ho:=yx ho;cases hw:apY o (yielded _ a0.tmps)with
   |false=>rw[hw]at h;cases h;exact .skip ho hw hs
   |true=>
    rw[hw]at h;dsimp only[cond_true]at h;split at h
    ·rename_i u hu;cases h;have gH:mM P F o=true:=by unfold okI at hi;dsimp only at hi;rw[ho]at hi;exact hi
     exact .one H _ ho hw hk gH (λT=>acJ hu _) hs
    ·cases h
  ·cases h
 ·split at h
  ·rename_i x hx;cases h;refine .cond hx ?_;rw[←Bool.cond_eq_ite];exact hs
  ·cases h
 ·cases h;exact .ctl (λa w=>stepG_block) hs
 ·cases h;exact .ctl (λa w=>stepG_inBlock) hs
 ·cases h;exact .ctl (λa w=>stepG_loop) hs
 ·cases h;exact .ctl (λa w=>stepG_inLoop) hs
 ·split at h
  ·rename_i hx;cases h;exact .ctl (λa w=>stepG_exit hx) hs
  ·cases h
 ·cases h
def adv:Nat→Act→List api→Stt
 |0,a,k=> .st a k
 |n+1,a,k=>match P_ a k with
  | .st a1 k1=>adv n a1 k1
  | .no=> .st a k
def Od(P:alu)(F:alB→Bool):Nat→Act→List api→Bool
 |0,_,_=>true
 |n+1,a,k=>match P_ a k with
  | .st a1 k1=>okI P F k&&Od P F n a1 k1
  | .no=>true
theorem az.adv(H:Held P F)(hk:b.kind≠ .early): ∀ (n:Nat) {a0:Act} {k:List api},Go.Upr.adv n a0 k= .st a1 k1→Od P F n a0 k=true→az P F Q f v e s b a1 k1 cs→az P F Q f v e s b a0 k cs
 |0,_,_,h,_,hs=>by cases h;exact hs
 |n+1,_,_,h,ho,hs=>by
  unfold Go.Upr.adv at h;unfold Od at ho;split at h
  ·rename_i h1;rw[h1]at ho;dsimp only at ho;rw[Bool.and_eq_true]at ho;exact .P_ H hk h1 ho.1 (az.adv H hk n h ho.2 hs)
  ·cases h;exact hs
end
end Go.Upr
namespace Go.Proofs.YtkdljbnllgpfhaaGreat
open Go Go.Upr Go.Conc
section
variable{Q:bF→aoz→List aoz→Prop}{f:Ren}{v:aly}{e s:Nat→Option Obj}{fn g:alB}{a0 a1:Act}{k k1:List api}{cs:List aoz}{ops:Array apy}{i:Nat}{rest:List Nat}{o:apy}{oa:Array ang}{ats:Array TypeId}{x:Func}
theorem Ir(f:alB):(base f).kind≠ .early:=by unfold base;simp
theorem fR(n:Nat)(h:adv n a0 k= .st a1 k1)(hs:az Tryz.prog bG Q f v e s (base fn) a1 k1 cs)(ho:Od Tryz.prog bG n a0 k=true:=by kernel_rfl):az Tryz.prog bG Q f v e s (base fn) a0 k cs:=az.adv fC (Ir _) n h ho hs
theorem cQ(u:aad)(hs:az Tryz.prog bG Q f v e s (base fn) (a0.put o.dst u) (.inRegion ops rest::k) cs)(ho:nth ops.toList i=some o:=by rfl)(hw:Region.wanted o (yielded ops a0.tmps)=true:=by rfl)(gH:mM Tryz.prog bG o=true:=by decide+kernel)
  (hl: ∀T,(execOp a0.eval o).run Tryz.prog (ax v T)= .ok (.value u) (ax v T):=by intro T;simp[go_sem]):az Tryz.prog bG Q f v e s (base fn) a0 (.inRegion ops (i::rest)::k) cs:=az.one fC u (yx ho) hw (Ir _) gH hl hs
theorem ask(hs:az Tryz.prog bG Q f v e s (base fn) (a0.put o.dst undef) (.inRegion ops rest::k) cs)(ho:nth ops.toList i=some o:=by rfl)(hw:Region.wanted o (yielded ops a0.tmps)=false:=by rfl):az Tryz.prog bG Q f v e s (base fn) a0 (.inRegion ops (i::rest)::k) cs:=az.skip (yx ho) hw hs
theorem agr(u:aad)(ob:Obj)(hs:az Tryz.prog bG Q f (v.alloc ob) e s (base fn) (a0.put o.dst u) (.inRegion ops rest::k) cs)(ho:nth ops.toList i=some o:=by rfl)(hw:Region.wanted o (yielded ops a0.tmps)=true:=by rfl)(gH:mM Tryz.prog bG o=true:=by decide+kernel)
  (hl: ∀T,(execOp a0.eval o).run Tryz.prog (ax v T)= .ok (.value u) (ax (v.alloc ob) T):=by intro T;rw[hB];simp[go_sem,ax];rfl):az Tryz.prog bG Q f v e s (base fn) a0 (.inRegion ops (i::rest)::k) cs:=az.grow fC u ob (yx ho) hw (Ir _) gH hl hs
theorem acl(hf:Tryz.prog.funcs[g]? =some x)(args:Array aad){Post:aly→aad→aly→Prop}(hc: ∀T,asP Tryz.prog g args (ax v T) λe w'=>∃u,e= .returned u∧Post (ax v T) u w')
  (hs: ∀T T' u v1,v1.tape=v.tape→Post (ax v T) u (ax v1 T')→az Tryz.prog bG Q f v1 e s (base fn) (a0.put o.dst u) (.inRegion ops rest::k) cs)
  (ho:nth ops.toList i=some o:=by rfl) (hw:Region.wanted o (yielded ops a0.tmps)=true:=by rfl) (hop:o.op= .call {callee:= .value (.func g),args:=oa,argTypes:=ats}:=by rfl) (hname:(x.name== "runtime.NumGoroutine")=false:=by rfl) (hb:x.body.isNone=false:=by rfl) (hF:bG g=true:=by decide+kernel) (has:oa.all (bP bG)=true:=by decide+kernel) (hv:oa.map a0.eval=args:=by simp[go_sem]):
  az Tryz.prog bG Q f v e s (base fn) a0 (.inRegion ops (i::rest)::k) cs:=az.call fC (yx ho) hw (Ir _) hop hf hname hb hF has hv hc hs
theorem XQ(hf:Tryz.prog.funcs[g]? =some x)(args:Array aad){Post:aad→aly→Prop}(hc:Goes Tryz.prog bG g args f v e s Post)(hs: ∀u v1,Post u v1→az Tryz.prog bG Q f v1 e s (base fn) (a0.put o.dst u) (.inRegion ops rest::k) cs)
  (ho:nth ops.toList i=some o:=by rfl) (hw:Region.wanted o (yielded ops a0.tmps)=true:=by rfl) (hop:o.op= .call {callee:= .value (.func g),args:=oa,argTypes:=ats}:=by rfl) (hname:(x.name== "runtime.NumGoroutine")=false:=by rfl) (hb:x.body.isNone=false:=by rfl) (has:oa.all (bP bG)=true:=by decide+kernel) (hv:oa.map a0.eval=args:=by simp[go_sem]):
  az Tryz.prog bG Q f v e s (base fn) a0 (.inRegion ops (i::rest)::k) cs:=az.goes (yx ho) hw (Ir _) hop hf hname hb has hv hc hs
end
end Go.Proofs.YtkdljbnllgpfhaaGreat
