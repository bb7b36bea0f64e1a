import Derived.Test.YtkdljbnllgpfhaaGreatB1
import Derived.Test.YtkdljbnllgpfhaaGreatB2
import Derived.Test.YtkdljbnllgpfhaaGreatB3
set_option maxRecDepth 100000
set_option maxHeartbeats 8000000
open Go renaming lt_of_block→atm,heap_alloc_new→atp,World→aly,cell_of_row→aqF,Value→aad,Calls→asP,Addr→alA,wpIn_cond_false→awe,wpIn_cond_true→awf
open Go.World renaming size_alloc→atS
open List renaming range→at0,mem_of_getElem?→ann,getElem?_eq_some_iff→apT,getElem?_eq_getElem→arn,length_eq_zero_iff→avo,length_cons→as2,length_filter_le→avN,filter_append→avP,getElem?_map→anr,foldl_append→at9,mem_nil_iff→avt,cons_ne_nil→awa,range_succ→awc,mem_filter→auV,map_append→atW,length_nil→auK,length_map→auB,mem_cons→ap9
open Nat renaming zero_le→arQ,le_refl→agl,le_trans→al2,add_zero→at6,add_assoc→at7,succ_mul→asU,lt_succ_self→atG
open Go.RowKit renaming Hid→at3,run_makeMap→auj
open Array renaming getElem?_setIfInBounds_ne→als
open ByteArray renaming empty→ati
open Go.RowKit.Below renaming heap_alloc→atn
open Go.Value renaming oneCell'→atv,map→aos
open Option renaming isSome→awb,getD→awd
open Go.IntKind renaming u64→aq8
open Option.some renaming inj→alN
section
namespace Go.Proofs.YtkdljbnllgpfhaaGreat
open Go Go.RowKit Go.Upr
def N9(cs:Array aad)(f bx tb tv:aad):Array Value:= #[.agg cs,f,bx,undef,tb,undef,undef,undef,f,tv,undef,undef,undef,undef,undef,undef,undef,undef,undef,undef,undef,undef,undef,undef,undef,undef,undef,undef,undef,undef,undef,undef,undef,undef,undef,undef,undef,undef,undef,undef,undef,undef,undef,undef,undef,undef]
theorem aez{h:Hp}{w:aly}(hw:h.In w){v m1 m2 m3:aad}{live known fresh:Nat}{x:ByteArray}{ad:Option alA}{l c:Nat}{neg:Bool}{Fq:sW}(ha:NL h [.string x,.slice ad l c] Fq)(hn:Fq.ts.length≤3)(hv: ∀t∈Fq.ts,qP t)
  (z7:known<65536) (jg:fresh<65536) {mb:Nat} {kb:List (eB×Nat)} {F:Ht} (hR:fF w mb kb F) {g:Nat} {lb:Array aad} {S:List aS→Prop} {N:Nat} {Reads:Nat→Prop} {w0:aly} (hit:Oi Tryz.prog g lb (λt=> #[br t]) S fq N Reads w0) (h0:af (λ_=>False) w0 w) (hrd: ∀b,Reads b→b<w.heap.size) (hro: ¬Reads mb∧∀p∈kb,¬Reads p.2)
  (hh: ∀b o,h b=some o→b≠mb∧∀p∈kb,p.2≠b) (eg: ∀args w,(callFunc g args).run Tryz.prog w= .ok (.enter g args) w):
  asP Tryz.prog 367 #[.agg #[v,.int .u16 live,.string x,.slice ad l c,.bool neg,m1,m2,m3,.int .u16 known,.int .u16 fresh,.map (some mb)],.func (.func g) #[] lb] w λe w'=>∃sA xs,e= .returned (.tuple #[])∧S xs∧fF w' mb sA (xs.foldl (jL Fq.ts known fresh) F)∧af (λb=>b=mb∨∃p∈kb,p.2=b) w w'∧∀p∈sA,p∈kb∨w.heap.size≤p.2:=by
 refine(callsIn_wide (n:=2)).1 (callsIn_of_wp_marks Tryz.func367 rfl trivial ((wpIn_wide (n:=2)).2 ?_));simp only[Tryz.ntmps367,List.size_toArray,as2,auK,Nat.reduceAdd,Nat.reduceSub,Array.replicate_succ,Array.replicate_zero,List.push_toArray,List.append_toArray,List.nil_append,List.cons_append];go_wp2;obtain⟨cs,hcs⟩: ∃cs:Array aad,cs= #[v,.int .u16 live,.string x,.slice ad l c,.bool neg,m1,m2,m3,.int .u16 known,.int .u16 fresh,.map (some mb)]:=⟨_,rfl⟩;obtain⟨W,hW⟩: ∃W,W=w.alloc (.cells #[v,.int .u16 live,.string x,.slice ad l c,.bool neg,m1,m2,m3,.int .u16 known,.int .u16 fresh,.map (some mb)] 497):=⟨_,rfl⟩;rw[←hW];have qL:af (λ_=>False) w W:=by rw[hW];exact(af.refl _ _).alloc _
 have vz:W.heap[w.heap.size]? =some (.cells cs 497):=by rw[hW,hcs];exact atp _ _
 have RP:W.heap.size=w.heap.size+1:=by rw[hW];simp
 clear hW;obtain⟨I,hI⟩: ∃I:List aS→aly→Prop,I=λpre A=>∃sA,fF A mb sA (pre.foldl (jL Fq.ts known fresh) F)∧af (λb=>b=mb∨∃p∈kb,p.2=b) w A∧(∀p∈sA,p∈kb∨w.heap.size≤p.2)∧A.heap[w.heap.size]? =some (.cells cs 497):=⟨_,rfl⟩;have hIk: ∀pre A B,I pre A→af (λb=>W.heap.size≤b∧nN A b) A B→I pre B:=by
  rw[hI];rintro pre A B ⟨sA,h1,h2,h3,h4⟩ ht;have hm: ∀ {b:Nat} {f:List (eB×Nat)} {enc:Nat→aad},av A okB cZ enc b f→¬(W.heap.size≤b∧nN A b):=by
   rintro b f enc ⟨es,cl,h5,_⟩ ⟨_,o,h6,h7⟩;rw[h5]at h6;cases h6;cases h7
  refine⟨sA,h1.turn ht (hm h1.top) (λp hp=>hm (h1.dy p hp)),h2.bL ht (λb hb=> .inl aj),h3,ht.kept h4 aj⟩
 obtain⟨Ax,SN⟩: ∃Ax:aS→Act→aly→Prop,Ax=λt a' A=>∃tb,a'={tmps:=N9 cs (.func (.func g) #[] lb) (.pointer (some ⟨w.heap.size,0,none⟩)) (.pointer (some ⟨tb,0,none⟩)) (br t),defers:= []}∧A.heap[tb]? =some (.cells #[.int .u64 t.1,.int .u64 t.2.1,.int .u64 t.2.2] 116):=⟨_,rfl⟩;refine wu (a:=_) (gf:=g) (lb:=lb) rfl eg hit (h0.trans qL) (λ_=>rfl) (λb hb=>by have:=hrd b hb;omega) I hIk ?_ Ax ?_ ?_ ?_ ?_
 ·rw[hI];exact⟨kb,hR.turn qL id (λ_ _=>id),qL.wider,λp hp=> .inl hp,vz⟩
 ·rw[SN];rintro t a' A B ⟨tb,h1,h2⟩ ht
  exact⟨tb,h1,ht.kept h2 (by
   rintro⟨_,o,h3,h4⟩;rw[h2]at h3;cases h3
   cases h4)⟩
 ·intro lp pre t A K hi gH hK;refine kj ar λK' hK'=>?_;replace hK':at3 _:=hK';rw[SN]at hK;replace hK:at3 _:=hK;dsimp only;rw[adl];show wpList _ _ _ _ {tmps:=N9 #[v,.int .u16 live,.string x,.slice ad l c,.bool neg,m1,m2,m3,.int .u16 known,.int .u16 fresh,.map (some mb)] (.func (.func g) #[] lb) (.pointer (some ⟨w.heap.size,0,none⟩)) undef (br t),defers:= []} A;obtain⟨t1,t2,t3⟩:=t;dsimp only[N9,br];have hIA:=hIk _ _ (A.alloc (.cells #[.int .u64 t1,.int .u64 t2,.int .u64 t3] 116)) hi ((af.refl _ _).alloc _);have hTA:=(af.refl (λ_=>False) A).alloc (.cells #[.int .u64 t1,.int .u64 t2,.int .u64 t3] 116);go_wp2;refine hK'.out _ _ (hK.out _ _ hTA hIA ⟨A.heap.size,?_,atp _ _⟩);rw[hcs];rfl
 ·intro lp pre t a' A hi SC hlen gH;rw[SN]at SC;obtain⟨tb,rfl,WK⟩:=SC;have hi':=hi;rw[hI]at hi;obtain⟨sA,h1,h2,h3,h4⟩:=hi
  have hkA:=hw.turn h2 (λb o hb hD=>by
   rcases hD with hD|⟨p,hp,G4⟩
   ·exact(hh b o hb).1 hD
   ·exact(hh b o hb).2 p hp G4)
  have hRn: ∀b,Reads b→b≠mb∧∀p∈sA,p.2≠b:=λb hb=>⟨λe=>hro.1 (e▸hb),λp hp e=>by
   rcases h3 p hp with h5|h5
   ·exact hro.2 p h5 (e▸hb)
   ·have:=hrd b hb;omega⟩
  have hFs:=λ(b:eB) (hm:cO Fq.ts (lx t)=some b)=>Me (known:=known) (fresh:=fresh) (F:=pre.foldl (jL Fq.ts known fresh) F) hm;have hFn:=λ(hm:cO Fq.ts (lx t)=none)=>(show jL Fq.ts known fresh (pre.foldl (jL Fq.ts known fresh) F) t=pre.foldl (jL Fq.ts known fresh) F by unfold jL;rw[hm]);have hSn:(pre++ [t]).foldl (jL Fq.ts known fresh) F=jL Fq.ts known fresh (pre.foldl (jL Fq.ts known fresh) F) t:=by rw[at9];rfl
  have Hk: ∀b,cO Fq.ts (lx t)=some b→okB b:=λb hm=>uv (λu hu=>by
   simp only[lx,ap9,avt,or_false]at hu;rcases hu with rfl|rfl|rfl
   ·exact gH.1
   ·exact gH.2.1
   ·exact gH.2.2) hm
  have c1:=λ(w':aly) (ht:af (λ_=>False) A w')=>ab9 (hkA.turn ht (λ_ _ _ h=>h)) ha hn hv gH;generalize jL Fq.ts known fresh (pre.foldl (jL Fq.ts known fresh) F) t=G at hFs hFn hSn;generalize pre.foldl (jL Fq.ts known fresh) F=F1 at h1 hFs hFn;have aer: ∀w3,af (λ_=>False) A w3→G=F1→I (pre++ [t]) w3:=by
   intro w3 eN hFm;rw[hI];exact⟨sA,by rw[hSn,hFm];exact h1.turn eN id (λ_ _=>id),h2.bL eN (λ_ h=>h.elim),h3,eN.kept h4 id⟩
  obtain⟨t1,t2,t3⟩:=t;dsimp only[N9,br]at WK⊢;dsimp only[br]at c1;rw[hcs]at h4⊢;have x2:=aqF A w.heap.size 2 _ 497 (0,0) h4;have x3:=aqF A w.heap.size 3 _ 497 (0,0) h4;replace x2:A.cell? ⟨w.heap.size,2,none⟩=some (.string x):=x2.trans rfl;replace x3:A.cell? ⟨w.heap.size,3,none⟩=some (.slice ad l c):=x3.trans rfl;obtain⟨y0,y1,y2,_⟩:=bI WK;have c1A:=c1 A (af.refl _ _);clear c1;refine wpIn_block ?_;refine jw ar λK3 hK3=>?_;replace hK3:at3 _:=hK3;cases hm:cO Fq.ts (lx (t1,t2,t3))with
  |none=>
   rw[hm]at c1A;dsimp only[FU,cZ,awd,awb]at c1A;have hFm:=hFn hm;clear hFs hFn Hk hm hcs hSn;go_wp2_with (first|(go_at_call 351;refine c1A.mono ?_;rintro e w2 ⟨rfl,aF⟩)|(refine bV rfl (.tmp 5) (.tmp 17) rfl rfl (atp _ _) rfl Tryz.sizeOf467 rfl (eA dL) ?_;intro w3 bX hb3));have eN:af (λ_=>False) A w3:=(aF.alloc _).bL bX (λb (hb:b=w2.heap.size)=> .inl (by have:=aF.size;omega));clear bX;refine hK3.out _ _ ?_;clear hK3;refine wpIn_seq ?_;refine jw ar λK4 hK4=>?_;replace hK4:at3 _:=hK4;go_wp2;refine hK4.out _ _ (awf rfl (wpIn_exit ?_));exact⟨rfl,eN.mono λ_ _ h=>h.elim,aer w3 eN hFm⟩
  |some b=>
   rw[hm]at c1A;dsimp only[FU,cZ,awd,awb]at c1A;have hb:=Hk b hm;obtain⟨uR,Aa⟩:=hFs b hm;have HCS:at3 (cs=_):=hcs;clear hFs hFn Hk hm hcs aer;have x8:=aqF A w.heap.size 8 _ 497 (0,0) h4;have x9:=aqF A w.heap.size 9 _ 497 (0,0) h4;have rP:=aqF A w.heap.size 10 _ 497 (0,0) h4;replace x8:A.cell? ⟨w.heap.size,8,none⟩=some (.int .u16 known):=x8.trans rfl;replace x9:A.cell? ⟨w.heap.size,9,none⟩=some (.int .u16 fresh):=x9.trans rfl;replace rP:A.cell? ⟨w.heap.size,10,none⟩=some (.map (some mb)):=rP.trans rfl;have wN:(aM b).size=12:=by rw[cX];exact hb.1
   go_wp2_with (first|(go_at_call 351;refine c1A.mono ?_;rintro e w2 ⟨rfl,aF⟩)|(refine bV rfl (.tmp 5) (.tmp 17) rfl rfl (atp _ _) rfl Tryz.sizeOf467 wN (eA b) ?_;intro w3 bX hb3));have eN:af (λ_=>False) A w3:=(aF.alloc _).bL bX (λb (hb:b=w2.heap.size)=> .inl (by have:=aF.size;omega));have Sz:A.heap.size≤w2.heap.size:=aF.size;generalize w2.heap.size=b5 at hb3 Sz⊢;clear bX aF w2 c1A;refine hK3.out _ _ ?_;clear hK3;refine wpIn_seq ?_;refine jw ar λK4 hK4=>?_;replace hK4:at3 _:=hK4;go_wp2;refine hK4.out _ _ (awe rfl (wpIn_skip ?_));clear hK4;have z8:=eN.cell x8 id;have z9:=eN.cell x9 id;have z10:=eN.cell rP id;have c2:=Yq w3 hb.1 known z7;generalize RX:eH b known=kk at c2 uR Aa;have H7:okB kk:=RX▸xq hb known;have Td:(aM kk).size=12:=by rw[cX];exact H7.1
   dsimp only[cZ]at c2;refine jw ar λK5 WX=>?_;replace WX:at3 _:=WX;go_wp2_with (first|(refine fH rfl (.tmp 5) rfl rfl hb3 Tryz.underlying467 rfl (by rw[wN];kernel_rfl) ?_)|(go_at_call 374;refine c2.mono ?_;rintro e w4 ⟨rfl,ck⟩)|(refine bV rfl (.tmp 7) (.tmp 24) rfl rfl (atp _ _) rfl Tryz.sizeOf467 Td (eA kk) ?_;intro w5 bA Hm));have P4:af (λ_=>False) w3 w5:=(ck.alloc _).bL bA (λb (hb:b=w4.heap.size)=> .inl (by have:=ck.size;omega));have iW:=eN.trans P4;have hl7:A.heap.size≤w4.heap.size:=al2 eN.size ck.size;generalize w4.heap.size=b7 at Hm hl7⊢;replace hb3:=P4.kept hb3 id;replace z8:=P4.cell z8 id;replace z9:=P4.cell z9 id;replace z10:=P4.cell z10 id;clear bA ck w4 c2 eN P4;have G_:=h1.turn iW id (λ_ _=>id);have hmA:=h1.top.lt;refine WX.out _ _ ?_;clear WX;refine wpIn_seq_k λK8 hK8=>?_;replace hK8:at3 _:=hK8
   have key: ∀ (w8:aly) (kb1:List (eB×Nat)) (rb:Nat) (u28 u29 u30 u31 u32 u33:aad),af (·=mb) w5 w8→fF w8 mb kb1 F1→au kb1 kk=some rb→(∀p∈kb1,p∈sA∨A.heap.size≤p.2)→K8 {tmps:= #[.agg #[v,.int .u16 live,.string x,.slice ad l c,.bool neg,m1,m2,m3,.int .u16 known,.int .u16 fresh,.map (some mb)],.func (.func g) #[] lb,.pointer (some ⟨w.heap.size,0,none⟩),undef,
    .pointer (some ⟨tb,0,none⟩),.pointer (some ⟨b5,0,none⟩),.bool true,.pointer (some ⟨b7,0,none⟩),.func (.func g) #[] lb,.agg #[.int .u64 t1,.int .u64 t2,.int .u64 t3],.tuple #[.agg (aM b),.bool true],.pointer (some ⟨w.heap.size,2,none⟩),.pointer (some ⟨w.heap.size,2,none⟩),.pointer (some ⟨w.heap.size,2,none⟩),.agg #[.string x,.slice ad l c],
    .agg #[.int .u64 t1,.int .u64 t2,.int .u64 t3],.tuple #[.agg (aM b),.bool true],.agg (aM b),.bool true,.bool true,.bool false,.agg (aM b),.pointer (some ⟨w.heap.size,8,none⟩),.int .u16 known,.agg (aM kk),.pointer (some ⟨w.heap.size,10,none⟩),.map (some mb),.agg (aM kk),u28,u29,u30,u31,u32,u33,undef,undef,undef,undef,undef,undef,undef,undef,undef,undef,undef,undef],defers:= []} w8:=by
    intro w8 kb1 rb u28 u29 u30 u31 u32 u33 Lg SD Sy h38;dsimp only;refine hK8.out _ _ ?_;clear hK8;have gJ:=cB Sy;have xR:=SD.dy _ gJ;have qg:=SD.off _ gJ;dsimp only at xR qg;have AJ:=xR.lt;have hwm:mb<w.heap.size:=hR.top.lt;have hnr: ∀ {q:Nat} {cs:Array aad} {ty:TypeId},w8.heap[q]? =some (.cells cs ty)→¬q=rb:=by
     rintro q cs ty hq rfl;obtain⟨es,cl,h5,_⟩:=xR;rw[h5]at hq;cases hq
    have Yh:=Lg.kept (iW.kept h4 id) aj;have aed:=Lg.kept hb3 aj;have aeb:=Lg.kept Hm aj;have z98:=Lg.cell z9 (by show ¬w.heap.size=mb;omega);have ahi:=Lg.cell z10 (by show ¬w.heap.size=mb;omega);have c3:=λw'=>Yq w' hb.1 fresh jg;have abk:okB (eH b fresh):=xq hb fresh;generalize eH b fresh=rr at uR c3 abk;dsimp only[cZ]at c3;obtain⟨n0,AO⟩: ∃n0,(au (F1 kk) rr).getD 0=n0:=⟨_,rfl⟩;rw[AO]at uR;have hu:(au kb1 kk).elim (.map none) ji= .map (some rb):=by rw[Sy];rfl
    have HW:at3 (aq8.wrap ((n0:Int)+1)=(((n0+1) % SU:Nat):Int)):=by
     show _=_;simp[IntKind.wrap,IntKind.bits,IntKind.signed,SU]
    refine Dy (λw'=>af (·=rb) w8 w'∧∃f',av w' okB cZ Ad rb f'∧(au f' rr).getD 0=n0) (λi=>i==7||i==10||i==12) ar ar ar ⟨(af.refl _ _).drew,_,xR.turn (D:=λ_=>False) (af.refl _ _).drew id,AO⟩ ?_;intro Ky Bl S g hS hC gb;replace Bl:at3 _:=Bl;have q10: ∀x,(g x).cell? ⟨w.heap.size,10,none⟩=some (.map (some mb)):=λx=>(hC x).1.cell ahi (hnr Yh);have q9: ∀x,(g x).cell? ⟨w.heap.size,9,none⟩=some (.int .u16 fresh):=λx=>(hC x).1.cell z98 (hnr Yh);have q7: ∀x,(g x).heap[b7]? =some (.cells (aM kk) 467):=λx=>(hC x).1.kept aeb (hnr aeb);have q5: ∀x,(g x).heap[b5]? =some (.cells (aM b) 467):=λx=>(hC x).1.kept aed (hnr aed);have qt: ∀x,av (g x) okB cZ ji mb kb1:=λx=>SD.top.turn (hC x).1 (Ne.symm qg);have qr: ∀x,∃f',Hp.map (λb=>(g x).heap[b]?) okB cZ Ad (.map (some rb)) f'∧(au f' rr).elim (Ad 0) Ad= .int .u64 n0:=λx=>by
     obtain⟨_,f',h5,h6⟩:=hC x;refine⟨f',h5.hp,?_⟩;cases WN:au f' rr with
     |none=>rw[WN]at h6;rw[←h6];rfl
     |some u=>rw[WN]at h6;rw[←h6];rfl
    refine ak ar aC aC λK hK=>?_;go_big_quiet_op;refine hK _ ?_;clear hK K;refine ak ar aC aC λK hK=>?_;go_big_quiet_op;refine hK _ ?_;clear hK K;refine dF ar aC (.tmp 7) rfl rfl (λw' ⟨x,e⟩=>by rw[e];exact q7 x) Tryz.underlying467 rfl (by rw[Td];kernel_rfl) ?_;go_frame;refine iP mJ Tryz.underlying495 AW ar aC (.tmp 35) (.tmp 36) rfl rfl (λw' ⟨x,e⟩=>by rw[e];exact(qt x).hp) rfl H7 hu ?_;go_frame;refine dF ar aC (.tmp 5) rfl rfl (λw' ⟨x,e⟩=>by rw[e];exact q5 x) Tryz.underlying467 rfl (by rw[wN];kernel_rfl) ?_;go_frame;refine ak ar aC aC λK hK=>?_;go_big_quiet_op;refine hK _ ?_;clear hK K;refine ak ar aC aC λK hK=>?_;go_big_quiet_op;refine hK _ ?_;clear hK K;refine ai ar aC λQ' hQ=>?_;go_wp2_with (go_at_call 374;refine(c3 _).mono ?_;rintro e w9 ⟨rfl,Bf⟩);have h9:af (λ_=>False) w8 w9:=(af.refl _ _).drew.trans Bf;have hM9:=xR.turn h9 id;refine hQ _ _ ar (λ_=>gb _ ⟨h9.wider,_,hM9,AO⟩) ?_;clear hQ Q';refine AA mJ Tryz.underlying510 Ov ar aC (.tmp 37) (.tmp 41) rfl rfl (λw' ⟨x,e⟩=>by rw[e];exact qr x) rfl abk ?_;go_frame;refine ak ar aC aC λK hK=>?_;go_big_quiet_op;refine hK _ ?_;clear hK K;refine ai ar aC λQ' hQ=>?_;go_wp2_with (refine JA mJ Tryz.underlying510 Ov rfl (.tmp 37) (.tmp 41) rfl rfl hM9 rfl abk ?_;intro st WB vB P5 agG);have h10:=h9.wider.trans vB;refine hQ _ _ ar (λ_=>gb _ ⟨h10,_,P5,?_⟩) ?_
    ·rw[←AO];cases WN:au (F1 kk) rr with
     |none=>
      simp only[Option.isSome_none,Bool.false_eq_true,if_false];have ky:=yN (F1 kk) rr 0 rr;rw[tG (l_.1 WN),if_pos rfl]at ky;rw[ky];rfl
     |some u=>simp only[Option.isSome_some,if_true];rw[WN]
    clear hQ Q';refine ak ar aC aC λK hK=>?_;go_big_quiet_op;refine hK _ ?_;clear hK K;refine ai ar aC λQ' hQ=>?_;go_wp2_with (refine Du (enc:=Ad) (v:=(n0+1) % SU) rfl (.tmp 37) (.tmp 45) (.tmp 43) rfl rfl rfl (by exact congrArg (Value.int aq8) HW.out) agG rfl (Nat.lt_of_lt_of_le AJ h10.size) ?_;intro w11 Yc aiL);refine hQ _ _ ar (aX ar) ?_;clear hQ Q';refine aQ ?_;go_wp2;have h11:=h10.trans Yc;refine Bl.out _ _ ⟨rfl,?_,?_⟩
    ·refine((iW.mono (E:=λb=>¬Reads b∧∃o,A.heap[b]? =some o∧LG o=true) λ_ _ h=>h.elim).bL Lg λq hq=>?_).bL h11 λq hq=>?_
     ·subst hq;obtain⟨es,cl,h5,_⟩:=h1.top;exact .inr ⟨hro.1,_,h5,rfl⟩
     ·subst hq;rcases h38 _ gJ with h5|h5
      ·obtain⟨es,cl,h6,_⟩:=h1.dy _ h5;exact .inr ⟨λh7=>(hRn _ h7).2 _ h5 rfl,_,h6,rfl⟩
      ·exact .inl h5
    ·have hwA:=h2.size;rw[hI];refine⟨kb1,by rw[hSn];exact SD.YW Sy h11 (by rw[uR];exact aiL) Aa,((h2.bL iW (λ_ h=>h.elim)).bL Lg (λq hq=> .inr (.inl hq))).bL h11 (λq hq=>?_),λp hp=>?_,by rw[HCS.out];exact h11.kept Yh (hnr Yh)⟩
     ·subst hq;rcases h38 _ gJ with h5|h5
      ·rcases h3 _ h5 with h6|h6
       ·exact .inr (.inr ⟨_,h6,rfl⟩)
       ·exact .inl h6
      ·exact .inl (al2 hwA h5)
     ·rcases h38 _ hp with h5|h5
      ·exact h3 _ h5
      ·exact .inr (al2 hwA h5)
   replace key:at3 _:=key;clear uR Aa;refine jw ar λK6 hK6=>?_;replace hK6:at3 _:=hK6;cases hlk:au sA kk with
   |some rb=>
    have hu:(au sA kk).elim (.map none) ji= .map (some rb):=by rw[hlk];rfl
    have hq: ∀w,(binOp .eql 510 (.map (some rb)) (.map none)).run Tryz.prog w= .ok (.bool false) w:=λw=>by kernel_rfl
    have abx:at3 (au sA kk=some rb):=hlk;clear hlk;go_wp2_with (first|(refine fH rfl (.tmp 7) rfl rfl Hm Tryz.underlying467 rfl (by rw[Td];kernel_rfl) ?_)|(at_lookup;refine bu mJ Tryz.underlying495 AW rfl (.tmp 26) (.tmp 27) rfl rfl (aD _) G_.top.hp rfl H7 hu ?_));refine hK6.out _ _ (awe rfl (wpIn_skip ?_));exact key.out w5 sA rb _ _ _ _ _ _ (af.refl _ _) G_ abx.out (λp hp=> .inl hp)
   |none=>
    have hu:(au sA kk).elim (.map none) ji= .map none:=by rw[hlk];rfl
    have hq: ∀w,(binOp .eql 510 (.map none) (.map none)).run Tryz.prog w= .ok (.bool true) w:=λw=>by kernel_rfl
    have abx:at3 (au sA kk=none):=hlk;clear hlk;go_wp2_with (first|(refine fH rfl (.tmp 7) rfl rfl Hm Tryz.underlying467 rfl (by rw[Td];kernel_rfl) ?_)|(at_lookup;refine bu mJ Tryz.underlying495 AW rfl (.tmp 26) (.tmp 27) rfl rfl (aD _) G_.top.hp rfl H7 hu ?_));refine hK6.out _ _ (awf rfl ?_);clear hK6;refine kj ar λK7 hK7=>?_;replace hK7:at3 _:=hK7;have tV:= @auj Tryz.prog;have tA:=(af.refl (λ_=>False) w5).alloc (.map #[] 0);have mg:=G_.top.turn tA id;go_wp2_with (first|(refine fH rfl (.tmp 7) rfl rfl Hm Tryz.underlying467 rfl (by rw[Td];kernel_rfl) ?_)|(at_mapUpdate;refine bj mJ Tryz.underlying495 rfl (.tmp 31) (.tmp 32) (.tmp 33) rfl rfl mg rfl H7 w5.heap.size rfl ?_;intro w7 eC hM7));obtain⟨zZ,Nx⟩:=G_.new abx.out tA av.made (agl _) eC hM7;refine hK7.out _ _ ?_;refine key.out w7 _ w5.heap.size _ _ _ _ _ _ (tA.wider.trans eC) zZ Nx (λp hp=>?_);rcases List.mem_append.1 hp with hp|hp
    ·exact .inl hp
    ·rw[List.mem_singleton.1 hp];exact .inr iW.size
 ·intro D xs B hD hS hi hK;rw[hI]at hi;obtain⟨sA,h1,h2,h3,h4⟩:=hi;show LeavesInM Fence.wide 2 Tryz.prog Tryz.f367 _ _ _ .returning B;refine⟨by simp,.inl ⟨_,_,rfl,run_takeDeferred hK,?_⟩⟩;have hp:=fP B D (.deferred none);have hm: ∀ {b:Nat} {f:List (eB×Nat)} {enc:Nat→aad},av B okB cZ enc b f→¬b=D:=by
   rintro b f enc ⟨es,cl,h5,_⟩ rfl;rw[hK]at h5;cases h5
  exact⟨_,results_none rfl _ _ _,sA,xs,rfl,hS,h1.turn hp (hm h1.top) (λp hp=>hm (h1.dy p hp)),h2.bL hp (λb hb=> .inl aj),h3⟩
end Go.Proofs.YtkdljbnllgpfhaaGreat
end
section
namespace Go.Proofs.YtkdljbnllgpfhaaGreat
open Go Go.RowKit Go.Upr
structure kG(cs:Array aad)(o:Nat)(v:aad)(live:Nat)(x:ByteArray)(u:aad)(neg:Bool)(m:Vw)(known fresh:Nat)(rows:Option Nat):Prop where
 c0:cs[o]? =some v
 c1:cs[o+1]? =some (.int .u16 live)
 c2:cs[o+2]? =some (.string x)
 c3:cs[o+3]? =some u
 c4:cs[o+4]? =some (.bool neg)
 c5:cs[o+5]? =some (.map m.1)
 c6:cs[o+6]? =some (.map m.2.1)
 c7:cs[o+7]? =some (.map m.2.2)
 c8:cs[o+8]? =some (.int .u16 known)
 c9:cs[o+9]? =some (.int .u16 fresh)
 c10:cs[o+10]? =some (.map rows)
theorem kG.put{cs:Array aad}{o:Nat}{v:aad}{live:Nat}{x:ByteArray}{u:aad}{neg:Bool}{m:Vw}{known fresh:Nat}{rows:Option Nat}(h:kG cs o v live x u neg m known fresh rows)(r:Option Nat):kG (cs.setIfInBounds (o+10) (.map r)) o v live x u neg m known fresh r:=by
 have hlt:=(Array.getElem?_eq_some_iff.1 h.c10).1;obtain⟨h0,h1,h2,h3,h4,h5,h6,h7,h8,h9,h10⟩:=h;constructor
 case c10=>rw[Array.getElem?_setIfInBounds_self_of_lt hlt]
 all_goals
  rw[als aj];assumption
def mH(s:r9)(F:Ht)(p:eB×Nat):List (eB×Nat):=(F (eH p.1 s.known)).map λr=>(sg p.1 r.1,p.2*r.2 % gK)
def kL(D:Bool→ByteArray→Seen)(asks:List bN)(live:Nat)(l:List (eB×Nat)):List (eB×Nat):=(l.filter λp=>uW D asks p.1).map λp=>(eH p.1 live,p.2)
theorem CH(D:Bool→ByteArray→Seen)(asks:List bN)(live:Nat)(l:List (eB×Nat))(p:eB×Nat):nv gK (kL D asks live (l++ [p]))=Af D asks live (nv gK (kL D asks live l)) p.1 p.2:=by
 unfold kL Af;rw[avP,atW];by_cases h:uW D asks p.1=true
 ·rw[if_pos h];have: [p].filter (λp=>uW D asks p.1)= [p]:=by simp[h]
  rw[this];exact Rx _ _ _
 ·rw[if_neg h];have: [p].filter (λp=>uW D asks p.1)= []:=by simp[h]
  rw[this];simp
theorem fF.look{w:aly}{mb:Nat}{kb:List (eB×Nat)}{F:Ht}(h:fF w mb kb F)(k:eB):Hp.map (λb=>w.heap[b]?) okB cZ Ad (.map (au kb k)) (F k):=by
 cases hl:au kb k with
 |none=>rw[h.none k (l_.1 hl)];exact .inl ⟨rfl,rfl⟩
 |some rb=>exact(h.dy _ (cB hl)).hp
theorem _root_.Go.Upr.cN.perm{κ ν:Type}[DecidableEq κ][DecidableEq ν]{ok:κ→Prop}{key:κ→aad}{enc:ν→aad}{w:aly}{b it:Nat}{f came:List (κ×ν)}(h:cN w ok key enc b it f came)(hd: ∀p∈f,p∈came):f.Perm came:=by
 obtain⟨_,_,_,hh⟩:=h.map;exact zM (uu hh.once) (uu h.sub.2.1) λx=>⟨hd x,h.sub.1 x⟩
theorem _root_.Go.Upr.fY.perm{κ ν:Type}[DecidableEq κ][DecidableEq ν]{ok:κ→Prop}{key:κ→aad}{enc:ν→aad}{w:aly}{v:aad}{it:Nat}{f came:List (κ×ν)}(h:fY w ok key enc v it f came)(hd: ∀p∈f,p∈came):f.Perm came:=by
 rcases h with⟨_,rfl,rfl,_⟩|⟨b,_,_,h⟩
 ·exact .refl _
 ·exact h.perm hd
theorem Pk{b o:eB}(hb:okB b)(ho:okB o):okB (sg b o):=by
 refine⟨by simp[sg,hb.1],λx hx=>?_⟩;unfold sg at hx;obtain⟨i,hi,rfl⟩:=List.mem_mapIdx.1 hx;have h1:=hb.2 _ (List.getElem_mem hi);have h2:o.getD i 0<2^64:=by
  rw[List.getD_eq_getElem?_getD];cases h:o[i]? with
  |none=>decide
  |some y=>exact ho.2 y (ann h)
 exact Nat.or_lt_two_pow (n:=64) h1 h2
theorem IP{ts:List ni}{known fresh:Nat}(xs:List aS): ∀ (F:Ht),(∀k,∀p∈F k,p.2<SU)→∀k,∀p∈xs.foldl (jL ts known fresh) F k,p.2<SU:=by
 induction xs with
 |nil=>exact λF h=>h
 |cons t xs ih=>
  intro F h;refine ih _ λk p hp=>?_;unfold jL at hp;cases hm:cO ts (lx t)with
  |none=>rw[hm]at hp;exact h k p hp
  |some b=>
   rw[hm]at hp;dsimp only at hp;by_cases hk:k=eH b known
   ·rw[if_pos hk]at hp;exact Z9 aI (h k) _ p hp
   ·rw[if_neg hk]at hp;exact h k p hp
theorem sizeOf112(w:aly):(sizeOf 112).run Tryz.prog w= .ok 2 w:=by kernel_rfl
theorem ajc{V:Bool→ByteArray→Vw}{D:Bool→ByteArray→Seen}{h:Hp}{w:aly}{N:Nat}(hw:h.In w)(hS:iC w N V D){gb o:Nat}{cs:Array aad}(hgb:w.heap[gb]? =some (.cells cs 497)){s:r9}{aa ta:Option alA}{al ac tl tc:Nat}{rv:Option Nat}
  (hcs:kG cs o (.slice aa al ac) s.live s.part.a.n (.slice ta tl tc) s.part.neg (V s.part.side s.part.a.n) s.known s.fresh rv) (hasks:h.list 6 (jX V) (.slice aa al ac) s.asks) (iu:h.list 2 r_ (.slice ta tl tc) s.part.a.ts)
  (hn:s.asks.length≤16) (hv: ∀p∈s.asks,dP p) (hp:dP s.part) (hlv:s.live<4096) (z7:s.known<65536) (jg:s.fresh<65536)
  {fb:Nat} {nG:List (eB×Nat)} (hM:av w okB cZ cU fb nG) (hne:nG≠ []) {kb:List (eB×Nat)} {F:Ht} (hR: ∀mb,rv=some mb→fF w mb kb F∧∀k,∀p∈F k,p.2<SU)
  (hgo:h gb=none) (hgN:N≤gb) (hNw:N≤w.heap.size):
  asP Tryz.prog 365 #[.pointer (some ⟨gb,o,none⟩),.map (some fb)] w λe w'=>∃nb f' mb sA F',e= .returned (.map (some nb))∧w.heap.size≤nb∧av w' okB cZ cU nb f'∧fF w' mb sA F'∧
   f'.Perm (nv gK (kL D s.asks s.live (nG.flatMap (mH s F'))))∧
   ((rv=some mb∧sA=kb∧F'=F∧af (λ_=>False) w w')∨
    (rv=none∧w.heap.size≤mb∧(∀p∈sA,w.heap.size≤p.2)∧(∃xs,tj (D s.part.side s.part.a.n).1 (D s.part.side s.part.a.n).2.1 (D s.part.side s.part.a.n).2.2 xs∧F'=xs.foldl (jL s.part.a.ts s.known s.fresh) λ_=> [])∧af (·=gb) w w'∧w'.heap[gb]? =some (.cells (cs.setIfInBounds (o+10) (.map (some mb))) 497))):=by
 obtain⟨P,hP⟩: ∃P:aly→Prop,P=λw'=>∃f' mb sA F',av w' okB cZ cU w.heap.size f'∧fF w' mb sA F'∧
   f'.Perm (nv gK (kL D s.asks s.live (nG.flatMap (mH s F'))))∧
   ((rv=some mb∧sA=kb∧F'=F∧af (λ_=>False) w w')∨
    (rv=none∧w.heap.size≤mb∧(∀p∈sA,w.heap.size≤p.2)∧(∃xs,tj (D s.part.side s.part.a.n).1 (D s.part.side s.part.a.n).2.1 (D s.part.side s.part.a.n).2.2 xs∧F'=xs.foldl (jL s.part.a.ts s.known s.fresh) λ_=> [])∧af (·=gb) w w'∧w'.heap[gb]? =some (.cells (cs.setIfInBounds (o+10) (.map (some mb))) 497))):=⟨_,rfl⟩
 refine Calls.mono (R:=λe w'=>e= .returned (.map (some w.heap.size))∧P w') ?_ (λe w' ⟨h1,h2⟩=>by rw[hP]at h2;obtain⟨f',mb,sA,F',h3⟩:=h2;exact⟨w.heap.size,f',mb,sA,F',h1,agl _,h3⟩);have tV:= @auj Tryz.prog;have Fa:nG.length≠0:=λe=>hne (avo.1 e);obtain⟨W,hW⟩: ∃W,W=w.alloc (.map #[] 0):=⟨_,rfl⟩;have qL:af (λ_=>False) w W:=by rw[hW];exact(af.refl _ _).alloc _
 have uQ:=hM.turn qL id;have hq0:(((nG.length:Nat):Int)==0)=false:=by rw[beq_eq_false_iff_ne];omega
 have Yf:=qL.kept hgb id;have zZ:av W okB cZ cU w.heap.size []:=by rw[hW];exact av.made
 have RP:W.heap.size=w.heap.size+1:=by rw[hW];simp
 clear Fa;go_enter Tryz.func365,Tryz.ntmps365;go_wp2_with (at_len; (rw[←hW]);clear hW;refine fQ Tryz.underlying487 rfl (.tmp 11) rfl rfl uQ ?_;rename_i Ka hKa Kb hKb;replace hKa:at3 _:=hKa);refine hKa.out _ _ ?_;clear hKa;refine wp_seq_k λKr hKr=>?_;replace hKr:at3 _:=hKr;have alc:=hM.lt;have hF2:nG.flatMap (mH s F)=nG.flatMap (mH s F):=rfl;clear hF2;have key: ∀ (w2:aly) (mb:Nat) (kb2:List (eB×Nat)) (F2:Ht) (u14 u15 u16 u17 u18 u19 u20 u21 u22 u23 u24 u25 u26 u27 u28 u29 u30 u31 u32 u33:aad),af (·=gb) W w2→(∀i v,i<10→cs[o+i]? =some v→w2.cell? ⟨gb,o+i,none⟩=some v)→w2.cell? ⟨gb,o+10,none⟩=some (.map (some mb))→fF w2 mb kb2 F2→(∀k,∀p∈F2 k,p.2<SU)→mb≠w.heap.size→(∀p∈kb2,p.2≠w.heap.size)→
   (∀w3 f',af (·=w.heap.size) w2 w3→av w3 okB cZ cU w.heap.size f'→f'.Perm (nv gK (kL D s.asks s.live (nG.flatMap (mH s F2))))→P w3)→Kr {tmps:= #[.pointer (some ⟨gb,o,none⟩),.map (some fb),undef,undef,.map none,.map (some w.heap.size),undef,undef,undef,undef,.map (some w.heap.size),.map (some fb),.int .i64 nG.length,.bool false,u14,u15,u16,u17,u18,u19,u20,u21,u22,u23,u24,u25,u26,u27,u28,u29,u30,u31,u32,u33,undef,undef,undef,undef,undef,undef,undef,undef,undef,undef,undef,undef,undef,undef,undef,undef,undef,undef,undef,undef,undef,undef,undef,undef,undef,undef,undef,undef,undef,undef,undef,undef,undef,undef,undef,undef,undef],defers:= []} w2:=by
  intro w2 mb kb2 F2 u14 u15 u16 u17 u18 u19 u20 u21 u22 u23 u24 u25 u26 u27 u28 u29 u30 u31 u32 u33 dK hz abc iG ago DN hrn K_;dsimp only;refine hKr.out _ _ ?_;clear hKr tV;have wz:=uQ.turn dK (by show ¬fb=gb;rintro rfl;obtain⟨es,cl,h5,_⟩:=uQ;rw[h5]at Yf;cases Yf);have Nx:=zZ.turn dK (by show ¬w.heap.size=gb;have:=atm hgb;omega);have nX:=(hS.turn qL (λ_ _=>id)).turn dK (λb hb hbg=>by subst hbg;omega);have hw2:=(hw.turn qL (λ_ _ _ h=>h)).turn dK (λb o hb hbg=>by subst hbg;rw[hgo]at hb;cases hb);have RZ:=atm hgb;go_wp2_with (at_range;refine fZ Tryz.underlying487 rfl (.tmp 34) rfl rfl wz ?_;intro w4 ck wx C8);obtain⟨Hg,Tf⟩: ∃k,k=w2.heap.size:=⟨_,rfl⟩;rw[←Tf]at wx C8⊢;have aky:w.heap.size<Hg:=by have:=dK.size;omega
  have hn4:=Nx.turn ck id;have adG:af (·=w.heap.size) w2 w4:=ck.wider;have adx:Hg<w4.heap.size:=by omega
  have akx:w2.heap.size≤Hg:=by omega
  clear Tf wx ck Nx;go_frame
  go_loopg [] nG.length (λgk wr=>∃came ps,came.length+gk=nG.length∧af (·=w.heap.size) w2 wr∧Hg<wr.heap.size∧cN wr okB cZ cU fb Hg nG came∧ps.Perm (came.flatMap (mH s F2))∧av wr okB cZ cU w.heap.size (nv gK (kL D s.asks s.live ps)))
  case atStart=>exact⟨[],[],by simp,adG,adx,C8,.refl _,hn4⟩
  case round=>
   clear C8 hn4 adG adx;obtain⟨came,ps,bW,hT,WH,wF,qJ,hMn⟩:=hrel;have abt:fb≠Hg:=by omega
   go_wp2_with (at_next;refine iy mJ rfl (.tmp 35) rfl rfl wF abt ?_ ?_)
   ·intro hd;have mf:nG.Perm came:=wF.perm λ⟨x,y⟩ hx=>hd x y hx;clear hd;have agy:=K_ wr _ hT hMn ((ER gK (((qJ.trans (mf.symm.flatMap_right _)).filter _).map _)));clear K_;go_wp2;go_ret;exact⟨rfl,agy⟩
   ·intro b n w6 jQ uN ahT bH C7;obtain⟨m,rfl⟩: ∃m,gk=m+1:=⟨gk- 1,by omega⟩;have hb:okB b:=C7.sub.2.2 (b,n) bz;have wN:(aM b).size=12:=by rw[cX];exact hb.1
    obtain⟨nh,nl,E1⟩: ∃nh nl:Nat,cU n= .agg #[.int .u64 nh,.int .u64 nl]:=⟨_,_,rfl⟩;have HN:at3 (cU n= .agg #[.int .u64 nh,.int .u64 nl]):=E1;clear E1 K_;go_wp2_with (first|(refine fI rfl (.tmp 35) rfl rfl C7 ?_;rw[HN.out];dsimp only[cZ])|(refine bV rfl (.tmp 6) (.tmp 39) rfl rfl (bq _ _ _) rfl Tryz.sizeOf467 wN (eA b) ?_;intro w7 eC Hm)|(refine bV rfl (.tmp 7) (.tmp 40) rfl rfl (eC.kept (aR _ _ _) aj) rfl sizeOf112 rfl (by simp[atv]) ?_;intro w8 jJ Fe));go_frame;have T68:af (λ_=>False) w6 w8:=((((af.refl (λ_=>False) w6).alloc _).alloc _).bL eC (λq (hq:q=w6.heap.size)=> .inl aj)).bL jJ (λq (hq:q=w6.heap.size+1)=> .inl aj);have Fh:=jJ.kept Hm aj;have SD:=C7.turn T68 id id;have FD:af (·=Hg) wr w8:=bH.bL T68 λ_ h=>h.elim;have zv:af (·=w.heap.size) w2 w8:=hT.bL FD λq (hq:q=Hg)=> .inl aj;have aem:=hMn.turn FD aj;have Xd:=FD.size;have hl6:w2.heap.size≤w6.heap.size:=al2 hT.size bH.size;generalize w6.heap.size=b6 at Fh Fe hl6⊢;clear eC jJ Hm T68 C7 FD bH w6 w7;have Ak:=atm Fh;have abJ:=atm Fe;have Ye: ¬gb=w.heap.size:=by omega
    have z10:=zv.cell abc Ye;have z8:=zv.cell (hz 8 _ aI hcs.c8) Ye;have o8:gb<w8.heap.size:=by have:=zv.size;have:=dK.size;omega
    have Yl:=iG.turn zv DN hrn;have c2:=λw'=>Yq w' hb.1 s.known z7;have H7:=xq hb s.known;obtain⟨kk,RX⟩: ∃kk,eH b s.known=kk:=⟨_,rfl⟩;have HKK:at3 (eH b s.known=kk):=RX;rw[RX]at c2 H7;clear RX;dsimp only[cZ]at c2;have hlk:=Yl.look kk;have ac1:=ago kk;refine aG (λi=>i==9||i==11) ar ar ?_;intro S g fN gc gf gh sF;have hMx: ∀x,av (g x) okB cZ ji mb kb2:=λx=>by
     obtain⟨es,cl,h1,h2⟩:=Yl.top;exact⟨es,cl,(gh x _ Yl.top.lt).trans h1,h2⟩
    iterate 4 (refine ak ar aC aC λK hK=>?_;go_big_quiet_op;refine hK _ ?_;clear hK K)
    refine dF ar aC (.tmp 6) rfl rfl (λw' ⟨x,e⟩=>by rw[e];exact(gh x _ Ak).trans Fh) Tryz.underlying467 rfl (by rw[wN];kernel_rfl) ?_;go_frame;iterate 4 (refine ak ar aC aC λK hK=>?_;go_big_quiet_op;refine hK _ ?_;clear hK K)
    refine ai ar aC λQ' hQ=>?_;go_wp2_with (go_at_call 374;refine(c2 _).mono ?_;rintro e w9 ⟨rfl,Bf⟩);have h9:af (λ_=>False) w8 w9:=(af.refl _ _).drew.trans Bf;refine hQ _ _ ar (λ_=>sF _ h9.below) ?_;clear hQ Q';refine iP mJ Tryz.underlying495 AW ar aC (.tmp 44) (.tmp 50) rfl rfl (λw' ⟨x,e⟩=>by rw[e];exact(hMx x).hp) rfl H7 (iR _) ?_;go_frame;have adR:=Hp.bY hlk h9;refine ai ar aC λQ' hQ=>?_;go_wp2_with (at_range;refine kD (v:= .map (au kb2 kk)) Tryz.underlying510 rfl (.tmp 51) rfl rfl adR ?_;intro WB vB agd Lj);have h10:=h9.trans vB;refine hQ _ _ ar (λ_=>sF _ h10.below) ?_;clear hQ Q';refine aQ ?_;clear gc gf gh sF hMx fN g S;have wK:Hg<w9.heap.size:=by have:=h9.size;omega
    have agC:b6+1<w9.heap.size:=by have:=h9.size;omega
    generalize w9.heap.size=Bd at Lj agd wK agC⊢;have agH:=SD.turn h10 id id;have aaL:=aem.turn h10 id;have Yk:af (·=w.heap.size) w2 WB:=zv.bL h10 λ_ h=>h.elim;have agD:=h10.kept Fh id;have agB:=h10.kept Fe id;have akq:Bd<WB.heap.size:=by omega
    clear h9 h10 Bf vB SD aem zv hlk adR Xd Fh Fe Yl c2 Ak abJ o8 z8 z10 w9 w8;go_wp2
    go_loopg [] (F2 kk).length (λgk wr2=>∃Ha:List (eB×Nat),Ha.length+gk=(F2 kk).length∧af (·=w.heap.size) w2 wr2∧af (λq=>q=w.heap.size∨q=Bd) WB wr2∧fY wr2 okB cZ Ad (.map (au kb2 kk)) Bd (F2 kk) Ha∧av wr2 okB cZ cU w.heap.size (nv gK (kL D s.asks s.live (ps++Ha.map λr=>(sg b r.1,n*r.2 % gK)))))
    case atStart=>exact⟨[],by simp,Yk,af.refl _ _,Lj,by simpa using aaL⟩
    case round=>
     clear Lj aaL Yk;obtain⟨Ha,sU,gI,AQ,DV,aeo⟩:=hrel;go_wp2_with (at_next;refine mv mJ rfl (.tmp 52) rfl rfl DV ?_ ?_)
     ·intro hd;have mf:(F2 kk).Perm Ha:=DV.perm λ⟨x,y⟩ hx=>hd x y hx;have ahM:(ps++Ha.map λr=>(sg b r.1,n*r.2 % gK)).Perm ((came++ [(b,n)]).flatMap (mH s F2)):=by
       rw[List.flatMap_append];refine qJ.append ?_;simp only[List.flatMap_cons,List.flatMap_nil,List.append_nil,mH];rw[HKK.out];exact(mf.map _).symm
      have PD:=agH.turn AQ aj aj;have hzo:=AQ.size;clear hd DV mf;go_wp2
      go_roundg m
      case measure=>exact atG m
      case rel=>exact⟨came++ [(b,n)],_,by simp;omega,gI,by omega,PD,ahM,aeo⟩
     ·intro r t w11 S9 PX akt Yc Ym;obtain⟨m2,rfl⟩: ∃m2,gk=m2+1:=⟨gk- 1,by omega⟩;have hr:okB r:=Ym.sub.2.2.1 (r,t) bz;have Dm:(aM r).size=12:=by rw[cX];exact hr.1
      have ahF:t<SU:=ac1 (r,t) S9;go_wp2_with (first|(refine kE rfl (.tmp 52) rfl rfl Ym ?_;dsimp only[cZ,Ad])|(refine bV rfl (.tmp 8) (.tmp 56) rfl rfl (atp _ _) rfl Tryz.sizeOf467 Dm (eA r) ?_;intro w12 adJ TU));have nd:af (·=Bd) wr w12:=(Yc.alloc _).bL adJ λq (hq:q=w11.heap.size)=> .inl (by have:=Yc.size;omega);have ael:=Ym.turn (((af.refl (λ_=>False) w11).alloc _).bL adJ λq (hq:q=w11.heap.size)=> .inl aj) (λ_ _=>id) id;have Lf:af (·=w.heap.size) w2 w12:=gI.bL nd λq (hq:q=Bd)=> .inl aj;have Yj:af (λq=>q=w.heap.size∨q=Bd) WB w12:=AQ.bL nd λq (hq:q=Bd)=> .inr (.inr hq);have hW2:=dK.size;have aec:=Yj.kept agD aj;have aea:=Yj.kept agB aj;have x0:=Lf.cell (hz 0 _ aI hcs.c0) Ye;have x1:=Lf.cell (hz 1 _ aI hcs.c1) Ye;rw[at6]at x0;have aiK:=aeo.turn nd aj;have ahC:=hw2.turn Lf (λq _ hq (Xl:q=w.heap.size)=>by have:=hw.lt hq;omega);have aiC:=nX.turn Lf (λq hq (Xl:q=w.heap.size)=>by omega);have c3:=λw'=>ai6 w' hb hr;have c4:=λw'=>ai5 n t ahF w';rw[HN.out]at c4;have c5:=λ(w':aly) (ht:af (λ_=>False) w12 w')=>aeB (ahC.turn ht λ_ _ _ h=>h) (aiC.turn ht λ_ _ h=>h) (aiK.turn ht id) hasks hn hv s.live hlv (Pk hb hr) (n*t % gK);have HPS:at3 (nv gK (kL D s.asks s.live (ps++(Ha++ [(r,t)]).map λr=>(sg b r.1,n*r.2 % gK)))=Af D s.asks s.live (nv gK (kL D s.asks s.live (ps++Ha.map λr=>(sg b r.1,n*r.2 % gK)))) (sg b r) (n*t % gK)):=by
       show _=_;rw[atW,←List.append_assoc];exact CH _ _ _ _ _
      generalize Af D s.asks s.live (nv gK (kL D s.asks s.live (ps++Ha.map λr=>(sg b r.1,n*r.2 % gK)))) (sg b r) (n*t % gK)=LL at c5 HPS;generalize n*t % gK=nt at c4 c5;have agF:(aM (sg b r)).size=12:=by rw[cX];exact(Pk hb hr).1
      generalize sg b r=ab at c3 c5 agF;dsimp only[cZ]at c3 c5;have adT:=atm TU;have o8:gb<w12.heap.size:=by have:=Lf.size;omega
      have ahZ:=atm aec;have akZ:=atm aea;generalize w11.heap.size=b8 at TU adT⊢;obtain⟨y0,y1,_⟩:=b9 aea;refine aG (λi=>i==7||i==10||i==11) ar ar ?_;intro S g fN gc gf gh sF;iterate 5 (refine ak ar aC aC λK hK=>?_;go_big_quiet_op;refine hK _ ?_;clear hK K)
      refine dF ar aC (.tmp 6) rfl rfl (λw' ⟨x,e⟩=>by rw[e];exact(gh x _ ahZ).trans aec) Tryz.underlying467 rfl (by rw[wN];kernel_rfl) ?_;go_frame;refine dF ar aC (.tmp 8) rfl rfl (λw' ⟨x,e⟩=>by rw[e];exact(gh x _ adT).trans TU) Tryz.underlying467 rfl (by rw[Dm];kernel_rfl) ?_;go_frame;refine ai ar aC λQ' hQ=>?_;go_wp2_with (go_at_call 376;refine(c3 _).mono ?_;rintro e w13 ⟨rfl,adI⟩);have AU:af (λ_=>False) w12 w13:=(af.refl _ _).drew.trans adI;refine hQ _ _ ar (λ_=>sF _ AU.below) ?_;clear hQ Q';iterate 2 (refine ak ar aC aC λK hK=>?_;go_big_quiet_op;refine hK _ ?_;clear hK K)
      refine ai ar aC λQ' hQ=>?_;go_wp2_with (go_at_call 377;refine(c4 _).mono ?_;rintro e w14 ⟨rfl,adH⟩);have KI:=AU.trans adH;refine hQ _ _ ar (λ_=>sF _ KI.below) ?_;clear hQ Q';refine ai ar aC λQ' hQ=>?_;go_wp2_with (go_at_call 363;refine(c5 _ KI).mono ?_;rintro e w15 ⟨rfl,Yb,aiJ⟩);refine hQ _ _ ar (aX ar) ?_;clear hQ Q';refine aQ ?_;clear gc gf gh sF fN g S;have aiB:=(Lf.bL KI λ_ h=>h.elim).trans Yb;have aiA:=(Yj.bL KI λ_ h=>h.elim).bL Yb λq hq=> .inr (.inl hq);have aiE:=(ael.turn KI (λ_ _=>id) id).turn Yb (λq hq Xl=>hrn _ (cB (by simpa using hq)) Xl) aj;clear KI AU Yb adH adI ael Lf Yj DV Ym;go_wp2
      go_roundg m2
      case measure=>exact atG m2
      case rel=>exact⟨Ha++ [(r,t)],by simp;omega,aiB,aiA,aiE,by rw[HPS.out];exact aiJ⟩
 replace key:at3 _:=key;clear hKr;have hz1: ∀i v,cs[o+i]? =some v→W.cell? ⟨gb,o+i,none⟩=some v:=λi v hv=>(aqF W gb (o+i) cs 497 (0,0) Yf).trans hv;cases rv with
 |some mb=>
  have e10:=hz1 10 _ hcs.c10;have hq: ∀w,(binOp .eql 495 (.map (some mb)) (.map none)).run Tryz.prog w= .ok (.bool false) w:=λw=>by kernel_rfl
  obtain⟨hRm,hlt⟩:=hR mb rfl;have E3:=hRm.top.lt;have AJ: ∀p∈kb,p.2<w.heap.size:=λp hp=>(hRm.dy p hp).lt;have K_: ∀w3 f',af (·=w.heap.size) W w3→av w3 okB cZ cU w.heap.size f'→f'.Perm (nv gK (kL D s.asks s.live (nG.flatMap (mH s F))))→P w3:=by
   intro w3 f' h1 h2 h3;rw[hP];have h4:af (λ_=>False) w w3:=qL.bL h1 λq (hq:q=w.heap.size)=> .inl aj;exact⟨f',mb,kb,F,h2,hRm.turn h4 id (λ_ _=>id),h3,.inl ⟨rfl,rfl,rfl,h4⟩⟩
  have hRW:=hRm.turn qL id (λ_ _=>id);clear hP hR;go_wp2;exact key.out W mb kb F _ _ _ _ _ _ _ _ _ _ _ _ _ _ _ _ _ _ _ _ (af.refl _ _) (λi v _ hv=>hz1 i v hv) e10 hRW hlt aj (λp hp=>by have:=AJ p hp;omega) K_
 |none=>
  have e10:=hz1 10 _ hcs.c10;have hq: ∀w,(binOp .eql 495 (.map none) (.map none)).run Tryz.prog w= .ok (.bool true) w:=λw=>by kernel_rfl
  have tA:=(af.refl (λ_=>False) W).alloc (.map #[] 0);have hgA:=tA.kept Yf id;have f10:(W.alloc (.map #[] 0)).frozen? ⟨gb,o+10,none⟩=false:=eY hgA;have aiQ:=tA.cell e10 id;replace hP:at3 _:=hP;go_wp2;obtain⟨W2,hW2⟩: ∃W2,W2=(W.alloc (.map #[] 0)).setCell ⟨gb,o+10,none⟩ (.map (some (w.heap.size+1))):=⟨_,rfl⟩;rw[←hW2];have RZ:=atm hgb;have dK:af (·=gb) W W2:=by rw[hW2];exact(tA.wider (D:=(·=gb))).setCell (.inr rfl) _
  have hg2:W2.heap[gb]? =some (.cells (cs.setIfInBounds (o+10) (.map (some (w.heap.size+1)))) 497):=by rw[hW2];exact cR hgA _
  have il:av W2 okB cZ ji (w.heap.size+1) []:=by
   have t1:af (·=gb) (W.alloc (.map #[] 0)) W2:=by rw[hW2];exact(af.refl (·=gb) _).setCell (.inr rfl) _
   rw[←RP];exact(av.made (w:=W)).turn t1 (by show ¬W.heap.size=gb;omega)
  have iG:fF W2 (w.heap.size+1) [] (λ_=> []):=⟨il,by simp,by simp,by simp,λ_ _=>rfl⟩;have Aj:=hcs.put (some (w.heap.size+1));have hz2:=λi v hv=>(aqF W2 gb (o+i) _ 497 (0,0) hg2).trans (hv:(cs.setIfInBounds (o+10) (aos (some (w.heap.size+1))))[o+i]? =some v);have x0:=hz2 0 _ Aj.c0;have x1:=hz2 1 _ Aj.c1;have x2:=hz2 2 _ Aj.c2;have x3:=hz2 3 _ Aj.c3;have x4:=hz2 4 _ Aj.c4;have x5:=hz2 5 _ Aj.c5;have x6:=hz2 6 _ Aj.c6;have x7:=hz2 7 _ Aj.c7;have x8:=hz2 8 _ Aj.c8;have x9:=hz2 9 _ Aj.c9;have rP:=hz2 10 _ Aj.c10;rw[at6]at x0;have nX:=(hS.turn qL (λ_ _=>id)).turn dK (λb hb hbg=>by subst hbg;omega);have hw2:=(hw.turn qL (λ_ _ _ h=>h)).turn dK (λb o hb hbg=>by subst hbg;rw[hgo]at hb;cases hb);have hzs:=dK.size;have o8:gb<W2.heap.size:=by omega
  have N0:W2.heap.size=w.heap.size+2:=by rw[hW2];simp[RP]
  replace N0:at3 _:=N0;replace RP:at3 _:=RP;clear hW2 tA hgA f10 aiQ e10 hq hz1;refine fM (·=w.heap.size+1) (λi=>i==8||i==9) ar ar ?_;intro S g fN gc gh sF;have gc': ∀x o,(g x).cell? ⟨gb,o,none⟩=W2.cell? ⟨gb,o,none⟩:=λx o=>gc x gb o o8 aj;iterate 8 (refine ak ar aC aC λK hK=>?_;go_big_quiet_op;refine hK _ ?_;clear hK K)
  refine ai ar aC λQ' hQ=>?_;go_wp2_with (go_at_call 375;refine(ai7 _ _ _ _).mono ?_;rintro e w8 ⟨rfl,Hj⟩;replace Hj:at3 _:=Hj);have h8:af (λ_=>False) W2 w8:=by rw[Hj.out];exact((af.refl _ _).drew).alloc _
  have vz:w8.heap[W2.heap.size]? =some (.cells #[.map (V s.part.side s.part.a.n).1,.map (V s.part.side s.part.a.n).2.1,.map (V s.part.side s.part.a.n).2.2] 491):=by rw[Hj.out];exact atp _ _
  have Xd:W2.heap.size<w8.heap.size:=atm vz;clear Hj;refine hQ _ _ ar (λ_=>sF _ h8.wider) ?_;clear hQ Q';have R9:=nX.turn h8 (λ_ _ h=>h);have Hj:=hw2.turn h8 (λ_ _ _ h=>h);have fD:=R9.low s.part.side s.part.a.n;have Us:=N0.out;have c9:=aez (v:= .slice aa al ac) (m1:= .map (V s.part.side s.part.a.n).1) (m2:= .map (V s.part.side s.part.a.n).2.1) (m3:= .map (V s.part.side s.part.a.n).2.2) (live:=s.live) (neg:=s.part.neg) Hj (⟨.slice ta tl tc,rfl,iu⟩:NL h [.string s.part.a.n,.slice ta tl tc] s.part.a) hp.1 hp.2.1 z7 jg (iG.turn h8 id (λ_ _=>id))
   (agb vz (R9.now s.part.side s.part.a.n) (R9.came s.part.side s.part.a.n) (R9.gone s.part.side s.part.a.n)) (af.refl _ _)
   (λb hb=>by
    rcases hb with rfl|hb|hb|hb
    ·exact Xd
    ·have:=fD b (.inl hb);omega
    ·have:=fD b (.inr (.inl hb));omega
    ·have:=fD b (.inr (.inr hb));omega)
   ⟨λhb=>by
    rcases hb with hb|hb|hb|hb
    ·omega
    ·have:=fD _ (.inl hb);omega
    ·have:=fD _ (.inr (.inl hb));omega
    ·have:=fD _ (.inr (.inr hb));omega,λp hp=>nomatch hp⟩
   (λb o hb=>⟨by have:=hw.lt hb;omega,λp hp=>nomatch hp⟩)
   (λargs w=>by kernel_rfl)
  clear Us fD;refine ai ar aC λQ' hQ=>?_;go_wp2_with (go_at_call 367;refine c9.mono ?_;rintro e w9 ⟨sA,xs,rfl,hXS,hR9,Bf,hn9⟩);have Us:=N0.out;have akC:=RP.out;have ahE:af (λb=>b=w.heap.size+1) w8 w9:=Bf.mono λb _ hb=>by
   rcases hb with hb|⟨p,hp,_⟩
   ·exact hb
   ·cases hp
  have abO:af (λb=>b=w.heap.size+1) W2 w9:=h8.wider.trans ahE;refine hQ _ _ ar (λ_=>sF _ abO) ?_;clear hQ Q';refine aQ ?_;clear gc gc' gh sF fN g S c9;have aej:af (·=gb) W w9:=dK.bL abO λq (hq:q=w.heap.size+1)=> .inl aj;have hg9:=abO.kept hg2 aj;have hz9:=λi v hv=>(aqF w9 gb (o+i) _ 497 (0,0) hg9).trans (hv:(cs.setIfInBounds (o+10) (aos (some (w.heap.size+1))))[o+i]? =some v);go_wp2;refine key.out w9 (w.heap.size+1) sA _ _ _ _ _ _ _ _ _ _ _ _ _ _ _ _ _ _ _ _ _ aej (λi v hi hv=>hz9 i v ?_) (hz9 10 _ Aj.c10) hR9 (IP xs _ λ_ p hp=>nomatch hp) aj (λp hp=>?_) (λw3 f' h1 h2 h3=>?_)
  ·rw[als aj];exact hv
  ·rcases hn9 p hp with h|h
   ·cases h
   ·omega
  ·rw[hP.out];have hp9: ∀p∈sA,W2.heap.size≤p.2:=λp hp=>by
    rcases hn9 p hp with h|h
    ·cases h
    ·omega
   refine⟨f',w.heap.size+1,sA,_,h2,hR9.turn h1 (by show ¬w.heap.size+1=w.heap.size;omega) (λp hp (hq:p.2=w.heap.size)=>by have:=hp9 p hp;omega),h3,.inr ⟨trivial,by omega,λp hp=>by have:=hp9 p hp;omega,⟨xs,hXS,rfl⟩,?_,h1.kept hg9 aj⟩⟩;exact(qL.wider.trans aej).bL h1 λq (hq:q=w.heap.size)=> .inl aj
end Go.Proofs.YtkdljbnllgpfhaaGreat
end
section
namespace Go.Proofs.YtkdljbnllgpfhaaGreat
open Go Go.RowKit Go.Upr
theorem O6:eL Tryz.prog 477 497 11 120:= .mk' Tryz.underlying477 (z:= .agg #[.slice none 0 0,.int .u16 0,.string ati,.slice none 0 0,.bool false,.map none,.map none,.map none,.int .u16 0,.int .u16 0,.map none]) ar rfl aI
theorem Mh(a:alA)(l c:Nat)(w:aly):(binOp .eql 477 (.slice (some a) l c) (.slice none 0 0)).run Tryz.prog w= .ok (.bool false) w:=by kernel_rfl
theorem Vp(w:aly):(binOp .eql 477 (.slice none 0 0) (.slice none 0 0)).run Tryz.prog w= .ok (.bool true) w:=by kernel_rfl
abbrev Qc:=List r9×Nat
def qb(rec:Nat→List bN→Qc)(live head:Nat)(rest:List bN)(b:Qc)(i:Nat):Qc:=
 match rest[i]? with
 |none=>b
 |some y=>if y.neg then b else
  let st:=fS live head rest i y
  let o:=rec st.live (kM live head rest i y)
  let cost:=o.2+kS (live|||st.fresh)
  if b.1= []∨cost<b.2 then(st::o.1,cost)else b
def dQ(head:Nat):Nat→Nat→List bN→Qc
 |0,_,_=>([],0)
 |n+1,live,rest=>(at0 rest.length).foldl (qb (dQ head n) live head rest) ([],0)
theorem rG{rec:Nat→List bN→Qc}{live head:Nat}{rest:List bN}(k:Nat):(at0 (k+1)).foldl (qb rec live head rest) ([],0)=qb rec live head rest ((at0 k).foldl (qb rec live head rest) ([],0)) k:=by
 rw[awc,at9];rfl
theorem xF{live head:Nat}{rest:List bN}{i:Nat}{y:bN}(hi:i<rest.length):(kM live head rest i y).length<rest.length:=by
 unfold kM fw;have h1:=avN (λp=> !py (live|||vP live head (bU y.a.ts) (rest.eraseIdx i)) p) (rest.eraseIdx i);have h2:(rest.eraseIdx i).length=rest.length- 1:=by rw[List.length_eraseIdx,if_pos hi]
 omega
theorem Cm{live head:Nat}{rest:List bN}{i:Nat}{y:bN}(h: ∀p∈rest,dP p): ∀p∈kM live head rest i y,dP p:=by
 intro p hp;unfold kM fw at hp;exact h p ((List.eraseIdx_sublist _ _).subset (auV.1 hp).1)
theorem B9{live head:Nat}{rest:List bN}{i:Nat}{y:bN}(hlv:live<4096)(hy:dP y):(fS live head rest i y).live<4096∧(fS live head rest i y).fresh<4096:=by
 have h1:vP live head (bU y.a.ts) (rest.eraseIdx i)<4096:=xd (xd (iL hy.2.1));exact⟨xd (KP hlv h1),h1⟩
theorem Jl(head:Nat): ∀ (n live:Nat) (rest:List bN),live<4096→(∀p∈rest,dP p)→(dQ head n live rest).2≤n*1152921504606846976
 |0,_,_,_,_=>arQ _
 |n+1,live,rest,hlv,hv=>by
  have h1: ∀k,k≤rest.length→((at0 k).foldl (qb (dQ head n) live head rest) ([],0)).2≤(n+1)*1152921504606846976:=by
   intro k
   induction k with
   |zero=>exact λ_=>arQ _
   |succ k ih=>
    intro hk;rw[rG];have ih:=ih aj;generalize(at0 k).foldl (qb (dQ head n) live head rest) ([],0)=b at ih;unfold qb;cases hy:rest[k]? with
    |none=>exact ih
    |some y=>
     have r8:=hv y (ann hy);have hs:=B9 (head:=head) (rest:=rest) (i:=k) hlv r8;have h2:=Jl head n (fS live head rest k y).live (kM live head rest k y) hs.1 (Cm hv);have h3:=yO (KP hlv hs.2);dsimp only;split
     ·exact ih
     ·split
      ·dsimp only;rw[asU];omega
      ·exact ih
  exact h1 rest.length (agl _)
theorem yT(head:Nat): ∀ (n live:Nat) (rest:List bN),(dQ head n live rest).1.length≤n
 |0,_,_=>arQ _
 |n+1,live,rest=>by
  have h1: ∀k,((at0 k).foldl (qb (dQ head n) live head rest) ([],0)).1.length≤n+1:=by
   intro k
   induction k with
   |zero=>exact arQ _
   |succ k ih=>
    rw[rG];generalize(at0 k).foldl (qb (dQ head n) live head rest) ([],0)=b at ih;unfold qb;cases hy:rest[k]? with
    |none=>exact ih
    |some y=>
     have h2:=yT head n (fS live head rest k y).live (kM live head rest k y);dsimp only;split
     ·exact ih
     ·split
      ·dsimp only;rw[as2];omega
      ·exact ih
  exact h1 rest.length
theorem Dh.one{V:Bool→ByteArray→Vw}{h:Hp}: ∀c p,Dh V h c p→∀u∈c,u.oneCell'=true:=by
 intro c p H q hq;obtain⟨v,u,rfl,h1,h2⟩:=H;obtain⟨a1,c1,rfl⟩:=h1.shape;obtain⟨a2,c2,rfl⟩:=h2.shape;simp only[ap9,avt,or_false]at hq;rcases hq with rfl|rfl|rfl|rfl|rfl|rfl|rfl|rfl|rfl|rfl|rfl<;>rfl
theorem ai9{V:Bool→ByteArray→Vw}(head:Nat)(Px:head<4096): ∀ (n:Nat),n≤4→∀ {h:Hp} {w:aly} (_:h.In w) {ad:Option alA} {l c:Nat} {rest:List bN} (_:h.list 6 (jX V) (.slice ad l c) rest) (_:rest.length≤n) (_: ∀p∈rest,dP p) (live:Nat) (_:live<4096),
  asP Tryz.prog 372 #[.int .u16 live,.slice ad l c,.int .u16 head] w λe w'=>∃a1 c1,e= .returned (.tuple #[.slice a1 (dQ head n live rest).1.length c1,.int .i64 (dQ head n live rest).2])∧af (λ_=>False) w w'∧
   ∃k:Hp,k.In w'∧Hp.Ext w.heap.size h k∧aw w' w.heap.size 497 11 (Dh V) k (.slice a1 (dQ head n live rest).1.length c1) (dQ head n live rest).1:=by
 intro n
 induction n with
 |zero=>
  intro hn4 h w hw ad l c rest hcs hn hv live hlv;obtain⟨lu,cap',hv2,hat⟩:=hcs.at hw;have h0:rest= []:=avo.1 aj;subst h0;obtain⟨rfl,rfl,rfl⟩:ad=lu∧l=0∧c=cap':=by simpa using hv2
  go_enter Tryz.func372,Tryz.ntmps372;go_wp2
  go_loopw [8,9,18] (λv8 v9 i wr=>v8= .slice none 0 0∧v9= .int .i64 0∧i= .int .i64 0∧wr=w) (λ_ _ _ _=>0)
  case atStart=>exact⟨rfl,rfl,rfl,rfl⟩
  case round=>
   obtain⟨rfl,rfl,rfl,rfl⟩:=hrel;go_wp2
   go_ret2
   exact⟨_,_,rfl,af.refl _ _,h,hw,Hp.Ext.refl _ _,.nil hw⟩
 |succ n ih=>
  intro hn4 h w hw ad l c rest hcs hn hv live hlv;obtain⟨lu,cap',hv2,hat⟩:=hcs.at hw;obtain⟨rfl,rfl,rfl⟩:ad=lu∧l=rest.length∧c=cap':=by simpa using hv2
  clear hv2;have E4: ∀b o,h b=some o→b<w.heap.size:=λb o hb=>hw.lt hb;go_enter Tryz.func372,Tryz.ntmps372;go_wp2
  go_loopw [8,9,18] (λv8 v9 i wr=>∃ (k:Nat) (a8:Option alA) (c8:Nat) (bs:Qc),k≤rest.length∧i= .int .i64 k∧v8= .slice a8 bs.1.length c8∧v9= .int .i64 bs.2∧af (λ_=>False) w wr∧at3 ((at0 k).foldl (qb (dQ head n) live head rest) ([],0)=bs)∧at3 (bs.2≤(n+1)*1152921504606846976∧bs.1.length≤n+1∧(bs.1= []→a8=none∧c8=0)∧(bs.1≠ []→a8≠none))∧∃kb:Hp,kb.In wr∧Hp.Ext w.heap.size h kb∧aw wr w.heap.size 497 11 (Dh V) kb v8 bs.1) (λ_ _ i _=>rest.length-(intOf i).toNat)
  case atStart=>exact⟨0,none,0,([],0),arQ _,rfl,rfl,rfl,af.refl _ w,rfl,⟨arQ _,arQ _,λ_=>⟨rfl,rfl⟩,λh=>absurd rfl h⟩,h,hw,Hp.Ext.refl _ _,.nil hw⟩
  case round=>
   obtain⟨k,a8,c8,bs,hk,rfl,rfl,rfl,hT,HB,HL,kb,hkb,hxb,Hl⟩:=hrel;by_cases hlt:k<rest.length
   ·obtain⟨y,hy⟩: ∃y,rest[k]? =some y:=⟨_,arn hlt⟩;obtain⟨g,o,cc,rfl,bW,hR,ag⟩:=hat k y hy;obtain⟨ya,yc,rfl,wF⟩:=hR.cells;have e0:=hT.cell (ag 0 aI) id;have e1:=hT.cell (ag 1 aI) id;have e2:=hT.cell (ag 2 aI) id;have e3:=hT.cell (ag 3 aI) id;have e4:=hT.cell (ag 4 aI) id;have e5:=hT.cell (ag 5 aI) id;simp only[at6,←at7]at e0 e1 e2 e3 e4 e5;have r8:=hv y (ann hy);have HST:at3 ((at0 (k+1)).foldl (qb (dQ head n) live head rest) ([],0)=if y.neg then bs else if bs.1= []∨(dQ head n (fS live head rest k y).live (kM live head rest k y)).2+kS (live|||(fS live head rest k y).fresh)<bs.2 then(fS live head rest k y::(dQ head n (fS live head rest k y).live (kM live head rest k y)).1,(dQ head n (fS live head rest k y).live (kM live head rest k y)).2+kS (live|||(fS live head rest k y).fresh))else bs):=by
     show _=_;rw[rG,HB.out];unfold qb;rw[hy]
    clear ag bW;obtain⟨u1,Ss⟩: ∃q,(V y.side y.a.n).1=q:=⟨_,rfl⟩;obtain⟨u2,KB⟩: ∃q,(V y.side y.a.n).2.1=q:=⟨_,rfl⟩;obtain⟨u3,Sr⟩: ∃q,(V y.side y.a.n).2.2=q:=⟨_,rfl⟩;rw[Ss]at e3;rw[KB]at e4;rw[Sr]at e5;clear Ss KB Sr hR;cases WM:y.neg with
    |true=>
     rw[WM]at e2;have HN:at3 ((at0 (k+1)).foldl (qb (dQ head n) live head rest) ([],0)=bs):=by show _=_;rw[HST.out,if_pos WM]
     clear WM HST hy;go_wp2;go_roundw
     case rel=>exact⟨k+1,a8,c8,bs,by omega,by go_num,rfl,rfl,hT.alloc _,HN,HL,kb,hkb.turn ((af.refl (λ_=>False) wr).alloc _) (λ_ _ _ h=>h),hxb,Hl.turn ((af.refl (λ_=>False) wr).alloc _) (λ_ _ h=>h) (λ_ _ _ h=>h)⟩
     case measure=>simp[intOf];omega
    |false=>
     rw[WM]at e2;obtain⟨m,hm⟩: ∃m,rest.length=m+1:=⟨rest.length- 1,by omega⟩;rw[hm]at hcs;have k1:=λ(w':aly) (ht:af (λ_=>False) w w')=>ag5 (hw.turn ht (λ_ _ _ h=>h)) hm hcs aj hv live head hlv Px k hy rfl rfl;rw[←hm]at k1;clear hm;have WN:(kM live head rest k y).length≤n:=by have:=xF (live:=live) (head:=head) (y:=y) hlt;omega
     have xW:=Cm (live:=live) (head:=head) (i:=k) (y:=y) hv;have pZ:=B9 (head:=head) (rest:=rest) (i:=k) hlv r8;generalize fS live head rest k y=st at k1 HST pZ;generalize kM live head rest k y=lf at k1 HST WN xW;have bW:=Jl head n st.live lf pZ.1 xW;have hpl:=yO (KP hlv pZ.2);have k2:=λ(w':aly) (h':Hp) (hw':h'.In w') (a2:Option alA) (c2:Nat) (hls:h'.list 6 (jX V) (.slice a2 lf.length c2) lf)=>ih aj hw' hls WN xW st.live pZ.1;have abq:=yT head n st.live lf;generalize dQ head n st.live lf=ob at k2 HST bW abq;obtain⟨ob1,ob2⟩:=ob;dsimp only at k2 HST bW abq;have k3:=λw'=>aeC (live|||st.fresh) (KP hlv pZ.2) w';have b1:=u16_or_nat live st.fresh aj aj;generalize live|||st.fresh=lfs at k3 HST hpl b1;generalize kS lfs=pr at k3 HST hpl;have hol:ob1.length≤n:=abq;by_cases hb:bs.1= []
     ·obtain⟨rfl,rfl⟩:=HL.out.2.2.1 hb;have hb0:bs.1.length=0:=by rw[hb];rfl
      have E1:=Vp;have HN:at3 ((at0 (k+1)).foldl (qb (dQ head n) live head rest) ([],0)=(st::ob1,ob2+pr)):=by show _=_;rw[HST.out,if_neg (by rw[WM];decide),if_pos (.inl hb)]
      clear hb WM hcs hv ih;rw[hb0];clear hb0 HST Hl
      go_wp2_with (first|(go_at_call 380;refine(k1 _ (hT.alloc _)).mono ?_;clear k1;rintro e w2 ⟨sa,sc,ua,uc,a2,c2,rfl,aF,kk,RX,Sn,hla,hlu,jy⟩;have gI:af (λ_=>False) w w2:=(hT.alloc (.cells #[.string y.a.n,.slice ya y.a.ts.length yc,.bool false,.map u1,.map u2,.map u3] 493)).trans aF;have Tc:=RX.turn ((af.refl (λ_=>False) w2).alloc (.cells #[.slice sa st.asks.length sc,.int .u16 (st.live:Nat),.string st.part.a.n,.slice ua st.part.a.ts.length uc,.bool st.part.neg,.map (V st.part.side st.part.a.n).1,.map (V st.part.side st.part.a.n).2.1,.map (V st.part.side st.part.a.n).2.2,.int .u16 (st.known:Nat),.int .u16 (st.fresh:Nat),.map none] 497)) (λ_ _ _ h=>h))|
       (go_at_call 372;refine(k2 _ kk Tc a2 c2 jy).mono ?_;clear k2;rintro e w4 ⟨a4,c4,rfl,ck,k40,adV,Hy,lB⟩;obtain⟨k4,hk4,mP,Ta,hl4⟩:=lB.done (λk' hk c x=>Dh.mono hk);have uC:Hp.Ext w2.heap.size kk k4:=⟨Hy.le.trans mP,λb o hb=>(Ta b o hb).elim (λh=>(Hy.new b o h).imp id (λh=>by simp only[atS]at h;omega)) (λh=> .inr (by have h1:=(lB.own b h).1;simp only[atS]at h1;omega))⟩;have SG:=ck.kept (atp w2 (.cells #[.slice sa st.asks.length sc,.int .u16 (st.live:Nat),.string st.part.a.n,.slice ua st.part.a.ts.length uc,.bool st.part.neg,.map (V st.part.side st.part.a.n).1,.map (V st.part.side st.part.a.n).2.1,.map (V st.part.side st.part.a.n).2.2,.int .u16 (st.known:Nat),.int .u16 (st.fresh:Nat),.map none] 497)) id;have f9:=(aqF _ _ 9 _ 497 (0,0) SG).trans rfl)|
       (go_at_call 357;refine(k3 _).mono ?_;clear k3;rintro e w5 ⟨rfl,bA⟩;have Bj:=bA.kept SG id;have RY:=hk4.turn bA (λ_ _ _ h=>h);have G8:=aw.one (α:=r9) (e:=497) (R:=Dh V) RY #[.slice sa st.asks.length sc,.int .u16 (st.live:Nat),.string st.part.a.n,.slice ua st.part.a.ts.length uc,.bool st.part.neg,.map (V st.part.side st.part.a.n).1,.map (V st.part.side st.part.a.n).2.1,.map (V st.part.side st.part.a.n).2.2,.int .u16 (st.known:Nat),.int .u16 (st.fresh:Nat),.map none] rfl (show Dh V k4 _ st from⟨_,_,rfl,Hp.list.mono (h:=kk) (k:=k4) (λ_ _=>jX.mono uC.le) hla uC.le,Hp.list.mono (h:=kk) (k:=k4) (λ_ _ q=>q) hlu uC.le⟩) (agl _);have iW:af (λ_=>False) w w5:=((gI.alloc _).trans ck).trans bA)|
       (refine fH rfl (.tmp 12) rfl rfl Bj Tryz.underlying497 rfl ar ?_)|
       (at_builtin;refine l9 O6 rfl (.tmp 58) (.tmp 59) rfl G8 rfl hl4 rfl Dh.one (by simp[maxLen];omega) lq bz ?_;intro v6 w6 gQ bH Fh))
      obtain⟨g6,Am,rfl,-,-⟩:=gQ.slice (awa _ _);have hz2:=gI.size;have wx:=ck.size;have zt:=bA.size;have hzt:=hT.size;simp only[atS]at wx;go_roundw
      case rel=>
       refine⟨k+1,_,_,(st::ob1,ob2+pr),by omega,by go_num,rfl,by go_num,(iW.alloc _).bL bH (λb hb=> .inl (by have h1:=(G8.own b hb).1;omega)),HN,⟨?_,?_,(λh=>nomatch h),(λ_ h=>nomatch h)⟩,k4,gQ.known,⟨Sn.le.trans uC.le,λb o hb=>?_⟩,gQ.lower aj⟩
       ·dsimp only;rw[asU];omega
       ·dsimp only;rw[as2];omega
       ·rcases uC.new b o hb with h2|h2
        ·rcases Sn.new b o h2 with h3|h3
         ·exact .inl h3
         ·simp only[atS]at h3;exact .inr aj
        ·exact .inr aj
      case measure=>simp[intOf];omega
     ·obtain⟨ad8,rfl⟩: ∃ad8,a8=some ad8:=Option.ne_none_iff_exists'.1 (HL.out.2.2.2 hb);have GY:=λw=>Mh ad8 bs.1.length c8 w;by_cases hcm:ob2+pr<bs.2
      ·have HN:at3 ((at0 (k+1)).foldl (qb (dQ head n) live head rest) ([],0)=(st::ob1,ob2+pr)):=by show _=_;rw[HST.out,if_neg (by rw[WM];decide),if_pos (.inr hcm)]
       have hcz:(ob2:Int)+(pr:Int)<(bs.2:Int):=by omega
       clear hb WM hcs hv ih HST hcm
       go_wp2_with (first|(go_at_call 380;refine(k1 _ (hT.alloc _)).mono ?_;clear k1;rintro e w2 ⟨sa,sc,ua,uc,a2,c2,rfl,aF,kk,RX,Sn,hla,hlu,jy⟩;have gI:af (λ_=>False) w w2:=(hT.alloc (.cells #[.string y.a.n,.slice ya y.a.ts.length yc,.bool false,.map u1,.map u2,.map u3] 493)).trans aF;have Tc:=RX.turn ((af.refl (λ_=>False) w2).alloc (.cells #[.slice sa st.asks.length sc,.int .u16 (st.live:Nat),.string st.part.a.n,.slice ua st.part.a.ts.length uc,.bool st.part.neg,.map (V st.part.side st.part.a.n).1,.map (V st.part.side st.part.a.n).2.1,.map (V st.part.side st.part.a.n).2.2,.int .u16 (st.known:Nat),.int .u16 (st.fresh:Nat),.map none] 497)) (λ_ _ _ h=>h))|
       (go_at_call 372;refine(k2 _ kk Tc a2 c2 jy).mono ?_;clear k2;rintro e w4 ⟨a4,c4,rfl,ck,k40,adV,Hy,lB⟩;obtain⟨k4,hk4,mP,Ta,hl4⟩:=lB.done (λk' hk c x=>Dh.mono hk);have uC:Hp.Ext w2.heap.size kk k4:=⟨Hy.le.trans mP,λb o hb=>(Ta b o hb).elim (λh=>(Hy.new b o h).imp id (λh=>by simp only[atS]at h;omega)) (λh=> .inr (by have h1:=(lB.own b h).1;simp only[atS]at h1;omega))⟩;have SG:=ck.kept (atp w2 (.cells #[.slice sa st.asks.length sc,.int .u16 (st.live:Nat),.string st.part.a.n,.slice ua st.part.a.ts.length uc,.bool st.part.neg,.map (V st.part.side st.part.a.n).1,.map (V st.part.side st.part.a.n).2.1,.map (V st.part.side st.part.a.n).2.2,.int .u16 (st.known:Nat),.int .u16 (st.fresh:Nat),.map none] 497)) id;have f9:=(aqF _ _ 9 _ 497 (0,0) SG).trans rfl)|
       (go_at_call 357;refine(k3 _).mono ?_;clear k3;rintro e w5 ⟨rfl,bA⟩;have Bj:=bA.kept SG id;have RY:=hk4.turn bA (λ_ _ _ h=>h);have G8:=aw.one (α:=r9) (e:=497) (R:=Dh V) RY #[.slice sa st.asks.length sc,.int .u16 (st.live:Nat),.string st.part.a.n,.slice ua st.part.a.ts.length uc,.bool st.part.neg,.map (V st.part.side st.part.a.n).1,.map (V st.part.side st.part.a.n).2.1,.map (V st.part.side st.part.a.n).2.2,.int .u16 (st.known:Nat),.int .u16 (st.fresh:Nat),.map none] rfl (show Dh V k4 _ st from⟨_,_,rfl,Hp.list.mono (h:=kk) (k:=k4) (λ_ _=>jX.mono uC.le) hla uC.le,Hp.list.mono (h:=kk) (k:=k4) (λ_ _ q=>q) hlu uC.le⟩) (agl _);have iW:af (λ_=>False) w w5:=((gI.alloc _).trans ck).trans bA)|
       (refine fH rfl (.tmp 12) rfl rfl Bj Tryz.underlying497 rfl ar ?_)|
       (at_builtin;refine l9 O6 rfl (.tmp 58) (.tmp 59) rfl G8 rfl hl4 rfl Dh.one (by simp[maxLen];omega) lq bz ?_;intro v6 w6 gQ bH Fh))
       obtain⟨g6,Am,rfl,-,-⟩:=gQ.slice (awa _ _);have hz2:=gI.size;have wx:=ck.size;have zt:=bA.size;have hzt:=hT.size;simp only[atS]at wx;go_roundw
       case rel=>
        refine⟨k+1,_,_,(st::ob1,ob2+pr),by omega,by go_num,rfl,by go_num,(iW.alloc _).bL bH (λb hb=> .inl (by have h1:=(G8.own b hb).1;omega)),HN,⟨?_,?_,(λh=>nomatch h),(λ_ h=>nomatch h)⟩,k4,gQ.known,⟨Sn.le.trans uC.le,λb o hb=>?_⟩,gQ.lower aj⟩
        ·dsimp only;rw[asU];omega
        ·dsimp only;rw[as2];omega
        ·rcases uC.new b o hb with h2|h2
         ·rcases Sn.new b o h2 with h3|h3
          ·exact .inl h3
          ·simp only[atS]at h3;exact .inr aj
         ·exact .inr aj
       case measure=>simp[intOf];omega
      ·have HN:at3 ((at0 (k+1)).foldl (qb (dQ head n) live head rest) ([],0)=bs):=by show _=_;rw[HST.out,if_neg (by rw[WM];decide),if_neg (by rintro(h|h);exact hb h;exact hcm h)]
       have hcz: ¬(ob2:Int)+(pr:Int)<(bs.2:Int):=by omega
       clear hb WM hcs hv ih HST hcm
       go_wp2_with (first|(go_at_call 380;refine(k1 _ (hT.alloc _)).mono ?_;clear k1;rintro e w2 ⟨sa,sc,ua,uc,a2,c2,rfl,aF,kk,RX,Sn,hla,hlu,jy⟩;have gI:af (λ_=>False) w w2:=(hT.alloc (.cells #[.string y.a.n,.slice ya y.a.ts.length yc,.bool false,.map u1,.map u2,.map u3] 493)).trans aF;have Tc:=RX.turn ((af.refl (λ_=>False) w2).alloc (.cells #[.slice sa st.asks.length sc,.int .u16 (st.live:Nat),.string st.part.a.n,.slice ua st.part.a.ts.length uc,.bool st.part.neg,.map (V st.part.side st.part.a.n).1,.map (V st.part.side st.part.a.n).2.1,.map (V st.part.side st.part.a.n).2.2,.int .u16 (st.known:Nat),.int .u16 (st.fresh:Nat),.map none] 497)) (λ_ _ _ h=>h))|
       (go_at_call 372;refine(k2 _ kk Tc a2 c2 jy).mono ?_;clear k2;rintro e w4 ⟨a4,c4,rfl,ck,k40,adV,Hy,lB⟩;obtain⟨k4,hk4,mP,Ta,hl4⟩:=lB.done (λk' hk c x=>Dh.mono hk);have uC:Hp.Ext w2.heap.size kk k4:=⟨Hy.le.trans mP,λb o hb=>(Ta b o hb).elim (λh=>(Hy.new b o h).imp id (λh=>by simp only[atS]at h;omega)) (λh=> .inr (by have h1:=(lB.own b h).1;simp only[atS]at h1;omega))⟩;have SG:=ck.kept (atp w2 (.cells #[.slice sa st.asks.length sc,.int .u16 (st.live:Nat),.string st.part.a.n,.slice ua st.part.a.ts.length uc,.bool st.part.neg,.map (V st.part.side st.part.a.n).1,.map (V st.part.side st.part.a.n).2.1,.map (V st.part.side st.part.a.n).2.2,.int .u16 (st.known:Nat),.int .u16 (st.fresh:Nat),.map none] 497)) id;have f9:=(aqF _ _ 9 _ 497 (0,0) SG).trans rfl)|
       (go_at_call 357;refine(k3 _).mono ?_;clear k3;rintro e w5 ⟨rfl,bA⟩;have Bj:=bA.kept SG id;have RY:=hk4.turn bA (λ_ _ _ h=>h);have G8:=aw.one (α:=r9) (e:=497) (R:=Dh V) RY #[.slice sa st.asks.length sc,.int .u16 (st.live:Nat),.string st.part.a.n,.slice ua st.part.a.ts.length uc,.bool st.part.neg,.map (V st.part.side st.part.a.n).1,.map (V st.part.side st.part.a.n).2.1,.map (V st.part.side st.part.a.n).2.2,.int .u16 (st.known:Nat),.int .u16 (st.fresh:Nat),.map none] rfl (show Dh V k4 _ st from⟨_,_,rfl,Hp.list.mono (h:=kk) (k:=k4) (λ_ _=>jX.mono uC.le) hla uC.le,Hp.list.mono (h:=kk) (k:=k4) (λ_ _ q=>q) hlu uC.le⟩) (agl _);have iW:af (λ_=>False) w w5:=((gI.alloc _).trans ck).trans bA))
       go_roundw
       case rel=>exact⟨k+1,_,_,bs,by omega,by go_num,rfl,rfl,iW,HN,HL,kb,(hkb.turn ((((af.refl (λ_=>False) wr).alloc _).trans aF).alloc _) (λ_ _ _ h=>h)).turn (ck.trans bA) (λ_ _ _ h=>h),hxb,(Hl.turn ((((af.refl (λ_=>False) wr).alloc _).trans aF).alloc _) (λ_ _ h=>h) (λ_ _ _ h=>h)).turn (ck.trans bA) (λ_ _ h=>h) (λ_ _ _ h=>h)⟩
       case measure=>simp[intOf];omega
   ·obtain rfl:k=rest.length:=by omega
    have HE:at3 (dQ head (n+1) live rest=bs):=HB.out;go_wp2
    go_ret2
    rw[HE.out];exact⟨_,_,rfl,hT,kb,hkb,hxb,Hl⟩
end Go.Proofs.YtkdljbnllgpfhaaGreat
end
section
namespace Go.Proofs.YtkdljbnllgpfhaaGreat
open Go Go.RowKit Go.Upr
theorem _root_.Go.Upr.Hp.Ext.weak{n m:Nat}{a b:Hp}(h:Hp.Ext n a b)(hm:m≤n):Hp.Ext m a b:=⟨h.le,λx o e=>(h.new x o e).imp id λh=>al2 hm h⟩
theorem _root_.Go.Upr.Hp.In.free{k:Hp}{w:aly}(h:k.In w){b:Nat}(hb:w.heap.size≤b):k b=none:=by
 cases hk:k b with
 |none=>rfl
 |some o=>have:=h.lt hk;omega
structure Jn where
 head:sW
 first:sW
 start:List bN
 live:Nat
 steps:List r9
 cost:Nat
def ic(head first:sW)(others:List bN):Jn:=
 ⟨head,first,iI (bU first.ts) others,nz (bU first.ts) (bU head.ts) others,(dQ (bU head.ts) 4 (nz (bU first.ts) (bU head.ts) others) (fw (bU first.ts) others)).1,(dQ (bU head.ts) 4 (nz (bU first.ts) (bU head.ts) others) (fw (bU first.ts) others)).2⟩
structure gO(V:Bool→ByteArray→Vw)(w:aly)(N:Nat)(k:Hp)(jb:Nat)(J:Jn):Prop where
 known:k.In w
 low:N≤jb
 free:k jb=none
 top: ∃ha hc fa fc sa sc ga gc,w.heap[jb]? =some (.cells #[.string J.head.n,.slice ha J.head.ts.length hc,.string J.first.n,.slice fa J.first.ts.length fc,.slice sa J.start.length sc,.int .u16 (J.live:Nat),.slice ga J.steps.length gc,.int .i64 (J.cost:Nat)] 479)∧
  k.list 2 r_ (.slice ha J.head.ts.length hc) J.head.ts∧k.list 2 r_ (.slice fa J.first.ts.length fc) J.first.ts∧k.list 6 (jX V) (.slice sa J.start.length sc) J.start∧aw w N 497 11 (Dh V) k (.slice ga J.steps.length gc) J.steps∧(Value.slice ga J.steps.length gc).ownBlock≠some jb
theorem gO.weak{V:Bool→ByteArray→Vw}{w:aly}{N M:Nat}{k:Hp}{jb:Nat}{J:Jn}(h:gO V w N k jb J)(hm:M≤N):gO V w M k jb J:=by
 obtain⟨h1,h2,h3,ha,hc,fa,fc,sa,sc,ga,gc,a1,a2,a3,a4,a5,a6⟩:=h;exact⟨h1,al2 hm h2,h3,ha,hc,fa,fc,sa,sc,ga,gc,a1,a2,a3,a4,a5.lower hm,a6⟩
theorem Yr{V:Bool→ByteArray→Vw}{h:Hp}{w:aly}(hw:h.In w){ha fa ba oa:Option alA}{hl hc fl fc bl bc ol oc:Nat}{head first:sW}{others:List bN}(hH:h.list 2 r_ (.slice ha hl hc) head.ts)(hF:h.list 2 r_ (.slice fa fl fc) first.ts)(hO:h.list 6 (jX V) (.slice oa ol oc) others)
  (hh3:head.ts.length≤3) (hhv: ∀t∈head.ts,qP t) (hf3:first.ts.length≤3) (hfv: ∀t∈first.ts,qP t) (hn:others.length≤4) (hv: ∀p∈others,dP p):
  asP Tryz.prog 362 #[.agg #[.string head.n,.slice ha hl hc,.slice ba bl bc],.agg #[.string first.n,.slice fa fl fc],.slice oa ol oc] w λe w'=>∃jb k,e= .returned (.pointer (some ⟨jb,0,none⟩))∧af (λ_=>False) w w'∧Hp.Ext w.heap.size h k∧gO V w' w.heap.size k jb (ic head first others):=by
 obtain⟨q1,q2,hq⟩:=hH.shape;obtain⟨rfl,rfl,rfl⟩:ha=q1∧hl=head.ts.length∧hc=q2:=by simpa using hq
 obtain⟨q1,q2,hq⟩:=hF.shape;obtain⟨rfl,rfl,rfl⟩:fa=q1∧fl=first.ts.length∧fc=q2:=by simpa using hq
 obtain⟨q1,q2,hq⟩:=hO.shape;obtain⟨rfl,rfl,rfl⟩:oa=q1∧ol=others.length∧oc=q2:=by simpa using hq
 clear hq;have hhl:=iL hhv;have Fa:=iL hfv;have hro: ∀p∈fw (bU first.ts) others,dP p:=λp hp=>hv p (auV.1 hp).1;have AJ:(fw (bU first.ts) others).length≤4:=al2 (avN _ _) hn;have jy:nz (bU first.ts) (bU head.ts) others<4096:=xd Fa;have HJ:at3 (∀x y,bU head.ts=x→bU first.ts=y→ic head first others=⟨head,first,iI y others,nz y x others,(dQ x 4 (nz y x others) (fw y others)).1,(dQ x 4 (nz y x others) (fw y others)).2⟩):=by rintro x y rfl rfl;rfl
 generalize ic head first others=J at HJ⊢
 have k1:=λ(w':aly) (ht:af (λ_=>False) w w')=>P7 (hw.turn ht (λ_ _ _ h=>h)) (a:=head) ⟨_,rfl,hH⟩ hh3 hhv;have k2:=λ(w':aly) (ht:af (λ_=>False) w w')=>P7 (hw.turn ht (λ_ _ _ h=>h)) (a:=first) ⟨_,rfl,hF⟩ hf3 hfv;have k3:=λ(w':aly) (ht:af (λ_=>False) w w')=>aex (hw.turn ht (λ_ _ _ h=>h)) hO aj hv (bU first.ts) (bU head.ts) Fa hhl;have k4:=λ(w':aly) (h':Hp) (hw':h'.In w') (a2:Option alA) (c2:Nat) (hls:h'.list 6 (jX V) (.slice a2 (fw (bU first.ts) others).length c2) (fw (bU first.ts) others))=>ai9 (bU head.ts) hhl 4 (agl _) hw' hls AJ hro (nz (bU first.ts) (bU head.ts) others) jy;generalize bU head.ts=hx at*;generalize bU first.ts=fx at*
 have HJ2:=HJ.out hx fx rfl rfl;clear HJ;generalize nz fx hx others=lv at*;generalize fw fx others=rs at*;generalize iI fx others=ask at*;generalize dQ hx 4 lv rs=ch at*;obtain⟨st,co⟩:=ch;dsimp only at k4 HJ2;subst HJ2;have E4: ∀b o,h b=some o→b<w.heap.size:=λb o hb=>hw.lt hb;go_enter Tryz.func362,Tryz.ntmps362
 go_wp2_with (first|(go_at_call 322;refine(k1 _ (((af.refl _ w).alloc _).alloc _)).mono ?_;clear k1;rintro e w2 ⟨rfl,aF⟩;have dK:af (λ_=>False) w w2:=(((af.refl (λ_=>False) w).alloc (.cells #[.string head.n,.slice ha head.ts.length hc,.slice ba bl bc] 318)).alloc (.cells #[.string first.n,.slice fa first.ts.length fc] 315)).trans aF;have lC:=aF.kept (bq w (.cells #[.string head.n,.slice ha head.ts.length hc,.slice ba bl bc] 318) (.cells #[.string first.n,.slice fa first.ts.length fc] 315)) id;have uD:=aF.kept (aR w (.cells #[.string head.n,.slice ha head.ts.length hc,.slice ba bl bc] 318) (.cells #[.string first.n,.slice fa first.ts.length fc] 315)) id;obtain⟨f0,f1,_,_⟩:=b9 uD)|
  (go_at_call 322;refine(k2 _ dK).mono ?_;clear k2;rintro e w3 ⟨rfl,bX⟩;have eN:=dK.trans bX)|
  (go_at_call 371;refine(k3 _ eN).mono ?_;clear k3;rintro e w4 ⟨a1,c1,a2,c2,rfl,ck,k',hk',kx,hla,hlr⟩;have xX:=eN.trans ck;have hk4:=hk'.turn ((af.refl (λ_=>False) w4).alloc (.cells #[.slice a1 ask.length c1,.int .u16 (lv:Nat)] 476)) (λ_ _ _ h=>h))|
  (go_at_call 372;refine(k4 _ k' hk4 a2 c2 hlr).mono ?_;clear k4;rintro e w5 ⟨a3,c3,rfl,bA,k5,RY,Pu,o0⟩;have iW:=(xX.alloc _).trans bA;have Bo:=bA.kept ((atn _ _ _ (atm (ck.kept (bX.kept lC id) id))).trans (ck.kept (bX.kept lC id) id)) id;have W6:=bA.kept ((atn _ _ _ (atm (ck.kept (bX.kept uD id) id))).trans (ck.kept (bX.kept uD id) id)) id;have hC5:=bA.kept (atp w4 _) id;obtain⟨r0,r1,_,_⟩:=b9 W6;obtain⟨s0,s1,_,_⟩:=b9 hC5;obtain⟨t0,t1,t2,_,_,_⟩:=bI Bo))
 have hz2:=dK.size;have hz3:=eN.size;have wx:=xX.size;have zt:=iW.size;have hx1:=kx.weak hz3;have hx2:=hx1.trans Pu lq;have pO:=hx2.le;go_ret;refine⟨w5.heap.size,k5,rfl,iW.alloc _,hx2,RY.turn ((af.refl (λ_=>False) w5).alloc _) (λ_ _ _ h=>h),zt,RY.free (agl _),ha,hc,fa,fc,a1,c1,a3,c3,atp w5 _,Hp.list.mono (h:=h) (k:=k5) (λ_ _ q=>q) hH pO,Hp.list.mono (h:=h) (k:=k5) (λ_ _ q=>q) hF pO,Hp.list.mono (h:=k') (k:=k5) (λ_ _=>jX.mono Pu.le) hla Pu.le,(o0.lower lq).turn ((af.refl (λ_=>False) w5).alloc _) (λ_ _ h=>h) (λ_ _ _ h=>h),λhb=>?_⟩;have:=(o0.own _ hb).2;omega
end Go.Proofs.YtkdljbnllgpfhaaGreat
end
section
namespace Go.Proofs.YtkdljbnllgpfhaaGreat
open Go Go.RowKit Go.Upr
structure bQ where
 head:sW
 body:List iY
 deriving DecidableEq
structure Hs where
 m0:Option Nat
 m1:Option Nat
 m2:Option Nat
 b0:List (ByteArray×Nat)
 b1:List (ByteArray×Nat)
 b2:List (ByteArray×Nat)
def Hs.vw(s:Hs)(n:ByteArray):Vw:=(au s.b0 n,au s.b1 n,au s.b2 n)
structure mq(w:aly)(s:Hs)(F0 F1 F2:ByteArray→List aS):Prop where
 s0:qa w s.m0 s.b0 F0
 s1:qa w s.m1 s.b1 F1
 s2:qa w s.m2 s.b2 F2
theorem mq.turn{w w':aly}{s:Hs}{F0 F1 F2:ByteArray→List aS}(h:mq w s F0 F1 F2)(ht:af (λ_=>False) w w'):mq w' s F0 F1 F2:=
 ⟨h.s0.turn ht (λ_ _=>id) (λ_ _=>id),h.s1.turn ht (λ_ _=>id) (λ_ _=>id),h.s2.turn ht (λ_ _=>id) (λ_ _=>id)⟩
def pM(a b:Hs):Bool→ByteArray→Vw:=λs n=>if s then b.vw n else a.vw n
structure gW(r:bQ):Prop where
 nE:r.head.ts.length≤3
 ml: ∀t∈r.head.ts,qP t
 Iz:bZ r.head.n
 mo:r.body.length≤4
 jl: ∀l∈r.body,TE l
theorem iT{s:Bool}{ls:List iY}(h: ∀l∈ls,TE l): ∀p∈ls.map (dI s),dP p:=by
 intro p hp;obtain⟨l,hl,rfl⟩:=List.mem_map.1 hp;exact h l hl
def wX:sW:=⟨ati,[]⟩
theorem aeD{h:Hp}{w:aly}(hw:h.In w){r:bQ}{ha ba:Option alA}{hc bc:Nat}(hH:h.list 2 r_ (.slice ha r.head.ts.length hc) r.head.ts)(hB:h.list 3 xT (.slice ba r.body.length bc) r.body)(ok:gW r){sc:Hs}{F0 F1 F2:ByteArray→List aS}(hS:mq w sc F0 F1 F2):
  asP Tryz.prog 356 #[.agg #[.string r.head.n,.slice ha r.head.ts.length hc,.slice ba r.body.length bc],.agg #[.map sc.m0,.map sc.m1,.map sc.m2]] w λe w'=>∃jb k,e= .returned (.pointer (some ⟨jb,0,none⟩))∧af (λ_=>False) w w'∧Hp.Ext w.heap.size h k∧gO (pM sc sc) w' w.heap.size k jb (ic r.head wX (r.body.map (dI false))):=by
 obtain⟨W,hW⟩: ∃W,W=(w.alloc (.cells #[.string r.head.n,.slice ha r.head.ts.length hc,.slice ba r.body.length bc] 318)).alloc (.cells #[.map sc.m0,.map sc.m1,.map sc.m2] 444):=⟨_,rfl⟩;have bM:af (λ_=>False) w W:=by rw[hW];exact((af.refl _ w).alloc _).alloc _
 have lY:W.heap[w.heap.size]? =some (.cells #[.string r.head.n,.slice ha r.head.ts.length hc,.slice ba r.body.length bc] 318):=by rw[hW];exact bq _ _ _
 have lH:W.heap[w.heap.size+1]? =some (.cells #[.map sc.m0,.map sc.m1,.map sc.m2] 444):=by rw[hW];exact aR _ _ _
 obtain⟨a0,a1,a2,_,_,_⟩:=bI lY;obtain⟨b0,b1,b2,_,_,_⟩:=bI lH;have qK:=atm lY;have hbl:=atm lH;have k1:=λ(w':aly) (ht:af (λ_=>False) W w')=>Ys (V:=pM sc sc) (s:=false) (hw.turn (bM.trans ht) (λ_ _ _ h=>h)) (hS.turn (bM.trans ht)).s0 (hS.turn (bM.trans ht)).s1 (hS.turn (bM.trans ht)).s2 (λn=>rfl) hB (by have:=ok.mo;omega) ok.jl;have Nu:=iT (s:=false) ok.jl;have hpl:(r.body.map (dI false)).length≤4:=by rw[auB];exact ok.mo
 generalize r.body.map (dI false)=ps at k1 Nu hpl;go_enter Tryz.func356,Tryz.ntmps356;go_wp2_with (rw[←hW]);clear hW;refine aG (λi=>i==5||i==6||i==7) ar ar ?_;intro S gg fN gc gf gh gb;iterate 5 (refine ak ar aC aC λK hK=>?_;go_big_quiet_op;refine hK _ ?_;clear hK K)
 refine ai ar aC λQ' hQ=>?_;go_wp2_with (go_at_call 361;refine(k1 _ (af.refl _ W).drew).mono ?_;rintro e w2 ⟨v2,rfl,aF,il⟩);have h2:af (λ_=>False) W w2:=(af.refl _ _).drew.trans aF;refine hQ _ _ ar (λ_=>gb _ h2.below) ?_;clear hQ Q';obtain⟨k',q1,q2,q3,q4⟩:=il.done (λk' hk c x=>jX.mono hk);obtain⟨va,vc,rfl⟩:=il.shape;have k6:=Yr q1 (head:=r.head) (first:=wX) (ba:=ba) (bl:=r.body.length) (bc:=bc) (Hp.list.mono (h:=h) (k:=k') (λ_ _ q=>q) hH q2) (Hp.Cl k' 2 r_) q4 ok.nE ok.ml (arQ _) (λ_ h=>nomatch h) hpl Nu;have k7:asP Tryz.prog 362 #[.agg #[.string r.head.n,.slice ha r.head.ts.length hc,.slice ba r.body.length bc],.agg #[.string ⟨#[]⟩,.slice none 0 0],.slice va ps.length vc] w2 _:=k6;refine ai ar aC λQ' hQ=>?_;go_wp2_with (go_at_call 362;refine k7.mono ?_;rintro e w3 ⟨jb,k3,rfl,bX,hx3,hJ⟩);refine hQ _ _ ar (λ_=>gb _ (h2.trans bX).below) ?_;clear hQ Q';refine ai ar aC λQ' hQ=>?_;go_wp2;refine hQ _ _ ar (aX ar) ?_;clear hQ Q';refine aQ ?_;go_wp2;go_ret;have hz2:=h2.size;have hz0:=bM.size;have hx2:Hp.Ext w.heap.size h k':=⟨q2,λb o hb=>(q3 b o hb).imp id λh=>by have h1:=(il.own b h).1;simp at h1;omega⟩;exact⟨jb,k3,rfl,bM.trans (h2.trans bX),hx2.trans hx3 aj,hJ.weak aj⟩
theorem ajh{h:Hp}{w:aly}(hw:h.In w){r:bQ}{ha ba:Option alA}{hc bc:Nat}(hH:h.list 2 r_ (.slice ha r.head.ts.length hc) r.head.ts)(hB:h.list 3 xT (.slice ba r.body.length bc) r.body)(ok:gW r){sc:Hs}{F0 F1 F2:ByteArray→List aS}(hS:mq w sc F0 F1 F2):
  asP Tryz.prog 355 #[.agg #[.string r.head.n,.slice ha r.head.ts.length hc,.slice ba r.body.length bc],.agg #[.map sc.m0,.map sc.m1,.map sc.m2]] w λe w'=>∃jb k,e= .returned (.pointer (some ⟨jb,0,none⟩))∧af (λ_=>False) w w'∧Hp.Ext w.heap.size h k∧gO (pM sc sc) w' w.heap.size k jb (ic r.head r.head (r.body.map (dI false))):=by
 obtain⟨W,hW⟩: ∃W,W=(w.alloc (.cells #[.string r.head.n,.slice ha r.head.ts.length hc,.slice ba r.body.length bc] 318)).alloc (.cells #[.map sc.m0,.map sc.m1,.map sc.m2] 444):=⟨_,rfl⟩;have bM:af (λ_=>False) w W:=by rw[hW];exact((af.refl _ w).alloc _).alloc _
 have lY:W.heap[w.heap.size]? =some (.cells #[.string r.head.n,.slice ha r.head.ts.length hc,.slice ba r.body.length bc] 318):=by rw[hW];exact bq _ _ _
 have lH:W.heap[w.heap.size+1]? =some (.cells #[.map sc.m0,.map sc.m1,.map sc.m2] 444):=by rw[hW];exact aR _ _ _
 obtain⟨a0,a1,a2,_,_,_⟩:=bI lY;obtain⟨b0,b1,b2,_,_,_⟩:=bI lH;have qK:=atm lY;have hbl:=atm lH;have k1:=λ(w':aly) (ht:af (λ_=>False) W w')=>Ys (V:=pM sc sc) (s:=false) (hw.turn (bM.trans ht) (λ_ _ _ h=>h)) (hS.turn (bM.trans ht)).s0 (hS.turn (bM.trans ht)).s1 (hS.turn (bM.trans ht)).s2 (λn=>rfl) hB (by have:=ok.mo;omega) ok.jl;have Nu:=iT (s:=false) ok.jl;have hpl:(r.body.map (dI false)).length≤4:=by rw[auB];exact ok.mo
 generalize r.body.map (dI false)=ps at k1 Nu hpl;go_enter Tryz.func355,Tryz.ntmps355;go_wp2_with (rw[←hW]);clear hW;refine aG (λi=>i==6||i==7||i==8) ar ar ?_;intro S gg fN gc gf gh gb;iterate 6 (refine ak ar aC aC λK hK=>?_;go_big_quiet_op;refine hK _ ?_;clear hK K)
 refine ai ar aC λQ' hQ=>?_;go_wp2_with (go_at_call 361;refine(k1 _ (af.refl _ W).drew).mono ?_;rintro e w2 ⟨v2,rfl,aF,il⟩);have h2:af (λ_=>False) W w2:=(af.refl _ _).drew.trans aF;refine hQ _ _ ar (λ_=>gb _ h2.below) ?_;clear hQ Q';obtain⟨k',q1,q2,q3,q4⟩:=il.done (λk' hk c x=>jX.mono hk);obtain⟨va,vc,rfl⟩:=il.shape;have k6:=Yr q1 (head:=r.head) (first:=r.head) (ba:=ba) (bl:=r.body.length) (bc:=bc) (Hp.list.mono (h:=h) (k:=k') (λ_ _ q=>q) hH q2) (Hp.list.mono (h:=h) (k:=k') (λ_ _ q=>q) hH q2) q4 ok.nE ok.ml ok.nE ok.ml hpl Nu;refine ai ar aC λQ' hQ=>?_;go_wp2_with (go_at_call 362;refine k6.mono ?_;rintro e w3 ⟨jb,k3,rfl,bX,hx3,hJ⟩);refine hQ _ _ ar (λ_=>gb _ (h2.trans bX).below) ?_;clear hQ Q';refine ai ar aC λQ' hQ=>?_;go_wp2;refine hQ _ _ ar (aX ar) ?_;clear hQ Q';refine aQ ?_;go_wp2;go_ret;have hz2:=h2.size;have hz0:=bM.size;have hx2:Hp.Ext w.heap.size h k':=⟨q2,λb o hb=>(q3 b o hb).imp id λh=>by have h1:=(il.own b h).1;simp at h1;omega⟩;exact⟨jb,k3,rfl,bM.trans (h2.trans bX),hx2.trans hx3 aj,hJ.weak aj⟩
end Go.Proofs.YtkdljbnllgpfhaaGreat
end
section
namespace Go.Proofs.YtkdljbnllgpfhaaGreat
open Go Go.RowKit Go.Upr
theorem aje{h:Hp}{w:aly}(hw:h.In w){r:bQ}{ha ba:Option alA}{hl hc bc:Nat}(hB:h.list 3 xT (.slice ba r.body.length bc) r.body){i:Nat}{y:iY}(hy:r.body[i]? =some y)(gH:bZ y.a.n)
  {p0 p1:Option Nat} {b0 b1:List (ByteArray×Nat)} {G0 G1:ByteArray→List aS} (h0:qa w p0 b0 G0) (h1:qa w p1 b1 G1):
  asP Tryz.prog 360 #[.agg #[.string r.head.n,.slice ha hl hc,.slice ba r.body.length bc],.int .i64 i,.agg #[.map p0,.map p1]] w λe w'=>e= .returned (.map (au (if y.neg then b1 else b0) y.a.n))∧af (λ_=>False) w w':=by
 have NA:=(apT.1 hy).1;obtain⟨q7,q8,hv3,hat⟩:=hB.at hw;obtain⟨rfl,rfl⟩:ba=q7∧bc=q8:=by simpa using hv3
 clear hv3;obtain⟨g,o,cc,rfl,bW,hR,ag⟩:=hat i y hy;obtain⟨ya,yc,rfl,wF⟩:=hR.cells;obtain⟨W,hW⟩: ∃W,W=(w.alloc (.cells #[.string r.head.n,.slice ha hl hc,.slice (some ⟨g,o,none⟩) r.body.length bc] 318)).alloc (.cells #[.map p0,.map p1] 158):=⟨_,rfl⟩;have bM:af (λ_=>False) w W:=by rw[hW];exact((af.refl _ w).alloc _).alloc _
 have lY:W.heap[w.heap.size]? =some (.cells #[.string r.head.n,.slice ha hl hc,.slice (some ⟨g,o,none⟩) r.body.length bc] 318):=by rw[hW];exact bq _ _ _
 have lH:W.heap[w.heap.size+1]? =some (.cells #[.map p0,.map p1] 158):=by rw[hW];exact aR _ _ _
 obtain⟨a0,a1,a2,_,_,_⟩:=bI lY;obtain⟨z0,z1,_,_⟩:=b9 lH;have e0:=bM.cell (ag 0 aI) id;have e1:=bM.cell (ag 1 aI) id;have e2:=bM.cell (ag 2 aI) id;simp only[at6,←at7]at e0 e1 e2;clear ag bW hat hR;have tA:=(af.refl (λ_=>False) W).alloc (.cells #[.string y.a.n,.slice ya y.a.ts.length yc,.bool y.neg] 382);have z0':=tA.cell z0 id;have z1':=tA.cell z1 id;have k0:=(h0.turn (bM.trans tA) (λ_ _=>id) (λ_ _=>id)).hp;have k1:=(h1.turn (bM.trans tA) (λ_ _=>id) (λ_ _=>id)).hp;have hTf:=bM.trans tA;have r0:=iR (au b0 y.a.n);have r1:=iR (au b1 y.a.n);go_enter Tryz.func360,Tryz.ntmps360;obtain⟨⟨yn,yt⟩,neg⟩:=y;dsimp only at*;cases neg with
 |true=>
  go_wp2_with (first|(rw[←hW];clear hW)|(at_lookup;refine bu cI Tryz.underlying99 gy rfl (.tmp 16) (.tmp 19) rfl rfl (aD _) k1 rfl gH r1 ?_));go_ret;exact⟨rfl,hTf⟩
 |false=>
  go_wp2_with (first|(rw[←hW];clear hW)|(at_lookup;refine bu cI Tryz.underlying99 gy rfl (.tmp 22) (.tmp 25) rfl rfl (aD _) k0 rfl gH r0 ?_));go_ret;exact⟨rfl,hTf⟩
theorem agQ:eL Tryz.prog 65 3 1 8:= .mk' Tryz.underlying65 (z:= .int .i64 0) ar rfl aI
def TZ(_:Hp)(c:List aad)(x:Nat):Prop:=c= [.int .i64 x]
def FA(ns:List ByteArray)(l:iY):Bool:=gP ns l.a.n&& !l.neg
def dc(ns:List ByteArray)(ls:List iY)(k:Nat):List Nat:=(at0 k).filter λi=>(ls[i]?).elim false (FA ns)
theorem GI{ns:List ByteArray}{ls:List iY}{k:Nat}{y:iY}(hy:ls[k]? =some y):dc ns ls (k+1)=if FA ns y then dc ns ls k++ [k]else dc ns ls k:=by
 unfold dc;rw[awc,avP];by_cases h:FA ns y=true
 ·simp[hy,h]
 ·simp[hy,h]
theorem pF(ns:List ByteArray)(ls:List iY)(k:Nat):(dc ns ls k).length≤k:=by
 have:=avN (λi=>(ls[i]?).elim false (FA ns)) (at0 k);rw[List.length_range]at this;exact this
theorem aeE{h:Hp}{w:aly}(hw:h.In w){r:bQ}{ha ba:Option alA}{hl hc bl bc:Nat}(hB:h.list 3 xT (.slice ba bl bc) r.body)(gH: ∀l∈r.body,bZ l.a.n)(hn:r.body.length≤1099511627776){nb:Nat}{ns:List ByteArray}(hN:av w bZ Value.string aY nb (aU ns)):
  asP Tryz.prog 348 #[.agg #[.string r.head.n,.slice ha hl hc,.slice ba bl bc],.map (some nb)] w λe w'=>∃v k,e= .returned v∧af (λ_=>False) w w'∧k.In w'∧Hp.Ext w.heap.size h k∧k.list 1 TZ v (dc ns r.body r.body.length):=by
 obtain⟨q7,q8,hv3,hat⟩:=hB.at hw;obtain⟨rfl,rfl,rfl⟩:ba=q7∧bl=r.body.length∧bc=q8:=by simpa using hv3
 clear hv3;have bM:=(af.refl (λ_=>False) w).alloc (.cells #[.string r.head.n,.slice ha hl hc,.slice ba r.body.length bc] 318);have lr:aw (w.alloc (.cells #[.string r.head.n,.slice ha hl hc,.slice ba r.body.length bc] 318)) (w.heap.size+1) 3 1 TZ h (.slice none 0 0) (dc ns r.body 0):= .nil (hw.turn bM (λ_ _ _ h=>h));go_enter Tryz.func348,Tryz.ntmps348;go_wp2
 go_loopw [5,13] (λv i wr=>∃ (k:Nat),k≤r.body.length∧i= .int .i64 k∧af (λ_=>False) w wr∧w.heap.size<wr.heap.size∧aw wr (w.heap.size+1) 3 1 TZ h v (dc ns r.body k)) (λ_ i _=>r.body.length-(intOf i).toNat)
 case atStart=>exact⟨0,arQ _,rfl,bM,by simp,lr⟩
 case round=>
  clear lr;obtain⟨k,hk,rfl,hT,hz,hm⟩:=hrel;by_cases hlt:k<r.body.length
  ·obtain⟨y,hy⟩: ∃y,r.body[k]? =some y:=⟨_,arn hlt⟩;obtain⟨g,o,cc,rfl,bW,hR,ag⟩:=hat k y hy;obtain⟨ya,yc,rfl,wF⟩:=hR.cells;have e0:=hT.cell (ag 0 aI) id;have e1:=hT.cell (ag 1 aI) id;have e2:=hT.cell (ag 2 aI) id;simp only[at6,←at7]at e0 e1 e2;have qG:=gH y (ann hy);have HS:at3 (dc ns r.body (k+1)=if FA ns y then dc ns r.body k++ [k]else dc ns r.body k):=GI hy;have jy:=pF ns r.body k;clear hy ag bW hR;have tA:=((af.refl (λ_=>False) wr).alloc (.cells #[.string y.a.n,.slice ya y.a.ts.length yc,.bool y.neg] 382));have tB:=tA.alloc (.cells #[] 251);have jN:=(hN.turn hT id).turn tA id;have hmB:=hm.turn tB (λ_ _ h=>h) (λ_ _ _ h=>h);have hTB:=hT.trans tB;have hown:=hm.own;obtain⟨f,hf⟩: ∃f,f=dc ns r.body k:=⟨_,rfl⟩;rw[←hf]at hm hmB jy;have HF:at3 (f=dc ns r.body k):=hf;clear hf;obtain⟨v0,v1,v2,_,_,_⟩:=bI (bq wr (.cells #[.string y.a.n,.slice ya y.a.ts.length yc,.bool y.neg] 382) (.cells #[] 251));obtain⟨⟨yn,yt⟩,neg⟩:=y;dsimp only at*;cases dC:gP ns yn with
   |false=>
    have xW:au (aU ns) yn=none:=by rw[cA,if_neg (by rw[dC];simp)]
    have HI:at3 (FA ns ⟨⟨yn,yt⟩,neg⟩=false):=by show _=_;unfold FA;rw[dC];rfl
    clear dC;go_wp2_with (at_lookup;refine aZ cI Tryz.underlying249 bT rfl (.tmp 19) (.tmp 22) rfl rfl (aD _) jN.hp rfl qG xW ?_);go_roundw
    case rel=>exact⟨k+1,by omega,by go_num,hTB,by have:=hTB.size;simp;omega,by rw[HS.out,HI.out,if_neg aI,←HF.out];exact hmB⟩
    case measure=>simp[intOf];omega
   |true=>
    have xW:au (aU ns) yn=some ():=by rw[cA,if_pos dC]
    have HI:at3 (FA ns ⟨⟨yn,yt⟩,neg⟩= !neg):=by show _=_;unfold FA;rw[dC];rfl
    clear dC;cases neg with
    |true=>
     go_wp2_with (at_lookup;refine aP cI Tryz.underlying249 bT rfl (.tmp 19) (.tmp 22) rfl rfl (aD _) jN.hp rfl qG xW ?_);go_roundw
     case rel=>exact⟨k+1,by omega,by go_num,hTB,by simp;omega,by rw[HS.out,HI.out,if_neg aI,←HF.out];exact hmB⟩
     case measure=>simp[intOf];omega
    |false=>
     go_wp2_with (first|(at_lookup;refine aP cI Tryz.underlying249 bT rfl (.tmp 19) (.tmp 22) rfl rfl (aD _) jN.hp rfl qG xW ?_)|(at_builtin;refine di agQ rfl (.tmp 32) (.tmp 34) rfl hmB rfl k #[.int .i64 k] rfl rfl (by simp[atv]) rfl bz aj aj lq ?_;intro g4 lK w6 gQ bH));go_roundw
     case rel=>exact⟨k+1,by omega,by go_num,hTB.bL bH (λb hb=> .inl (by have:=(hmB.own b hb).1;omega)),by have:=bH.size;have:=tB.size;omega,by rw[HS.out,HI.out,if_pos aI,←HF.out];exact gQ⟩
     case measure=>simp[intOf];omega
  ·obtain rfl:k=r.body.length:=by omega
   obtain⟨va,vc,rfl⟩:=hm.shape;go_wp2;go_ret;obtain⟨k',d1,d2,d3,d4⟩:=hm.done λk' hk c x h=>h;exact⟨_,k',rfl,hT,d1,⟨d2,λb o hb=>(d3 b o hb).imp id λh=>by have:=(hm.own b h).1;omega⟩,d4⟩
end Go.Proofs.YtkdljbnllgpfhaaGreat
end
section
namespace Go.Proofs.YtkdljbnllgpfhaaGreat
open Go Go.RowKit Go.Upr
theorem ag6{w:aly}{p:aad}{fb:Nat}(hM:av w okB cZ cU fb []):
  asP Tryz.prog 365 #[p,.map (some fb)] w λe w'=>e= .returned (.map (some w.heap.size))∧af (λ_=>False) w w'∧av w' okB cZ cU w.heap.size []:=by
 have tV:= @auj Tryz.prog;have hT:=(af.refl (λ_=>False) w).alloc (.map #[] 0);have uQ:=hM.turn hT id;go_enter Tryz.func365,Tryz.ntmps365;go_wp2_with (at_len;refine fQ Tryz.underlying487 rfl (.tmp 11) rfl rfl uQ ?_;dsimp only[auK]);go_ret;exact⟨rfl,hT,av.made⟩
def lD(s:r9)(T:List aS):Ht:=T.foldl (jL s.part.a.ts s.known s.fresh) λ_=> []
theorem Va(s:r9)(T:List aS): ∀k,∀p∈lD s T k,p.2<SU:=IP T _ λ_ _ hp=>nomatch hp
abbrev kP:=Nat×List (eB×Nat)
structure fK(V:Bool→ByteArray→Vw)(w:aly)(N:Nat)(k:Hp)(gb:Nat)(steps:List r9)(st:List (Option (List aS)))(R:Nat→kP):Prop where
 len:st.length=steps.length
 low:N≤gb
 free:k gb=none
 cells:steps≠ []→∃cs,w.heap[gb]? =some (.cells cs 497)∧∀ (i:Nat) s t,steps[i]? =some s→st[i]? =some t→∃aa al ac ta tl tc,
  kG cs (i*11) (.slice aa al ac) s.live s.part.a.n (.slice ta tl tc) s.part.neg (V s.part.side s.part.a.n) s.known s.fresh (t.map λ_=>(R i).1)∧k.list 6 (jX V) (.slice aa al ac) s.asks∧k.list 2 r_ (.slice ta tl tc) s.part.a.ts
 rows: ∀ (i:Nat) s T,steps[i]? =some s→st[i]? =some (some T)→fF w (R i).1 (R i).2 (lD s T)
 own: ∀ (i:Nat) T,st[i]? =some (some T)→N≤(R i).1∧k (R i).1=none∧∀p∈(R i).2,N≤p.2∧k p.2=none
 apart: ∀ (i j:Nat) T U,st[i]? =some (some T)→st[j]? =some (some U)→i≠j→(R i).1≠(R j).1∧(∀p∈(R j).2,p.2≠(R i).1)∧∀p∈(R i).2,∀q∈(R j).2,p.2≠q.2
theorem fK.turn{V:Bool→ByteArray→Vw}{w w':aly}{N:Nat}{k:Hp}{gb:Nat}{steps:List r9}{st:List (Option (List aS))}{R:Nat→kP}{D:Nat→Prop}(h:fK V w N k gb steps st R)(ht:af D w w')(hd: ∀b,N≤b→b<w.heap.size→¬D b):fK V w' N k gb steps st R:=by
 refine⟨h.len,h.low,h.free,λhs=>?_,λi s T hs hT=>?_,h.own,h.apart⟩
 ·obtain⟨cs,h1,h2⟩:=h.cells hs;exact⟨cs,ht.kept h1 (hd _ h.low (atm h1)),h2⟩
 ·have h1:=h.rows i s T hs hT;have h2:=h.own i T hT;exact h1.turn ht (hd _ h2.1 h1.top.lt) λp hp=>hd _ (h2.2.2 p hp).1 (h1.dy p hp).lt
structure dZ(V:Bool→ByteArray→Vw)(w:aly)(N:Nat)(k:Hp)(jb gb:Nat)(J:Jn)(st:List (Option (List aS)))(R:Nat→kP):Prop where
 known:k.In w
 low:N≤jb
 free:k jb=none
 ne:jb≠gb
 top: ∃ha hc fa fc sa sc ga gc,w.heap[jb]? =some (.cells #[.string J.head.n,.slice ha J.head.ts.length hc,.string J.first.n,.slice fa J.first.ts.length fc,.slice sa J.start.length sc,.int .u16 (J.live:Nat),.slice ga J.steps.length gc,.int .i64 (J.cost:Nat)] 479)∧
  k.list 2 r_ (.slice ha J.head.ts.length hc) J.head.ts∧k.list 2 r_ (.slice fa J.first.ts.length fc) J.first.ts∧k.list 6 (jX V) (.slice sa J.start.length sc) J.start∧(J.steps≠ []→ga=some ⟨gb,0,none⟩∧J.steps.length≤gc)
 steps:fK V w N k gb J.steps st R
theorem J9{dS:List (List aad)}{sz:Nat}(h: ∀c∈dS,c.length=sz){i:Nat}{c:List aad}(hi:dS[i]? =some c){j:Nat}(hj:j<sz):dS.flatten[i*sz+j]? =c[j]? :=by
 rw[←List.getElem?_drop,rN h];have hlt:=(apT.1 hi).1;have hc:=(apT.1 hi).2;rw[List.drop_eq_getElem_cons hlt,hc,List.flatten_cons,List.getElem?_append_left (by rw[h c (ann hi)];exact hj)]
theorem gO.run{V:Bool→ByteArray→Vw}{w:aly}{N:Nat}{k:Hp}{jb:Nat}{J:Jn}(h:gO V w N k jb J): ∃gb,dZ V w N k jb gb J (J.steps.map λ_=>none) λ_=>(0,[]):=by
 obtain⟨h1,h2,h3,ha,hc,fa,fc,sa,sc,ga,gc,a1,a2,a3,a4,a5,a6⟩:=h;obtain⟨m1,m2,dS,m3,m4,m5,m6,m7⟩:=a5;have hno: ∀ (i:Nat) (T:List aS),(J.steps.map λ_=>(none:Option (List aS)))[i]? ≠some (some T):=by
  intro i T hT;rw[anr]at hT;cases hs:J.steps[i]? <;>rw[hs]at hT<;>cases hT
 rcases m7 with⟨m7,m8⟩|⟨g,cap,cur,m7,m8,m9,m10,m11,m12,m13⟩
 ·have hn:J.steps= []:=avo.1 m8;refine⟨jb+N+w.heap.size+1,h1,h2,h3,by omega,⟨ha,hc,fa,fc,sa,sc,ga,gc,a1,a2,a3,a4,λh=>absurd hn h⟩,⟨by simp,by omega,Hp.In.free h1 aj,λh=>absurd hn h,λi s T _ hT=>absurd hT (hno i T),λi T hT=>absurd hT (hno i T),λi j T U hT=>absurd hT (hno i T)⟩⟩
 ·obtain⟨rfl,rfl⟩:ga=some ⟨g,0,none⟩∧gc=cap:=by simpa using m7
  have hgf:k g=none:=by
   cases hk:k g with
   |none=>rfl
   |some ob=>exact absurd rfl (m2 g ob hk)
  refine⟨g,h1,h2,h3,λe=>a6 (by rw[e];rfl),⟨ha,hc,fa,fc,sa,sc,_,_,a1,a2,a3,a4,λ_=>⟨rfl,m10⟩⟩,⟨by simp,m8,hgf,λ_=>⟨cur,m9,λi s t hs ht=>?_⟩,λi s T _ hT=>absurd hT (hno i T),λi T hT=>absurd hT (hno i T),λi j T U hT=>absurd hT (hno i T)⟩⟩;have NA:=(apT.1 hs).1;obtain⟨c,hc⟩: ∃c,dS[i]? =some c:=⟨_,arn aj⟩;obtain⟨v,u,hce,hv,hu⟩:=m5 i c s hc hs;obtain⟨va,vc,rfl⟩:=hv.shape;obtain⟨ua,uc,rfl⟩:=hu.shape;have RR:t=none:=by
   rw[anr,hs]at ht;exact(alN ht).symm
  have pQ: ∀ (j:Nat) x,j<11→c[j]? =some x→cur[i*11+j]? =some x:=by
   intro j x hj hx;have h5:=J9 m4 hc hj;rw[←m13,List.getElem?_take_of_lt aj,hx]at h5;rw[←Array.getElem?_toList];exact h5
  subst hce;refine⟨va,_,vc,ua,_,uc,?_,hv,hu⟩;rw[RR];exact⟨pQ 0 _ aI rfl,pQ 1 _ aI rfl,pQ 2 _ aI rfl,pQ 3 _ aI rfl,pQ 4 _ aI rfl,pQ 5 _ aI rfl,pQ 6 _ aI rfl,pQ 7 _ aI rfl,pQ 8 _ aI rfl,pQ 9 _ aI rfl,pQ 10 _ aI rfl⟩
end Go.Proofs.YtkdljbnllgpfhaaGreat
end
