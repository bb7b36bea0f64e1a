import Derived.Test.YtkdljbnllgpfhaaGreatA3
import Derived.WideKeyEntry
set_option maxRecDepth 100000
set_option maxHeartbeats 8000000
open Go renaming World->ag,Value->aq,Addr->bC,TypeId->bB,Program->bj,Operand->cL,Oper->bG,undef->aj,Act->bK,Exit->kh
open Go.Value renaming slice->oD,cells->tT,oneCell'->eP,string->cr,map->AH
open Go.Instr renaming mapUpdate->rX,mapEntry->zQ,entryStore->zR,next->Dh
open Option renaming map->Qu,getD->RH,isSome->RI
open Go.Builtin renaming zeroCells->qd
open Array renaming replicate->ml
open Go.Region renaming wanted->cV,ready->er,noSelect->uV
open Go.Code renaming region->bH
open List renaming length_nil->JQ,range->iK,Perm->Kr,zipWith->RN
open Go.IntKind renaming u64->se
open Prod renaming fst->bD,snd->js,mk->RO
open Go.Oper renaming wp->jO
open Go.RowKit renaming Hid->ay
open ByteArray renaming empty->iJ
open Go.Result renaming andThen->uX
open Go.Fence renaming wide->mU
open Or renaming inl->IL
namespace Go.Proofs
open Tryz
open Go.RowKit
abbrev Ed:=@Array.ext'
abbrev Ko:=@Go.ChangeMaps.modify_eq_set
abbrev Kp:=@List.flatMap_cons
abbrev Kq:=@List.range_succ
abbrev RJ:=@Nat.lt_succ_iff_lt_or_eq
abbrev AK:=@List.getElem?_set_ne
abbrev RL:=@List.set_eq_of_length_le
abbrev sj:=@Option.toList_some
abbrev RM:=@List.getElem?_zip_eq_some
abbrev AL:=@List.map_map
variable{F e1:Type}{d5:Array Bool}{A:Array aq}{d6:Array bG}{d7 x:bS}{d3:Bool}{K:Bool->ByteArray->Seen}{e:Bool->ByteArray->fT}{n:ByteArray}{N b3 b7 f3 f4 f5:ByteArray->List aC}{p:bk}{e2:F->Prop}{e3:F->aq}{c d2:ai}{b8:ai->List aq->F->Prop}{a0:List ByteArray}{L:List bk}{P:List F}{d8:List aq}{t:List bG}{e5 h:List cO}{M:List dP}{J b5 k:List aC}{e6 f r:List _}{b d d4 e7 e8 f0 j y:Nat}{b9:Nat->Prop}{a7 d1 w:Option Nat}{a8 l:Option bC}{W a f1:ag}{b6 f6 q:aq}{a6 f7:aq->Prop}{a9 d9:bB}{X:bj}{Q:bG}{u:bK}{e0:bK->ag->Prop}{z:kh->bK->ag->Prop}{s:cO}{e4:e1->aq}
section
section
open Go.WideElems Go.ChangeShapes
open Go.ChangeMaps (setBlock)
variable{P:bj}{kt et t:bB}{κ ν:Type}{key:κ->aq}{ok:κ->Prop}{enc:ν->aq}[DecidableEq κ]
def EB(P:bj)(t:bB)(w:ag)(ok:κ->Prop)(key:κ->aq)(enc:ν->aq)(b:Nat)(f:List (κ×ν))(x:κ)(st:Nat):Prop:=
 ∀w2:ag,w2.1[b]?=w.1[b]? ->∀v,∃c a,(zR t (.map (some b)) (goInt st) (enc v)).run P w2=.ok () (setBlock w2 b (.map c a))∧Holds ok key enc c a (cK f x v)
theorem aca{w:ag}{b:Nat}{h:List _}{x:κ}(K:gO P kt key ok)(o:P.underlying t=some (.map kt et)){f:ν}(G:∀w,(zeroValue et).run P w=.ok (enc f) w)(H:aF w ok key enc b h)(i:ok x):
  ∃(st:Nat)(e:ag),(zQ t (.map<|some b)<|key x).run P w=.ok (.tuple #[enc<|(aB h x).getD f,goInt st]) e∧ae (·=b) w e∧aF e ok key enc b (if(aB h x).isSome then h else h++ [(x,f)])∧EB P t e ok key enc b h x st:=by
 obtain⟨c,d,a,n⟩:=H;obtain⟨q,C,g⟩|⟨j,g,u,q,r,u,k,F⟩:=n.B K w i;have s:=Cb.2 λk=>by
  obtain⟨A,m,p⟩:=ei.1 k;exact C A m p
 have m:∀v,Holds _ _ _ _ _<|cK h x v:=λv=>by
  obtain⟨E,D,p,y⟩:=n.O K w i v a o;have z:(rX t (.map<|some b) (key x)<|enc v).run P w=.ok () (setBlock w b<|.map (c.push ⟨key x,enc v,d⟩)<|d+1):=by
   simp[rX,pA o,rG a,K.2 w false x i,q,uW _ a,setBlock]
  rw[z]at p;have k:=congrArg (λB:Result Unit=>match B with| .ok _ e=>e.1[b]? | .halt _ e=>e.1[b]?) p;simp only at k;rw[nz a,nz a]at k;cases k;exact y
 refine⟨d,setBlock w b<|.map (c.push ⟨key x,enc f,d⟩)<|d+1,?_,rk w b _,?_,?_⟩;rw[s];simp[zQ,pA o,rG a,K.2 w _ x i,q,G,uW _ a,setBlock];rw[s,if_neg af];have:=m f;have H:cK h x f=h++ [(x,f)]:=by
  unfold cK;rw[if_neg];intro h;obtain⟨A,m,G⟩:=rF.1 h;exact C A m<|aV G
 rw[H]at this;exact⟨_,_,nz a,this⟩;intro w2 h v;rw[nz a]at h;refine⟨_,_,?_,m v⟩;have A:(c.push ⟨key x,enc f,d⟩).findIdx? (λg=>((g.3:Nat):Int)== ((d:Nat):Int))=some c.size:=by
  rw[findIdx_arr];exact findIdx_born (l:=(c.push ⟨key x,enc f,d⟩).1) (j:=c) (e0:=⟨key x,enc f,d⟩) (m f).4 af
 have m:(c.push ⟨key x,enc f,d⟩).modify c (λg=>{g with val:=enc v})=c.push ⟨key x,enc v,d⟩:=aJ
 simp[zR,rG h,asInt,asIntOf,goInt,A,m,uW _ h,setBlock];have C:c[j]?=some g:=aJ
 have s:=(Cc n.3).2<|cA F;have f:c.modify j (λg=>{g with key:=key x})=c:=by
  apply Ed;rw[Dx,Ko _ _ _ _ r];have:({g with key:=key x}:MapEntry)=g:=xM u;rw[this];exact WideElems.set_self _ _ _ r
 refine⟨g.3,setBlock w b<|.map c d,?_,rk w b _,?_,?_⟩;rw[s];simp[zQ,pA o,rG a,K.2 w _ x i,q,C,u,K.4 w x i,f,uW _ a,setBlock];simp[s];exact⟨_,_,nz a,n⟩;intro w2 h v;rw[nz a]at h;obtain⟨E,D,p,y⟩:=n.O K w i v a o;have z:(rX t (.map<|some b) (key x)<|enc v).run P w=.ok () (setBlock w b<|.map (c.modify j λf=>{f with key:=key x,val:=enc v}) d):=by
  simp[rX,pA o,rG a,K.2 w false x i,q,C,u,K.4 w x i,uW _ a,uX,setBlock]
 rw[z]at p;have k:=congrArg (λB:Result Unit=>match B with| .ok _ e=>e.1[b]? | .halt _ e=>e.1[b]?) p;dsimp only at k;rw[nz a,nz a]at k;cases k;refine⟨_,_,?_,y⟩;have A:c.findIdx? (λf=>((f.3:Nat):Int)== ((g.3:Nat):Int))=some j:=by
  rw[findIdx_arr];exact findIdx_born n.4 r
 have m:c.modify j (λf=>{f with val:=enc v})=c.modify j (λf=>{f with key:=key x,val:=enc v}):=by
  apply Ed;rw[Dx,Dx,Ko _ _ _ _ r,Ko _ _ _ _ r,<-u]
 simp[zR,rG h,asInt,asIntOf,goInt,A,m,uW _ h,uX,setBlock]
section
variable{ops:Array bG}{rest:List bG}{o:bG}{a:bK}{Q:kh->bK->ag->Prop}{w:ag}{b:Nat}{f:List (κ×ν)}{x:κ}
theorem aeq(K:gO P kt key ok)(l:P.underlying t=some (.map kt et)){d:ν}(p:∀w,(zeroValue et).run P w=.ok (enc d) w)(e:cV o (yielded ops a.1)=true)(m y:cL)(k:o.2=.mapEntry t m y)(j:a.eval m=.map (some b))(H:aF w ok key enc b f)
  (n:a.eval y=key x) (m:ok x) (i:∀(st:Nat)(c:ag),ae (·=b) w c->aF c ok key enc b (if(aB f x).isSome then f else f++ [(x,d)])->EB P t c ok key enc b f x st->wpList P ops Q rest (a.put o.1<|.tuple #[enc<|(aB f x).getD d,.int .i64 st]) c):wpList P ops Q (o::rest) a w:=by
 refine wpList_want e λd h=>?_;obtain⟨st,c,c,d,e,g⟩:=aca K l p H m;unfold jO;simp[execOp,k,j,n,c];exact h _ _<|i _ _ d e g
theorem aeo{w1:ag}{st:Nat}{v:ν}(d:cV o (yielded ops a.1)=true)(m y u:cL)(l:o.2=.entryStore t m y u)(k:a.eval m=.map (some b))(n:a.eval y=.int .i64 st)(m:a.eval u=enc v)(H:EB P t w1 ok key enc b f x st)(i:w.1[b]?=w1.1[b]?)
  (c:b<w.1.size) (j:∀c,ae (·=b) w c->aF c ok key enc b (cK f x v)->wpList P ops Q rest (a.put o.1 aj) c):wpList P ops Q (o::rest) a w:=by
 refine wpList_want d λc h=>?_;obtain⟨d,c,e,g⟩:=H w i v;have i:∃c,w.1[b]?=some c:=aJ;obtain⟨c,c⟩:=i;unfold jO;have i:a.eval y=goInt _:=n;simp[execOp,l,k,i,m,e];exact h _ _<|j _ (rk w b _) ⟨d,_,nz c,g⟩
end
section
variable{ops:Array bG}{C:ag->Prop}{fx:Nat->Bool}{Q:bK->ag->Prop}{k:Nat}{o:bG}{rest:List bG}{a:bK}{w:ag}{y:κ}
theorem XH(K:gO P kt key ok)(i:P.underlying t=some (.map kt et))(n:∀w,(zeroValue et).run P w=.ok q w)(e:fx k=false)(b:cV o (yielded ops a.1)=true)(m x:cL)(c:o.2=.lookup t m x false)(g:a.eval m=b6)
   (H:∀w,C w->∃f,ai.map (λd=>w.1[d]?) ok key enc b6 f∧(aB f y).elim q enc=f6) (j:a.eval x=key y) (l:ok y) (h:gI P ops C fx Q (k+1) rest (a.put o.1 f6) w):gI P ops C fx Q k (o::rest) a w:=by
 refine gg e (dh c) b λd d=>Gu (λw b=>?_)<|d _ h;obtain⟨f,d,e⟩:=H w b;simp[execOp,c,g,j,(GL K i (n w) (bU w) d l _),e]
end
section
variable{l n:Nat}{a:bK}{w:ag}
theorem BS{c:List bG}(d:c.toArray.all mI=true)
  (h:∀K:bK->ag->Prop,(∀a w,z .normal a w->K a w)->wpList P c.toArray (Exit.then K λ_ _ _=>False) c a w):
  (bH b c.toArray false).wpIn (mU.inRound l) n P z a w:=by
 refine IK (Q:=Exit.then (λa w=>z .normal a w) λ_ _ _=>False) (wpIn_region ?_) ?_;rw[List.range_eq_range',<-rY];apply Gj (ro:=some l) d _ _ _;rw[wpOps_eq_wpList _ 0 af];exact h _ af;intro e a w h;cases e<;>first|exact h|exact h.elim
theorem X9{c:List bG}(C:ag->Prop)(fx:Nat->Bool)(g:P.follows .mixedOrders=true)(f:c.toArray.all mI=true)(d:uh .any c.toArray fx=true)(e:C w.drew)
  (h:∀K:bK->ag->Prop,(∀a w,z .normal a w->K a w)->gI P c.toArray C fx K 0 c a w.drew):
  (bH b c.toArray true).wpIn (mU.inRound l) n P z a w:=by
 refine IK (Q:=Exit.then (λa w=>z .normal a w) λ_ _ _=>False) (wpIn_region_draw λt=>?_) ?_;apply Gj (ro:=some l) f _ _ _;simp[g];apply wpAny_sound _ t _ _ _;simp[uh]at d;have f:Shut .any c.toArray<|ml c.toArray false:=λi o _ h=>by simp[Io]at h;grind
 exact uG (fx:=fx) (C:=C) (Q:=λc c=>Exit.then _ _ _ _ _) (λ_ _ h=>h) _ _ _ _ ⟨aa,.inl e⟩ (Dc (C:=C) d.1 _ 0 _ a _ af (aV d.2) ⟨aa,.inl e⟩ (h _ λ_ _ h=>h));intro e a w h;cases e<;>first|exact h|exact h.elim
theorem Ya{d:List bG}(C:ag->Prop)(e:Nat->Bool)(k:P.follows .mixedOrders=true)(j:d.toArray.all mI=true)(i:uh .any d.toArray e=true)(f:C w.drew)
  (h:∀K:bK->ag->Prop,(∀a w,z .normal a w->K a w)->∀(S:Type)(g:S->ag),Nonempty S->(∀x,C<|g x)->(∀c,C c->∃x,c=g x)->gI P d.toArray (λc=>∃x,c=g x) e K 0 d a w.drew):
  (bH b d.toArray true).wpIn (mU.inRound l) n P z a w:=
 X9 (λc=>∃x:{c//C c},c=x.1) e k j i ⟨⟨_,f⟩,rfl⟩ λK d=>h K d {c//C c} (λx=>x.1) ⟨⟨_,f⟩⟩ (λx=>x.2) λc d=>⟨⟨c,d⟩,rfl⟩
end
end
section
open Go.ChangeMaps (setBlock)
variable{P:bj}{kt et t:bB}{κ ν:Type}{key:κ->aq}{ok:κ->Prop}{enc:ν->aq}
theorem uv(h:a.1[b]?=some (.cells #[q] a9)):a.cell? ⟨b,0,none⟩=some q:=(cI a b 0 _ a9 (0,0) h).trans rfl
def iy(w:ag)(ok:κ->Prop)(key:κ->aq)(enc:ν->aq)(v:aq)(it:Nat)(f came:List (κ×ν)):Prop:=
 (v=.map none∧f= []∧came= []∧w.1[it]?=some (.mapIter none 0 #[] 0))∨∃b,v=.map (some b)∧b≠it∧fA w ok key enc b it f came
theorem iy.B{w w':ag}{v:aq}{f came:List _}{D:Nat->Prop}(h:iy w ok key enc v b f came)(g:ae D w w')(k:∀a,v= (some a)->¬D a)(e: ¬D b):iy w' ok key enc v b f came:=by
 obtain⟨i,c,d,j⟩|⟨a,rfl,c,d⟩:=h;exact .inl ⟨i,c,d,g.O j e⟩;exact .inr ⟨a,rfl,c,d.B g (k a rfl) e⟩
theorem iy.O{w:World}{v:Value}{it:Nat}{f came:List _}(h:iy w ok key enc v it f came):∃m s x c,w.1[it]?=some (.mapIter m s x c):=by
 obtain⟨_,_,_,h⟩|⟨b,_,_,d,a,e,ce,_,_,h,_⟩:=h;grind;grind
theorem iy.I{w:ag}{v:aq}{it:Nat}{f came:List _}(h:iy w ok key enc v it f came):(∀p∈came,p∈f)∧(came.map bD).Nodup∧(∀p∈came,ok p.1)∧came<=f.length:=by
 obtain⟨_,rfl,rfl,_⟩|⟨b,_,_,h⟩:=h;simp;exact⟨h.I.1,h.I.2.1,h.I.2.2,h.U⟩
section
variable{ops:Array bG}{rest:List bG}{o:bG}{a:bK}{Q:kh->bK->ag->Prop}{w:ag}{v:aq}{f:List (κ×ν)}
theorem uK(j:P.underlying t=some (.map kt et))(e:cV o (yielded ops a.1)=true)(m:cL)(i:o.2=.range t m)(h:a.eval m=v)(H:ai.map (λc=>w.1[c]?) ok key enc v f)
  (g:∀b,au w b->b.1.size=w.1.size+1->iy b ok key enc v w.1.size f []->wpList P ops Q rest (a.put o.1<|.pointer<|some ⟨w.1.size,0,none⟩) b):wpList P ops Q (o::rest) a w:=by
 obtain⟨rfl,rfl⟩|⟨c,k,d,rfl,d,l⟩:=H;refine wpList_want e λn n=>?_;unfold jO;simp[execOp,i,h,run_range_nilMap w t _ _ j];exact n _ _<|g _ ae.al af<|.inl ⟨rfl,rfl,rfl,cz w _⟩;exact lY j e m i h ⟨k,_,d,l⟩ λb b e h=>g _ b e<|.inr ⟨c,rfl,λe=>aI<|aP d,h⟩
theorem uJ(K:gO P kt key ok)(g:cV o (yielded ops a.1)=true)(m:cL)(i:o.2=.next m false)(h:a.eval m=.pointer (some ⟨b,0,none⟩)){came:List (κ×ν)}(H:iy w ok key enc v b f came)
  (s:(∀p∈f,p∈came)->wpList P ops Q rest (a.put o.1<|.tuple #[false]) w)
  (u:∀p c,p∈f->p∉came->came.length<f.length->ae (·=b) w c->iy c ok key enc v b f (came++ [p])->wpList P ops Q rest (a.put o.1<|.tuple #[true,key p.1,enc p.2]) c):wpList P ops Q (o::rest) a w:=by
 obtain⟨rfl,rfl,rfl,d⟩|⟨j,rfl,e,k⟩:=H;refine wpList_want g λy t=>?_;have x:(Dh (b) false o.3).run P w=.ok (.tuple #[false]) w:=by
  simp only[Dh,getObj,Ih,Sem.run,d];rfl
 unfold jO;simp[execOp,i,h,x];exact t _ _<|s af;exact lX K g m i h k e aa λp c l n q d r=>u p _ l n q d<|.inr ⟨j,rfl,e,r⟩
theorem uI(c:cV o (yielded ops a.1)=true)(m:cL)(g:o.2=.entry m)(e:a.eval m=.pointer (some ⟨b,0,none⟩)){came:List (κ×ν)}{p:κ×ν}(H:iy w ok key enc v b f<|came++ [p])
  (d:wpList P ops Q rest (a.put o.1<|.tuple #[key p.1,enc p.2]) w):wpList P ops Q (o::rest) a w:=by
 obtain⟨_,_,h,_⟩|⟨i,_,_,h⟩:=H;simp at h;exact lx c m g e h d
end
end
theorem Lt(m:Option Nat)(w:ag):aH 160 #[m] w λe a=>e=.returned (.func (.func 221) #[] #[w.1])∧a=w.alloc (.cells #[m] 123):=by
 go_enter func160,ntmps160;go_wp2;go_ret;simp_all
theorem U0(a b c:Option Nat)(w:ag):aH 375 #[.agg #[a,b,c]] w λe d=>e=.returned (.func (.func 381) #[] #[w.1])∧d=w.alloc (.cells #[a,b,c] 491):=by
 go_enter func375,ntmps375;go_wp2;go_ret;simp_all
theorem lR{p:aC×Unit}:p∈aR k↔p.1∈k:=by
 obtain⟨t,u⟩:=p;simp[aR]
def eQ(l a:List F):Prop:=(∀x∈l,x∈a)∧(∀x∈a,x∈l)∧a.Nodup
theorem M7{ob:Obj->Bool}(I:a.1[b]?=some (.cells #[w] 123))(H:ai.map (λc=>a.1[c]?) bF bh bX (.map w)<|aR k)(b7:∀n a2 x F,ob (.mapIter n a2 x F)=false:=by intro _ _ _ _;rfl):
  zX ob Tryz.prog 221 #[b] (λt=> #[bh t]) (eQ k) bF k.length (λc=>c=b∨w=some c) a:=by
 intro a0 J W q o O T;have b5:(aR k)=k.length:=by simp[aR]
 have f:=q.O I id;have E:=ai.B H q;have r:=aP f;have ax:=uv f;go_enter func221,ntmps221;go_wp2_with (at_range;refine uK (v:=.map w) underlying123 rfl (.tmp 4) rfl rfl E ?_;intro w1 C b8 N);have kW:=o _ _ _ T C.Z
 go_loopg [] (aR k).length (λgk wr=>∃came:List<|aC×Unit,came.length+gk=(aR k).length∧J (came.map bD) wr∧wr.1[b]?=some (.cells #[w] 123)∧W.1.size<wr.1.size∧iy wr bF bh bX (.map w) W.1.size (aR k) came)
 case atStart=>exact⟨[],af,kW,(C.O f id),aa,N⟩
 case round=>
  obtain⟨came,b4,s,K,b9,h⟩:=hrel;go_wp2_with (at_next;refine uJ iQ rfl (.tmp 5) rfl rfl h ?_ ?_)
  ·intro R;have S:∀t∈k,t∈came.map bD:=λt l=>ei.2 ⟨(t,()),R _ _ _ _<|lR.2 l,rfl⟩;go_wp2;go_end0;have B:=h.I
   exact⟨⟨_,rfl⟩,_,⟨S,λt l=>by
    obtain⟨a1,V,rfl⟩:=ei.1 l
    exact lR.1<|B.1 a1 V,B.2.1⟩,s⟩
  ·intro x y z a3 w2 _ _ b6 m i;obtain⟨n,rfl⟩:=jX gk;obtain⟨c3,c4,aK,c2,P⟩:=h.O;have ig:=o _ _ (w2.alloc<|.cells #[.int .u64 x,.int .u64 y,.int .u64 z] 116) s<|(m.cW λc _ (r:c=W)=>⟨aa,by subst r;exact⟨_,P,rfl⟩⟩).I _;have L:=m.O K aa;have c1:=m.4;have p:=i.B (D:=λ_=>False) ((ae.T _ _).I<|.cells #[.int .u64 x,.int .u64 y,.int .u64 z] 116) i2 id;have M:=(ae.T bE _).I (.cells #[.int .u64 x,.int .u64 y,.int .u64 z] 116) |>.O L id;have Q:(came.map bD).length<k:=aJ
   have Y:=O _ (x,y,z) _ ig Q<|i.I.2.2.1 ((x,y,z),a3) af;go_wp2_with (refine uI rfl (.tmp 5) rfl rfl i ?_;dsimp only[bh];rename_i e;replace e:ay _:=e);refine e.out _ _<|Hc (id:=3) [_,_] _ _ rfl ah ah ah ?_;intro a6 g;replace g:ay _:=g;go_wp2;refine g.out _ _ a0 _ rfl ?_<|YieldAt.B Y ?_
   ·intro a9 tm a7 iA A;unfold bh at A;simp[go_sem,A]
   ·rintro a8 a4 ⟨rfl,b1,j⟩;refine⟨rfl,λa5 b2=>?_⟩
    have b3:=p.B j (λc U ⟨G,_⟩=>G<|.inr<|aV U) (by
     rintro⟨_,c6,u,d⟩;obtain⟨_,_,_,_,X⟩:=p.O;rw[X]at u;cases u
     obtain d|d:=d;grind;cases d)
    have b0:=j.O M aa;have Z:=j.4;simp at Z;go_wp2
    go_roundg n
    case measure=>omega
    grind
theorem ai.U{v:aq}(h:ai.map (λb=>a.1[b]?) e2 e3 e4 v f)(j:ae b9 a W)(i:∀b,v= (some b)->¬b9 b):ai.map (λb=>W.1[b]?) e2 e3 e4 v f:=by
 obtain h|⟨b,d,c,c,e,g⟩:=h;exact .inl h;exact .inr ⟨b,d,_,c,j.O e<|i b c,g⟩
theorem rS.B{A:ag}{m:Option Nat}{x:Array Nat}{c:Nat}(h:A.1[b]?=some (.mapIter m d x c)): ¬rS Cs b9 A b:=by
 rintro⟨_,q,e,a⟩;rw[h]at e;cases e;rcases a with a|a<;>cases a
def hh(a b:List aC):List aC:=a.filter λt=> !bL b t
theorem Y7(a:List aC)(l:List aC)(t:aC):hh (l++ [t]) a=if bL a t then hh l a else hh l a++ [t]:=by
 unfold hh;grind
theorem Nv(l a:List aC):(hh l a)<=l.length:=pK _ _
theorem eQ.B(h:eQ k J)(a:List aC):eQ (hh k a)<|hh J a:=by
 unfold hh;refine⟨λx a=>?_,λx a=>?_,h.2.2.filter _⟩;rw[qu]at a⊢;exact⟨h.1 x a.1,a.2⟩;rw[qu]at a⊢;exact⟨h.2.1 x a.1,a.2⟩
def sx(a b c d:List aC):Prop:=∃y z,d=y++z∧eQ (hh a b) y∧eQ c z
theorem Ye(d4:a.1[b]?=some (.cells #[a7,d1,w] 491))(a0:ai.map (λc=>a.1[c]?) bF bh bX a7<|aR J)(a1:ai.map (λc=>a.1[c]?) bF bh bX d1<|aR k)(a3:ai.map (λc=>a.1[c]?) bF bh bX w<|aR b5):
  zX Cs Tryz.prog 381 #[b] (λt=> #[bh t]) (sx J k b5) bF (J+b5) (λc=>c=b∨a7=some c∨d1=some c∨w=some c) a:=by
 intro G d3 W B o d9 g9;have i7:(aR J).length=J.length:=by simp[aR]
 have i8:(aR b5).length=b5.length:=by simp[aR]
 have a8:=B.O d4 id;replace a0:=ai.B a0 B;replace a1:=ai.B a1 B;replace a3:=ai.B a3 B;clear d4 B;have C:=aP a8;have g8:=bq a8;obtain⟨ax,c1,c2,_⟩:=g8;go_enter func381,ntmps381;go_wp2_with (at_range;refine uK (v:=.map a7) underlying123 rfl (.tmp 6) rfl rfl a0 ?_;intro w1 U i9 d8);have kW:=o _ _ _ g9 U.Z;have d5:=U.O a8 id;have c8:=ai.B a1 U;have c9:=ai.B a3 U;clear ax c1 c2
 go_loopg [] (aR J).length (λgk wr=>∃came:List<|aC×Unit,came.length+gk=(aR J).length∧d3 (hh (came.map bD) k) wr∧wr.1[b]?=some (.cells #[a7,d1,w] 491)∧W.1.size<wr.1.size∧iy wr bF bh bX (.map a7) W.1.size (aR J) came∧ai.map (λc=>wr.1[c]?) bF bh bX (.map d1) (aR k)∧ai.map (λc=>wr.1[c]?) bF bh bX (.map w) (aR b5))
 case atStart=>exact⟨[],af,kW,d5,aa,d8,c8,c9⟩
 case round=>
  clear d8 kW c8 c9 d5;obtain⟨came,i4,S,M,h2,N,a2,K⟩:=hrel;obtain⟨d0,f8,f9,_⟩:=bq M;go_wp2_with (at_next;refine uJ iQ rfl (.tmp 7) rfl rfl N ?_ ?_)
  ·intro b1;have b2:∀t∈J,t∈came.map bD:=λt m=>ei.2 ⟨(t,()),b1 _ _ _ _<|lR.2 m,rfl⟩;have F:=N.I
   have h1:eQ J<|came.map bD:=⟨b2,λt m=>by
    obtain⟨c3,b6,rfl⟩:=ei.1 m
    exact lR.1<|F.1 c3 b6,F.2.1⟩
   have e3:=h1.B k;have e1:=Nv (came.map bD) k;rw[di]at e1;generalize hh (came.map bD) k=c7 at e3 S e1;go_wp2_with (at_range;refine uK (v:=.map w) underlying123 rfl (.tmp 24) rfl rfl K ?_;intro w4 e4 e6 O);have i6:=o _ _ _ S e4.Z;have g:=e4.O M id;go_frame;generalize wr.1.size=b8 at h2 e6 O⊢
   go_loopg [] (aR b5).length (λgk Z=>∃n:List<|aC×Unit,n.length+gk=(aR b5).length∧d3 (c7++n.map bD) Z∧Z.1[b]?=some (.cells #[a7,d1,w] 491)∧b8<Z.1.size∧iy Z bF bh bX (.map w) b8 (aR b5) n)
   grind
   case round=>
    obtain⟨n,i5,e0,g4,j0,a9⟩:=hrel;go_wp2_with (at_next;refine uJ iQ rfl (.tmp 25) rfl rfl a9 ?_ ?_)
    ·intro b1;have b2:∀t∈b5,t∈n.map bD:=λt m=>ei.2 ⟨(t,()),b1 _ _ _ _<|lR.2 m,rfl⟩;go_wp2;go_end0;have F:=a9.I
     exact⟨⟨_,rfl⟩,_,⟨c7,_,rfl,e3,b2,λt m=>by
      obtain⟨c3,b6,rfl⟩:=ei.1 m
      exact lR.1<|F.1 c3 b6,F.2.1⟩,e0⟩
    ·intro x y z u w2 _ _ h0 q i;obtain⟨X,rfl⟩:=jX gk;obtain⟨h4,h5,h6,h3,P⟩:=a9.O;have ig:=o _ _ (w2.alloc<|.cells #[.int .u64 x,.int .u64 y,.int .u64 z] 116) e0<|(q.cW λc _ (C:c=b8)=>⟨aa,by subst C;exact⟨_,P,rfl⟩⟩).I _;have g:=q.O g4 aa;have j1:=q.4;have p:=i.B (D:=λ_=>False) ((ae.T _ _).I<|.cells #[.int .u64 x,.int .u64 y,.int .u64 z] 116) i2 id;have g5:=(ae.T bE _).I (.cells #[.int .u64 x,.int .u64 y,.int .u64 z] 116) |>.O g id;have b0:(c7++n.map bD).length<J+b5:=aJ
     have b7:=d9 _ (x,y,z) _ ig b0<|i.I.2.2.1 ((x,y,z),u) af;go_wp2_with (refine uI rfl (.tmp 25) rfl rfl i ?_;dsimp only[bh];rename_i f;replace f:ay _:=f);refine f.out _ _<|Hc (id:=7) [_,_] _ _ rfl ah ah ah ?_;intro f6 j;replace j:ay _:=j;go_wp2;refine j.out _ _ G _ rfl ?_<|YieldAt.B b7 ?_
     ·intro g3 tm f7 iA E;unfold bh at E;simp[execOp,go_sem,E]
     ·rintro a6 f2 ⟨rfl,d7,e⟩;refine⟨rfl,λf5 g7=>?_⟩;obtain⟨_,_,_,_,T⟩:=p.O;have O:=p.B e (λc l ⟨h,_⟩=>h<|.inr<|.inr<|.inr<|aV l)<|rS.B T;have s:=e.O g5 aa;have e7:=e.4;go_wp2
      go_roundg X
      case measure=>omega
      grind
  ·intro x y z u w2 _ _ h0 q i;obtain⟨X,rfl⟩:=jX gk;obtain⟨h4,h5,h6,h3,P⟩:=N.O;have e2:=i.I.2.2.1 ((x,y,z),u) af;obtain⟨Y,V,-,d6,-⟩:=df w2<|.cells #[.int .u64 x,.int .u64 y,.int .u64 z] 116;have r:ae (·=W.1.size) wr Y:=aw V<|q.I _
   have e5:au w2 Y:=aw V ae.al
   have ig:=o _ _ Y S<|r.cW λc _ (C:c=W.1.size)=>⟨aa,by subst C;exact⟨_,P,rfl⟩⟩;have g:=r.O M aa;have e6:=r.4;have p:=i.B e5 i2 id;have b4:∀ {b9:Option Nat} {G:List aC},ai.map (λc=>wr.1[c]?) bF bh bX (.map b9) (aR G)->∀c,AH b9=.map (some c)->¬c=W.1.size:=by
    intro b9 G h c C i1;obtain⟨h,_⟩|⟨h7,h9,h8,h,i0,_⟩:=h
    ·grind
    ·grind
   have H:=ai.U a2 r<|b4 a2;have a4:=ai.U K r<|b4 K;have b0:(hh (came.map bD) k).length<J.length+b5.length:=by
    have:=Nv (came.map bD) k;rw[di]at this;omega
   have d2:ay<|hh ((came++ [((x,y,z),u)]).map bD) k=if bL k (x,y,z)then hh (came.map bD) k else hh (came.map bD) k++ [(x,y,z)]:=by
    show _=_;rw[iL];exact Y7 _ _ _
   obtain⟨g0,g1,g2,_⟩:=bq g
   obtain⟨c4,aK,c6,_⟩:=bq d6;have i3:=aP g;clear d0 f8 f9 b4 S a2 K M;clear r e5;go_wp2_with (refine uI rfl (.tmp 7) rfl rfl i ?_;dsimp only[bh];rename_i f;replace f:ay _:=f);rw[<-V];clear V i N q;have Q:=qJ (bU Y) H x y z e2;cases b3:bL k (x,y,z)with
   |true=>
    have a5:ay<|hh ((came++ [((x,y,z),u)]).map bD) k=hh (came.map bD) k:=aJ
    apply f.out _ _;go_wp2_with (go_at_call 144;refine Q.mono ?_;rintro a6 f1 ⟨rfl,d⟩;have e8:=d.Y c4 id;have br:=d.Y aK id;have f0:=d.Y c6 id);have R:=o _ _ _ ig d.Z;have s:=d.O g id;have e7:=d.4;have A:=p.B d i2 id;have I:=ai.B H d;have L:=ai.B a4 d
    go_roundg X
    case measure=>omega
    case rel=>exact⟨_,bQ,aw a5.out R,s,aa,A,I,L⟩
   |false=>
    rw[b3]at Q;have a5:ay<|hh ((came++ [((x,y,z),u)]).map bD) k=hh (came.map bD) k++ [(x,y,z)]:=by show _=_;rw[d2.out,if_neg<|cw b3]
    clear d2 b3;refine f.out _ _<|Hc (id:=3) [_,_,_,_,_,_,_,_] _ [_,_] rfl ah ah ah ?_;intro f6 j;replace j:ay _:=j;go_wp2_with (go_at_call 144;refine Q.mono ?_;rintro a6 f1 ⟨rfl,d⟩;have e8:=d.Y c4 id;have br:=d.Y aK id;have f0:=d.Y c6 id);have R:=o _ _ f1 ig d.Z;have b7:=d9 _ (x,y,z) _ R b0 e2;have s:=d.O g id;have e7:=d.4;have A:=p.B d i2 id;have I:=ai.B H d;have L:=ai.B a4 d;clear Q d ig R;refine j.out _ _ G #[bh (x,y,z)] rfl ?_<|YieldAt.B b7 ?_
    ·intro g3 tm f7 iA E;unfold bh at E;simp[execOp,go_sem,E]
    ·rintro a6 f2 ⟨rfl,d7,e⟩;refine⟨rfl,λf5 g7=>?_⟩;obtain⟨_,_,_,_,T⟩:=A.O;have O:=A.B e (λc l ⟨h,_⟩=>h<|.inr<|.inl<|aV l)<|rS.B T;have g6:=e.O s aa;have f3:=ai.U I e λc l ⟨h,_⟩=>h<|.inr<|.inr<|.inl<|aV l;have f4:=ai.U L e λc l ⟨h,_⟩=>h<|.inr<|.inr<|.inr<|aV l;have j2:=e.4;clear p A I L H a4 g s e P T g0 g1 g2 c4 aK c6 e8 br f0 d6;go_wp2
     go_roundg X
     case measure=>omega
     case rel=>exact⟨_,bQ,aw a5.out d7,g6,aa,O,f3,f4⟩
theorem uf:fW Tryz.prog 472 493 6 72:=.B underlying472 (z:=.agg #[iJ,.slice none 0 0,false,.map none,.map none,.map none]) ah rfl aA
structure eX where
 a:kM
 neg:Bool
 deriving DecidableEq
def fM(h:ai)(c:List aq)(l:eX):Prop:=∃v,c= [.string l.a.n,v,.bool l.2]∧h.list 2 dV v l.a.2
variable{H:List eX}{D:eX}
theorem fM.I(H:fM c d8 D):∃a b,d8= [.string D.a.n,.slice a D.a.2 b,.bool D.2]∧c.list 2 dV (.slice a D.a.2 b) D.a.2:=by
 obtain⟨v,d,d⟩:=H;obtain⟨a,b,rfl⟩:=d.I;grind
theorem fM.B{h k:ai}(e:h.le k){c:List aq}(H:fM h c D):fM k c D:=by
 obtain⟨v,a,b⟩:=H;exact⟨v,a,ai.list.B (h:=h) (k:=k) (λ_ _ q=>q) b e⟩
def Gf(l:eX):Prop:=l.a.2.length<=3∧(∀t∈l.a.2,jE t)∧aL l.a.n
def gH(s:Bool)(l:eX):cO:=⟨l.a,l.2,s⟩
theorem aaM(a:H[b]?=some D):(H.take<|b+1).map (gH d3)=(H.take b).map (gH d3)++ [gH d3 D]:=by
 rw[eA,a,iL];rfl
theorem Bt{V:Bool->ByteArray->fT}{s:Bool}(R:c.In a)(X:dD a w f N)(Y:dD a a7 r b3)(Z:dD a d1 e6 b7)(a5:∀t,V s t=(aB f t,aB r t,aB e6 t))
  (a9:c.list 3 fM (.slice l b d) H)(e0:H.length<=16)(b6:∀b9∈H,Gf b9):
  aH 361 #[.slice l b d,.agg #[w,a7,d1]] a λL u=>∃v,L=.returned v∧au a u∧aM u a 493 6 (cF V) c v (H.map<|gH s):=by
 obtain⟨rfl,a8⟩:=a9.O R;obtain⟨W,a6,a4,d3,-⟩:=df a<|.cells #[w,a7,d1] 444
 have d9:aM W (a.1.size+1) 493 6 (cF V) c _<|(H.take 0).map<|gH s:=.m<|R.B a4 i3;go_enter func361,ntmps361;go_wp2_with (rw[<-a6])
 go_loopw [5,10] (λv i wr=>∃(k:Nat),k<=H.length∧i=.int .i64 k∧au a wr∧wr.1[a.1.size]?=some (.cells #[w,a7,d1] 444)∧aM wr (a.1.size+1) 493 6 (cF V) c v ((H.take k).map<|gH s)) (λ_ i _=>H.length-(intOf i).toNat)
 grind
 case round=>
  obtain⟨k,d8,rfl,o,O,p⟩:=hrel;by_cases b2:k<H.length
  ·obtain⟨y,G⟩:∃y,H[k]?=some y:=⟨_,cy b2⟩;obtain⟨U,e3,cc,rfl,d7,a0,d6⟩:=a8 k y G;obtain⟨I,J,rfl,a3⟩:=a0.I;obtain⟨c4,aK,c6⟩:=o.ab aa id;have b8:=b6 y<|cA G;have K:ay<|(H.take<|k+1).map _=(H.take k).map _++ [gH s y]:=aaM G;have b1:((H.take k).map<|gH s).length<=16:=aJ
   generalize(H.take k).map (gH s)=c7 at p b1 K
   have q:=λ(u:ag)(E:au a u)=>UZ (X.I E i2 i2) (Y.I E i2 i2) (Z.I E i2 i2) b8.2.2;have S:ay (∀g h j,g=aB f y.a.n->h=aB r y.a.n->j=aB e6 y.a.n->cF V c [.string y.a.n,.slice I y.a.2 J,.bool y.2,.map g,.map h,.map j] (gH s y)):=by
    rintro g h j rfl rfl rfl;refine⟨_,?_,a3⟩;show _= [_,_,_,AH (V s y.a.n).1,AH (V s y.a.n).2.1,AH (V s y.a.n).2.2];rw[a5];rfl
   have n:=S.out _ _ _ rfl rfl rfl;generalize aB f y.a.n=g at q n;generalize aB r y.a.n=h at q n;generalize aB e6 y.a.n=j at q n;go_wp2;obtain⟨ax,F,A,-⟩:=df wr<|.cells #[.string y.a.n,.slice I y.a.2 J,.bool y.2] 382
   have P:ax.1[wr.1.size]?=some _:=aw F<|cz _ _
   have e1:=aP P;have z:=A.O O id;have d5:=aP z;obtain⟨p0,p1,p2,_,_,_⟩:=bq P;obtain⟨c2,a1,a2,_,_,_⟩:=bq z;rw[<-F];clear F;apply dG (λi=>i==6||i==8||i==9||i==10) ah ah;intro c1 U d4 c9 d0 d2 M;refine aD ?_;refine aD ?_;refine aD ?_;refine aD ?_;refine aD ?_;refine aD ?_
   refine a_ λx e=>?_;go_wp2_with (go_at_call 370;refine(q _<|o.B A.m).mono ?_;rintro L w2 ⟨rfl,b5⟩);have m:=ae.ft b5;apply e _ _ ah (λ_=>M _ m.below);refine aD ?_;have B:=A.B m;have D:=p.I B i2 i3;have e2:=B.4;refine a_ λx e=>?_;go_wp2;apply e _ _ ah (λ_=>M _ (m.I _).below);refine a_ λx e=>?_;refine kI uf rfl (.tmp 14) (.tmp 22) rfl D rfl (gH s y) #[.string y.a.n,.slice I y.a.2.length J,.bool y.2,g,h,j] n rfl (by simp[eP]) rfl rfl aa aa (aI<|aP O) ?_;intro c8 c3 e4 b4 Q _;go_wp2;apply e _ _ ah (cS ah);refine a_ λx e=>?_;go_wp2;apply e _ _ ah (cS ah);apply cR;go_wp2;go_roundw
   case rel=>
    refine⟨k+1,aa,ba,(o.B B).V Q λT C=>.inl<|aI<|(D.B T C).1,Q.O (m.O z id) λC=>?_,aw K.out b4⟩;have:=(D.B _ C).1;omega
   case measure=>simp[intOf];omega
  ·have b0:H.take k=H:=aJ;rw[b0]at p;go_wp2;go_ret;exact⟨_,rfl,o,p.Z<|zw _⟩
def qF(a:Nat)(p:cO):Bool:=decide (c5 p.a.2&&& (65535- a)=0)
def gU(a:Nat)(b:List cO):List cO:=b.filter (qF a)
def e9(a:Nat)(b:List cO):List cO:=b.filter λp=> !qF a p
def mE(a head:Nat)(b:List cO):Nat:=a&&& (head|||mN (e9 a b))
theorem S_(a:h[d]?=some s):gU b (h.take<|d+1)=if qF b s then gU b (h.take d)++ [s]else gU b<|h.take d:=by
 unfold gU;rw[eA,a,D6];grind
theorem abY(a:h[d]?=some s):e9 b (h.take<|d+1)=if qF b s then e9 b (h.take d)else e9 b (h.take d)++ [s]:=by
 unfold e9;rw[eA,a,D6];grind
theorem uu(a:b<4096)(c:d<4096):b|||d<4096:=ID (n:=12) a c
theorem qC{a b:Nat}(c:a<4096):a&&& b<4096:=J0 Nat.and_le_left c
theorem LW(M:c.In a){j:List cO}(e3:c.list 6 (cF e) (.slice l d b) j)(ax:j.length<=16)(c4:∀p∈j,fw p)(g head:Nat)(h2:g<4096)(e6:head<4096):
  aH 371 #[.int .u16 g,.slice l d b,.int .u16 head] a λI P=>∃a1 c1 a2 c2,I=.returned (.tuple #[.agg #[.slice a1 (gU g j) c1,.int .u16 (mE g head j)],.slice a2 (e9 g j) c2])∧au a P∧
   ∃k,k.In P∧ai.Ext a c k∧k.list 6 (cF e) (.slice a1 (gU g j) c1) (gU g j)∧k.list 6 (cF e) (.slice a2 (e9 g j) c2) (e9 g j):=by
 obtain⟨rfl,d8⟩:=e3.O M;have b7:∀i o,c i=some o->i<a.1.size:=λi o f=>M.O f;have b5:au a<|a.alloc<|.cells #[.slice none 0 0,.int .u16 0] 476:=ae.al;have V:=M.B b5 i3;have b9:aM (a.alloc<|.cells #[.slice none 0 0,.int .u16 0] 476) (a.1.size+1) 493 6 (cF e) c (.slice none 0 0)<|gU g<|j.take 0:=.m V;have q:aM (a.alloc<|.cells #[.slice none 0 0,.int .u16 0] 476) (a.1.size+1) 493 6 (cF e) c (.slice none 0 0)<|e9 g<|j.take 0:=.m V;go_enter func371,ntmps371;go_wp2
 go_loopw [8,9,14] (λc8 c9 a0 wr=>∃(k:Nat),k<=j.length∧a0=.int .i64 k∧au a wr∧wr.1[a.1.size]?=some (.cells #[.slice none 0 0,.int .u16 0] 476)∧aM wr (a.1.size+1) 493 6 (cF e) c c8 (gU g<|j.take k)∧aM wr (a.1.size+1) 493 6 (cF e) c c9 (e9 g<|j.take k)∧ay (∀i,c8.ownBlock=some i->c9.ownBlock≠some i)) (λ_ _ a0 _=>j.length-(intOf a0).toNat)
 case atStart=>exact⟨0,aa,rfl,b5,cz _ _,b9,q,λi f=>(nomatch f)⟩
 case round=>
  clear b9 q V;obtain⟨k,L,rfl,E,K,q,u,H⟩:=hrel;have h0:=aP K;by_cases e7:k<j.length
  ·let⟨y,N⟩:∃y,j[k]?=some y:=⟨_,cy e7⟩;obtain⟨g9,o,cc,rfl,h3,T,e2⟩:=d8 k y N;obtain⟨A,B,rfl,d7⟩:=T.I;let⟨g3,g4,g5,g6,g7,g8⟩:=E.am e2 id;have Z:=c4 y<|cA N;have Q:ay<|gU _ _=if qF _ y then gU _ _++ [y]else gU g<|j.take k:=S_ N;have R:ay<|e9 _ _=if qF g y then e9 _ (j.take k)else e9 _ _++ [y]:=abY N;have b8:(gU g<|j.take k).length<=16:=dI (pK _ _)<|dT ix;have W:(e9 g<|j.take k).length<=16:=dI (pK _ _)<|dT ix;generalize gU g (j.take k)=D at q b8 Q;generalize e9 g (j.take k)=S at u W R;have e8:=oB Z.2.1;have t:=λ(P:ag)(f1:au _ P)=>vV (M.B (E.B f1) i3) d7 Z.1 Z.2.1;have b0:ay<|qF g y=decide _:=rfl;generalize c5 y.a.2=c7 at t e8 b0;have e0:=u16_andNot_nat c7 g aa aa;generalize c7&&& (65535- g)=a6 at e0 b0;generalize(e y.3 y.a.n).1=w at*;generalize(e y.3 y.a.n).2.1=x at*;generalize(e y.3 y.a.n).2.2=z at*;by_cases c3:a6=0
   ·have f0:((a6:Int)==0)=true:=aJ
    have C:ay<|qF g y=true:=aJ
    go_wp2_with (first|(go_at_call 322;refine(t _ ae.al).mono ?_;rintro I w2 ⟨rfl,G⟩;have n:au wr w2:=((ae.T _ wr).I<|.cells #[y.a.n,.slice A y.a.2.length B,y.2,w,x,z] 493).B G;have m:=G.O (cz wr<|.cells #[y.a.n,.slice A y.a.2.length B,y.2,w,x,z] 493) id;have f5:=(cI _ _ 0 _ 493 (0,0) m).trans rfl;have f6:=(cI _ _ 1 _ 493 (0,0) m).trans rfl;have f7:=(cI _ _ 2 _ 493 (0,0) m).trans rfl;have f8:=(cI _ _ 3 _ 493 (0,0) m).trans rfl;have f9:=(cI _ _ 4 _ 493 (0,0) m).trans rfl;have g0:=(cI _ _ 5 _ 493 (0,0) m).trans rfl;have s:=q.I n i2 i3;have F:=u.I n i2 i3;have f3:=n.4)|(at_builtin;refine kI uf rfl (.tmp 25) (.tmp 27) rfl s rfl y #[y.a.n,.slice A y.a.2.length B,y.2,w,x,z] T rfl (by simp[eP]) rfl rfl aa aa aa ?_;intro d5 d4 g1 X v r));go_roundw
    case rel=>
     refine⟨k+1,aa,ba,(E.B n).V v λi f=>.inl<|aI<|(s.B i f).1,v.O (n.O K id) λf=>aI<|(s.B _ f).1,by rw[Q.out,if_pos C.out];exact X,by rw[R.out,if_pos C.out];exact F.T v (λi f U=>H.out i U f) λi o f J=>dX ((s.B i J).1)<|b7 i o f,λi f=>?_⟩;cases dw f;obtain r|r:=r
     ·exact H.out _ r
     ·intro d6;have:=(F.B _ d6).2;grind
    case measure=>simp[intOf];omega
   ·have f0:((a6:Int)==0)=false:=aJ
    have C:ay<|qF g y=false:=aJ
    go_wp2_with (first|(go_at_call 322;refine(t _ ae.al).mono ?_;rintro I w2 ⟨rfl,G⟩;have n:au wr w2:=((ae.T _ wr).I<|.cells #[y.a.n,.slice A y.a.2.length B,y.2,w,x,z] 493).B G;have m:=G.O (cz wr<|.cells #[y.a.n,.slice A y.a.2.length B,y.2,w,x,z] 493) id;have f5:=(cI _ _ 0 _ 493 (0,0) m).trans rfl;have f6:=(cI _ _ 1 _ 493 (0,0) m).trans rfl;have f7:=(cI _ _ 2 _ 493 (0,0) m).trans rfl;have f8:=(cI _ _ 3 _ 493 (0,0) m).trans rfl;have f9:=(cI _ _ 4 _ 493 (0,0) m).trans rfl;have g0:=(cI _ _ 5 _ 493 (0,0) m).trans rfl;have s:=u.I n i2 i3;have F:=q.I n i2 i3;have f3:=n.4)|(at_builtin;refine kI uf rfl (.tmp 29) (.tmp 31) rfl s rfl y #[y.a.n,.slice A y.a.2.length B,y.2,w,x,z] T rfl (by simp[eP]) rfl rfl aa aa aa ?_;intro d5 d4 g1 X v r));go_roundw
    case rel=>
     refine⟨k+1,aa,ba,(E.B n).V v λi f=>.inl<|aI<|(s.B i f).1,v.O (n.O K id) λf=>aI<|(s.B _ f).1,by rw[Q.out,if_neg (by rw[C.out];grind)];exact F.T v (λi f U=>H.out i f U) λi o f J=>dX ((s.B i J).1)<|b7 i o f,by rw[R.out,if_neg (by rw[C.out];grind)];exact X,λi f d9=>?_⟩;cases dw d9;obtain r|r:=r
     ·exact H.out _ f r
     ·have:=(F.B _ f).2;grind
    case measure=>simp[intOf];omega
  ·obtain rfl:k=j.length:=aa
   rw[zG]at q u;have d3:ay<|mE _ _ j=g&&& (head|||mN _):=rfl;have c6:∀p∈e9 g _,fw p:=λp br=>c4 p (qu.1 br).1;have b8:(gU g _).length<=16:=dI (pK _ _) ax;have W:(e9 g _).length<=16:=dI (pK _ _) ax;have f2:=G5 c6;let⟨t,a1,a2,a3,a4⟩:=q.U λf4 L b a9=>cF.B L;let⟨O,b1,b2,g2,b3⟩:=u.U λf4 L b a9=>cF.B L;obtain⟨a7,a8,rfl⟩:=q.O;obtain⟨h9,i0,rfl⟩:=u.O;have e1:=LX b1 b3 W c6;have h6:=λi f=>(q.B i f).1;have h7:=λi f=>(u.B i f).1;generalize e4:gU g j=D at*;generalize e5:e9 g j=S at*;have d1:ay<|gU _ _=D:=e4;have d2:ay<|e9 _ _=S:=e5;generalize mN S=d0 at*;have h5:=AJ head d0 aa aa;have h4:=uu e6 f2;generalize head|||d0=aK at*;have h1:=D7 g aK aa aa;generalize g&&& aK=a5 at*;go_wp2_with (go_at_call 379;refine e1.mono ?_;rintro I w4 ⟨rfl,Y⟩;have b4:=Y.O K id;obtain⟨s0,s1,s2,h8⟩:=bJ b4);have c3:=fQ (o:=1) (fQ (o:=0) b4<|.slice a7 D.length a8)<|.int .u16 (a5:Nat);have b6:ae (·=a.1.size) w4<|(w4.setCell ⟨a.1.size,0,none⟩<|.slice a7 D.length a8).setCell ⟨a.1.size,1,none⟩<|.int .u16 (a5:Nat):=((ae.T (·=a.1.size) w4).U (p:=⟨a.1.size,0,none⟩) (.inr rfl) _).U (p:=⟨a.1.size,1,none⟩) (.inr rfl) _;refine fl (yU rfl _ _ a.1.size 476 #[.slice a7 D.length a8,.int .u16 (a5:Nat)] (0,0) _ rfl c3 underlying476 rfl ah _ rfl) rfl ?_;rw[d1.out,d2.out,d3.out];refine⟨_,_,_,_,rfl,(E.B Y).V b6 λi (c:i=a.1.size)=>.inl aa,t.or O,?_,⟨a2.B<|ai.O _ _,λi o f=>?_⟩,ai.list.B (h:=t) (k:=t.or O) (λb a9=>cF.B<|ai.O _ _) a4<|ai.O _ _,ai.list.B (h:=O) (k:=t.or O) (λb a9=>cF.B<|ai.I a1 b1) b3<|ai.I a1 b1⟩
   ·refine(ai.bN a1 b1).B (Y.Z.B b6) λi o f J=>?_;obtain f|f:=ai.T f
    grind
    grind
   ·rcases ai.T f with f|f
    grind
    grind
theorem cF.O{h:ai}:∀c p,cF e h c p->∀u∈c,u.oneCell'=true:=by
 intro c p H u a;obtain⟨b,b,rfl,_⟩:=H.I;simp at a;rcases a with rfl|rfl|rfl|rfl|rfl|rfl<;>rfl
theorem acx(a:bC)(l c)(w:ag):(binOp .eql 472 (.slice (some a) l c)<|.slice none 0 0).run Tryz.prog w=.ok false w:=ah
theorem U8{V:Bool->ByteArray->fT}(j:c.In a)(f:c.list 6 (cF V) (.slice l d b) h)(g:h.length<=16)(g:h≠ []):
  aH 384 #[.slice l d b] a λe g=>∃v,e=.returned v∧au a g∧aM g a 493 6 (cF V) c v h:=by
 obtain⟨rfl,i⟩:=f.O j;obtain⟨g,o,rfl⟩:∃g o,l=some ⟨g,o,none⟩:=by
  cases h with
  |nil=>grind
  |cons p h=>obtain⟨g,o,_,k,_⟩:=i 0 p rfl;grind
 have i:=aM.an (α:=cO) (e:=493) (sz:=6) (R:=cF V) j<|cP _;have j:=λa=>acx ⟨g,o,none⟩ h.length b a;go_enter func384,ntmps384;go_wp2_with (at_builtin;refine Dd uf rfl (.tmp 5) (.tmp 6) rfl i rfl f rfl cF.O (by simp[maxLen];omega) bQ af ?_;intro f f j f _);go_ret;exact⟨_,rfl,ae.al.V f λf g=>.inl (i.B f g).1,j⟩
theorem P3(w:ag):(zeroValue 493).run Tryz.prog w=.ok (.agg #[iJ,.slice none 0 0,false,.map none,.map none,.map none]) w:=ah
theorem U7(J:h=b+1)(q:aM a j 493 6 (cF e) c (.slice (some ⟨y,0,none⟩) (b+1) d) h)(K:b<16)(G:b+1<=d)(i)(H:i<b+1)(B:d<=maxLen):
  aH 383 #[.slice (some ⟨y,0,none⟩) (b+1) d,.int .i64 i,.int .i64 (i+1)] a λs r=>∃v,s=.returned v∧ae (·=y) a r∧aM r j 493 6 (cF e) c v (h.eraseIdx i):=by
 have p:(h.eraseIdx i).length=b:=aJ
 unfold maxLen at B;have I:((i:Int)== (i:Int)+1)=false:=aJ
 by_cases C:d=i+1
 ·obtain rfl:i=b:=aa
  subst C;have g:ay<|aM a j _ 6 _ c _ _:=q;go_enter func383,ntmps383;go_wp2;apply dG (λi=>i==6||i==7) ah ah;intro S x A u w z t;refine aD ?_;refine aD ?_;refine aD ?_;refine aD ?_;refine aD ?_;refine aD ?_
  refine a_ λk f=>?_;apply PW uf rfl _ _ rfl (g.out.I (D:=λ_=>False) ((ae.T _ a).m) i2 i3) aa i aa aa rfl aa aa rfl cF.O;intro E l n;apply f _ _ ah (cS ah);refine a_ λk f=>?_;go_wp2;apply f _ _ ah (cS ah);apply cR;go_wp2_with (refine PV underlying472 P3 rfl (by simp[eP,tT]) rfl (.tmp 31) rfl l p.symm i (cP _) aa rfl rfl ?_;intro F m o);go_ret;exact⟨_,rfl,(((ae.T _ a).m).B n).B o,m⟩
 ·have g:ay<|aM a j _ 6 _ c _ _:=q;go_enter func383,ntmps383;go_wp2;apply dG (λi=>i==6||i==7) ah ah;intro S x A u w z t;refine aD ?_;refine aD ?_;refine aD ?_;refine aD ?_;refine aD ?_;refine aD ?_
  refine a_ λk f=>?_;apply PW uf rfl _ _ rfl (g.out.I (D:=λ_=>False) ((ae.T _ a).m) i2 i3) aa i aa aa rfl aa aa rfl cF.O;intro E l n;apply f _ _ ah (cS ah);refine a_ λk f=>?_;go_wp2;apply f _ _ ah (cS ah);apply cR;go_wp2_with (refine PV underlying472 P3 rfl (by simp[eP,tT]) rfl (.tmp 31) rfl l p.symm b (cP _) aa rfl rfl ?_;intro F m o);go_ret;exact⟨_,rfl,(((ae.T _ a).m).B n).B o,m⟩
structure fC where
 asks:List cO
 live:Nat
 part:cO
 known:Nat
 fresh:Nat
 deriving DecidableEq
def iN(V:Bool->ByteArray->fT)(h:ai)(c:List aq)(s:fC):Prop:=
 ∃v u,c= [v,.int .u16 (s.2),.string s.3.a.n,u,.bool s.3.2,.map (V s.3.3 s.3.a.n).1,.map (V s.3.3 s.3.a.n).2.1,.map (V s.3.3 s.3.a.n).2.2,.int .u16 (s.4),.int .u16 (s.5),.map none]∧h.list 6 (cF V) v s.1∧h.list 2 dV u s.3.a.2
variable{g:fC}
theorem iN.B{h k:ai}(a:h.le k){c:List aq}(H:iN e h c g):iN e k c g:=by
 obtain⟨v,u,b,d,f⟩:=H;exact⟨v,u,b,ai.list.B (h:=h) (k:=k) (λ_ _=>cF.B a) d a,ai.list.B (h:=h) (k:=k) (λ_ _ q=>q) f a⟩
def yo(live head own:Nat)(a:List cO):Nat:=(own&&& (head|||mN a))&&& (65535- live)
def lp(live head:Nat)(a:List cO)(i:Nat)(p:cO):fC:=
 let fresh:=yo live head (c5 p.a.2) (a.eraseIdx i)
 ⟨gU (live|||fresh) (a.eraseIdx i),mE (live|||fresh) head (a.eraseIdx i),p,c5 p.a.2&&& live,fresh⟩
def ky(live head:Nat)(a:List cO)(i:Nat)(p:cO):List cO:=e9 (live|||yo live head (c5 p.a.2) (a.eraseIdx i)) (a.eraseIdx i)
theorem U5(I:c.In a){y v:Nat}{d:List cO}(X:d=v+1)(g9:c.list 6 (cF e) (.slice l (v+1) y) d)(h6:v<16)(d3:∀D∈d,fw D)(live head:Nat)(h4:live<4096)(b9:head<4096)(i:Nat)(d7:d[i]?=some s):
  aH 380 #[.int .u16 live,.slice l (v+1) y,.int .i64 i,.int .u16 head] a λn K=>∃cs a2 c2,cs.size=11∧n=.returned (.tuple #[.agg cs,.slice a2 (ky live head d i s) c2])∧au a K∧
   ∃k,k.In K∧ai.Ext a c k∧iN e k cs.1 (lp live head d i s)∧k.list 6 (cF e) (.slice a2 (ky live head d i s) c2) (ky live head d i s):=by
 have h1:i<v+1:=aJ
 let⟨f2,f6,t,g6⟩:=g9.U I;obtain⟨rfl,rfl⟩:l=f2∧y=f6:=by
  grind
 clear t;have aK:d≠ []:=aJ
 obtain⟨a9,o,cc,rfl,l2,b3,r⟩:=g6 i s d7;obtain⟨e7,e8,rfl,b6⟩:=b3.I;have E:=(ae.T bE a).Y (r 0 aA) id;have P:=(ae.T bE a).Y (r 1 aA) id;have a7:=(ae.T bE a).Y (r 2 aA) id;have Q:=(ae.T bE a).Y (r 3 aA) id;have R:=(ae.T bE a).Y (r 4 aA) id;have S:=(ae.T bE a).Y (r 5 aA) id;simp[<-tI]at E P a7 Q R S;have a3:=d3 s<|cA d7;obtain⟨k1,g5,b7,b4,m4⟩:=df a<|.cells #[.slice none 0 0,.int .u16 0,.string ⟨#[]⟩,.slice none 0 0,false,.map none,.map none,.map none,.int .u16 0,.int .u16 0,.map none] 497
 have h0:c.list 6 (cF e) (.slice (some ⟨a9,o,none⟩) d.length y) d:=aJ
 have d8:=U8 (I.B b7 i3) h0 aa aK;rw[X]at d8;have H:∀D∈d.eraseIdx i,fw D:=λD h7=>d3 D<|(xm _ _).subset h7;have ax:(d.eraseIdx i).length=v:=aJ
 have x:ay (∀p own,c5 s.a.2=own->yo live head own (d.eraseIdx i)=p->lp live head d i s=⟨gU (live|||p)<|d.eraseIdx i,mE (live|||p) head<|d.eraseIdx i,s,own&&& live,p⟩∧ky live head d i s=e9 (live|||p) (d.eraseIdx i)):=by
  rintro p own rfl rfl;exact⟨rfl,rfl⟩
 generalize lp live head d i s=st at x⊢;generalize ky live head d i s=n0 at x⊢;generalize c7:d.eraseIdx i=g at H ax x;have c8:=oB a3.2.1;have e0:=λ(K:ag)(h8:au a K)=>vV (I.B h8 i3) b6 a3.1 a3.2.1;generalize l7:c5 s.a.2=own at c8 e0 x;have d4:=G5 H;have w:ay<|yo _ _ _ _=(own&&& (head|||mN g))&&& (65535- live):=rfl;obtain⟨e5,d5⟩:=gB<|mN g;rw[d5]at d4 w;have b1:=AJ head e5 aa aa;have c1:=uu b9 d4;generalize head|||e5=a4 at b1 c1 w;have b2:=D7 own a4 aa aa;have c2:=qC (b:=a4) c8;generalize own&&& a4=a1 at b2 c2 w;have f3:=u16_andNot_nat a1 live aa aa;have c3:=qC (b:=65535- live) c2;generalize a1&&& (65535- live)=a8 at f3 c3 w;have L:=x.out _ _ rfl w.out;have f4:=AJ live a8 aa aa;have c4:=uu h4 c3;generalize live|||a8=u at f4 c4 L;have f5:=D7 own live aa aa;generalize own&&& live=kx at f5 L;obtain⟨rfl,rfl⟩:=L;have h3:∀b o,c b=some o->b<a.1.size:=λb o m=>I.O m;have j9:=b3;obtain⟨j2,d0⟩:=gB<|(e s.3 s.a.n).1;obtain⟨j3,d1⟩:=gB<|(e s.3 s.a.n).2.1;obtain⟨j4,d2⟩:=gB<|(e s.3 s.a.n).2.2;rw[d0]at Q;rw[d1]at R;rw[d2]at S;have f0:ay<|(e _ _).1=j2∧(e _ _).2.1=j3∧(e _ _).2.2=j4:=⟨d0,d1,d2⟩;have br:ay<|d.eraseIdx i=g:=c7;clear c7;have l4:g.length<16:=aa
 clear ax;go_enter func380,ntmps380
 go_wp2_with (first|(rw[<-g5])|(go_at_call 384;refine d8.mono ?_;rintro n w2 ⟨n2,rfl,Z,G⟩;obtain⟨F,k4,t,b8,g8⟩:=G.ac aK;rw[X]at t b8;subst t;have d9:=U7 X G h6 b8 i h1 g8;rw[br.out]at d9)|
  (go_at_call 383;refine d9.mono ?_;rintro n w3 ⟨n3,rfl,a0,h5⟩;have A:au a w3:=(b7.B Z).V a0 λb (c:b=F)=>.inl<|aI<|(G.B F rfl).1;have k5:=A.Y E id;have k6:=A.Y P id;have g4:=a0.O (Z.O b4 id) (λT=>by have l0:a.1.size=F:=T;have:=(G.B F rfl).1;omega))|
  (go_at_call 322;refine(e0 _ A).mono ?_;rintro n w4 ⟨rfl,B⟩;have Y:=h5.I B i2 i3;obtain⟨n1,e2,e3,i8,e4⟩:=Y.U λJ h2 y n8=>cF.B h2;obtain⟨n4,n5,i1⟩:=Y.O;subst i1;have e1:=LX e2 e4 aa H;rw[d5]at e1)|
  (go_at_call 379;refine e1.mono ?_;rintro n n6 ⟨rfl,C⟩;have i7:=e2.B C i3;have i5:=LW i7 e4 aa H u head c4 b9)|
  (go_at_call 371;refine i5.mono ?_;rintro n a6 ⟨N,O,k2,k3,rfl,c9,J,i9,a5,j0,j1⟩;have j:=((A.B B).B C).B c9;have f7:=j.Y E id;have f8:=j.Y P id;have f9:=j.Y a7 id;have g0:=j.Y Q id;have g1:=j.Y R id;have g2:=j.Y S id;have b5:=c9.O (C.O (B.O g4 id) id) id))
 obtain⟨e6,d6,f,-⟩:=df a6<|.cells #[.slice N (gU u g).length O,.int .u16 (mE u head g:Nat)] 476
 have W:=cz a6<|.cells #[.slice N (gU u g).length O,.int .u16 (mE u head g:Nat)] 476;rw[<-d6]at W⊢;clear d6;have l8:=aP W;obtain⟨p0,p1,_,_⟩:=bJ W;have i4:=f.Y f7 id;have m5:=f.Y f8 id;have m6:=f.Y f9 id;have m7:=f.Y g0 id;have m8:=f.Y g1 id;have m9:=f.Y g2 id;have l3:=xl e6 _ i4;have l5: ¬a6.1.size=a.1.size:=by
  have:=aP b5;omega
 have l6: ¬a9=a.1.size:=by
  have:=xl a _ E;dsimp only at this;omega
 refine qN (·=a.1.size) (λi=>i==11||i==12) ah ah ?_;intro k0 k8 l1 k7 k9 g3;iterate 11 (refine gg ah bf bf λf1 b0=>?_;go_big_quiet_op;refine b0 _ ?_;clear b0 f1)
 refine a_ λM z=>?_;refine iV rfl (.tmp 8) (.tmp 54) rfl rfl (show e6.drew.1[a.1.size]?=_ from (f.O b5 id)) rfl sizeOf497 rfl (by simp[eP]) ?_;intro n7 h9 g7;have V:=ae.ft h9;go_wp2;refine z _ _ ah (λ_=>g3 _ V) ?_;clear z M;refine a_ λM z=>?_;go_wp2;refine z _ _ ah (cS ah) ?_;clear z M;refine cR ?_;go_wp2;refine fl (yU rfl _ _ a.1.size 497 _ (0,0) _ rfl g7 underlying497 rfl ah _ rfl) rfl ?_;have c6:∀b o,J b=some o->c b=some o∨a.1.size+1<=b:=λb o m=>by
  obtain q|q:=a5.2 b o m
  ·rcases i8 b o q with U|U
   ·exact .inl U
   ·have:=(Y.B b U).1;exact .inr aa
  ·have:=((A.B B).B C).4;have l9:=aP b4;have m0:=Z.4;have m1:=a0.4;have m2:=B.4;have m3:=C.4;exact .inr aa
 refine⟨_,_,_,rfl,rfl,(j.B f).V V λb (c:b=a.1.size)=>.inl aa,J,?_,⟨e3.B a5.1,λb o m=>?_⟩,⟨.slice N (gU u g).length O,.slice e7 s.a.2.length e8,?_,j0,?_⟩,j1⟩
 ·refine(i9.B f i3).B V λb o m T=>?_;subst T;obtain q|q:=c6 _ _ m
  ·have:=h3 _ _ q;omega
  ·omega
 ·exact(c6 b o m).imp id λq=>aa
 ·obtain⟨j6,j7,j8⟩:=f0.out;dsimp only;rw[j6,j7,j8]
 ·obtain⟨j5,i0,t⟩:=b6;obtain⟨_,rfl⟩:s.a.n=s.a.n∧ .slice e7 s.a.2.length e8=j5:=aV i0
  exact ai.list.B (h:=c) (k:=J) (λ_ _ i6=>i6) t<|e3.B a5.1
theorem U6(z:c.In a)(t:h=b+1)(q:c.list 6 (cF e) (.slice l (b+1) d) h)(w:b<16)(y:∀p∈h,fw p)(j f)(v:j<4096)(r:f<4096)(i)(A:h[i]?=some s)(x:lp j f h i s=g)(u:ky j f h i s=e5):
  aH 380 #[.int .u16 j,.slice l (b+1) d,.int .i64 i,.int .u16 f] a λp o=>∃f j m n a2 c2,p=.returned (.tuple #[.agg #[.slice f g.1 j,.int .u16 (g.2),g.3.a.n,.slice m g.3.a.2 n,g.3.2,.map (e g.3.3 g.3.a.n).1,.map (e g.3.3 g.3.a.n).2.1,.map (e g.3.3 g.3.a.n).2.2,.int .u16 (g.4),.int .u16 (g.5),.map none],.slice a2 e5 c2])∧au a o∧
   ∃k,k.In o∧ai.Ext a c k∧k.list 6 (cF e) (.slice f g.1 j) g.1∧k.list 2 dV (.slice m g.3.a.2 n) g.3.a.2∧k.list 6 (cF e) (.slice a2 e5 c2) e5:=by
 subst x u;refine(U5 z t q w y _ _ v r i A).mono ?_;rintro p o ⟨cs,a2,c2,i,rfl,t,k,r,u,⟨v,i,q,i,o⟩,p⟩;obtain⟨f,j,rfl⟩:=i.I;obtain⟨m,n,rfl⟩:=o.I;refine⟨f,j,m,n,a2,c2,?_,t,k,r,u,i,o,p⟩;have:cs= #[.slice _ _ _,.int _ _,.string _,.slice _ _ _,.bool _,.map _,.map _,.map _,.int _ _,.int _ _,.map _]:=Ed q;grind
theorem P5(p:Nat)(v:aq)(T:Array aq):((#[p]:Array Tmp).zip #[v]).foldl (λt (p,v)=>t.setIfInBounds p v) T=T.setIfInBounds p v:=af
def oz(n:Nat):Value:=.int .u64 n
def oJ:Nat:=18446744073709551616
abbrev ma:=bS->List (bS×Nat)
theorem De(w:ag):(zeroValue 510).run Tryz.prog w=.ok (.map none) w:=ah
theorem P0(w:ag):(zeroValue 110).run Tryz.prog w=.ok (oz 0) w:=ah
structure gS(w:ag)(mb:Nat)(kb:List (bS×Nat))(F:ma):Prop where
 top:aF w okB cu eF mb kb
 abW:∀p∈kb,aF w okB cu oz p.2 (F p.1)
 apart:(kb.map js).Nodup
 off:∀p∈kb,p.2≠mb
 none:∀k,k∉kb.map bD->F k= []
variable{R:ma}
theorem gS.B{w w':ag}{D:Nat->Prop}(h:gS w b f R)(c:ae D w w')(a: ¬D b)(d:∀p∈f,¬D p.2):gS w' b f R:=
 ⟨h.1.B c a,λp a=>(h.2 p a).B c<|d p a,h.3,h.4,h.5⟩
def iG(ts:List dP)(known fresh:Nat)(F:ma)(t:aC):ma:=
 match ee ts (fS t)with
 |none=>F
 |some b=>λk=>if k=eh b known then gT oJ (F k) (eh b fresh,1)else F k
theorem gS.T(h:gS a d f R)(c:aB f x=Option.none)(l:au a W)(k:aF W okB cu oz b [])(e:a<=b)(j:ae (·=d) W f1)(i:aF f1 okB cu eF d<|cK f x b):gS f1 d (f++ [(x,b)]) R∧aB (f++ [(x,b)]) x=some b:=by
 have g:x∉f.map _:=λe=>Cb.1 c e;rw[yR g]at i;have c:∀p∈f,p.2<a.1.size:=λp c=>(h.2 p c).O;have m:d≠b:=aI h.1.O;refine⟨⟨i,?_,?_,?_,?_⟩,?_⟩;intro p c;obtain c|c:=gX.1 c;exact((h.2 p c).B l id).B j<|h.4 p c;rw[ir.1 c];rw[h.5 x g];exact k.B j aa;rw[iL,sf];refine⟨h.3,af,λi g y j=>?_⟩;grind;intro p c;obtain c|c:=gX.1 c;exact h.4 p c;grind;exact λi g=>h.5 i λe=>g<|aw iL<|List.mem_append_left _ e;refine(Cc ?_).2 af;rw[iL,sf];refine⟨?_,af,λi g y j=>?_⟩;obtain⟨_,_,_,c⟩:=h.1;exact c.3;grind
theorem gS.I{w w':ag}{F G:ma}(h:gS w d f F)(q:aB f x=some b)(k:ae (·=b) w w')(r:aF w' okB cu oz b<|G x)(i:∀a,a≠x->G a=F a):gS w' d f G:=by
 have c:=ij q;have s:(f.map bD).Nodup:=by
  obtain⟨_,_,_,m⟩:=h.1;exact m.3
 refine⟨h.1.B k (h.4 _ c).symm,λp e=>?_,h.3,h.4,λa u=>?_⟩;by_cases g:p.1=x;have:p=(x,b):=MT s e c g;rw[this];exact r;rw[i _ g];refine(h.2 p e).B k λt=>g ?_;have:p=(x,b):=by
  obtain⟨v,n,rfl⟩:=ly e;obtain⟨y,o,j⟩:=ly c;have l:(f.map js)[v]'(aw di n)=(f.map js)[y]'(aw di o):=by rw[AG,AG,j];exact t
  obtain rfl:=(AE h.3).1 l;exact j
 grind;rw[i a];exact h.5 a u;grind
theorem adw{known fresh:Nat}{F:ma}{t:aC}(h:ee M (fS t)=some x):(iG M known fresh F t (eh x known)=cK (F<|eh x known) (eh x fresh) (((aB (F<|eh x known)<|eh x fresh).getD 0+1) % oJ))∧∀a,a≠eh x known->iG M known fresh F t a=F a:=by
 unfold iG;rw[h];refine⟨?_,λa a=>?_⟩;dsimp only;rw[if_pos rfl];rfl;grind
def MR(cs:Array aq)(f bx a b:aq):Array Value:= #[.agg cs,f,bx,aj,a,aj,aj,aj,f,b,aj,aj,aj,aj,aj,aj,aj,aj,aj,aj,aj,aj,aj,aj,aj,aj,aj,aj,aj,aj,aj,aj,aj,aj,aj,aj,aj,aj,aj,aj,aj,aj,aj,aj,aj,aj]
theorem LU{H:ai}{w:ag}(a2:H.In w){v m1 m2 m3:aq}{live known fresh:Nat}{x:ByteArray}{y:Option bC}{J G:Nat}{neg:Bool}{d:kM}(a1:mn H [.string x,.slice y J G] d)(a4:d.2.length<=3)(a6:∀t∈d.2,jE t)
  (a7:known<65536)(d0:fresh<65536){f:Nat}{c:List _}{F:ma}(a5:gS w f c F){k:Nat}{lb:Array aq}{a9:List aC->Prop}{N:Nat}{O:Nat->Prop}{b:ag}(V:zX Cs Tryz.prog k lb (λt=> #[bh t]) a9 bF N O b)(R:ae (λ_=>False) b w)(Z:∀b,O b->b<w)(c7: ¬O f∧∀p∈c,¬O p.2)
  (e:∀b L,H b=some L->b≠f∧∀p∈c,p.2≠b)(P:∀e w,(callFunc k e).run Tryz.prog w=.ok (.enter k e) w):
  Calls Tryz.prog 367 #[.agg #[v,.int .u16 live,.string x,.slice y J G,.bool neg,m1,m2,m3,.int .u16 known,.int .u16 fresh,some f],.func (.func k) #[] lb] w λi r=>∃e a8,i=.returned (.tuple #[])∧a9 a8∧gS r f e (a8.foldl (iG d.2 known fresh) F)∧ae (λb=>b=f∨∃p∈c,p.2=b) w r∧∀p∈e,p∈c∨w<=p.2:=by
 refine(xn (n:=2)).1 (callsIn_of_wp_marks func367 rfl trivial ((IJ (n:=2)).2 ?_));simp only[ntmps367,qp,uS,JQ,Nat.reduceAdd,Nat.reduceSub,Array.replicate_succ,Array.replicate_zero,List.push_toArray,List.append_toArray,Eb,Kn];go_wp2;obtain⟨cs,U⟩:∃cs:Array aq,cs= #[v,.int .u16 live,.string x,.slice y J G,.bool neg,m1,m2,m3,.int .u16 known,.int .u16 fresh,.map (some f)]:=⟨_,rfl⟩;obtain⟨W,g⟩:∃W,W=w.alloc (.cells #[v,.int .u16 live,.string x,.slice y J G,.bool neg,m1,m2,m3,.int .u16 known,.int .u16 fresh,.map (some f)] 497):=⟨_,rfl⟩;rw[<-g];have K:ae (λ_=>False) w W:=aw g ((ae.T _ _).I _)
 have S:W.1[w.1.size]?=some (.cells cs 497):=by rw[g,U];exact cz _ _
 have h:W.1.size=w.1.size+1:=cw g
 clear g;obtain⟨M,Q⟩:∃M:List aC->ag->Prop,M=λpre A=>∃e,gS A f e (pre.foldl (iG d.2 known fresh) F)∧ae (λb=>b=f∨∃p∈c,p.2=b) w A∧(∀p∈e,p∈c∨w.1.size<=p.2)∧A.1[w.1.size]?=some (.cells cs 497):=⟨_,rfl⟩;have Y:∀pre A B,M pre A->ae (λb=>W.1.size<=b∧tM A b) A B->M pre B:=by
  rw[Q];rintro pre A B ⟨e,j,s,z,o⟩ q;have h:∀ {b:Nat} {X:List (bS×Nat)} {enc:Nat->aq},aF A okB cu enc b X->¬(W.1.size<=b∧tM A b):=by
   rintro b X enc ⟨a3,cl,m,_⟩ ⟨_,L,u,b0⟩;rw[m]at u;cases u;cases b0
  refine⟨e,j.B q (h j.1) (λp g=>h (j.2 p g)),s.V q (λb l=>.inl aa),z,q.O o aa⟩
 obtain⟨C,N⟩:∃C:aC->bK->ag->Prop,C=λt I A=>∃T,I={tmps:=MR cs (.func (.func k) #[] lb) (.pointer (some ⟨w.1.size,0,none⟩)) (.pointer (some ⟨T,0,none⟩)) (bh t),defers:= []}∧A.1[T]?=some (.cells #[.int .u64 t.1,.int .u64 t.2.1,.int .u64 t.2.2] 116):=⟨_,rfl⟩;refine PY (a:=_) (gf:=k) (lb:=lb) rfl P V (R.B K) (λ_=>rfl) (λb l=>aI (Z b l)) M Y ?_ C ?_ ?_ ?_ ?_
 ·rw[Q];exact⟨c,a5.B K id i2,K.Z,λp g=>.inl g,S⟩
 ·rw[N];intro t I A B ⟨T,j,s⟩ q
  exact⟨T,j,q.O s (by
   rintro⟨_,L,z,o⟩;rw[s]at z;cases z
   cases o)⟩
 ·intro Z pre t A K C a0 c;refine BS ah λP V=>?_;replace V:ay _:=V;rw[N]at c;replace c:ay _:=c;rw[P5];obtain⟨P,R,S⟩:=t;simp only[bh];have W:=Y _ _ (A.alloc (.cells #[.int .u64 P,.int .u64 R,.int .u64 S] 116)) C ((ae.T _ _).I _);have Y:=(ae.T (λ_=>False) A).I (.cells #[.int .u64 P,.int .u64 R,.int .u64 S] 116);go_wp2;refine V.out _ _ (c.out _ _ Y W ⟨_,?_,cz _ _⟩);rw[U];rfl
 ·intro Z pre t I A C I V a0;rw[N]at I;obtain⟨T,rfl,N⟩:=I;have I:=C;rw[Q]at C;obtain⟨e,j,s,z,o⟩:=C
  have V:=a2.B s (λb L l d2=>by
   grind)
  have d3:∀b,O b->b≠f∧∀p∈e,p.2≠b:=λb l=>⟨λi=>c7.1 (i▸l),λp g i=>by
   grind⟩
  have Z:=λ(b:bS)(h:ee d.2 (fS t)=some b)=>adw (known:=known) (fresh:=fresh) (F:=pre.foldl (iG d.2 known fresh) F) h;have W:=λ(h:ee d.2 (fS t)=none)=>(show iG d.2 known fresh (pre.foldl (iG d.2 known fresh) F) t=pre.foldl (iG d.2 known fresh) F by unfold iG;grind);have b3:(pre++ [t]).foldl (iG d.2 known fresh) F=iG d.2 known fresh (pre.foldl (iG d.2 known fresh) F) t:=dh iZ
  have a2:∀b,ee d.2 (fS t)=some b->okB b:=λb h=>Cj (λc8 I=>by
   simp[fS]at I;omega) h
  have c1:=λ(r:ag)(q:ae (λ_=>False) A r)=>E_ (V.B q (λ_ _ _ H=>H)) a1 a4 a6 a0;generalize iG d.2 known fresh (pre.foldl (iG d.2 known fresh) F) t=q at Z W b3;generalize pre.foldl (iG d.2 known fresh) F=V at j Z W;have a1:∀w3,ae (λ_=>False) A w3->q=V->M (pre++ [t]) w3:=by
   intro w3 q Y;rw[Q];exact⟨e,by rw[b3,Y];exact j.B q id i2,s.V q (λ_ H=>H.elim),z,q.O o id⟩
  obtain⟨P,R,S⟩:=t;dsimp only[MR,bh]at N⊢;dsimp only[bh]at c1;rw[U]at o⊢;have t:=cI A w.1.size 2 _ 497 (0,0) o;have H:=cI A w.1.size 3 _ 497 (0,0) o;replace t:A.cell? ⟨w.1.size,2,none⟩=some (.string x):=t.trans rfl;replace H:A.cell? ⟨w.1.size,3,none⟩=some (.slice y J G):=H.trans rfl;obtain⟨t,t,t,_⟩:=bq N;have t:=c1 A (ae.T _ _);clear c1;refine wpIn_block ?_;refine yx ah λH N=>?_;replace N:ay _:=N;cases h:ee d.2 (fS (P,R,S))with
  |none=>
   rw[h]at t;simp only[Ck,cu,RH,RI]at t;have Y:=W h;go_wp2_with (first|(go_at_call 351;refine t.mono ?_;rintro i w2 ⟨rfl,H⟩)|(refine iV rfl (.tmp 5) (.tmp 17) rfl rfl (cz _ _) rfl sizeOf467 rfl (lf ep) ?_;intro w3 a0 M));have q:=(H.I _).V a0 (λb (l:b=w2.1.size)=>.inl (aI H.4));apply N.out _ _;apply wpIn_seq;refine yx ah λa4 d=>?_;replace d:ay _:=d;go_wp2;refine d.out _ _ (wpIn_cond_true rfl (wpIn_exit ?_));exact⟨rfl,q.cW af,a1 _ q Y⟩
  |some b=>
   rw[h]at t;dsimp only[Ck,cu,RH,RI]at t;have l:=a2 b h;obtain⟨Y,b1⟩:=Z b h;have c9:ay (cs=_):=U;clear Z W a2 h U a1;have W:=cI A w.1.size 8 _ 497 (0,0) o;have Z:=cI A w.1.size 9 _ 497 (0,0) o;have U:=cI A w.1.size 10 _ 497 (0,0) o;replace W:A.cell? ⟨w.1.size,8,none⟩=some (.int .u16 known):=W.trans rfl;replace Z:A.cell? ⟨w.1.size,9,none⟩=some (.int .u16 fresh):=Z.trans rfl;replace U:A.cell? ⟨w.1.size,10,none⟩=some (.map (some f)):=U.trans rfl;have b4:(bu b).size=12:=aw kC l.1
   go_wp2_with (first|(go_at_call 351;refine t.mono ?_;rintro i w2 ⟨rfl,H⟩)|(refine iV rfl (.tmp 5) (.tmp 17) rfl rfl (cz _ _) rfl sizeOf467 b4 (lf b) ?_;intro w3 a0 M));have q:ae (λ_=>False) A w3:=(H.I _).V a0 (λb (l:b=w2.1.size)=>.inl (aI H.4));have a1:A.1.size<=w2.1.size:=H.4;generalize w2.1.size=b8 at M a1⊢;clear a0 H w2 t;refine N.out _ _ ?_;clear N;refine wpIn_seq ?_;refine yx ah λa4 d=>?_;replace d:ay _:=d;go_wp2;refine d.out _ _ (wpIn_cond_false rfl (wpIn_skip ?_));clear d;have a4:=q.Y W id;have b2:=q.Y Z id;have a6:=q.Y U id;have c2:=Bv w3 l.1 known a7;generalize t:eh b known=d at c2 Y b1;have a2:okB d:=t▸Cw l known;have a1:(bu d).size=12:=aw kC a2.1
   dsimp only[cu]at c2;refine yx ah λt H=>?_;replace H:ay _:=H;go_wp2_with (first|(refine oC rfl (.tmp 5) rfl rfl M underlying467 rfl (by rw[b4];kernel_rfl) ?_)|(go_at_call 374;refine c2.mono ?_;rintro i w4 ⟨rfl,N⟩)|(refine iV rfl (.tmp 7) (.tmp 24) rfl rfl (cz _ _) rfl sizeOf467 a1 (lf d) ?_;intro U W a0));have t:ae (λ_=>False) w3 U:=(N.I _).V W (λb (l:b=w4.1.size)=>.inl (aI N.4));have Z:=q.B t;have a7:A.1.size<=w4.1.size:=dI q.4 N.4;generalize w4.1.size=b9 at a0 a7⊢;replace M:=t.O M id;replace a4:=t.Y a4 id;replace b2:=t.Y b2 id;replace a6:=t.Y a6 id;clear W N w4 c2 q t;have W:=j.B Z id (λ_ _=>id);have q:=j.1.O;refine H.out _ _ ?_;clear H;refine wpIn_seq_k λaK t=>?_;replace t:ay _:=t
   have a7:∀(N:ag)(H:List (bS×Nat))(q:Nat)(a4 b5 b6 b7 ax c4:aq),ae (·=f) U N->gS N f H V->aB H d=some q->(∀p∈H,p∈e∨A.1.size<=p.2)->aK {tmps:= #[.agg #[v,.int .u16 live,.string x,.slice y J G,.bool neg,m1,m2,m3,.int .u16 known,.int .u16 fresh,.map (some f)],.func (.func k) #[] lb,.pointer (some ⟨w.1.size,0,none⟩),aj,
    .pointer (some ⟨T,0,none⟩),.pointer (some ⟨b8,0,none⟩),.bool true,.pointer (some ⟨b9,0,none⟩),.func (.func k) #[] lb,.agg #[.int .u64 P,.int .u64 R,.int .u64 S],.tuple #[.agg (bu b),.bool true],.pointer (some ⟨w.1.size,2,none⟩),.pointer (some ⟨w.1.size,2,none⟩),.pointer (some ⟨w.1.size,2,none⟩),.agg #[.string x,.slice y J G],
    .agg #[.int .u64 P,.int .u64 R,.int .u64 S],.tuple #[.agg (bu b),.bool true],.agg (bu b),.bool true,.bool true,.bool false,.agg (bu b),.pointer (some ⟨w.1.size,8,none⟩),.int .u16 known,.agg (bu d),.pointer (some ⟨w.1.size,10,none⟩),.map (some f),.agg (bu d),a4,b5,b6,b7,ax,c4,aj,aj,aj,aj,aj,aj,aj,aj,aj,aj,aj,aj],defers:= []} N:=by
    intro N H q a4 b5 b6 b7 ax c4 G a4 b5 d1;dsimp only;refine t.out _ _ ?_;clear t;have b6:=ij b5;have S:=a4.2 _ b6;have c6:=a4.4 _ b6;dsimp only at S c6;have d4:=S.O;have t:f<w.1.size:=a5.1.O;have T:∀ {R:Nat} {cs:Array aq} {ty:bB},N.1[R]?=some (.cells cs ty)->¬R=q:=by
     rintro R cs ty t rfl;obtain⟨a3,cl,m,_⟩:=S;rw[m]at t;cases t
    have a5:=G.O (Z.O o id) aa;have c4:=G.O M aa;have aK:=G.O a0 aa;have d6:=G.Y b2 (by omega);have d5:=G.Y a6 (by omega);have c3:=λr=>Bv r l.1 fresh d0;have b7:okB (eh b fresh):=Cw l fresh;generalize eh b fresh=M at Y c3 b7;dsimp only[cu]at c3;obtain⟨J,a6⟩:∃J,(aB (V d) M).getD 0=J:=⟨_,rfl⟩;rw[a6]at Y;have I:(aB H d).elim (.map none) eF=.map (some q):=dh b5
    have d0:ay (se.wrap ((J:Int)+1)=(((J+1) % oJ:Nat):Int)):=by
     show _=_;simp[IntKind.wrap,IntKind.bits,IntKind.signed,oJ]
    refine Ya (λr=>ae (·=q) N r∧∃y,aF r okB cu oz q y∧(aB y M).getD 0=J) (λP=>P==7||P==10||P==12) ah ah ah ⟨(ae.T _ _).m,_,S.B (D:=λ_=>False) (ae.T _ _).m id,a6⟩ ?_;intro P b2 a9 k ax P a9;replace b2:ay _:=b2;have d7:∀x,(k x).cell? ⟨w.1.size,10,none⟩=some (.map (some f)):=λx=>(P x).1.Y d5 (T a5);have d5:∀x,(k x).cell? ⟨w.1.size,9,none⟩=some (.int .u16 fresh):=λx=>(P x).1.Y d6 (T a5);have d5:∀x,(k x).1[b9]?=some (.cells (bu d) 467):=λx=>(P x).1.O aK (T aK);have b9:∀x,(k x).1[b8]?=some (.cells (bu b) 467):=λx=>(P x).1.O c4 (T c4);have c4:∀x,aF (k x) okB cu eF f H:=λx=>a4.1.B (P x).1 (kg c6);have b8:∀x,∃y,ai.map (λb=>(k x).1[b]?) okB cu oz (.map (some q)) y∧(aB y M).elim (oz 0) oz=.int .u64 J:=λx=>by
     obtain⟨_,y,m,u⟩:=P x;refine⟨y,m.T,?_⟩;cases P:aB y M with
     |none=>rw[P]at u;rw[<-u];rfl
     |some c8=>rw[P]at u;rw[<-u];rfl
    refine gg ah bf bf λK c=>?_;go_big_quiet_op;refine c _ ?_;clear c K;refine gg ah bf bf λK c=>?_;go_big_quiet_op;refine c _ ?_;clear c K;refine nU ah bf (.tmp 7) rfl rfl (λr ⟨x,i⟩=>aw i (d5 x)) underlying467 rfl (by rw[a1];kernel_rfl) ?_;go_frame;refine yn nY underlying495 De ah bf (.tmp 35) (.tmp 36) rfl rfl (λr ⟨x,i⟩=>aw i ((c4 x).T)) rfl a2 I ?_;go_frame;refine nU ah bf (.tmp 5) rfl rfl (λr ⟨x,i⟩=>aw i (b9 x)) underlying467 rfl (by rw[b4];kernel_rfl) ?_;go_frame;refine gg ah bf bf λK c=>?_;go_big_quiet_op;refine c _ ?_;clear c K;refine gg ah bf bf λK c=>?_;go_big_quiet_op;refine c _ ?_;clear c K;refine jV ah bf λk f=>?_;go_wp2_with (go_at_call 374;refine(c3 _).mono ?_;rintro i b9 ⟨rfl,b4⟩);have y:ae (λ_=>False) N b9:=(ae.T _ _).m.B b4;have N:=S.B y id;refine f _ _ ah (λ_=>a9 _ ⟨y.Z,_,N,a6⟩) ?_;clear f k;refine XH nY underlying510 P0 ah bf (.tmp 37) (.tmp 41) rfl rfl (λr ⟨x,i⟩=>aw i (b8 x)) rfl b7 ?_;go_frame;refine gg ah bf bf λK c=>?_;go_big_quiet_op;refine c _ ?_;clear c K;refine jV ah bf λk f=>?_;go_wp2_with (refine aeq nY underlying510 P0 rfl (.tmp 37) (.tmp 41) rfl rfl N rfl b7 ?_;intro st i N r x);have i:=y.Z.B N;refine f _ _ ah (λ_=>a9 _ ⟨i,_,r,?_⟩) ?_
    ·rw[<-a6];cases P:aB (V d) M with
     |none=>
      simp only[Option.isSome_none,tH,if_false];have r:=Gt (V d) M 0 M;rw[yR (Cb.1 P),if_pos rfl]at r;grind
     |some c8=>grind
    clear f k;refine gg ah bf bf λK c=>?_;go_big_quiet_op;refine c _ ?_;clear c K;refine jV ah bf λk f=>?_;go_wp2_with (refine aeo (enc:=oz) (v:=(J+1) % oJ) rfl (.tmp 37) (.tmp 45) (.tmp 43) rfl rfl rfl (by exact congrArg (Value.int se) d0.out) x rfl (kJ d4 i.4) ?_;intro r x r);refine f _ _ ah (cS ah) ?_;clear f k;refine cR ?_;go_wp2;have f:=i.B x;refine b2.out _ _ ⟨rfl,?_,?_⟩
    ·refine((Z.cW (E:=λb=>¬O b∧∃L,A.1[b]?=some L∧Cs L=true) af).V G λR t=>?_).V f λR t=>?_
     ·subst t;obtain⟨a3,cl,m,_⟩:=j.1;exact .inr ⟨c7.1,_,m,rfl⟩
     ·subst t;rcases d1 _ b6 with m|m
      ·obtain⟨a3,cl,u,_⟩:=j.2 _ m;exact .inr ⟨λb0=>(d3 _ b0).2 _ m rfl,_,u,rfl⟩
      omega
    ·have i:=s.4;rw[Q];refine⟨H,aw b3 (a4.I b5 f (by rw[Y];exact r) b1),((s.V Z af).V G aa).V f (λR t=>?_),λp g=>?_,aw c9.out (f.O a5 (T a5))⟩
     ·grind
     ·grind
   replace a7:ay _:=a7;clear Y b1;refine yx ah λf i=>?_;replace i:ay _:=i;cases f:aB e d with
   |some q=>
    have I:(aB e d).elim (.map none) eF=.map (some q):=dh f
    have t:∀w,(binOp .eql 510 (.map (some q)) (.map none)).run Tryz.prog w=.ok (.bool false) w:=λw=>ah
    have k:ay (aB e d=some q):=f;clear f;go_wp2_with (first|(refine oC rfl (.tmp 7) rfl rfl a0 underlying467 rfl (by rw[a1];kernel_rfl) ?_)|(at_lookup;refine iH nY underlying495 De rfl (.tmp 26) (.tmp 27) rfl rfl (bU _) W.1.T rfl a2 I ?_));refine i.out _ _ (wpIn_cond_false rfl (wpIn_skip ?_));exact a7.out U e q _ _ _ _ _ _ (ae.T _ _) W k.out (λp g=>.inl g)
   |none=>
    have I:(aB e d).elim (.map none) eF=.map none:=dh f
    have t:∀w,(binOp .eql 510 (.map none) (.map none)).run Tryz.prog w=.ok (.bool true) w:=λw=>ah
    have k:ay (aB e d=none):=f;clear f;go_wp2_with (first|(refine oC rfl (.tmp 7) rfl rfl a0 underlying467 rfl (by rw[a1];kernel_rfl) ?_)|(at_lookup;refine iH nY underlying495 De rfl (.tmp 26) (.tmp 27) rfl rfl (bU _) W.1.T rfl a2 I ?_));refine i.out _ _ (wpIn_cond_true rfl ?_);clear i;refine BS ah λd d=>?_;replace d:ay _:=d;have f:= @iW Tryz.prog;have f:=(ae.T (λ_=>False) U).I (.map #[] 0);have i:=W.1.B f id;go_wp2_with (first|(refine oC rfl (.tmp 7) rfl rfl a0 underlying467 rfl (by rw[a1];kernel_rfl) ?_)|(at_mapUpdate;refine hZ nY underlying495 rfl (.tmp 31) (.tmp 32) (.tmp 33) rfl rfl i rfl a2 U.1.size rfl ?_;intro u i q));obtain⟨r,t⟩:=W.T k.out f aF.I (cP _) i q;refine d.out _ _ ?_;refine a7.out u _ U.1.size _ _ _ _ _ _ (f.Z.B i) r t (λp g=>?_);rcases gX.1 g with g|g
    ·exact .inl g
    ·rw[ir.1 g];exact .inr Z.4
 ·intro D a8 B d2 ax C c;rw[Q]at C;obtain⟨e,j,s,z,o⟩:=C;show LeavesInM mU 2 Tryz.prog f367 _ _ _ .returning B;refine⟨af,.inl ⟨_,_,rfl,run_takeDeferred c,?_⟩⟩;have g:=wR B D (.deferred none);have h:∀ {b:Nat} {X:List (bS×Nat)} {enc:Nat->aq},aF B okB cu enc b X->¬b=D:=by
   rintro b X enc ⟨a3,cl,m,_⟩ rfl;rw[c]at m;cases m
  exact⟨_,DW rfl _ _ _,e,a8,rfl,ax,j.B g (h j.1) (λp g=>h (j.2 p g)),s.V g (λb l=>.inl aa),z⟩
end
section
structure sw(cs:Array aq)(o:Nat)(v:aq)(live:Nat)(x:ByteArray)(u:aq)(neg:Bool)(m:fT)(known fresh:Nat)(rows:Option Nat):Prop where
 ax:cs[o]?=some v
 c1:cs[o+1]?=some (.int .u16 live)
 c2:cs[o+2]?=some (.string x)
 c3:cs[o+3]?=some u
 c4:cs[o+4]?=some (.bool neg)
 aK:cs[o+5]?=some (.map m.1)
 c6:cs[o+6]?=some (.map m.2.1)
 c7:cs[o+7]?=some (.map m.2.2)
 c8:cs[o+8]?=some (.int .u16 known)
 c9:cs[o+9]?=some (.int .u16 fresh)
 c10:cs[o+10]?=some (.map rows)
theorem sw.I{m:fT}(h:sw A b q d n b6 d3 m j y w)(r:Option Nat):sw (A.setIfInBounds (b+10)<|.map r) b q d n b6 d3 m j y r:=by
 obtain⟨a,c,f,g,i,k,l,o,p,s,e⟩:=h;constructor;case c10=>grind
 all_goals
  rw[mQ aa];assumption
def oq(s:fC)(F:ma)(p:bS×Nat):List (bS×Nat):=(F (eh p.1 s.4)).map λr=>(kv p.1 r.1,p.2*r.2 % dA)
def jG(D:Bool->ByteArray->Seen)(asks:List cO)(live:Nat)(l:List (bS×Nat)):List (bS×Nat):=(l.filter λp=>rb D asks p.1).map λp=>(eh p.1 live,p.2)
theorem Oc(D:Bool->ByteArray->Seen)(asks:List cO)(a)(l:List<|bS×Nat)(p:bS×Nat):ie dA (jG D asks a<|l++ [p])=od D asks a (ie dA<|jG D asks a l) p.1 p.2:=by
 unfold jG od;rw[D6,iL];by_cases h:rb D asks p.1=true;rw[if_pos h];have: [p].filter (λp=>rb D asks p.1)= [p]:=by simp[h]
 rw[this];exact Tk _ _ _;grind
variable{H:List eX}{b4:List fC}{D:eX}{R:ma}{g:fC}
theorem gS.O{w:ag}{a:Nat}(h:gS w a f R)(k:bS):ai.map (λb=>w.1[b]?) okB cu oz (.map<|aB f k)<|R k:=by
 cases a:aB f k with
 |none=>rw[h.5 k<|Cb.1 a];exact .inl af
 |some c=>exact(h.2 _<|ij a).T
theorem fA.O[DecidableEq F][DecidableEq e1]{w:ag}{b it:Nat}(h:fA w e2 e3 e4 b it f r)(a:∀p∈f,p∈r):f.Perm r:=by
 obtain⟨_,_,_,c⟩:=h.T;exact Og (Cq c.3) (Cq h.I.2.1) λx=>⟨a x,h.I.1 x⟩
theorem iy.T[DecidableEq F][DecidableEq e1](h:iy a e2 e3 e4 q b f r)(c:∀p∈f,p∈r):f.Perm r:=by
 obtain⟨_,rfl,rfl,_⟩|⟨d,_,_,h⟩:=h;grind;exact h.O c
theorem KP(a:okB d7)(c:okB x):okB<|kv d7 x:=by
 refine⟨by simp[kv,a.1],λb b=>?_⟩;obtain⟨i,d,rfl⟩:=List.mem_mapIdx.1 b;have b:x.getD i 0<2^64:=by
  rw[D8];cases h:x[i]? with
  |none=>grind
  |some y=>exact c.2 y<|cA h
 exact ID (n:=64) (a.2 _<|Kf _) b
theorem Pr(a:List aC):∀F,(∀k,∀p∈F k,p.2<oJ)->∀k,∀p∈a.foldl (iG M b d) F k,p.2<oJ:=by
 induction a with
 |nil=>simp_all
 |cons t a a=>
  intro F h;refine a _ λk p a=>?_;unfold iG at a;cases c:ee M (fS t)with
  |none=>rw[c]at a;grind
  |some e=>
   rw[c]at a;simp at a;by_cases c:k=eh e b;rw[if_pos c]at a;exact SD aA (h k) _ p a;grind
theorem sizeOf112(w:ag):(sizeOf 112).run Tryz.prog w=.ok 2 w:=ah
theorem UW(f8:c.In a)(l6:mo a e7 e K)(i4:a.1[b]?=some (.cells A 497)){b1:Option Nat}
  (b8:sw A d (.slice a8 e8 f0) g.2 g.3.a.n (.slice l y d4) g.3.2 (e g.3.3 g.3.a.n) g.4 g.5 b1)(t4:c.list 6 (cF e) (.slice a8 e8 f0) g.1)(x4:c.list 2 dV (.slice l y d4) g.3.a.2)
  (w6:g.1.length<=16)(J:∀p∈g.1,fw p)(o:fw g.3)(v9:g.2<4096)(n1:g.4<65536)(v0:g.5<65536)
  (k6:aF a okB cu cg j f)(w8:f≠ []){kb:List _}{F:ma}(l1:∀n,b1=some n->gS a n kb F∧∀d7,∀p∈F d7,p.2<oJ)
  (v1:c b=none)(z7:e7<=b)(z1:e7<=a):
  Calls Tryz.prog 365 #[.pointer (some ⟨b,d,none⟩),some j] a λt m=>∃j7 z n M S,t=.returned ((some j7))∧a.1.size<=j7∧aF m okB cu cg j7 z∧gS m n M S∧
   z.Perm (ie dA (jG K g.1 g.2 (f.flatMap (oq g S))))∧
   ((b1=some n∧M=kb∧S=F∧ae (λ_=>False) a m)∨
    (b1=none∧a<=n∧(∀p∈M,a<=p.2)∧(∃a2,sx (K g.3.3 g.3.a.n).1 (K g.3.3 g.3.a.n).2.1 (K g.3.3 g.3.a.n).2.2 a2∧S=a2.foldl (iG g.3.a.2 g.4 g.5) λ_=> [])∧ae (·=b) a m∧m.1[b]?=some (.cells (A.setIfInBounds (d+10) ((some n))) 497))):=by
 obtain⟨c1,d0⟩:∃c1:ag->Prop,c1=λm=>∃z n M S,aF m okB cu cg a.1.size z∧gS m n M S∧
   z.Perm (ie dA (jG K g.1 g.2 (f.flatMap (oq g S))))∧
   ((b1=some n∧M=kb∧S=F∧ae (λ_=>False) a m)∨
    (b1=none∧a.1.size<=n∧(∀p∈M,a.1.size<=p.2)∧(∃a2,sx (K g.3.3 g.3.a.n).1 (K g.3.3 g.3.a.n).2.1 (K g.3.3 g.3.a.n).2.2 a2∧S=a2.foldl (iG g.3.a.2 g.4 g.5) λ_=> [])∧ae (·=b) a m∧m.1[b]?=some (.cells (A.setIfInBounds (d+10) (.map (some n))) 497))):=⟨_,rfl⟩
 refine Ii (R:=λt m=>t=.returned (.map (some a.1.size))∧c1 m) ?_ (λt m ⟨a0,b5⟩=>by grind);have w1:= @iW Tryz.prog;have t9:f.length≠0:=λt=>w8 (Kj.1 t);obtain⟨W,d2⟩:∃W,W=a.alloc (.map #[] 0):=⟨_,rfl⟩;have Y:ae (λ_=>False) a W:=aw d2 ((ae.T _ _).I _)
 have g9:=k6.B Y id;have A9:(((f.length:Nat):Int)==0)=false:=dT beq_eq_false_iff_ne
 have m9:=Y.O i4 id;have w7:aF W okB cu cg a.1.size []:=aw d2 aF.I
 have d6:W.1.size=a.1.size+1:=cw d2
 clear t9;go_enter func365,ntmps365;go_wp2_with (at_len; (rw[<-d2]);clear d2;refine nB underlying487 rfl (.tmp 11) rfl rfl g9 ?_;rename_i y4 d9 y5 z0;replace d9:ay _:=d9);refine d9.out _ _ ?_;clear d9;refine wp_seq_k λr5 c8=>?_;replace c8:ay _:=c8;have z5:=k6.O;have s0:f.flatMap (oq g F)=f.flatMap (oq g F):=rfl;clear s0;have g0:∀(w2:ag)(n:Nat)(b9:List (bS×Nat))(T:ma)(p4 iX rK p7 p8 p9 q0 q1 q2 q3 q4 q5 q6 q7 q8 q9 r0 r1 r2 r3:aq),ae (·=b) W w2->(∀k v,k<10->A[d+k]?=some v->w2.cell? ⟨b,d+k,none⟩=some v)->w2.cell? ⟨b,d+10,none⟩=some (.map (some n))->gS w2 n b9 T->(∀d7,∀p∈T d7,p.2<oJ)->n≠a.1.size->(∀p∈b9,p.2≠a.1.size)->
   (∀w3 z,ae (·=a.1.size) w2 w3->aF w3 okB cu cg a.1.size z->z.Perm (ie dA (jG K g.1 g.2 (f.flatMap (oq g T))))->c1 w3)->r5 {tmps:= #[.pointer (some ⟨b,d,none⟩),.map (some j),aj,aj,.map none,.map (some a.1.size),aj,aj,aj,aj,.map (some a.1.size),.map (some j),.int .i64 f.length,.bool false,p4,iX,rK,p7,p8,p9,q0,q1,q2,q3,q4,q5,q6,q7,q8,q9,r0,r1,r2,r3,aj,aj,aj,aj,aj,aj,aj,aj,aj,aj,aj,aj,aj,aj,aj,aj,aj,aj,aj,aj,aj,aj,aj,aj,aj,aj,aj,aj,aj,aj,aj,aj,aj,aj,aj,aj,aj],defers:= []} w2:=by
  intro w2 n b9 T p4 iX rK p7 p8 p9 q0 q1 q2 q3 q4 q5 q6 q7 q8 q9 r0 r1 r2 r3 G j4 x6 h1 v7 w5 o3 f1;dsimp only;refine c8.out _ _ ?_;clear c8 w1;have s3:=g9.B G (by rintro rfl;obtain⟨k4,cl,y9,_⟩:=g9;grind);have n6:=w7.B G (by grind);have h4:=(l6.B Y (λ_ _=>id)).B G (λi h d5=>by omega);have j2:=(f8.B Y (λ_ _ _ c=>c)).B G (λi d h d5=>by grind);have v2:=aP i4;go_wp2_with (at_range;refine lY underlying487 rfl (.tmp 34) rfl rfl s3 ?_;intro w4 i8 p1 h2);obtain⟨Z,n0⟩:∃d7,d7=w2.1.size:=⟨_,rfl⟩;rw[<-n0]at p1 h2⊢;have z9:a.1.size<Z:=aI G.4
  have n7:=n6.B i8 id;have p0:ae (·=a.1.size) w2 w4:=i8.Z;have p2:Z<w4.1.size:=aa
  have A0:w2.1.size<=Z:=aa
  clear n0 p1 i8 n6;go_frame
  go_loopg [] f.length (λgk wr=>∃came a1,came.length+gk=f.length∧ae (·=a.1.size) w2 wr∧Z<wr.1.size∧fA wr okB cu cg j Z f came∧a1.Perm (came.flatMap (oq g T))∧aF wr okB cu cg a.1.size (ie dA (jG K g.1 g.2 a1)))
  case atStart=>exact⟨[],[],af,p0,p2,h2,.refl _,n7⟩
  case round=>
   clear h2 n7 p0 p2;obtain⟨came,a1,z3,h5,B3,l5,o1,k7⟩:=hrel;have w9:j≠Z:=aa
   go_wp2_with (at_next;refine lX nY rfl (.tmp 35) rfl rfl l5 w9 ?_ ?_)
   ·intro i1;have i2:=l5.O λ⟨x,k1⟩ j3=>i1 x k1 j3;have z6:=f1 _ _ h5 k7 ((Lc _ (((o1.trans (i2.symm.flatMap_right _)).filter _).map _)));go_wp2;go_ret;exact⟨rfl,aa⟩
   ·intro i C b2 A7 A5 A3 i9 e2;obtain⟨j6,rfl⟩:∃j6,gk=j6+1:=⟨gk- 1,aa⟩;have h:okB i:=e2.I.2.2 (i,C) af;have h9:(bu i).size=12:=aw kC h.1
    obtain⟨j8,j9,n9⟩:∃j8 j9:Nat,cg C=.agg #[.int .u64 j8,.int .u64 j9]:=⟨_,_,rfl⟩;have k2:ay (cg C=.agg #[.int .u64 j8,.int .u64 j9]):=n9;clear n9 f1;go_wp2_with (first|(refine lx rfl (.tmp 35) rfl rfl e2 ?_;rw[k2.out];dsimp only[cu])|(refine iV rfl (.tmp 6) (.tmp 39) rfl rfl (ic _ _ _) rfl sizeOf467 h9 (lf i) ?_;intro y0 j0 m0)|(refine iV rfl (.tmp 7) (.tmp 40) rfl rfl (j0.O (eK _ _ _) aa) rfl sizeOf112 rfl (by simp[eP]) ?_;intro N j1 br));go_frame;have g5:ae (λ_=>False) b2 N:=((((ae.T (λ_=>False) b2).I _).I _).V j0 (λq (s:q=b2.1.size)=>.inl aa)).V j1 (λq (s:q=b2.1.size+1)=>.inl aa);have d3:=j1.O m0 aa;have l3:=e2.B g5 id id;have e6:ae (·=Z) wr N:=i9.V g5 λ_ c=>c.elim;have b7:ae (·=a.1.size) w2 N:=h5.V e6 λq (s:q=Z)=>.inl aa;have k9:=k7.B e6 aa;have j5:=e6.4;have v4:w2.1.size<=b2.1.size:=dI h5.4 i9.4;generalize b2.1.size=r6 at d3 br v4⊢;clear j0 j1 m0 g5 e2 e6 i9 b2 y0;have m5:=aP d3;have t8:=aP br;have f2: ¬b=a.1.size:=aa
    have y2:=b7.Y x6 f2;have y3:=b7.Y (j4 8 _ aA b8.9) f2;have f3:b<N.1.size:=dX b7.4 G.4
    have e1:=h1.B b7 w5 o3;have c2:=λm=>Bv m h.1 g.4 n1;have n2:=Cw h g.4;obtain⟨P,i5⟩:∃P,eh i g.4=P:=⟨_,rfl⟩;have r4:ay (eh i g.4=P):=i5;rw[i5]at c2 n2;clear i5;dsimp only[cu]at c2;have n4:=e1.O P;have v8:=v7 P;refine dG (λk=>k==9||k==11) ah ah ?_;intro c6 a3 d1 b3 g6 X I;have l0:∀x,aF (a3 x) okB cu eF n b9:=λx=>by
     obtain⟨k4,cl,a0,b5⟩:=e1.1;exact⟨k4,cl,(X x _ e1.1.O).trans a0,b5⟩
    iterate 4 (refine gg ah bf bf λU B=>?_;go_big_quiet_op;refine B _ ?_;clear B U)
    refine nU ah bf (.tmp 6) rfl rfl (λm ⟨x,t⟩=>aw t ((X x _ m5).trans d3)) underlying467 rfl (by rw[h9];kernel_rfl) ?_;go_frame;iterate 4 (refine gg ah bf bf λU B=>?_;go_big_quiet_op;refine B _ ?_;clear B U)
    refine jV ah bf λE u=>?_;go_wp2_with (go_at_call 374;refine(c2 _).mono ?_;rintro t O ⟨rfl,f7⟩);have b6:ae (λ_=>False) N O:=(ae.T _ _).m.B f7;refine u _ _ ah (λ_=>I _ b6.below) ?_;clear u E;refine yn nY underlying495 De ah bf (.tmp 44) (.tmp 50) rfl rfl (λm ⟨x,t⟩=>aw t ((l0 x).T)) rfl n2 (pZ _) ?_;go_frame;have n5:=ai.B n4 b6;refine jV ah bf λE u=>?_;go_wp2_with (at_range;refine uK (v:=.map (aB b9 P)) underlying510 rfl (.tmp 51) rfl rfl n5 ?_;intro g2 o5 x7 h0);have a4:=b6.B o5;refine u _ _ ah (λ_=>I _ a4.below) ?_;clear u E;refine cR ?_;clear b3 g6 X I l0 d1 a3 c6;have v3:Z<O.1.size:=aI b6.4
    have t6:r6+1<O.1.size:=aI b6.4
    generalize O.1.size=b0 at h0 x7 v3 t6⊢;have s5:=l3.B a4 id id;have k8:=k9.B a4 id;have l7:ae (·=a.1.size) w2 g2:=b7.V a4 λ_ c=>c.elim;have t5:=a4.O d3 id;have t7:=a4.O br id;have B0:b0<g2.1.size:=aa
    clear b6 a4 f7 o5 l3 k9 b7 n4 n5 j5 d3 br e1 c2 m5 t8 f3 y3 y2 O N;go_wp2
    go_loopg [] (T P).length (λgk g4=>∃V:List (bS×Nat),V.length+gk=(T P).length∧ae (·=a.1.size) w2 g4∧ae (λq=>q=a.1.size∨q=b0) g2 g4∧iy g4 okB cu oz (.map (aB b9 P)) b0 (T P) V∧aF g4 okB cu cg a.1.size (ie dA (jG K g.1 g.2 (a1++V.map λr=>(kv i r.1,C*r.2 % dA)))))
    case atStart=>exact⟨[],af,l7,.T _ _,h0,aV k8⟩
    case round=>
     clear h0 k8 l7;obtain⟨V,z4,s9,h7,h3,s4⟩:=hrel;go_wp2_with (at_next;refine uJ nY rfl (.tmp 52) rfl rfl h3 ?_ ?_)
     ·intro i1;have i2:=h3.T λ⟨x,k1⟩ j3=>i1 x k1 j3;have A8:(a1++V.map λr=>(kv i r.1,C*r.2 % dA)).Perm ((came++ [(i,C)]).flatMap (oq g T)):=by
       rw[JZ];refine o1.append ?_;simp only[Kp,List.flatMap_nil,vD,oq];rw[r4.out];exact(i2.map _).symm
      have z2:=s5.B h7 aa aa;have B2:=h7.4;go_wp2
      go_roundg j6
      case measure=>omega
      grind
     ·intro r Q g3 x0 A6 A2 o6 e0;obtain⟨m2,rfl⟩:∃m2,gk=m2+1:=⟨gk- 1,aa⟩;have f4:okB r:=e0.I.2.2.1 (r,Q) af;have o2:(bu r).size=12:=aw kC f4.1
      have x2:Q<oJ:=v8 (r,Q) x0;go_wp2_with (first|(refine uI rfl (.tmp 52) rfl rfl e0 ?_;dsimp only[cu,oz])|(refine iV rfl (.tmp 8) (.tmp 56) rfl rfl (cz _ _) rfl sizeOf467 o2 (lf r) ?_;intro ax o7 i0));have h8:ae (·=b0) wr ax:=(o6.I _).V o7 λq (s:q=g3.1.size)=>.inl (aI o6.4);have l2:=e0.B (((ae.T (λ_=>False) g3).I _).V o7 λq (s:q=g3.1.size)=>.inl aa) (λ_ _=>id) id;have a5:ae (·=a.1.size) w2 ax:=s9.V h8 λq (s:q=b0)=>.inl aa;have e5:ae (λq=>q=a.1.size∨q=b0) g2 ax:=h7.V h8 λq (s:q=b0)=>.inr (.inr s);have a6:=G.4;have l9:=e5.O t5 aa;have m4:=e5.O t7 aa;have k0:=a5.Y (j4 0 _ aA b8.1) f2;have y1:=a5.Y (j4 1 _ aA b8.2) f2;rw[rA]at k0;have s1:=s4.B h8 aa;have x5:=j2.B a5 (λq _ s (i6:q=a.1.size)=>aI (f8.O s));have s8:=h4.B a5 (λq s (i6:q=a.1.size)=>aa);have c3:=λm=>U1 m h f4;have c4:=λm=>U2 C Q x2 m;rw[k2.out]at c4;have aK:=λ(m:ag)(i7:ae (λ_=>False) ax m)=>LR (x5.B i7 λ_ _ _ c=>c) (s8.B i7 λ_ _ c=>c) (s1.B i7 id) t4 w6 J g.2 v9 (KP h f4) (C*Q % dA);have k3:ay (ie dA (jG K g.1 g.2 (a1++(V++ [(r,Q)]).map λr=>(kv i r.1,C*r.2 % dA)))=od K g.1 g.2 (ie dA (jG K g.1 g.2 (a1++V.map λr=>(kv i r.1,C*r.2 % dA)))) (kv i r) (C*Q % dA)):=by
       show _=_;rw[iL,<-Av];exact Oc _ _ _ _ _
      generalize od K g.1 g.2 (ie dA (jG K g.1 g.2 (a1++V.map λr=>(kv i r.1,C*r.2 % dA)))) (kv i r) (C*Q % dA)=y6 at aK k3;generalize C*Q % dA=B5 at c4 aK;have t3:(bu (kv i r)).size=12:=aw kC ((KP h f4).1)
      generalize kv i r=ab at c3 aK t3;dsimp only[cu]at c3 aK;have n3:=aP i0;have f3:b<ax.1.size:=aI a5.4
      have v5:=aP l9;have A1:=aP m4;generalize g3.1.size=y8 at i0 n3⊢;obtain⟨C7,C8,_⟩:=bJ m4;refine dG (λk=>k==7||k==10||k==11) ah ah ?_;intro c6 a3 d1 b3 g6 X I;iterate 5 (refine gg ah bf bf λU B=>?_;go_big_quiet_op;refine B _ ?_;clear B U)
      refine nU ah bf (.tmp 6) rfl rfl (λm ⟨x,t⟩=>aw t ((X x _ v5).trans l9)) underlying467 rfl (by rw[h9];kernel_rfl) ?_;go_frame;refine nU ah bf (.tmp 8) rfl rfl (λm ⟨x,t⟩=>aw t ((X x _ n3).trans i0)) underlying467 rfl (by rw[o2];kernel_rfl) ?_;go_frame;refine jV ah bf λE u=>?_;go_wp2_with (go_at_call 376;refine(c3 _).mono ?_;rintro t x9 ⟨rfl,o8⟩);have g7:ae (λ_=>False) ax x9:=(ae.T _ _).m.B o8;refine u _ _ ah (λ_=>I _ g7.below) ?_;clear u E;iterate 2 (refine gg ah bf bf λU B=>?_;go_big_quiet_op;refine B _ ?_;clear B U)
      refine jV ah bf λE u=>?_;go_wp2_with (go_at_call 377;refine(c4 _).mono ?_;rintro t B6 ⟨rfl,o9⟩);have b4:=g7.B o9;refine u _ _ ah (λ_=>I _ b4.below) ?_;clear u E;refine jV ah bf λE u=>?_;go_wp2_with (go_at_call 363;refine(aK _ b4).mono ?_;rintro t B7 ⟨rfl,f6,s2⟩);refine u _ _ ah (cS ah) ?_;clear u E;refine cR ?_;clear b3 g6 X I d1 a3 c6;have t0:=(a5.V b4 λ_ c=>c.elim).B f6;have t1:=(e5.V b4 λ_ c=>c.elim).V f6 λq s=>.inr (.inl s);have s6:=(l2.B b4 (λ_ _=>id) id).B f6 (λq s i6=>o3 _ (ij (aV s)) i6) aa;clear b4 g7 f6 o9 o8 l2 a5 e5 h3 e0;go_wp2
      go_roundg m2
      case measure=>exact pG m2
      case rel=>exact⟨V++ [(r,Q)],bQ,t0,t1,s6,aw k3.out s2⟩
 replace g0:ay _:=g0;clear c8;have f9:∀k v,A[d+k]?=some v->W.cell? ⟨b,d+k,none⟩=some v:=λk v J=>(cI W b (d+k) A 497 (0,0) m9).trans J;cases b1 with
 |some n=>
  have d8:=f9 10 _ b8.11;have s:∀a,(binOp .eql 495 (.map (some n)) (.map none)).run Tryz.prog a=.ok (.bool false) a:=λa=>ah
  obtain⟨e3,v6⟩:=l1 n rfl;have gM:=e3.1.O;have x1:∀p∈kb,p.2<a.1.size:=λp o=>(e3.2 p o).O;have f1:∀w3 z,ae (·=a.1.size) W w3->aF w3 okB cu cg a.1.size z->z.Perm (ie dA (jG K g.1 g.2 (f.flatMap (oq g F))))->c1 w3:=by
   intro w3 z a0 b5 g8;rw[d0];have k5:ae (λ_=>False) a w3:=Y.V a0 λq (s:q=a.1.size)=>.inl aa;exact⟨z,n,kb,F,b5,e3.B k5 id (λ_ _=>id),g8,.inl ⟨rfl,rfl,rfl,k5⟩⟩
  have s7:=e3.B Y id (λ_ _=>id);clear d0 l1;go_wp2;exact g0.out W n kb F _ _ _ _ _ _ _ _ _ _ _ _ _ _ _ _ _ _ _ _ (ae.T _ _) (λk v _ J=>f9 k v J) d8 s7 v6 aa (λp o=>aI (x1 p o)) f1
 |none=>
  have d8:=f9 10 _ b8.11;have s:∀a,(binOp .eql 495 (.map none) (.map none)).run Tryz.prog a=.ok (.bool true) a:=λa=>ah
  have g1:=(ae.T (λ_=>False) W).I (.map #[] 0);have i3:=g1.O m9 id;have r8:(W.alloc (.map #[] 0)).frozen? ⟨b,d+10,none⟩=false:=kH i3;have r7:=g1.Y d8 id;replace d0:ay _:=d0;go_wp2;obtain⟨W2,a6⟩:∃W2,W2=(W.alloc (.map #[] 0)).setCell ⟨b,d+10,none⟩ (.map (some (a.1.size+1))):=⟨_,rfl⟩;rw[<-a6];have v2:=aP i4;have G:ae (·=b) W W2:=aw a6 ((g1.Z (D:=(·=b))).U (.inr rfl) _)
  have m7:W2.1[b]?=some (.cells (A.setIfInBounds (d+10) (.map (some (a.1.size+1)))) 497):=aw a6 (fQ i3 _)
  have w0:aF W2 okB cu eF (a.1.size+1) []:=by
   have x8:ae (·=b) (W.alloc (.map #[] 0)) W2:=aw a6 ((ae.T (·=b) _).U (.inr rfl) _)
   rw[<-d6];exact(aF.I (w:=W)).B x8 (by show ¬W.1.size=b;omega)
  have h1:gS W2 (a.1.size+1) [] (λ_=> []):=⟨w0,af,af,af,λ_ _=>rfl⟩;have H:=b8.I (some (a.1.size+1));have L:=λk v J=>(cI W2 b (d+k) _ 497 (0,0) m7).trans (J:(A.setIfInBounds (d+10) (AH (some (a.1.size+1))))[d+k]?=some v);have k0:=L 0 _ H.1;have y1:=L 1 _ H.2;have B9:=L 2 _ H.3;have C0:=L 3 _ H.4;have C1:=L 4 _ H.5;have C2:=L 5 _ H.6;have C3:=L 6 _ H.7;have C4:=L 7 _ H.8;have C5:=L 8 _ H.9;have C6:=L 9 _ H.c9;have B8:=L 10 _ H.11;rw[rA]at k0;have h4:=(l6.B Y (λ_ _=>id)).B G (λi h d5=>by subst d5;omega);have j2:=(f8.B Y (λ_ _ _ c=>c)).B G (λi d h d5=>by subst d5;rw[v1]at h;cases h);have B4:=G.4;have f3:b<W2.1.size:=aa
  have f5:W2.1.size=a.1.size+2:=by rw[a6];simp[d6]
  replace f5:ay _:=f5;replace d6:ay _:=d6;clear a6 g1 i3 r8 r7 d8 s f9;refine qN (·=a.1.size+1) (λk=>k==8||k==9) ah ah ?_;intro c6 a3 d1 b3 X I;have r9:∀x d,(a3 x).cell? ⟨b,d,none⟩=W2.cell? ⟨b,d,none⟩:=λx d=>b3 x b d f3 aa;iterate 8 (refine gg ah bf bf λU B=>?_;go_big_quiet_op;refine B _ ?_;clear B U)
  refine jV ah bf λE u=>?_;go_wp2_with (go_at_call 375;refine(U0 _ _ _ _).mono ?_;rintro t N ⟨rfl,a9⟩;replace a9:ay _:=a9);have c7:ae (λ_=>False) W2 N:=aw a9.out (((ae.T _ _).m).I _)
  have m6:N.1[W2.1.size]?=some (.cells #[.map (e g.3.3 g.3.a.n).1,.map (e g.3.3 g.3.a.n).2.1,.map (e g.3.3 g.3.a.n).2.2] 491):=aw a9.out (cz _ _)
  have j5:W2.1.size<N.1.size:=aP m6;clear a9;refine u _ _ ah (λ_=>I _ c7.Z) ?_;clear u E;have e4:=h4.B c7 (λ_ _ c=>c);have a9:=j2.B c7 (λ_ _ _ c=>c);have a7:=e4.4 g.3.3 g.3.a.n;have o4:=f5.out;have c9:=LU (v:=.slice a8 e8 f0) (m1:=.map (e g.3.3 g.3.a.n).1) (m2:=.map (e g.3.3 g.3.a.n).2.1) (m3:=.map (e g.3.3 g.3.a.n).2.2) (live:=g.2) (neg:=g.3.2) a9 (⟨.slice l y d4,rfl,x4⟩:mn c [.string g.3.a.n,.slice l y d4] g.3.a) o.1 o.2.1 n1 v0 (h1.B c7 id (λ_ _=>id))
   (Ye m6 (e4.1 g.3.3 g.3.a.n) (e4.2 g.3.3 g.3.a.n) (e4.3 g.3.3 g.3.a.n)) (ae.T _ _)
   (λi h=>by
    rcases h with rfl|h|h|h
    ·exact j5
    ·have:=a7 i (.inl h);omega
    ·have:=a7 i (.inr (.inl h));omega
    ·have:=a7 i (.inr (.inr h));omega)
   ⟨λh=>by
    rcases h with h|h|h|h
    ·omega
    ·have:=a7 _ (.inl h);omega
    ·have:=a7 _ (.inr (.inl h));omega
    ·have:=a7 _ (.inr (.inr h));omega,λp o=>nomatch o⟩
   (λi d h=>⟨aI (f8.O h),λp o=>nomatch o⟩)
   (λy7 a=>ah)
  clear o4 a7;refine jV ah bf λE u=>?_;go_wp2_with (go_at_call 367;refine c9.mono ?_;rintro t O ⟨M,a2,rfl,t2,l4,f7,n8⟩);have o4:=f5.out;have B1:=d6.out;have x3:ae (λi=>i=a.1.size+1) N O:=f7.cW λi _ h=>by
   rcases h with h|⟨p,o,_⟩
   ·exact h
   ·cases o
  have h6:ae (λi=>i=a.1.size+1) W2 O:=c7.Z.B x3;refine u _ _ ah (λ_=>I _ h6) ?_;clear u E;refine cR ?_;clear b3 r9 X I d1 a3 c6 c9;have l8:ae (·=b) W O:=G.V h6 λq (s:q=a.1.size+1)=>.inl aa;have m8:=h6.O m7 aa;have p3:=λk v J=>(cI O b (d+k) _ 497 (0,0) m8).trans (J:(A.setIfInBounds (d+10) (AH (some (a.1.size+1))))[d+k]?=some v);go_wp2;refine g0.out O (a.1.size+1) M _ _ _ _ _ _ _ _ _ _ _ _ _ _ _ _ _ _ _ _ _ l8 (λk v z8 J=>p3 k v ?_) (p3 10 _ H.11) l4 (Pr a2 _ λ_ p o=>nomatch o) aa (λp o=>?_) (λw3 z a0 b5 g8=>?_)
  ·rw[mQ aa];exact J
  ·rcases n8 p o with c|c
   ·cases c
   ·omega
  ·rw[d0.out];have o0:∀p∈M,W2.1.size<=p.2:=λp o=>by
    rcases n8 p o with c|c
    ·cases c
    ·omega
   refine⟨z,a.1.size+1,M,_,b5,l4.B a0 (by show ¬a.1.size+1=a.1.size;omega) (λp o (s:p.2=a.1.size)=>aI (o0 p o)),g8,.inr ⟨trivial,aa,λp o=>aI (o0 p o),⟨a2,t2,rfl⟩,?_,a0.O m8 aa⟩⟩;exact(Y.Z.B l8).V a0 λq (s:q=a.1.size)=>.inl aa
theorem My:fW Tryz.prog 477 497 11 120:=.B underlying477 (z:=.agg #[.slice none 0 0,.int .u16 0,iJ,.slice none 0 0,false,.map none,.map none,.map none,.int .u16 0,.int .u16 0,.map none]) ah rfl aA
theorem acy(a:bC)(l c)(w:ag):(binOp .eql 477 (.slice (some a) l c)<|.slice none 0 0).run Tryz.prog w=.ok false w:=ah
theorem aab(w:ag):(binOp .eql 477 (.slice none 0 0)<|.slice none 0 0).run Tryz.prog w=.ok true w:=ah
abbrev ve:=List fC×Nat
def kG(c:Nat->List cO->ve)(live head:Nat)(a:List cO)(b:ve)(i:Nat):ve:=
 match a[i]? with
 |none=>b
 |some y=>if y.2 then b else
  let st:=lp live head a i y
  let o:=c st.2 (ky live head a i y)
  let cost:=o.2+mJ (live|||st.5)
  if b.1= []∨cost<b.2 then(st::o.1,cost)else b
def f_(head:Nat):Nat->Nat->List cO->ve
 |0,_,_=>([],0)
 |n+1,live,a=>(iK a.length).foldl (kG (f_ head n) live head a) ([],0)
theorem BA{a:Nat->List cO->ve}(k):(iK<|k+1).foldl (kG a b d h) ([],0)=kG a b d h ((iK k).foldl (kG a b d h) ([],0)) k:=by
 rw[Kq,iZ];rfl
theorem Nu{live head:Nat}{rest:List cO}{i:Nat}{y:cO}(a:i<rest):(ky live head rest i y)<rest.length:=by
 unfold ky e9;grind
theorem FY{live head:Nat}{i:Nat}{y:cO}(a:∀p∈h,fw p):∀p∈ky live head h i y,fw p:=by
 intro p b;exact a p<|(xm _ _).subset (qu.1 b).1
theorem GW{live head:Nat}{rest:List cO}{i:Nat}(b:live<4096)(c:fw s):(lp live head rest i s).2<4096∧(lp live head rest i s).5<4096:=by
 have a:yo live head _ (rest.eraseIdx i)<4096:=qC<|qC<|oB c.2.1;exact⟨qC<|uu b a,a⟩
theorem Md(head):∀(n live) (rest:List cO),live<4096->(∀p∈rest,fw p)->(f_ head n live rest).2<=n*1152921504606846976
 |0,_,_,_,_=>nK _
 |n+1,live,rest,b,d=>by
  have e:∀k,k<=rest.length->((iK k).foldl (kG (f_ head n) live head rest) ([],0)).2<=(n+1)*1152921504606846976:=by
   intro k;induction k with
   |zero=>grind
   |succ k a=>
    intro c;rw[BA];have a:=a aa;unfold kG;cases f:rest[k]? with
    |none=>grind
    |some y=>
     have c:=GW (head:=head) (rest:=rest) (i:=k) b (d y<|cA f);have f:=Md head n _ (ky live head _ k y) c.1<|FY d;have d:=Gs<|uu b c.2;dsimp only;split;exact a;grind
  exact e _<|aa
theorem E4(a):∀(n live) (b:List cO),(f_ a n live b).1<=n
 |0,_,_=>nK _
 |n+1,live,b=>by
  have d:∀k,((iK k).foldl (kG (f_ a n) live a b) ([],0)).1.length<=n+1:=by
   intro k;induction k with
   |zero=>grind
   |succ k c=>
    rw[BA];unfold kG;cases e:b[k]? with
    |none=>exact c
    |some y=>
     have e:=E4 a n (lp live a b k y).2<|ky live a b k y;dsimp only;split;exact c;split;grind;exact c
  exact d _
theorem iN.I:∀a p,iN e c a p->∀u∈a,u.oneCell'=true:=by
 intro a p H q a;obtain⟨v,u,rfl,b,d⟩:=H;obtain⟨a1,c1,rfl⟩:=b.I;obtain⟨a2,c2,rfl⟩:=d.I;simp at a;rcases a with rfl|rfl|rfl|rfl|rfl|rfl|rfl|rfl|rfl|rfl|rfl<;>rfl
theorem U_{V:Bool->ByteArray->fT}(head:Nat)(h8:head<4096):∀(n),n<=4->∀ {h:ai}{w:World}(_:h.In w){P:Option Addr}{X u:Nat}{rest:List cO}(_:h.list 6 (cF V) (.slice P X u) rest)(_:rest.length<=n)(_:∀j2∈rest,fw j2)(live:Nat) (_:live<4096),
  aH 372 #[.int .u16 live,.slice P X u,.int .u16 head] w λe z=>∃a1 c1,e=.returned (.tuple #[.slice a1 (f_ head n live rest).1 c1,.int .i64 (f_ head n live rest).2])∧au w z∧
   ∃k,k.In z∧ai.Ext w h k∧aM z w 497 11 (iN V) k (.slice a1 (f_ head n live rest).1 c1) (f_ head n live rest).1:=by
 intro n
 induction n with
 |zero=>
  intro i1 h w v P X u rest I i0 U live b3;obtain⟨d3,d5,d0,f4⟩:=I.U v;have h5:rest= []:=aJ;subst h5;obtain⟨rfl,rfl,rfl⟩:P=d3∧X=0∧u=d5:=aV d0
  go_enter func372,ntmps372;go_wp2
  go_loopw [8,9,18] (λd2 e6 i wr=>d2=.slice none 0 0∧e6=.int .i64 0∧i=.int .i64 0∧wr=w) (λ_ _ _ _=>0)
  grind
  case round=>
   obtain⟨rfl,rfl,rfl,rfl⟩:=hrel;go_wp2
   go_ret2
   exact⟨_,_,rfl,.T _ _,h,v,ai.Ext.I _ _,.m v⟩
 |succ n e2=>
  intro i1 h w v P X u rest I i0 U live b3;obtain⟨d3,d5,d0,f4⟩:=I.U v;obtain⟨rfl,rfl,rfl⟩:P=d3∧X=rest.length∧u=d5:=aV d0
  clear d0;have j9:∀b o,h b=some o->b<w.1.size:=λb o c=>v.O c;go_enter func372,ntmps372;go_wp2
  go_loopw [8,9,18] (λd2 e6 i wr=>∃(k:Nat)(O:Option Addr)(c8:Nat)(a:ve),k<=rest.length∧i=.int .i64 k∧d2=.slice O a.1.length c8∧e6=.int .i64 a.2∧au w wr∧Hid ((List.range k).foldl (kG (f_ head n) live head rest) ([],0)=a)∧Hid (a.2<=(n+1)*1152921504606846976∧a.1.length<=n+1∧(a.1= []->O=none∧c8=0)∧(a.1≠ []->O≠none))∧∃L:ai,L.In wr∧ai.Ext w.1.size h L∧aM wr w.1.size 497 11 (iN V) L d2 a.1) (λ_ _ i _=>rest.length-(intOf i).toNat)
  case atStart=>exact⟨0,_,0,([],0),aa,rfl,rfl,rfl,ae.T _ w,rfl,⟨aa,af,af,af⟩,h,v,ai.Ext.I _ _,.m v⟩
  case round=>
   obtain⟨k,O,c8,a,Q,rfl,rfl,rfl,m,br,ax,L,d6,e0,c7⟩:=hrel;by_cases g0:k<rest.length
   ·obtain⟨y,d1⟩:∃y,rest[k]?=some y:=⟨_,List.getElem?_eq_getElem g0⟩;obtain⟨j7,o,cc,rfl,aK,f3,f6⟩:=f4 k y d1;obtain⟨e7,e8,rfl,j8⟩:=f3.I;obtain⟨j5,j6,f0,h1,h2,h3⟩:=m.am f6 id;have i6:=U y<|List.mem_of_getElem? d1;have t:Hid<|(List.range<|k+1).foldl (kG (f_ head n) live head rest) ([],0)=if y.2 then a else if a.1= []∨(f_ head n (lp live head rest k y).2<|ky live head rest k y).2+mJ (live|||(lp live head rest k y).5)<a.2 then(lp live head rest k y::(f_ head n (lp live head rest k y).2<|ky live head rest k y).1,(f_ head n (lp live head rest k y).2<|ky live head rest k y).2+mJ (live|||(lp live head rest k y).5))else a:=by
     show _=_;rw[BA,br.out];unfold kG;rw[d1]
    clear f6 aK;obtain⟨e3,g2⟩:=gB<|(V y.3 y.a.n).1;obtain⟨e4,g3⟩:=gB<|(V y.3 y.a.n).2.1;obtain⟨e5,g4⟩:=gB<|(V y.3 y.a.n).2.2;rw[g2]at h1;rw[g3]at h2;rw[g4]at h3;clear g2 g3 g4 f3;cases T:y.2 with
    |true=>
     rw[T]at f0;have F:Hid<|(List.range<|k+1).foldl (kG (f_ head n) live head rest) ([],0)=a:=aJ
     go_wp2;go_roundw
     case rel=>exact⟨k+1,O,c8,a,aa,ba,rfl,rfl,m.I _,F,ax,L,d6.B ae.al i3,e0,c7.I ae.al i2 i3⟩
     case measure=>simp[intOf];omega
    |false=>
     rw[T]at f0;obtain⟨g7,c9⟩:∃g7,rest.length=g7+1:=⟨rest.length- 1,aa⟩;rw[c9]at I;have x:=λ(z:World)(i4:au w z)=>U6 (v.B i4 i3) c9 I aa U live head b3 h8 k d1 rfl rfl;rw[<-c9]at x;clear c9;have f9:(ky live head rest k y).length<=n:=aI<|Nu (live:=live) (head:=head) (y:=y) g0
     have d7:=FY (live:=live) (head:=head) (i:=k) (y:=y) U;have b5:=GW (head:=head) (rest:=rest) (i:=k) b3 i6;generalize lp live head rest k y=st at x t b5;generalize ky live head rest k y=b6 at x t f9 d7;have aK:=Md head n st.2 b6 b5.1 d7;have g1:=Gs<|uu b3 b5.2;have D:=λ(z:World)(f2:ai)(i5:f2.In z)(a2:Option Addr)(c2:Nat)(h9:f2.list 6 (cF V) (.slice a2 b6.length c2) b6)=>e2 aa i5 h9 f9 d7 st.2 b5.1;have d8:=E4 head n st.2 b6;generalize f_ head n st.2 b6=j1 at D t aK d8;obtain⟨b7,M⟩:=j1;dsimp only at D t aK d8;have E:=λz=>LQ (live|||st.5) (uu b3 b5.2) z;have b1:=u16_or_nat live st.5 aa aa;generalize live|||st.5=j0 at E t g1 b1;generalize mJ j0=N at E t g1;have k1:b7.length<=n:=d8;by_cases c:a.1= []
     ·obtain⟨rfl,rfl⟩:=ax.out.2.2.1 c;have f5:a.1.length=0:=aJ
      have k0:=aab;have F:Hid<|(List.range<|k+1).foldl (kG (f_ head n) live head rest) ([],0)=(st::b7,M+N):=by show _=_;rw[t.out,if_neg (by rw[T];decide),if_pos<|.inl c]
      clear c T I U e2;rw[f5];clear f5 t c7
      go_wp2_with (first|(go_at_call 380;refine(x _<|m.I _).mono ?_;clear x;rintro e w2 ⟨p,q,r,s,a2,c2,rfl,K,j,a6,W,a8,b2,b0⟩;have H:au w w2:=(m.I<|.cells #[y.a.n,.slice e7 y.a.2.length e8,false,e3,e4,e5] 493).B K;have a7:=a6.B ((ae.T bE w2).I<|.cells #[.slice p st.1.length q,.int .u16 (st.2:Nat),st.3.a.n,.slice r st.3.a.2.length s,st.3.2,.map (V st.3.3 st.3.a.n).1,.map (V st.3.3 st.3.a.n).2.1,.map (V st.3.3 st.3.a.n).2.2,.int .u16 (st.4:Nat),.int .u16 (st.5:Nat),.map none] 497) i3)|
       (go_at_call 372;refine(D _ j a7 a2 c2 b0).mono ?_;clear D;rintro e w4 ⟨a4,c4,rfl,l,g6,f8,C,B⟩;obtain⟨d,a3,a9,b4,c6⟩:=B.U λg5 Q u g8=>iN.B Q;have g:ai.Ext w2.1.size j d:=⟨C.1.B a9,λb o c=>(b4 b o c).elim (λh=>(C.2 b o h).imp id (λh=>by simp only[World.size_alloc]at h;omega)) λh=>.inr (by have G:=(B.B b h).1;simp only[World.size_alloc]at G;omega)⟩;have A:=l.O (heap_alloc_new w2<|.cells #[.slice p st.1.length q,.int .u16 (st.2:Nat),st.3.a.n,.slice r st.3.a.2.length s,st.3.2,.map (V st.3.3 st.3.a.n).1,.map (V st.3.3 st.3.a.n).2.1,.map (V st.3.3 st.3.a.n).2.2,.int .u16 (st.4:Nat),.int .u16 (st.5:Nat),.map none] 497) id;have f1:=(cell_of_row _ _ 9 _ 497 (0,0) A).trans rfl)|
       (go_at_call 357;refine(E _).mono ?_;clear E;rintro e b9 ⟨rfl,f⟩;have c3:=f.O A id;have a5:=a3.B f i3;have S:=aM.ku (α:=fC) (e:=497) (R:=iN V) a5 #[.slice p st.1.length q,.int .u16 (st.2:Nat),st.3.a.n,.slice r st.3.a.2.length s,st.3.2,.map (V st.3.3 st.3.a.n).1,.map (V st.3.3 st.3.a.n).2.1,.map (V st.3.3 st.3.a.n).2.2,.int .u16 (st.4:Nat),.int .u16 (st.5:Nat),.map none] rfl (show iN V d _ st from⟨_,_,rfl,ai.list.B (h:=j) (k:=d) (λ_ _=>cF.B g.1) a8 g.1,ai.list.B (h:=j) (k:=d) (λ_ _ b8=>b8) b2 g.1⟩)<|Nat.le_refl _;have a0:au w b9:=((H.I _).B l).B f)|
       (refine oC rfl (.tmp 12) rfl rfl c3 underlying497 rfl ah ?_)|
       (at_builtin;refine Dd My rfl (.tmp 58) (.tmp 59) rfl S rfl c6 rfl iN.I (by simp[maxLen];omega) bQ af ?_;intro j3 j4 J d9 h6))
      obtain⟨h4,h0,rfl,-,-⟩:=J.ac<|List.cons_ne_nil _ _;have i7:=H.4;have e1:=l.4;have i8:=f.4;have i9:=m.4;simp[World.size_alloc]at e1;go_roundw
      case rel=>
       refine⟨k+1,_,_,(st::b7,M+N),aa,ba,rfl,ba,(a0.I _).V d9 λb c=>.inl (by have G:=(S.B b c).1;omega),F,⟨?_,?_,(λh=>nomatch h),(λ_ h=>nomatch h)⟩,d,J.V,⟨W.1.B g.1,λb o c=>?_⟩,J.Z aa⟩
       omega
       grind
       ·rcases g.2 b o c with Y|Y
        ·rcases W.2 b o Y with Z|Z
         grind
         ·simp[World.size_alloc]at Z;omega
        omega
      case measure=>simp[intOf];omega
     ·obtain⟨d4,rfl⟩:∃d4,O=some d4:=Option.ne_none_iff_exists'.1<|ax.out.2.2.2 c;have k2:=λw=>acy d4 a.1.length c8 w;by_cases f7:M+N<a.2
      ·have F:Hid<|(List.range<|k+1).foldl (kG (f_ head n) live head rest) ([],0)=(st::b7,M+N):=aJ
       have h7:(M:Int)+(N:Int)<(a.2:Int):=aa
       go_wp2_with (first|(go_at_call 380;refine(x _<|m.I _).mono ?_;clear x;rintro e w2 ⟨p,q,r,s,a2,c2,rfl,K,j,a6,W,a8,b2,b0⟩;have H:au w w2:=(m.I<|.cells #[y.a.n,.slice e7 y.a.2.length e8,false,e3,e4,e5] 493).B K;have a7:=a6.B ((ae.T bE w2).I<|.cells #[.slice p st.1.length q,.int .u16 (st.2:Nat),st.3.a.n,.slice r st.3.a.2.length s,st.3.2,.map (V st.3.3 st.3.a.n).1,.map (V st.3.3 st.3.a.n).2.1,.map (V st.3.3 st.3.a.n).2.2,.int .u16 (st.4:Nat),.int .u16 (st.5:Nat),.map none] 497) i3)|
       (go_at_call 372;refine(D _ j a7 a2 c2 b0).mono ?_;clear D;rintro e w4 ⟨a4,c4,rfl,l,g6,f8,C,B⟩;obtain⟨d,a3,a9,b4,c6⟩:=B.U λg5 Q u g8=>iN.B Q;have g:ai.Ext w2.1.size j d:=⟨C.1.B a9,λb o c=>(b4 b o c).elim (λh=>(C.2 b o h).imp id (λh=>by simp only[World.size_alloc]at h;omega)) λh=>.inr (by have G:=(B.B b h).1;simp only[World.size_alloc]at G;omega)⟩;have A:=l.O (heap_alloc_new w2<|.cells #[.slice p st.1.length q,.int .u16 (st.2:Nat),st.3.a.n,.slice r st.3.a.2.length s,st.3.2,.map (V st.3.3 st.3.a.n).1,.map (V st.3.3 st.3.a.n).2.1,.map (V st.3.3 st.3.a.n).2.2,.int .u16 (st.4:Nat),.int .u16 (st.5:Nat),.map none] 497) id;have f1:=(cell_of_row _ _ 9 _ 497 (0,0) A).trans rfl)|
       (go_at_call 357;refine(E _).mono ?_;clear E;rintro e b9 ⟨rfl,f⟩;have c3:=f.O A id;have a5:=a3.B f i3;have S:=aM.ku (α:=fC) (e:=497) (R:=iN V) a5 #[.slice p st.1.length q,.int .u16 (st.2:Nat),st.3.a.n,.slice r st.3.a.2.length s,st.3.2,.map (V st.3.3 st.3.a.n).1,.map (V st.3.3 st.3.a.n).2.1,.map (V st.3.3 st.3.a.n).2.2,.int .u16 (st.4:Nat),.int .u16 (st.5:Nat),.map none] rfl (show iN V d _ st from⟨_,_,rfl,ai.list.B (h:=j) (k:=d) (λ_ _=>cF.B g.1) a8 g.1,ai.list.B (h:=j) (k:=d) (λ_ _ b8=>b8) b2 g.1⟩)<|Nat.le_refl _;have a0:au w b9:=((H.I _).B l).B f)|
       (refine oC rfl (.tmp 12) rfl rfl c3 underlying497 rfl ah ?_)|
       (at_builtin;refine Dd My rfl (.tmp 58) (.tmp 59) rfl S rfl c6 rfl iN.I (by simp[maxLen];omega) bQ af ?_;intro j3 j4 J d9 h6))
       obtain⟨h4,h0,rfl,-,-⟩:=J.ac<|List.cons_ne_nil _ _;have i7:=H.4;have e1:=l.4;have i8:=f.4;have i9:=m.4;simp only[World.size_alloc]at e1;go_roundw
       case rel=>
        refine⟨k+1,_,_,(st::b7,M+N),aa,ba,rfl,ba,(a0.I _).V d9 λb c=>.inl (by have G:=(S.B b c).1;omega),F,⟨?_,?_,(λh=>nomatch h),(λ_ h=>nomatch h)⟩,d,J.V,⟨W.1.B g.1,λb o c=>?_⟩,J.Z aa⟩
        omega
        grind
        ·rcases g.2 b o c with Y|Y
         ·rcases W.2 b o Y with Z|Z
          grind
          ·simp[World.size_alloc]at Z;omega
         omega
       case measure=>simp[intOf];omega
      ·have F:Hid<|(List.range<|k+1).foldl (kG (f_ head n) live head rest) ([],0)=a:=by show _=_;rw[t.out,if_neg (by rw[T];decide),if_neg (by rintro(h|h);exact c h;exact f7 h)]
       have h7: ¬(M:Int)+(N:Int)<(a.2:Int):=aa
       clear c T I U e2 t f7
       go_wp2_with (first|(go_at_call 380;refine(x _<|m.I _).mono ?_;clear x;rintro e w2 ⟨p,q,r,s,a2,c2,rfl,K,j,a6,W,a8,b2,b0⟩;have H:au w w2:=(m.I<|.cells #[y.a.n,.slice e7 y.a.2.length e8,false,e3,e4,e5] 493).B K;have a7:=a6.B ((ae.T bE w2).I<|.cells #[.slice p st.1.length q,.int .u16 (st.2:Nat),st.3.a.n,.slice r st.3.a.2.length s,st.3.2,.map (V st.3.3 st.3.a.n).1,.map (V st.3.3 st.3.a.n).2.1,.map (V st.3.3 st.3.a.n).2.2,.int .u16 (st.4:Nat),.int .u16 (st.5:Nat),.map none] 497) i3)|
       (go_at_call 372;refine(D _ j a7 a2 c2 b0).mono ?_;clear D;rintro e w4 ⟨a4,c4,rfl,l,g6,f8,C,B⟩;obtain⟨d,a3,a9,b4,c6⟩:=B.U λg5 Q u g8=>iN.B Q;have g:ai.Ext w2.1.size j d:=⟨C.1.B a9,λb o c=>(b4 b o c).elim (λh=>(C.2 b o h).imp id (λh=>by simp only[World.size_alloc]at h;omega)) λh=>.inr (by have G:=(B.B b h).1;simp only[World.size_alloc]at G;omega)⟩;have A:=l.O (heap_alloc_new w2<|.cells #[.slice p st.1.length q,.int .u16 (st.2:Nat),st.3.a.n,.slice r st.3.a.2.length s,st.3.2,.map (V st.3.3 st.3.a.n).1,.map (V st.3.3 st.3.a.n).2.1,.map (V st.3.3 st.3.a.n).2.2,.int .u16 (st.4:Nat),.int .u16 (st.5:Nat),.map none] 497) id;have f1:=(cell_of_row _ _ 9 _ 497 (0,0) A).trans rfl)|
       (go_at_call 357;refine(E _).mono ?_;clear E;rintro e b9 ⟨rfl,f⟩;have c3:=f.O A id;have a5:=a3.B f i3;have S:=aM.ku (α:=fC) (e:=497) (R:=iN V) a5 #[.slice p st.1.length q,.int .u16 (st.2:Nat),st.3.a.n,.slice r st.3.a.2.length s,st.3.2,.map (V st.3.3 st.3.a.n).1,.map (V st.3.3 st.3.a.n).2.1,.map (V st.3.3 st.3.a.n).2.2,.int .u16 (st.4:Nat),.int .u16 (st.5:Nat),.map none] rfl (show iN V d _ st from⟨_,_,rfl,ai.list.B (h:=j) (k:=d) (λ_ _=>cF.B g.1) a8 g.1,ai.list.B (h:=j) (k:=d) (λ_ _ b8=>b8) b2 g.1⟩)<|Nat.le_refl _;have a0:au w b9:=((H.I _).B l).B f))
       go_roundw
       case rel=>exact⟨k+1,_,_,a,aa,ba,rfl,rfl,a0,F,ax,L,(d6.B ((ae.al.B K).I _) i3).B (l.B f) i3,e0,(c7.I ((ae.al.B K).I _) i2 i3).I (l.B f) i2 i3⟩
       case measure=>simp[intOf];omega
   ·obtain rfl:k=rest.length:=aa
    have g9:Hid<|f_ head (n+1) live rest=a:=br.out;go_wp2
    go_ret2
    rw[g9.out];exact⟨_,_,rfl,m,L,d6,e0,c7⟩
theorem ai.Ext.O{n m:Nat}{a b:ai}(h:ai.Ext n a b)(c:m<=n):ai.Ext m a b:=⟨h.1,λx o e=>(h.2 x o e).imp id λh=>dI c h⟩
theorem ai.In.I{w:ag}(h:c.In w)(a:w<=b):c b=none:=by
 cases a:c b with
 |none=>rfl
 |some o=>have:=h.O a;omega
structure cU where
 head:kM
 first:kM
 start:List cO
 live:Nat
 steps:List fC
 cost:Nat
def gV(head first:kM)(a:List cO):cU:=
 ⟨head,first,gU (c5 first.2) a,mE (c5 first.2) (c5 head.2) a,(f_ (c5 head.2) 4 (mE (c5 first.2) (c5 head.2) a) (e9 (c5 first.2) a)).1,(f_ (c5 head.2) 4 (mE (c5 first.2) (c5 head.2) a) (e9 (c5 first.2) a)).2⟩
structure iu(V:Bool->ByteArray->fT)(w:ag)(N:Nat)(k:ai)(jb:Nat)(J:cU):Prop where
 known:k.In w
 low:N<=jb
 free:k jb=none
 top:∃ha hc fa fc sa sc ga gc,w.1[jb]?=some (.cells #[.string J.1.n,.slice ha J.1.2.length hc,.string J.2.n,.slice fa J.2.2.length fc,.slice sa J.3.length sc,.int .u16 (J.4:Nat),.slice ga J.5.length gc,.int .i64 (J.6:Nat)] 479)∧
  k.list 2 dV (.slice ha J.1.2.length hc) J.1.2∧k.list 2 dV (.slice fa J.2.2.length fc) J.2.2∧k.list 6 (cF V) (.slice sa J.3.length sc) J.3∧aM w N 497 11 (iN V) k (.slice ga J.5.length gc) J.5∧(oD ga J.5.length gc).ownBlock≠some jb
variable{i:cU}
theorem iu.I{w:ag}(l:iu e w b c j i)(q:d<=b):iu e w d c j i:=by
 obtain⟨m,a,n,o,p,f,g,r,s,h,k,a1,a2,a3,a4,a5,a⟩:=l;exact⟨m,aa,n,o,p,f,g,r,s,h,k,a1,a2,a3,a4,a5.Z q,a⟩
theorem Bu{V:Bool->ByteArray->fT}{h:ai}{w:ag}(r:h.In w){f d cv s:Option bC}{q g n e aS bc u t:Nat}{head first:kM}{b:List cO}(o:h.list 2 dV (.slice f q g) head.2)(hF:h.list 2 dV (.slice d n e) first.2)(v:h.list 6 (cF V) (.slice s u t) b)
  (D:head.2.length<=3)(A:∀c∈head.2,jE c)(C:first.2.length<=3)(z:∀c∈first.2,jE c)(x:b.length<=4)(B:∀p∈b,fw p):
  aH 362 #[.agg #[head.n,.slice f q g,.slice cv aS bc],.agg #[first.n,.slice d n e],.slice s u t] w λi c=>∃j k,i=.returned (.pointer<|some ⟨j,0,none⟩)∧au w c∧ai.Ext w h k∧iu V c w k j (gV head first b):=by
 obtain⟨l,m,j⟩:=o.I;obtain⟨rfl,rfl,rfl⟩:f=l∧q=head.2.length∧g=m:=aV j;obtain⟨l,m,j⟩:=hF.I;obtain⟨rfl,rfl,rfl⟩:d=l∧n=first.2.length∧e=m:=aV j
 obtain⟨l,m,j⟩:=v.I;obtain⟨rfl,rfl,rfl⟩:s=l∧u=b.length∧t=m:=aV j;have n:=oB A;have m:=oB z;have E:∀p∈e9 (c5 first.2) _,fw p:=λp j=>B p (qu.1 j).1;have u:(e9 (c5 first.2) _).length<=4:=dI (pK _ _) x;have t:mE _ (c5 head.2) b<4096:=qC m;have l:ay (∀x y,c5 head.2=x->c5 first.2=y->gV head first b=⟨head,first,gU y b,mE y x b,(f_ x 4 (mE y x b)<|e9 y b).1,(f_ x 4 (mE y x b)<|e9 y b).2⟩):=by rintro x y rfl rfl;rfl
 generalize gV head first b=J at l⊢
 have p:=λ(c:ag)(j:au w c)=>vV (r.B j i3) (a:=head) ⟨_,rfl,o⟩ D A;have q:=λ(c:ag)(j:au w c)=>vV (r.B j i3) (a:=first) ⟨_,rfl,hF⟩ C z;have s:=λ(c:ag)(j:au w c)=>LW (r.B j i3) v aa B _ _ m n;have r:=λ(c:ag)(j:ai)(m:j.In c)(a2:Option _)(c2:Nat)(c:j.list 6 (cF V) (.slice a2 (e9 (c5 first.2) b).length c2)<|e9 _ _)=>U_ _ n 4 aa m c u E _ t;generalize c5 head.2=j at*;generalize c5 first.2=c at*
 have m:=l.out _ _ rfl rfl;generalize mE c j b=n at*;generalize e9 c b=l at*;generalize gU c b=ask at*;generalize f_ j 4 n l=ch at*;subst m;go_enter func362,ntmps362
 go_wp2_with (first|(go_at_call 322;refine(p _<|ae.al.I _).mono ?_;clear p;rintro i w2 ⟨rfl,b⟩;have c:au w w2:=(((ae.T bE w).I<|.cells #[head.n,.slice f head.2.length g,.slice cv aS bc] 318).I<|.cells #[first.n,.slice d first.2.length e] 315).B b;have p:=b.O (ic w (.cells #[head.n,.slice f head.2.length g,.slice cv aS bc] 318)<|.cells #[first.n,.slice d first.2.length e] 315) id;have l:=b.O (eK w (.cells #[head.n,.slice f head.2.length g,.slice cv aS bc] 318)<|.cells #[first.n,.slice d first.2.length e] 315) id;obtain⟨b,b,_,_⟩:=bJ l)|
  (go_at_call 322;refine(q _ c).mono ?_;clear q;rintro i w3 ⟨rfl,b⟩;have m:=c.B b)|
  (go_at_call 371;refine(s _ m).mono ?_;clear s;rintro i w4 ⟨a1,c1,a2,c2,rfl,c,u,j,x,w,t⟩;have q:=m.B c;have s:=j.B ((ae.T bE w4).I<|.cells #[.slice a1 ask.length c1,.int .u16 (n:Nat)] 476) i3)|
  (go_at_call 372;refine(r _ u s a2 c2 t).mono ?_;clear r;rintro i i ⟨a3,c3,rfl,i,j,s,n,t⟩;have r:=(q.I _).B i;have v:=i.O ((lZ _ _ _<|aP<|c.O (b.O p id) id).trans<|c.O (b.O p id) id) id;have p:=i.O ((lZ _ _ _<|aP<|c.O (b.O l id) id).trans<|c.O (b.O l id) id) id;have b:=i.O (cz w4 _) id;obtain⟨c,c,_,_⟩:=bJ p;obtain⟨s0,s1,_,_⟩:=bJ b;obtain⟨b,b,b,_,_,_⟩:=bq v))
 have b:=q.4;have c:=(x.O m.4).B n bQ;have b:=c.1;go_ret;refine⟨_,j,rfl,r.I _,c,s.B ae.al i3,r.4,s.I<|aa,f,g,d,e,a1,c1,a3,c3,cz _ _,ai.list.B (h:=h) (k:=j) (λ_ _ q=>q) o b,ai.list.B (h:=h) (k:=j) (λ_ _ q=>q) hF b,ai.list.B (h:=u) (k:=j) (λ_ _=>cF.B n.1) w n.1,(t.Z bQ).I ae.al i2 i3,λb=>?_⟩;have:=(t.B _ b).2;omega
structure bW where
 head:kM
 body:List eX
 deriving DecidableEq
structure mg where
 m0:Option Nat
 m1:Option Nat
 m2:Option Nat
 b0:List (ByteArray×Nat)
 b1:List (ByteArray×Nat)
 b2:List (ByteArray×Nat)
def mg.B(s:mg)(n:ByteArray):fT:=(aB s.4 n,aB s.5 n,aB s.6 n)
structure kr(w:ag)(s:mg)(ed F1 F2:ByteArray->List aC):Prop where
 s0:dD w s.1 s.4 ed
 s1:dD w s.2 s.5 F1
 s2:dD w s.3 s.6 F2
variable{v:bW}{C:mg}
theorem kr.B{w w':ag}(h:kr w C N b3 b7)(a:au w w'):kr w' C N b3 b7:=
 ⟨h.1.I a i2 i2,h.2.I a i2 i2,h.3.I a i2 i2⟩
def jm(a b:mg):Bool->ByteArray->fT:=λs n=>if s then b.B n else a.B n
structure fP(r:bW):Prop where
 X_:r.1.2.length<=3
 X1:∀t∈r.1.2,jE t
 ae1:aL r.1.n
 aeS:r.2.length<=4
 Ll:∀l∈r.2,Gf l
theorem qX{s:Bool}{ls:List eX}(h:∀l∈ls,Gf l):∀p∈ls.map (gH s),fw p:=by
 intro p b;obtain⟨l,a,rfl⟩:=ei.1 b;exact h l a
def qW:kM:=⟨iJ,[]⟩
theorem LP(q:c.In a)(u:c.list 2 dV (.slice a8 v.1.2 d) v.1.2)(p:c.list 3 fM (.slice l v.2 b) v.2)(ok:fP v)(j:kr a C N b3 b7):
  aH 356 #[.agg #[v.1.n,.slice a8 v.1.2 d,.slice l v.2 b],.agg #[C.1,C.2,C.3]] a λm g=>∃i k,m=.returned (.pointer<|some ⟨i,0,none⟩)∧au a g∧ai.Ext a c k∧iu (jm C C) g a k i (gV v.1 qW<|v.2.map<|gH false):=by
 obtain⟨W,o,f,e,n,-⟩:=nc a _<|.cells #[C.1,C.2,C.3] 444
 obtain⟨r,a1,a2,_,_,_⟩:=bq e;obtain⟨b0,b1,b2,_,_,_⟩:=bq n;have r:=aP e;have e:=aP n;have n:=λ(g:ag)(e:au W g)=>Bt (V:=jm C C) (s:=false) (q.B (f.B e) i3) (j.B<|f.B e).1 (j.B<|f.B e).2 (j.B<|f.B e).3 (λe=>rfl) p (aI ok.4) ok.5;have r:=qX (s:=false) ok.5;have q:(v.2.map<|gH false).length<=4:=aw di ok.4
 generalize v.2.map _=e at n r q;go_enter func356,ntmps356;go_wp2_with (rw[<-o]);clear o;apply dG (λe=>e==5||e==6||e==7) ah ah;intro S e e e e e p;refine aD ?_;refine aD ?_;refine aD ?_;refine aD ?_;refine aD ?_
 refine a_ λo e=>?_;go_wp2_with (go_at_call 361;refine(n _ (ae.T _ W).m).mono ?_;rintro m w2 ⟨g,rfl,j,n⟩);have g:=ae.ft j;apply e _ _ ah (λ_=>p _ g.below);obtain⟨j,x,t,y,z⟩:=n.U λj w A A=>cF.B w;obtain⟨w,w,rfl⟩:=n.O;refine a_ λo e=>?_;go_wp2_with (go_at_call 362;refine (Bu x (head:=v.1) (first:=qW) (cv:=l) (aS:=v.2.length) (bc:=b) (ai.list.B (h:=c) (k:=j) (λ_ _ w=>w) u t) (ai.Z j 2 dV) z ok.1 ok.2 (nK _) (λ_ c=>nomatch c) q r).mono ?_;rintro m w3 ⟨i,u,rfl,m,r,q⟩);apply e _ _ ah (λ_=>p _ (g.B m).below);refine a_ λo e=>?_;go_wp2;apply e _ _ ah (cS ah);apply cR;go_wp2;go_ret;have e:=g.4;have o:ai.Ext a.1.size c j:=⟨t,λe p j=>(y e p j).imp id λc=>by have j:=(n.B e c).1;simp at j;omega⟩;exact⟨i,u,rfl,f.B<|g.B m,o.B r aa,q.I aa⟩
theorem UO(q:c.In a)(t:c.list 2 dV (.slice a8 v.1.2 d) v.1.2)(p:c.list 3 fM (.slice l v.2 b) v.2)(ok:fP v)(j:kr a C N b3 b7):
  aH 355 #[.agg #[v.1.n,.slice a8 v.1.2 d,.slice l v.2 b],.agg #[C.1,C.2,C.3]] a λm g=>∃i k,m=.returned (.pointer<|some ⟨i,0,none⟩)∧au a g∧ai.Ext a c k∧iu (jm C C) g a k i (gV v.1 v.1<|v.2.map<|gH false):=by
 obtain⟨W,o,f,e,n,-⟩:=nc a _<|.cells #[C.1,C.2,C.3] 444
 obtain⟨r,a1,a2,_,_,_⟩:=bq e;obtain⟨b0,b1,b2,_,_,_⟩:=bq n;have r:=aP e;have e:=aP n;have n:=λ(g:ag)(e:au W g)=>Bt (V:=jm C C) (s:=false) (q.B (f.B e) i3) (j.B<|f.B e).1 (j.B<|f.B e).2 (j.B<|f.B e).3 (λe=>rfl) p (aI ok.4) ok.5;have w:=qX (s:=false) ok.5;have u:(v.2.map<|gH false).length<=4:=aw di ok.4
 generalize v.2.map (gH false)=e at n w u;go_enter func355,ntmps355;go_wp2_with (rw[<-o]);clear o;apply dG (λe=>e==6||e==7||e==8) ah ah;intro S e e e e e r;refine aD ?_;refine aD ?_;refine aD ?_;refine aD ?_;refine aD ?_;refine aD ?_
 refine a_ λp e=>?_;go_wp2_with (go_at_call 361;refine(n _ (ae.T _ W).m).mono ?_;rintro m w2 ⟨g,rfl,j,n⟩);have g:=ae.ft j;apply e _ _ ah (λ_=>r _ g.below);obtain⟨j,x,o,y,z⟩:=n.U λj q A A=>cF.B q;obtain⟨q,q,rfl⟩:=n.O;refine a_ λp e=>?_;go_wp2_with (go_at_call 362;refine (Bu x (head:=v.1) (first:=v.1) (cv:=l) (aS:=v.2.length) (bc:=b) (ai.list.B (h:=c) (k:=j) (λ_ _ q=>q) t o) (ai.list.B (h:=c) (k:=j) (λ_ _ q=>q) t o) z ok.1 ok.2 ok.1 ok.2 u w).mono ?_;rintro m w3 ⟨i,u,rfl,m,t,q⟩);apply e _ _ ah (λ_=>r _ (g.B m).below);refine a_ λp e=>?_;go_wp2;apply e _ _ ah (cS ah);apply cR;go_wp2;go_ret;have e:=g.4;have p:ai.Ext a.1.size c j:=⟨o,λe o j=>(y e o j).imp id λc=>by have j:=(n.B e c).1;simp at j;omega⟩;exact⟨i,u,rfl,f.B<|g.B m,p.B t aa,q.I aa⟩
theorem UT{h:ai}{w:ag}(u:h.In w){r:bW}{ha cv:Option bC}{hl hc d:Nat}(o:h.list 3 fM (.slice cv r.2 d) r.2){i:Nat}{y:eX}(f:r.2[i]?=some y)(e:aL y.a.n)
  {p0 p1:Option Nat}{b0 b1:List _}{g j:ByteArray->List aC}(l:dD w p0 b0 g)(m:dD w p1 b1 j):
  aH 360 #[.agg #[r.1.n,.slice ha hl hc,.slice cv r.2 d],.int .i64 i,.agg #[p0,p1]] w λk z=>k=.returned (.map<|aB (if y.2 then b1 else b0) y.a.n)∧au w z:=by
 have M:=(iw.1 f).1;have s:=(o.O u).2;obtain⟨I,N,cc,rfl,L,q,t⟩:=s i y f;obtain⟨A,B,rfl,J⟩:=q.I;obtain⟨W,c,b,n,p,-⟩:=nc w _<|.cells #[p0,p1] 158;obtain⟨E,a1,a2,_,_,_⟩:=bq n;obtain⟨C,D,_,_⟩:=bJ p;obtain⟨F,G,H⟩:=b.ab t id;have a:=(ae.T bE W).I<|.cells #[y.a.n,.slice A y.a.2.length B,y.2] 382;have Q:=a.Y C id;have R:=a.Y D id;have K:=b.B a;have v:=pZ<|aB b0 y.a.n;have x:=pZ<|aB b1 y.a.n;go_enter func360,ntmps360;obtain⟨⟨O,P⟩,neg⟩:=y;dsimp only at*;cases neg with
 |true=>
  go_wp2_with (first|(rw[<-c];clear c)|(at_lookup;refine iH bZ underlying99 jZ rfl (.tmp 16) (.tmp 19) rfl rfl (bU _) ((m.I (b.B a) i2 i2).Y) rfl e x ?_));go_ret;simp_all
 |false=>
  go_wp2_with (first|(rw[<-c];clear c)|(at_lookup;refine iH bZ underlying99 jZ rfl (.tmp 22) (.tmp 25) rfl rfl (bU _) ((l.I (b.B a) i2 i2).Y) rfl e v ?_));go_ret;simp_all
theorem W_:fW Tryz.prog 65 3 1 8:=.B underlying65 (z:=.int .i64 0) ah rfl aA
def Ex(_:ai)(c:List aq)(x:Nat):Prop:=c= [.int .i64 x]
def sM(a:List ByteArray)(l:eX):Bool:=bL a l.a.n&& !l.2
def gh(b:List ByteArray)(a:List eX)(k:Nat):List Nat:=(iK k).filter λi=>(a[i]?).elim false (sM b)
theorem aaT(a:H[b]?=some D):gh a0 H (b+1)=if sM a0 D then gh a0 H b++ [b]else gh a0 H b:=by
 unfold gh;rw[Kq,D6];grind
theorem Cy(b:List ByteArray)(a:List eX)(k):(gh b a k)<=k:=by
 have:=pK (λi=>(a[i]?).elim false<|sM b)<|iK k;rw[List.length_range]at this;exact this
theorem LO(C:c.In a){r:bW}{ha cv:Option bC}{hl hc aS p:Nat}(Q:c.list 3 fM (.slice cv aS p) r.2)(Z:∀a1∈r.2,aL a1.a.n)(b2:r.2.length<=1099511627776)(R:aF a aL cr bX b<|aR a0):
  aH 348 #[.agg #[r.1.n,.slice ha hl hc,.slice cv aS p],some b] a λO G=>∃v k,O=.returned v∧au a G∧k.In G∧ai.Ext a c k∧k.list 1 Ex v (gh a0 r.2 r.2):=by
 obtain⟨rfl,T⟩:=Q.O C;have z:=(ae.T bE a).I<|.cells #[r.1.n,.slice ha hl hc,.slice cv r.2 p] 318;have X:aM _ (a+1) 3 1 Ex c _<|gh a0 r.2 0:=.m<|C.B z i3;go_enter func348,ntmps348;go_wp2;go_loopw [5,13] (λv w wr=>∃(k:Nat),k<=r.2.length∧w=.int .i64 k∧au a wr∧a.1.size<wr.1.size∧aM wr (a.1.size+1) 3 1 Ex c v (gh a0 r.2 k)) (λ_ w _=>r.2.length-(intOf w).toNat);exact⟨0,aa,rfl,z,af,X⟩;obtain⟨k,U,rfl,i,b3,d⟩:=hrel;obtain⟨W,y,t⟩|W:=jf r.2 k;obtain⟨a7,E,cc,rfl,b1,S,b0⟩:=T k y t;obtain⟨H,I,rfl,a9⟩:=S.I;obtain⟨a4,a5,a6⟩:=i.ab aa id;have u:=Z y<|cA t;have o:ay<|gh _ _ _=if sM a0 y then gh _ _ k++ [k]else gh _ _ k:=aaT t;have V:=Cy a0 r.2 k;have F:=((ae.T bE wr).I<|.cells #[y.a.n,.slice H y.a.2 I,y.2] 382);have x:=F.I<|.cells #[] 251;have q:=(R.B i id).B F id;have e:=d.I x i2 i3;have j:=i.B x;obtain⟨P,A⟩:=aT<|gh a0 r.2 k;rw[<-A]at d e V;have n:ay<|P=gh _ _ k:=A;obtain⟨b4,b5,b6,_,_,_⟩:=bq<|ic wr (.cells #[y.a.n,.slice H y.a.2.length I,y.2] 382)<|.cells #[] 251;obtain⟨⟨f,J⟩,neg⟩:=y;simp only at*;cases l:bL a0 f with
 |false=>
  have m:aB (aR a0) f=none:=by rw[hE,if_neg<|cw l]
  have g:ay<|sM a0 ⟨⟨f,J⟩,neg⟩=false:=by show _=_;unfold sM;rw[l];rfl
  go_wp2_with (at_lookup;refine jo bZ underlying249 ea rfl (.tmp 19) (.tmp 22) rfl rfl (bU _) q.T rfl u m ?_);go_roundw;exact⟨k+1,aa,ba,j,by have:=j;simp;omega,by rw[o.out,g.out,if_neg aA,<-n.out];exact e⟩;exact dK
 |true=>
  have m:aB (aR a0) f=some ():=by rw[hE,if_pos l]
  have g:ay<|sM a0 ⟨⟨f,J⟩,neg⟩= !neg:=by show _=_;unfold sM;rw[l];rfl
  cases neg with
  |true=>
   go_wp2_with (at_lookup;refine gJ bZ underlying249 ea rfl (.tmp 19) (.tmp 22) rfl rfl (bU _) q.T rfl u m ?_);go_roundw;exact⟨k+1,aa,ba,j,bQ,by rw[o.out,g.out,if_neg aA,<-n.out];exact e⟩;exact dK
  |false=>
   go_wp2_with (first|(at_lookup;refine gJ bZ underlying249 ea rfl (.tmp 19) (.tmp 22) rfl rfl (bU _) q.T rfl u m ?_)|(at_builtin;refine tz W_ rfl (.tmp 32) (.tmp 34) rfl e rfl k #[.int .i64 k] rfl rfl (by simp[eP]) rfl af aa aa bQ ?_;intro a8 a3 b9 Y B));go_roundw;exact⟨k+1,aa,ba,j.V B λh s=>.inl<|aI<|(e.B h s).1,dX B.4 x.4,by rw[o.out,g.out,if_pos aA,<-n.out];exact Y⟩;exact dK
 obtain rfl:k=r.2:=aa;obtain⟨b7,b8,rfl⟩:=d.O;go_wp2;go_ret;obtain⟨D,K,L,M,N⟩:=d.U λD U a2 ax c=>c;exact⟨_,D,rfl,i,K,⟨L,λh E s=>(M h E s).imp id λc=>aI<|(d.B h c).1⟩,N⟩
theorem UX{p:aq}(d:aF a okB cu cg b []):
  aH 365 #[p,some b] a λe c=>e=.returned (some a.1.size)∧au a c∧aF c okB cu cg a []:=by
 have c:= @iW Tryz.prog;have c:=(ae.T bE a).I<|.map #[] 0;go_enter func365,ntmps365;go_wp2_with (at_len;refine nB underlying487 rfl (.tmp 11) rfl rfl (d.B c id) ?_;dsimp only[JQ]);go_ret;exact⟨rfl,c,aF.I⟩
def jW(s:fC)(T:List aC):ma:=T.foldl (iG s.3.a.2 s.4 s.5) λ_=> []
theorem ab1(s:fC)(T:List aC):∀k,∀p∈jW s T k,p.2<oJ:=Pr T _ λ_ _ a=>nomatch a
abbrev mZ:=Nat×List (bS×Nat)
structure jx(V:Bool->ByteArray->fT)(w:ag)(N:Nat)(k:ai)(gb:Nat)(steps:List fC)(st:List (Option (List aC)))(R:Nat->mZ):Prop where
 len:st.length=steps.length
 low:N<=gb
 free:k gb=none
 cells:steps≠ []->∃cs,w.1[gb]?=some (.cells cs 497)∧∀(i:Nat) s t,steps[i]?=some s->st[i]?=some t->∃bN al ac ta tl tc,
  sw cs (i*11) (.slice bN al ac) s.2 s.3.a.n (.slice ta tl tc) s.3.2 (V s.3.3 s.3.a.n) s.4 s.5 (t.map λ_=>(R i).1)∧k.list 6 (cF V) (.slice bN al ac) s.1∧k.list 2 dV (.slice ta tl tc) s.3.a.2
 rows:∀(i:Nat) s T,steps[i]?=some s->st[i]?=some (some T)->gS w (R i).1 (R i).2 (jW s T)
 own:∀(i:Nat) T,st[i]?=some (some T)->N<=(R i).1∧k (R i).1=none∧∀p∈(R i).2,N<=p.2∧k p.2=none
 apart:∀(i j:Nat) T U,st[i]?=some (some T)->st[j]?=some (some U)->i≠j->(R i).1≠(R j).1∧(∀p∈(R j).2,p.2≠(R i).1)∧∀p∈(R i).2,∀q∈(R j).2,p.2≠q.2
variable{o:Nat->mZ}
theorem jx.I{w w':ag}{D:Nat->Prop}(h:jx e w b c d b4 f o)(l:ae D w w')(i:∀a,b<=a->a<w->¬D a):jx e w' b c d b4 f o:=by
 refine⟨h.1,h.2,h.3,λj=>?_,λm s T j k=>?_,h.6,h.7⟩;obtain⟨cs,a,g⟩:=h.4 j;exact⟨cs,l.O a<|i _ h.2<|aP a,g⟩;have a:=h.5 m s T j k;have g:=h.6 m T k;exact a.B l (i _ g.1 a.1.O) λp h=>i _ (g.2.2 p h).1 (a.2 p h).O
structure ia(V:Bool->ByteArray->fT)(w:ag)(N:Nat)(k:ai)(jb gb:Nat)(J:cU)(st:List (Option (List aC)))(R:Nat->mZ):Prop where
 known:k.In w
 low:N<=jb
 free:k jb=none
 ne:jb≠gb
 top:∃ha hc fa fc sa sc ga gc,w.1[jb]?=some (.cells #[.string J.1.n,.slice ha J.1.2.length hc,.string J.2.n,.slice fa J.2.2.length fc,.slice sa J.3.length sc,.int .u16 (J.4:Nat),.slice ga J.5.length gc,.int .i64 (J.6:Nat)] 479)∧
  k.list 2 dV (.slice ha J.1.2.length hc) J.1.2∧k.list 2 dV (.slice fa J.2.2.length fc) J.2.2∧k.list 6 (cF V) (.slice sa J.3.length sc) J.3∧(J.5≠ []->ga=some ⟨gb,0,none⟩∧J.5.length<=gc)
 steps:jx V w N k gb J.5 st R
theorem XE{a:List (List aq)}(h:∀d8∈a,d8=b)(c:a[j]?=some d8)(e:d<b):a.flatten[j*b+d]?=d8[d]? :=by
 rw[<-Ax,FA h];rw[zJ ((iw.1 c).1),((iw.1 c).2),IH,Hv<|aw (h d8<|cA c) e]
theorem iu.O{w:ag}{J:cU}(h:iu e w b c d J):∃a,ia e w b c d a J (J.5.map λ_=>none) λ_=>(0,[]):=by
 obtain⟨l,t,u,v,f,p,q,y,z,r,s,a1,a2,a3,a4,a5,A⟩:=h;obtain⟨m1,m2,C,a,F,G,a,j⟩:=a5;have m:∀(i:Nat)(T:List aC),(J.5.map λ_=>(none:Option<|List aC))[i]? ≠some (some T):=by
  intro i T a;rw[nI]at a;cases k:J.5[i]? <;>rw[k]at a<;>cases a
 obtain⟨j,n⟩|⟨g,B,o,j,n,H,D,x,x,E⟩:=j;have x:=Kj.1 n;refine⟨d+b+w+1,l,t,u,aa,⟨v,f,p,q,y,z,r,s,a1,a2,a3,a4,λh=>absurd x h⟩,⟨af,aa,ai.In.I l aa,λh=>absurd x h,af,af,af⟩⟩;obtain⟨rfl,rfl⟩:r=some _∧s=B:=aV j;have j:c g=none:=by
  cases r:c g with
  |none=>rfl
  |some s=>exact absurd rfl<|m2 g _ r
 refine⟨g,l,t,u,λg=>A<|dh g,⟨v,f,p,q,y,z,_,_,a1,a2,a3,a4,λ_=>⟨rfl,D⟩⟩,⟨af,n,j,λ_=>⟨o,H,λi s t k g=>?_⟩,λi s T _ a=>absurd a<|m i T,λi T a=>absurd a<|m i T,λi j T U a=>absurd a<|m i T⟩⟩;have a:=(iw.1 k).1;let⟨g,f⟩:∃g,C[i]?=some g:=⟨_,cy aa⟩;let⟨v,u,n,m,l⟩:=G i g s f k;obtain⟨r,s,rfl⟩:=m.I;obtain⟨p,q,rfl⟩:=l.I;have k:t=none:=aJ
 have a:∀(j:Nat) x,j<11->g[j]?=some x->o[i*11+j]?=some x:=by
  intro j x j o;have g:=XE F f j;rw[<-E,II aa,o]at g;rw[<-xb];exact g
 subst n;refine⟨r,_,s,p,_,q,?_,m,l⟩;rw[k];exact⟨a 0 _ aA rfl,a 1 _ aA rfl,a 2 _ aA rfl,a 3 _ aA rfl,a 4 _ aA rfl,a 5 _ aA rfl,a 6 _ aA rfl,a 7 _ aA rfl,a 8 _ aA rfl,a 9 _ aA rfl,a 10 _ aA rfl⟩
section
variable{P:bj}{ops:Array bG}{C:ag->Prop}{fx:Nat->Bool}
def eW(P:bj)(ops:Array bG)(C:ag->Prop)(fx:Nat->Bool)(Q:bK->ag->Prop):List Nat->bK->ag->Prop
 | [],a,w=>Q a w
 |k::b,a,w=>match ops[k]? with
  |none=>False
  |some o=>gZ P .any ops C fx k o (eW P ops C fx Q b) a w
def qY(ops:Array bG)(fx:Nat->Bool):List Nat->Array Bool->Bool
 | [],_=>true
 |k::b,a=>(er .any ops a).contains k&&Region.free .any ops a k&&CZ .any ops fx a k&&qY ops fx b (a.setIfInBounds k true)
def kX(l:List Nat)(a:Array Bool):Array Bool:=l.foldl (λx k=>x.setIfInBounds k true) a
theorem wV(g:uV ops=true):∀l(n) (b:Array Bool)(a:bK)(w:ag),
  qY ops fx l b=true->Inv .any ops C fx b w->eW P ops C fx (λa w=>Inv .any ops C fx (kX l b) w->jL P .any ops C fx e0 n (kX l b) a w) l a w->jL P .any ops C fx e0 (l+n) b a w
 | [],n,b,a,w,_,d,h=>by rw[JQ,nJ];exact h d
 |k::l,n,b,a,w,j,d,h=>by
  unfold eW at h;cases c:ops[k]? with
  |none=>rw[c]at h;exact h.elim
  |some t=>
   rw[c]at h;simp at h;simp[qY]at j;obtain⟨⟨⟨s,o⟩,q⟩,m⟩:=j;have f:k∈er _ _ _:=aa;have p:(k::l)+n=(l+n)+1:=bQ;rw[p];unfold gZ at h;split at h;rename_i i;refine PR c i.1 (Il g) _ _ a d (Im c o) ?_ f i.2<|Oper.B (λv u e=>⟨e.1,wV g l n _ _ _ m (d.I f i.1 e.1) e.2⟩) h;unfold CZ at q;grind;obtain⟨v,r,e⟩:=h;refine PQ c (Il g) _ _ a w (Im c o) f ?_ r<|wV g l n _ _ _ m (d.B f) e;grind
theorem zi{Q Q':bK->ag->Prop}(h:∀a w,Q a w->Q' a w):∀l(a:bK)w,eW P ops C fx Q l a w->eW P ops C fx Q' l a w
 | [],a,w,b=>h a w b
 |k::l,a,w,b=>by
  unfold eW at b⊢;cases c:ops[k]? with
  |none=>rw[c]at b;exact b.elim
  |some o=>rw[c]at b;exact Fv (λa w=>zi h l a w) b
theorem branch(n:uV ops=true){r:List Nat}(l:ops[b]?=some Q)(f:b∈er .any ops d5)(g:qY ops fx r (d5.setIfInBounds b true)=true)
  (i:er .any ops (kX r<|d5.setIfInBounds b true)= [])(e:Inv .any ops C fx d5 a)(h:eW P ops C fx e0 (b::r) u a):gZ P .any ops C fx b Q (jL P .any ops C fx e0 r<|d5.setIfInBounds b true) u a:=by
 unfold eW at h;rw[l]at h;simp at h;have fin:∀u a,Inv .any ops C fx (d5.setIfInBounds b true) a->eW P ops C fx e0 r u a->jL P .any ops C fx e0 r (d5.setIfInBounds b true) u a:=by
  intro u a j k;have:=wV n r 0 _ u a g j<|zi (Q':=λu a=>Inv .any ops C fx (kX r<|d5.setIfInBounds b true) a->jL P .any ops C fx e0 0 _ u a) (λu a m _=>⟨i,m⟩) r u a k;exact this
 unfold gZ at h⊢;split at h;rename_i d;rw[if_pos d];exact Oper.B (λv p c=>⟨c.1,fin _ _ (e.I f d.1 c.1) c.2⟩) h;rename_i d;rw[if_neg d];obtain⟨v,o,c⟩:=h;exact⟨v,o,fin _ _ (e.B f) c⟩
def FC(ops:Array bG)(fx:Nat->Bool)(pre:List Nat)(i:Nat)(b:List Nat)(j:Nat)(c:List Nat):Bool:=
 let d:=ml ops.size false
 let a:=kX pre d
 uV ops&&qY ops fx pre d&&(er .any ops a== [i,j])&&qY ops fx b (a.setIfInBounds i true)&&(er .any ops (kX b (a.setIfInBounds i true))== [])&&
  qY ops fx c (a.setIfInBounds j true)&&(er .any ops (kX c (a.setIfInBounds j true))== [])&&(pre.length+(b.length+1)==ops.size)&&(b.length==c.length)
theorem XG C(fx:Nat->Bool)(pre:List Nat)(i)(w:List Nat)(v)(x:List Nat)(B:P.follows .mixedOrders=true)(n:FC t.toArray fx pre i w v x=true)(o:C a.drew)
  (h:eW P t.toArray C fx (λu a=>eW P t.toArray C fx (λc d=>z .normal c d) (i::w) u a∧eW P t.toArray C fx (λc d=>z .normal c d) (v::x) u a) pre u a.drew):(bH b t.toArray true).wp P z u a:=by
 simp only[FC,j_,beq_iff_eq]at n;obtain⟨⟨⟨⟨⟨⟨⟨⟨e,b1⟩,b2⟩,j⟩,k⟩,l⟩,m⟩,y⟩,A⟩:=n;have E:Shut .any t.toArray<|ml t.toArray false:=λi D _ h=>by simp[Io]at h;grind
 refine J3 B<|uG (fx:=fx) (Q:=λc d=>z .normal c d) af _ _ _ _ ⟨aa,.inl o⟩ ?_;generalize ml t.toArray.size false=F at b1 b2 j k l m E⊢;rw[<-y];refine wV e _ _ _ u _ b1 ⟨aa,.inl o⟩<|zi (λu a r p=>?_) _ u _ h;refine⟨λq=>?_,λG f D s=>?_⟩;rw[b2]at q;cases q;have g:=f;rw[b2]at g;simp at g;obtain rfl|rfl:=g;exact branch e s f j k p r.1;rw[A];exact branch e s f l m p r.2
theorem FB{w:ag} fx(pre:List Nat)(i)(f:List Nat)(j)(k:List Nat)(m:P.follows .mixedOrders=true)(l:FC t.toArray fx pre i f j k=true)
  (h:∀(S:Type)(g:S->ag),Nonempty S->(∀x d o,d<w.1.size->(g x).cell? ⟨d,o,none⟩=w.cell? ⟨d,o,none⟩)->(∀x d,d<w.1.size->(g x).1[d]?=w.1[d]?)->(∀c,au w c->∃x,c=g x)->
   eW P t.toArray (λc=>∃x,c=g x) fx (λu w=>eW P t.toArray (λc=>∃x,c=g x) fx (λe c=>z .normal e c) (i::f) u w∧eW P t.toArray (λc=>∃x,c=g x) fx (λe c=>z .normal e c) (j::k) u w) pre u w.drew):(bH b t.toArray true).wp P z u w:=by
 have e:au w _:=(ae.T _ _).m;have:=h {c//au w c} _ ⟨⟨_,e⟩⟩ (λx d o c=>Ip (a:=⟨d,o,_⟩)<|x.2.5 d c λh=>h) (λx d c=>x.2.5 d c λh=>h) af;exact XG _ _ _ i _ j _ m l ⟨⟨_,e⟩,rfl⟩ this
section
variable{k:Nat}{o:bG}{rest:List Nat}{a:bK}{w:ag}{Q:bK->ag->Prop}
theorem ui(d:ops[k]?=some o)(b:fx k=false)(e:yZ o.2=true)(f:cV o (yielded ops a.1)=true)
  (h:∀K:bK->Prop,(∀a,eW P ops C fx Q rest a w->K a)->o.quiet P a C K):eW P ops C fx Q (k::rest) a w:=by
 obtain⟨v,b,c⟩:=h _ λ_ h=>h;unfold eW;rw[d];simp;unfold gZ;rw[if_neg (by grind)];exact⟨v,.inl ⟨f,e,b⟩,c⟩
theorem yj{p G:Prop}(g:G)(i:G->p:=by intro a;refine ui uC ah bf bf λK b=>?_;go_big_quiet_op;refine b _ ?_;exact a):p:=i g
theorem XF(g:ops[k]?=some o)(f:fx k=true)(i:cV o (yielded ops a.1)=true)
  (h:∀d:kh->bK->ag->Prop,(∀b c,b=a.put o.1 (Act.B b o.1)->(need .any ops fx k=true->C c)->eW P ops C fx Q rest b c->d .normal b c)->wpList P ops d [o] a w):eW P ops C fx Q (k::rest) a w:=by
 have e:=jV (P:=P) (ops:=ops) (C:=C) (fx:=fx) (k:=k) (o:=o) (rest:= []) (a:=a) (w:=w) (Q:=λb c=>eW P _ C _ Q _ _ _) f i λd f=>h _ λb c b c d=>f _ _ b c<|cR d;unfold eW;rw[g];exact Fv (λa w b=>b) e
theorem eU(h:∀d:kh->bK->ag->Prop,(∀b c,b=a.put o.1 (Act.B b o.1)->(need .any ops fx k=true->C c)->eW P ops C fx Q rest b c->d .normal b c)->wpList P ops d [o] a w)(c:ops[k]?=some o:=by simp;rfl)(b:fx k=true:=by kernel_rfl)(d:Region.wanted o (yielded ops a.1)=true:=by rfl):eW P ops C fx Q (k::rest) a w:=XF c b d h
theorem jU(h:Q a w):eW P ops C fx Q [] a w:=h
end
end
def MI(J:cU)(a:List aC):List (bS×Nat):=a.filterMap λt=>(ee J.2.2 (fS t)).map λb=>(b,1)
def dH(D:Bool->ByteArray->Seen)(J:cU)(a:List aC):List (bS×Nat):=ie dA (jG D J.3 J.4 (MI J a))
def lT(D:Bool->ByteArray->Seen)(s:fC)(F:ma)(l:List (bS×Nat)):List (bS×Nat):=ie dA (jG D s.1 s.2 (l.flatMap (oq s F)))
def fe(D:Bool->ByteArray->Seen)(l:List (bS×Nat))(q:List (fC×Option (List aC))):List (bS×Nat):=q.foldl (λl p=>lT D p.1 (jW p.1 (p.2.getD [])) l) l
theorem Pg(D:Bool->ByteArray->Seen)(s:fC)(F:ma)(h:f.Perm r):(lT D s F f).Perm<|lT D s F r:=Lc dA<|((h.flatMap_right _).filter _).map _
theorem acT(D:Bool->ByteArray->Seen)(J:cU)(a:List aC)(t:aC):dH D J (a++ [t])=match ee J.2.2 (fS t)with|none=>dH D J a|some b=>od D J.3 J.4 (dH D J a) b 1:=by
 unfold dH MI;rw[List.filterMap_append];cases h:ee J.2.2 (fS t)with
 |none=>grind
 |some b=>
  have: [t].filterMap (λt=>(ee J.2.2<|fS t).map λb=>(b,1))= [(b,1)]:=by simp[h]
  rw[this];exact Oc _ _ _ _ _
structure pX(J:cU):Prop where
 X_:J.1.2.length<=3
 X1:∀t∈J.1.2,jE t
 ae0:J.2.2.length<=3
 firstT:∀t∈J.2.2,jE t
 afq:J.3.length<=16
 afr:∀p∈J.3,fw p
 ae7:J.4<4096
 count:J.5.length<=16
 afs:∀s∈J.5,s.1.length<=16∧(∀p∈s.1,fw p)∧fw s.3∧s.2<4096∧s.4<65536∧s.5<65536
def zV(D:Bool->ByteArray->Seen)(steps:List fC)(st a:List (Option (List aC))):Prop:=
 ∀(i:Nat),a[i]?=st[i]? ∨(st[i]?=some none∧∃s T,steps[i]?=some s∧a[i]?=some (some T)∧sx (D s.3.3 s.3.a.n).1 (D s.3.3 s.3.a.n).2.1 (D s.3.3 s.3.a.n).2.2 T)
def rR(D:Bool->ByteArray->Seen)(J:cU)(b:List aC)(a:List (Option (List aC)))(q:Nat):Prop:=∀i,i<q->a[i]?=some none->fe D (dH D J b) ((J.5.zip a).take i)= []
def iY(D:Bool->ByteArray->Seen)(J:cU)(b:List aC)(st a:List (Option (List aC))):Prop:=zV D J.5 st a∧rR D J b a J.5
theorem rR.B{D:Bool->ByteArray->Seen}(h:rR D i k f b)(a:f[b]?=some none->fe D (dH D i k) ((i.5.zip f).take b)= []):rR D i k f<|b+1:=λe c d=>by
 obtain a|rfl:=RJ.1 c;exact h e a d;grind
theorem rR.I{D:Bool->ByteArray->Seen}(h:rR D i k f b)(a:b<f):rR D i k (f.set b<|some J)<|b+1:=λa e c=>by
 obtain d|rfl:=RJ.1 e;rw[AK aa]at c;have:=h a d c;have e:(i.5.zip<|f.set b<|some J).take a=(i.5.zip f).take a:=by
  unfold List.zip;rw[Ea,Ea,List.take_set,RL<|dT ix]
 grind;grind
theorem sw.B{cs:Array aq}(a:b≠d){v:aq}{x:ByteArray}{u:aq}{m:fT}(h:sw cs (b*11) v j x u d3 m y d4 w)(r):sw (cs.setIfInBounds (d*11+10) r) (b*11) v j x u d3 m y d4 w:=by
 obtain⟨a,a,a,a,a,a,a,a,a,a,a⟩:=h;constructor;all_goals
  rw[mQ aa];assumption
theorem jx.U(h:jx e a j c d b4 f o)(P:c.In a)(X:j<=a)(N:a.1[d]?=some (.cells A 497))
  (a5:b4[b]?=some g)(a1:f[b]?=some none){mb:Nat}(Y:gS W mb r<|jW g k)(a2:a<=mb)(z:∀p∈r,a<=p.2)(a6:ae (·=d) a W)(a0:W.1[d]?=some (.cells (A.setIfInBounds (b*11+10)<|.map<|some mb) 497)):
  jx e W j c d b4 (f.set b<|some k) λi=>if i=b then(mb,r)else o i:=by
 have y:∀i w,(f.set b<|some k)[i]?=some w->(i=b∧w=some k)∨(i≠b∧f[i]?=some w):=aJ
 have T:∀ {C:Nat} {K:List _} {J:Nat->aq},aF a okB cu J C K->¬C=d:=by
  rintro C K J ⟨b0,cl,t,_⟩ rfl;rw[N]at t;cases t
 refine⟨aw List.length_set h.1,h.2,h.3,λa3=>⟨_,a0,λi a8 w u a7=>?_⟩,λi a8 U u x=>?_,λi U x=>?_,λi F U V x Z O=>?_⟩;obtain⟨a9,l,L⟩:=h.4 a3;rw[N]at l;cases l;obtain⟨rfl,rfl⟩|⟨n,s⟩:=y i w a7;obtain⟨bN,al,ac,G,I,H,D,E,t⟩:=L i _ _ u a1;refine⟨bN,al,ac,G,I,H,?_,E,t⟩;rw[if_pos rfl];exact D.I<|some _;obtain⟨bN,al,ac,G,I,H,D,E,t⟩:=L i _ w u s;refine⟨bN,al,ac,G,I,H,?_,E,t⟩;rw[if_neg n];exact D.B n _;obtain⟨rfl,M⟩|⟨n,s⟩:=y i _ x;rw[if_pos rfl];rw[a5]at u;cases u;cases M;exact Y;rw[if_neg n];have l:=h.5 i _ U u s;exact l.B a6 (T l.1) λp m=>T<|l.2 p m;obtain⟨rfl,M⟩|⟨n,s⟩:=y i _ x;rw[if_pos rfl];exact⟨aa,ai.In.I P a2,λp m=>⟨dI X<|z p m,ai.In.I P<|z p m⟩⟩;rw[if_neg n];exact h.6 i U s;have R:∀(q:Nat)(B:List aC),f[q]?=some (some B)->(o q).1<a∧∀p∈(o q).2,p.2<a:=by
  intro q B v;have a4:q<b4:=by rw[<-h.1];exact(iw.1 v).1
  have l:=h.5 q _ B (cy a4) v;exact⟨l.1.O,λp m=>(l.2 p m).O⟩
 rcases y i _ x with⟨rfl,_⟩|⟨n,s⟩<;>rcases y F _ Z with⟨rfl,_⟩|⟨Q,S⟩
 exact absurd rfl O;rw[if_pos rfl,if_neg Q];have l:=R F _ S;exact⟨aI l.1,λp m=>aI<|l.2 p m,λp m q v=>dX (z p m)<|l.2 q v⟩;rw[if_neg n,if_pos rfl];have l:=R i _ s;exact⟨aI l.1,λp m=>dX (z p m) l.1,λp m q v=>dX (l.2 p m)<|z q v⟩;rw[if_neg n,if_neg Q];exact h.7 i F U V s S O
theorem GJ(D:Bool->ByteArray->Seen)(l:List<|bS×Nat){p:fC×Option _}(h:f[b]?=some p):fe D l (f.take<|b+1)=lT D p.1 (jW p.1<|p.2.getD []) (fe D l<|f.take b):=by
 unfold fe;rw[eA,h,sj,iZ];rfl
end
section
def dy(st:List (Option (List aC)))(R:Nat->mZ)(b:Nat):Prop:=∃i T,st[i]?=some (some T)∧(b=(R i).1∨∃p∈(R i).2,p.2=b)
variable{i:cU}{b4:List fC}{o:Nat->mZ}{v:bW}{C f2:mg}{g:fC}
theorem Br{D:Bool->ByteArray->Seen}{c2:Nat->mZ}(q5:ia e a j c d b i f c2)(l9:mo a j e D)(z4:j<=a)(ok:pX i)
  {o:Option Nat}{ts:List aC}(o9:ai.map (λg=>a.1[g]?) bF bh bX o<|aR ts)
  (t0:∀A k,k.length=i.5.length->∀p∈fe D (dH D i A) (i.5.zip k),∀q∈fe D (dH D i A) (i.5.zip k),dL i.1.2 p.1=dL i.1.2 q.1->p.1=q.1):
  aH 345 #[d,o] a λn M=>∃l R A k I,n=.returned (some l)∧a.1.size<=l∧aF M bF bh cg l R∧eQ ts A∧ia e M j c d b i k I∧iY D i A f k∧
   R.Perm ((fe D (dH D i A)<|i.5.zip k).map λp=>(dL i.1.2 p.1,p.2))∧ae (·=b) a M∧∀g,dy k I g->dy f c2 g∨a<=g:=by
 obtain⟨d3,t4,t3,g0,⟨h9,a2,e1,e2,y3,y4,q3,e4,d6,l2,hF,m0,m9⟩,j2⟩:=q5;have A8:= @iW Tryz.prog;have A6:(aR ts).length=ts.length:=by simp[aR]
 obtain⟨k8,f6,m3,-⟩:=df a<|.map #[] 0
 have n7:aF k8 okB cu cg a.1.size []:=aw f6 aF.I
 have x1:ay<|k8.1.size=a.1.size+1:=by show _=_;rw[f6];simp
 have w5:=ai.B o9 m3;have w6:∀q,o=some q->q<a.1.size:=by
  rintro q rfl;obtain⟨J,_⟩|⟨g,z1,cl,J,z2,_⟩:=o9
  ·grind
  ·grind
 have gM:=aP d6;go_enter func345,ntmps345;go_wp2_with (at_range; (rw[<-f6]);clear f6;refine uK (v:=.map o) underlying123 rfl (.tmp 14) rfl rfl w5 ?_;intro w1 j4 p2 h2);go_frame;have n8:=n7.B j4 id;rw[x1.out]at h2 p2⊢;have m1:=(m3.B j4);have o3:a.1.size+1<w1.1.size:=aa
 clear p2 j4
 go_loopg [] ts.length (λgk wr=>∃came:List<|aC×Unit,came.length+gk=ts.length∧au a wr∧a.1.size+1<wr.1.size∧iy wr bF bh bX (.map o) (a.1.size+1) (aR ts) came∧aF wr okB cu cg a.1.size (dH D i<|came.map bD))
 case atStart=>exact⟨[],af,m1,o3,h2,n8⟩
 case round=>
  clear h2 n8 n7 m1 o3;obtain⟨came,m7,K,p4,h6,c7⟩:=hrel;go_wp2_with (at_next;refine uJ iQ rfl (.tmp 15) rfl rfl h6 ?_ ?_)
  ·intro f7;have f8:∀w∈ts,w∈came.map bD:=λw r=>ei.2 ⟨(w,()),f7 _ _ _ _<|lR.2 r,rfl⟩;have j3:=h6.I
   have o4:eQ ts<|came.map bD:=⟨f8,λw r=>by
    obtain⟨p,V,rfl⟩:=ei.1 r
    exact lR.1<|j3.1 p V,j3.2.1⟩
   generalize came.map bD=A at o4 c7;clear f7 f8 j3 h6 m7;obtain⟨y7,rfl⟩:=aT wr;have t6:=d3.B K i3;have r1:=l9.B K i2;have o5:=j2.I K i3;have v9:=K.O d6 id;obtain⟨-,-,-,-,-,-,x6,-⟩:=uw v9;have s9:=j2.3;have A0:=j2.2;have s4:=ok.8;have r7:zV D i.5 f f:=λt=>.inl rfl;obtain⟨C0,B0⟩:=aT i.5.length;go_wp2
   go_loopw [5,9,43] (λv _ t k5=>∃(q:Nat)(a0:Nat)(O:List<|bS×Nat)(k:List<|Option<|List aC)(I:Nat->mZ),q<=i.5.length∧t=.int .i64 q∧v=.map (some a0)∧a.1.size<=a0∧ae (·=b) y7 k5∧jx e k5 j c b i.5 k I∧(zV D i.5 f k∧rR D i A k q)∧(∀s,q<=s->k[s]?=f[s]?)∧(∀g,dy k I g->dy f c2 g∨a.1.size<=g)∧aF k5 okB cu cg a0 O∧ay (O.Perm<|fe D (dH D i A)<|(i.5.zip k).take q)) (λ_ _ t _=>i.5.length-(intOf t).toNat)
   case atStart=>exact⟨0,_,_,f,c2,aa,rfl,rfl,aa,.T _ _,o5,⟨r7,λ_ J=>absurd J<|zH _⟩,af,λ_ J=>.inl J,c7,by exact .refl _⟩
   case round=>
    clear o5 c7;obtain⟨q,a0,O,k,I,P,rfl,rfl,z6,L,S,G,g2,f9,c4,a7⟩:=hrel;have B5:=L.Y x6 g0;have A3:d<wr.1.size:=dX L.4 K.4
    by_cases i7:q<i.5.length
    ·obtain⟨s8,z9⟩:=m9 (λn=>by grind);have v0:i.5≠ []:=λn=>by grind
     obtain⟨E,R⟩:∃E,i.5[q]?=some E:=⟨_,cy i7⟩;obtain⟨w,r⟩:∃w,k[q]?=some w:=⟨_,cy<|aw S.1 i7⟩;obtain⟨cs,n0,s3⟩:=S.4 v0;obtain⟨bN,al,ac,C1,C3,C2,r3,r6,w0⟩:=s3 q E w R r;obtain⟨x7,x8,x9,y0,y1,y2⟩:=ok.9 E<|cA R;have n4:=t6.B L (λg b8 l (G:g=b)=>by grind);have r2:=r1.B L λg l (G:g=b)=>aa;have l7:j<=wr.1.size:=dX L.4 K.4
     have k7:ay<|(i.5.zip k)[q]?=some (E,w):=by show _=_;rw[RM];exact⟨R,r⟩
     subst s8;by_cases m8:O= []
     ·subst m8;have a2:=UX (p:=.pointer<|some ⟨b,q*11,none⟩) c4;have b9:ay<|([]:List<|bS×Nat).Perm<|fe D (dH D i A)<|(i.5.zip k).take<|q+1:=by
       show Kr _ _;rw[GJ D _ k7.out,List.nil_perm.1 a7.out];exact .refl _
      have q0:ay<|fe D _ _= []:=List.nil_perm.1 a7.out;go_wp2_with (go_at_call 365;refine a2.mono ?_;rintro n C ⟨rfl,H,e8⟩);have d4:=S.I H i3;have j9:=L.4;have p3:=K.4;go_roundw
      case rel=>exact⟨q+1,_,[],k,I,aa,ba,rfl,aa,L.ac H,d4,⟨G.1,G.2.B λ_=>q0.out⟩,λs d2=>g2 s aa,f9,e8,b9⟩
      case measure=>simp[intOf];omega
     ·have a2:=UW n4 r2 n0 r3 r6 w0 x7 x8 x9 y0 y1 y2 c4 m8 (kb:=(I q).2) (F:=jW E<|w.getD []) (λk0 i8=>by
       cases w with
       |none=>grind
       |some T=>
        cases i8
        exact⟨S.5 q E T R r,ab1 E T⟩) S.3 S.2 l7
      go_wp2_with (go_at_call 365;refine a2.mono ?_;rintro n C ⟨l0,e0,k0,p7,y9,rfl,z7,e8,b2,br,s2⟩);have j9:=L.4;have p3:=K.4;have x3:((w.getD []).length=(w.getD []).length):=rfl;clear x3;obtain⟨o2,A5,e7,H⟩|⟨o2,i8,n5,⟨T,r5,e7⟩,H,s7⟩:=s2
      ·have d4:=S.I H i3;have b9:ay<|e0.Perm<|fe D (dH D i A)<|(i.5.zip k).take<|q+1:=by
        show Kr _ _;rw[GJ D _ k7.out];rw[e7]at br;exact br.trans<|Pg D E _ a7.out
       go_roundw
       case rel=>exact⟨q+1,l0,e0,k,I,aa,ba,rfl,aa,L.ac H,d4,⟨G.1,G.2.B λA9=>(by grind)⟩,λs d2=>g2 s aa,f9,e8,b9⟩
       case measure=>simp[intOf];omega
      ·have v6:w=none:=by
        cases w with
        |none=>rfl
        |some T=>cases o2
       rw[v6]at r;have r0:gS C k0 p7<|jW E T:=by rw[e7]at b2;exact b2
       have d4:=S.U n4 l7 n0 R r r0 i8 n5 H s7;have j0:=(iw.1 r).1;have b9:ay<|e0.Perm<|fe D (dH D i A)<|(i.5.zip<|k.set q<|some T).take<|q+1:=by
        show Kr _ _;have w8:(i.5.zip<|k.set q<|some T)[q]?=some (E,some T):=by
         rw[RM];exact⟨R,IC j0⟩
        have v7:(i.5.zip<|k.set q<|some T).take q=(i.5.zip k).take q:=by
         show(RN RO _ _).take q=(RN RO _ _).take q
         rw[Ea,Ea,List.take_set,RL<|dT ix]
        rw[GJ D _ w8,v7];rw[e7]at br;exact br.trans<|Pg D E _ a7.out
       have r8:zV D i.5 f<|k.set q<|some T:=by
        intro s;by_cases d2:s=q
        ·subst d2;refine .inr ⟨?_,E,T,R,IC j0,r5⟩;rw[<-g2 _ (cP _)];exact r
        ·rw[AK<|kg d2];exact G.1 s
       have s6:∀g,dy (k.set q<|some T) (λs=>if s=q then(k0,p7)else I s) g->dy f c2 g∨a.1.size<=g:=by
        rintro g ⟨t,q1,n2,l⟩;dsimp only at l;by_cases i6:t=q
        ·rw[if_pos i6]at l;obtain rfl|⟨p,V,rfl⟩:=l
         ·exact .inr aa
         ·exact .inr<|aI<|n5 p V
        ·rw[if_neg i6]at l;rw[AK<|kg i6]at n2;exact f9 g ⟨t,q1,n2,l⟩
       have v4:∀s,q+1<=s->(k.set q<|some T)[s]?=f[s]? :=λs d2=>by
        rw[AK aa];exact g2 s aa
       go_roundw
       case rel=>exact⟨q+1,l0,e0,_,_,aa,ba,rfl,aa,L.B H,d4,⟨r8,G.2.I j0⟩,v4,s6,e8,b9⟩
       case measure=>simp[intOf];omega
    ·obtain rfl:q=i.5.length:=aa
     have c8:O.Perm<|fe D (dH D i A)<|i.5.zip k:=by
      have e5:=a7.out;rw[fo<|aw List.length_zip<|Nat.min_le_left _ _]at e5;exact e5
     have t1:∀p∈O,∀g6∈O,dL i.1.2 p.1=dL i.1.2 g6.1->p.1=g6.1:=λp V g6 v2 n=>t0 A k S.1 p (c8.mem_iff.1 V) g6 (c8.mem_iff.1 v2) n;replace c8:ay _:=c8;obtain⟨N,rfl⟩:=aT wr;obtain⟨d7,j8,k3,-⟩:=df N<|.map #[] 0
     have i5:aF d7 bF bh cg N.1.size []:=aw j8 aF.I
     have l4:=c4.B k3 id;have z8:=c4.O;have m5:ae (·=b) a N:=K.Z.B L;have v5:=S;clear a7 c4 s4;go_wp2_with (at_range; (rw[<-j8]);clear j8;refine lY underlying487 rfl (.tmp 56) rfl rfl l4 ?_;intro k4 a3 w9 h3);go_frame;have p1:=i5.O;have n1:=i5.B a3 id;have m2:=k3.B a3;have t2:N.1.size<d7.1.size:=p1;have j1:d7.1.size<k4.1.size:=aa
     obtain⟨b6,n3⟩:=aT d7.1.size;rw[<-n3]at h3 j1 t2⊢;clear n3 w9 a3 i5 k3 l4 p1 d7
     go_loopg [] O.length (λgk wr=>∃came:List<|bS×Nat,came.length+gk=O.length∧au N wr∧b6<wr.1.size∧fA wr okB cu cg a0 b6 O came∧aF wr bF bh cg N.1.size (came.map λp=>(dL i.1.2 p.1,p.2)))
     case atStart=>exact⟨[],af,m2,j1,h3,n1⟩
     case round=>
      clear h3 n1 m2 j1;obtain⟨came,m7,h7,p4,h5,l5⟩:=hrel;have s5:a0≠b6:=aa
      go_wp2_with (at_next;refine lX nY rfl (.tmp 57) rfl rfl h5 s5 ?_ ?_)
      ·intro f7;have f8:=h5.O λ⟨x,y⟩ w7=>f7 x y w7;go_wp2;go_ret;have h8:ae (·=b) a wr:=m5.ac h7;refine⟨_,_,A,k,I,rfl,aa,l5,o4,⟨?_,t4,t3,g0,⟨h9,a2,e1,e2,y3,y4,q3,e4,h8.O d6 g0,l2,hF,m0,m9⟩,v5.I h7 i3⟩,G,(f8.symm.trans c8.out).map _,h8,f9⟩;exact d3.B h8 λg b8 l (G:g=b)=>by grind
      ·intro g b7 a6 o1 t9 A7 d5 c9;obtain⟨a4,rfl⟩:=jX gk;have l:okB g:=c9.I.2.2 (g,b7) af;have b3:(bu g).size=12:=aw kC l.1
       have v1:dL i.1.2 g∉ (came.map λp=>(dL i.1.2 p.1,p.2)).map bD:=by
        intro n6;rw[AL]at n6;obtain⟨p,V,v3⟩:=ei.1 n6;have e5:=t1 p (h5.I.1 p V) (g,b7) o1 v3;have e6:=c9.I.2.1;rw[iL,sf]at e6;exact e6.2.2 p.1 (ei.2 ⟨p,V,rfl⟩) g af e5
       obtain⟨k1,k2,n9⟩:∃k1 k2:Nat,cg b7=.agg #[.int .u64 k1,.int .u64 k2]:=⟨_,_,rfl⟩;have k6:ay<|cg b7=.agg #[.int .u64 k1,.int .u64 k2]:=n9;clear n9;go_wp2_with (first|(refine lx rfl (.tmp 57) rfl rfl c9 ?_;rw[k6.out];dsimp only[cu])|(refine iV rfl (.tmp 11) (.tmp 61) rfl rfl (ic _ _ _) rfl sizeOf467 b3 (lf g) ?_;intro k4 a3 m6)|(refine iV rfl (.tmp 12) (.tmp 62) rfl rfl (a3.O (eK _ _ _) aa) rfl sizeOf112 rfl (by simp[eP]) ?_;intro Z W i1));go_frame;have g7:au a6 Z:=((ae.al.I _).V a3 λq (P:q=a6.1.size)=>.inl aa).V W λq (P:q=a6.1.size+1)=>.inl aa;have i0:=W.O m6 aa;have h4:=c9.B g7 id id;have f5:ae (·=b6) wr Z:=d5.ac g7;have f3:au N Z:=h7.V f5 λq (P:q=b6)=>.inl aa;have q7:=l5.B f5 aa;have x0:=f5.4;generalize a6.1.size=k9 at i0 i1⊢;clear a3 W m6 g7 c9 f5 d5 a6 k4;have s1:=aP i0;have m4:ae (·=b) a Z:=m5.ac f3;have o8:=m4.O d6 g0;obtain⟨B6,B7,-⟩:=uw o8;have A2:=aP o8;have z5:=aP i1;obtain⟨p8,p9,_⟩:=bJ i1;have t7:=d3.B m4 λg b8 l (G:g=b)=>by rw[G,s9]at l;cases l
       have c6:=λ(M:ag)(r:au Z M)=>LS (t7.B r i3) (⟨.slice h9 i.1.2.length a2,rfl,l2⟩:mn c [.string i.1.n,.slice h9 i.1.2.length a2] i.1) ok.1 ok.2 l;dsimp only[cu]at c6;have v8:bF<|dL i.1.2 g:=PE ok.2 l;refine dG (λt=>t==6||t==8) ah ah ?_;intro d8 e3 f1 q4 g9 a9 B;refine aD ?_;refine aD ?_;refine aD ?_;refine aD ?_;refine aD ?_
       refine nU ah bf (.tmp 11) rfl rfl (λM ⟨x,n⟩=>aw n<|(a9 x _ s1).trans i0) underlying467 rfl (by rw[b3];kernel_rfl) ?_;go_frame;refine a_ λm h=>?_;go_wp2_with (go_at_call 366;refine(c6 _ (ae.T _ _).m).mono ?_;rintro n y6 ⟨rfl,o7⟩);have b1:au Z y6:=ae.ft o7;refine h _ _ ah (λ_=>B _ b1.below) ?_;clear h m;refine aD ?_;have q8:=q7.B b1 id;refine a_ λm h=>?_;go_wp2_with (at_mapUpdate;refine hZ iQ underlying324 rfl (.tmp 63) (.tmp 69) (.tmp 70) rfl rfl q8 (x:=dL i.1.2 g) rfl v8 b7 (by exact k6.out.symm) ?_;intro y5 g3 l3);refine h _ _ ah (cS ah) ?_;clear h m;refine cR ?_;clear q4 g9 a9 B f1 e3 d8;rw[yR v1]at l3;have r4:au N y5:=(f3.B b1).V g3 λq (P:q=N.1.size)=>.inl aa;have q9:=(h4.B b1 id id).B g3 (by show ¬a0=N.1.size;omega) (by show ¬b6=N.1.size;omega);have B3:=b1.4;have B2:=g3.4;clear c6 o7 b1 g3;go_wp2
       go_roundg a4
       case measure=>exact pG a4
       case rel=>exact⟨came++ [(g,b7)],bQ,r4,aa,q9,aw iL l3⟩
  ·intro x y z Y w2 o1 t9 i7 o6 f0;obtain⟨a4,rfl⟩:=jX gk;have g1:bF (x,y,z):=f0.I.2.2.1 ((x,y,z),Y) af;go_wp2_with (refine uI rfl (.tmp 15) rfl rfl f0 ?_;dsimp only[bh]);obtain⟨w3,j7,j5,-⟩:=df w2<|.cells #[.int .u64 x,.int .u64 y,.int .u64 z] 116;rw[<-j7]
   have g5:w3.1[w2.1.size]?=some (.cells #[.int .u64 x,.int .u64 y,.int .u64 z] 116):=aw j7<|cz _ _
   have f4:ae (·=a.1.size+1) wr w3:=o6.ac j5;have d0:au a w3:=K.V f4 λq (P:q=a.1.size+1)=>.inl aa;have l8:=f0.B j5 i2 id;have l6:=c7.B f4 aa;have x2:=f4.4;generalize w2.1.size=k9 at g5⊢;clear j7 j5 o6 f0 f4 K c7 w2;obtain⟨p8,p9,y8,-⟩:=bq g5;have j6:=d0.O d6 id;obtain⟨-,-,x4,x5,iX,rK,-⟩:=uw j6;have t5:=aP j6;have r9:=aP g5;have a8:ay (dH D i ((came++ [((x,y,z),Y)]).map bD)=match ee i.2.2 (fS (x,y,z))with|none=>dH D i (came.map bD)|some g=>od D i.3 i.4 (dH D i<|came.map bD) g 1):=by
    show _=_;rw[iL];exact acT D i _ (x,y,z)
   have c1:=λ(M:ag)(r:au a M)=>E_ (d3.B r i3) (⟨.slice e1 i.2.2.length e2,rfl,hF⟩:mn c [.string i.2.n,.slice e1 i.2.2.length e2] i.2) ok.3 ok.4 g1
   have i9:∀g,ee i.2.2 (fS (x,y,z))=some g->okB g:=λg t8=>Cj (λY p0=>by
    simp only[fS,pF,List.mem_nil_iff,or_false]at p0;obtain rfl|rfl|rfl:=p0
    ·exact g1.1
    ·exact g1.2.1
    ·exact g1.2.2) t8
   dsimp only[bh]at c1;obtain⟨X,b5⟩:=gB<|ee i.2.2<|fS (x,y,z);rw[b5]at c1 a8 i9;clear b5;obtain⟨g,l,o0,i4⟩:∃g,okB g∧cu (X.getD ep)=.agg (bu g)∧(∀d9,X=some d9->d9=g):=by
    cases X with
    |none=>exact⟨ep,Hg,rfl,λ_ J=>nomatch J⟩
    |some g=>exact⟨g,i9 g rfl,rfl,λ_ J=>(dw J).symm⟩
   have b3:(bu g).size=12:=aw kC l.1
   unfold Ck at c1;rw[o0]at c1;obtain⟨c3,d1⟩:=gB X.isSome;rw[d1]at c1;clear o0 i9;replace d1:ay _:=d1;replace i4:ay _:=i4
   refine wp_mono (Q:=λn q2 C=>n=.normal∧∃g8,au w3 C∧C.1[g8]?=some (.cells (bu g) 467)∧q2={tmps:= #[.pointer<|some ⟨d,0,none⟩,.map o,aj,aj,.map none,.map<|some a.1.size,.pointer<|some ⟨k9,0,none⟩,.pointer<|some ⟨g8,0,none⟩,.bool c3,aj,aj,aj,aj,.map<|some a.1.size,.map o,.pointer<|some ⟨a.1.size+1,0,none⟩,
    .tuple #[true,.agg #[.int .u64 x,.int .u64 y,.int .u64 z],bX Y],.bool true,.tuple #[.agg #[.int .u64 x,.int .u64 y,.int .u64 z],bX Y],.agg #[.int .u64 x,.int .u64 y,.int .u64 z],.tuple #[.agg<|bu g,c3],.pointer<|some ⟨d,0,none⟩,.pointer<|some ⟨d,0,none⟩,.pointer<|some ⟨d,2,none⟩,.agg #[i.2.n,.slice e1 i.2.2.length e2],
    .agg #[.int .u64 x,.int .u64 y,.int .u64 z],.tuple #[.agg<|bu g,c3],.agg<|bu g,.bool c3,u29,u30,u31,u32,u33,u34,u35,u36,u37,aj,aj,aj,aj,aj,aj,aj,aj,aj,aj,aj,aj,aj,aj,aj,aj,aj,aj,aj,aj,aj,aj,aj,aj,aj,aj,aj,aj,aj,aj,aj,aj,aj,aj],defers:= []}) ?_ ?_
   ·have l1:au w3 w3.drew:=(ae.T _ _).m;have z3:∀(q:Nat)(b8:Obj),w3.1[q]?=some b8->w3.drew.1[q]?=some b8:=λq b8 J=>J;refine FB (λt=>t==5||t==9||t==10||t==11) [0,1,2,3,4] 5 [6,7,8,9,10,11] 9 [5,6,7,8,10,11] ah ah ?_;intro d8 e3 f1 e4 a9 B;iterate 5 (refine ui uC ah bf bf λax U=>?_;go_big_quiet_op;refine U _ ?_;clear U ax)
    refine jU ⟨?_,?_⟩
    ·refine eU λm h=>?_;go_wp2_with (go_at_call 351;refine(c1 _ d0.m).mono ?_;rintro n w4 ⟨rfl,g4⟩);have a1:au w3 w4:=l1.B g4;refine h _ _ ah (λ_=>B _ a1) ?_;clear h m;iterate 3 (refine ui uC ah bf bf λax U=>?_;go_big_quiet_op;refine U _ ?_;clear U ax)
     refine eU λm h=>?_;go_wp2;refine h _ _ ah (λ_=>B _<|a1.I _) ?_;clear h m;refine eU λm h=>?_;go_wp2_with (refine iV rfl (.tmp 7) (.tmp 27) rfl rfl (cz _ _) rfl sizeOf467 b3 (lf g) ?_;intro C H b4);have u:au w3 C:=(a1.I _).V H λq (P:q=w4.1.size)=>.inl<|aI a1.4;refine h _ _ ah (λ_=>B _ u) ?_;clear h m;refine eU λm h=>?_;go_wp2;refine h _ _ ah (λ_=>B _ u) ?_;exact jU ⟨trivial,_,u,b4,rfl⟩
    ·refine eU λm h=>?_;go_wp2;have h0:au w3<|w3.drew.alloc<|.cells #[.int .u64 0,.int .u64 0,.int .u64 0,.int .u64 0,.int .u64 0,.int .u64 0,.int .u64 0,.int .u64 0,.int .u64 0,.int .u64 0,.int .u64 0,.int .u64 0] 467:=l1.I _;refine h _ _ ah (λ_=>B _ h0) ?_;clear h m;refine eU λm h=>?_;go_wp2_with (go_at_call 351;refine(c1 _<|d0.B h0).mono ?_;rintro n w4 ⟨rfl,g4⟩);have a1:au w3 w4:=h0.B g4;refine h _ _ ah (λ_=>B _ a1) ?_;clear h m;iterate 3 (refine ui uC ah bf bf λax U=>?_;go_big_quiet_op;refine U _ ?_;clear U ax)
     refine eU λm h=>?_;go_wp2_with (refine iV rfl (.tmp 7) (.tmp 27) rfl rfl (g4.O (cz _ _) id) rfl sizeOf467 b3 (lf g) ?_;intro C H b4);have u:au w3 C:=a1.V H λq (P:q=w3.1.size)=>.inl aa;refine h _ _ ah (λ_=>B _ u) ?_;clear h m;refine eU λm h=>?_;go_wp2;refine h _ _ ah (λ_=>B _ u) ?_;exact jU ⟨trivial,_,u,b4,rfl⟩
   ·rintro n a5 C ⟨rfl,g8,u,b4,rfl⟩;dsimp only;have f2:=d0.B u;have b2:=l8.B u i2 id;have h1:=l6.B u id;have j9:=u.4;have B8:=u.Y iX id;have B9:=u.Y rK id;have A1:d<C.1.size:=aa
    have s0:=aP b4;have B4:a.1.size+1<C.1.size:=aa
    clear x2 j9 p4;clear u g5 p8 p9 y8 x4 x5 iX rK r9 t5 l8 l6 c1 j6 d0 w3;cases c3 with
    |false=>
     have b5:X=none:=by
      have:=d1.out;cases X with
      |none=>rfl
      |some _=>cases this
     subst b5;go_wp2
     go_roundg a4
     case measure=>exact pG a4
     case rel=>exact⟨came++ [((x,y,z),Y)],bQ,f2,aa,b2,aw a8.out h1⟩
    |true=>
     have b5:X=some g:=by
      have:=d1.out;have e6:=i4.out;cases X with
      |none=>cases this
      |some d9=>rw[e6 d9 rfl]
     subst b5;have aK:=λ(M:ag)(r:au C M)=>LR (d3.B (f2.B r) i3) (l9.B (f2.B r) i2) (h1.B r id) m0 ok.5 ok.6 i.4 ok.7 l 1;dsimp only[cu]at aK;replace a8:ay<|dH D i ((came++ [((x,y,z),Y)]).map bD)=od D i.3 i.4 (dH D i<|came.map bD) g 1:=a8;generalize od D i.3 i.4 (dH D i<|came.map bD) g 1=z0 at aK a8;go_wp2;refine dG (λt=>t==6||t==7) ah ah ?_;intro d8 e3 f1 e4 g9 a9 B;refine aD ?_;refine aD ?_;refine aD ?_;refine aD ?_;refine aD ?_
     refine nU ah bf (.tmp 7) rfl rfl (λM ⟨x,n⟩=>aw n<|(a9 x _ s0).trans b4) underlying467 rfl (by rw[b3];kernel_rfl) ?_;go_frame;refine a_ λm h=>?_;go_wp2_with (go_at_call 364;refine(UU 1 aA _).mono ?_;rintro n a6 ⟨rfl,d5⟩);have b0:au C a6:=ae.ft d5;refine h _ _ ah (λ_=>B _ b0.below) ?_;clear h m;refine a_ λm h=>?_;go_wp2_with (go_at_call 363;refine(aK _ b0).mono ?_;rintro n Z ⟨rfl,W,q6⟩);refine h _ _ ah (cS ah) ?_;clear h m;refine cR ?_;clear e4 g9 a9 B f1 e3 d8;have f3:au a Z:=(f2.B b0).V W λq (P:q=a.1.size)=>.inl aa
     have h4:=(b2.B b0 i2 id).B W (λq P (B1:q=a.1.size)=>by
      have:=w6 q<|aV P
      omega) aa
     have x0:=W.4;have p3:=b0.4;clear W d5 b0 b2 h1 aK;go_wp2
     go_roundg a4
     case measure=>exact pG a4
     case rel=>exact⟨came++ [((x,y,z),Y)],bQ,f3,aa,h4,aw a8.out q6⟩
theorem ab2(s:fC)(T a:List aC):a.foldl (iG s.3.a.2 s.4 s.5) (jW s T)=jW s (T++a):=by
 unfold jW;grind
theorem jx.V(h:jx e a d c b b4 f o)(a0:c.In a)(V:d<=a)
  {i:Nat}(R:b4[i]?=some g)(x:f[i]?=some (some k))(X:gS W (o i).1 r<|jW g<|k++J)(D:∀p∈r,p∈(o i).2∨a<=p.2)(S:ae (λw=>w=(o i).1∨∃p∈(o i).2,p.2=w) a W):
  jx e W d c b b4 (f.set i<|some<|k++J) λj=>if j=i then((o i).1,r)else o j:=by
 have M:=h.5 i g k R x;have A:∀j E,(f.set i<|some<|k++J)[j]?=some E->(j=i∧E=some (k++J))∨(j≠i∧f[j]?=some E):=aJ
 have P:∀(q:Nat)(F:List _),f[q]?=some (some F)->(o q).1<a∧∀p∈(o q).2,p.2<a:=by
  intro q F s;have a5:q<b4:=by rw[<-h.1];exact(iw.1 s).1
  have l:=h.5 q _ F (cy a5) s;exact⟨l.1.O,λp m=>(l.2 p m).O⟩
 have Q:∀ {w:Nat} {K:List _} {I:Nat->aq} {cs:Array _},aF a okB cu I w K->a.1[b]?=some (.cells cs 497)->¬b=w:=by
  rintro w K I cs ⟨a7,cl,L,_⟩ Z rfl;rw[Z]at L;cases L
 refine⟨aw List.length_set h.1,h.2,h.3,λa4=>?_,λj a6 U B y=>?_,λj U y=>?_,λj z U H y Y C=>?_⟩;obtain⟨T,l,n⟩:=h.4 a4
 refine⟨T,S.O l (by
  rintro(t|⟨p,m,t⟩);exact Q M.1 l t
  exact Q (M.2 p m) l aa),λj a6 E B a8=>?_⟩
 grind;obtain⟨rfl,N⟩|⟨v,u⟩:=A j _ y;rw[if_pos rfl];rw[R]at B;cases B;cases N;exact X;rw[if_neg v];have l:=h.5 j _ U B u;obtain⟨a1,a2,a3⟩:=h.7 i j k U x u<|kg v;refine l.B S ?_ λp m=>?_;rintro(t|⟨q,s,t⟩);omega;obtain⟨_,b2,_⟩:=h.7 j i U k u x v;exact b2 q s t;rintro(t|⟨q,s,t⟩);exact a2 p m t;exact a3 q s p m t;obtain⟨rfl,N⟩|⟨v,u⟩:=A j _ y;rw[if_pos rfl];have l:=h.6 j k x;refine⟨l.1,l.2.1,λp m=>?_⟩;obtain n|n:=D p m;exact l.2.2 p n;exact⟨dI V n,ai.In.I a0 n⟩;rw[if_neg v];exact h.6 j U u;rcases A j _ y with⟨rfl,_⟩|⟨v,u⟩<;>rcases A z _ Y with⟨rfl,_⟩|⟨O,G⟩
 exact absurd rfl C;rw[if_pos rfl,if_neg O];have l:=P z _ G;obtain⟨a1,a2,a3⟩:=h.7 j z k H x G C;refine⟨a1,a2,λp m q s=>?_⟩;obtain n|n:=D p m;exact a3 p n q s;have:=l.2 q s;omega;rw[if_neg v,if_pos rfl];have l:=P j _ u;obtain⟨a1,a2,a3⟩:=h.7 j z U k u x C;refine⟨a1,λp m=>?_,λp m q s=>?_⟩;obtain n|n:=D p m;exact a2 p n;have:=l.1;omega;obtain n|n:=D q s;exact a3 p m q n;have:=l.2 p m;omega;rw[if_neg v,if_neg O];exact h.7 j z U H u G C
def vr(c:List (ByteArray×Nat))(G:ByteArray->List aC)(steps:List fC)(st a:List (Option (List aC)))(j:Nat):Prop:=
 (st[j]?=some none∧a[j]?=some none)∨∃s T b,steps[j]?=some s∧st[j]?=some (some T)∧a[j]?=some (some (T++b))∧eQ (cd c G s.3.a.n) b
theorem UK(f8:ia e a d c b j i f o)(g1:d<=a)(ok:pX i)
  {lo:Option Nat}(f9:dD a lo r N)(d7:∀g,lo=some g->¬dy f o g)(d3:∀q∈r,¬dy f o q.2)(g6:∀q∈r,q.2<a):
  Calls Tryz.prog 346 #[b,.map lo] a λx Q=>∃p m,x=.returned (.tuple #[])∧ia e Q d c b j i p m∧(∀h,h<i.5.length->vr r N i.5 f p h)∧ae (dy f o) a Q∧∀g,dy p m g->dy f o g∨a<=g:=by
 obtain⟨d5,h8,h6,h7,⟨g5,g8,f1,f2,j8,j9,f3,f4,b6,f7,hF,g3,d4⟩,Z⟩:=f8;have l8:=(cI a b 6 _ 479 (0,0) b6).trans rfl;have k8:=aP b6;have k6:=ok.8;have i8:∀g,dy f o g->c g=none∧g<a.1.size∧∃F cl,a.1[g]?=some (.map F cl):=by
  rintro g ⟨n,T,D,k⟩;have h4:n<i.5.length:=by rw[<-Z.1];exact(iw.1 D).1
  have G:=Z.5 n _ T (cy h4) D;have b0:=Z.6 n T D;rcases k with rfl|⟨A,b5,rfl⟩
  ·obtain⟨F,cl,b1,_⟩:=G.1;grind
  ·obtain⟨F,cl,b1,_⟩:=G.2 A b5;grind
 have h9: ¬dy f o b:=λt=>by
  grind
 obtain⟨j5,i4⟩:∃j4,j4=i.5.length:=⟨_,rfl⟩;clear i4 j5;go_enter func346,ntmps346;go_wp2
 go_loopw [11] (λn wr=>∃(q:Nat)(p:List (Option (List aC)))(m:Nat->mZ),q<=i.5.length∧n=.int .i64 q∧ae (dy f o) a wr∧jx e wr d c j i.5 p m∧(∀h,q<=h->p[h]?=f[h]? ∧m h=o h)∧(∀h,h<q->vr r N i.5 f p h)∧∀g,dy p m g->dy f o g∨a.1.size<=g) (λn _=>i.5.length-(intOf n).toNat)
 case atStart=>exact⟨0,f,o,aa,rfl,.T _ _,Z,af,aa,λ_ t=>.inl t⟩
 case round=>
  obtain⟨q,p,m,l3,rfl,C,E,e2,b4,b2⟩:=hrel;by_cases d8:q<i.5.length
  ·obtain⟨h2,k7⟩:=d4 (λx=>by grind);have i1:i.5≠ []:=λx=>by grind
   obtain⟨s,I⟩:∃s,i.5[q]?=some s:=⟨_,cy d8⟩;obtain⟨a2,J⟩:∃a2,p[q]?=some a2:=⟨_,cy (aw E.1 d8)⟩;obtain⟨cs,h3,g9⟩:=E.4 i1;obtain⟨bN,al,ac,M,P,O,u,k3,j1⟩:=g9 q s a2 I J;obtain⟨l9,m0,b9,m4,j6,j7⟩:=ok.9 s (cA I);have w:=λn v j2=>(cI wr j (q*11+n) _ 497 (0,0) h3).trans (j2:cs[q*11+n]?=some v);have k1:=w 0 _ u.1;have n6:=w 1 _ u.2;have n7:=w 2 _ u.3;have n8:=w 3 _ u.4;have n9:=w 4 _ u.5;have o0:=w 5 _ u.6;have o1:=w 6 _ u.7;have o2:=w 7 _ u.8;have o3:=w 8 _ u.9;have o4:=w 9 _ u.c9;have a4:=w 10 _ u.11;rw[rA]at k1;have k5:∀h,h<11->q*11+h<cs.size:=λh V=>by have:=(fU.1 u.11).1;omega
   clear w;subst h2;cases a2 with
   |none=>
    simp only[Qu]at a4;have i6:∀a,(binOp .neq 495 (.map none) (.map none)).run Tryz.prog a=.ok false a:=λa=>ah
    go_wp2;have k0:=(ae.T (λ_=>False) wr).I (.cells #[.slice bN al ac,.int .u16 s.2,.string s.3.a.n,.slice M P O,.bool s.3.2,.map (e s.3.3 s.3.a.n).1,.map (e s.3.3 s.3.a.n).2.1,.map (e s.3.3 s.3.a.n).2.2,.int .u16 s.4,.int .u16 s.5,.map none] 497);go_roundw
    case rel=>
     refine⟨q+1,p,m,aa,ba,C.I _,E.I k0 i3,λh V=>e2 h aa,λh V=>?_,b2⟩;by_cases b3:h=q
     ·subst b3;exact .inl ⟨by grind,J⟩
     ·exact b4 h aa
    case measure=>simp[intOf];omega
   |some T=>
    have S:=(e2 _ (cP _)).2;have e4:f[q]?=some (some T):=aJ
    simp only[Qu]at a4;rw[S]at a4;have Y:=E.5 q s T I J;rw[S]at Y;obtain⟨z,X⟩:∃b8,b8=(o q).1:=⟨_,rfl⟩;obtain⟨L,W⟩:∃b8,b8=(o q).2:=⟨_,rfl⟩;rw[<-X]at a4 Y;rw[<-W]at Y;have e1:∀g,g=z∨(∃A∈L,A.2=g)->dy f o g:=by
     rw[X,W];exact λg k=>⟨q,T,e4,k⟩
    have c1:ay (z=(o q).1∧L=(o q).2):=⟨X,W⟩;have c3:ay _:=S;clear X W S;have i6:∀a,(binOp .neq 495 (some z) (.map none)).run Tryz.prog a=.ok true a:=λa=>ah
    obtain⟨l,a1⟩:∃l,l=wr.alloc (.cells #[.slice bN al ac,.int .u16 s.2,.string s.3.a.n,.slice M P O,.bool s.3.2,.map (e s.3.3 s.3.a.n).1,.map (e s.3.3 s.3.a.n).2.1,.map (e s.3.3 s.3.a.n).2.2,.int .u16 s.4,.int .u16 s.5,(some z)] 497):=⟨_,rfl⟩;have ax:ae (λ_=>False) wr l:=aw a1 ((ae.T _ _).I _)
    have g7:l.1[wr.1.size]?=some _:=aw a1 (cz _ _)
    have m5:l.cell? ⟨wr.1.size,0,none⟩=some (.slice bN al ac):=iq;have m6:l.cell? ⟨wr.1.size,1,none⟩=some (.int .u16 s.2):=iq;have m8:l.cell? ⟨wr.1.size,2,none⟩=some (.string s.3.a.n):=iq;have m9:l.cell? ⟨wr.1.size,3,none⟩=some (.slice M P O):=iq;have n0:l.cell? ⟨wr.1.size,4,none⟩=some (.bool s.3.2):=iq;have n1:l.cell? ⟨wr.1.size,5,none⟩=some (.map (e s.3.3 s.3.a.n).1):=iq;have n2:l.cell? ⟨wr.1.size,6,none⟩=some (.map (e s.3.3 s.3.a.n).2.1):=iq;have n3:l.cell? ⟨wr.1.size,7,none⟩=some (.map (e s.3.3 s.3.a.n).2.2):=iq;have n4:l.cell? ⟨wr.1.size,8,none⟩=some (.int .u16 s.4):=iq;have n5:l.cell? ⟨wr.1.size,9,none⟩=some (.int .u16 s.5):=iq;have m7:l.cell? ⟨wr.1.size,10,none⟩=some (.map (some z)):=iq;have U:=C.V ax af;have c6:=f9.I U d7 d3;have hrel:=pZ (aB r s.3.a.n);have i0:=c6.O s.3.a.n;have g0:=c6.Y;have i5:=b9.2.2;have l7:=U.4;have d6:=d5.B U λg e6 k d2=>by grind
    have c2:=λQ=>Lt (aB r s.3.a.n) Q;have k9:∀g,aB _ s.3.a.n=some g->g<a.1.size∧¬dy _ o g:=λg k=>⟨g6 _ (ij k),d3 _ (ij k)⟩;have l0:z<a.1.size:=aJ;have i9:=Y.B ax id i2;go_wp2_with (rw[<-a1];clear a1);have l2:∀g,a.1.size<=g->¬(g=z∨∃A∈L,A.2=g):=aJ
    have l5:=C.4;have k4:=aP g7;apply qN (λg=>g=z∨∃A∈L,A.2=g) (λn=>n==8||n==9) ah ah;intro br a8 g2 f6 c4 a9;have f5:∀B e5,(a8 B).cell? ⟨wr.1.size,e5,none⟩=l.cell? ⟨wr.1.size,e5,none⟩:=aJ;have d9:∀B,ai.map (λg=>(a8 B).1[g]?) aL cr eF (.map lo) r:=λB=>by
     rcases g0 with t|⟨g,F,cl,G,b0,b1⟩
     ·exact .inl t
     ·exact .inr ⟨g,F,cl,G,(c4 B g (aP b0) λh0=>d7 g (aV G) (e1 g h0)).trans b0,b1⟩
    iterate 7 (refine gg ah bf bf λe8 aK=>?_;go_big_quiet_op;refine aK _ ?_;clear aK e8)
    refine yn bZ af jZ ah bf _ _ rfl rfl (λQ ⟨B,x⟩=>aw x (d9 B)) rfl i5 hrel ?_;go_frame;refine jV ah bf λa5 H=>?_;go_wp2_with (go_at_call 160;refine(c2 _).mono ?_;rintro x a3 ⟨rfl,K⟩;replace K:ay _:=K);have y:ae (λ_=>False) l a3:=aw K.out (((ae.T _ _).m).I _)
    have d1:a3.1[l.1.size]?=some (.cells #[.map (aB r s.3.a.n)] 123):=aw K.out (cz _ _)
    have l6:l.1.size<a3.1.size:=aP d1;have d0:ae (dy f o) a a3:=U.V y λ_ t=>t.elim;clear K;refine H _ _ ah (λ_=>a9 _ y.Z) ?_;clear H a5;have c9:=LU (v:=.slice bN al ac) (m1:=.map (e s.3.3 s.3.a.n).1) (m2:=.map (e s.3.3 s.3.a.n).2.1) (m3:=.map (e s.3.3 s.3.a.n).2.2) (live:=s.2) (neg:=s.3.2) (d6.B y λ_ _ _ t=>t) (⟨.slice M P O,rfl,j1⟩:mn c [.string s.3.a.n,.slice M P O] s.3.a) b9.1 b9.2.1 j6 j7 (i9.B y id λ_ _=>id)
     (M7 d1 (ai.B i0 y)) (ae.T _ _)
     (λg k=>by
      grind)
     ⟨λk=>by
      grind,λA b5 k=>by
      grind⟩
     (λg e6 k=>⟨(λx=>by grind),(λA b5 x=>by grind)⟩)
     (λk2 a=>ah)
    refine jV ah bf λa5 H=>?_;go_wp2_with (go_at_call 367;refine c9.mono ?_;rintro x e7 ⟨b7,R,rfl,j3,c7,a0,e0⟩);refine H _ _ ah (λ_=>a9 _ (y.Z.B a0)) ?_;clear H a5;refine cR ?_;clear f6 f5 c4 a9 g2 a8 br c9 d9;have e3:=(E.I ax λ_ _ _ t=>t).I y λ_ _ _ t=>t;have a6:(m q).1=z:=aw c3.out c1.out.1.symm
    have a7:(m q).2=L:=aw c3.out c1.out.2.symm
    have c8:gS e7 (m q).1 b7 (jW s (T++R)):=by rw[a6,<-ab2];exact c7
    have j0:=e3.V (d6.B y λ_ _ _ t=>t) (dI g1 d0.4) I J c8 (aw a7 e0) (by rw[a6,a7];exact a0);have g4:ae (dy f o) a e7:=d0.V a0 λg k=>.inr (e1 g k);have i7:=(iw.1 J).1;have l4:∀h,q+1<=h->(p.set q (some (T++R)))[h]?=f[h]? ∧(if h=q then((m q).1,b7)else m h)=o h:=λh V=>by
     grind
    have l1:∀h,h<q+1->vr r N i.5 f (p.set q (some (T++R))) h:=λh V=>by
     by_cases b3:h=q
     ·subst b3;exact .inr ⟨s,T,R,I,e4,IC i7,j3⟩
     ·unfold vr;rw[AK aa];exact b4 h aa
    have h1:∀g,dy (p.set q (some (T++R))) (λh=>if h=q then((m q).1,b7)else m h) g->dy f o g∨a.1.size<=g:=by
     rintro g ⟨n,f0,D,k⟩;dsimp only at k;by_cases h5:n=q
     ·grind
     ·rw[if_neg h5]at k;rw[AK aa]at D;exact b2 g ⟨n,f0,D,k⟩
    clear a6 a7 e0 a0 c7 c8 e3 y;go_wp2;go_roundw
    case rel=>exact⟨q+1,_,_,aa,ba,g4,j0,aa,aa,h1⟩
    case measure=>simp[intOf];omega
  ·obtain rfl:q=i.5.length:=aa
   go_wp2;go_end0;refine⟨p,m,rfl,⟨?_,h8,h6,h7,⟨g5,g8,f1,f2,j8,j9,f3,f4,C.O b6 h9,f7,hF,g3,d4⟩,E⟩,b4,C,b2⟩;exact d5.B C λg e6 k d2=>by rw[(i8 g d2).1]at k;cases k
def Gh(m:Nat)(s:fC):Prop:=s.1<=m∧(∀p∈s.1,fw p)∧fw s.3∧s.2<4096∧s.4<4096∧s.5<4096
theorem acW{live head:Nat}(a:live<4096)(e:∀p∈h,fw p)(f:h[b]?=some s)(g:h<=d):Gh d<|lp live head h b s:=by
 have c:=e s<|cA f;have f:=GW (head:=head) (rest:=h) (i:=b) a c;have j:∀p∈h.eraseIdx b,fw p:=λp a=>e p<|(xm _ _).subset a;exact⟨dI (pK _<|h.eraseIdx b)<|dI ((xm _ b).length_le) g,λp a=>j p (qu.1 a).1,c,f.1,qC<|oB c.2.1,f.2⟩
theorem Me(head m):∀(n live) (rest:List cO),live<4096->(∀p∈rest,fw p)->rest.length<=m->∀s∈(f_ head n live rest).1,Gh m s
 |0,_,_,_,_,_=>λ_ h=>nomatch h
 |n+1,live,rest,f,c,g=>by
  have e:∀k,∀s∈((iK k).foldl (kG (f_ head n) live head rest) ([],0)).1,Gh m s:=by
   intro k;induction k with
   |zero=>grind
   |succ k b=>
    rw[BA];unfold kG;cases a:rest[k]? with
    |none=>exact b
    |some y=>
     have d:=acW (head:=head) f c a g;have f:=Nu (live:=live) (head:=head) (rest:=rest) (i:=k) (y:=y) (iw.1 a).1;simp;split;exact b;split;intro s a;obtain rfl|a:=pF.1 a;exact d;exact (Me _ m n _ _ d.2.2.2.1 (FY c) aa) s a;exact b
  exact e _
theorem BW{head first:kM}{others:List cO}(c:head.2.length<=3)(e:∀t∈head.2,jE t)(a:first.2.length<=3)(b:∀t∈first.2,jE t)(d:others.length<=4)(d:∀p∈others,fw p):pX<|gV head first others:=by
 refine⟨c,e,a,b,?_,λp c=>d p (qu.1 c).1,qC<|oB b,?_,λs e=>?_⟩;exact dI (pK _ _) aa;exact dI (E4 _ 4 _ _) aA;have a:=Me _ 16 4 _ _ (qC<|oB b) (λp c=>d p (qu.1 c).1) (dI (pK _ _) aa) s e;exact⟨a.1,a.2.1,a.2.2.1,a.2.2.2.1,Nat.lt_trans a.2.2.2.2.1 aA,Nat.lt_trans a.2.2.2.2.2 aA⟩
theorem ad0(h:(c5 M).testBit b=true):∃t∈M,t.c=0∧t.v=b:=by
 have c:∀(M:List dP)(a:Nat),(M.foldl qa a).testBit b=true->a.testBit b=true∨∃t∈M,t.c=0∧t.v=b:=by
  intro M;induction M with
  |nil=>grind
  |cons t M d=>
   intro a h;obtain a|⟨u,e,e⟩:=d _ h;unfold qa at a;grind;grind
 obtain a|a:=c _ 0 h;grind;omega
def rN(a:Nat)(b:bS):Prop:=b.length=12∧∀j,a.testBit j=false->b.getD j 0=0
theorem aax(b:x.length=12)(a):rN a<|eh x a:=by
 refine⟨by simp[eh,b],λj a=>?_⟩;unfold eh;grind
theorem WM(a:M.length<=3)(k:∀j,b.testBit j=true->(c5 M).testBit j=true)(c:rN b x)(d:rN b d7)(h:dL M x=dL M d7):x=d7:=by
 have g:∀i,i<3->lr M x i=lr M d7 i:=by
  unfold dL at h;obtain⟨a,yb⟩:=Prod.mk.inj h;obtain⟨e,f⟩:=Prod.mk.inj yb;intro i h;obtain rfl|rfl|rfl:i=0∨i=1∨i=2:=aa;exact a;exact e;exact f
 have e:∀j,x.getD j 0=d7.getD j 0:=by
  intro j;cases a:b.testBit j with
  |false=>rw[c.2 j a,d.2 j a]
  |true=>
   obtain⟨t,f,l,rfl⟩:=ad0<|k j a;obtain⟨i,h,rfl⟩:=ly f;have a:=g i aa;unfold lr at a;grind
 apply List.ext_getElem (by rw[c.1,d.1]);intro j a a;have a:=e j;grind
theorem Ld(c:∀p∈f,p.1.length=12):∀p∈ie dA (jG K h b f),rN b p.1:=by
 intro p a;have a:p.1∈(ie dA<|jG K h b f).map bD:=aJ;rw[Tj]at a;unfold jG at a;rw[AL]at a;let⟨q,d,e⟩:=ei.1 a;rw[<-e];exact aax (c q (qu.1 d).1) _
theorem dD.U(h:dD a w f N)(c:aB f n=some b):b<a:=by
 obtain⟨_,rfl⟩|⟨d,_,d⟩:=h;cases c;exact(d.2 _<|ij c).O
def sZ(s:mg)(ed a b:ByteArray->List aC)(n:ByteArray):Seen:=(cd s.4 ed n,cd s.5 a n,cd s.6 b n)
theorem yY(c:kr a C N b3 b7)(d:kr a f2 f3 f4 f5):mo a a (jm C f2) (λs n=>if s then sZ f2 f3 f4 f5 n else sZ C N b3 b7 n):=by
 refine⟨λs n=>?_,λs n=>?_,λs n=>?_,λs n b b=>?_⟩;cases s;exact c.1.O n;exact d.1.O n;cases s;exact c.2.O n;exact d.2.O n;cases s;exact c.3.O n;exact d.3.O n;cases s;obtain b|b|b:=b;exact c.1.U b;exact c.2.U b;exact c.3.U b;obtain b|b|b:=b;exact d.1.U b;exact d.2.U b;exact d.3.U b
theorem ia.B{w w':ag}{k:ai}(h:ia e w b k d j i f o)(a:au w w'):ia e w' b k d j i f o:=by
 obtain⟨n,p,q,r,⟨v,w,c,g,x,y,l,m,s,t⟩,u⟩:=h;exact⟨n.B a i3,p,q,r,⟨v,w,c,g,x,y,l,m,a.O s id,t⟩,u.I a i3⟩
def jF(m:Option Nat)(a:List (ByteArray×Nat)):mg:=⟨m,none,none,a,[],[]⟩
def dU(a:List (ByteArray×Nat))(F:ByteArray->List aC):Bool->ByteArray->Seen:=λs n=>if s then sZ (jF none a) F (λ_=> []) (λ_=> []) n else sZ (jF none a) F (λ_=> []) (λ_=> []) n
def cX(r:bW):cU:=gV r.1 qW (r.2.map (gH false))
theorem EZ(s:c.In a){r:bW}{ha cv:Option bC}{hc bc:Nat}(l:c.list 2 dV (.slice ha r.1.2 hc) r.1.2)(j:c.list 3 fM (.slice cv r.2 bc) r.2)(ok:fP r){m:Option Nat}{bs:List _}{F:ByteArray->List aC}(n:dD a m bs F)
  (x:∀e d,d.length=(cX r).5.length->∀p∈fe (dU bs F) (dH (dU bs F) (cX r) e) ((cX r).5.zip d),∀q∈fe (dU bs F) (dH (dU bs F) (cX r) e) ((cX r).5.zip d),dL (cX r).1.2 p.1=dL (cX r).1.2 q.1->p.1=q.1):
  aH 349 #[.agg #[r.1.n,.slice ha r.1.2 hc,.slice cv r.2 bc],m] a λg b=>∃i k e d,g=.returned (some i)∧a.1.size<=i∧aF b bF bh cg i k∧eQ [(0,0,0)] e∧iY (dU bs F) (cX r) e ((cX r).5.map λ_=>none) d∧
   k.Perm ((fe (dU bs F) (dH (dU bs F) (cX r) e)<|(cX r).5.zip d).map λp=>(dL (cX r).1.2 p.1,p.2))∧au a b:=by
 obtain⟨W,h,p,f,-⟩:=df a<|.cells #[r.1.n,.slice ha r.1.2 hc,.slice cv r.2 bc] 318
 obtain⟨q,a1,a2,-⟩:=bq f;have q:=aP f;have q:∀b:ag,au W b->kr b (jF m bs) F (λ_=> []) (λ_=> []):=λb f=>⟨n.I (p.B f) i2 i2,.inl ⟨rfl,rfl⟩,.inl ⟨rfl,rfl⟩⟩;have c1:=λb=>xV m b;have c2:=λ(b:ag)(f:au W _)=>LP (s.B (p.B f) i3) l j ok<|q b f;have c3:=λb=>UQ (0,0,0) aA b;go_enter func349,ntmps349;go_wp2_with (rw[<-h];clear h);apply dG (λb=>b==2||b==3||b==5||b==6||b==7) ah ah;intro S b b b b b h;refine aD ?_;refine aD ?_
 refine a_ λj b=>?_;go_wp2_with (go_at_call 331;refine(c1 _).mono ?_;rintro g w2 ⟨rfl,l⟩);have f:=ae.ft l;apply b _ _ ah (λ_=>h _ f.below);refine a_ λj b=>?_;go_wp2_with (go_at_call 356;refine(c2 _ f).mono ?_;rintro g w3 ⟨l,l,rfl,s,l,v⟩);have t:=f.B s;apply b _ _ ah (λ_=>h _ t.below);refine aD ?_;refine a_ λj b=>?_;go_wp2_with (go_at_call 358;refine(c3 _).mono ?_;rintro g w4 ⟨u,rfl,l,l,w⟩);have n:=t.B l;apply b _ _ ah (λ_=>h _ n.below);obtain⟨t,t⟩:=v.O;refine a_ λj b=>?_;go_wp2_with (go_at_call 345;refine (Br (D:=dU bs F) (t.B l) ((yY (q w2 f)<|q w2 f).B (s.B l) i2) (s.B l).4 (BW ok.1 ok.2 aA (λ_ c=>nomatch c) (aw di ok.4)<|qX ok.5) (o:=some u) (ts:= [(0,0,0)]) (w.T) x).mono ?_;rintro g g ⟨i,k,e,d,g,rfl,g,g,u,_,l,q,s,_⟩);have v:=t.6.2;have t:=f.4;have f:=n.V s aa;apply b _ _ ah (λ_=>h _ f.below);refine a_ λj b=>?_;go_wp2;apply b _ _ ah (λ_=>h _ f.below);apply cR;go_wp2;go_ret;exact⟨i,k,e,d,rfl,dX aa n.4,g,u,l,q,p.B f⟩
def gN(w:ag)(v:aq)(bT:aq->Prop):Prop:=∀g,v.ownBlock=some g->∃a e b,w.1[g]?=some (.cells a e b)∧∀x∈a.1,bT x
theorem gN.O{w:ag}:gN w (.slice none 0 0) a6:=λ_ h=>nomatch h
theorem gN.I{w:ag}(h:gN w q a6)(a:∀x,a6 x->f7 x):gN w q f7:=λg a=>by
 obtain⟨b,e,b,b,b⟩:=h g a;grind
theorem gN.B{w w':ag}{v:aq}{D:Nat->Prop}(h:gN w v a6)(j:ae D w w')(i:∀b,v.ownBlock=some b->¬D b):gN w' v a6:=λg a=>by
 obtain⟨b,e,c,d,f⟩:=h g a;exact⟨b,e,c,j.O d<|i g a,f⟩
def Flat:aq->Bool
 | .bool _| .int .. | .string _| .pointer none| .slice none _ _| .map none| .nilFunc| .nilIface=>true
 |_=>false
def eI(N:Nat)(K:ai)(x:aq):Prop:=Flat x=true∨∃a n c,x=.slice (some a) n c∧N<=a.1∧(K a.1).isSome=true
theorem eI.B{K a:ai}(e:K.le a){x:aq}(h:eI b K x):eI b a x:=by
 obtain h|⟨a,n,c,d,f,g⟩:=h;exact .inl h;obtain⟨o,i⟩:=sg.1 g;exact .inr ⟨a,n,c,d,f,by rw[e _ _ i];rfl⟩
theorem eI.I(H:c.list d b8 q P)(f:∀a,q.ownBlock=some a->b<=a):eI b c q:=by
 obtain⟨a,_,_,_,_,a⟩:=H;obtain⟨rfl,_⟩|⟨g,o,e,e,e,e,rfl,e,_⟩:=a;exact .inl rfl;exact .inr ⟨_,_,_,rfl,f _ rfl,dh e⟩
def ey(N:Nat)(K:ai):Prop:=∀b o,N<=b->K b=some o->∃c e a,o=.cells c e a∧∀x∈c.1,eI N K x
theorem ey.B{h:ai}(d:h.In a)(c:a<=b):ey b h:=λc o c c=>aI<|d.O c
theorem eI.O(h:eI d c q)(a:b<=d):eI b c q:=by
 obtain h|⟨a,n,e,f,g,g⟩:=h;exact .inl h;exact .inr ⟨a,n,e,f,aa,g⟩
theorem ey.T(H:ey b d2)(m:ai.Ext d d2 c)(n:ey d c)(p:b<=d):ey b c:=by
 intro a o k l;obtain h|h:=m.2 a o l;obtain⟨e,f,g,i,j⟩:=H a o k h;exact⟨e,f,g,i,λx k=>(j x k).B m.1⟩;obtain⟨e,f,g,i,j⟩:=n a o h l;exact⟨e,f,g,i,λx k=>(j x k).O p⟩
theorem ey.O{N:Nat}{w:ag}(H:ey N c)(j:c.le d2)(m:d2.In w)(a:∀b o,d2 b=some o->c b=some o∨q.ownBlock=some b)(l:gN w q<|eI N c):ey N d2:=by
 intro b o i k;obtain g|g:=a b o k;obtain⟨d,e,f,a,h⟩:=H b o i g;exact⟨d,e,f,a,λx i=>(h x i).B j⟩;obtain⟨d,e,f,a,h⟩:=l b g;rw[m b o k]at a;exact⟨d,e,f,dw a,λx i=>(h x i).B j⟩
theorem NN(h:q∈(qd A b).1):q∈A.1:=by
 unfold qd at h;simp only[Hy,ei]at h;obtain⟨i,a,rfl⟩:=h;have a:0<A.size:=aJ
 have c:i % A<A:=Ay _ a;grind
theorem ab7{P:bj}{w:ag}(b)(t ty e:bB)(i:TypeInfo)(z)(a c)(o:P.underlying t=some (.slice e))(j:P.info? e=some i)(q:i.8=some z)
  (s:i.3=a)(p:i.4=c)(v) n d (l:w.ownsRow b e a v n d)
  b(m d) (news:List aq) (f:m≠0)(f:news=m*a)(a:∀a u,news[a]?=some u->w.cell? (b.add a)=some u)(B:∀u∈news,u.oneCell'=true)
  (h:n+m<=maxLen)(a:(n+m)*c<=140737488355328)(r:∀x∈z.cells.1,a6 x)(k:∀x∈news,a6 x)(C:gN w v a6):
  ∃a c,(Builtin.append_ #[t,t] ty #[v,.slice (some b) m d]).run P w=.ok a c∧gN c a a6:=by
 subst s;subst p;have a:n+m<=9223372036854775807:=by simp[maxLen]at h;omega
 obtain⟨rfl,rfl⟩|⟨g,u,h,rfl,a,c,a,a,D,E⟩:=l.2;refine⟨_,_,run_append_nil (P:=P) w t _ e i z o j q b m d _ f aa aa aa (by grind),λg c=>?_⟩;cases dw c;refine⟨_,_,_,cz _ _,λx a=>?_⟩;simp only[DM,gX]at a;obtain a|a:=a;exact k x a;exact r x<|NN a;obtain⟨v,y,A,s,p⟩:=C g rfl;rw[c]at s;obtain⟨rfl,rfl,rfl⟩:h=v∧e=y∧(0,0)=A:=aV s;by_cases v:n+m<=u;have s:n*i.3+news<=h:=by rw[f,D,<-IG];exact xi _ v
 refine⟨_,_,run_append_room (P:=P) w t _ e i o j g n _ _ c b m d _ f aa B aa s,λs h=>?_⟩;cases dw h;refine⟨_,_,_,setRow_heap w g _ _ e _ c,λx a=>?_⟩;simp only[gX]at a;obtain (a|a)|a:=a;exact p x<|qq a;exact k x a;exact p x<|tK a;refine⟨_,_,run_append_grow (P:=P) w t _ e i z o j q _ n _ _ l.1 (l.cells (g:=g) rfl) b m d _ f aa aa aa<|growslice_fits aa aa,λs h=>?_⟩;cases dw h;refine⟨_,_,_,cz _ _,λx a=>?_⟩;simp only[DM,gX]at a;obtain (a|a)|a:=a;rw[<-E]at a;exact p x<|qq a;exact k x a;exact r x<|NN a
theorem aen(J:Q.6=none)(b x:cL)(g:bB)
  (U:Q.2=.call {callee:=.builtin .append,args:= #[b,x],argTypes:= #[g,g]})
  k (f:bB)(i:TypeInfo)(h) (d o) (G:X.underlying g=some (.slice f))(A:X.info? f=some i)(H:i.8=some h)
  (F:i.3=d)(s:i.4=o)(Z:h.cells=d)(O:0<d)(v) n l (V:u.eval b=v)(D:a.ownsRow k f d v n l)
  j(m p) c (W:u.eval x=.slice (some j) m p)(S:m≠0)(B:c.length=m*d)(C:∀e b,c[e]?=some b->a.cell? (j.add e)=some b)(q:∀b∈c,b.oneCell'=true)
  (r:n+m<=maxLen)(y:(n+m)*o<=140737488355328)(E:k<=a)(Y:∀x∈h.cells.1,a6 x)(T:∀x∈c,a6 x)(N:gN a v a6)
  (I:∀b e,e.ownsRow k f d b (n+m) (l++c)->a.grownBy e v.ownBlock->(b=.slice none 0 0↔v=.slice none 0 0∧m=0)->(b.ownBlock=v.ownBlock∨b.ownBlock=some a.1.size)->gN e b a6->wpList X d6 z t (u.put Q.1 b) e):
  wpList X d6 z (Q::t) u a:=by
 refine wpList_plain J λK R=>?_;obtain⟨b,e,x,J,K,L,M⟩:=run_append_own_at (P:=X) a _ g Q.3 f i h _ _ G A H F s Z O v n l D j m p c B C q r y E;obtain⟨Z,w2,E,O⟩:=ab7 (P:=X) (w:=a) k g Q.3 f i h d o G A H F s v n l D j m p c S B C q r y Y T N;obtain⟨rfl,rfl⟩:b=Z∧e=w2:=by rw[x]at E;simpa using E
 unfold jO execOp;simp only[U,resolve,invoke,builtin,Ih,Sem.run_pure,Result.andThen_ok,JF,rV,List.map_nil,V,W,x];exact R _ _<|I b e J K L M O
theorem uH(E:fW X d9 a9 b j)(w:Q.6=none)(s x:cL)
  (D:Q.2=.call {callee:=.builtin .append,args:= #[s,x],argTypes:= #[d9,d9]})(B:aM a d a9 b b8 c q P)(G:u.eval s=q)(m:F)
  e (f:b8 c e.1 m)(f:e.size=b)(p:∀k∈e.1,k.oneCell'=true)(J:u.eval x=.slice (some ⟨y,0,none⟩) 1 1)(o:a=y)(l:(P+1)*j<=140737488355328)(f:P.length<140737488355328)(f:d<=a)
  {bT:aq->Prop}(n:((X.info? a9).bind (·.8))=some b6)(K:∀x∈b6.cells.1,bT x)(C:∀k∈e.1,bT k)(r:gN a q bT)
  (h:∀g i f,aM f d a9 b b8 c (.slice (some ⟨g,0,none⟩) (P+1) i) (P++ [m])->ae (λm=>q.ownBlock=some m) a f->(q.ownBlock=some g∨a<=g)->gN f (.slice (some ⟨g,0,none⟩) (P+1) i) bT->wpList X d6 z t (u.put Q.1 (.slice (some ⟨g,0,none⟩) (P+1) i)) f):wpList X d6 z (Q::t) u (a.alloc (.cells e a9)):=by
 subst o;obtain⟨I,⟨M,N,A,o,v,v,L⟩,H⟩:=E;obtain rfl:N=b6:=by grind
 replace n:=o;obtain⟨m1,m2,o,E,E,E,E⟩:=B;refine aen w s x d9 D d a9 M _ _ _ I A n aa v L H q _ _ G (E.alloc _) _ 1 1 _ J aA (by grind) ?_ p (by unfold maxLen;omega) l bQ K C (r.B (ae.al) i2) ?_
 ·intro n k k;have:(⟨a,0,none⟩:bC).add n=⟨a,n,none⟩:=by unfold Addr.add;split<;>simp_all
  simp_all
 ·intro k f k n p f r;rcases k.2 with⟨rfl,_⟩|⟨g,i,i,rfl,_⟩
  ·have:=(p.1 rfl).2;cases this
  ·have i:=((ae.T _ _).I _).iz n λc n=>.inr n;refine h g _ _ ⟨m1.B i aa,λm Q l=>?_,o++ [e.1],by grind,?_,?_,?_⟩ i (f.imp (λh=>h.symm) λh=>by have:=dw h;simp_all) r
   ·rcases f with f|f
    grind
    ·rw[f];intro e;have:=dw e;have e:=m1.O l;simp at this;omega
   grind
   grind
   ·simpa using k
structure fY{α:Type}(w:ag)(N e sz:Nat)(R:ai->List aq->α->Prop)(k:ai)(v:aq)(xs:List α):Prop extends aM w N e sz R k v xs where
 nN:gN w v (Flat ·=true)
section
variable{α:Type}{w w':ag}{N e sz:Nat}{R:ai->List aq->α->Prop}{k:ai}{v:aq}{xs:List α}{D:Nat->Prop}
theorem fY.oQ(h:k.In w):fY w N e sz R k (.slice none 0 0) ([]:List α):=⟨.m h,.O⟩
theorem fY.iO(h:fY w N e sz R k v xs)(c:ae D w w')(a:∀b,N<=b->¬D b)(d:∀b o,k b=some o->¬D b):fY w' N e sz R k v xs:=⟨h.toaM.I c a d,h.nN.B c λb c=>a b (h.B b c).1⟩
theorem fY.lK(h:fY w N e sz R k v xs)(c:ae D w w')(a:∀b,v.ownBlock=some b->¬D b)(d:∀b o,k b=some o->¬D b):fY w' N e sz R k v xs:=⟨h.toaM.T c a d,h.nN.B c a⟩
theorem fY.qI(h:fY w N e sz R k v xs)(a:b<=N):fY w b e sz R k v xs:=⟨h.toaM.Z a,h.nN⟩
end
theorem PT(E:fW X d9 a9 b j)(I:((X.info? a9).bind (·.8))=some b6)(J:∀x∈b6.cells.1,Flat x=true)(w:Q.6=none)(s x:cL)
  (D:Q.2=.call {callee:=.builtin .append,args:= #[s,x],argTypes:= #[d9,d9]})(k:fY a d a9 b b8 c q P)(G:u.eval s=q)(i:F)
  e (o:b8 c e.1 i)(v:e.size=b)(n:∀f∈e.1,f.oneCell'=true)(H:u.eval x=.slice (some ⟨y,0,none⟩) 1 1)(B:a=y)(p:(P+1)*j<=140737488355328)(A:P.length<140737488355328)(r:d<=a)(C:∀f∈e.1,Flat f=true)
  (m:∀g h f,fY f d a9 b b8 c (.slice (some ⟨g,0,none⟩) (P+1) h) (P++ [i])->ae (λl=>q.ownBlock=some l) a f->(q.ownBlock=some g∨a<=g)->wpList X d6 z t (u.put Q.1<|.slice (some ⟨g,0,none⟩) (P+1) h) f):wpList X d6 z (Q::t) u<|a.alloc<|.cells e a9:=
 uH E w s x D k.toaM G i e o v n H B p A r I J C k.nN λg h f e i k l=>m g h f ⟨e,l⟩ i k
theorem yc:fW Tryz.prog 313 413 2 16:=.B underlying313 (z:=.agg #[.int .u64 0,.int .i64 0]) ah rfl aA
theorem Hf:((Tryz.prog.info? 413).bind (·.8))=some (.agg #[.int .u64 0,.int .i64 0]):=ah
abbrev nC:=List (ByteArray×Nat)
abbrev sR(n:Nat):Value:=.int .i64 n
def pj(s:List dP×nC)(t:dW):List dP×nC:=
 if t.v then(match aB s.2 t.t with
  |some n=>(s.1++ [⟨0,n⟩],s.2)
  |none=>(s.1++ [⟨0,s.2.length⟩],cK s.2 t.t s.2.length))
 else(s.1++ [⟨iU t.t 8,0⟩],s.2)
def eD(f:nC)(ts:List dW):List dP×nC:=ts.foldl pj ([],f)
variable{S:nC}
theorem Z3{ts:List dW}{y:dW}(a:ts[b]?=some y):eD S (ts.take<|b+1)=pj (eD S<|ts.take b) y:=by
 unfold eD;rw[eA,a,sj,iZ];rfl
theorem Z2(f:nC)(ts:List dW):(eD f ts).1=ts.length:=by
 have h:∀(ts:List _) s,(ts.foldl pj s).1=s.1+ts.length:=by
  intro ts;induction ts with
  |nil=>grind
  |cons t ts a=>
   intro s;have:(pj s t).1.length=s.1+1:=by
    unfold pj;split;split<;>simp;simp
   grind
 exact(h _ _).trans<|nJ _
theorem LC(a3:c.In a){e:fg}(f8:jR c [.string n,.slice l j d] e)(j0:e.2.length<=3)(g7:∀g9∈e.2,aL g9.t)
  {i:Nat}(d6:aF a aL cr sR i S)(j1:c i=none):
  aH 246 #[.agg #[n,.slice l j d],some i] a λa9 a7=>∃v,a9=.returned (.agg #[e.n,v])∧ae (·=i) a a7∧aF a7 aL cr sR i (eD S e.2).2∧aM a7 a 413 2 dV c v (eD S e.2).1∧gN a7 v (Flat ·=true):=by
 obtain⟨v,e3,e2⟩:=f8;obtain⟨rfl,rfl⟩:n=e.n∧ .slice l j d=v:=aV e3
 obtain⟨f1,f2,e4,f9⟩:=e2.U a3;obtain⟨rfl,rfl,rfl⟩:l=f1∧j=e.2.length∧d=f2:=aV e4
 clear e4 e3;have c1:∀b o,c b=some o->¬b=i:=λb o f a9=>by grind
 have g2:∀G o,l=some ⟨G,o,none⟩->¬G=i:=by
  rintro G o rfl;obtain⟨aK,g6⟩:=e2.T;exact c1 G aK g6
 have j2:=d6.O;obtain⟨c9,ax,b9,-,d2,-⟩:=xQ a (.cells #[e.n,.slice l e.2.length d] 233) (.cells #[.string ⟨#[]⟩,.slice none 0 0] 315)<|.cells #[e.n,.slice none 0 0] 315
 have b7:c9.1[a.1.size+2]?=some (.cells #[e.n,.slice none 0 0] 315):=by
  rw[ax];have:=eK (a.alloc<|.cells #[e.n,.slice l e.2.length d] 233) (.cells #[.string ⟨#[]⟩,.slice none 0 0] 315)<|.cells #[e.n,.slice none 0 0] 315
  rwa [fV]at this
 have c2:aM c9 (a.1.size+3) 413 2 dV c (.slice none 0 0) (eD S<|e.2.take 0).1:=.m<|a3.B b9 i3;have d7:=d6.B b9 id;go_enter func246,ntmps246;go_wp2_with (rw[<-ax]);clear ax;obtain⟨B,A⟩:=aT<|a.1.size+1+1;have d4:=A;rw[<-A];rw[<-d4]at b7;have d5:a.1.size+3=B+1:=aa
 rw[d5]at c2;obtain⟨i1,Y⟩:a.1.size+2<=B∧B<=a.1.size+2:=aa
 clear A d5 d4
 go_loopw [8,9,16] (λ_ _ q wr=>∃(k:Nat)(v:aq),k<=e.2.length∧q=.int .i64 k∧ae (·=i) a wr∧wr.1[a.1.size+1]?=some (.cells #[.string ⟨#[]⟩,.slice none 0 0] 315)∧wr.1[B]?=some (.cells #[e.n,v] 315)∧aF wr aL cr sR i (eD S<|e.2.take k).2∧aM wr (B+1) 413 2 dV c v (eD S<|e.2.take k).1∧gN wr v (Flat ·=true)) (λ_ _ q _=>e.2.length-(intOf q).toNat)
 case atStart=>exact⟨0,_,aa,rfl,b9.Z,d2,b7,d7,c2,.O⟩
 case round=>
  clear c2 d7 d2 b7;obtain⟨k,v,i9,rfl,b8,b5,A,Z,D,d3⟩:=hrel;have j5:=aP A;by_cases g4:k<e.2.length
  ·let⟨M,c4⟩:∃M,e.2[k]?=some M:=⟨_,cy g4⟩;obtain⟨G,o,cc,rfl,i8,rfl,g0⟩:=f9 k M c4;obtain⟨f3,f4⟩:=b8.cB g0 (g2 G o rfl);have c8:ay<|eD S _=pj _ M:=Z3 c4;have a4:=g7 M<|cA c4;have e0:(eD S<|e.2.take k).1.length<=3:=by rw[Z2,ix];omega
   generalize eD S (e.2.take k)=g8 at Z D e0 c8;obtain⟨F,h⟩:=g8;obtain⟨y,c7⟩:=M;obtain⟨L,E,I,-⟩:=df wr<|.cells #[y,c7] 331
   have d8:L.1[wr.1.size]?=some _:=aw E<|cz _ _
   have j4:=aP d8;have H:=I.O A id;have i4:=aP H;let⟨b0,b1,h5,h6⟩:=bJ H;obtain⟨p0,p1,-,-⟩:=bJ d8;have O:=D.I I i2 i3;have C:=Z.B I id;have b6:=d3.B I i2;have b3:∀(g:ag)(r a6 z:Nat),gN g (.slice (some ⟨r,0,none⟩) a6 z) (Flat ·=true)->B+1<=r->gN (g.setCell ⟨B,1,none⟩<|.slice (some ⟨r,0,none⟩) a6 z) (.slice (some ⟨r,0,none⟩) a6 z) (Flat ·=true):=λg r a6 z b4 W=>b4.B ((ae.T (·=B) g).U (p:=⟨B,1,none⟩) (.inr rfl) _) λb f=>by cases dw f;grind
   have J:=O.B;simp only at f3 f4 a4 e0 O C;have fin:∀(c6:dP)(b2:nC)(K g:ag)(u:aq),pj (F,h) ⟨y,c7⟩=(F++ [c6],b2)->ae (·=i) L K->aF K aL cr sR i b2->aM g (B+1) 413 2 dV c u (F++ [c6])->ae (λb=>v.ownBlock=some b) K g->
     ae (·=i) a (g.setCell ⟨B,1,none⟩ u)∧(g.setCell ⟨B,1,none⟩ u).1[a.1.size+1]?=some (.cells #[.string ⟨#[]⟩,.slice none 0 0] 315)∧(g.setCell ⟨B,1,none⟩ u).1[B]?=some (.cells #[e.n,u] 315)∧aF (g.setCell ⟨B,1,none⟩ u) aL cr sR i (eD S<|e.2.take<|k+1).2∧aM (g.setCell ⟨B,1,none⟩ u) (B+1) 413 2 dV c u (eD S<|e.2.take<|k+1).1:=by
    intro c6 b2 K g u b4 W f5 d1 X;have e1:∀b,v.ownBlock=some b->B+1<=b:=λb f=>(J b f).1;have f6:=((b8.B I.Z).B W).V X λb f=>.inl<|aI<|e1 b f;have t:=(ae.T (·=B) g).U (p:=⟨B,1,none⟩) (.inr rfl) u;have c3:∀b,b<B+1->¬v.ownBlock=some b:=λb f g1=>aI<|e1 b g1
    rw[c8.out,b4];refine⟨f6.U (p:=⟨B,1,none⟩) (.inl (by grind)) _,t.O (X.O (W.O (I.O b5 id) aa)<|c3 _ aa) aa,fQ (o:=1) (X.O (W.O H aa)<|c3 _ aa) u,(f5.B X<|c3 _ aa).B t aa,d1.T t (λb f=>aI<|(d1.B b f).1) λb aK f=>aI<|a3.O f⟩
   cases c7 with
   |false=>
    go_wp2_with (rw[<-E]);clear E;apply dG (λq=>q==4||q==6||q==7||q==8||q==9) ah ah;intro h0 h9 i5 h7 h8 i0 d0;refine aD ?_;refine aD ?_;refine aD ?_;refine aD ?_
    refine a_ λV m=>?_;go_wp2_with (go_at_call 98;refine(L4 _ _).mono ?_;rintro a9 w2 ⟨rfl,rfl⟩);apply m _ _ ah (λ_=>d0 _ (ae.T _ _).m.below);refine aD ?_;refine a_ λV m=>?_;go_wp2;refine m _ _ ah (λ_=>d0 _ ((ae.T _ _).m.I _).below) ?_;refine a_ λV m=>?_;refine uH yc rfl (.tmp 24) (.tmp 29) rfl (O.I (ae.T _ L).m (λ_ _ c=>c) i3) rfl ⟨iU y 8,0⟩ #[.int .u64 (iU y 8:Nat),.int .i64 0] rfl rfl (by simp[eP]) rfl rfl aa aa bQ Hf (by simp[tT,Flat]) (by simp[Flat]) (b6.B (ae.T bE L).m i2) ?_;intro r z g w x _ N;go_wp2;apply m _ _ ah (cS ah);refine a_ λV m=>?_;go_wp2;apply m _ _ ah (cS ah);obtain⟨P,Q,R,T,U⟩:=fin _ _ _ g _ rfl (ae.T _ _).m (C.B (ae.T bE L).m id) w x;have s:=x.O (b:=B) H λf=>aI<|(J _ f).1;obtain⟨e7,e8,-,br⟩:=bJ s;have d9:=aP s;refine a_ λV m=>?_;go_wp2;refine m _ _ ah (cS ah) ?_;refine cR ?_;go_wp2;go_roundw
    case rel=>exact⟨k+1,_,aa,ba,P,Q,R,T,U,b3 _ _ _ _ N (w.B _ rfl).1⟩
    case measure=>simp[intOf];omega
   |true=>
    cases a0:aB h y with
    |some a5=>
     have a8:ay<|pj (F,h) ⟨y,true⟩=(F++ [⟨0,a5⟩],h):=by show _=_;unfold pj;rw[if_pos rfl];dsimp only;rw[a0]
     go_wp2_with (first|(rw[<-E];clear E)|(at_lookup;refine gJ bZ underlying307 rv rfl (.tmp 33) (.tmp 35) rfl rfl (bU _) C.T rfl a4 a0 ?_)|(at_builtin;refine uH yc rfl (.tmp 48) (.tmp 51) rfl O rfl ⟨0,a5⟩ #[.int .u64 0,.int .i64 (a5:Nat)] rfl rfl (by simp[eP]) rfl rfl aa aa aa Hf (by simp[tT,Flat]) (by simp[Flat]) b6 ?_;intro r z g w x _ N;have s:=x.O (b:=B) H λf=>aI<|(J _ f).1;obtain⟨e7,e8,-,br⟩:=bJ s;have d9:=aP s));obtain⟨P,Q,R,T,U⟩:=fin ⟨0,a5⟩ h L g _ a8.out (ae.T _ _) C w x;go_roundw
     case rel=>exact⟨k+1,_,aa,ba,P,Q,R,T,U,b3 _ _ _ _ N (w.B _ rfl).1⟩
     case measure=>simp[intOf];omega
    |none=>
     have a8:ay<|pj (F,h) ⟨y,true⟩=(F++ [⟨0,h.length⟩],cK h y h.length):=by show _=_;unfold pj;rw[if_pos rfl];dsimp only;rw[a0]
     have j3:=c1;go_wp2_with (first|(rw[<-E];clear E)|(at_lookup;refine jo bZ underlying307 rv rfl (.tmp 33) (.tmp 35) rfl rfl (bU _) C.T rfl a4 a0 ?_)|(at_len;refine nB underlying307 rfl (.tmp 41) rfl rfl C ?_)|(at_mapUpdate;refine hZ bZ underlying307 rfl (.tmp 43) (.tmp 45) (.tmp 46) rfl rfl C rfl a4 h.length rfl ?_;intro K a2 f7;have Y:=a2.O H aa;have g5:=O.T a2 (λb f=>aI<|(J b f).1) c1;obtain⟨h1,h2,-,-⟩:=bJ Y;have i7:=aP Y)|(at_builtin;refine uH yc rfl (.tmp 48) (.tmp 51) rfl g5 rfl ⟨0,h.length⟩ #[.int .u64 0,.int .i64 (h.length:Nat)] rfl rfl (by simp[eP]) rfl rfl aa aa aa Hf (by simp[tT,Flat]) (by simp[Flat]) (b6.B a2 λb f=>aI<|(J b f).1) ?_;intro r z g w x _ N;have s:=x.O (b:=B) Y λf=>aI<|(J _ f).1;obtain⟨e7,e8,-,br⟩:=bJ s;have d9:=aP s));obtain⟨P,Q,R,T,U⟩:=fin ⟨0,h.length⟩ _ K g _ a8.out a2 f7 w x;go_roundw
     case rel=>exact⟨k+1,_,aa,ba,P,Q,R,T,U,b3 _ _ _ _ N (w.B _ rfl).1⟩
     case measure=>simp[intOf];omega
  ·have g3:e.2.take k=e.2:=fo aa;rw[g3]at D Z;obtain⟨b0,b1,-,-⟩:=bJ A;obtain⟨f0,a1,h3,h4⟩:=bJ b5;have i6:=aP b5;obtain⟨e5,e6,rfl⟩:=D.O;go_wp2;refine fl (v:=.agg #[e.n,.slice e5 (eD S e.2).1.length e6]) (by simp[results,results246,go_sem,f0,a1]) rfl ?_;have t:=((ae.T (·=a.1.size+1) wr).U (p:=⟨a.1.size+1,0,none⟩) (.inr rfl)<|.string e.n).U (p:=⟨a.1.size+1,1,none⟩) (.inr rfl)<|.slice e5 (eD S e.2).1.length e6;exact⟨_,rfl,b8.V t λb (f:b=a.1.size+1)=>.inl aa,Z.B t aa,(D.T t (λb f=>aI<|(D.B b f).1) λb aK f=>aI<|a3.O f).Z aa,d3.B t λb f=>aI<|(D.B b f).1⟩
theorem Mx:fW Tryz.prog 316 382 3 48:=.B underlying316 (z:=.agg #[iJ,.slice none 0 0,false]) ah rfl aA
theorem aex:((Tryz.prog.info? 382).bind (·.8))=some (.agg #[iJ,.slice none 0 0,false]):=ah
def yJ(s:List eX×nC)(l:fj):List eX×nC:=(s.1++ [⟨⟨l.a.n,(eD s.2 l.a.2).1⟩,l.2⟩],(eD s.2 l.a.2).2)
def nv(f:nC)(a:List fj):List eX×nC:=a.foldl yJ ([],f)
theorem Z0{a:List fj}{y:fj}(c:a[b]?=some y):nv S (a.take<|b+1)=yJ (nv S<|a.take b) y:=by
 unfold nv;rw[eA,c,sj,iZ];rfl
theorem Z'(f:nC)(a:List fj):(nv f a).1=a.length:=by
 have h:∀(a:List _) s,(a.foldl yJ s).1=s.1.length+a:=by
  intro a;induction a with
  |nil=>grind
  |cons t a a=>
   intro s;rw[IB,a];simp[yJ];omega
 exact(h _ _).trans<|nJ _
def bP(c:bk):bW:=⟨⟨c.1.n,(eD [] c.1.2).1⟩,(nv (eD [] c.1.2).2 c.2).1⟩
def kT(h:ai)(d:List aq)(r:bW):Prop:=∃b c cv a,d= [.string r.1.n,.slice b r.1.2 c,.slice cv r.2 a]∧h.list 2 dV (.slice b r.1.2 c) r.1.2∧h.list 3 fM (.slice cv r.2 a) r.2∧r.2<=a
theorem kT.B{h k:ai}(e:h.le k){c:List aq}(H:kT h c v):kT k c v:=by
 obtain⟨i,j,cv,a,b,d,f,g⟩:=H;exact⟨i,j,cv,a,b,ai.list.B (h:=h) (k:=k) (λ_ _ q=>q) d e,ai.list.B (h:=h) (k:=k) (λ_ _=>fM.B e) f e,g⟩
def vL(c:bk):Prop:=c.1.2.length<=3∧(∀t∈c.1.2,aL t.t)∧c.2.length<=4∧∀l∈c.2,l.a.2.length<=3∧∀t∈l.a.2,aL t.t
theorem aM.nd(h:aM a b d j b8 c q P):∃f e,q=.slice f P e∧P<=e:=by
 obtain⟨_,_,e,_,_,_,e⟩:=h;obtain⟨rfl,f⟩|⟨g,f,f,rfl,_,_,f,_⟩:=e.2;grind;grind
theorem Uc(Q:c.In a){cl:bk}(f1:dg c [.string n,.slice l j b,.slice a8 y d] cl)(j3:vL cl):
  aH 184 #[.agg #[n,.slice l j b,.slice a8 y d]] a λN f8=>∃s u,N=.returned (.agg #[cl.1.n,s,u])∧au a f8∧∃k,k.In f8∧ai.Ext a c k∧kT k [.string cl.1.n,s,u] (bP cl)∧ey a k∧eI a k s∧eI a k u:=by
 obtain⟨k7,v,⟨k4,rfl,j5⟩,f0,i0⟩:=f1;obtain⟨rfl,rfl,rfl⟩:n=cl.1.n∧ .slice l j b=k4∧ .slice a8 y d=v:=aV f0
 clear f0;obtain⟨s1,s2,n5,k2⟩:=j3;obtain⟨rfl,h9⟩:=i0.O Q;obtain⟨g3,c1,ax,e7,d6,-,j8⟩:=xQ a (.cells #[cl.1.n,.slice l j b,.slice a8 cl.2.length d] 236) (.cells #[.string ⟨#[]⟩,.slice none 0 0,.slice none 0 0] 318)<|.map #[] 0
 have e1:aF g3 aL cr sR (a.1.size+2) []:=by
  rw[c1];have:=aF.I (w:=(a.alloc<|.cells #[cl.1.n,.slice l j b,.slice a8 cl.2.length d] 236).alloc<|.cells #[.string ⟨#[]⟩,.slice none 0 0,.slice none 0 0] 318) (ok:=aL) (key:=cr) (enc:=sR);simpa using this
 have f6:=Q.B ax i3;have m8:= @iW Tryz.prog;go_enter func184,ntmps184;go_wp2_with (go_at_call 246;rw[<-c1];refine(LC f6 (⟨_,rfl,j5⟩:jR c [.string cl.1.n,.slice l j b] cl.1) s1 s2 e1<|Q.I aa).mono ?_;clear c1 e1;rintro N w2 ⟨s,rfl,T,e2,O,a9⟩;have b8:=T.O e7 aa;have d7:=T.O d6 aa;obtain⟨p0,p1,p2,-⟩:=bq b8;obtain⟨L,M,rfl⟩:=O.O;have j9:=aP b8);obtain⟨s,c6⟩:=aT<|oD L (eD [] cl.1.2).1.length M;rw[<-c6];rw[<-c6]at O a9;clear c6;obtain⟨R,Y,a4,a5,a6⟩:=O.U λ_ _ _ _ I=>I;have f7:ai.Ext (a.1.size+3) c R:=⟨a4,λe o f=>(a5 e o f).imp id λN=>aI<|(O.B e N).1⟩;have e4:=(ey.B Q<|cP _).O a4 Y a5<|a9.I λ_ c=>.inl c;have S:eI a.1.size R s:=.I a6 λe f=>aI<|(O.B e f).1
 obtain⟨B,b3⟩:=aT w2.1.size;obtain⟨d2,c8,W,-⟩:=df w2<|.cells #[cl.1.n,s,.slice none 0 0] 318
 have d9:d2.1[B]?=some (.cells #[cl.1.n,s,.slice none 0 0] 318):=by rw[c8,b3];exact cz _ _
 have j7:=T.4;have f2:R B=none:=Y.I aa;have m4:a.1.size+3<=B:=aa
 rw[<-c8,<-b3];have e8:=(ax.V T λe (f:e=a.1.size+2)=>.inl aa).ac W;have e3:=e2.B W id;have Z:=W.O d7 id;have f4:aM d2 (B+1) 382 3 fM R (.slice none 0 0) (nv (eD [] cl.1.2).2<|cl.2.take 0).1:=.m<|Y.B W i3;clear c8 b3 p0 p1 p2 b8 d7 e2 O T W j7
 go_loopw [16] (λz wr=>∃(k:Nat)(u:aq)(K:ai),k<=cl.2.length∧z=.int .i64 k∧au a wr∧wr.1[a.1.size+1]?=some (.cells #[.string ⟨#[]⟩,.slice none 0 0,.slice none 0 0] 318)∧wr.1[B]?=some (.cells #[cl.1.n,s,u] 318)∧aF wr aL cr sR (a.1.size+2) (nv (eD [] cl.1.2).2<|cl.2.take k).2∧ai.Ext (a.1.size+3) c K∧K B=none∧K.list 2 dV s (eD [] cl.1.2).1∧aM wr (B+1) 382 3 fM K u (nv (eD [] cl.1.2).2<|cl.2.take k).1∧ey a.1.size K∧eI a.1.size K s∧gN wr u (eI a.1.size K)) (λz _=>cl.2.length-(intOf z).toNat)
 case atStart=>exact⟨0,_,R,aa,rfl,e8,Z,d9,e3,f7,f2,a6,f4,e4,S,.O⟩
 case round=>
  clear e4 S a9 f2 f4 e3 Z d9 e8 f7 Y a4 a5 a6 R d2 j9 e7 d6 j8 ax f6;obtain⟨k,u,K,c2,rfl,b9,a7,b6,b7,m,h2,c3,t,e5,S,d8⟩:=hrel;have n1:=aP b6;by_cases i8:k<cl.2.length
  ·let⟨g,c9⟩:∃g,cl.2[k]?=some g:=⟨_,cy i8⟩;obtain⟨l7,o,cc,rfl,f1,h6,i4⟩:=h9 k g c9;obtain⟨g1,g2,rfl,h7⟩:=h6.B;let⟨k8,k9,l0⟩:=b9.ab i4 id;have a3:ay<|nv (eD [] cl.1.2).2 _=yJ _ g:=Z0 c9;obtain⟨g0,k5⟩:=k2 g<|cA c9;have f3:(nv (eD [] cl.1.2).2<|cl.2.take k).1.length<=4:=by rw[Z',ix];omega
   generalize nv (eD [] cl.1.2).2 (cl.2.take k)=k1 at b7 t f3 a3;obtain⟨k0,d4⟩:=k1;dsimp only at b7 t f3;obtain⟨X,c7,F,-⟩:=df wr<|.cells #[.string g.a.n,.slice g1 g.a.2.length g2,.bool g.2] 309
   have e6:X.1[wr.1.size]?=some (.cells #[.string g.a.n,.slice g1 g.a.2.length g2,.bool g.2] 309):=aw c7<|cz _ _
   have n0:=aP e6;have b5:=F.O b6 id;have m3:=aP b5;obtain⟨b0,b1,b2,l4,l5,l6⟩:=bq b5;obtain⟨p0,p1,p2,-⟩:=bq e6;have G:=t.I F i2 i3;have h4:=b7.B F id;have h0:=d8.B F i2;have j2:∀e o,K e=some o->¬e=a.1.size+2:=λe o f N=>by
    obtain i|i:=m.2 e o f
    ·have:=Q.O i;omega
    omega
   have j1: ¬B=a.1.size+2:=aa
   have m9: ¬wr.1.size=a.1.size+2:=aa
   have d:=LC (G.V.B (ae.T bE X).m i3) (h7.I m.1) g0 k5 (h4.B (ae.T bE X).m id) (by
    cases c2:K (a.1.size+2)with
    |none=>rfl
    |some o=>grind)
   have n2:wr.1.size<=X.1.size:=F.4;go_wp2_with (rw[<-c7]);clear c7;refine qN (·=a.1.size+2) (λz=>z==5||z==9||z==10||z==11||z==12) ah ah ?_;intro k6 l9 m5 l8 m0 d5;refine aD ?_;refine aD ?_;refine aD ?_;refine aD ?_;refine aD ?_
   refine a_ λx q=>?_;go_wp2_with (go_at_call 246;refine d.mono ?_;rintro N w4 ⟨k3,rfl,j4,h3,P,g8⟩);have C:ae (·=a.1.size+2) X w4:=ae.ft j4;refine q _ _ ah (λ_=>d5 _ C) ?_;clear q x d;refine aD ?_;refine aD ?_;refine aD ?_
   refine a_ λx q=>?_;go_wp2;refine q _ _ ah (λ_=>d5 _<|C.I _) ?_;clear q x;obtain⟨A,U,r,J,V⟩:=P.U λ_ _ _ _ I=>I
   have j6:ai.Ext (a.1.size+3) c A:=⟨m.1.B r,λe o f=>by
    obtain i|i:=J e o f
    ·exact m.2 e o i
    ·have:=(P.B e i).1;simp at this;omega⟩
   have i9:=(G.T C (λe f=>aI<|(G.B e f).1) j2).ab (λb n=>fM.B r) U (λe o f br=>by
    obtain i|i:=J e o f
    ·exact G.bN e o i br
    ·have D:=(P.B e i).1;have g7:=(G.B e br).2;simp at D
     omega)
   have e0:A B=none:=by
    cases i6:A B with
    |none=>rfl
    |some H=>
     obtain i|i:=J B H i6
     ·rw[h2]at i;cases i
     ·have:=(P.B B i).1;simp at this;omega
   have h5:ey a.1.size A:=e5.O r U J<|g8.I λ_ c=>.inl c;have h8:eI a.1.size A k3:=.I V λe f=>by have:=(P.B e f).1;simp at this;omega
   have Z:=(h0.B C λe f=>aI<|(G.B e f).1).I λn m=>eI.B r m;obtain⟨L,M,rfl⟩:=P.O;have n3:=C.4;refine a_ λx q=>?_;refine uH Mx rfl (.tmp 21) (.tmp 29) rfl i9 rfl ⟨⟨g.a.n,(eD d4 g.a.2).1⟩,g.2⟩ #[.string g.a.n,.slice L (eD d4 g.a.2).1.length M,.bool g.2] ⟨_,rfl,V⟩ rfl (by simp[eP]) rfl rfl aa aa aa (bT:=eI a.1.size A) aex (λn m=>by simp[tT]at m;rcases m with rfl|rfl|rfl<;>exact IL rfl) (λn m=>by simp at m;rcases m with rfl|rfl|rfl<;>first|exact IL rfl|exact h8) Z ?_;intro g6 g5 f9 c4 a0 _ g9;go_wp2;refine q _ _ ah (cS ah) ?_;clear q x;refine a_ λx q=>?_;go_wp2;refine q _ _ ah (cS ah) ?_;clear q x;have f5:∀e,u.ownBlock=some e->B+1<=e:=λe f=>(G.B e f).1;have aK:∀e,e<B+1->¬u.ownBlock=some e:=λe f i5=>aI<|f5 e i5
   have b4:=a0.O (C.O b5 j1)<|aK _ aa;obtain⟨n6,n7,n8,g0,n9,o0⟩:=bq b4;have m7:=aP b4;refine a_ λx q=>?_;go_wp2;refine q _ _ ah (cS ah) ?_;clear q x;refine cR ?_;go_wp2;have E:=(ae.T (·=B) f9).U (p:=⟨B,2,none⟩) (.inr rfl)<|.slice (some ⟨g6,0,none⟩) (k0.length+1) g5;have h1:au a f9:=((b9.B F).V C λe (f:e=a.1.size+2)=>.inl aa).V a0 λe f=>.inl<|aI<|f5 e f;go_roundw
   case rel=>
    refine⟨k+1,_,A,aa,ba,h1.U (p:=⟨B,2,none⟩) (.inl (by show _<=B;omega)) _,E.O (a0.O (C.O (F.O a7 id) aa)<|aK _ aa) aa,fQ (o:=2) b4 _,?_,j6,e0,ai.list.B (h:=K) (k:=A) (λ_ _ I=>I) c3 r,?_,h5,S.B r,g9.B E λe f=>aI<|(c4.B e f).1⟩
    ·rw[a3.out];exact(h3.B a0<|aK _ aa).B E aa
    ·rw[a3.out];refine c4.T E (λe f=>aI<|(c4.B e f).1) λe H f=>?_;rintro rfl;rw[e0]at f;cases f
   case measure=>simp[intOf];omega
  ·have i7:cl.2.take k=cl.2:=fo aa;rw[i7]at t;obtain⟨i,m1,m2,-⟩:=bq b6;obtain⟨g4,a1,a2,l1,l2,l3⟩:=bq a7;have m6:=aP a7;obtain⟨L,M,rfl⟩:=c3.I;obtain⟨d0,d1,rfl,i1⟩:=t.nd;go_wp2;refine fl (v:=.agg #[cl.1.n,.slice L (eD [] cl.1.2).1.length M,.slice d0 (nv (eD [] cl.1.2).2 cl.2).1.length d1]) (by simp[results,results184,go_sem,g4,a1,a2]) rfl ?_;have E:=(((ae.T (·=a.1.size+1) wr).U (p:=⟨a.1.size+1,0,none⟩) (.inr rfl)<|.string cl.1.n).U (p:=⟨a.1.size+1,1,none⟩) (.inr rfl)<|.slice L (eD [] cl.1.2).1.length M).U (p:=⟨a.1.size+1,2,none⟩) (.inr rfl)<|.slice d0 (nv (eD [] cl.1.2).2 cl.2).1.length d1;have j0:=t.T E (λe f=>aI<|(t.B e f).1) λe H f=>by
    obtain D|D:=m.2 e H f
    ·have:=Q.O D;omega
    ·omega
   obtain⟨d3,U,r,J,V⟩:=j0.U λn4 c2 b n=>fM.B c2;exact⟨_,_,rfl,b9.V E λe (f:e=a.1.size+1)=>.inl aa,d3,U,⟨m.1.B r,λe H f=>(J e H f).elim (λD=>(m.2 e H D).imp id λg7=>aa) λD=>.inr<|aI<|(t.B e D).1⟩,⟨L,M,d0,d1,rfl,ai.list.B (h:=K) (k:=d3) (λ_ _ I=>I) c3 r,V,i1⟩,e5.O r U J<|d8.B E λe f=>aI<|(t.B e f).1,S.B r,.I V λe f=>aI<|(t.B e f).1⟩
theorem W4:fW Tryz.prog 310 318 3 64:=.B underlying310 (z:=.agg #[iJ,.slice none 0 0,.slice none 0 0]) ah rfl aA
def fh(w:ag)(K:ai)(N:Nat)(gL:Bool)(d e:Nat)(a:List bW):Prop:=∃b rc,K.list 3 kT (.slice b a rc) a∧eI N K (.slice b a rc)∧
 if gL then w.1[d]?=some (.cells #[.slice b a rc,some e] 322)else ∃c,N<=c∧w.1[d]?=some (.cells #[.slice b a rc,some e,some c] 326)∧aF w bF bh cg c []
theorem aew:((Tryz.prog.info? 318).bind (·.8))=some (.agg #[iJ,.slice none 0 0,.slice none 0 0]):=ah
def wu(gL:Bool)(a:Nat):Value:=.iface (if gL then 320 else 323) a
theorem Z1(a:L[b]?=some p):(L.take<|b+1).map bP=(L.take b).map bP++ [bP p]:=by
 rw[eA,a,iL];rfl
theorem TV(B:c.In a)(d8:c.list 3 dg (.slice l d b) L)(h9:L.length<=1048576)(e8:∀b∈L,vL b)(gL:Bool)(E):
  aH 136 #[.agg #[.slice l d b,gL],some E] a λY q=>∃C,Y=.returned (wu gL C)∧au a q∧a<=C∧∃k,k.In q∧ai.Ext a c k∧k C=none∧fh q k a gL C E (L.map bP)∧ey a k:=by
 obtain⟨rfl,d6⟩:=d8.O B;obtain⟨c3,d5,a7,d4,c9,-⟩:=nc a (.cells #[.slice l L.length b,gL] 245)<|.cells #[.slice none 0 0,some E] 312
 have e5:aM c3 (a.1.size+2) 318 3 kT c _<|(L.take 0).map bP:=.m<|B.B a7 i3;have h8:= @iW Tryz.prog;go_enter func136,ntmps136;go_wp2_with (rw[<-d5]);go_loopw [13] (λj wr=>∃(k:Nat)(v:aq)(K:ai),k<=L.length∧j=.int .i64 k∧au a wr∧wr.1[a.1.size]?=some (.cells #[.slice l L.length b,gL] 245)∧wr.1[a.1.size+1]?=some (.cells #[v,some E] 312)∧ai.Ext (a.1.size+2) c K∧aM wr (a.1.size+2) 318 3 kT K v ((L.take k).map bP)∧ey a.1.size K∧gN wr v (eI a.1.size K)) (λj _=>L.length-(intOf j).toNat)
 case atStart=>exact⟨0,_,c,aa,rfl,a7,d4,c9,ai.Ext.I _ _,e5,.B B<|aa,.O⟩
 case round=>
  obtain⟨k,v,K,b3,rfl,u,a4,H,g,n,a3,a0⟩:=hrel;have i1:=aP H;have h4:K (a.1.size+1)=none:=by
   cases e0:K (a.1.size+1)with
   |none=>rfl
   |some o=>
    obtain h|h:=g.2 _ o e0
    ·have:=B.O h;omega
    omega
  by_cases e4:k<L.length
  ·let⟨y,S⟩:∃y,L[k]?=some y:=⟨_,cy e4⟩;obtain⟨g8,o,cc,rfl,h7,a6,d7⟩:=d6 k y S;have f1:=e8 y<|cA S;have X:ay<|(L.take<|k+1).map _=(L.take k).map _++ [bP y]:=Z1 S;obtain⟨f7,f9,f8,g0,rfl⟩:=a6.B;let⟨g3,g4,g5⟩:=u.ab d7 id;have e3:((L.take k).map bP).length<=1048576:=aJ
   generalize(L.take k).map bP=f3 at n e3 X;obtain⟨f6,R,r,-⟩:=df wr<|.cells #[.string y.1.n,.slice f7 y.1.2.length f9,.slice f8 y.2.length g0] 236
   have a5:f6.1[wr.1.size]?=some _:=aw R<|cz _ _
   have i0:=aP a5;have I:=r.O H id;have h3:=aP I;let⟨b0,b1,g6,g7⟩:=bJ I;obtain⟨p0,p1,p2,-⟩:=bq a5;have x:=n.I r i2 i3;have c2:=Uc (x.V.B (ae.T _ _).m i3) (a6.I g.1) f1;have i4:=r.4;go_wp2_with (rw[<-R]);clear R;apply dG (λj=>j==3||j==4||j==5||j==6||j==7) ah ah;intro g1 h1 h5 g9 h0 h2 Z;refine aD ?_;refine aD ?_;refine aD ?_
   refine a_ λA i=>?_;go_wp2_with (go_at_call 184;refine c2.mono ?_;rintro Y w4 ⟨V,W,rfl,f0,z,e1,s,b6,d3,N,O⟩);have m:=ae.ft f0;apply i _ _ ah (λ_=>Z _ m.below);refine a_ λA i=>?_;go_wp2;apply i _ _ ah (λ_=>Z _ (m.I _).below)
   have e6:=(x.I m i2 i3).ab (λb F=>kT.B s.1) e1 (λe o f a9=>by
    obtain h|h:=s.2 e o f
    ·exact x.bN e o h a9
    ·have c8:=(x.B e a9).2;simp at h
     omega)
   have i5:=m.4;replace N:eI a.1.size z V:=N.O bQ;replace O:eI a.1.size z W:=O.O bQ;have d1:=((a0.B r i2).B m i2).I λF g=>eI.B s.1 g;have e7:∀f4∈(#[cr y.1.n,V,W]:Array aq).1,f4.oneCell'=true:=by
    obtain⟨_,_,_,_,h,_⟩:=b6;simp only[List.cons.injEq,and_true]at h;obtain⟨_,c6,c7⟩:=h;rw[c6,c7];simp[eP]
   refine a_ λA i=>?_;refine uH W4 rfl (.tmp 18) (.tmp 21) rfl e6 rfl (bP y) #[.string y.1.n,V,W] b6 rfl e7 rfl rfl aa aa aa (bT:=eI a.1.size z) aew (λF g=>by simp[tT]at g;rcases g with rfl|rfl|rfl<;>exact IL rfl) (λF g=>by simp at g;rcases g with rfl|rfl|rfl<;>first|exact IL rfl|exact N|exact O) d1 ?_;intro aK c4 f5 P Q _ d0;go_wp2;refine i _ _ ah (cS ah) ?_;refine a_ λA i=>?_;go_wp2;refine i _ _ ah (cS ah) ?_;have b5:∀e,v.ownBlock=some e->a.1.size+2<=e:=λe f=>(x.B e f).1;have b4:∀e,e<a.1.size+2->¬v.ownBlock=some e:=λe f d9=>aI<|b5 e d9
   have J:=Q.O (m.O I id)<|b4 _ aa;obtain⟨i7,i8,i9,j0⟩:=bJ J;have h6:=aP J;refine a_ λA i=>?_;go_wp2;refine i _ _ ah (cS ah) ?_;refine cR ?_;go_wp2;have M:=(ae.T (·=a.1.size+1) f5).U (p:=⟨a.1.size+1,0,none⟩) (.inr rfl)<|.slice (some ⟨aK,0,none⟩) (f3.length+1) c4;have d2:=((u.B r).B m).V Q λe f=>.inl<|aI<|b5 e f;go_roundw
   case rel=>
    refine⟨k+1,_,z,aa,ba,d2.U (p:=⟨_,0,_⟩) af _,M.O (Q.O (m.O (r.O a4 id) id)<|b4 _ aa) aa,fQ (o:=0) J _,(g.B s bQ),?_,(a3.T s d3 bQ),d0.B M λe f=>aI<|(P.B e f).1⟩;rw[X.out];refine P.T M (λe f=>aI<|(P.B e f).1) λe T f=>?_;rintro rfl;obtain h|h:=s.2 _ _ f
    grind
    ·simp at h;omega
   case measure=>simp[intOf];omega
  ·have e2:L.take k=L:=fo aa;rw[e2]at n;obtain⟨g2,a1,-,-⟩:=bJ H;obtain⟨p0,p1,-,-⟩:=bJ a4;obtain⟨t,D,b8,b9,U⟩:=n.U λi6 b3 b F=>kT.B b3;have a2:=a3.O b8 D b9 a0;have a8:eI a.1.size t v:=.I U λe f=>aI<|(n.B e f).1
   obtain⟨ax,c1,rfl⟩:=n.O;have b7:ai.Ext a.1.size c t:=⟨g.1.B b8,λe T f=>(b9 e T f).elim (λG=>(g.2 e T G).imp id λc8=>aa) λG=>.inr<|aI<|(n.B e G).1⟩;have f2:=u.4;have b2:∀q,au wr q->t.In q:=λq br=>D.B br i3;cases gL with
   |true=>
    go_wp2;go_ret;exact⟨wr.1.size,rfl,u.I _,aa,t,b2 _ ae.al,b7,D.I<|cP _,⟨ax,c1,U,a8,by rw[if_pos rfl,di];exact cz _ _⟩,a2⟩
   |false=>
    go_wp2;go_ret;refine⟨wr.1.size+1,rfl,(u.I _).I _,aa,t,b2 _<|ae.al.I _,b7,D.I aa,⟨ax,c1,U,a8,wr.1.size,f2,?_,(aF.I (w:=wr)).B ae.al id⟩,a2⟩;rw[di];exact eK _ _ _
end
