import Derived.Test.YtkdljbnllgpfhaaGreatA1
import Derived.BigQuiet
import Derived.Conc.CompanyDraw
import Derived.Deep.Light
import Derived.Shelf.Bits.Mul64
import Derived.Shelf.Small.Strs
import Derived.Shelf.Strings.Shaped
import Derived.Test.YtkdljbnllgpfhaaGreatProg
import Derived.WalkLawsBesides
import Derived.WalkSpells
set_option maxRecDepth 100000
set_option maxHeartbeats 8000000
open Go renaming World->ag,FuncId->bw,Value->aq,Addr->bC,TypeId->bB,MapEntry->fZ,Program->bj,Code->eN,Obj->bI,Sem->cm,Question->jq,Operand->cL,Next->qf,Oper->bG,Frame->az,undef->aj,Func->Jx,Calls->Al,Act->bK,Exit->kh,Ending->Iq
open Option renaming none->fL
open Pure renaming pure->cD
open Go.Addr renaming add->tF
open Go.Value renaming slice->oD,ownBlock->xg,oneCell'->eP,string->cr
open Go.Instr renaming findKey->uZ,lookup->xC,mapUpdate->rX
open Go.Builtin renaming len_->uP
open Go.Next renaming value->zS,skip->tR
open Go.Frame renaming enter->ej
open Array renaming replicate->ml
open Go.Deferred renaming ofValue->wY
open Go.Region renaming wanted->cV,ready->er,Mode->uU,binds->xk,noSelect->uV
open Go.Sem renaming run->HV
open Go.Op renaming move->iI,call->nE,assign->pB
open Go.Operand renaming tmp->bz,const->qA,func->oG
open Go.Ground renaming data->cY,phase->gQ,chain->vd
open Go.Act renaming eval->lH,put->vF
open Go.World renaming setCell->Dl
open Go.Code renaming region->bH,ret->kL
open Go.Callee renaming value->nD
open Go.Region.linearise renaming go->xG
open Go.Obj renaming cells->Dm
open Go.Trace renaming act?->Rq
open Prod renaming fst->bD,snd->js
open Go.Oper renaming wp->jO,upon->tD,quietAt->J2,quietUpon->Ik
open List renaming range'->Rs,range->iK
open Go.RowKit renaming Below->xh,Hid->ay
open Go.Shelf renaming Ren->mf
open Go.Proofs.Lays renaming n106->aeH,n144->aeI,n264->aeJ
open Go.Lib renaming indexByte->Ru
open Go.Ending renaming returned->Rv
open ByteArray renaming empty->iJ
open Go.WideMaps renaming KeyLaw->Dp
open Go.Result renaming andThen->uX
namespace Go.Proofs
open Tryz
open Go.RowKit
abbrev Ay:=@Nat.mod_lt
abbrev lZ:=@Go.RowKit.Below.heap_alloc
abbrev uT:=@Go.RowKit.Below.heap_setCell
abbrev xi:=@Nat.mul_le_mul_right
abbrev D_:=@Nat.succ_mul
abbrev zJ:=@List.drop_eq_getElem_cons
abbrev xj:=@List.drop_of_length_le
abbrev rF:=@List.any_eq_true
abbrev ly:=@List.getElem_of_mem
abbrev D1:=@Go.ByteArray.toList_eq
abbrev Ie:=@List.isPrefixOf_iff_prefix
abbrev Rw:=@List.prefix_iff_eq_take
abbrev D2:=@List.drop_zero
abbrev ix:=@List.length_take
abbrev fl:=@Go.bodyPost_ret
abbrev Ig:=@Go.RowKit.Below.refl
abbrev Ih:=@Go.Sem.run_bind
abbrev Ii:=@Go.Calls.mono
abbrev vG:=@Go.mem_ready
abbrev Ij:=@Go.getD_set_ne
abbrev D3:=@Go.execOp_put
abbrev zK:=@Go.wanted_put
abbrev Az:=@Go.ready_mono
abbrev Rx:=@Array.setIfInBounds_comm
abbrev Il:=@Go.Region.noSelect_spec
abbrev Im:=@Go.Region.free_spec
abbrev Io:=@Array.getElem?_replicate
abbrev J3:=@Go.wp_region_any
abbrev Ip:=@Go.World.cell?_of_block
abbrev aP:=@Go.lt_of_block
abbrev J4:=@Go.World.ownsRow_nil
abbrev xl:=@Go.World.block_lt_of_cell?
abbrev J5:=@Go.wpList_append_own_at
abbrev iL:=@List.map_append
abbrev D4:=@List.flatten_append
abbrev ei:=@List.mem_map
abbrev Ir:=@Go.RowKit.ownsRow_setCell_below
abbrev fV:=@Go.World.size_alloc
abbrev AA:=@List.nodup_cons
abbrev pA:=@Go.run_underlying
abbrev rG:=@Go.MapKept.run_getObj_map
abbrev uW:=@Go.MapKept.run_setObj_map
abbrev ir:=@List.mem_singleton
abbrev sf:=@List.nodup_append
abbrev Iu:=@Nat.ne_of_lt
abbrev rH:=@List.ext_getElem?
abbrev Iw:=@List.getElem?_set
abbrev Ix:=@List.map_set
abbrev Ry:=@List.mem_or_eq_of_mem_set
abbrev J6:=@List.nodup_nil
abbrev J7:=@Go.WideMaps.keyOf_string_mk
abbrev eA:=@List.take_add_one
abbrev D5:=@Nat.min_eq_left
abbrev fo:=@List.take_of_length_le
abbrev iZ:=@List.foldl_append
abbrev iW:=@Go.RowKit.run_makeMap
variable{o:Type}{a0:Array Bool}{J g1:Array aq}{g2:Array bB}{D:Array fZ}{e1:Array cL}{d8:Array bG}{K b5 f1 f2 f3 f4:Bool}{c e2:ByteArray}{f5 g4:Int}{a6:List Nat}{L:List aq}{H:List bG}{d1:List az}{e4:List _}{p:List o}{C a f f6 h0 j:Nat}{d9:Nat×Nat}{d2:Nat->Bool}{b4:Nat->List aq->ag->Prop}{b7:Nat->Nat}{s:Nat->Prop}{e0 y:Option bC}{d6 g5:Prop}{b d3 l:ag}{u:bw}{a9:bw->Bool}{Q a7 d4 e e5 e6 n v:aq}{R g6:aq->ag->Prop}{b9 k:bB}{z:bj}{f7 g7:eN}{N h1 h2:bI}{e7:cL->aq}{b3:qf}{f9 g:bG}{g8 x:az}{S:Jx}{b8 h:bK}{A g9:bK->ag->Prop}{M:kh->bK->ag->Prop}{W:Ren}{X:aG}{d7:o}{f0:o->Bool}
section
open Go.Conc
open Go.ConcN (upd upd_same upd_ne)
theorem adU:Tryz.prog.underlying 274=some (.chan .both 156):=ah
theorem Np w(d:g.2=.makeChan 274 (.const<|.int .i64 64))(b:e7 (.const<|.int .i64 64)=.int .i64 64):(execOp e7 g).run Tryz.prog w=.ok (.value<|.chan<|some w) {w with heap:=w.1.push fD.B}∧(execOp e7 g).events Tryz.prog w #[]= #[]:=by
 obtain⟨i,c,a,a,a⟩:=H5 FQ;have a:(Instr.makeChan _<|.int _ 64).events _ w _= #[]:=events_makeChan (w:=w) adU c .i64 64 aa aa _;unfold execOp;rw[d];simp only;rw[b];simp[a];rfl
section
variable{X:dn}{e0 s0 e s:Nat->Option bI}{c:az}{cs:List az}
theorem ab9(m:oI X){v:ag}{p l part:aq}{g:List bn}{j b4 h r n:Nat}{b5:Option bC}{u L Y b2 d0 b3 z A B D E F G H I K M N b6 c2 O Q R T U V Z a0 a1 a2 a3 a4 a5 a6 a7 a8 a9 b0 b1:aq}
  (t:dR e0 s0 e s)(b9:e b4=some (.cells #[l] 93 (0,0)))(q:e h=some (.cells #[part] 169 (0,0)))(c1:b4≠h)(c1:e0 b4=none∧s0 b4=none)(c3:e0 h=none∧s0 h=none)(aK:e0 j=some (.cells J r d9))(c8:J[0]?=some (.slice b5 n f6))
  (c6:g.length<=1099511627776)(c7:X.7 0 (g.map bn.I) W v)(c4:iv v p g)(c9:av X.F W p l)
  (c1:∀g r fr,vp e0 s0 part (.slice b5 n f6) n X.5 h 0 g r fr->ar X.P true X.F (λr fr cs=>m_ X X.n 1 (upd b7 0 g) r fr cs) r fr (c::cs)):
  ar X.P true X.F (m_ X (X.n+1) 0 b7) ⟨some (W,v),e,s⟩ ((base 90).at ⟨#[.pointer<|some ⟨j,0,none⟩,u,L,Y,.pointer<|some ⟨b4,0,none⟩,.pointer<|some ⟨h,0,none⟩,b2,.pointer<|some ⟨X.5,0,none⟩,d0,b3,z,A,B,D,E,F,G,H,I,K,M,N,b6,c2,O,Q,R,T,U,V,Z,a0,a1,a2,a3,a4,a5,a6,a7,a8,a9,b0,b1],[]⟩ [.inRegion Ch [],.code BC])<|c::cs:=by
 rw[m.P]at c1⊢;apply ar.B (λw=>cE);apply ar.B (λw=>cM);apply ar.B (λw=>fK);refine th _ (λx=>.chan<|some x) rfl rfl (base_kind _) (λw=>Np w rfl rfl) λg l=>?_;walk_nrm;obtain⟨b6,p⟩:=sS t l;have r:=pn l b9;have c2:=pn l q;refine th (.cells #[.chan none] 274 (0,0)) (λx=>.pointer<|some ⟨x,0,none⟩) rfl rfl (base_kind _) (λw=>aZ) λb8 p=>?_;walk_nrm;obtain⟨b5,l⟩:=sS (t.B (obj:=fD.B) b6) p;have l:=pn (o:=.cells _ _ _) p<|aw (uy r) b9;have l:=pn (o:=fD.B) p CC;apply CW (blk:=b8) (x:=.chan<|some g) (y:=.chan _) (ety:=274) rfl rfl (base_kind _) CC (λw ax l=>by simp[go_sem,ax,l]);walk_nrm;apply ar.B (λw=>cE);apply ar.B (λw=>cM);apply ar.B (λw=>fK);refine ar.I (.func (.func 150) #[] #[.pointer<|some ⟨X.5,0,none⟩,.pointer<|some ⟨b8,0,none⟩,.pointer<|some ⟨b4,0,none⟩]) rfl rfl (base_kind _) (λw=>aZ) (λw=>aZ) ?_;walk_nrm;refine wL λr=>.O ?_
 let l:Nat->Option _:=λy=>if y=b8 then some (.cells #[.chan<|some g] 274 (0,0))else if y=b8 then some (.cells #[.chan none] 274 (0,0))else if y=g then some fD.B else e y
 have b9:(((⟨_,e,s⟩:aG).I _ _).I _<|.cells _ _ _).I _ _=⟨some (W,v),l,s⟩:=rfl;rw[b9]at r⊢;have d0:l _=some _:=if_pos rfl;have d2:l g=some fD.B:=aJ
 have d1:∀y,y≠b8->y≠g->l y=e y:=aJ
 let C:Nat->Bool:=λy=>y==b4
 let S:Nat->Bool:=λy=>y==b8||y==h
 rw[<-m.P]at r
 have b9:=Ob (X:=X) (C:=C) (S:=S) r d2 (λx r=>by
   grind) (λx r=>by
   grind) true
 refine⟨g,(base 90).at (vF ⟨#[.pointer<|some ⟨j,0,none⟩,u,L,Y,.pointer<|some ⟨b4,0,none⟩,.pointer<|some ⟨h,0,none⟩,b2,.pointer<|some ⟨X.5,0,none⟩,.pointer<|some ⟨b8,0,none⟩,b3,z,A,B,D,E,F,G,H,I,K,M,N,.chan<|some g,.func (.func 150) #[] #[.pointer<|some ⟨X.5,0,none⟩,.pointer<|some ⟨b8,0,none⟩,.pointer<|some ⟨b4,0,none⟩],O,Q,R,T,U,V,Z,a0,a1,a2,a3,a4,a5,a6,a7,a8,a9,b0,b1],[]⟩ none aj) [.inRegion F7 [],.code<|(bH 5 F8 false).seq Fa],c::cs,(born Tryz.prog<|BJ X.5 b8 b4).1,_,_,λw _=>?_,b9,λ_=>?_,λr=>absurd r<|Hh _,?_⟩;rw[m.P];have:=stepG_spawn (P:=Tryz.prog) (main:=true) (b:=base 90) (ops:=F7) (i:=1) (rest:= []) (w:=w) (w':=w) (d:=BJ X.5 b8 b4) (f:=.func 150) (c:= #[.pointer<|some ⟨X.5,0,none⟩,.pointer<|some ⟨b8,0,none⟩,.pointer<|some ⟨b4,0,none⟩]) (a:=⟨#[.pointer<|some ⟨j,0,none⟩,u,L,Y,.pointer<|some ⟨b4,0,none⟩,.pointer<|some ⟨h,0,none⟩,b2,.pointer<|some ⟨X.5,0,none⟩,.pointer<|some ⟨b8,0,none⟩,b3,z,A,B,D,E,F,G,H,I,K,M,N,.chan<|some g,.func (.func 150) #[] #[.pointer<|some ⟨X.5,0,none⟩,.pointer<|some ⟨b8,0,none⟩,.pointer<|some ⟨b4,0,none⟩],O,Q,R,T,U,V,Z,a0,a1,a2,a3,a4,a5,a6,a7,a8,a9,b0,b1],[]⟩) (k:= [.code<|(bH 5 F8 false).seq Fa]) (cs:=c::cs) rfl rfl (base_kind _) aZ rfl;rw[this,H' aZ];rfl;refine XM m (b8:=b8) (b4:=b4) (.inr ?_) ?_ c6 c7 c4 c9;grind;grind;rw[m.P];walk_nrm;have r:(fu (λ_=>none,v) l s C S g).s b8=some (.cells #[.chan<|some g] 274 (0,0)):=by simp[fu,S,d0]
 have m:(fu (λ_=>none,v) l s C S g).s h=some (.cells #[part] 169 (0,0)):=by simp[fu,S,d1 h (pn (o:=.cells #[part] 169 (0,0)) p<|aw (uy c2) q) c2,q]
 have h:dR e0 s0 (fu (λ_=>none,v) l s C S g).e (fu (λ_=>none,v) l s C S g).s:=(((t.B (obj:=fD.B) b6).B (obj:=.cells #[.chan none] 274 (0,0)) b5).B (obj:=.cells #[.chan<|some g] 274 (0,0)) b5).I (λy l=>by
   grind) (λy l=>by
   grind)
 apply ar.B (λw=>cE);apply ar.B (λw=>cM);apply ar.B (λw=>fK);refine td (blk:=b8) (x:=.chan<|some _) (ety:=274) rfl rfl (base_kind _) (.inr r) (λw ax=>⟨by simp[go_sem,ax],by simp[go_sem,ax]⟩) ?_;walk_nrm;apply ar.I (.chan<|some g) rfl rfl (base_kind _) (λw=>aZ) (λw=>aZ);walk_nrm;apply ar.B (λw=>cE);apply ar.B (λw=>cM);apply ar.B (λw=>cM);apply ar.B (λw=>fK);refine ar.I (.pointer<|some ⟨j,0,none⟩) rfl rfl (base_kind _) (λw=>aZ) (λw=>aZ) ?_;walk_nrm;refine ar.I (.pointer<|some ⟨j,0,none⟩) rfl rfl (base_kind _) (λw=>aZ) (λw=>aZ) ?_;walk_nrm;refine ar.I (.pointer<|some ⟨j,0,none⟩) rfl rfl (base_kind _) (λw=>aZ) (λw=>aZ) ?_;walk_nrm;refine GP (blk:=j) (off:=0) (x:=.slice _ n _) rfl rfl (base_kind _) (.inl<|h.1 _ _ aK) c8 (λw ax=>⟨by simp[go_sem,ax],by simp[go_sem,ax]⟩) ?_;walk_nrm;refine ar.I (.int .i64 n) rfl rfl (base_kind _) (λw=>aZ) (λw=>aZ) ?_;apply ar.I (.int .i64 (0:Nat)) rfl rfl (base_kind _) (λw=>aZ) (λw=>aZ);exact ar.B (λw=>cE) (ar.B (λw=>vA) (ar.B (λw=>DL) (c1 _ _ _<|.mk _ _ _ _ _ _ _ _ _ _ _ _ _ _ _ _ _ _ _ _ _ _ _ _ _ _ _ _ _ _ _ _ _ _ _ _ _ _ _ _ _ h m c3)))
end
end
section
open Go.Conc
def qU(d0 b a c d e:Bool)(i:Nat):Bool:=(i==0&& !d0)||(i==1&& !b)||(i==2&& !a)||(i==3&& !c)||(i==4&& !d&&d0&&a)||(i==5&& !e&&d0&&b&&a&&c&&d)
noncomputable def E7(d0 b c d e a:Bool):Bool:=(!(er .any eZ #[d0,b,c,d,e,a]).isEmpty||a)&&(er .any eZ #[d0,b,c,d,e,a]).all (qU d0 b c d e a)
theorem Mh:∀d0 a b c d e,E7 d0 a b c d e=true:=bb
theorem mixed:Tryz.prog.follows .mixedOrders=true:=ah
structure Lit(lit:aq->aq->aq->aq->Array aq)(ka:Nat):Prop where
 afi:∀a b c d v,vF ⟨lit a b c d,[]⟩ (some 12) v=⟨lit v b c d,[]⟩
 afj:∀a b c d v,vF ⟨lit a b c d,[]⟩ (some 13) v=⟨lit a v c d,[]⟩
 afk:∀a b c d v,vF ⟨lit a b c d,[]⟩ (some 34) v=⟨lit a b v d,[]⟩
 afl:∀a b c d v,vF ⟨lit a b c d,[]⟩ (some 35) v=⟨lit a b c v,[]⟩
 br:∀a b c d,(lit a b c d)[9]?.getD aj=.chan (some ka)
 yb:∀a b c d,(lit a b c d)[12]?.getD aj=a
 WW:∀a b c d,(lit a b c d)[13]?.getD aj=b
 aeT:∀a b c d,(lit a b c d)[34]?.getD aj=c
 aeU:∀a b c d,(lit a b c d)[35]?.getD aj=d
def lJ(t:aq->aq->aq->aq->Array aq)(l:Nat)(d s0 s:Nat->Option bI)(r:Ren)(v:ag)(n:Nat)(lay:aq)(d0 o j k p q:Bool)(m:bK)(u:aG):Prop:=
 ∃(e:Nat->Option bI)(f g h i:aq)(c a b:Nat),m=⟨t f g h i,[]⟩∧u=⟨some (r,v),e,s⟩∧dR d s0 e s∧e n=some (.cells #[lay] 171 (0,0))∧
  (d0=true->h=.chan (some l))∧(o=true->i=.chan (some c)∧e c=some fD.B∧d c=none∧s0 c=none)∧
  (j=true->f= a∧e a=some (.cells #[if p then .chan (some l)else .chan none] 274 (0,0))∧d a=none∧s0 a=none)∧
  (k=true->g= b∧e b=some (.cells #[if q then .chan (some c)else .chan none] 274 (0,0))∧d b=none∧s0 b=none)∧(j=true->k=true->a≠b)
section
variable{lit:aq->aq->aq->aq->Array aq}{ka:Nat}{e0 s0 s:Nat->Option bI}{g:Ren}{u:ag}{b11:Nat}{lay:aq}{d0 d1 d2 d3 d4 d5:Bool}{a:bK}{r:aG}
variable{F:bw->Bool}{Stop:aG->az->List az->Prop}{rest:List Nat}{k:List Item}{cs:List az}
theorem acJ(L:Lit lit ka)(i:lJ lit ka e0 s0 s g u b11 lay d0 d1 d2 d3 d4 d5 a r)(q:∀b c,lJ lit ka e0 s0 s g u b11 lay true d1 d2 d3 d4 d5 b c->ar Tryz.prog true F Stop c ((base 90).at b<|.inRegion eZ rest::k) cs):
  ar Tryz.prog true F Stop r ((base 90).at a<|.inRegion eZ (0::rest)::k) cs:=by
 obtain⟨h,b,c,d,d,t,e,f,rfl,rfl,o,l,j,j,m,n,p⟩:=i;exact ar.I _ rfl rfl (base_kind _) (λw=>by simp[go_sem,L.5]) (λw=>aZ) (q _ _ ⟨h,b,c,_,d,t,e,f,L.3 ..,rfl,o,l,λ_=>rfl,j,m,n,p⟩)
theorem acK(L:Lit lit ka)(h:lJ lit ka e0 s0 s g u b11 lay d0 false d2 d3 d4 d5 a r)(t:d5=false)(w:∀b c,lJ lit ka e0 s0 s g u b11 lay d0 true d2 d3 d4 d5 b c->ar Tryz.prog true F Stop c ((base 90).at b<|.inRegion eZ rest::k) cs):
  ar Tryz.prog true F Stop r ((base 90).at a<|.inRegion eZ (1::rest)::k) cs:=by
 obtain⟨e,i,j,l,b,b,m,n,rfl,rfl,d,q,p,b,b,c,v⟩:=h;refine th _ (λx=>.chan<|some x) rfl rfl (base_kind _) (λf=>Np f rfl rfl) λx f=>?_;obtain⟨ex,z⟩:=sS d f;have ne:∀y o,e y=some o->(((⟨some (g,u),e,s⟩:aG).I x fD.B).e y)=some o:=λy o e=>aw (uy<|pn f e) e;subst t;exact w _ _ ⟨_,i,j,l,_,x,m,n,L.4 ..,rfl,d.B ex,ne _ _ q,p,λ_=>⟨rfl,af,ex,z⟩,λh=>⟨(b h).1,ne _ _ (b h).2.1,(b h).2.2⟩,λh=>⟨(c h).1,ne _ _ (c h).2.1,(c h).2.2⟩,v⟩
theorem acL(L:Lit lit ka)(h:lJ lit ka e0 s0 s g u b11 lay d0 d1 false d3 d4 d5 a r)(w:d4=false)(z:∀e l,lJ lit ka e0 s0 s g u b11 lay d0 d1 true d3 d4 d5 e l->ar Tryz.prog true F Stop l ((base 90).at e<|.inRegion eZ rest::k) cs):
  ar Tryz.prog true F Stop r ((base 90).at a<|.inRegion eZ (2::rest)::k) cs:=by
 obtain⟨f,C,m,n,p,A,D,q,rfl,rfl,i,v,t,c,E,b,G⟩:=h;refine th (.cells #[.chan none] 274 (0,0)) (λx=>.pointer<|some ⟨x,0,none⟩) rfl rfl (base_kind _) (λH=>aZ) λx d=>?_;obtain⟨ex,B⟩:=sS i d;have ne:∀y o,f y=some o->(((⟨some (g,u),f,s⟩:aG).I x<|.cells #[.chan none] 274 (0,0)).e y)=some o:=λy o j=>aw (uy<|pn d j) j;subst w;exact z _ _ ⟨_,_,m,n,p,A,x,q,L.1 ..,rfl,i.B ex,ne _ _ v,t,λh=>⟨(c h).1,ne _ _ (c h).2.1,(c h).2.2⟩,λ_=>⟨rfl,af,ex,B⟩,λh=>⟨(b h).1,ne _ _ (b h).2.1,(b h).2.2⟩,λ_ h=>(pn d (b h).2.1).symm⟩
theorem acM(L:Lit lit ka)(h:lJ lit ka e0 s0 s g u b11 lay d0 d1 d2 false d4 d5 a r)(w:d5=false)(z:∀e l,lJ lit ka e0 s0 s g u b11 lay d0 d1 d2 true d4 d5 e l->ar Tryz.prog true F Stop l ((base 90).at e<|.inRegion eZ rest::k) cs):
  ar Tryz.prog true F Stop r ((base 90).at a<|.inRegion eZ (3::rest)::k) cs:=by
 obtain⟨f,m,C,n,p,A,q,D,rfl,rfl,i,v,t,c,b,E,G⟩:=h;refine th (.cells #[.chan none] 274 (0,0)) (λx=>.pointer<|some ⟨x,0,none⟩) rfl rfl (base_kind _) (λH=>aZ) λx d=>?_;obtain⟨ex,B⟩:=sS i d;have ne:∀y o,f y=some o->(((⟨some (g,u),f,s⟩:aG).I x<|.cells #[.chan none] 274 (0,0)).e y)=some o:=λy o j=>aw (uy<|pn d j) j;subst w;exact z _ _ ⟨_,m,_,n,p,A,q,x,L.2 ..,rfl,i.B ex,ne _ _ v,t,λh=>⟨(c h).1,ne _ _ (c h).2.1,(c h).2.2⟩,λh=>⟨(b h).1,ne _ _ (b h).2.1,(b h).2.2⟩,λ_=>⟨rfl,af,ex,B⟩,λh _=>pn d (b h).2.1⟩
theorem acN(L:Lit lit ka)(h:lJ lit ka e0 s0 s g u b11 lay true d1 true d3 false d5 a r)(t:∀b c,lJ lit ka e0 s0 s g u b11 lay true d1 true d3 true d5 b c->ar Tryz.prog true F Stop c ((base 90).at b<|.inRegion eZ rest::k) cs):
  ar Tryz.prog true F Stop r ((base 90).at a<|.inRegion eZ (4::rest)::k) cs:=by
 obtain⟨e,b,l,b,m,v,b,n,rfl,rfl,q,p,f,c,o,d,j⟩:=h;obtain⟨rfl,i,ex,w⟩:=o rfl;have o:=f rfl;subst o;apply CW (blk:=b) (x:=.chan<|some ka) (y:=.chan _) (ety:=274) rfl rfl (base_kind _) i (λo ax o=>by simp[go_sem,L.6,L.8,ax,o]);have ne:∀y o,y≠b->e y=some o->(((⟨some (g,u),e,s⟩:aG).I _<|.cells #[.chan<|some ka] 274 (0,0)).e y)=some o:=λy o e o=>aw (uy e) o;have e:b11≠b:=aJ
 refine t _ _ ⟨_,_,l,_,m,v,b,n,rfl,rfl,q.B ex,ne _ _ e p,f,λh=>⟨(c h).1,ne _ _ (λb=>?_) (c h).2.1,(c h).2.2⟩,λ_=>⟨rfl,af,ex,w⟩,λh=>⟨(d h).1,ne _ _ (λb=>j rfl h aa) (d h).2.1,(d h).2.2⟩,j⟩;have:=(c h).2.1;rw[b,i]at this;simp[cx.B]at this
theorem acO(L:Lit lit ka)(d:lJ lit ka e0 s0 s g u b11 lay true true true true true false a r)(v:∀b c,lJ lit ka e0 s0 s g u b11 lay true true true true true true b c->ar Tryz.prog true F Stop c ((base 90).at b<|.inRegion eZ rest::k) cs):
  ar Tryz.prog true F Stop r ((base 90).at a<|.inRegion eZ (5::rest)::k) cs:=by
 obtain⟨e,b,b,i,b,c,j,b,rfl,rfl,t,p,n,f,m,l,h⟩:=d;obtain⟨rfl,d,yb,w⟩:=f rfl;obtain⟨rfl,f,ex,A⟩:=l rfl;obtain⟨rfl,q,l,z⟩:=m rfl;apply CW (blk:=b) (x:=.chan<|some c) (y:=.chan _) (ety:=274) rfl rfl (base_kind _) f (λm ax m=>by simp[go_sem,L.7,L.9,ax,m]);have ne:∀y o,y≠b->e y=some o->(((⟨some (g,u),e,s⟩:aG).I _<|.cells #[.chan<|some c] 274 (0,0)).e y)=some o:=λy o e m=>aw (uy e) m;have m:b11≠b:=aJ
 have o:c≠b:=λe=>by rw[e,f]at d;simp[cx.B]at d
 exact v _ _ ⟨_,_,_,i,_,c,j,b,rfl,rfl,t.B ex,ne _ _ m p,n,λ_=>⟨rfl,ne _ _ o d,yb,w⟩,λ_=>⟨rfl,ne _ _ (h rfl rfl) q,l,z⟩,λ_=>⟨rfl,af,ex,A⟩,h⟩
theorem ZK{i:Nat}(a:i∈er .any eZ #[K,b5,f1,f2,f3,f4]):qU K b5 f1 f2 f3 f4 i=true:=by
 have h:=Mh K b5 f1 f2 f3 f4;unfold E7 at h;grind
theorem W9(a:er .any eZ #[b5,f1,f2,f3,f4,K]= []):K=true:=by
 have h:=Mh b5 f1 f2 f3 f4 K;unfold E7 at h;grind
def cnt(d0 d1 d2 d3 d4 d5:Bool):Nat:=(if d0 then 0 else 1)+(if d1 then 0 else 1)+(if d2 then 0 else 1)+(if d3 then 0 else 1)+(if d4 then 0 else 1)+(if d5 then 0 else 1)
theorem SX(L:Lit lit ka)(i:∀b c,lJ lit ka e0 s0 s g u b11 lay true true true true true true b c->ar Tryz.prog true F Stop c ((base 90).at b<|.inRegion eZ []::k) cs):
  ∀(d t:Nat)(d0 d1 d2 d3 d4 d5:Bool)(a:bK)(r:aG),cnt d0 d1 d2 d3 d4 d5=d->(d5=true->d0=true∧d1=true∧d2=true∧d3=true∧d4=true)->(d4=true->d0=true∧d2=true)->lJ lit ka e0 s0 s g u b11 lay d0 d1 d2 d3 d4 d5 a r->
   ar Tryz.prog true F Stop r ((base 90).at a<|.inRegion eZ (xG .any eZ d t #[d0,d1,d2,d3,d4,d5] [])::k) cs:=by
 intro d;induction d with
 |zero=>
  intro t d0 d1 d2 d3 d4 d5 a r e f m h;have:d5=true:=by cases d5<;>simp[cnt]at e⊢
  subst this;obtain⟨rfl,rfl,rfl,rfl,rfl⟩:=f rfl;simpa[xG]using i a r h
 |succ d j=>
  intro t d0 d1 d2 d3 d4 d5 a r e f m h;simp only[xG]
  change ar Tryz.prog true F Stop r ((base 90).at a<|.inRegion eZ (match(er .any eZ #[d0,d1,d2,d3,d4,d5])[t % (er .any eZ #[d0,d1,d2,d3,d4,d5]).length]? with
   |some i=>xG .any eZ d (t/ (er .any eZ #[d0,d1,d2,d3,d4,d5]).length) ((#[d0,d1,d2,d3,d4,d5]:Array Bool).setIfInBounds i true) [i]
   |none=> [].reverse)::k) cs
  cases d:(er .any eZ #[d0,d1,d2,d3,d4,d5])[t % (er .any eZ #[d0,d1,d2,d3,d4,d5]).length]? with
  |none=>
   have n:er .any eZ #[d0,d1,d2,d3,d4,d5]= []:=by
    cases o:er .any eZ #[d0,d1,d2,d3,d4,d5]with
    |nil=>rfl
    |cons x l=>
     rw[o]at d;have o:t % (x::l).length<(x::l).length:=Ay _ af;grind
   have:=W9 n;subst this;obtain⟨rfl,rfl,rfl,rfl,rfl⟩:=f rfl;simp[cnt]at e
  |some i=>
   have f:=ZK<|cA d;simp;rw[linearise_go_acc,List.reverse_singleton,List.singleton_append];have d:i=0∨i=1∨i=2∨i=3∨i=4∨i=5:=by
    simp[qU]at f;obtain ((((h|h)|h)|h)|h)|h:=f;exact .inl h.1;exact .inr<|.inl h.1;exact .inr<|.inr<|.inl h.1;exact .inr<|.inr<|.inr<|.inl h.1;exact .inr<|.inr<|.inr<|.inr<|.inl h.1.1.1;exact .inr<|.inr<|.inr<|.inr<|.inr h.1.1.1.1.1.1
   obtain rfl|rfl|rfl|rfl|rfl|rfl:=d;have:d0=false:=by simpa[qU]using f
   subst this;exact acJ L h λb c d=>j _ true d1 d2 d3 d4 d5 b c (by simp[cnt]at e⊢;omega) (λi=>by grind) (λi=>by grind) d;have:d1=false:=by simpa[qU]using f
   subst this;have l:d5=false:=by cases d5 with|false=>rfl|true=>grind
   exact acK L h l λb c d=>j _ d0 true d2 d3 d4 d5 b c (by simp[cnt]at e⊢;omega) (λi=>by grind) m d;have:d2=false:=by simpa[qU]using f
   subst this;have n:d4=false:=by cases d4 with|false=>rfl|true=>grind
   exact acL L h n λb c d=>j _ d0 d1 true d3 d4 d5 b c (by simp[cnt]at e⊢;omega) (λi=>by grind) (λi=>by grind) d;have:d3=false:=by simpa[qU]using f
   subst this;have l:d5=false:=by cases d5 with|false=>rfl|true=>grind
   exact acM L h l λb c d=>j _ d0 d1 d2 true d4 d5 b c (by simp[cnt]at e⊢;omega) (λi=>by grind) m d;have:(d4=false∧d0=true)∧d2=true:=by simpa[qU]using f
   obtain⟨⟨rfl,rfl⟩,rfl⟩:=this;have l:d5=false:=by cases d5 with|false=>rfl|true=>grind
   exact acN L h λb c d=>j _ true d1 true d3 true d5 b c (by simp[cnt]at e⊢;omega) (λi=>by grind) (λ_=>⟨rfl,rfl⟩) d;have:((((d5=false∧d0=true)∧d1=true)∧d2=true)∧d3=true)∧d4=true:=by simpa[qU]using f
   obtain⟨⟨⟨⟨⟨rfl,rfl⟩,rfl⟩,rfl⟩,rfl⟩,rfl⟩:=this;exact acO L h λb c d=>j _ true true true true true true b c (by simp[cnt]at e⊢;omega) (λ_=>⟨rfl,rfl,rfl,rfl,rfl⟩) (λ_=>⟨rfl,rfl⟩) d
theorem abT(L:Lit lit ka){a:Nat->Option bI}(f:dR e0 s0 a s)(d:a b11=some (.cells #[lay] 171 (0,0)))
  (i:∀b c,lJ lit ka e0 s0 s g u b11 lay true true true true true true b c->ar Tryz.prog true F Stop c ((base 90).at b<|.inRegion eZ []::k) cs):
  ar Tryz.prog true F Stop ⟨some (g,u),a,s⟩ ((base 90).at ⟨lit e n v Q,[]⟩<|.code (.region 9 eZ true)::k) cs:=by
 refine .U λw b=>⟨_,cs,_,#[],_,stepG_region_draw,b.I af<|cP _,⟨rfl,rfl,rfl,af,af,λ_ h=>.inl h,af⟩,af,?_⟩;exact SX L i 6 _ _ _ _ _ _ _ _ _ rfl af af ⟨a,e,n,v,Q,0,0,0,rfl,rfl,f,d,af,af,af,af,af⟩
end
end
section
open Go.Conc
open Go.ConcN (upd upd_same upd_ne)
theorem Xb(P:bj)(w:ag)(b:Array Event)(a:bC)(m:Mode)(t:bB)(x):(store a (.iface t x) m).events P w b=storedEv P w b a (.iface t x) m:=events_store P w b a _ m rfl
section
variable{X:dn}{e0 s0:Nat->Option bI}{c:az}{cs:List az}{part:aq}{lad:Option bC}{cp b5:Nat}
theorem Zh(e:oI X)(d:∀b,X.AM b=xz X.F (dR e0 s0) X.5 c cs b){r:aG}(g:b7 X.n=a)(h:vp e0 s0 part (.slice lad X.n cp) X.n X.5 b5 X.n a r x):
  ar X.P true X.F (λr x cs=>m_ X 0 (X.n+1) b7 r x cs) r x<|c::cs:=by
 have b:(λr x cs=>m_ X 0 (X.n+1) b7 r x cs)=xz X.F (dR e0 s0) X.5 c cs a []:=by
  funext r x cs';show X.AM (b7 X.n) [] r x cs'=_;rw[g,d]
 rw[b,e.P];cases h with
 |mk g u e s b b b b b b b b b b b b b b b b b b b b b b b b b b b b b b b b b b b b b b d d=>
 apply ar.B (λw=>cM);apply ar.B (λw=>fK);apply ar.I (.bool false) rfl rfl (base_kind _) (λw=>aZ) (λw=>aZ);apply ar.B (λw=>cE);apply ar.B (λw=>cM);apply ar.B (λw=>zE (t:=false) rfl);apply ar.B (λw=>H0 (k':= [.code _]) rfl);apply ar.B (λw=>cM);apply ar.B (λw=>fK);apply ar.I (.chan<|some a) rfl rfl (base_kind _) (λw=>aZ) (λw=>aZ);walk_nrm;exact rh (f:=155) (vals:= #[.chan<|some _]) rfl rfl (base_kind _) rfl func155 rfl rfl (by simp[lH]) (OO.Y λr x cs h=>.mk e s _ _ _ _ _ _ _ _ _ _ _ _ _ _ _ _ _ _ _ _ _ _ _ _ _ _ _ _ _ _ _ _ _ _ _ _ _ _ _ _ _ b h)
theorem Zl(v:oI X)(b9:∀i a b,X.A i a b=AU X.F X.7 X.5 i a b){ka j q:Nat}{r:aG}{fr:az}{aS o g ty:Nat}(h:j<X.n)(c2:b7 j=ka)(m:lad=some ⟨aS,o,none⟩)
  (p:e0 aS=some (.cells J g d9))(z:J[o+j]?=some (.iface ty e))(c3:∀h s,tQ X.F X.7 (j+1) (.iface ty e) part h s)
  (b4:∀g r fr,vp e0 s0 part (.slice lad X.n cp) X.n X.5 b5 (j+1) g r fr->ar X.P true X.F (λr fr cs=>m_ X q (j+2) (upd b7 (j+1) g) r fr cs) r fr (c::cs))(l:X.n+1<2147483648)
  (A:vp e0 s0 part (.slice lad X.n cp) X.n X.5 b5 j ka r fr):
  ar X.P true X.F (λr fr cs=>m_ X (q+1) (j+1) b7 r fr cs) r fr<|c::cs:=by
 rw[v.P]at b4⊢;cases A with
 |mk n u h s H I T a3 a7 b1 b2 K h h h L M N O Q R U V W Y Z a0 a1 a2 h h h h h B a4 a5 a6 a8 a9 b0 h b3 b8=>
 have l:(j:Int)<X.n:=aa;apply ar.B (λw=>cM);apply ar.B (λw=>fK);apply ar.I (.bool true) rfl rfl (base_kind _) (λw=>by simp[go_sem,l]) (λw=>aZ);walk_nrm;apply ar.B (λw=>cE);apply ar.B (λw=>cM);apply ar.B (λw=>zE (t:=true) rfl);simp only[if_true];apply ar.B (λw=>qo);apply ar.B (λw=>cM);apply ar.B (λw=>vA);apply ar.B (λw=>cM);apply ar.B (λw=>fK);refine ar.I (.pointer<|some ⟨aS,o+j,none⟩) rfl rfl (base_kind _) (λw=>by simp[go_sem,m,l]) (λw=>by simp[go_sem,m,l]) ?_;walk_nrm;refine GP (blk:=aS) (off:=o+j) (x:=.iface _ e) rfl rfl (base_kind _) (.inl<|h.1 _ _ p) z (λw ax=>⟨by simp[go_sem,ax],by simp[go_sem,ax]⟩) ?_;refine th (.cells #[.nilIface] 171 (0,0)) (λe=>.pointer<|some ⟨e,0,none⟩) rfl rfl (base_kind _) (λw=>aZ) λb11 l=>?_;obtain⟨m,p⟩:=sS h l;apply CW (blk:=b11) (x:=.iface ty e) (y:=.nilIface) (ety:=171) rfl rfl (base_kind _) CC (λw ax l=>by simp[go_sem,ax,l,Xb]);apply ar.B (λw=>cE);apply ar.B (λw=>cM);refine abT (lit:=λl p z r=> #[H,I,T,a3,a7,.pointer<|some ⟨b5,0,none⟩,b1,.pointer<|some ⟨X.5,0,none⟩,b2,.chan<|some ka,K,.pointer<|some ⟨b11,0,none⟩,l,p,L,M,N,O,Q,R,U,V,W,Y,Z,a0,a1,a2,.slice lad X.n cp,.int .i64 X.n,.int .i64 j,.bool true,.pointer<|some ⟨aS,o+j,none⟩,.iface ty e,z,r,B,a4,a5,a6,a8,a9,b0]) (ka:=ka) (b11:=b11) (lay:=.iface ty e) ⟨λ_ _ _ _ _=>rfl,λ_ _ _ _ _=>rfl,λ_ _ _ _ _=>rfl,λ_ _ _ _ _=>rfl,λ_ _ _ _=>rfl,λ_ _ _ _=>rfl,λ_ _ _ _=>rfl,λ_ _ _ _=>rfl,λ_ _ _ _=>rfl⟩ ((h.B (obj:=.cells #[.nilIface] 171 (0,0)) m).B (obj:=.cells #[.iface ty e] 171 (0,0)) m) (if_pos rfl) λh h B=>?_;obtain⟨m,l,p,z,r,g,l,h,rfl,rfl,c1,F,_,p,r,b6,D⟩:=B;obtain⟨rfl,E,B,B⟩:=p rfl;obtain⟨rfl,G,yb,p⟩:=r rfl;obtain⟨rfl,D,WW,p⟩:=b6 rfl;apply ar.B (λw=>cE);apply ar.B (λw=>cM);apply ar.B (λw=>fK);refine ar.I (.func (.func 153) #[] #[.pointer<|some ⟨X.5,0,none⟩,.pointer<|some ⟨b11,0,none⟩,.pointer<|some ⟨b5,0,none⟩,.pointer<|some ⟨l,0,none⟩,.pointer<|some ⟨h,0,none⟩]) rfl rfl (base_kind _) (λw=>aZ) (λw=>aZ) ?_;walk_nrm;refine wL λr=>.O ?_;have p:b11≠h:=aJ
 have p:b11≠g:=λp=>by rw[p,E]at F;simp[cx.B]at F
 have B:l≠g:=λp=>by rw[p,E]at G;simp[cx.B]at G
 have B:h≠g:=λp=>by rw[p,E]at D;simp[cx.B]at D
 obtain⟨c4,b6⟩:=r;have r:∀y B,m y=some B->b5≠y:=λy B r p=>by
  have:=b6.5 y B r;grind
 have p:m b5=none:=by
  cases A:m b5 with
  |none=>rfl
  |some B=>grind
 let C:Nat->Bool:=λy=>y==b11||y==l
 let S:Nat->Bool:=λy=>y==h||y==b5
 have B:=Ob (X:=X) (C:=C) (S:=S) ⟨c4,aw v.P b6⟩ E (λy r=>by
   grind) (λy r=>by
   grind) false
 refine⟨g,(base 90).at (vF ⟨#[H,I,T,a3,a7,.pointer<|some ⟨b5,0,none⟩,b1,.pointer<|some ⟨X.5,0,none⟩,b2,.chan<|some ka,K,.pointer<|some ⟨b11,0,none⟩,.pointer<|some ⟨l,0,none⟩,.pointer<|some ⟨h,0,none⟩,L,M,N,O,Q,R,U,V,W,Y,Z,a0,a1,a2,.slice lad X.n cp,.int .i64 X.n,.int .i64 j,.bool true,.pointer<|some ⟨aS,o+j,none⟩,.iface ty e,z,.chan<|some g,.func (.func 153) #[] #[.pointer<|some ⟨X.5,0,none⟩,.pointer<|some ⟨b11,0,none⟩,.pointer<|some ⟨b5,0,none⟩,.pointer<|some ⟨l,0,none⟩,.pointer<|some ⟨h,0,none⟩],a4,a5,a6,a8,a9,b0],[]⟩ none aj) [.inRegion F4 [],.code<|.region 11 F5 false,.inBlock 1,.code<|.region 12 F6 false,.inLoop yD,.inBlock 0,.code Bj],c::cs,(born Tryz.prog<|C_ X.5 b11 b5 l h).1,_,_,λw _=>?_,B,λA=>absurd A<|Nat.succ_ne_zero _,λ_=>?_,?_⟩;rw[v.P];have:=stepG_spawn (P:=Tryz.prog) (main:=true) (b:=base 90) (ops:=F4) (i:=1) (rest:= []) (w:=w) (w':=w) (d:=C_ X.5 b11 b5 l h) (f:=.func 153) (c:= #[.pointer<|some ⟨X.5,0,none⟩,.pointer<|some ⟨b11,0,none⟩,.pointer<|some ⟨b5,0,none⟩,.pointer<|some ⟨l,0,none⟩,.pointer<|some ⟨h,0,none⟩]) (a:=⟨#[H,I,T,a3,a7,.pointer<|some ⟨b5,0,none⟩,b1,.pointer<|some ⟨X.5,0,none⟩,b2,.chan<|some ka,K,.pointer<|some ⟨b11,0,none⟩,.pointer<|some ⟨l,0,none⟩,.pointer<|some ⟨h,0,none⟩,L,M,N,O,Q,R,U,V,W,Y,Z,a0,a1,a2,.slice lad X.n cp,.int .i64 X.n,.int .i64 j,.bool true,.pointer<|some ⟨aS,o+j,none⟩,.iface ty e,z,.chan<|some g,.func (.func 153) #[] #[.pointer<|some ⟨X.5,0,none⟩,.pointer<|some ⟨b11,0,none⟩,.pointer<|some ⟨b5,0,none⟩,.pointer<|some ⟨l,0,none⟩,.pointer<|some ⟨h,0,none⟩],a4,a5,a6,a8,a9,b0],[]⟩) (k:= [.code<|.region 11 F5 false,.inBlock 1,.code<|.region 12 F6 false,.inLoop yD,.inBlock 0,.code Bj]) (cs:=c::cs) rfl rfl (base_kind _) aZ rfl;rw[this,H' aZ];rfl;rw[b9,Nat.add_sub_cancel,c2];have o:(iC (if false=true then n else λ_=>none,u) m s C S).e b11=some (.cells #[.iface ty e] 171 (0,0)):=by simp[iC,C,F]
 have z:(iC (if false=true then n else λ_=>none,u) m s C S).e l=some (.cells #[.chan<|some ka] 274 (0,0)):=by simp[iC,C,G]
 have A:(iC (if false=true then n else λ_=>none,u) m s C S).s b5=some (.cells #[part] 169 (0,0)):=by simp[iC,S,p,b3]
 have l:(iC (if false=true then n else λ_=>none,u) m s C S).s h=some (.cells #[.chan<|some g] 274 (0,0)):=by simp[iC,S,D]
 exact acS v o (.inr A) (.inl z) (.inr l)<|c3 _ _;rw[v.P];walk_nrm;have l:(fu (n,u) m s C S g).s h=some (.cells #[.chan<|some g] 274 (0,0)):=by simp[fu,S,D]
 have o:(fu (n,u) m s C S g).s b5=some (.cells #[part] 169 (0,0)):=by simp[fu,S,p,b3]
 have p:dR e0 s0 (fu (n,u) m s C S g).e (fu (n,u) m s C S g).s:=c1.I (λy r=>by
   grind) (λy r=>by
   grind)
 refine ar.B (λw=>cE) ?_;refine ar.B (λw=>fK) ?_;refine td (blk:=h) (x:=.chan<|some g) (ety:=274) rfl rfl (base_kind _) (.inr l) (λw ax=>⟨by simp[go_sem,ax],by simp[go_sem,ax]⟩) ?_;walk_nrm;refine ar.I (.chan<|some g) rfl rfl (base_kind _) (λw=>aZ) (λw=>aZ) ?_;walk_nrm;refine ar.B (λw=>cE) ?_;refine ar.B (λw=>DK) ?_;refine ar.B (λw=>fK) ?_;refine ar.I (.int .i64 ((j+1:Nat):Int)) rfl rfl (base_kind _) (λw=>?_) (λw=>aZ) ?_;simp[go_sem];rw[H3];omega;walk_nrm;refine ar.I (.int .i64 ((j+1:Nat):Int)) rfl rfl (base_kind _) (λw=>aZ) (λw=>aZ) ?_;walk_nrm;exact ar.B (λw=>cE) (ar.B (λw=>Ap) (b4 g _ _<|.mk _ _ _ _ _ _ _ _ _ _ _ _ _ _ _ _ _ _ _ _ _ _ _ _ _ _ _ _ _ _ _ _ _ _ _ _ _ _ _ _ _ p o b8))
end
noncomputable def rf(F:bw->Bool)(Pre:Nat->List aq->Ren->ag->Prop)(b s0:Nat->Option bI)(c:az)(cs:List az)(n g:Nat):dn:=
 {P:=Tryz.prog,F,n,ty:=272,wg:=g,z:=sH,Pre,kj:=vo,A:=λi a d=>AU F Pre g i a d,AM:=λa=>xz F (dR b s0) g c cs a,Fin:=AR F Pre (dR b s0) n c cs}
structure Layers(F:bw->Bool)(Pre:Nat->List aq->Ren->ag->Prop)(e0:Nat->Option bI)(part:aq)(lad:Option bC)(n:Nat):Prop where
 held:Held Tryz.prog F
 grow:∀i xs f f' v v',Pre i xs f v->f.O f'->Grown v v'->(∃w,Fit Tryz.prog F f' v' w)->Pre i xs f' v'
 dom:∀i xs f v,Pre i xs f v->mV f v
 small:n+1<2147483647
 lay:∀j,j<n->∃(aS lo tl ty:Nat)(x:aq)(lc:Array aq)(fzl:Nat×Nat),lad=some ⟨aS,lo,none⟩∧e0 aS=some (.cells lc tl fzl)∧lc[lo+j]?=some (.iface ty x)∧∀e s,tQ F Pre (j+1) (.iface ty x) part e s
section
variable{F:bw->Bool}{Pre:Nat->List aq->Ren->ag->Prop}{e0 s0 e:Nat->Option bI}{c:az}{cs:List az}{part base' bs:aq}{lad:Option bC}{cp n:Nat}{f:Ren}{v:ag}{xs:List bn}{bp tp:Nat}{pc:Array aq}{fz:Nat×Nat}
theorem wj(a:Layers F Pre e0 part lad n)(g):oI<|rf F Pre e0 s0 c cs n g:=⟨rfl,rfl,rfl,a.1,rfl,a.2,a.3⟩
theorem aaS(b:Layers F Pre e0 part lad n)(g:Nat):(rf F Pre e0 s0 c cs n g).Ok where
 abR:=λi a d _ _=>acR (wj b g) (λ_ _ _=>rfl) i a d
 abQ:=λa=>ZA (wj b g) (λ_=>rfl) rfl a
 small:=b.4
theorem Zk(a:Layers F Pre e0 part lad n){g d:Nat}:∀(q j b) (k:Nat->Nat)(r:aG)(fr:az),j+q=n->k j=b->vp e0 s0 part (.slice lad n cp) n g d j b r fr->
  ar Tryz.prog true F (λr fr d=>m_ (rf F Pre e0 s0 c cs n g) q (j+1) k r fr d) r fr (c::cs):=by
 intro q;induction q with
 |zero=>
  intro j b k r fr e d h;obtain rfl:j=n:=aa;exact Zh (X:=rf F _ _ _ c _ j g) (wj a g) (λ_=>rfl) d h
 |succ q l=>
  intro j b k r fr e d h;obtain⟨aS,b,b,ty,x,b,b,b,e,f,i⟩:=a.5 j aa;exact Zl (X:=rf F _ _ _ c _ n g) (wj a g) (λ_ _ _=>rfl) (q:=q) (show j<n by omega) d b e f i (λb r fr h=>l _ _ _ r _ aa (upd_same _ _ _) h) (by have:=a.4;show n+1<_;omega) h
inductive IY(e0 s0:Nat->Option bI)(f:Ren)(v:ag)(bp:Nat)(base' part:aq)(c:az)(cs:List az):aG->az->List az->Prop
 |mk (e:Nat->Option bI) (b4 b5:Nat) (x3 x6 x7 x8 x9 x10 x11 x12 x13 x14 x15 x16 x17 x18 x19 x20 x21 x22 x23 x24 x25 x26 x27 x28 x29 x30 x31 x32 x33 x34 x35 x36 x37 x38 x39 x40 x41 x42:aq) (hK:dR e0 s0 e s0) (h4:e b4=some (.cells #[base'] 93 (0,0))) (h5:e b5=some (.cells #[part] 169 (0,0))) (h45:b4≠b5) (h40:e0 b4=none∧s0 b4=none) (h50:e0 b5=none∧s0 b5=none):
  IY e0 s0 f v bp base' part c cs ⟨some (f,v),e,s0⟩ ((base 90).at ⟨#[.pointer (some ⟨bp,0,none⟩),base',part,x3,.pointer (some ⟨b4,0,none⟩),.pointer (some ⟨b5,0,none⟩),x6,x7,x8,x9,x10,x11,x12,x13,x14,x15,x16,x17,x18,x19,x20,x21,x22,x23,x24,x25,x26,x27,x28,x29,x30,x31,x32,x33,x34,x35,x36,x37,x38,x39,x40,x41,x42],[]⟩ [.inRegion Cg [0],.code ((bH 2 Ch false).seq BC)]) (c::cs)
variable{g3:Fn}
theorem ab8{m a:Nat}(e:part=.func g3 J g1)(b:base'=.slice y m a):
  ar Tryz.prog true F (IY e0 s0 f v bp base' part c cs) ⟨some (f,v),e0,s0⟩ (ej Tryz.prog 90 #[bp,base',part] .normal)<|c::cs:=by
 have a:ej Tryz.prog 90 #[bp,base',part] .normal=(base 90).at ⟨#[bp,base',part,aj,aj,aj,aj,aj,aj,aj,aj,aj,aj,aj,aj,aj,aj,aj,aj,aj,aj,aj,aj,aj,aj,aj,aj,aj,aj,aj,aj,aj,aj,aj,aj,aj,aj,aj,aj,aj,aj,aj,aj],[]⟩ [.code<|(bH 0 Zp false).seq<|(bH 1 Cg false).seq<|(bH 2 Ch false).seq BC]:=by
  unfold ej;rw[func90];kernel_rfl
 rw[a];apply ar.B (λw=>cM);apply ar.B (λw=>fK);refine th (.cells #[base'] 93 (0,0)) (λx=>.pointer<|some ⟨x,0,none⟩) rfl rfl (base_kind _) (λw=>by simp[go_sem,b]) λb a=>?_;obtain⟨d,k⟩:=sS (e0:=e0) (s0:=s0) .O a;have g:=(dR.O (e0:=e0) (s0:=s0)).B (obj:=.cells #[base'] 93 (0,0)) d;refine th (.cells #[part] 169 (0,0)) (λx=>.pointer<|some ⟨x,0,none⟩) rfl rfl (base_kind _) (λw=>by simp[go_sem,e]) λh a=>?_;obtain⟨e,l⟩:=sS g a;have i:=pn (o:=.cells _ _ _) a CC;apply ar.I (.slice none 0 0) rfl rfl (base_kind _) (λw=>aZ) (λw=>aZ);apply ar.B (λw=>cE);apply ar.B (λw=>cM);apply ar.B (λw=>fK);have j:(λa=>if a=h then some (Dm #[part] 169 (0,0))else if a=b then some (Dm #[base'] 93 (0,0))else e0 a) b=some (.cells #[base'] 93 (0,0)):=aJ
 refine .O<|.mk _ _ _ _ _ _ _ _ _ _ _ _ _ _ _ _ _ _ _ _ _ _ _ _ _ _ _ _ _ _ _ _ _ _ _ _ _ _ _ _ _ (g.B e) j af i ⟨d,k⟩ ⟨e,l⟩
theorem ab6(d:Layers F Pre e0 part lad n){g a b:Nat}{u I T a8 a9 b0 w y z A B C D E G H J K L M N O P Q R S U V W Y Z a0 a1 a2 a3 a4 a5 a6 a7:aq}(h:dR e0 s0 e s0)(k:e a=some (.cells #[base'] 93 (0,0)))(o:e b=some (.cells #[part] 169 (0,0)))(m:a≠b)(l:e0 a=none∧s0 a=none)(p:e0 b=none∧s0 b=none)
  (i:e0 bp=some (.cells pc tp fz))(j:pc[0]?=some (.slice lad n cp))(r:xs.length<=1099511627776)(s:Pre 0 (xs.map bn.I) f v)(q:iv v bs xs)(t:av F f bs base'):
  ar Tryz.prog true F (xp<|rf F Pre e0 s0 c cs n g) ⟨some (f,v),e,s0⟩ ((base 90).at ⟨#[.pointer<|some ⟨bp,0,none⟩,u,I,T,.pointer<|some ⟨a,0,none⟩,.pointer<|some ⟨b,0,none⟩,a8,.pointer<|some ⟨g,0,none⟩,a9,b0,w,y,z,A,B,C,D,E,G,H,J,K,L,M,N,O,P,Q,R,S,U,V,W,Y,Z,a0,a1,a2,a3,a4,a5,a6,a7],[]⟩ [.inRegion Cg [],.code<|(bH 2 Ch false).seq BC])<|c::cs:=by
 have a:=d.4;apply ar.B (λw=>cE);apply ar.B (λw=>cM);apply ar.B (λw=>fK);refine ar.I (.pointer<|some ⟨bp,0,none⟩) rfl rfl (base_kind _) (λw=>aZ) (λw=>aZ) ?_;walk_nrm;refine ar.I (.pointer<|some ⟨bp,0,none⟩) rfl rfl (base_kind _) (λw=>aZ) (λw=>aZ) ?_;walk_nrm;refine ar.I (.pointer<|some ⟨bp,0,none⟩) rfl rfl (base_kind _) (λw=>aZ) (λw=>aZ) ?_;walk_nrm;refine GP (blk:=bp) (off:=0) (x:=.slice _ n _) rfl rfl (base_kind _) (.inl<|h.1 _ _ i) j (λw ax=>⟨by simp[go_sem,ax],by simp[go_sem,ax]⟩) ?_;walk_nrm;refine ar.I (.int .i64 n) rfl rfl (base_kind _) (λw=>aZ) (λw=>aZ) ?_;refine ar.I (.int .i64 ((n+1:Nat):Int)) rfl rfl (base_kind _) (λw=>?_) (λw=>aZ) ?_;simp[go_sem];rw[H3];omega;walk_nrm;exact rh (f:=149) (vals:= #[.pointer<|some ⟨g,0,_⟩,.int _ ((n+1:Nat):Int)]) rfl rfl (base_kind _) rfl func149 rfl rfl (by simp[lH]) (.O<|SF (X:=rf F _ _ _ c _ n g) (wj d g) (by show n+1<_;omega) ⟨λ_=>0,ab9 (X:=rf F _ _ _ c _ n g) (wj d g) h k o m l p i j r s q t λa r fr h=>Zk d n 0 _ _ r _ aa (upd_same _ _ _) h⟩)
theorem Ml(p:Layers F Pre e0 part lad n){m a:Nat}(b:part=.func g3 J g1)(b:base'=.slice y m a)
  (z:e0 bp=some (.cells pc tp fz))(C:pc[0]?=some (.slice lad n cp))(A:xs.length<=1099511627776)(B:Pre 0 (xs.map bn.I) f v)(x:iv v bs xs)(D:av F f bs base'):
  Go.Proofs.Comes Tryz.prog F (⟨some (f,v),e0,s0⟩:aG) (ej Tryz.prog 90 #[bp,base',part] .normal) (c::cs) λo m h=>
   ∃(e s:Nat->Option bI)(j a:Ren)(i b:ag)(d k:aq)(l:List bn),dR e0 s0 e s∧Pre n (l.map bn.I) j i∧j.O a∧Grown i b∧mV a b∧fy b d l∧(∀g n cp,d=.slice (some g) n cp->i<=g.1)∧av F a d k∧o=⟨some (a,b),e,s⟩∧m=c.finish k∧h=cs:=by
 refine(Go.Proofs.Comes.O (ab8 (e0:=e0) (s0:=s0) aa aa)).B λE fr cs1 h=>?_;cases h with
 |mk e g q a3 b7 g b8 b9 G H I K L M N O Q R S T U V W Y Z a0 a1 a2 a4 a5 a6 a7 a8 a9 b0 b1 b2 b3 b4 b5 b6 w m o t r u=>
 refine(Go.Proofs.Comes.Z (P:=Tryz.prog) (F:=F) (X:=λg=>rf F Pre e0 s0 c cs n g) (λ_=>rfl) (λ_=>rfl) (ty:=272) (λ_=>rfl) (λ_=>rfl) (λg=>aaS p g)
  (fr1:=λg=>(base 90).at ⟨#[.pointer _,base',part,a3,.pointer _,.pointer (some ⟨q,0,none⟩),b7,.pointer _,b8,b9,G,H,I,K,L,M,N,O,Q,R,S,T,U,V,W,Y,Z,a0,a1,a2,a4,a5,a6,a7,a8,a9,b0,b1,b2,b3,b4,b5,b6],[]⟩ [.inRegion Cg [],.code _]) (cs1:=c::cs) (λq _=>?_) (λg=>ab6 p w m o t r u z C A B x D)).B λE fr cs1 h=>?_
 rfl;obtain⟨g,h⟩:=h;refine Go.Proofs.Comes.O (acb h λe s j a i b d k l g h p m o q r t=>.O ⟨e,s,j,a,i,b,d,k,l,g,h,p,m,o,q,t,r,rfl,rfl,rfl⟩)
end
end
section
open Go.Conc
section
variable{P:bj}{F:bw->Bool}{r r1:aG}{fr:az}{cs:List az}{gs:Array Goroutine}{w:ag}{t:Trace}{q:Nat->Nat}
theorem Fm.V(h:Fm P F r gs w t q)(a:r1.Fits P F w)(c:∀b,r1.B b->r.B b)(d:∀b,r1.s b≠none->r.B b∨r.s b≠none):Fm P F r1 gs w t q:=
 {h with
  fits:=a
  own:=λb a=>h.6 b<|c b a
  read:=λb a=>(d b a).elim (λa=>(h.6 b a).I) (h.7 b)}
theorem Comes.I{Q:aG->az->List az->Prop}(h:∀w,r.Fits P F w->∃r1,r1.Fits P F w∧(∀b,r1.B b->r.B b)∧(∀b,r1.s b≠none->r.B b∨r.s b≠none)∧Comes P F r1 fr cs Q):Comes P F r fr cs Q:=by
 intro gs w sl t q a f;obtain⟨r1,b,c,d,e⟩:=h w a.4;exact e _ w _ t q (a.V b c d) f
end
def cut(D:Nat->Bool)(f:Ren):Ren:=λa=>if D a then f a else none
def jC(D:Nat->Bool)(v:ag):World:={v with heap:=v.1.mapIdx λa o=>if D a then o else lj}
def rr(D:Nat->Bool)(n:Nat)(f g:Ren):Ren:=λa=>if a<n∧D a=false then f a else g a
def lW(D:Nat->Bool)(v u:ag):World:={u with heap:=u.1.mapIdx λa o=>if a<v∧D a=false then(v.1[a]?).getD o else o}
open Classical in
noncomputable def nx(D:Nat->Bool)(f:Ren)(e:Nat->Option bI)(w:ag):Nat->Option Obj:=λx=>if(∃a,f a=some x∧D a=false)then w.1[x]? else e x
section
variable{P:bj}{F:bw->Bool}{D:Nat->Bool}{f g:Ren}{v u w w1:ag}{e s e1 s1:Nat->Option bI}
theorem sI{a b:Nat}(h:cut D f a=some b):D a=true∧f a=some b:=by
 unfold cut at h;grind
theorem BP:(jC D v)=v.1.size:=by simp[jC]
theorem BO(h:D a=true):(jC D v).1[a]?=v.1[a]? :=by
 simp only[jC,Array.getElem?_mapIdx,h];grind
theorem yw(h:D a=false)(b:a<v):(jC D v).1[a]?=some lj:=by
 simp[jC,h,rE b]
theorem X4(h:lA a v):lA a<|jC D v:=by
 intro b c;cases d:D b with
 |true=>rw[BO d];exact h b c
 |false=>exact yw d ((fU.1<|h b c).1)
theorem wI{a x:Nat}(h:f a=some x)(b:D a=false):nx D f e w x=w.1[x]? :=if_pos ⟨a,h,b⟩
theorem OX(h:∀b,f b=some a->D b=true):nx D f e w a=e a:=if_neg λ⟨b,c,d⟩=>by grind
theorem aG.T(h:(⟨some (f,v),e,s⟩:aG).Fits P F w)(j:∀a b o g,f a=some b->D a=true->v.1[a]?=some o->ek P F (cN P F) f o g->ek P F (cN P F) (cut D f) o g):
  (⟨some (cut D f,jC D v),nx D f e w,s⟩:aG).Fits P F w∧∀b,(⟨some (cut D f,jC D v),nx D f e w,s⟩:aG).B b->(⟨some (f,v),e,s⟩:aG).B b:=by
 have k:=h.1 f v rfl;refine⟨⟨?_,?_,h.s,?_,?_⟩,?_⟩;intro p q l;obtain⟨rfl,rfl⟩:=l;refine⟨λa b d=>k.1 a b (sI d).2,⟨X4 k.2.1,k.2.2⟩,λa b d=>?_,λa n b d c=>k.4 a _ b (sI d).2 (sI c).2⟩;obtain⟨c,i⟩:=sI d;obtain⟨o,g,m,i2,i3⟩:=k.3 a b i;exact⟨o,g,aw (BO c) m,i2,j a b o _ i c m i3⟩;intro b o g;by_cases j:∃a,f a=some b∧D a=false;obtain⟨a,c,i⟩:=j;rw[show(⟨_,_,s⟩:aG).e b=_ from wI c i]at g;omega;rw[show(⟨_,nx D f e w,s⟩:aG).e b=e b from if_neg j]at g;exact h.e b o g;intro p q l a b d;obtain⟨rfl,rfl⟩:=l;obtain⟨c,i⟩:=sI d;obtain⟨m,i2⟩:=h.4 f v rfl a b i;refine⟨?_,i2⟩;show nx D f e w b=none;rw[OX λn h'=>aw (k.4 n a b h' i) c];exact m;intro b o g;by_cases j:∃a,f a=some b∧D a=false;obtain⟨a,c,i⟩:=j;exact(h.4 f v rfl a b c).2;rw[show(⟨some (cut D f,jC D v),nx D f e w,s⟩:aG).e b=e b from if_neg j]at g;exact h.5 b o g;rintro b (g|⟨p,q,a,l,d⟩);by_cases j:∃a,f a=some b∧D a=false;obtain⟨a,c,_⟩:=j;exact .inr ⟨f,v,a,rfl,c⟩;rw[show(⟨some _,nx D f e w,s⟩:aG).e b=e b from if_neg j]at g;exact .inl g;obtain⟨rfl,rfl⟩:=l;exact .inr ⟨f,v,a,rfl,(sI d).2⟩
theorem G8(h:D a=false)(e:v.1[a]?=some N)(d:a<u):(lW D v u).1[a]?=some N:=by
 obtain⟨b,c⟩:=fU.1 e;simp[lW,h,b,c,rE d]
theorem Da(h: ¬(a<v∧D a=false)):(lW D v u).1[a]?=u.1[a]? :=by
 simp only[lW,Array.getElem?_mapIdx,if_neg h];grind
theorem aef(h:lA a v)(d:lA a u):lA a<|lW D v u:=by
 intro b c;by_cases e:b<v.1.size∧D b=false;exact G8 e.2 (h b c) (fU.1<|d b c).1;rw[Da e];exact d b c
theorem aG.U(h:(⟨some (f,v),e,s⟩:aG).Fits P F w)(m:(⟨some (g,u),e1,s1⟩:aG).Fits P F w1)(p:(cut D f).O g)(H:∀a,a<v.1.size->D a=false->u.1[a]?=some lj)
  (k:∀x o,nx D f e w x=some o->e1 x=some o)(G:∀x o,s x=some o->s1 x=some o):
  (⟨some (rr D v f g,lW D v u),e,s⟩:aG).Fits P F w1∧f.O (rr D v f g)∧(∀b,(⟨some (rr D v f g,lW D v u),e,s⟩:aG).B b->(⟨some (g,u),e1,s1⟩:aG).B b)∧g.O (rr D v f g):=by
 have r:=h.1 f v rfl;have t:=m.1 g u rfl;have C:∀a b,f a=some b->a<v.1.size:=λa b c=>by
  obtain⟨o,_,l,_⟩:=r.3 a b c;grind
 have n:∀a b,g a=some b->¬(a<v.1.size∧D a=false):=by
  rintro a b c ⟨d,j⟩;obtain⟨o,i,l,_,i3⟩:=t.3 a b c;rw[H a d j]at l;cases l;cases i3
 have q:∀a b,rr D v.1.size f g a=some b->(D a=false∧f a=some b)∨(¬(a<v.1.size∧D a=false)∧g a=some b):=by
  intro a b c;by_cases d:a<v.1.size∧D a=false
  ·rw[show rr D _ f g a=f a from if_pos d]at c;grind
  ·rw[show rr D _ f g a=g a from if_neg d]at c;grind
 have B:f.O<|rr D v.1.size f g:=by
  intro a b c;cases j:D a with
  |false=>exact(if_pos ⟨C a b c,j⟩).trans c
  |true=>
   have:g a=some b:=p a b (by unfold cut;grind);exact(if_neg (by grind)).trans this
 have E:g.O<|rr D v.1.size f g:=λa b c=>(if_neg<|n a b c).trans c;have y:∀a b,f a=some b->D a=false->∃o,w.1[b]?=some o∧e1 b=some o:=by
  intro a b c j;obtain⟨o,i,_,i2,_⟩:=r.3 a b c;exact⟨i,i2,k b i<|aw (wI c j) i2⟩
 have z:∀x o,e x=some o->e1 x=some o:=λx o d=>k x o (by
  rw[OX λa k=>?_]
  omega
  ·have:=(h.4 f v rfl a x k).1
   grind)
 refine⟨⟨?_,λb o k=>m.e b o<|z b o k,λb o k=>m.s b o<|G b o k,?_,h.5⟩,B,?_,E⟩
 ·intro A I d;obtain⟨rfl,rfl⟩:=d;refine⟨λa b c=>(q a b c).elim (λx=>r.1 a b x.2) λx=>t.1 a b x.2,⟨aef r.2.1 t.2.1,t.2.2⟩,λa b c=>?_,λa x b c n=>?_⟩
  ·rcases q a b c with⟨j,n⟩|⟨d,n⟩
   ·obtain⟨o,i,l,i2,i3⟩:=r.3 a b n;obtain⟨K,J,p⟩:=y a b n j;obtain rfl:i=K:=dw<|i2.symm.trans J;exact⟨o,i,G8 j l ((fU.1<|H a (C a b n) j).1),m.e b i p,i3.B B⟩
   ·obtain⟨o,i,l,i2,i3⟩:=t.3 a b n;exact⟨o,i,aw (Da d) l,i2,i3.B E⟩
  ·rcases q a b c with⟨j,i⟩|⟨d,i⟩<;>rcases q x b n with⟨B,n⟩|⟨C,n⟩
   ·exact r.4 a x b i n
   ·obtain⟨o,_,p⟩:=y a b i j;have:=(m.4 g u rfl x b n).1;rw[show(⟨some (g,u),e1,s1⟩:aG).e b=e1 b from rfl,p]at this;cases this
   ·obtain⟨o,_,p⟩:=y x b n B;have:=(m.4 g u rfl a b i).1;rw[show(⟨some (g,u),e1,s1⟩:aG).e b=e1 b from rfl,p]at this;cases this
   ·exact t.4 a x b i n
 ·intro A I d a b c;obtain⟨rfl,rfl⟩:=d;obtain⟨j,i⟩|⟨d,i⟩:=q a b c
  ·exact h.4 f v rfl a b i
  ·obtain⟨l,i2⟩:=m.4 g u rfl a b i;refine⟨?_,?_⟩
   ·cases k:e b with
    |none=>exact k
    |some o=>rw[show(⟨some (g,u),e1,s1⟩:aG).e b=e1 b from rfl,z b o k]at l;cases l
   ·cases k:s b with
    |none=>exact k
    |some o=>rw[show(⟨some (g,u),e1,s1⟩:aG).s b=s1 b from rfl,G b o k]at i2;cases i2
 ·rintro b (k|⟨A,I,a,d,c⟩)
  ·obtain⟨o,l⟩:=pH.1 k;exact .inl (by rw[show(⟨some (g,u),e1,s1⟩:aG).e b=e1 b from rfl,z b o l];simp)
  ·simp only[vB,zI]at d;obtain⟨rfl,rfl⟩:=d;obtain⟨j,i⟩|⟨_,i⟩:=q a b c
   ·obtain⟨o,_,p⟩:=y a b i j;exact .inl (by rw[show(⟨some (g,u),e1,s1⟩:aG).e b=e1 b from rfl,p];simp)
   ·exact .inr ⟨g,u,a,rfl,i⟩
end
abbrev MF:Array Oper:= #[{dst:=some 4,op:=pB (qA (oD none 0 0)),type:=93,pos:= "pipe.go:35",after:= #[],guard:=none}]
abbrev yl:Array Oper:= #[{dst:=some 5,op:=iI (bz 0),type:=171,pos:= "pipe.go:35",after:= #[],guard:=none},
 {dst:=some 6,op:=nE {callee:=Callee.invoke (bz 5) "upshot/layers.fill",args:= #[],argTypes:= #[]},type:=93,pos:= "pipe.go:35",after:= #[{on:=0,ground:=cY}],guard:=none},
 {dst:=some 4,op:=pB (bz 6),type:=93,pos:= "pipe.go:35",after:= #[{on:=1,ground:=cY},{on:=1,ground:=vd},{on:=0,ground:=gQ},{on:=1,ground:=gQ}],guard:=none}]
theorem Tu:f141.9=some ((bH 0 MF false).seq<|(bH 1 yl false).seq kL):=rfl
theorem Zw(x)(w:ag):(method 622 320 x "upshot/layers.fill").run Tryz.prog w=.ok (325,x) w:=ah
theorem Zu(x)(w:ag):(method 622 323 x "upshot/layers.fill").run Tryz.prog w=.ok (386,x) w:=ah
theorem ZN(x)(w:ag):(method 622 320 x "upshot/layers.fill").events Tryz.prog w #[]= #[]:=ah
theorem ZL(x)(w:ag):(method 622 323 x "upshot/layers.fill").events Tryz.prog w #[]= #[]:=ah
structure vk(ty:bB)(fn:bw):Prop where
 run:∀(ρ:cL->aq)(w:ag)(x:aq),ρ (.tmp 5)=.iface ty x->(execOp ρ yl[1]).run Tryz.prog w=.ok (.enter fn #[x]) w
 events:∀(ρ:cL->aq)(w:ag)(x:aq),ρ (.tmp 5)=.iface ty x->(execOp ρ yl[1]).events Tryz.prog w #[]= #[]
theorem MG(c:Tryz.prog.funcs[u]?=some S)(a:(S.1== "runtime.NumGoroutine")=false)(b:S.9=some f7)
  (a:∀x w,(method 622 k x "upshot/layers.fill").run Tryz.prog w=.ok (u,x) w)(d:∀x w,(method 622 k x "upshot/layers.fill").events Tryz.prog w #[]= #[]):vk k u:=by
 have e: ¬S.1= "runtime.NumGoroutine" :=aJ;refine⟨fun f w x h=>?_,fun f w x h=>?_⟩;simp[go_sem,h,a,callFunc,c,e,b];simp[go_sem,h,a,d,callFunc,c,b]
def qz(D:Nat->Bool)(f:Ren)(N:Nat)(M:Nat->List aq->ag->Prop)(i:Nat)(c:List aq)(b:Ren)(a:ag):Prop:=
 (cut D f).O b∧mV b a∧N<=a∧(∀b,b<N->D b=false->a.1[b]?=some lj)∧M i c a
theorem yv(h:Grown b l):b<=l.1.size:=by
 obtain a|a:=tE l.1.size b.1.size;have:=h _ _<|rE aa;grind;omega
theorem ya(h:Fit z a9 W b l):mV W b:=λa x c=>by
 obtain⟨o,_,d,_⟩:=h.3 a x c;grind
theorem qz.B{D:Nat->Bool}{f:Ren}(j:∀i b v c,b4 i b v->Grown v c->b4 i b c)(i)(b)(d c:Ren)(e g:ag)
  (h:qz D f a b4 i b d e)(k:d.O c)(d:Grown e g)(e:∃w,Fit Tryz.prog a9 c g w):qz D f a b4 i b c g:=by
 obtain⟨b,c,c,g,i⟩:=h;obtain⟨w,e⟩:=e;exact⟨Ren.B b k,ya e,dI c<|yv d,λb c e=>d _ _<|g b c e,j _ _ _ _ i d⟩
def vn(D:Nat->Bool)(N:Nat)(M:Nat->List aq->ag->Prop)(j:Nat)(e:List bn)(c v:ag)(u:aq)(w:ag):Prop:=
 ∃b,iv w u b∧e+b.length<=1099511627776∧(N<=w∧∀a,a<N->D a=false->w.1[a]?=some lj)∧(∀(a) (o:bI),c.1.size<=a->v.1[a]?=some o->w.1[a]?=some o)∧
  ∀d,(∀(a) (o:bI),w.1[a]?=some o->(a<c.1.size∨v<=a)->d.1[a]?=some o)->M (j+1) ((e++b).map bn.I) d
theorem Xr(H:Held Tryz.prog a9){j:Nat}(h:vk k u)(hF:a9 u=true)(z:av a9 (cut d2 W) n e)
  (t:∀d(v0 v:ag),b4 j (d.map bn.I) v0->a<=v0->(∀b,b<a->d2 b=false->v0.1[b]?=some lj)->Grown v0 v->∀T,Al Tryz.prog u #[n] (aN v T) λex w=>∃g,ex=.returned g∧vn d2 a b4 j d v0 v g w)
  (c s:Nat->Option bI):tQ a9 (qz d2 W a b4) (j+1) (.iface k e) (.func (.func 141) #[] #[]) c s:=by
 intro c b c cs f0 l v0 v s0 c d i r x m o m p m q s y;obtain⟨p1,p2,p3,p4,iX⟩:=i;have i:b.1[13]?.getD aj=.func (.func 141) #[] #[]:=by simpa[lH]using m
 have m:b.1[14]?.getD aj=.iface k e:=by simpa[lH,Dq]using q
 have q:b.1[15]?.getD aj=c:=by simpa[lH,Dq]using s
 have s: ¬f141.1= "runtime.NumGoroutine" :=bb;refine CV (f:=141) (args:= #[.iface k e,c]) rfl rfl (base_kind _) (λw=>?_) (λw=>?_) ?_;simp[execOp,resolve,wY,invoke,lH,i,m,q];simp[execOp,resolve,wY,invoke,callFunc,lH,i,Tu];have i:ej Tryz.prog 141 #[.iface k e,c] .normal=(base 141).at ⟨#[.iface k e,c,aj,aj,aj,aj,aj],[]⟩ [.code<|(bH 0 MF false).seq<|(bH 1 yl false).seq kL]:=by
  unfold ej;rw[func141];rfl
 rw[i];apply ar.B (λw=>cM);apply ar.B (λw=>fK);apply ar.I (.slice none 0 0) rfl rfl (base_kind _) (λw=>aZ) (λw=>aZ);apply ar.B (λw=>cE);apply ar.B (λw=>cM);apply ar.B (λw=>fK);apply ar.I (.iface k e) rfl rfl (base_kind _) (λw=>aZ) (λw=>aZ);walk_nrm;apply CV (f:=u) (args:= #[e]) rfl rfl (base_kind _) (λw=>h.1 _ w _ rfl) (λw=>h.2 _ w _ rfl);refine wL λ⟨i,h⟩=>?_;refine ar.m H hF (f0:=l) (v0:=v) (args:= #[n]) (args':= #[e]) ?_ ⟨i,h.1 _ _ rfl⟩ (R:=vn d2 a b4 j _ _ v) (λg w T h=>h) (t _ _ v iX p3 p4 x) λt g j q s x ⟨F,A,B,⟨i,C⟩,D,E⟩=>?_;exact .cons (z.B<|Ren.B p1 r) .nil;have i:((base _).at ⟨#[.iface _ e,c,aj,aj,.slice _ 0 0,.iface _ _,aj],[]⟩ [.inRegion yl [1,2],.code kL]).finish _=(base 141).at ⟨#[.iface k _,c,aj,aj,.slice none 0 0,.iface k e,j],[]⟩ _:=rfl;rw[i];apply ar.I j rfl rfl (base_kind _) (λw=>aZ) (λw=>aZ);walk_nrm;apply ar.B (λw=>cE);apply ar.B (λw=>pI);refine ar.B (λw=>DO rfl rfl func141 (v:=j) (by simp[results]) (by simp[results])) ?_;have c:fy q s0 d:=by
  obtain h|⟨i,l,m,d,i2,i3⟩:=o;exact .inl h;exact .inr ⟨i,l,m,d,D i _ (p _ _ _ d) i2,i3⟩
 refine y t q g j F s c A x B λc c t q ⟨w3,w⟩=>?_;have j:∀b,b<v0.1.size->some b≠s0.ownBlock:=by
  intro b g c;obtain⟨_,h⟩|⟨i,l,m,d,_⟩:=o;rw[h]at c;simp[xg]at c;have:=p _ _ _ d;rw[d]at c;simp[xg]at c;dsimp only at this;omega
 have p:∀b,v.1.size<=b->some b≠s0.ownBlock:=by
  intro b g c;obtain⟨_,h⟩|⟨i,l,m,d,i2,_⟩:=o;rw[h]at c;simp[xg]at c;have:=(fU.1 i2).1;rw[d]at c;simp[xg]at c;omega
 refine⟨Ren.B p1<|Ren.B r<|Ren.B s t,ya w,?_,λb g c=>q b _ (C b g c)<|j b aa,E _ λb o c h=>q b o c<|h.elim (j b)<|p b⟩;grind
abbrev Fu:Array Oper:= #[{dst:=some 4,op:=iI (bz 0),type:=100,pos:= "pipe.go:35",after:= #[],guard:=none},
 {dst:=some 5,op:=iI (bz 1),type:=93,pos:= "pipe.go:35",after:= #[],guard:=none},
 {dst:=some 6,op:=nE {callee:=nD (oG 90),args:= #[bz 4,bz 5,oG 141],argTypes:= #[100,93,169]},type:=93,pos:= "pipe.go:35",after:= #[{on:=0,ground:=cY},{on:=1,ground:=cY}],guard:=none}]
structure Ei(F:bw->Bool)(D:Nat->Bool)(f:Ren)(v:ag)(ap:Nat)(n:Nat)(M:Nat->List aq->ag->Prop):Prop where
 held:Held Tryz.prog F
 closed:∀a b o o',f a=some b->D a=true->v.1[a]?=some o->ek Tryz.prog F (cN Tryz.prog F) f o o'->ek Tryz.prog F (cN Tryz.prog F) (cut D f) o o'
 mono:∀i xs v v',M i xs v->Grown v v'->M i xs v'
 small:n+1<2147483647
 pipe:D ap=false∧∃(pc:Array aq)(tp:bB)(fz:Nat×Nat)(lad:Option bC)(cp:Nat),v.1[ap]?=some (.cells pc tp fz)∧pc[0]?=some (.slice lad n cp)∧
  ∀j,j<n->∃(al lo tl ty:Nat)(x:aq)(lc:Array aq)(fzl:Nat×Nat)(fn:bw),lad=some ⟨al,lo,none⟩∧D al=false∧v.1[al]?=some (.cells lc tl fzl)∧lc[lo+j]?=some (.iface ty x)∧vk ty fn∧F fn=true∧
   (∀x',av F f x x'->av F (cut D f) x x')∧
   ∀(xs:List bn)(v0 v1:ag),M j (xs.map bn.I) v0->v.1.size<=v0.1.size->(∀a,a<v.1.size->D a=false->v0.1[a]?=some lj)->Grown v0 v1->∀T,Al Tryz.prog fn #[x] (aN v1 T) λex w=>∃u,ex=.returned u∧vn D v.1.size M j xs v0 v1 u w
theorem CJ{C:eN->Bool}(h:ek z a9 C W (.cells J k d9) N):∃a,N=.cells a k d9∧RelA a9 W J a:=by
 cases h with
 |cells _ _ h=>grind
section
variable{F:bw->Bool}{D:Nat->Bool}{f:Ren}{v w:ag}{e s:Nat->Option bI}{ap n:Nat}{M:Nat->List aq->ag->Prop}
theorem Xt(h:Ei F D f v ap n M)(C:(⟨some (f,v),e,s⟩:aG).Fits Tryz.prog F w)(l:f ap=some a):
  ∃(j:Array aq)(k:bB)(i:Nat×Nat)(d:Option bC)(c:Nat),nx D f e w a=some (.cells j k i)∧j[0]?=some (.slice d n c)∧Layers F (qz D f v M) (nx D f e w) (.func (.func 141) #[] #[]) d n:=by
 obtain⟨y,j,k,i,d,c,t,u,x⟩:=h.5;have m:=C.1 f v rfl;let⟨a7,a8,o,i2,i3⟩:=m.3 _ _ l;rw[t]at o;cases dw o;obtain⟨a0,rfl,G⟩:=CJ i3;let⟨V,H,I⟩:=G.O 0 _ u;have S:∃g,V=.slice g n c∧∀al b,d=some ⟨al,b,none⟩->∃aS,g=some ⟨aS,b,none⟩∧f al=some aS:=by
  cases I with
  |nA=>grind
  |sl _ _ a4=>grind
 obtain⟨g,rfl,A⟩:=S;refine⟨a0,k,i,g,c,aw (wI l y) i2,H,h.1,qz.B h.3,λa5 b3 a3 b1 B=>B.2.1,h.4,λp z=>?_⟩;obtain⟨al,b,a1,ty,b2,a6,r,fn,J,K,L,N,O,P,Q,R⟩:=x p z;obtain⟨aS,T,q⟩:=A al b J;obtain⟨a9,b0,m1,m2,W⟩:=m.3 al aS q;rw[L]at m1;obtain rfl:=dw m1;obtain⟨U,rfl,X⟩:=CJ W;obtain⟨b4,Y,Z⟩:=X.O (b+p) _ N;cases Z with
 |iface _ E=>
  rename_i a2;exact⟨aS,b,a1,ty,a2,U,r,T,aw (wI q K) m2,Y,λe s=>Xr h.1 O P (Q _ E) R e s⟩
theorem WI(l:Ei F D f v ap n M){G a z:aq}{xs:List bn}(R:av F f (.pointer<|some ⟨ap,0,none⟩) G)(O:xs.length<=1099511627776)(K:M 0 (xs.map bn.I)<|jC D v)(C:iv (jC D v) z xs)(q:av F (cut D f) z a):
  Go.Proofs.Comes Tryz.prog F (⟨some (f,v),e,s⟩:aG) (ej Tryz.prog 79 #[G,a] .normal) (x::d1) λa1 J H=>
   ∃(B:Ren)(g:ag)(u:List bn),f.O B∧M n (u.map bn.I) g∧v<=g.1.size∧a1=⟨some (B,lW D v g),e,s⟩∧J=x.finish (.tuple #[])∧H=d1:=by
 cases R with
 |ptr d=>
 rename_i b;obtain⟨bad,E,y,a8⟩:∃bad E y,a=.slice bad E y:=by
  obtain⟨rfl,a3,A,rfl⟩|⟨c,o,A,cc,a4,fr,rfl,_,_⟩:=C;cases q;grind;grind;cases q;grind
 have k:ej Tryz.prog 79 #[b,a] .normal=(base 79).at ⟨#[b,a,aj,aj,aj,aj,aj],[]⟩ [.code<|bH 0 Fu false]:=by
  unfold ej;rw[func79];rfl
 rw[k];refine(Go.Proofs.Comes.O (Q:=λa0 fr cs1=>a0=⟨some (f,v),e,s⟩∧fr=ej Tryz.prog 90 #[b,a,.func (.func 141) #[] #[]] .normal∧cs1=(base 79).at ⟨#[b,a,aj,aj,b,a,aj],[]⟩ [.inRegion Fu [2]]::x::d1) ?_).B ?_;apply ar.B (λw=>fK);refine ar.I (.pointer<|some ⟨b,0,none⟩) rfl rfl (base_kind _) (λw=>aZ) (λw=>aZ) ?_;apply ar.I a rfl rfl (base_kind _) (λw=>aZ) (λw=>aZ);walk_nrm;exact rh (f:=90) (vals:= #[b,a,.func (.func 141) #[] #[]]) rfl rfl (base_kind _) rfl func90 rfl rfl (by simp[lH]) (.O af);rintro _ _ _ ⟨rfl,rfl,rfl⟩;refine Go.Proofs.Comes.I λw i=>?_;obtain⟨S,T⟩:=aG.T i l.2;obtain⟨b4,b7,a7,b2,A,Y,Z,N⟩:=Xt l i d;refine⟨_,S,T,λc d=>.inr d,?_⟩;have L:mV (cut D f)<|jC D v:=λh a2 V=>aw BP<|ya (i.1 f v rfl) h a2 (sI V).2;refine(Ml N rfl aa Y Z O ⟨Ren.I _,L,aw BP<|cP _,λh m p=>yw p m,K⟩ C q).B ?_;rintro _ _ _ ⟨k,s1,a6,a5,b8,g,b5,b6,u,r,j,W,t,a9,b0,-,b1,rfl,rfl,rfl⟩;refine Go.Proofs.Comes.I λw1 U=>?_;obtain⟨m1,m2,X,b3⟩:=aG.U i U (Ren.B j.1 W) (λh m p=>t _ _<|j.2.2.2.1 h m p) r.1 r.2;refine⟨_,m1,X,λc d=>.inr λI=>?_,?_⟩;obtain⟨o,P⟩:=pH.1 d;rw[show(⟨_,k,s1⟩:aG).s c=s1 c from rfl,r.2 c o P]at I;grind;apply Go.Proofs.Comes.O;rw[Frame.B (o:=Fu[2]) rfl];exact ar.B (λw=>cE) (CU func79 rfl (.O ⟨_,g,u,m2,l.3 _ _ _ _ j.2.2.2.2 t,dI j.2.2.1<|yv t,rfl,rfl,rfl⟩))
end
theorem Zx(x)(w:ag):(method 622 320 x "upshot/layers.carry").run Tryz.prog w=.ok (324,x) w:=ah
theorem Zv(x)(w:ag):(method 622 323 x "upshot/layers.carry").run Tryz.prog w=.ok (385,x) w:=ah
theorem ZO(x)(w:ag):(method 622 320 x "upshot/layers.carry").events Tryz.prog w #[]= #[]:=ah
theorem ZM(x)(w:ag):(method 622 323 x "upshot/layers.carry").events Tryz.prog w #[]= #[]:=ah
abbrev sF:Value:=.func (.methodOf 171 "upshot/layers.carry") #[] #[]
structure vg(ty:bB)(fn:bw):Prop where
 run:∀(ρ:cL->aq)(w:ag)(x s:aq),ρ (.tmp 13)=sF->ρ (.tmp 14)=.iface ty x->ρ (.tmp 15)=s->(execOp ρ qc[5]).run Tryz.prog w=.ok (.enter fn #[x,s]) w
 events:∀(ρ:cL->aq)(w:ag)(x s:aq),ρ (.tmp 13)=sF->ρ (.tmp 14)=.iface ty x->ρ (.tmp 15)=s->(execOp ρ qc[5]).events Tryz.prog w #[]= #[]
theorem L6(f:Tryz.prog.funcs[u]?=some S)(a:(S.1== "runtime.NumGoroutine")=false)(e:S.9=some f7)
  (c:∀x w,(method 622 k x "upshot/layers.carry").run Tryz.prog w=.ok (u,x) w)(h:∀x w,(method 622 k x "upshot/layers.carry").events Tryz.prog w #[]= #[]):vg k u:=by
 have g: ¬S.1= "runtime.NumGoroutine" :=aJ;refine⟨fun i w x s a b d=>?_,fun i w x s a b d=>?_⟩;simp[go_sem,a,b,d,c,callFunc,f,g,e];simp[go_sem,a,b,invoke,c,h,callFunc,f,g,e]
theorem V8(H:Held Tryz.prog a9){j:Nat}(m:vg k u)(hF:a9 u=true)(A:av a9 (cut d2 W) n e)
  (s:∀d(v0 v:ag)(s0),b4 j (d.map bn.I) v0->a<=v0->(∀b,b<a->d2 b=false->v0.1[b]?=some lj)->Grown v0 v->fy v s0 d->(∀c h g,s0=.slice (some c) h g->v0<=c.1)->
   ∀T,Al Tryz.prog u #[n,s0] (aN v T) λex w=>∃c,ex=.returned c∧vn d2 a b4 j d v0 v c w)
  (g h:Nat->Option bI):tQ a9 (qz d2 W a b4) (j+1) (.iface k e) sF g h:=by
 intro g b g cs f0 q v0 v s0 p d x r t g i y o g h l z;obtain⟨p1,p2,p3,p4,iX⟩:=x;apply CV (f:=u) (args:= #[e,p]) rfl rfl (base_kind _) (λw=>m.1 _ w _ _ g h l) (λw=>m.2 _ w _ _ g h l);refine wL λ⟨h,g⟩=>?_;refine ar.m H hF (f0:=q) (v0:=v) (args:= #[n,s0]) (args':= #[e,p]) ?_ ⟨h,g.1 _ _ rfl⟩ (R:=vn d2 a b4 j _ _ v) (λc w T h=>h) (s _ _ v _ iX p3 p4 t i o) λp c E m s t ⟨F,w,x,⟨g,B⟩,C,D⟩=>?_;exact .cons (A.B<|Ren.B p1 r)<|.cons y .nil;have q:fy m s0 d:=by
  obtain h|⟨g,j,l,d,i2,i3⟩:=i;exact .inl h;exact .inr ⟨g,j,l,d,C g _ (o _ _ _ d) i2,i3⟩
 refine z p m c E F s q w t x λc c t q ⟨w3,w⟩=>?_;have p:∀b,b<v0.1.size->some b≠s0.ownBlock:=by
  intro b m c;obtain⟨_,h⟩|⟨g,j,l,d,_⟩:=i;rw[h]at c;simp[xg]at c;have:=o _ _ _ d;rw[d]at c;simp[xg]at c;dsimp only at this;omega
 have o:∀b,v.1.size<=b->some b≠s0.ownBlock:=by
  intro b m c;obtain⟨_,h⟩|⟨g,j,l,d,i2,_⟩:=i;rw[h]at c;simp[xg]at c;have:=(fU.1 i2).1;rw[d]at c;simp[xg]at c;omega
 refine⟨Ren.B p1<|Ren.B r<|Ren.B s t,ya w,?_,λb m c=>q b _ (B b m c)<|p b aa,D _ λb d c h=>q b d c<|h.elim (p b)<|o b⟩;grind
abbrev TM:Array Oper:= #[{dst:=some 4,op:=pB (qA (oD none 0 0)),type:=93,pos:= "pipe.go:40",after:= #[],guard:=none}]
abbrev ET:Array Oper:= #[{dst:=some 5,op:=iI (bz 0),type:=100,pos:= "pipe.go:40",after:= #[],guard:=none},
 {dst:=some 6,op:=iI (bz 1),type:=93,pos:= "pipe.go:40",after:= #[],guard:=none},
 {dst:=some 7,op:=Op.makeFunc (Fn.methodOf 171 "upshot/layers.carry") #[] #[],type:=169,pos:= "pipe.go:40",after:= #[],guard:=none},
 {dst:=some 8,op:=nE {callee:=nD (oG 90),args:= #[bz 5,bz 6,bz 7],argTypes:= #[100,93,169]},type:=93,pos:= "pipe.go:40",after:= #[{on:=0,ground:=cY},{on:=1,ground:=cY},{on:=2,ground:=cY}],guard:=none},
 {dst:=some 4,op:=pB (bz 8),type:=93,pos:= "pipe.go:40",after:= #[{on:=3,ground:=cY},{on:=3,ground:=vd},{on:=0,ground:=gQ},{on:=1,ground:=gQ},{on:=2,ground:=gQ},{on:=3,ground:=gQ}],guard:=none}]
structure Eg(F:bw->Bool)(D:Nat->Bool)(f:Ren)(v:ag)(ap:Nat)(n:Nat)(M:Nat->List aq->ag->Prop):Prop where
 held:Held Tryz.prog F
 closed:∀a b o o',f a=some b->D a=true->v.1[a]?=some o->ek Tryz.prog F (cN Tryz.prog F) f o o'->ek Tryz.prog F (cN Tryz.prog F) (cut D f) o o'
 mono:∀i xs v v',M i xs v->Grown v v'->M i xs v'
 small:n+1<2147483647
 pipe:D ap=false∧∃(pc:Array aq)(tp:bB)(fz:Nat×Nat)(lad:Option bC)(cp:Nat),v.1[ap]?=some (.cells pc tp fz)∧pc[0]?=some (.slice lad n cp)∧
  ∀j,j<n->∃(al lo tl ty:Nat)(x:aq)(lc:Array aq)(fzl:Nat×Nat)(fn:bw),lad=some ⟨al,lo,none⟩∧D al=false∧v.1[al]?=some (.cells lc tl fzl)∧lc[lo+j]?=some (.iface ty x)∧vg ty fn∧F fn=true∧
   (∀x',av F f x x'->av F (cut D f) x x')∧
   ∀(xs:List bn)(v0 v1:ag)(s0:aq),M j (xs.map bn.I) v0->v.1.size<=v0.1.size->(∀a,a<v.1.size->D a=false->v0.1[a]?=some lj)->Grown v0 v1->fy v1 s0 xs->(∀ad n cp,s0=.slice (some ad) n cp->v0.1.size<=ad.1)->
    ∀T,Al Tryz.prog fn #[x,s0] (aN v1 T) λex w=>∃u,ex=.returned u∧vn D v.1.size M j xs v0 v1 u w
section
variable{F:bw->Bool}{D:Nat->Bool}{f:Ren}{v w:ag}{e s:Nat->Option bI}{ap n:Nat}{M:Nat->List aq->ag->Prop}
theorem V4(h:Eg F D f v ap n M)(C:(⟨some (f,v),e,s⟩:aG).Fits Tryz.prog F w)(l:f ap=some a):
  ∃(j:Array aq)(k:bB)(i:Nat×Nat)(d:Option bC)(c:Nat),nx D f e w a=some (.cells j k i)∧j[0]?=some (.slice d n c)∧Layers F (qz D f v M) (nx D f e w) sF d n:=by
 obtain⟨y,j,k,i,d,c,t,u,x⟩:=h.5;have m:=C.1 f v rfl;let⟨a7,a8,o,i2,i3⟩:=m.3 _ _ l;rw[t]at o;cases dw o;obtain⟨a0,rfl,G⟩:=CJ i3;obtain⟨V,H,I⟩:=G.O 0 _ u;have S:∃g,V=.slice g n c∧∀al b,d=some ⟨al,b,none⟩->∃aS,g=some ⟨aS,b,none⟩∧f al=some aS:=by
  cases I with
  |nA=>grind
  |sl _ _ a4=>grind
 obtain⟨g,rfl,A⟩:=S;refine⟨a0,k,i,g,c,aw (wI l y) i2,H,h.1,qz.B h.3,λa5 b3 a3 b1 B=>B.2.1,h.4,λp z=>?_⟩;obtain⟨al,b,a1,ty,b2,a6,r,fn,J,K,L,N,O,P,Q,R⟩:=x p z;obtain⟨aS,T,q⟩:=A al b J;obtain⟨a9,b0,m1,m2,W⟩:=m.3 al aS q;rw[L]at m1;obtain rfl:=dw m1;obtain⟨U,rfl,X⟩:=CJ W;obtain⟨b4,Y,Z⟩:=X.O (b+p) _ N;cases Z with
 |iface _ E=>
  rename_i a2;exact⟨aS,b,a1,ty,a2,U,r,T,aw (wI q K) m2,Y,λe s=>V8 h.1 O P (Q _ E) R e s⟩
theorem WH(h:Eg F D f v ap n M){L a G:aq}{xs:List bn}(Z:av F f (.pointer<|some ⟨ap,0,none⟩) L)(X:xs.length<=1099511627776)(U:M 0 (xs.map bn.I)<|jC D v)(I:iv (jC D v) G xs)(A:av F (cut D f) G a):
  Go.Proofs.Comes Tryz.prog F (⟨some (f,v),e,s⟩:aG) (ej Tryz.prog 46 #[L,a] .normal) (x::d1) λb5 S O=>
   ∃(u:Ren)(c:ag)(q:List bn)(i j:aq),f.O u∧M n (q.map bn.I) c∧v<=c.1.size∧fy (lW D v c) i q∧(∀k n g,i=.slice (some k) n g->v<=k.1)∧av F u i j∧b5=⟨some (u,lW D v c),e,s⟩∧S=x.finish j∧O=d1:=by
 cases Z with
 |ptr m=>
 rename_i d;obtain⟨bad,K,E,c1⟩:∃bad K E,a=.slice bad K E:=by
  obtain⟨rfl,k,g,rfl⟩|⟨l,o,g,cc,b7,fr,rfl,_,_⟩:=I;cases A;grind;grind;cases A;grind
 have t:ej Tryz.prog 46 #[d,a] .normal=(base 46).at ⟨#[d,a,aj,aj,aj,aj,aj,aj,aj],[]⟩ [.code<|(bH 0 TM false).seq<|(bH 1 ET false).seq kL]:=by
  unfold ej;rw[func46];rfl
 rw[t];refine(Go.Proofs.Comes.O (Q:=λb4 fr cs1=>b4=⟨some (f,v),e,s⟩∧fr=ej Tryz.prog 90 #[d,a,sF] .normal∧cs1=(base 46).at ⟨#[d,a,aj,aj,.slice none 0 0,d,a,sF,aj],[]⟩ [.inRegion ET [3,4],.code kL]::x::d1) ?_).B ?_;apply ar.B (λw=>cM);apply ar.B (λw=>fK);apply ar.I (.slice none 0 0) rfl rfl (base_kind _) (λw=>aZ) (λw=>aZ);apply ar.B (λw=>cE);apply ar.B (λw=>cM);apply ar.B (λw=>fK);refine ar.I (.pointer<|some ⟨d,0,none⟩) rfl rfl (base_kind _) (λw=>aZ) (λw=>aZ) ?_;apply ar.I a rfl rfl (base_kind _) (λw=>aZ) (λw=>aZ);apply ar.I sF rfl rfl (base_kind _) (λw=>aZ) (λw=>aZ);walk_nrm;exact rh (f:=90) (vals:= #[d,a,sF]) rfl rfl (base_kind _) rfl func90 rfl rfl (by simp[lH]) (.O af);rintro _ _ _ ⟨rfl,rfl,rfl⟩;refine Go.Proofs.Comes.I λw r=>?_;obtain⟨a1,a2⟩:=aG.T r h.2;obtain⟨c4,aK,ax,c3,g,b2,b3,W⟩:=V4 h r m;refine⟨_,a1,a2,λl m=>.inr m,?_⟩;have V:mV (cut D f)<|jC D v:=λb b6 a4=>aw BP<|ya (r.1 f v rfl) b b6 (sI a4).2;refine(Ml W rfl aa b2 b3 X ⟨Ren.I _,V,aw BP<|cP _,λb y z=>yw z y,U⟩ I A).B ?_;rintro _ _ _ ⟨t,s1,b9,b8,c6,c,i,j,q,B,p,a6,C,c2,a7,a9,a8,rfl,rfl,rfl⟩;refine Go.Proofs.Comes.I λw1 a3=>?_;have a0:∀b,b<v.1.size->D b=false->c.1[b]?=some _:=λb y z=>C _ _<|p.2.2.2.1 b y z;let⟨m1,m2,b0,b1⟩:=aG.U r a3 (Ren.B p.1 a6) aa B.1 B.2;refine⟨_,m1,b0,λl m=>.inr λR=>?_,?_⟩;obtain⟨o,Y⟩:=pH.1 m;rw[show(⟨_,t,s1⟩:aG).s l=s1 l from rfl,B.2 l o Y]at R;grind;have T:fy (lW D v c) i q:=by
  obtain h|⟨H,N,P,a5,i2,i3⟩:=a7;exact .inl h;refine .inr ⟨H,N,P,a5,?_,i3⟩;rw[Da λJ=>?_];exact i2;have:=a0 H J.1 J.2;rw[i2]at this;cases this
 apply Go.Proofs.Comes.O;rw[Frame.B (o:=ET[3]) rfl];apply ar.I j rfl rfl (base_kind _) (λw=>aZ) (λw=>aZ);walk_nrm;exact ar.B (λw=>cE) (ar.B (λw=>pI) (ar.B (λw=>DO rfl rfl func46 (v:=j) (by simp[results]) (by simp[results])) (.O ⟨_,c,q,i,j,m2,h.3 _ _ _ _ p.2.2.2.2 C,dI p.2.2.1<|yv C,T,λk n g h=>dI p.2.2.1<|a9 k n g h,a8.B b1,rfl,rfl,rfl⟩)))
end
section
variable{P:bj}{F:bw->Bool}{fr:az}{W:ag}
def EP(n:Nat)(W:ag):World:={W with heap:=W.1.mapIdx λa o=>if a<n then lj else o}
def GU(n:Nat)(W:ag):aG:=⟨some (λ_=>none,EP n W),λ_=>none,λb=>W.1[b]?⟩
theorem TG(h:a<=b):lA a<|EP a b:=by
 intro c d;have e:c<b.1.size:=aa;simp[EP,rE e,d]
theorem acU(d:P.globals.size<=W):(GU P.globals W).Fits P F W:=by
 refine⟨λf v c=>?_,λb o a=>(by cases a),λb o a=>a,λf v c e b f=>?_,λb o a=>(by cases a)⟩;obtain⟨rfl,rfl⟩:=c;exact⟨af,⟨TG d,d⟩,af,λe a b h=>na h⟩;obtain⟨rfl,rfl⟩:=c;grind
theorem Fm.U(b:P.globals.size<=W.1.size):Fm P F (GU P.globals.size W) #[G fr []] W #[] (λ_=>0) where
 pos:=af
 old:=λi g a c=>by
  have:=(fU.1 c).1;simp at this;omega
 XW:=λop a=>na a
 fits:=acU b
 clean:=λsaid=>Go.ConcN.noRace_nil said
 own:=λd b=>by
  obtain b|⟨f,v,e,f,e⟩:=b;exact absurd rfl b;obtain⟨rfl,rfl⟩:=f;simp at e
 read:=λd _ j x b _=>by simp[touchAt,Rq]at b
 NJ:=λj x b=>by simp[touchAt,Rq]at b
 low:=λop a=>na a
 norel:=λop a=>na a
 over:=λi g c=>by simp[Trace.g?]at c
 d0:=rfl
theorem XT{Q:aG->az->List az->Prop}(j:P.globals.size<=W)(h:Comes P F (GU P.globals W) fr [] Q)
  (i:∀a e c,Q a e c->∀w1,a.Fits P F w1->w1.2=W.2->w1.4=W.4->w1.5=W.5->∃v d,stepG P true (G e c) w1=.ended (.done v) w1 d∧(∀g∈d,lB a g)∧R v w1):
  ∃M last o b f,runNT P (M+1) (solo (G fr []) W) #[]=(.ended o b,f)∧runN P M (solo (G fr []) W)=.next last∧step P last=.ended o b∧Go.Conc.Good P R last o b f:=
 h.m (sl:=none) i (.U j) rfl
end
end
section
section
open Go.Conc
section
variable{P:bj}{F:bw->Bool}{Q:aG->az->List az->Prop}{f g:Ren}{v:ag}{e s:Nat->Option bI}{b:az}{a0 a:bK}{k k1:List Item}{cs:List az}{ops:Array bG}
def aY(P:bj)(F:bw->Bool)(Q:aG->az->List az->Prop)(f:Ren)(v:ag)(e s:Nat->Option bI)(b:az)(a0:bK)(k:List Item)(cs:List az):Prop:=
 ∀g a,f.O g->RelA F g a0.1 a.1->a.2=a0.2->Go.Proofs.Comes P F ⟨some (g,v),e,s⟩ (b.at a k) cs Q
theorem Comes.V(h:∀w,stepG P true (G g8 cs) w=.go (G x d1) w)(a:Go.Proofs.Comes P F X x d1 Q):Go.Proofs.Comes P F X g8 cs Q:=
 (Go.Proofs.Comes.O (Q:=λc b a=>c=X∧b=x∧a=d1)<|.B h<|.O ⟨rfl,rfl,rfl⟩).B (by grind)
theorem XB{w:ag}T(h:(⟨some (g,v),e,s⟩:aG).Fits P F w):(⟨some (g,aN v T),e,s⟩:aG).Fits P F w:=
 ⟨λd f c=>by cases c;exact(h.1 g v rfl).Y T,h.e,h.s,λd f c a b d=>by cases c;exact h.4 g v rfl a b d,h.5⟩
theorem Comes.T T(h:Go.Proofs.Comes P F ⟨some (g,aN v T),e,s⟩ x cs Q):Go.Proofs.Comes P F ⟨some (g,v),e,s⟩ x cs Q:=
 Go.Proofs.Comes.I λw d=>⟨_,XB T d,λb c=>c.imp id λ⟨f,k,a,j,i⟩=>by simp_all,λb c=>.inr c,h⟩
theorem aY.O(T:Nat->jq->Nat)(h:aY P F Q f (aN v T) e s b a0 k cs):aY P F Q f v e s b a0 k cs:=λg a c d i=>(h g a c d i).T T
theorem aY.I(h:∀a w,stepG P true (G (b.at a k) cs) w=.go (G (b.at a k1) cs) w)(j:aY P F Q f v e s b a0 k1 cs):aY P F Q f v e s b a0 k cs:=
 λg a c d i=>Comes.V (h a)<|j g a c d i
theorem CL(c:RelA F g a0.1 a.1):sr F g a0.eval a.eval:=by
 intro x b;cases x with
 |tmp t=>exact c.Y t .O
 |const v=>exact CB b g
 |global g=>simp[fF]at b
 |func g=>exact .fn b .nil .nil
theorem aY.cW{t:Nat}(l:a0.eval (.tmp t)=.bool K)(j:aY P F Q f v e s b a0 (.code (if K then f7 else g7)::k) cs):aY P F Q f v e s b a0 (.code (.cond (.tmp t) f7 g7)::k) cs:=by
 intro g a h d i;have c:=CL d (.tmp t) rfl;rw[l]at c;have l:a.eval (.tmp t)=.bool K:=by
  generalize a.eval (.tmp t)=y at c;cases c;rfl
 exact Comes.V (λw=>zE l)<|j g a h d i
variable{a8:Option Tmp}
theorem CM(b:RelA F g a0.1 a.1){u c:aq}(d:av F g u c):RelA F g (a0.put a8 u).1 (a.put a8 c).1:=by
 cases a8 with
 |none=>exact b
 |some a8=>exact b.Z a8 d
theorem CN(c:RelA F g a0.1 a.1)(o:bG):cV o (yielded ops a.1)=cV o (yielded ops a0.1):=by
 have h:∀j,yielded ops a.1 j=yielded ops a0.1 j:=by
  intro j;unfold yielded;cases(ops[j]?).bind (·.1)with
  |none=>rfl
  |some d=>
   simp[Option.bind_some];cases b:a0.1[d]? with
   |none=>rw[c.V d b]
   |some x=>
    obtain⟨e,e,f⟩:=c.O d x b;rw[e];cases f<;>rfl
 unfold cV;grind
def tL(w:ag)(T:Nat->jq->Nat):Prop:=∀j,j<w.3->T j=w.2 j
theorem aY.op(Z:Held P F){m:Nat}{o:bG}(O:ops[m]?=some o)(b2:cV o (yielded ops a0.1)=true)(L:b.6≠ .early)(a9:lh P F o=true){Y:aq->ag->Prop}
  (M:∀T,tL v T->∃n u c,(execOp a0.eval o).run P (aN v T)=.ok n c∧(n=.value u∨(n=.skip∧u=aj))∧Y u c)
  (b1:∀u c,(∀T,tL c T->Y u (aN c T))->aY P F Q f c e s b (a0.put o.1 u) (.inRegion ops a6::k) cs):aY P F Q f v e s b a0 (.inRegion ops (m::a6)::k) cs:=by
 intro g a a2 z a3;have S:cV o _=true:=aw (CN z) b2;refine(Go.Proofs.Comes.O (Q:=λb9 fr cs=>Go.Proofs.Comes P F b9 fr cs Q) ?_).B af;refine .U λw K=>?_;have t:=K.1 g v rfl
 let r:Nat->jq->Nat:=λj=>if j<v.3 then v.2 j else w.2 (w.3+(j- v.3))
 have I:tL v r:=λj d=>if_pos d
 have hrel:dB P F _ g (aN v r) w:=⟨t.1,t.2,t.3,t.4,λm q=>by
  show r (v.3+m) q=_
  grind⟩
 have X:=ak.iA Z.1 a9 (CL z) λ_=>rfl;let⟨n,u,c,a1,D,c1⟩:=M _ I;generalize A:(execOp a0.eval o).runT P (aN v r) #[]=q;have b0:q.1=.ok n c:=by rw[<-A,vy,a1]
 obtain⟨q,c2⟩:=q;subst b0;let⟨i,B,w1,c7,aK,i2,i3,U,c6⟩:=X.1 _ w _ #[] hrel n _ _ A;let⟨b5,V,b6⟩:=(X.2 _ w _ hrel).2 n _ _ A;have J:∀x∈(execOp a.eval o).events P w #[],kP i x:=iq
 have R:(execOp a.eval o).run P w=.ok B w1:=iq
 have b4:∃p,(B=.value p∨(B=.skip∧p=aj))∧av F i u p:=by
  rcases D with rfl|⟨rfl,rfl⟩;cases U with
  |value c3=>grind
  cases U with
  |skip=>exact⟨_,af,.O⟩
 obtain⟨p,k1,b3⟩:=b4;have a8:∀T,tL c T->Y u (aN c T):=by
  intro T H;have a7:tL v T:=λj d=>by
   have a4:=H j (kJ d b5);rw[a4,V];exact I j d
  obtain⟨b7,ax,y,W,h,b8⟩:=M T a7;have:=b6 T λj _ d=>by rw[H j d,V]
  have a5:(execOp a0.eval o).run P (aN v T)=.ok n (aN c T):=by rw[<-vy P _ _ #[]];exact congrArg bD this
  rw[a5]at W;obtain⟨rfl,rfl⟩:n=b7∧aN c T=y:=aV W;have:u=ax:=by
   rcases D with rfl|⟨rfl,rfl⟩<;>rcases h with h|⟨h,rfl⟩
   exact Next.value.inj h;cases h;cases h;rfl
  rw[this];exact b8
 have c4:vM P true F g (b.at a (.inRegion ops (m::a6)::k)) cs w λG y E C=>G=i∧y=c∧E=b.at (a.put o.1 p) (.inRegion ops a6::k)∧C=cs:=by
  rcases k1 with rfl|⟨rfl,rfl⟩;exact⟨_,cs,w1,_,i,c,DI O S L R,.B i2,i3,λx l=>J x (uR l),rfl,rfl,rfl,rfl⟩;exact⟨_,cs,w1,_,i,c,stepG_none O S L R,.B i2,i3,λx l=>J x (uR l),rfl,rfl,rfl,rfl⟩
 refine nH.B K aa λG y E C N l=>?_;obtain⟨rfl,rfl,rfl,rfl⟩:=l;refine .O (b1 u _ a8 _ _ (Ren.B a2 N) (CM (z.B N) b3) ?_);cases o.1<;>exact a3
theorem aY.U{i:Nat}{o:bG}(j:ops[i]?=some o)(m:cV o (yielded ops a0.1)=false)(l:aY P F Q f v e s b (a0.put o.1 aj) (.inRegion ops a6::k) cs):aY P F Q f v e s b a0 (.inRegion ops (i::a6)::k) cs:=by
 intro g a d c h;have i:cV o _=false:=aw (CN c) m;refine Comes.V (λw=>stepG_unwanted j i)<|l g _ d (CM c .O) ?_;cases o.1<;>exact h
def calm(o:bG):Bool:=
 match o.2 with
 | .call {callee:=.value _,..}| .call {callee:=.invoke ..,..}=>false
 | .call {callee:=.builtin b,..}=>(match b with| .append| .cap| .clear| .copy| .delete| .len| .max| .unsafeString| .unsafeSliceData=>true|_=>false)
 | .move _| .assign _| .pick .. | .box .. | .load .. | .store .. | .makeMap .. | .makeSlice .. | .slice .. | .indexAddr .. | .index .. | .entryStore .. | .next .. | .entry _| .extract .. | .makeFunc .. | .alloc _| .build .. | .buildSlice .. | .makeInterface .. | .field .. | .binOp .. | .unOp .. | .convert .. | .fieldAddr .. | .lookup .. | .mapUpdate .. | .insert .. | .mapEntry .. | .range .. =>true
 |_=>false
theorem aat{s:cm aq}{w w1:ag}(h:(do cD (zS<|<-s):cm qf).run P w=.ok b3 w1):∃u,b3=.value u:=by
 rw[run_bind]at h;cases a:s.run P w with
 |ok x w2=>rw[a]at h;simp only[cD,HV]at h;grind
 |halt q w2=>grind
theorem aas{s:cm Unit}{w w1:ag}(h:(do s;cD tR:cm qf).run P w=.ok b3 w1):b3=.skip:=by
 rw[run_bind]at h;cases a:s.run P w with
 |ok x w2=>simp_all
 |halt q w2=>grind
theorem V2{o:bG}(a:calm o=true){w w1:ag}(h:(execOp e7 o).run P w=.ok b3 w1):∃u,b3=.value u∨(b3=.skip∧u=aj):=by
 have e:∀ {s:cm aq},(do cD (zS<|<-s):cm qf).run P w=.ok b3 w1->∃u,b3=.value u∨(b3=.skip∧u=aj):=λh=>(aat h).imp λ_ h=>.inl h;have j:∀ {s:cm Unit},(do s;cD tR:cm qf).run P w=.ok b3 w1->∃u,b3=.value u∨(b3=.skip∧u=aj):=λh=>⟨_,.inr ⟨aas h,rfl⟩⟩;obtain⟨l,op,ty,pos,k,m⟩:=o;unfold calm at a;dsimp only at a;unfold execOp at h;dsimp only at h;cases op<;>first|(cases a;done)|exact e h|exact j h|skip
 ·simp only[cD,HV]at h;grind
 ·simp only[cD,HV]at h;grind
 ·rename_i c x y;dsimp only at h;rw[run_bind]at h;cases d:(asBool<|e7 c).run P w with
  |ok t w2=>rw[d]at h;simp only[cD,HV,Result.ok.injEq]at h;exact⟨_,.inl h.1.symm⟩
  |halt q w2=>rw[d]at h;cases h
 ·rename_i c;obtain⟨g,b,f⟩:=c;cases g with
  |value x=>cases a
  |invoke x y=>cases a
  |builtin bi=>
   have i:(Go.builtin bi f ty (b.map λ| .const _=>true|_=>false)<|b.map e7).run P w=.ok b3 w1:=h;cases bi<;>first|(cases a;done)|exact e i
theorem aY.V(H:Held P F)(m:b.6≠ .early){X:bK->ag->Prop}(n:∀a1 d,(∀T,tL d T->X a1 (aN d T))->aY P F Q f d e s b a1 (.inRegion ops a6::k) cs):
  ∀l(a0:bK)v,(∀i∈l,∃o,ops[i]?=some o∧lh P F o=true∧calm o=true)->(∀T,tL v T->wpOps P ops (λe a w=>e=.normal∧X a w) l a0 (aN v T))->aY P F Q f v e s b a0 (.inRegion ops (l++a6)::k) cs
 | [],a0,v,_,h=>n a0 v λT j=>(h T j).2
 |i::l,a0,v,c,h=>by
  obtain⟨o,g,q,r⟩:=c i<|jM ..;have p:∀i∈l,∃o,ops[i]?=some o∧lh P F o=true∧calm o=true:=aJ;simp[wpOps,g]at h;cases c:cV o (yielded ops a0.1)with
  |false=>
   simp only[c,tH]at h;exact .U g c<|aY.V H m n l _ v p h
  |true=>
   simp only[c]at h;refine .op H g c m q (Y:=λu w=>wpOps P _ _ l _ w) (λT j=>?_) λu d c=>aY.V H m n l _ _ p c;obtain c|⟨_,a,w,d,_⟩:=h T j;unfold jO at c;cases g:(execOp a0.eval o).run P (aN v T)with
   |ok n w1=>
    rw[g]at c;obtain⟨u,d⟩:=V2 r g;refine⟨n,u,w1,rfl,d,?_⟩;rcases d with rfl|⟨rfl,rfl⟩<;>exact c
   |halt q w1=>
    rw[g]at c;cases q<;>first|exact c.elim|(cases c.1)
   cases d
theorem PS{Qx:kh->bK->ag->Prop}:∀(l:List bG)(i),(∀j,j<l.length->l[j]?=ops[i+j]?)->wpOps P ops Qx (Rs i l)=wpList P ops Qx l
 | [],_,_=>by simp[wpOps,wpList]
 |o::l,i,h=>by
  have a:=by simpa using(h 0 af).symm
  have c:=PS (Qx:=Qx) l (i+1) λj b=>by have:=h (j+1)<|aV b;grind
  simp[List.range'_succ,wpOps,a,wpList,c]
theorem aY.bN(H:Held P F)(g:b.6≠ .early)(l:List bG)(i)(d:List Nat){X:bK->ag->Prop}(m:∀j,j<l.length->l[j]?=ops[i+j]?)(c:l.all (λo=>lh P F o&&calm o)=true)
  (h:∀T,wpList P ops (λe a w=>e=.normal∧X a w) l a0<|aN v T)(n:∀a1 c T,c.2=v.2->X a1 (aN c T)->aY P F Q f c e s b a1 (.inRegion ops d::k) cs):
  aY P F Q f v e s b a0 (.inRegion ops (Rs i l++d)::k) cs:=by
 refine aY.V H g (X:=X) (λa1 c d=>?_) _ _ v (λj g=>?_) λT _=>aw (PS l i m)<|h T;exact(n _ (aN c _) _ rfl<|d _ λ_ _=>rfl).O _;simp[List.mem_range'_1]at g;obtain⟨c,rfl⟩:∃c,j=i+c:=⟨j- i,aa⟩;grind
theorem aY.Z(H:Held P F){l:Nat}{o:bG}(p:ops[l]?=some o)(r:cV o (yielded ops a0.1)=true)(A:b.6≠ .early)(q:o.2=.call {callee:=.value (.func u),args:=e1,argTypes:=g2})
  (m:P.funcs[u]?=some S)(B:(S.1== "runtime.NumGoroutine")=false)(h:S.9.isNone=false)(hF:F u=true)(y:e1.all (fF F)=true){args:Array aq}(n:e1.map a0.eval=args){Post:ag->aq->ag->Prop}
  (z:∀T,Al P u args (aN v T) λe j=>∃c,e=.returned c∧Post (aN v T) c j)(C:∀T d c i,i.2=v.2->Post (aN v T) c (aN i d)->aY P F Q f i e s b (a0.put o.1 c) (.inRegion ops a6::k) cs):
  aY P F Q f v e s b a0 (.inRegion ops (l::a6)::k) cs:=by
 subst n;intro g a t l x;have D:cV o _=true:=aw (CN l) r;refine Go.Proofs.Comes.I λw n=>⟨_,n,af,λ_ r=>.inr r,?_⟩;refine(Go.Proofs.Comes.O (Q:=λr fr cs=>Go.Proofs.Comes P F r fr cs Q) ?_).B af;refine .V (λw _=>⟨_,stepG_enter p D A (JX q m B h),λS r=>?_⟩) ?_;have:=uR r;rw[JY q m aa h _]at this;simp at this;refine ar.m H hF (yS (CL l) y) ⟨w,n.1 g v rfl⟩ (R:=λc j=>∃T d,Post _ c (aN _ d)) (λc j h ⟨T,d,h⟩=>⟨T,d,h⟩) (λT=>(z T).mono λe j ⟨c,m,h⟩=>⟨c,m,T,j.2,h⟩) ?_;rintro j c j i j m ⟨T,d,h⟩;rw[Frame.B p];refine .O (Comes.T _ (C T _ c (aN i _) rfl h _ _ (Ren.B t j) (CM (l.B j) m) ?_));cases o.1<;>exact x
def Goes(P:bj)(F:bw->Bool)(fn:bw)(b:Array aq)(f:Ren)(v:ag)(e s:Nat->Option bI)(h:aq->ag->Prop):Prop:=
 ∀g a c cs,f.O g->RelA F g b a->Go.Proofs.Comes P F ⟨some (g,v),e,s⟩ (ej P fn a .normal) (c::cs) λk j i=>∃a d u b,g.O a∧av F a u b∧h u d∧k=⟨some (a,d),e,s⟩∧j=c.finish b∧i=cs
theorem aY.Y{i:Nat}{o:bG}(m:ops[i]?=some o)(y:cV o (yielded ops a0.1)=true)(t:b.6≠ .early)(n:o.2=.call {callee:=.value<|.func u,args:=e1,argTypes:=g2})
  (l:P.funcs[u]?=some S)(w:(S.1== "runtime.NumGoroutine")=false)(j:S.9.isNone=false)(q:e1.all (fF F)=true)(h:e1.map a0.eval=J)
  (r:Goes P F u J f v e s R)(x:∀c d,R c d->aY P F Q f d e s b (a0.put o.1 c) (.inRegion ops a6::k) cs):
  aY P F Q f v e s b a0 (.inRegion ops (i::a6)::k) cs:=by
 subst h;intro g a h d p;have z:cV o _=true:=aw (CN d) y;refine(Go.Proofs.Comes.O (Q:=λy fr cs1=>y=⟨some (g,v),e,s⟩∧fr=ej P u (e1.map a.eval) .normal∧cs1=b.at a (.inRegion ops (i::a6)::k)::cs) ?_).B ?_;refine .V (λi _=>⟨_,stepG_enter m z t<|JX n l w j,λS i=>?_⟩)<|.O ⟨rfl,rfl,rfl⟩;have:=uR i;rw[JY n l aa j _]at this;simp at this;rintro _ _ _ ⟨rfl,rfl,rfl⟩;refine(r g _ _ _ h<|yS (CL d) q).B ?_;rintro _ _ _ ⟨i,i,c,i,i,j,l,rfl,rfl,rfl⟩;rw[Frame.B m];apply x c _ l _ _ (Ren.B h i) (CM (d.B i) j);cases o.1<;>exact p
theorem enter_at{c:eN}(d:P.funcs[u]?=some S)(b:S.9=some c)(a):ej P u a .normal=(base u).at ⟨a++ml (S.7- a) aj,[]⟩ [.code c]:=by
 unfold ej;rw[d];simp only[Option.map_some,Option.getD_some,Option.bind_some];rw[b];rfl
def I_(F:bw->Bool)(g:Ren)(e s:Nat->Option bI)(d:aq->ag->Prop)(f:az)(cs:List az)(j:aG)(i:az)(h:List az):Prop:=
 ∃a c u b,g.O a∧av F a u b∧d u c∧j=⟨some (a,c),e,s⟩∧i=f.finish b∧h=cs
theorem Goes.B{x:Jx}{c:eN}(i:P.funcs[u]?=some x)(d:x.9=some c)
  (h:∀g ax cs,f.O g->aY P F (I_ F g e s R ax cs) g v e s (base u) ⟨J++ml (x.7- J) aj,[]⟩ [.code c] (ax::cs)):Goes P F u J f v e s R:=by
 intro g a ax cs b a;rw[enter_at i d,<-a.T];refine h g _ _ b g _ (Ren.I _) (RelA.I a ?_) rfl;unfold RelA;exact bM.eT _ .O
theorem aY.B{fn:bw}{x:Jx}(K:P.funcs[fn]?=some x){c:az}{u:aq}(A:a0.2= [])(T:∀w,(results x a0.1).run P w=.ok u w)(I:R u v)(G:W.O f):
  aY P F (I_ F W e s R c cs) f v e s (base fn) a0 (.code .ret::k) (c::cs):=by
 intro g a t y z;apply Comes.V (λw=>pI);refine(Go.Proofs.Comes.O (Q:=λO fr cs1=>Go.Proofs.Comes P F O _ _ _) ?_).B λ_ _ _ h=>h;refine .U λw p=>?_;have E:=p.1 g v rfl;have j:∃n,(results x a0.1).runT P (aN v λl=>w.2 (w.3+(l- v.3))) #[]=(.ok u (aN v λl=>w.2 (w.3+(l- v.3))),n):=iq
 obtain⟨n,j⟩:=j;let⟨o,d,w1,r,q,i2,i3,M,N⟩:=(ak.EH (C:=cN P F) x y).1 _ w _ #[] E.O u _ _ j;have S:vM P true F g { (base fn).at a (.code .ret::k)with mode:=.returning} (c::cs) w λi m fr' cs'=>i=o∧m=v∧fr'=c.finish d∧cs'=cs:=by
  refine⟨c.finish d,cs,w1,seen P fn r++ #[],o,v,?_,(Fit.B i2).T,i3,?_,rfl,rfl,rfl,rfl⟩;have B:a.2= []:=z.trans A;have J:(results x a.1).run P w=.ok d w1:=by rw[<-vy P _ w #[],q]
  have D:(results x a.1).events P w #[]=r:=by unfold Sem.events;rw[q];simp
  simp[stepG,unwind,doReturn,Frame.at,base,B,K,J,D,GStep.after];intro e b;rcases mP.1 b with b|b;exact N e (GN _ _ _ _ b);simp at b
 refine nH.B p aa λi m fr' cs' H L=>?_;obtain⟨rfl,rfl,rfl,rfl⟩:=L;exact .O (Go.Proofs.Comes.U ⟨i,m,u,d,Ren.B G (Ren.B t H),M,I,rfl,rfl,rfl⟩)
end
end
abbrev ai:=Nat->Option bI
def ai.In(h:ai)(w:ag):Prop:=∀b o,h b=some o->w.1[b]?=some o
def ai.le(h k:ai):Prop:=∀b o,h b=some o->k b=some o
structure ai.Ext(n:Nat)(h k:ai):Prop where
 le:h.le k
 new:∀b o,k b=some o->h b=some o∨n<=b
theorem ai.V(h:ai):h.le h:=λ_ _ e=>e
theorem ai.le.B{a b c:ai}(h:a.le b)(k:b.le c):a.le c:=λx o e=>k x o<|h x o e
theorem ai.Ext.I(n)(h:ai):ai.Ext n h h:=⟨h.V,λ_ _ e=>.inl e⟩
theorem ai.Ext.B{n m:Nat}{a b c:ai}(h:ai.Ext n a b)(k:ai.Ext m b c)(b:n<=m):ai.Ext n a c:=
 ⟨h.1.B k.1,λx o e=>by
  obtain a|a:=k.2 x o e;exact h.2 x o a
  omega⟩
theorem ai.In.O{h:ai}{w:ag}(H:h.In w){b:Nat}(e:h b=some N):b<w:=(fU.1<|H b N e).1
structure ae(D:Nat->Prop)(w w':ag):Prop where
 os:w'.4=w.4
 tape:w'.2=w.2
 output:w'.5=w.5
 size:w.1.size<=w'.1.size
 block:∀k,k<w.1.size->¬D k->w'.1[k]?=w.1[k]?
theorem ae.T(D:Nat->Prop)(w:ag):ae D w w:=⟨rfl,rfl,rfl,cP _,λ_ _ _=>rfl⟩
theorem ae.B{D:Nat->Prop}{a b c:ag}(h:ae D a b)(k:ae D b c):ae D a c:=
 ⟨k.1.trans h.1,k.2.trans h.2,k.3.trans h.3,dI h.4 k.4,λi b a=>(k.5 i (kJ b h.4) a).trans<|h.5 i b a⟩
theorem ae.cW{D E:Nat->Prop}(h:ae D b l)(c:∀k,k<b.1.size->D k->E k):ae E b l:=
 ⟨h.1,h.2,h.3,h.4,λi a e=>h.5 i a λd=>e<|c i a d⟩
theorem ae.m(h:ae s b l):ae s b l.drew:=⟨h.1,h.2,h.3,h.4,h.5⟩
theorem ae.I{D:Nat->Prop}{a w:ag}(h:ae D a w)(o:bI):ae D a<|w.alloc o:=
 h.B ⟨rfl,rfl,rfl,af,λk a _=>lZ _ _ _ a⟩
theorem dK(h:d6:=by simp [intOf];omega):d6:=h
abbrev aH:=Al Tryz.prog
abbrev bE:Nat->Prop:=λ_=>False
abbrev au:=ae bE
theorem ae.al:ae bE b<|b.alloc N:=(ae.T bE b).I N
variable{t:ai->List aq->o->Prop}{a8:Option Tmp}{g0:Sort _}
theorem i2{b:g0->Sort _}:∀a,b a->¬False:=λ_ _=>id
theorem i3{b:g0->Sort _}{d:(a:g0)->b a->Sort _}:∀a(c:b a),d a c->¬False:=λ_ _ _=>id
theorem ae.U(h:ae s b l){p:bC}(a:b<=p.1∨s p.1)(u):ae s b<|l.setCell p u:=
 ⟨h.1,h.2,h.3,by simpa[Dl]using h.4,λk c a=>by
  rw[uT];exact h.5 k c a;grind⟩
theorem ae.iz{row:Option Nat}(h:ae s b l)(a:l.grownBy d3 row)(c:∀k,row=some k->b<=k∨s k):ae s b d3:=
 ⟨a.1.trans h.1,a.2.trans h.2,a.3.trans h.3,dI h.4 a.4,λk c d=>by
  rw[a.5 k<|kJ c h.4];exact h.5 k c d;grind⟩
theorem ae.below(h:au b l):xh b b l:=⟨h.1,h.2,h.3,h.4,λk a=>h.5 k a id⟩
theorem ae.eT(h:xh b b l):au b l:=⟨h.1,h.2,h.3,h.4,λk a _=>h.5 k a⟩
theorem ai.In.B{h:ai}{D:Nat->Prop}{w w':ag}(H:h.In w)(c:ae D w w')(a:∀b o,h b=some o->¬D b):h.In w':=
 λb o e=>(c.5 b (H.O e)<|a b o e).trans<|H b o e
def ai.row(h:ai)(sz:Nat)(v:aq)(n:Nat)(cs:List aq):Prop:=
 cs=n*sz∧((v=.slice none 0 0∧n=0)∨∃g o b a e c,v=.slice (some ⟨g,o,none⟩) n b∧h g=some (.cells a e c)∧∀k,k<n*sz->a[o+k]?=cs[k]?)
theorem ai.row.B{h k:ai}{v:aq}{cs:List aq}(H:h.row a v f cs)(e:h.le k):k.row a v f cs:=by
 refine⟨H.1,H.2.imp id ?_⟩;rintro⟨i,o,b,c,d,g,j,l,m⟩;exact⟨i,o,b,c,d,g,j,e _ _ l,m⟩
def ai.list(h:ai)(sz:Nat)(R:ai->List aq->o->Prop)(v:aq)(b:List o):Prop:=
 ∃a:List (List aq),a=b.length∧(∀c∈a,c=sz)∧(∀(i:Nat) c x,a[i]?=some c->b[i]?=some x->R h c x)∧h.row sz v b a.flatten
theorem ai.list.B{h k:ai}{v:aq}(j:∀c x,t h c x->t k c x)(H:h.list a t v p)(e:h.le k):k.list a t v p:=by
 obtain⟨b,d,f,g,i⟩:=H;exact⟨b,d,f,λf c x b d=>j _ _<|g f c x b d,i.B e⟩
theorem BH{b:List (List aq)}(h:∀L∈b,L=a)(i j)(c:j<a)(c:b[i]?=some L):b.flatten[i*a+j]?=L[j]? :=by
 induction b generalizing i with
 |nil=>grind
 |cons d b b=>
  have b:d.length=a:=aJ;cases i with
  |zero=>
   grind
  |succ i=>
   grind
theorem ai.list.U{l:Type}{h:ai}{sz:Nat}{R:ai->List Value->l->Prop}{v:Value}{a:List l}(H:h.list sz R v a){w:World}(z:h.In w):
  ∃e b,v=.slice e a b∧∀(i) x,a[i]?=some x->∃g o c,e=some ⟨g,o,none⟩∧c.length=sz∧R h c x∧∀j,j<sz->w.cell? ⟨g,o+(i*sz+j),none⟩=c[j]? :=by
 obtain⟨m,D,f,n,E,p⟩:=H;obtain⟨rfl,F⟩|⟨g,o,b,A,B,C,rfl,s,r⟩:=p;simp_all;refine⟨_,b,rfl,λi x k=>?_⟩;have t:=(List.getElem?_eq_some_iff.1 k).1;let⟨c,d⟩:∃c,m[i]?=some c:=⟨_,List.getElem?_eq_getElem aa⟩;have q:=f c<|List.mem_of_getElem? d;refine⟨g,o,c,rfl,q,n i c x d k,λj u=>?_⟩;have y:i*sz+j<a.length*sz:=by
  have:(i+1)*sz<=a.length*sz:=Nat.mul_le_mul_right _ t;rw[Nat.succ_mul]at this;omega
 unfold World.cell?;rw[z g _ s];simp[Bool.false_eq_true];rw[r _ y,BH f i j u d]
theorem ai.list.O{h:ai}(H:h.list a t (.slice y f j) p){w:ag}(d:h.In w):
 f=p∧∀i x,p[i]?=some x->∃g c cc,y=some ⟨g,c,fL⟩∧cc.length=a∧t h cc x∧∀b,b<a->w.cell? ⟨g,c+(i*a+b),fL⟩=cc[b]? :=by
 obtain⟨b,b,b,b⟩:=H.U d;grind
theorem kH(h:b.1[a]?=some (.cells J k)):b.frozen? ⟨a,f,none⟩=false:=by
 simp[World.frozen?,h]
theorem fQ{a o:Nat}(h:b.1[a]?=some (.cells J k d9))(v):(b.setCell ⟨a,o,none⟩ v).1[a]?=some (.cells (J.setIfInBounds o v) k d9):=by
 simp[Dl,Ic,h]
theorem bJ(h:b.1[a]?=some (.cells #[e,n] k)):b.cell? ⟨a,0,none⟩=some e∧b.cell? ⟨a,1,none⟩=some n∧b.frozen? ⟨a,0,none⟩=false∧b.frozen? ⟨a,1,none⟩=false:=
 ⟨(cI b a 0 _ k (0,0) h).trans rfl,(cI b a 1 _ k (0,0) h).trans rfl,kH h,kH h⟩
theorem bq{w:ag}(h:w.1[a]?=some (.cells #[e,n,v] k)):w.cell? ⟨a,0,none⟩=some e∧w.cell? ⟨a,1,none⟩=some n∧w.cell? ⟨a,2,none⟩=some v∧w.frozen? ⟨a,0,none⟩=false∧w.frozen? ⟨a,1,none⟩=false∧w.frozen? ⟨a,2,none⟩=false:=
 ⟨(cI w a 0 _ k (0,0) h).trans rfl,(cI w a 1 _ k (0,0) h).trans rfl,(cI w a 2 _ k (0,0) h).trans rfl,kH h,kH h,kH h⟩
theorem Gl(h:b.1[a]?=some (.cells #[e,n,v,Q] k)):b.cell? ⟨a,0,none⟩=some e∧b.cell? ⟨a,1,none⟩=some n∧b.cell? ⟨a,2,none⟩=some v∧b.cell? ⟨a,3,none⟩=some Q:=⟨(cI b a 0 _ k (0,0) h).trans rfl,(cI b a 1 _ k (0,0) h).trans rfl,(cI b a 2 _ k (0,0) h).trans rfl,(cI b a 3 _ k (0,0) h).trans rfl⟩
theorem yM(h:b.1[a]?=some (.cells #[e,n,v,Q,a7] k)):b.cell? ⟨a,0,none⟩=some e∧b.cell? ⟨a,1,none⟩=some n∧b.cell? ⟨a,2,none⟩=some v∧b.cell? ⟨a,3,none⟩=some Q∧b.cell? ⟨a,4,none⟩=some a7:=⟨(cI b a 0 _ k (0,0) h).trans rfl,(cI b a 1 _ k (0,0) h).trans rfl,(cI b a 2 _ k (0,0) h).trans rfl,(cI b a 3 _ k (0,0) h).trans rfl,(cI b a 4 _ k (0,0) h).trans rfl⟩
theorem uw(h:b.1[a]?=some (.cells #[e,n,v,Q,a7,d4,e5,e6] k)):b.cell? ⟨a,0,none⟩=some e∧b.cell? ⟨a,1,none⟩=some n∧b.cell? ⟨a,2,none⟩=some v∧b.cell? ⟨a,3,none⟩=some Q∧b.cell? ⟨a,4,none⟩=some a7∧b.cell? ⟨a,5,none⟩=some d4∧b.cell? ⟨a,6,none⟩=some e5∧b.cell? ⟨a,7,none⟩=some e6:=⟨(cI b a 0 _ k (0,0) h).trans rfl,(cI b a 1 _ k (0,0) h).trans rfl,(cI b a 2 _ k (0,0) h).trans rfl,(cI b a 3 _ k (0,0) h).trans rfl,(cI b a 4 _ k (0,0) h).trans rfl,(cI b a 5 _ k (0,0) h).trans rfl,(cI b a 6 _ k (0,0) h).trans rfl,(cI b a 7 _ k (0,0) h).trans rfl⟩
theorem ae.O{w w':ag}(h:ae s w w'){b:Nat}(a:w.1[b]?=some N)(c: ¬s b):w'.1[b]?=some N:=(h.5 b (fU.1 a).1 c).trans a
theorem ae.dY(h:ae s (b.alloc N) l)(a: ¬s b):l.1[b.1.size]?=some N:=h.O (cz b N) a
theorem ae.V{D E:Nat->Prop}(h:ae D b l)(k:ae E l d3)(d:∀x,E x->b<=x∨D x):ae D b d3:=
 ⟨k.1.trans h.1,k.2.trans h.2,k.3.trans h.3,dI h.4 k.4,λi c a=>(k.5 i (kJ c h.4) λe=>(d i e).elim (λd=>aa) a).trans<|h.5 i c a⟩
theorem df(w:ag)(o:bI):∃W,W=w.alloc o∧au w W∧W.1[w.1.size]?=some o∧W=w.1.size+1:=⟨_,rfl,ae.al,cz _ _,af⟩
theorem nc(w:ag)(o p:bI):∃W,W=(w.alloc o).alloc p∧au w W∧W.1[w.1.size]?=some o∧W.1[w.1.size+1]?=some p∧W=w.1.size+2:=
 ⟨_,rfl,ae.al.I _,(lZ (w.alloc o) p _ af).trans<|cz w o,by have:=cz (w.alloc o) p;simp_all,af⟩
theorem xQ(w:ag)(o p q:bI):∃W,W=((w.alloc o).alloc p).alloc q∧au w W∧W.1[w.1.size]?=some o∧W.1[w.1.size+1]?=some p∧W.1[w.1.size+2]?=some q∧W=w.1.size+3:=by
 obtain⟨W,e,a,b,c,d⟩:=nc w o p;rw[<-e];exact⟨_,rfl,a.I _,(lZ W q _ aa).trans b,(lZ W q _ aa).trans c,jy d<|cz W q,bQ⟩
theorem ae.ft(h:ae s b.drew l):ae s b l:=(ae.T s b).m.B h
theorem ae.ac(h:ae s b l)(k:au l d3):ae s b d3:=h.V k λ_ h=>h.elim
theorem ae.Z{D:Nat->Prop}(h:au b l):ae D b l:=h.cW λ_ _ h=>h.elim
section
open Go.Shelf
theorem lay(h:d6:=by constructor<;>first|kernel_rfl|(intro w;kernel_rfl)|(intro w;rfl)|decide|(constructor<;>first|kernel_rfl|(intro w;kernel_rfl)|(intro w;rfl))):d6:=h
def Tryz.ae5:mf:=⟨λ|213=>200|265=>254|n=>n,λ|9=>9|3=>3|n=>n,λ|n=>n⟩
def Tryz.YU:mf:=⟨λ|106=>148|213=>200|265=>254|n=>n,λ|9=>9|3=>3|n=>n,λ|n=>n⟩
theorem Tryz.YT:aeH Tryz.prog Tryz.YU:=lay
open Go.RowKit in
theorem Tryz.strings_Compare(a b:ByteArray)(w:ag):
  aH 148 #[a,b] w λe c=>e=.returned (.int .i64<|Lib.compareBytes a.1.1 b.1.1)∧c=w:=Any.strings_Compare Tryz.YT a b w
def Tryz.ae6:mf:=⟨λ|219=>298|217=>300|225=>301|224=>302|267=>303|266=>304|314=>305|n=>n,λ|9=>9|3=>3|4=>4|5=>5|46=>262|146=>425|51=>270|n=>n,λ|1=>0|n=>n⟩
def Tryz.Y_:mf:=⟨λ|144=>274|143=>294|219=>298|217=>300|225=>301|224=>302|267=>303|266=>304|314=>305|n=>n,λ|9=>9|4=>4|3=>3|5=>5|46=>262|146=>425|51=>270|n=>n,λ|1=>0|n=>n⟩
theorem Tryz.YZ:aeI Tryz.prog Tryz.Y_:=lay
open Go.RowKit Go.Lib in
theorem Tryz.strings_Contains_one(s:ByteArray)(c:UInt8)(w:ag):
  aH 274 #[s,.string ⟨#[c]⟩] w λe a=>e=.returned (.bool (decide<|0<=Ru s.1.1 c))∧a=w:=Any.strings_Contains_one Tryz.YZ s c w
def Tryz.Y3:mf:=⟨λ|264=>382|n=>n,λ|53=>110|46=>262|n=>n,λ|n=>n⟩
theorem Tryz.Y2:aeJ Tryz.prog Tryz.Y3:=lay
open Go.RowKit Go.Lib in
theorem Tryz.bits_Mul64(x y:Nat)(a:x<18446744073709551616)(b:y<18446744073709551616)(w:ag):
  aH 382 #[.int .u64 x,.int .u64 y] w λe c=>e=.returned (.tuple #[.int .u64 ((x*y/18446744073709551616:Nat):Int),.int .u64 ((x*y % 18446744073709551616:Nat):Int)])∧c=w:=Any.bits_Mul64 Tryz.Y2 x y a b w
end
theorem ny(h:f5=g4):Rv (.int .i64 f5)=.returned (.int .i64 g4):=fN h
theorem iT(h:K=b5):Rv K=.returned b5:=fN h
def FR(b:UInt8):Bool:=decide (97<=b.toNat)&&decide (b.toNat<=122)
def pR(b:UInt8):Bool:=decide (65<=b.toNat)&&decide (b.toNat<=90)
def yy(b:UInt8):Bool:=decide (48<=b.toNat)&&decide (b.toNat<=57)
def jD(b:UInt8):Bool:=FR b||pR b||yy b||decide (b.toNat=95)
theorem Ur(b:UInt8)(w:ag):aH 271 #[.int .u8 b.toNat] w λe a=>e=.returned (.bool<|FR b)∧w=a:=by
 by_cases a:(97:Int)<=b.toNat<;>by_cases a:(b.toNat:Int)<=122;all_goals
  go_enter func271,ntmps271;go_wp2;go_ret;exact⟨iT (by unfold FR;simp;omega),rfl⟩
theorem EW(b:UInt8)(w:ag):aH 272 #[.int .u8 b.toNat] w λe a=>e=.returned (.bool<|pR b)∧w=a:=by
 by_cases a:(65:Int)<=b.toNat<;>by_cases a:(b.toNat:Int)<=90;all_goals
  go_enter func272,ntmps272;go_wp2;go_ret;exact⟨iT (by unfold pR;simp;omega),rfl⟩
theorem LD(b:UInt8)(w:ag):aH 273 #[.int .u8 b.toNat] w λe a=>e=.returned (.bool<|yy b)∧w=a:=by
 by_cases a:(48:Int)<=b.toNat<;>by_cases a:(b.toNat:Int)<=57;all_goals
  go_enter func273,ntmps273;go_wp2;go_ret;exact⟨iT (by unfold yy;simp;omega),rfl⟩
def Eh(p:UInt8->Bool)(s:ByteArray)(k:Nat):Prop:=k<=s.size∧(∀j h,j<k->p s[j]=true)∧∀h,p s[k]=false
theorem Mz{p:UInt8->Bool} h(b:p c[a]=true)(b:∀j h,j<a->p c[j]=true):∀j h,j<a+1->p c[j]=true:=by
 grind
theorem Lz(s:ByteArray)(w:ag)(f:s.size<=maxLen):aH 224 #[s] w λe a=>∃k:Nat,e=.returned (.int .i64 k)∧w=a∧Eh jD s k:=by
 unfold maxLen at f;go_enter func224,ntmps224;go_wp2
 go_loop [7,3,4] (λi _ _=>∃k:Nat,k<=s.size∧i=.int .i64 k∧∀j (h:j<s.size),j<k->jD s[j]=true) (λi _ _=>s.size-(intOf i).toNat)
 grind
 case round=>
  obtain⟨k,c,rfl,b⟩:=hrel;by_cases d:k<s.size
  ·have H:ay _:=b;go_wp2_with (first|(go_at_call 271;refine(Ur _ _).mono ?_;rintro e a ⟨rfl,rfl⟩)|(go_at_call 272;refine(EW _ _).mono ?_;rintro e a ⟨rfl,rfl⟩)|(go_at_call 273;refine(LD _ _).mono ?_;rintro e a ⟨rfl,rfl⟩))
   all_goals first
    |(go_round
      case rel=>exact⟨k+1,aa,ba,Mz d (by unfold jD;simp_all;try omega) H.out⟩
      case measure=>simp[intOf];omega)
    |(go_ret;exact⟨k,rfl,rfl,c,H.out,λh=>by unfold jD;simp_all;try omega⟩)
  ·go_wp2;go_ret;exact⟨_,rfl,rfl,aa,λj h _=>b j h aa,aa⟩
def aS(s:ByteArray):List UInt8:=s.1.1
theorem mz(s:ByteArray):(aS s)=s.size:=by simp[aS]
theorem Bp(s:ByteArray)(k)(h:k<s.size):(aS s)[k]?=some s[k]:=by
 unfold aS;rw[ByteArray.getElem_eq_getElem_data,xb,rE _]
theorem xR(s:ByteArray)(k)(h:k<s.size):(aS s).drop k=s[k]::(aS s).drop (k+1):=by
 have a:k<(aS s).length:=aw mz h;rw[zJ a];have:=Bp s k h;grind
theorem Lh(s:ByteArray)(k)(h: ¬k<s.size):(aS s).drop k= []:=xj<|dT mz
def wb(s:ByteArray):Bool:=(aS s).any pR
theorem XZ h(b:pR c[a]=true):true=wb c:=by
 exact(rF.2 ⟨_,cA<|Bp c a h,b⟩).symm
theorem XY(b: ¬a<c.size)(b:∀j h,j<a->(!pR c[j])=true):false=wb c:=by
 unfold wb
 symm
 rw[List.any_eq_false];intro b b;obtain⟨j,d,rfl⟩:=ly b;have b:j<c.size:=jy mz d;have d:=Bp c j b;grind
theorem Ut(s:ByteArray)(w:ag)(f:s.size<=maxLen):aH 275 #[s] w λe b=>e=.returned (.bool<|wb s)∧w=b:=by
 unfold maxLen at f;go_enter func275,ntmps275;go_wp2
 go_loop [6,3] (λi _=>∃k:Nat,k<=s.size∧i=.int .i64 k∧∀j (h:j<s.size),j<k->(!pR s[j])=true) (λi _=>s.size-(intOf i).toNat)
 case atStart=>exact⟨0,aa,rfl,aa⟩
 case round=>
  obtain⟨k,g,rfl,d⟩:=hrel;have H:ay _:=d;by_cases a:k<s.size
  ·go_wp2_with (go_at_call 272;refine(EW _ _).mono ?_;rintro e b ⟨rfl,rfl⟩)
   all_goals first
    |(go_round
      case rel=>exact⟨k+1,aa,ba,Mz (p:=λc=> !pR c) a (by simp_all) H.out⟩
      case measure=>simp[intOf];omega)
    |(go_ret;exact⟨iT<|XZ a (by assumption),rfl⟩)
  ·go_wp2;go_ret;exact⟨iT<|XY a H.out,rfl⟩
def sO(t s:ByteArray):Bool:=(aS t).isPrefixOf (aS s)
theorem Yd(_h:c.size<=e2.size):((e2.extract 0 c.size).toList==c.toList)=sO c e2:=by
 have a:(e2.extract 0 c.size).toList=(aS e2).take c.size:=by
  rw[D1];simp[aS]
 have b:c.toList=aS c:=dh D1;rw[a,b];unfold sO;rw[Bool.eq_iff_iff,Ie,beq_iff_eq,Rw,mz];grind
theorem Yc(h: ¬e2.size<=c.size):false=sO e2 c:=by
 symm
 rw[Bool.eq_false_iff];intro a;have:=(Ie.1 a).length_le;rw[mz,mz]at this;omega
theorem Uv(s t:ByteArray)(w:ag)(_hs:s.size<=maxLen)(_ht:t.size<=maxLen):aH 286 #[s,t] w λe a=>e=.returned (.bool<|sO t s)∧w=a:=by
 by_cases a:t.size<=s.size
 ·go_enter func286,ntmps286;go_wp2;go_ret;exact⟨iT<|Yd a,rfl⟩
 ·go_enter func286,ntmps286;go_wp2;go_ret;exact⟨iT<|Yc a,rfl⟩
theorem Uk(s t:ByteArray)(w:ag)(b:s.size<=maxLen)(c:t.size<=maxLen):aH 240 #[s,t] w λe a=>e=.returned (.bool<|sO t s)∧w=a:=by
 go_enter func240,ntmps240;go_wp2_with (go_at_call 286;refine(Uv _ _ _ b c).mono ?_;rintro e a ⟨rfl,rfl⟩);go_ret;simp_all
def CX(b:UInt8):Int:=if(b.toNat:Int)=40 then 5 else if(b.toNat:Int)=41 then 6 else if(b.toNat:Int)=44 then 7 else if(b.toNat:Int)=46 then 8 else if(b.toNat:Int)=33 then 9 else 1
theorem Ul(b:UInt8)(w:ag):aH 241 #[.int .u8 b.toNat] w λe a=>e=.returned (.int .i64<|CX b)∧w=a:=by
 go_enter func241,ntmps241;go_wp2;all_goals
  go_ret;exact⟨ny (by unfold CX;simp_all;try omega),rfl⟩
def blank:Bool->List UInt8->Nat
 |_,[]=>0
 |c,b::l=>if b.toNat=10 then blank false l+1 else if b.toNat=37 then blank true l+1 else if b.toNat≠32∧c=false then 0 else blank c l+1
theorem Ts(c:Bool)(l:List UInt8):blank c l<=l:=by
 induction l generalizing c with
 |nil=>simp[blank]
 |cons b l a=>
  have b:=a true;have b:=a false;have b:=a c;unfold blank;grind
theorem Tr b(h:a+blank b5 ((aS c).drop a)=f)
  (d:(c[a].toNat=10∧K=false)∨(c[a].toNat≠10∧c[a].toNat=37∧K=true)∨(c[a].toNat≠10∧c[a].toNat≠37∧(c[a].toNat=32∨b5=true)∧K=b5)):a+1+blank K ((aS c).drop<|a+1)=f:=by
 rw[<-h,xR c a b,blank];grind
theorem Tt d(h:a+blank K ((aS c).drop a)=f)
  (b:c[a].toNat≠10∧c[a].toNat≠37∧c[a].toNat≠32∧K=false):a=f:=by
 rw[<-h,xR c a d,blank,if_neg b.1,if_neg aa,if_pos ⟨b.2.2.1,b.2.2.2⟩];omega
theorem T7(s:ByteArray)(w:ag)(f:s.size<=maxLen):aH 177 #[s] w λe g=>e=.returned (.int .i64<|blank false<|aS s)∧w=g:=by
 unfold maxLen at f;go_enter func177,ntmps177;go_wp2
 go_loop [7,3,4] (λi c _=>∃(k:Nat)(b:Bool),k<=s.size∧i=.int .i64 k∧c=.bool b∧k+blank b ((aS s).drop k)=blank false (aS s)) (λi _ _=>s.size-(intOf i).toNat)
 grind
 case round=>
  obtain⟨k,b,h,rfl,rfl,d⟩:=hrel;have H:ay<|k+blank b _=blank _ _:=d;by_cases a:k<s.size
  ·cases b
   all_goals
    go_wp2
    all_goals first
     |(go_round
       case rel=>exact⟨k+1,_,aa,ba,rfl,Tr a H.out (by simp_all;try omega)⟩
       case measure=>simp[intOf];omega)
     |(go_ret;exact⟨ny<|congrArg Int.ofNat<|Tt a H.out (by simp_all;try omega),rfl⟩)
  ·go_wp2;go_ret;rw[<-H.out,Lh s k a];simp[blank];omega
def FJ(s:ByteArray):Bool:=decide (0<=Ru (aS s) 95)
def ru(s:ByteArray):Int:=
 match aS s with
 | []=>0
 |b::_=>if pR b then(if FJ s then 1 else 4)else if(b.toNat:Int)=95∨wb s=true then 1 else if yy b then 3 else 2
theorem aek h:ru c=if pR c[0]then(if FJ c then(1:Int)else 4)else if(c[0].toNat:Int)=95∨wb c=true then 1 else if yy c[0]then 3 else 2:=by
 have:=xR c 0 h;rw[D2]at this;unfold ru;grind
theorem Us(s:ByteArray)(w:ag):aH 274 #[s,.string ⟨#[95]⟩] w λe a=>e=.returned (.bool<|FJ s)∧w=a:=
 (Tryz.strings_Contains_one s 95 w).mono λ_ _ h=>⟨h.1,h.2.symm⟩
theorem LA(s:ByteArray)(w:ag)(b:0<s.size)(c:s.size<=maxLen):aH 225 #[s] w λe a=>e=.returned (.int .i64<|ru s)∧w=a:=by
 go_enter func225,ntmps225;go_wp2_with (first|(go_at_call 272;refine(EW _ _).mono ?_;rintro e a ⟨rfl,rfl⟩)|(go_at_call 273;refine(LD _ _).mono ?_;rintro e a ⟨rfl,rfl⟩)|(go_at_call 274;refine(Us _ _).mono ?_;rintro e a ⟨rfl,rfl⟩)|(go_at_call 275;refine(Ut _ _ c).mono ?_;rintro e a ⟨rfl,rfl⟩));all_goals
  go_ret;refine⟨ny ?_,rfl⟩;rw[aek b];simp_all;try omega
def qb(s:ByteArray):Nat:=((aS s).takeWhile jD)
theorem aei(h:Eh jD c a):a=qb c:=by
 obtain⟨b,d,f⟩:=h;have e:aS c=(aS c).take a++(aS c).drop a:=af;have g:∀b∈(aS c).take a,jD b=true:=by
  intro b b;obtain⟨j,h,rfl⟩:=ly b;rw[ix,mz]at h;have b:=Bp c j aa;rw[List.getElem_take];rw[cy<|dT mz]at b;rw[dw b];exact d j aa aa
 unfold qb;rw[e,List.takeWhile_append_of_pos g];have:((aS c).drop a).takeWhile jD= []:=by
  obtain b|b:=tE a c.size;rw[xR c a b,List.takeWhile_cons,if_neg<|cw<|f b];rw[Lh c a aa];rfl
 rw[this,vD,ix,mz];omega
theorem PN(s:ByteArray):qb s<=s.size:=by
 exact(List.takeWhile_sublist _).length_le
def C9:ByteArray:=⟨#[58,45]⟩
def meas(s:ByteArray):Int×Nat:=
 if 0<qb s then(ru (s.extract 0 (qb s)),qb s)else if sO C9 s then(10,2)else(CX ((aS s).headD 0),1)
theorem X0 h:(aS c).headD 0=c[0]:=by
 have:=xR c 0 h;grind
theorem extract_size(s:ByteArray)(a b)(h:b<=s.size):(s.extract a b).size=b- a:=by
 simp_all
theorem aa0(h:0<qb c):0<(c.extract 0<|qb c).size:=by rw[extract_size _ _ _<|PN c];omega
theorem Gr(h:c.size<=maxLen)(a b):(c.extract a b).size<=maxLen:=dT ByteArray.size_extract
theorem T8(s:ByteArray)(w:ag)(c:0<s.size)(b:s.size<=maxLen):aH 178 #[s] w λe a=>e=.returned (.tuple #[.int .i64 (meas s).1,.int .i64 (meas s).2])∧w=a:=by
 have g:C9.size<=maxLen:=aA;have f:=X0 c;have d:ay<|(aS s).headD 0=s[0]:=f;go_enter func178,ntmps178;go_wp2_with (first|(go_at_call 224;refine(Lz _ _ b).mono ?_;rintro e a ⟨k,rfl,rfl,c⟩;have f:=c.1;obtain rfl:=aei c)|(go_at_call 225;refine(LA _ _ (aa0 (by assumption))<|Gr b _ _).mono ?_;rintro e a ⟨rfl,rfl⟩)|(go_at_call 240;refine(Uk _ C9 _ b g).mono ?_;rintro e a ⟨rfl,rfl⟩)|(go_at_call 241;refine(Ul _ _).mono ?_;rintro e a ⟨rfl,rfl⟩));all_goals
  go_ret2
  refine⟨?_,rfl⟩;unfold meas;first|(rw[if_pos (by assumption)];rfl)|(rw[if_neg (by assumption),if_pos (by assumption)];rfl)|(rw[if_neg (by assumption),if_neg (by simp[*]),d.out];rfl)
structure bT where
 k:Int
 t:ByteArray
 a:Nat
def bT.B(p:bT):Value:=.agg #[.int .i64 p.k,.string p.t,.int .i64 p.a]
def je(s:ByteArray)(a:Nat):Nat:=blank false (aS (s.extract a s.size))
theorem FE(s:ByteArray)(h:a<=s.size):a+je s a<=s.size:=by
 unfold je;have:=Ts false<|aS<|s.extract a s.size;rw[mz,extract_size _ _ _<|cP _]at this;omega
def sP(s:ByteArray)(a:Nat):Int×Nat:=meas (s.extract a s.size)
theorem ZP{s:ByteArray}(h:0<s.size):0<(meas s).2∧(meas s).2<=s.size:=by
 unfold meas;split;exact⟨aa,PN s⟩;split;rename_i a;have:=(Ie.1 a).length_le;exact⟨aa,this⟩;omega
theorem NM{s:ByteArray}{a:Nat}(h:a<s.size):0<(sP s a).2∧a+(sP s a).2<=s.size:=by
 have b:=extract_size s a _<|cP _;have:=ZP (s:=s.extract a s.size) aa;unfold sP;omega
def cT(s:ByteArray)(a:Nat):bT:=
 if a+je s a=s.size then⟨0,iJ,a+je s a⟩else⟨(sP s (a+je s a)).1,s.extract (a+je s a) (a+je s a+(sP s (a+je s a)).2),a+je s a⟩
theorem Lq(s:ByteArray)(a)(w:ag)(d:a<=s.size)(c:s.size<=maxLen):aH 124 #[s,.int .i64 a] w λe b=>e=.returned (cT s a).B∧xh w w b:=by
 have f:=c;unfold maxLen at f;have f:=FE s d;have c1:∀w,aH _ _ w λe b=>e=.returned (.int _<|je s a)∧w=b:=λw=>T7 _ w<|Gr c _ _;by_cases d:a+je s a=s.size;go_enter func124,ntmps124;go_wp2_with (go_at_call 177;refine(c1 _).mono ?_;rintro e b ⟨rfl,rfl⟩);refine fl (v:=(cT s a).B) ?_ rfl ⟨rfl,?_⟩;unfold cT;rw[if_pos d];simp[results,go_sem,bT.B];rfl;exact(Ig _ _).alloc aa _;have f:=NM (s:=s) (a:=a+je s a) aa;have c2:∀w,aH _ _ w λe b=>e=.returned (.tuple #[.int _ (sP s<|a+je s a).1,.int _ (sP s<|a+je s a).2])∧w=b:=
  λw=>T8 _ w (by rw[extract_size _ _ _<|cP _];omega)<|Gr c _ _
 go_enter func124,ntmps124;go_wp2_with (first|(go_at_call 177;refine(c1 _).mono ?_;rintro e b ⟨rfl,rfl⟩)|(go_at_call 178;refine(c2 _).mono ?_;rintro e b ⟨rfl,rfl⟩));refine fl (v:=(cT s a).B) ?_ rfl ⟨rfl,?_⟩;unfold cT;rw[if_neg d];simp[results,go_sem,bT.B];exact(Ig _ _).alloc aa _
section
def yZ:Op->Bool
 | .call c=>match c.1 with
  | .builtin .len| .builtin .cap| .builtin .max=>true
  |_=>false
 | .go _| .defer _| .send _ _| .recv _ _ _| .select _ _| .panic _=>false
 |_=>true
def mj(P:bj)(s:cm qf):Prop:=∀w f a b,s.run P w≠ .ok (.enter f a) b
theorem mj.B{s:cm o}{k:o->cm qf}(h:∀a,mj z<|k a):mj z<|s>>= k:=by
 intro w f b w' e;rw[Ih]at e;generalize s.run z w=r at e;cases r with
 |ok a w1=>exact h a _ _ _ _ e
 |halt x w1=>cases e
theorem mj.I{P:bj}(v):mj P<|pure<|.value v:=by intro w f a w' e;cases e
theorem mj.T:mj z<|pure .skip:=by intro w f a a e;cases e
theorem mj.O h:mj z<|Sem.halt h:=by intro w f a w' e;cases e
theorem mj.U{P:bj}s:mj P (do pure (zS (<-s))):=.B λ_=>.I _
theorem mj.V s:mj z (do s;pure tR):=.B λ_=>.T
theorem Pt{P:bj}{ρ:cL->aq}(a:yZ g.2=true):mj P<|execOp ρ g:=by
 unfold execOp;generalize g.2=op at a;cases op<;>dsimp only<;>first|exact .U _|exact .V _|exact .I _|(cases a;done)|skip
 case pick c b d=>exact .B λ_=>.I _
 case nilCheck x=>
  split;exact .B λ_=>.O _;exact .B λ_=>.O _;exact .B λ_=>.O _;split;exact .B λ_=>.O _;refine .B λ_=>.B λ_=>?_;split;exact .B λ_=>.I _;exact .I _;exact .I _;exact .I _
 case call c=>
  unfold yZ at a;simp only at a;unfold resolve;split at a;rename_i h;rw[h];exact .U _;rename_i h;rw[h];exact .U _;rename_i h;rw[h];exact .U _;cases a
variable{P:bj}{ops:Array bG}{md:uU}{C:ag->Prop}{fx:Nat->Bool}
def Oper.I(P:bj)(o:bG)(a:bK)(w:ag)(R:aq->ag->Prop):Prop:=o.wp P a w (λb w'=>∃v,b=a.put o.1 v∧R v w') (λ_ _ _=>False)
theorem aa4(a:b8.1=h.1.size)(a:h.put a8 e=h.put a8 n):b8.put a8 e=b8.put a8 n:=by
 cases a8 with
 |none=>rfl
 |some a8=>
  have b:h.1.setIfInBounds a8 e=h.1.setIfInBounds a8 n:=congrArg Act.tmps a;unfold vF;simp only
  by_cases a:a8<h.1.size;have a:=congrArg (λt:Array _=>t[a8]?) b;grind;grind
theorem Oper.B{o:bG}{a:bK}(h:∀v b,R v b->g6 v b)(c:Oper.I P o a b R):Oper.I P o a b g6:=
 Oper.wp_mono (λ_ _ ⟨v,e,r⟩=>⟨v,e,h _ _ r⟩) c
theorem Oo(a:bK)(d:Option Tmp)(v):(a.put d v).1=a.1.size:=by
 cases d<;>simp[vF]
theorem Oper.T{o:bG}(c:execOp b8.eval o=execOp h.eval o)(g:b8.1=h.1.size)(d:Oper.I P o h b R):Oper.I P o b8 b R:=by
 unfold Oper.I jO at*;rw[c];generalize(execOp h.eval o).run P b=r at*;have f:∀u a,(∃v,h.put _ u=h.put _ v∧R v a)->∃v,b8.put _ u=b8.put o.1 v∧R v _:=λu a ⟨v,e,r⟩=>⟨v,aa4 g e,r⟩;have kd:∀g u a,¬ ∃v,({h with defers:=g::h.2}:bK).put o.1 u=h.put o.1 v∧R v a:=by
  rintro g u a ⟨v,e,_⟩;have:=congrArg Act.defers e;cases g:o.1<;>simp[vF,g]at this
 cases r with
 |ok n a=>
  cases n<;>simp only[tD]at d⊢ <;>
   first
    |exact f _ _ d
    |exact Ii d (λe g c=>by cases e<;>first|exact f _ _ c|exact c)
    |exact Rows.mono d λ_ _ c=>f _ _ c
    |exact absurd d<|kd _ _ _
 |halt x a=>cases x<;>simp only[tD]at d⊢
theorem Oper.O{b:bK}{w:ag}(a:Oper.I P g b w R):∃v w',R v w':=by
 unfold Oper.I jO at a;generalize(execOp b.eval g).run P w=r at*;cases r with
 |ok n w'=>
  cases n<;>simp only[tD]at a;grind
  grind
  case defer=>grind
  case row=>obtain⟨u,w',⟨v,_,h⟩,_⟩:=a default [];grind
  case enter=>
   obtain⟨e,w',fr,h,_⟩:=a [];cases e with
   |returned u=>grind
   |panicked c=>grind
   |outgrown=>obtain⟨_,_,h⟩:=h;grind
 |halt x w'=>cases x<;>simp only[tD]at a
def lC(P:bj)(ops:Array bG)(C:ag->Prop)(o:bG)(v:aq)(a:bK):Prop:=
 (cV o (yielded ops a.1)=true∧yZ o.2=true∧∀w,C w->o.quietAt P a C w v)∨(cV o (yielded ops a.1)=false∧v=aj)
def reach(md:uU)(ops:Array bG):Nat->Nat->Nat->Bool
 |0,_,_=>false
 |n+1,i,j=>match ops[i]? with
  |some o=>o.5.any λe=>xk md e&&(e.1==j||reach md ops n e.1 j)
  |none=>false
def Shut(md:uU)(ops:Array bG)(a:Array Bool):Prop:=∀i o,ops[i]?=some o->a.getD i false=true->∀e∈o.5,xk md e=true->a.getD e.1 false=true
theorem Shut.O{d:Array Bool}(h:Shut md ops d):∀(n i j:Nat)(o:Oper),ops[i]?=some o->(∀e∈o.5,Region.binds md e=true->d.getD e.1 false=true)->reach md ops n i j=true->d.getD j false=true:=by
 intro n;induction n with
 |zero=>intro i j o _ _ a;cases a
 |succ n p=>
  intro i j o m k a;unfold Go.Proofs.reach at a;rw[m]at a;obtain⟨e,l,c⟩:=Array.any_eq_true'.1 a;simp[Bool.or_eq_true]at c;have g:=k e l c.1;obtain rfl|b:=c.2;omega;cases f:ops[e.1]? with
  |none=>
   cases n with
   |zero=>cases b
   |succ n=>unfold Go.Proofs.reach at b;grind
  |some q=>exact p _ j _ f (h _ _ f g) b
theorem Shut.T(h:Shut md ops a0)(b:a∈er md ops a0):Shut md ops<|a0.setIfInBounds a true:=by
 obtain⟨_,o,k,i⟩:=vG.1 b;intro j b f g e c b;by_cases d:a=j;subst d;cases dw<|k.symm.trans f;exact getD_set_true<|i e c b;rw[Ij _ d]at g;exact getD_set_true<|h j _ f g e c b
theorem MW(h:a0.getD a false=true):a0.getD a true=true:=by
 grind
def need(md:uU)(ops:Array bG)(fx:Nat->Bool)(k:Nat):Bool:=
 (iK ops.size).any λj=> !fx j&&j != k&& !reach md ops 5 k j
def gZ(P:bj)(md:uU)(ops:Array bG)(C:ag->Prop)(fx:Nat->Bool)(i:Nat)(o:bG)(K:bK->ag->Prop)(a:bK)(w:ag):Prop:=
 if fx i=true∧cV o (yielded ops a.1)=true then Oper.I P o a w (λv b=>(need md ops fx i=true->C b)∧K (a.put o.1 v) b)
 else ∃v,lC P ops C o v a∧K (a.put o.1 v) w
def jL(P:bj)(md:uU)(ops:Array bG)(C:ag->Prop)(fx:Nat->Bool)(Q:bK->ag->Prop):Nat->Array Bool->bK->ag->Prop
 |0,a,b,w=>er md ops a= []∧Q b w
 |fuel+1,a,b,w=>
  (er md ops a= []->Q b w)∧
  ∀i∈er md ops a,∀o,ops[i]?=some o->gZ P md ops C fx i o (jL P md ops C fx Q fuel (a.setIfInBounds i true)) b w
theorem Fv(d:∀h b,A h b->g9 h b)(c:gZ P md ops C fx a g A h b):gZ P md ops C fx a g g9 h b:=by
 unfold gZ at*;split;rename_i e;rw[if_pos e]at c;exact Oper.B (λv b ⟨x,y⟩=>⟨x,d _ _ y⟩) c;grind
def Inv(md:uU)(ops:Array bG)(C:ag->Prop)(fx:Nat->Bool)(a:Array Bool)(w:ag):Prop:=Shut md ops a∧(C w∨∀j,j<ops.size->fx j=false->a.getD j true=true)
theorem lC.I(a:lC P ops C g e h)(a:execOp b8.eval g=execOp h.eval g)
  (a:cV g (yielded ops b8.1)=cV g (yielded ops h.1)):lC P ops C g e b8:=by
 unfold lC J2 at*;grind
theorem lC.B{o:bG}{u v:aq}(c:lC P ops C o u h)(d:lC P ops C o v h)(a:C b):u=v:=by
 rcases c with⟨a1,t,b1⟩|⟨a1,b1⟩<;>rcases d with⟨a2,_,b2⟩|⟨a2,b2⟩
 have c1:=b1 b a;have c2:=b2 b a;have a:=Pt (P:=P) (ρ:=h.eval) t b;unfold J2 at c1 c2;generalize(execOp h.eval o).run P b=r at c1 c2 a;cases r with
 |ok n w'=>
  cases n<;>simp only[Ik]at c1 c2;grind
  grind
  grind
 |halt x w'=>simp[Ik]at c1
 grind;grind;grind
theorem lC.O{a:bK}{w:ag}(h:lC P ops C g e a)(d:cV g (yielded ops a.1)=true)(f:C w){Q:kh->bK->ag->Prop}(b:A (a.put g.1 e) w):g.wp P a w A Q:=by
 obtain⟨_,t,b1⟩|⟨a1,_⟩:=h;have c1:=b1 w f;have c:=Pt (P:=P) (ρ:=a.eval) t w;unfold J2 at c1;unfold jO;generalize(execOp a.eval g).run P w=r at c1 c;cases r with
 |ok n w'=>
  cases n<;>simp only[Ik]at c1;case value x=>obtain⟨rfl,rfl⟩:=c1;exact b
  case skip=>obtain⟨rfl,rfl⟩:=c1;exact b
  case enter j i=>exact absurd rfl<|c _ _ _
 |halt x w'=>simp[Ik]at c1
 rw[a1]at d;cases d
theorem ZX(g:Shut md ops a0)(d:f∈er md ops a0)(b: ¬need md ops fx f=true)(c:a<ops)(c:fx a=false)(c:f≠a):a0.getD a true=true:=by
 obtain⟨_,o,e,c⟩:=vG.1 d;unfold need at b;rw[rF]at b;cases b:reach md ops 5 f a with
 |true=>exact MW<|g.O 5 f a o e c b
 |false=>
  grind
theorem Inv.I{w w':ag}(b:Inv md ops C fx a0 w)(c:a∈er md ops a0)(d:fx a=true)(d:need md ops fx a=true->C w'):Inv md ops C fx (a0.setIfInBounds a true) w':=by
 refine⟨b.1.T c,?_⟩;by_cases g:need md ops fx a=true;grind;refine .inr λj f e=>?_;have d:a≠j:=aJ
 rw[Ij _ d];exact ZX b.1 c g f e d
theorem Inv.B(c:Inv md ops C fx a0 b)(d:a∈er md ops a0):Inv md ops C fx (a0.setIfInBounds a true) b:=by
 have e:=(vG.1 d).1;refine⟨c.1.T d,c.2.imp id λh j c c=>?_⟩;by_cases c:a=j;grind;simp_all
theorem WS(d:Oper.I P g h b λv a=>A (h.put g.1 v) a):g.wp P h b A M:=by
 unfold Oper.I jO at*;generalize(execOp h.eval g).run P b=r at*;have e:∀c a,(∃v,c=h.put g.1 v∧A (h.put g.1 v) a)->A c a:=aJ
 cases r with
 |ok n a=>
  cases n<;>simp only[tD]at d⊢ <;>
   first
    |exact e _ _ d
    |exact Ii d (λf c c=>by cases f<;>first|exact e _ _ c|exact c.elim|exact(by obtain⟨_,_,f⟩:=c;exact f.elim))
    |exact Rows.mono d λ_ _ c=>e _ _ c
 |halt x a=>cases x<;>simp only[tD]at d
theorem uG{Q:bK->ag->Prop}(b:∀a w,Q a w->M .normal a w):∀(i) (g:Array Bool)(a:bK)(w:ag),Inv md ops C fx g w->
  jL P md ops C fx Q i g a w->wpAny P md ops M i g a w
 |0,_,_,_,_,h=>⟨h.1,b _ _ h.2⟩
 |i+1,g,a,w,j,h=>by
  refine⟨λq=>b _ _<|h.1 q,λl e=>?_⟩;obtain⟨x,p,n,s⟩:=vG.1 e;have d:=h.2 l e p n;have u:l<ops.size:=aJ;unfold gZ at d;unfold wpOp;simp[n];split at d;rename_i k;rw[if_pos k.2];refine .inl<|WS<|Oper.B (λv y c=>?_) d;exact uG b _ _ _ _ (j.I e k.1 c.1) c.2;rename_i k;obtain⟨v,o,c⟩:=d;have m:=j.B e;by_cases f:cV p (yielded ops a.1)=true;rw[if_pos f];have t:fx l=false:=aJ
  have r:=j.2.resolve_right λh=>by grind
  exact .inl<|o.O f r<|uG b _ _ _ _ m c;rw[if_neg f];obtain⟨a1,_⟩|⟨_,rfl⟩:=o;exact absurd a1 f;exact uG b _ _ _ _ m c
theorem Xc(r:g.apart ops f9=true)
  (t:∀cs j,g.2≠ .select cs j)(n:∀cs j,f9.2≠ .select cs j)
  (w:lC P ops C g e h)(c:gZ P md ops C fx a f9 A (h.put g.1 e) b):
  gZ P md ops C fx a f9 (λi p=>cV g (yielded ops i.1)=cV g (yielded ops h.1)∧lC P ops C g e i∧A (i.put g.1 e) p) h b:=by
 obtain⟨d,l,f⟩:=Oper.apart_spec r;have o:=λu=>w.I (D3 _ t h _ u f)<|zK _ h _ u f;unfold gZ at*;rw[zK _ h _ e d]at c;split;rename_i k;rw[if_pos k]at c;have q:=Oper.T (D3 _ n h _ e d).symm (Oo h _ e).symm c;refine Oper.B (λu p m=>⟨m.1,zK _ h _ u f,o u,?_⟩) q;rw[<-Act.put_comm h e u l];exact m.2;rename_i k;rw[if_neg k]at c;obtain⟨u,v,s⟩:=c;refine⟨u,v.I (D3 _ n h _ e d).symm (zK _ h _ e d).symm,zK _ h _ u f,o u,?_⟩;rw[<-Act.put_comm h e u l];exact s
theorem Fw(c: ¬(fx a=true∧cV g (yielded ops h.1)=true))(d:lC P ops C g e h)(d:A (h.put g.1 e) b):gZ P md ops C fx a g A h b:=by
 unfold gZ;rw[if_neg c];grind
theorem PQ(s:ops[a]?=some g)(y:∀(j:Nat) z cs m,ops[j]?=some z->z.2≠ .select cs m):
  ∀(n) (i:Array Bool)(b:bK)(w:ag),
   (∀j l,ops[j]?=some l->j≠a->i.getD j true=false->(∀c∈l.5,xk md c=true->c.1≠a)->g.apart ops l=true)->
   a∈er md ops i->(fx a=false∨cV g (yielded ops b.1)=false)->lC P ops C g e b->
   jL P md ops C fx A n (i.setIfInBounds a true) (b.put g.1 e) w->jL P md ops C fx A (n+1) i b w:=by
 intro n;have x:∀b:bK,(fx a=false∨cV g (yielded ops b.1)=false)->¬(fx a=true∧cV g (yielded ops b.1)=true):=aJ
 induction n with
 |zero=>
  intro i b w _ h r p H;refine⟨λq=>(by rw[q]at h;cases h),λj o l f=>?_⟩;by_cases d:j=a;subst d;cases dw<|s.symm.trans f;exact Fw (x b r) p H;have:=Az o d;rw[H.1]at this;cases this
 |succ n O=>
  intro i b w v h r p H;refine⟨λq=>(by rw[q]at h;cases h),λj o l f=>?_⟩;by_cases d:j=a;subst d;cases dw<|s.symm.trans f;exact Fw (x b r) p H;have t:=H.2 j (Az o d) _ f;let⟨I,W,N,D⟩:=vG.1 o;cases dw<|f.symm.trans N;have M:∀c∈l.5,xk md c=true->c.1≠a:=λc G F S=>by
   have t:=D c G F;have R:=(vG.1 h).1;grind
  have E:=v j _ f d I M;have B:=Xc E (λcs m=>y a _ _ m s) (λcs m=>y j _ _ m f) p t;have T:∀k ok,ops[k]?=some ok->k≠a->(i.setIfInBounds j true).getD k true=false->
    (∀c∈ok.5,xk md c=true->c.1≠a)->g.apart ops ok=true:=λk ok J K V L=>by
   refine v k _ J K ?_ L;by_cases U:j=k;grind;simp_all
  refine Fv (λQ X u=>O _ _ _ aa (Az h<|kg d) ?_ u.2.1 ?_) B;grind;rw[Rx _ _ d];exact u.2.2
theorem PR(u:ops[a]?=some g)(k:fx a=true)(B:∀(j:Nat) o cs p,ops[j]?=some o->o.2≠ .select cs p):
  ∀(f) (e:Array Bool)(c:bK),Inv md ops C fx e b->
   (∀j d,ops[j]?=some d->j≠a->e.getD j true=false->(∀n∈d.5,xk md n=true->n.1≠a)->g.apart ops d=true)->
   (∀j d,ops[j]?=some d->j≠a->e.getD j true=false->fx j=true->reach md ops 5 j a=true)->
   a∈er md ops e->cV g (yielded ops c.1)=true->
   Oper.I P g c b (λv h=>(need md ops fx a=true->C h)∧jL P md ops C fx A f (e.setIfInBounds a true) (c.put g.1 v) h)->jL P md ops C fx A (f+1) e c b:=by
 have q:∀ {f:Nat} {e:Array Bool} {c:bK},cV g (yielded ops c.1)=true->Oper.I P g c b (λv h=>(need md ops fx a=true->C h)∧jL P md ops C fx A f (e.setIfInBounds a true) (c.put g.1 v) h)->
   gZ P md ops C fx a g (jL P md ops C fx A f<|e.setIfInBounds a true) c b:=by
  intro f e c o i;unfold gZ;rw[if_pos ⟨k,o⟩];exact i
 intro f;induction f with
 |zero=>
  intro e c _ _ _ m o H;refine⟨λi=>(by rw[i]at m;cases m),λj r d l=>?_⟩;by_cases k:j=a;subst k;cases dw<|u.symm.trans l;exact q o H;have:=Az r k;obtain⟨v,h,_,i⟩:=Oper.O H;rw[i.1]at this;cases this
 |succ f I=>
  intro e c t y z m o H;refine⟨λi=>(by rw[i]at m;cases m),λj r d l=>?_⟩;by_cases k:j=a;subst k;cases dw<|u.symm.trans l;exact q o H;obtain⟨s,q,q,x⟩:=vG.1 r;cases dw<|l.symm.trans q;have E:∀n∈d.5,xk md n=true->n.1≠a:=λn D w q=>by
   have q:=x n D w;have w:=(vG.1 m).1;grind
  have n:=y j _ l k s E;have D:fx j=false:=by
   cases D:fx j with
   |false=>rfl
   |true=>
    have q:=MW<|t.1.O 5 j a _ l x<|z j _ l k s D;rw[(vG.1 m).1]at q;grind
  let⟨q,D,x⟩:=Oper.apart_spec n;have n:j<ops.size:=aJ;have E:=t.2.resolve_right λi=>by grind
  have F:=λcs p=>B a _ cs p u;have G:=λcs p=>B j _ cs p l;have p:∀ {v h},jL P md ops C fx A (f+1) (e.setIfInBounds a true) (c.put g.1 v) h->∃u,lC P ops C d u c∧jL P md ops C fx A f ((e.setIfInBounds a true).setIfInBounds j true) ((c.put g.1 v).put d.1 u) h:=by
   intro v h i;have f:=i.2 j (Az r k) d l;unfold gZ at f;rw[if_neg (by grind)]at f;obtain⟨u,n,e⟩:=f;exact⟨u,n.I (D3 d G c g.1 v q).symm (zK d c g.1 v q).symm,e⟩
  obtain⟨f,f,_,w⟩:=Oper.O H;obtain⟨u,n,_⟩:=p w;refine Fw (by grind) n ?_;refine I _ _ (t.B r) ?_ ?_ (Az m<|kg k) ?_ ?_;intro l ok e m i f;refine y l ok e m ?_ f;by_cases f:j=l;subst f;exact s;rw[Ij true f]at i;exact i;intro l ok e m i q;refine z l ok e m ?_ q;by_cases f:j=l;subst f;exact s;rw[Ij true f]at i;exact i;rw[zK g c d.1 u x];exact o;refine Oper.T (D3 g F c d.1 u x) (Oo c d.1 u)<|Oper.B (λv h e=>⟨e.1,?_⟩) H;obtain⟨d,f,d⟩:=p e.2;obtain rfl:=n.B f E;rw[Rx _ _ k,<-Act.put_comm c v u D];exact d
def CZ(md:uU)(ops:Array bG)(fx:Nat->Bool)(a:Array Bool)(i:Nat):Bool:=
 !fx i||(iK ops.size).all λj=>j==i||a.getD j true|| !fx j||reach md ops 5 j i
def ym(md:uU)(ops:Array bG)(fx:Nat->Bool):Nat->Nat->Array Bool->Bool
 |0,_,a=>(er md ops a).isEmpty
 |fuel+1,k,a=>(er md ops a).contains k&&Region.free md ops a k&&CZ md ops fx a k&&ym md ops fx fuel (k+1) (a.setIfInBounds k true)
def uh(md:uU)(ops:Array bG)(fx:Nat->Bool):Bool:=uV ops&&ym md ops fx ops.size 0 (ml ops.size false)
def gI(P:bj)(ops:Array bG)(C:ag->Prop)(fx:Nat->Bool)(Q:bK->ag->Prop):Nat->List bG->bK->ag->Prop
 |_,[],a,w=>Q a w
 |k,o::b,a,w=>gZ P .any ops C fx k o (gI P ops C fx Q (k+1) b) a w
theorem Dc(g:uV ops=true):∀(l:List bG)(k) (c:Array Bool)(a:bK)(w:ag),(∀j,l[j]?=ops[k+j]?)->
  ym .any ops fx l k c=true->Inv .any ops C fx c w->gI P ops C fx A k l a w->jL P .any ops C fx A l c a w
 | [],_,_,_,_,_,e,_,h=>⟨by simpa[ym]using e,h⟩
 |D::l,k,c,a,w,p,e,i,h=>by
  have d:=by simpa using(p 0).symm
  simp only[uS,ym,j_]at e;obtain⟨⟨⟨z,o⟩,r⟩,n⟩:=e;have q:∀j,l[j]?=ops[k+1+j]? :=λj=>by have:=p<|j+1;grind
  have f:k∈er .any ops c:=aJ;unfold gI gZ at h;split at h;rename_i m;refine PR d m.1 (Il g) _ _ a i (Im d o) ?_ f m.2<|Oper.B (λv F b=>⟨b.1,Dc g l _ _ _ _ q n (i.I f m.1 b.1) b.2⟩) h;intro j E x y B u;unfold CZ at r;grind;rename_i t;obtain⟨v,s,b⟩:=h;refine PQ d (Il g) _ _ a w (Im d o) f ?_ s<|Dc g l _ _ _ _ q n (i.B f) b;grind
theorem PZ C(fx:Nat->Bool)(i:P.follows .mixedOrders=true)(e:uh .any H.toArray fx=true)(g:C b.drew)
  (d:gI P H.toArray C fx (λc f=>M .normal c f) 0 H h b.drew):(bH a H.toArray true).wp P M h b:=by
 simp only[uh,j_]at e;have j:Shut .any H.toArray (ml H.toArray.size false):=λj o _ d=>by simp only[Dq,Io]at d;grind
 refine J3 i (uG (fx:=fx) (Q:=λc f=>M .normal c f) af _ _ _ _ ⟨aa,.inl g⟩ ?_);exact Dc (C:=C) e.1 H 0 _ h _ af (aV e.2) ⟨aa,.inl g⟩ d
theorem cS(h:K=false)(k:K=true):d6:=by rw[h]at k;cases k
section
variable{k:Nat}{o:bG}{rest:List bG}{a:bK}{w:ag}{Q:bK->ag->Prop}
theorem gg(b:fx k=false)(d:yZ o.2=true)(e:cV o (yielded ops a.1)=true)
  (h:∀K:bK->Prop,(∀a,gI P ops C fx Q (k+1) rest a w->K a)->o.quiet P a C K):gI P ops C fx Q k (o::rest) a w:=by
 obtain⟨v,b,c⟩:=h _ λ_ h=>h;unfold gI gZ;rw[if_neg (by grind)];exact⟨v,.inl ⟨e,d,b⟩,c⟩
theorem aD(g:g5)(i:g5->d6:=by intro a;refine gg ah bf bf λK b=>?_;go_big_quiet_op;refine b _ ?_;exact a):d6:=i g
def Act.B(a:bK):Option Tmp->aq
 |some d=>a.1.getD d aj
 |none=>aj
theorem jV(g:fx k=true)(e:cV o (yielded ops a.1)=true)
  (h:∀b:kh->bK->ag->Prop,(∀d c,d=a.put o.1 (Act.B d o.1)->(need .any ops fx k=true->C c)->gI P ops C fx Q (k+1) rest d c->b .normal d c)->wpList P ops b [o] a w):gI P ops C fx Q k (o::rest) a w:=by
 have b:=h (λex d c=>match ex with
  | .normal=>∃v,d=a.put o.1 v∧((need .any ops fx k=true->C c)∧gI P ops C fx Q (k+1) rest (a.put o.1 v) c)
  |_=>False) λd c b d f=>⟨_,b,d,jy b f⟩
 unfold wpList at b;rw[if_pos e]at b;obtain b|⟨_,_,_,b⟩:=b;unfold gI gZ;rw[if_pos ⟨g,e⟩];unfold Oper.I;unfold jO at b⊢;generalize(execOp a.eval o).run P w=r at*;cases r with
 |ok n c=>
  cases n<;>simp only[tD,wpList]at b⊢ <;>
   first
    |exact b
    |exact Ii b (λe d d=>by cases e<;>first|exact d|exact(by obtain⟨_,_,h⟩:=d;exact h.elim))
    |exact Rows.mono b λ_ _ d=>d
 |halt x c=>cases x<;>simp only[tD]at b⊢
 exact b.elim
theorem a_(h:∀d:kh->bK->ag->Prop,(∀b c,b=a.put o.1 (Act.B b o.1)->(need .any ops fx k=true->C c)->gI P ops C fx Q (k+1) rest b c->d .normal b c)->wpList P ops d [o] a w)(b:fx k=true:=by kernel_rfl)(c:Region.wanted o (yielded ops a.1)=true:=by rfl):gI P ops C fx Q k (o::rest) a w:=jV b c h
end
theorem cR(c:A h b):gI P ops C fx A a [] h b:=c
theorem dG fx(j:P.follows .mixedOrders=true)(i:uh .any H.toArray fx=true)
  (f:∀(S:Type)(g:S->ag),Nonempty S->(∀x c o,c<b.1.size->(g x).cell? ⟨c,o,none⟩=b.cell? ⟨c,o,none⟩)->(∀x c o,c<b.1.size->(g x).frozen? ⟨c,o,none⟩=b.frozen? ⟨c,o,none⟩)->
   (∀x c,c<b.1.size->(g x).1[c]?=b.1[c]?)->(∀d,xh b b d->∃x,d=g x)->
   gI P H.toArray (λd=>∃x,d=g x) fx (λe d=>M .normal e d) 0 H h b.drew):(bH a H.toArray true).wp P M h b:=by
 have e:xh b.1.size b _:=(Ig _ _).drew;have:=f {d//xh _ b d} _ ⟨⟨_,e⟩⟩ (λx c o d=>x.2.cell (p:=⟨c,o,_⟩) d) (λx c o d=>x.2.frozen (p:=⟨c,o,_⟩) d) (λx c d=>x.2.5 c d) af;exact PZ _ _ j i ⟨⟨_,e⟩,rfl⟩ this
theorem qN{id:Nat} D(fx:Nat->Bool)(k:P.follows .mixedOrders=true)(j:uh .any H.toArray fx=true)
  (i:∀(S:Type)(g:S->ag),Nonempty S->(∀x c o,c<b.1.size->¬D c->(g x).cell? ⟨c,o,none⟩=b.cell? ⟨c,o,none⟩)->
   (∀x c,c<b.1.size->¬D c->(g x).1[c]?=b.1[c]?)->(∀d,ae D b d->∃x,d=g x)->
   gI P H.toArray (λd=>∃x,d=g x) fx (λe d=>M .normal e d) 0 H h b.drew):(bH id H.toArray true).wp P M h b:=by
 have f:ae D b _:=(ae.T _ _).m;have:=i {d//ae D b d} _ ⟨⟨_,f⟩⟩ (λx c o d e=>Ip (a:=⟨c,o,_⟩)<|x.2.5 c d e) (λx c d e=>x.2.5 c d e) af;exact PZ _ _ k j ⟨⟨_,f⟩,rfl⟩ this
end
end
section
structure fW(P:bj)(t e:bB)(size bytes:Nat):Prop where
 slice:P.underlying t=some (.slice e)
 info:∃i z,P.info? e=some i∧i.8=some z∧i.3=size∧i.4=bytes∧z.cells.size=size
 pos:0<size
theorem fW.B{P:bj}{z:aq}(h:P.underlying b9=some (.slice k))(g:(P.info? k).map (λi=>(i.8,i.3,i.4))=some (some z,a,f))(l:z.cells=a)(j:0<a):fW P b9 k a f:=by
 obtain⟨i,b,c,d,e⟩:=H5 g;exact⟨h,⟨i,z,b,c,d,e,l⟩,j⟩
theorem PU(E:fW z b9 k a f)(r:g.6=none)(s x:cL)
  (w:g.2=.call {callee:=.builtin .append,args:= #[s,x],argTypes:= #[b9,b9]})(i) v n m (A:h.eval s=v)(y:b.ownsRow i k a v n m)
  c (d:c.size=a)(p:∀u∈c.1,u.oneCell'=true)(B:h.eval x=.slice (some ⟨j,0,none⟩) 1 1)(t:b=j)(q:(n+1)*f<=140737488355328)(d:n<140737488355328)(d:i<=b)
  (o:∀d l e,e.ownsRow i k a (.slice (some ⟨d,0,none⟩) (n+1) l) (n+1) (m++c.1)->(b.alloc<|.cells c k).grownBy e v.ownBlock->wpList z d8 M H (h.put g.1<|.slice (some ⟨d,0,none⟩) (n+1) l) e):wpList z d8 M (g::H) h<|b.alloc<|.cells c k:=by
 subst t;obtain⟨t,⟨F,G,i,C,c,c,D⟩,m⟩:=E;refine wpList_append_own _ r s x b9 w _ k F G _ _ t i C aa c D m v n _ A (y.alloc _) _ 1 1 _ B (by grind) ?_ p (by unfold maxLen;omega) q bQ ?_;intro c u i;have:(⟨b,0,none⟩:bC).add c=⟨b,c,none⟩:=by unfold tF;split<;>simp_all
 simp_all;intro c e c e i;obtain⟨rfl,m⟩|⟨d,l,l,rfl,_⟩:=c.2;have:=(i.1 rfl).2;cases this;exact o d _ _ c e
theorem World.ownsRow.B{D:Nat->Prop}{w w':ag}{v:aq}(h:w.ownsRow a f j v C L)(m:ae D w w')(i:∀k,a<=k->¬D k):w'.ownsRow a f j v C L:=by
 refine⟨h.1,h.2.imp id ?_⟩;rintro⟨g,c,d,e,b,l,n⟩;exact⟨g,c,d,e,b,m.O l<|i g b,n⟩
theorem yu(d:b.grownBy l e.ownBlock)(g:b.ownsRow f j C e f6 L)(c:b.1[a]?=some N)(h:a<f):l.1[a]?=some N:=by
 rw[d.5 a (aP c) λh=>aI<|(g.lt a h.symm).1];omega
theorem ae.ao(h:ae s b l)(d:l.grownBy d3 e.ownBlock)(g:l.ownsRow a f j e C L)(c:b<=a):ae s b d3:=
 h.iz d λk d=>.inl<|dI c (g.lt k d).1
theorem Cv(h:b.1[a]?=some N):((b.alloc h1).alloc h2).1[a]?=some N:=by
 have:=aP h;rw[lZ _ _ _ bQ,lZ _ _ _ this];omega
theorem ic(w:ag)(a b:bI):((w.alloc a).alloc b).1[w.1.size]?=some a:=(lZ (w.alloc a) b _ af).trans<|cz w a
theorem eK(w:ag)(b a:bI):((w.alloc b).alloc a).1[w.1.size+1]?=some a:=by
 have:=cz (w.alloc b) a;simp_all
theorem World.ownsRow.I{w:ag}(h:w.ownsRow C a f e j L)(c:ai)(i:∀b,e.ownBlock=some b->c b=w.1[b]?):c.row f e j L:=by
 refine⟨h.1,h.2.imp id ?_⟩;rintro⟨g,b,c,rfl,_,d,_,_,h,h⟩;refine⟨g,0,b,c,a,_,rfl,(i g rfl).trans d,λk b=>?_⟩;grind
theorem FZ{α:Type}{xs:List α}{k0:ai}{R:ai->List aq->α->Prop}(h:k0.In b)(l:b.ownsRow f j a e xs e4.flatten)
  (p:e4=xs.length)(q:∀c∈e4,c=a)(m:∀k,k0.le k->∀(i:Nat) c x,e4[i]?=some c->xs[i]?=some x->R k c x):
  ∃k,k.In b∧k0.le k∧(∀c o,k c=some o->k0 c=some o∨e.ownBlock=some c)∧k.list a R e xs:=by
 let k:ai:=λc=>if e.ownBlock=some c then b.1[c]? else k0 c
 have n:k.In b:=by
  intro c o d;by_cases g:e.ownBlock=some c;have:k c=b.1[c]? :=if_pos g;rw[<-this];exact d;have:k c=k0 c:=if_neg g;exact h c o<|this▸d
 have i:k0.le k:=by
  intro c o d;by_cases g:e.ownBlock=some c;have:k c=b.1[c]? :=if_pos g;rw[this];exact h c o d;have:k c=k0 c:=if_neg g;rw[this];exact d
 refine⟨k,n,i,?_,e4,p,q,m k i,World.ownsRow.I l k λc d=>if_pos d⟩;grind
structure aM{α:Type}(w:ag)(N e sz:Nat)(R:ai->List aq->α->Prop)(k:ai)(v:aq)(xs:List α):Prop where
 V:k.In w
 bN:∀b o,k b=some o->v.ownBlock≠some b
 qH:∃css:List (List aq),css.length=xs.length∧(∀c∈css,c.length=sz)∧(∀(i:Nat) c x,css[i]?=some c->xs[i]?=some x->R k c x)∧w.ownsRow N e sz v xs.length css.flatten
variable{d5:Bool×bT}{F i:ai}{t:ai->List aq->o->Prop}{d f8 w:bT}
theorem aM.m{R:ai->List aq->o->Prop}(h:i.In b):aM b a f j R i (.slice none 0 0) []:=
 ⟨h,λ_ _ _ h=>(nomatch h),[],rfl,λ_ h=>(nomatch h),λ_ _ _ h=>(nomatch h),J4 _ _ _ _⟩
theorem aM.B{k:ai}{v:aq}(h:aM b a f j t k v p):∀c,v.ownBlock=some c->a<=c∧c<b:=by
 obtain⟨_,_,c,_,_,_,c⟩:=h;exact c.lt
theorem aM.ku{α:Type}{N e sz:Nat}{R:ai->List aq->α->Prop}(a:i.In b)(c)(d:c.size=sz){y:α}(d:R i c.1 y)(f:N<=b):aM (b.alloc<|.cells c e) N e sz R i (.slice (some ⟨b,0,none⟩) 1 1) [y]:=by
 refine⟨a.B ae.al i3,λd o g h=>?_,[c.1],rfl,?_,?_,?_⟩;have:=a.O g;have a:b=d:=dw h;omega;grind;grind
 refine⟨by grind,.inr ⟨_,1,c,rfl,f,cz b _,af,aA,aa,?_⟩⟩;show List.take (1*sz) c.1= [c.1].flatten;grind
theorem aM.O{w:ag}(h:aM w a f j t i e p):∃b c,e=.slice b p c:=by
 obtain⟨_,_,b,_,_,_,b⟩:=h;obtain⟨rfl,c⟩|⟨g,c,c,rfl,_⟩:=b.2;grind;grind
theorem aM.I{w w':ag}{D:Nat->Prop}(h:aM w a f j t i e p)(c:ae D w w')(q:∀b,a<=b->¬D b)(r:∀b d,i b=some d->¬D b):aM w' a f j t i e p:=by
 obtain⟨d,g,b,k,l,m,n⟩:=h;exact⟨d.B c r,g,b,k,l,m,World.ownsRow.B n c q⟩
theorem aM.ab(h:aM b a f j t F e p)(n:∀c x,t F c x->t i c x)(r:i.In b)(q:∀d g,i d=some g->e.ownBlock≠some d):aM b a f j t i e p:=by
 obtain⟨_,_,d,g,k,l,m⟩:=h;exact⟨r,q,d,g,k,λh c x d g=>n _ _<|l h c x d g,m⟩
theorem aM.U{v:aq}(h:aM b f j a t i v p)(n:∀c,i.le c->∀d x,t i d x->t c d x):
  ∃c,c.In b∧i.le c∧(∀e g,c e=some g->i e=some g∨v.ownBlock=some e)∧c.list a t v p:=by
 obtain⟨e,_,g,g,k,l,m⟩:=h;exact FZ e m g k λc e k d x c g=>n _ e _ _<|l k d x c g
theorem ai.Z(h:ai)(a)(R:ai->List aq->o->Prop):h.list a R (.slice none 0 0) []:=
 ⟨[],rfl,λ_ h=>(nomatch h),λ_ _ _ h=>(nomatch h),af,.inl ⟨rfl,rfl⟩⟩
theorem ai.list.I(H:i.list a t e p):∃b c,e=.slice b p c:=by
 obtain⟨b,_,_,_,_,b⟩:=H;grind
theorem ai.list.T{a:Type}{h:ai}{sz:Nat}{R:ai->List aq->a->Prop}{g o n c:Nat}{b:List a}(H:h.list sz R (.slice (some ⟨g,o,fL⟩) n c) b):∃a,h g=some a:=by
 obtain⟨a,_,_,_,_,a⟩:=H;grind
theorem ai.list.V{h:ai}(H:h.list a t (.slice y f j) p)(e:h.In b){i:Nat}(c:p[i]?=some d7):
  ∃g d cc,y=some ⟨g,d,fL⟩∧cc.length=a∧t h cc d7∧∀c,c<a->b.cell? ⟨g,d+(i*a+c),fL⟩=cc[c]? :=by
 obtain⟨c,c,c,c⟩:=H.U e;grind
theorem ae.Y{w d:ag}(h:ae s w d){b o:Nat}{v:aq}(c:w.cell? ⟨b,o,fL⟩=some v)(e: ¬s b):d.cell? ⟨b,o,fL⟩=some v:=
 (Ip (a:=⟨b,o,fL⟩)<|h.5 b (xl w _ c) e).trans c
theorem ae.cB(h:ae s l b)(H:∀c,c<2->l.cell? ⟨a,f+(j*2+c),fL⟩=[e,n][c]?)(c: ¬s a):b.cell? ⟨a,f+j*2,fL⟩=some e∧b.cell? ⟨a,f+j*2+1,fL⟩=some n:=⟨h.Y (H 0 aA) c,h.Y (H 1 aA) c⟩
theorem ae.ab(h:ae s l b)(H:∀c,c<3->l.cell? ⟨a,f+(j*3+c),fL⟩=[e,n,v][c]?)(c: ¬s a):b.cell? ⟨a,f+j*3,fL⟩=some e∧b.cell? ⟨a,f+j*3+1,fL⟩=some n∧b.cell? ⟨a,f+j*3+2,fL⟩=some v:=⟨h.Y (H 0 aA) c,h.Y (H 1 aA) c,h.Y (H 2 aA) c⟩
theorem ae.an(h:ae s l b){g o i:Nat}(H:∀j,j<5->l.cell? ⟨g,o+(i*5+j),fL⟩=[e,n,v,Q,a7][j]?)(a: ¬s g):b.cell? ⟨g,o+i*5,fL⟩=some e∧b.cell? ⟨g,o+i*5+1,fL⟩=some n∧b.cell? ⟨g,o+i*5+2,fL⟩=some v∧b.cell? ⟨g,o+i*5+3,fL⟩=some Q∧b.cell? ⟨g,o+i*5+4,fL⟩=some a7:=⟨h.Y (H 0 aA) a,h.Y (H 1 aA) a,h.Y (H 2 aA) a,h.Y (H 3 aA) a,h.Y (H 4 aA) a⟩
theorem ae.am(h:ae s l b)(H:∀c,c<6->l.cell? ⟨a,f+(j*6+c),fL⟩=[e,n,v,Q,a7,d4][c]?)(c: ¬s a):b.cell? ⟨a,f+j*6,fL⟩=some e∧b.cell? ⟨a,f+j*6+1,fL⟩=some n∧b.cell? ⟨a,f+j*6+2,fL⟩=some v∧b.cell? ⟨a,f+j*6+3,fL⟩=some Q∧b.cell? ⟨a,f+j*6+4,fL⟩=some a7∧b.cell? ⟨a,f+j*6+5,fL⟩=some d4:=⟨h.Y (H 0 aA) c,h.Y (H 1 aA) c,h.Y (H 2 aA) c,h.Y (H 3 aA) c,h.Y (H 4 aA) c,h.Y (H 5 aA) c⟩
def ai.or(h k:ai):ai:=λb=>(h b).or (k b)
theorem ai.bN(c:i.In b)(d:F.In b):(i.or F).In b:=by
 intro x o e;unfold ai.or at e;cases a:i x with
 |some y=>rw[a]at e;exact c x o<|aw a e
 |none=>rw[a]at e;exact d x o e
theorem ai.O(h k:ai):h.le<|h.or k:=λx o e=>by unfold ai.or;grind
theorem ai.I{w:ag}(a:i.In w)(b:F.In w):F.le<|i.or F:=λx o e=>by
 unfold ai.or;cases c:i x with
 |none=>grind
 |some y=>
  have:=(a x y c).symm.trans<|b x o e;grind
theorem ai.T{h k:ai}{o:bI}(e:(h.or k) a=some o):h a=some o∨k a=some o:=by
 unfold ai.or at e;cases b:h a with
 |some y=>grind
 |none=>grind
theorem aM.cW(h:aM b f a j t i e p)(n:F.In b)(m:∀c d,F c=some d->e.ownBlock≠some c)(l:∀k,i.le k->∀g x,t i g x->t k g x):aM b f a j t (i.or F) e p:=
 h.ab (l _<|ai.O _ _) (ai.bN h.V n) λc d a=>(ai.T a).elim (h.bN c d)<|m c d
theorem tz(E:fW z b9 k a j)(A:g.6=none)(s x:cL)
  (F:g.2=.call {callee:=.builtin .append,args:= #[s,x],argTypes:= #[b9,b9]})(D:aM b f k a t i e p)(G:h.eval s=e)(y:o)
  c (d:t i c.1 y)(d:c.size=a)(r:∀u∈c.1,u.oneCell'=true)(K:h.eval x=.slice (some ⟨C,0,none⟩) 1 1)(v:b=C)(n:(p+1)*j<=140737488355328)(d:p.length<140737488355328)(d:f<=b)
  (w:∀d m l,aM l f k a t i (.slice (some ⟨d,0,none⟩) (p+1) m) (p++ [y])->ae (λq=>e.ownBlock=some q) b l->wpList z d8 M H (h.put g.1 (.slice (some ⟨d,0,none⟩) (p+1) m)) l):wpList z d8 M (g::H) h (b.alloc (.cells c k)):=by
 subst v;obtain⟨J,⟨O,P,B,L,v,y,N⟩,I⟩:=E;obtain⟨m1,m2,v,E,E,E,E⟩:=D;refine J5 _ A s x b9 F f k O P _ _ J B L aa y N I e _ _ G (E.alloc _) _ 1 1 _ K (by grind) ?_ r (by unfold maxLen;omega) n bQ ?_
 ·intro r u s;have:(⟨b,0,none⟩:bC).add r=⟨b,r,none⟩:=by unfold tF;split<;>simp_all
  simp_all
 ·intro r l r s u l;rcases r.2 with⟨rfl,_⟩|⟨d,m,m,rfl,_⟩
  ·have:=(u.1 rfl).2;cases this
  ·have m:=((ae.T _ _).I _).iz s λi s=>.inr s;refine w d _ _ ⟨m1.B m aa,λq g n=>?_,v++ [c.1],by grind,?_,?_,?_⟩ m
   ·rcases l with l|l
    grind
    ·rw[l];intro c;have:=dw c;have c:=m1.O n;simp at this;omega
   grind
   grind
   ·simpa using r
def ai.ac:ai:=λ_=>fL
theorem ai.m(w:ag):ai.ac.In w:=λ_ _ h=>by cases h
def cQ(w:ag)(a:Nat)(s:ByteArray)(p:bT):Prop:=∃e,w.1[a]?=some (.cells #[.string s,.int .i64 p.k,.string p.t,.int .i64 p.a] e)
def bR(s:ByteArray)(p:bT)(k:Int):Bool×bT:=if p.k=k then(true,cT s (p.a+p.t.size))else(false,p)
def eJ(s:ByteArray)(p:bT):Prop:=p.a+p.t.size<=s.size∧(p.k≠0->0<p.t.size)
theorem po{s:ByteArray}{a:Nat}(h:a<=s.size):eJ s<|cT s a:=by
 have:=FE s h;unfold cT eJ;split;simp_all;have:=NM (s:=s) (a:=a+je s a) aa;simp_all
theorem sU(s:ByteArray)(a):a<=(cT s a).a:=by
 unfold cT;grind
theorem nQ(k)(g:d.k=k)(l:cQ b a c d)(h:eJ c d)(i:c.size<=maxLen):
  aH 180 #[a,.int .i64 k] b λf e=>f=.returned true∧cQ e a c (cT c<|d.a+d.t.size)∧ae (·=a) b e:=by
 obtain⟨f,j⟩:=l;replace h:=h.1;unfold maxLen at i;let⟨ax,c1,c2,c3⟩:=Gl j;subst g;have g:∀b,aH 124 #[c,.int .i64<|(d.a:Int)+(d.t.size:Int)] b λf e=>f=.returned (cT c<|d.a+d.t.size).B∧xh b b e:=by
  intro b;rw[<-Int.natCast_add];exact Lq c (d.a+d.t.size) b h i
 have n:=(fU.1 j).1;obtain⟨q,h⟩:=aT<|cT c<|d.a+d.t.size;rw[<-h]at g;have k:ay<|q=cT c _:=h;unfold bT.B at g;go_enter func180,ntmps180;go_wp2;apply dG (λi=>i==17||i==20) ah ah;intro S h h h h h m;iterate 17 (refine aD ?_)
 refine a_ λl h=>?_;go_wp2_with (go_at_call 124;refine(g _).mono ?_;rintro f e ⟨rfl,i⟩);have g:=(i.5 _ n).trans j;apply h _ _ ah (λ_=>m _<|(Ig _ _).drew.trans<|i.mono af);refine aD ?_;refine aD ?_
 refine a_ λl h=>?_;obtain⟨-,j,j,j⟩:=Gl g;have j:e.frozen? ⟨a,1,_⟩=false:=kH g;have j:e.frozen? ⟨a,2,_⟩=false:=kH g;have j:e.frozen? ⟨a,3,_⟩=false:=kH g;go_wp2;apply h _ _ ah (cS ah);apply cR;go_wp2;go_ret;rw[<-k.out];refine⟨rfl,⟨f,?_⟩,?_⟩
 ·exact fQ (fQ (fQ g _) _) _
 ·have f:ae (·=a) b e:=(ae.T _ b).m.B (ae.eT i).Z;exact((f.U (p:=⟨a,1,_⟩) af _).U (p:=⟨a,2,_⟩) af _).U (p:=⟨a,3,_⟩) af _
theorem nh(k)(e: ¬d.k=k)(f:cQ b a c d):aH 180 #[a,.int .i64 k] b λe g=>e=.returned false∧b=g:=by
 obtain⟨e,e⟩:=f;obtain⟨-,c1,-⟩:=Gl e;go_enter func180,ntmps180;go_wp2;go_ret;simp_all
theorem kE{k:Int}(a:eJ c d):eJ c (bR c d k).2:=by
 unfold bR;split;exact po a.1;exact a
structure dW where
 t:ByteArray
 v:Bool
def dW.B(x:dW):List Value:= [.string x.t,.bool x.v]
def dr(s:ByteArray)(p:bT):dW×Bool×bT:=
 if(bR s p 4).1 then(⟨p.t,true⟩,true,(bR s p 4).2)
 else if(bR s p 2).1 then(⟨p.t,false⟩,true,(bR s p 2).2)
 else(⟨p.t,false⟩,bR s p 3)
theorem cQ.B(h:cQ b a c d)(o:bI):cQ (b.alloc o) a c d:=by
 obtain⟨f,e⟩:=h;exact⟨f,(lZ b o _ (fU.1 e).1).trans e⟩
theorem cQ.I{w:ag}(h:cQ w a c d){b:bC}(g:a≠b.1):cQ (w.setCell b e) a c d:=by
 obtain⟨f,i⟩:=h;exact⟨f,(uT w b e _ g).trans i⟩
theorem cQ.T{s:ByteArray}{p:bT}(h:cQ b a s p)(d:b.grownBy l e.ownBlock)(i:b.ownsRow j f C e f6 L)(g:a<j):cQ l a s p:=by
 obtain⟨f,c⟩:=h;exact⟨f,yu d i c g⟩
theorem cQ.O{w:ag}{p:bT}(h:cQ w a c p):cQ w.drew a c p:=h
theorem cQ.V{D:Nat->Prop}(h:cQ b a c d)(i:ae D b l)(f: ¬D a):cQ l a c d:=by
 obtain⟨e,g⟩:=h;exact⟨e,i.O g f⟩
theorem cQ.U{p:bT}(h:cQ b f c p)(d: ¬a=f){x y z:aq}:cQ (((b.setCell ⟨a,0,none⟩ x).setCell ⟨a,1,none⟩ y).setCell ⟨a,2,none⟩ z) f c p:=
 ((h.I<|kg d).I<|kg d).I<|kg d
theorem C5(h:ae s b l):ae s b<|((l.setCell ⟨b,0,none⟩ e).setCell ⟨b,1,none⟩ n).setCell ⟨b,2,none⟩ v:=
 ((h.U (p:=⟨b.1.size,0,none⟩) (.inl<|cP _) _).U (p:=⟨b.1.size,1,none⟩) (.inl<|cP _) _).U (p:=⟨b.1.size,2,none⟩) (.inl<|cP _) _
theorem cQ.bN(h:cQ b a c d):b.cell? ⟨a,1,none⟩=some (.int .i64 d.k):=by
 obtain⟨e,f⟩:=h;exact(cI b _ 1 _ e _ f).trans rfl
theorem cQ.Z(h:cQ b a c d):b.cell? ⟨a,3,none⟩=some (.int .i64 d.a):=by
 obtain⟨e,f⟩:=h;exact(cI b _ 3 _ e _ f).trans rfl
theorem cQ.m(h:cQ b a c d):a<b:=by
 obtain⟨e,e⟩:=h;grind
theorem cQ.Y(h:cQ b a c d):b.cell? ⟨a,2,none⟩=some (.string d.t):=by
 obtain⟨e,f⟩:=h;exact(cI b _ 2 _ e _ f).trans rfl
theorem Um(e:cQ b a c d)(q:eJ c d)(r:c.size<=maxLen):
  aH 242 #[a] b λf g=>f=.returned (.tuple #[.agg #[.string (dr c d).1.t,.bool (dr c d).1.v],.bool (dr c d).2.1])∧cQ g a c (dr c d).2.2∧ae (·=a) b g:=by
 have c2:=e.Y;have g:=e.m;have k:ay (¬b=a):=by show ¬_;omega
 have fin:∀ {w2:ag} {x y:aq} {o:bI},cQ w2 a c (cT c (d.a+d.t.size))->ae (·=a) (b.alloc o) w2->
   cQ ((w2.setCell ⟨b.1.size,0,none⟩ x).setCell ⟨b.1.size,1,none⟩ y) a c (cT c (d.a+d.t.size))∧ae (·=a) b ((w2.setCell ⟨b.1.size,0,none⟩ x).setCell ⟨b.1.size,1,none⟩ y):=by
  intro w2 x y o g i;exact⟨(g.I (kg k.out)).I (kg k.out),((((ae.T _ b).I o).B i).U (p:=⟨b.1.size,0,none⟩) (.inl (cP _)) _).U (p:=⟨b.1.size,1,none⟩) (.inl (cP _)) _⟩
 by_cases j:d.k=4;have h:dr c d=(⟨d.t,true⟩,true,cT c (d.a+d.t.size)):=by simp[dr,bR,j]
 rw[h];go_enter func242,ntmps242;go_wp2_with (go_at_call 180;refine(nQ 4 j (e.B _) q r).mono ?_;rintro f w2 ⟨rfl,l,g⟩;obtain⟨m,n,s,t⟩:=bJ (g.dY k.out));refine fl (v:=.tuple _) (by simp[results,go_sem,m,n]) rfl ⟨rfl,fin l g⟩;by_cases i:d.k=2;have h:dr c d=(⟨d.t,false⟩,true,cT c (d.a+d.t.size)):=by simp[dr,bR,i]
 rw[h];go_enter func242,ntmps242;go_wp2_with (first|(go_at_call_of 180 (4:Int);refine(nh 4 j (e.B _)).mono ?_;rintro f w2 ⟨rfl,rfl⟩)|(go_at_call_of 180 (2:Int);refine(nQ 2 i (e.B _) q r).mono ?_;rintro f w2 ⟨rfl,l,g⟩;obtain⟨m,n,s,t⟩:=bJ (g.dY k.out)));refine fl (v:=.tuple _) (by simp[results,go_sem,m,n]) rfl ⟨rfl,fin l g⟩;by_cases o:d.k=3;have h:dr c d=(⟨d.t,false⟩,true,cT c (d.a+d.t.size)):=by simp[dr,bR,o]
 rw[h];go_enter func242,ntmps242;go_wp2_with (first|(go_at_call_of 180 (4:Int);refine(nh 4 j (e.B _)).mono ?_;rintro f w2 ⟨rfl,rfl⟩)|(go_at_call_of 180 (2:Int);refine(nh 2 i (e.B _)).mono ?_;rintro f w2 ⟨rfl,rfl⟩)|(go_at_call_of 180 (3:Int);refine(nQ 3 o (e.B _) q r).mono ?_;rintro f w2 ⟨rfl,l,g⟩;obtain⟨m,n,s,t⟩:=bJ (g.dY k.out)));refine fl (v:=.tuple _) (by simp[results,go_sem,m,n]) rfl ⟨rfl,fin l g⟩;have h:dr c d=(⟨d.t,false⟩,false,d):=by simp[dr,bR,i,o,j]
 rw[h];go_enter func242,ntmps242;go_wp2_with (first|(go_at_call_of 180 (4:Int);refine(nh 4 j (e.B _)).mono ?_;rintro f w2 ⟨rfl,rfl⟩)|(go_at_call_of 180 (2:Int);refine(nh 2 i (e.B _)).mono ?_;rintro f w2 ⟨rfl,rfl⟩)|(go_at_call_of 180 (3:Int);refine(nh 3 o (e.B _)).mono ?_;rintro f w2 ⟨rfl,rfl⟩));refine fl (v:=.tuple _) (by simp[results,go_sem]) rfl ⟨rfl,e.B _,(ae.T _ _).I _⟩
theorem Mw:fW Tryz.prog 231 331 2 24:=.B underlying231 (z:=.agg #[iJ,false]) ah rfl aA
structure fg where
 n:ByteArray
 ts:List dW
def Ey(_:ai)(c:List aq)(x:dW):Prop:=c=x.B
def jR(h:ai)(c:List aq)(x:fg):Prop:=∃v,c= [.string x.n,v]∧h.list 2 Ey v x.2
variable{r:fg}{e3:List dW}{e8:dW}
theorem jR.I(e:i.le F)(H:jR i L r):jR F L r:=by
 obtain⟨v,a,b⟩:=H;exact⟨v,a,b.B (h:=i) (k:=F) (λ_ _ i=>i) e⟩
def gp(s:ByteArray):Nat->List dW->bT->List dW×Bool×bT
 |0,ts,p=>(ts,false,p)
 |n+1,ts,p=>
  if(dr s p).2.1 then
   (if(bR s (dr s p).2.2 7).1 then gp s n (ts++ [(dr s p).1]) (bR s (dr s p).2.2 7).2
    else(ts++ [(dr s p).1],bR s (dr s p).2.2 6))
  else(ts,(dr s p).2)
def dE(s:ByteArray)(n:Nat)(p:bT):fg×Bool×bT:=
 if(bR s p 2).1 then
  (if(bR s (bR s p 2).2 5).1 then(⟨p.t,(gp s n [] (bR s (bR s p 2).2 5).2).1⟩,(gp s n [] (bR s (bR s p 2).2 5).2).2)
   else(⟨p.t,[]⟩,bR s (bR s p 2).2 5))
 else(⟨p.t,[]⟩,bR s p 2)
theorem G'(h:eJ c d):eJ c (dr c d).2.2∧((dr c d).2.1=true->d.a+1<=(dr c d).2.2.a):=by
 have a:=po h.1;have a:=sU c<|d.a+d.t.size;have a:=h.2;unfold dr bR;grind
theorem adF(h:(e8,true,d)=dr c w)(b:d.k=7):gp c (a+1) e3 w=gp c a (e3++ [e8]) (cT c<|d.a+d.t.size):=by
 rw[gp,<-h];simp[bR,b]
theorem adE(h:(e8,true,d)=dr c w)(b: ¬d.k=7):gp c (a+1) e3 w=(e3++ [e8],bR c d 6):=by
 rw[gp,<-h];simp[bR,b]
theorem adC(h:(e8,false,w)=dr c d):gp c (a+1) e3 d=(e3,false,w):=by
 rw[gp,<-h];simp
theorem KY(b:d.k=2)(e:(cT c<|d.a+d.t.size).k=5):dE c a d=(⟨d.t,(gp c a []<|cT c<|(cT c<|d.a+d.t.size).a+(cT c<|d.a+d.t.size).t.size).1⟩,(gp c a []<|cT c<|(cT c<|d.a+d.t.size).a+(cT c<|d.a+d.t.size).t.size).2):=by
 simp[dE,bR,b,e]
theorem S4(b:d.k=2)(e: ¬(cT c<|d.a+d.t.size).k=5):dE c a d=(⟨d.t,[]⟩,false,cT c<|d.a+d.t.size):=by
 simp[dE,bR,b,e]
theorem S3(b: ¬d.k=2):dE c a d=(⟨d.t,[]⟩,false,d):=by
 simp[dE,bR,b]
def IZ(w:ag)(d:Nat)(s:ByteArray)(r:fg×Bool×bT)(e:Iq)(a:ag):Prop:=
 ∃x b l c,e=.returned (.tuple #[.agg #[.string x,.slice b l c],.bool r.2.1])∧cQ a d s r.2.2∧ae (·=d) w a∧
  (r.2.1=true->∃k:ai,k.In a∧(∀a o,k a=some o->w<=a)∧jR k [.string x,.slice b l c] r.1)
theorem Lu{w:ag}(F)(f0:c.size+1<=F+d.a)(E:cQ w a c d)(T:eJ c d)(f2:c.size<=1099511627776):
  aH 179 #[a] w (IZ w a c (dE c F d)):=by
 have D:c.size<=maxLen:=by unfold maxLen;omega
 have c2:=E.Y;have br:=E.m;have B:∀y,w.1.size+2<=y->¬y=a:=by intro y d4 k;omega
 have g:ay (¬w.1.size=a∧¬w.1.size+1=a):=⟨aa,aa⟩;by_cases l:d.k=2
 ·by_cases I:(cT c (d.a+d.t.size)).k=5
  ·go_enter func179,ntmps179;go_wp2_with (first|(go_at_call_of 180 (2:Int);refine(nQ 2 l ((E.B _).B _) T D).mono ?_;rintro h w2 ⟨rfl,L,b⟩)|(go_at_call_of 180 (5:Int);refine(nQ 5 I L (po T.1) D).mono ?_;rintro h w3 ⟨rfl,ax,V⟩));have A:=V.O (b.O (ic w _ _) g.out.1) g.out.1;have Q:=V.O (b.O (eK w _ _) g.out.2) g.out.2;have K:=((((ae.T _ w).I _).I _).B b).B V;clear b V L c2
   go_loopg [6] F (λgk _ wr=>∃(ts:List dW)(q:bT)(v:aq),cQ wr a c q∧eJ c q∧c.size+1<=gk+q.a∧ts.length<=q.a∧gp c gk ts q=gp c F [] (cT c ((cT c (d.a+d.t.size)).a+(cT c (d.a+d.t.size)).t.size))∧ae (·=a) w wr∧
    wr.1[w.1.size]?=some (.cells #[.string iJ,.slice none 0 0] 233)∧wr.1[w.1.size+1]?=some (.cells #[.string d.t,v] 233)∧wr.ownsRow (w.1.size+2) 331 2 v ts.length (ts.map dW.B).flatten)
   case atStart=>
    have t:=po (s:=c) T.1;have d1:=sU c (d.a+d.t.size);have l:=sU c ((cT c (d.a+d.t.size)).a+(cT c (d.a+d.t.size)).t.size);exact⟨[],_,_,ax,po t.1,aa,af,rfl,K,A,Q,J4 _ _ _ _⟩
   case round=>
    obtain⟨ts,q,v,d7,U,e8,f4,c1,K,A,Q,S⟩:=hrel;have Z:ay (gp c gk ts q=gp c F [] (cT c ((cT c (d.a+d.t.size)).a+(cT c (d.a+d.t.size)).t.size))):=c1;clear c1 ax;obtain⟨b2,rfl⟩:∃b2,gk=b2+1:=⟨gk- 1,aI U.1⟩;have f3:ts.length<=1099511627776:=aI U.1
    have M:=G' U;have m:=Um d7 U D;obtain⟨c4,a8⟩:=aT (dr c q);rw[<-a8]at M m;have Y:ay (c4=dr c q):=a8;clear a8;obtain⟨x,ok,N⟩:=c4;cases ok
    ·go_wp2_with (go_at_call 242;refine m.mono ?_;rintro h w2 ⟨rfl,C,b⟩;have a9:=aP (b.O A g.out.1);obtain⟨r,a1,G,H⟩:=bJ (b.O A g.out.1));refine fl (v:=.tuple #[.agg #[.string iJ,.slice none 0 0],.bool false]) (by simp[results,go_sem,r,a1,a9];rfl) rfl ?_;rw[KY l I,<-Z.out,adC Y.out];exact⟨_,_,_,_,rfl,((C.I bQ).I bQ).B _,(((K.B b).U (p:=⟨_,0,_⟩) af _).U (p:=⟨_,1,_⟩) af _).I _,af⟩
    ·have d1:=M.2 rfl;by_cases P:N.k=7
     ·go_wp2_with (first|(go_at_call 242;refine m.mono ?_;rintro h w2 ⟨rfl,C,b⟩;have u:=b.O Q g.out.2;have a2:=b.O A g.out.1;have a9:=aP u;obtain⟨b0,b1,G,H⟩:=bJ u)|(at_builtin;go_loud (refine PU Mw rfl (.tmp 31) (.tmp 33) rfl (w.1.size+2) v ts.length _ rfl ((World.ownsRow.B S b B).alloc _) #[.string x.t,.bool x.v] rfl (by simp[eP]) rfl af aa aa bQ ?_;intro f e w3 a5 j;have n:=((World.ownsRow.B S b B).alloc (.cells #[.string x.t,.bool x.v] 331)).alloc (.cells #[.string x.t,.bool x.v] 331);have J:=yu j n (Cv u) aa;have a3:=yu j n (Cv a2) aa;obtain⟨c6,c7,c9,d0⟩:=bJ J))|(go_at_call_of 180 (7:Int);refine(nQ 7 P (cQ.I ((C.B _).B _|>.T j n aa) bQ) M.1 D).mono ?_;rintro h w4 ⟨rfl,d8,W⟩))
      go_roundg b2
      case measure=>omega
      case rel=>
       have l:=sU c (N.a+N.t.size);refine⟨_,_,.slice (some ⟨f,0,none⟩) (ts.length+1) e,d8,po M.1.1,aa,by grind,(adF Y.out P).symm.trans Z.out,?_,?_,?_,?_⟩
       ·exact((((((K.B b).I _).I _).ao j aa aa).U (p:=⟨_,1,_⟩) af _)).B W
       ·exact W.O ((uT _ _ _ _ af).trans a3) aa
       ·exact W.O (fQ J _) aa
       ·rw[kK,iL,D4];exact World.ownsRow.B (World.ownsRow.B a5 ((ae.T (·=w.1.size+1) _).U (p:=⟨_,1,_⟩) af _) aa) W B
     ·go_wp2_with (first|(go_at_call 242;refine m.mono ?_;rintro h w2 ⟨rfl,C,b⟩;have u:=b.O Q g.out.2;have a2:=b.O A g.out.1;have a9:=aP u;obtain⟨b0,b1,G,H⟩:=bJ u)|(at_builtin;go_loud (refine PU Mw rfl (.tmp 31) (.tmp 33) rfl (w.1.size+2) v ts.length _ rfl ((World.ownsRow.B S b B).alloc _) #[.string x.t,.bool x.v] rfl (by simp[eP]) rfl af aa aa bQ ?_;intro f e w3 a5 j;have n:=((World.ownsRow.B S b B).alloc (.cells #[.string x.t,.bool x.v] 331)).alloc (.cells #[.string x.t,.bool x.v] 331);have J:=yu j n (Cv u) aa;have a3:=yu j n (Cv a2) aa;obtain⟨c6,c7,c9,d0⟩:=bJ J))|(go_at_call_of 180 (7:Int);refine(nh 7 P (cQ.I ((C.B _).B _|>.T j n aa) bQ)).mono ?_;rintro h w4 ⟨rfl,rfl⟩));have b6:ae (·=a) w (w3.setCell ⟨w.1.size+1,1,none⟩ (.slice (some ⟨f,0,none⟩) (ts.length+1) e)):=((((K.B b).I _).I _).ao j n aa).U (p:=⟨w.1.size+1,1,none⟩) (.inl (zw _)) _;have a6:cQ (w3.setCell ⟨w.1.size+1,1,none⟩ (.slice (some ⟨f,0,none⟩) (ts.length+1) e)) _ c _:=cQ.I ((C.B _).B _|>.T j n aa) bQ;have f5:=aP J;have a4:=(uT _ ⟨w.1.size+1,1,none⟩ (.slice (some ⟨f,0,none⟩) (ts.length+1) e) _ af).trans a3;have b8:(w3.setCell ⟨w.1.size+1,1,none⟩ (.slice (some ⟨f,0,none⟩) (ts.length+1) e)).ownsRow (w.1.size+2) 331 2 (.slice (some ⟨f,0,none⟩) (ts++ [x]).length e) (ts++ [x]).length ((ts++ [x]).map dW.B).flatten:=by
       rw[kK,iL,D4];exact World.ownsRow.B a5 ((ae.T (·=w.1.size+1) w3).U (p:=⟨w.1.size+1,1,none⟩) (.inr rfl) _) (λy d4 k=>aa)
      have fin:∀(o:ag)(a0:Bool)(b3:bT),bR c N 6=(a0,b3)->cQ o a c b3->ae (·=a) w o->o.ownsRow (w.1.size+2) 331 2 (.slice (some ⟨f,0,none⟩) (ts++ [x]).length e) (ts++ [x]).length ((ts++ [x]).map dW.B).flatten->
        IZ w a c (dE c F d) (.returned (.tuple #[.agg #[.string d.t,.slice (some ⟨f,0,none⟩) (ts.length+1) e],.bool a0])) o:=by
       intro o a0 b3 z a7 d2 b9;rw[KY l I,<-Z.out,adE Y.out P,z];refine⟨_,_,_,_,rfl,a7,d2,λ_=>?_⟩
       obtain⟨y,d5,_,d6,b7⟩:=FZ (α:=dW) (xs:=ts++ [x]) (R:=Ey) (ai.m o) b9 af (by intro c8 m;obtain⟨e2,_,rfl⟩:=ei.1 m;rfl) (by
        intro y _ X c8 e2 m d9;rw[nI,d9]at m
        exact(dw m).symm)
       refine⟨y,d5,λaK e1 d3=>?_,_,rfl,?_⟩
       ·rcases d6 aK e1 d3 with k|k
        ·cases k
        ·exact dI aa (b9.lt _ k).1
       ·rw[kK]at b7;exact b7
      by_cases z:N.k=6
      all_goals
       have f1: ¬w.1.size+1=a:=g.out.2;refine qN (·=a) (λX=>X==2||X==3||X==4) ah ah ?_;intro e3 e4 e7 e5 e6 b4;refine aD ?_;refine aD ?_
       refine a_ λO i=>?_
      ·go_wp2_with (go_at_call 180;refine(nQ 6 z a6.O M.1 D).mono ?_;rintro h o ⟨rfl,a7,c3⟩);have b5:=c3.O a4 aa;have e0:=aP b5;let⟨r,a1,G,H⟩:=bJ b5;have t:ae (·=a) (w3.setCell ⟨w.1.size+1,1,none⟩ (.slice (some ⟨f,0,none⟩) (ts.length+1) e)) o:=(ae.T _ _).m.B c3;apply i _ _ ah (λ_=>b4 _ t);refine a_ λO i=>?_;go_wp2;apply i _ _ ah (cS ah);refine a_ λO i=>?_;go_wp2;apply i _ _ ah (cS ah);apply cR;go_wp2;refine fl (v:=.tuple #[.agg #[.string d.t,.slice (some ⟨f,0,none⟩) (ts.length+1) e],.bool true]) (by simp[results,go_sem,r,a1]) rfl ?_;exact fin _ _ _ (by simp[bR,z]) ((a7.I bQ).I bQ) ((((b6.B t)).U (p:=⟨w.1.size,0,none⟩) (.inl (cP _)) _).U (p:=⟨w.1.size,1,none⟩) (.inl (cP _)) _) (Ir (Ir (World.ownsRow.B b8 t B) af _) af _)
      ·go_wp2_with (go_at_call 180;refine(nh 6 z a6.O).mono ?_;rintro h o ⟨rfl,rfl⟩);obtain⟨r,a1,G,H⟩:=bJ a4;have e0:=aP a4;have t:ae (·=a) (w3.setCell ⟨w.1.size+1,1,none⟩ (.slice (some ⟨f,0,none⟩) (ts.length+1) e)) _:=(ae.T _ _).m;apply i _ _ ah (λ_=>b4 _ t);refine a_ λO i=>?_;go_wp2;apply i _ _ ah (cS ah);refine a_ λO i=>?_;go_wp2;apply i _ _ ah (cS ah);apply cR;go_wp2;refine fl (v:=.tuple #[.agg #[.string d.t,.slice (some ⟨f,0,none⟩) (ts.length+1) e],.bool false]) (by simp[results,go_sem,r,a1]) rfl ?_;exact fin _ _ _ (by simp[bR,z]) ((a6.I bQ).I bQ).O ((b6.U (p:=⟨w.1.size,0,none⟩) (.inl (cP _)) _).U (p:=⟨w.1.size,1,none⟩) (.inl (cP _)) _).m (Ir (Ir b8 af _) af _).drew
  ·go_enter func179,ntmps179;go_wp2_with (first|(go_at_call_of 180 (2:Int);refine(nQ 2 l ((E.B _).B _) T D).mono ?_;rintro h w2 ⟨rfl,L,b⟩;obtain⟨r,a1,G,H⟩:=bJ (b.O (ic w _ _) g.out.1))|(go_at_call_of 180 (5:Int);refine(nh 5 I L).mono ?_;rintro h w3 ⟨rfl,rfl⟩));refine fl (v:=.tuple #[.agg #[.string iJ,.slice none 0 0],.bool false]) (by simp[results,results179,go_sem,r,a1];rfl) rfl ?_;rw[S4 l I];exact⟨_,_,_,_,rfl,(L.I bQ).I bQ,(((((ae.T _ w).I _).I _).B b).U (p:=⟨w.1.size,0,none⟩) (.inl (cP _)) _).U (p:=⟨w.1.size,1,none⟩) (.inl (cP _)) _,λk=>by cases k⟩
 ·go_enter func179,ntmps179;go_wp2_with (go_at_call_of 180 (2:Int);refine(nh 2 l ((E.B _).B _)).mono ?_;rintro h w2 ⟨rfl,rfl⟩);refine fl (v:=.tuple #[.agg #[.string iJ,.slice none 0 0],.bool false]) (by simp[results,results179,go_sem];rfl) rfl ?_;rw[S3 l];exact⟨_,_,_,_,rfl,(E.B _).B _,((ae.T _ w).I _).I _,λk=>by cases k⟩
theorem Mv:fW Tryz.prog 234 309 3 48:=.B underlying234 (z:=.agg #[iJ,.slice none 0 0,false]) ah rfl aA
structure fj where
 a:fg
 neg:Bool
def ko(h:ai)(c:List aq)(x:fj):Prop:=∃d,jR h d x.a∧c=d++ [.bool x.2]
theorem ko.I(e:i.le F){x:fj}(H:ko i L x):ko F L x:=by
 obtain⟨d,a,b⟩:=H;exact⟨d,a.I e,b⟩
theorem ko.O{h:ai}{b:Bool}(H:jR h [e,n] r):ko h #[e,n,b].1 ⟨r,b⟩:=⟨[e,n],H,rfl⟩
def fE(s:ByteArray)(N:Nat):Nat->List fj->bT->List fj×Bool×bT
 |0,a,p=>(a,false,p)
 |n+1,a,p=>
  let g:=bR s p 9
  let r:=dE s N g.2
  if r.2.1 then
   (if(bR s r.2.2 7).1 then fE s N n (a++ [⟨r.1,g.1⟩]) (bR s r.2.2 7).2 else(a++ [⟨r.1,g.1⟩],true,r.2.2))
  else(a,false,r.2.2)
variable{b6:List fj}
theorem Zc(h:d5=bR c w 9∧(r,true,d)=dE c a d5.2)(b:d.k=7):fE c a (f+1) b6 w=fE c a f (b6++ [⟨r,d5.1⟩]) (cT c<|d.a+d.t.size):=by
 rw[fE];simp[<-h.1,<-h.2];simp[bR,b]
theorem Zb(h:d5=bR c w 9∧(r,true,d)=dE c a d5.2)(b: ¬d.k=7):fE c a (f+1) b6 w=(b6++ [⟨r,d5.1⟩],true,d):=by
 rw[fE];simp[<-h.1,<-h.2];simp[bR,b]
theorem Y9(h:d5=bR c d 9∧(r,false,w)=dE c a d5.2):fE c a (f+1) b6 d=(b6,false,w):=by
 rw[fE];grind
theorem Pv{s:ByteArray}:∀(n) (ts:List dW)(p:bT),eJ s p->eJ s (gp s n ts p).2.2∧p.a<=(gp s n ts p).2.2.a:=by
 intro n;induction n with
 |zero=>intro ts p h;exact⟨h,cP _⟩
 |succ n a=>
  intro ts p h;have a:=G' h;have b:p.a<=(dr s p).2.2.a:=by
   cases b:(dr s p).2.1 with
   |true=>grind
   |false=>
    revert b;unfold dr bR;grind
  have b:∀k,eJ s (bR s (dr s p).2.2 k).2∧(dr s p).2.2.a<=(bR s (dr s p).2.2 k).2.a:=by
   intro k;refine⟨kE a.1,?_⟩;unfold bR;split;have:=sU s<|(dr s p).2.2.a+(dr s p).2.2.t.size;simp only;omega;exact cP _
  rw[gp];grind
theorem hP{s:ByteArray}{p:bT}(k):p.a<=(bR s p k).2.a:=by
 unfold bR;split;have:=sU s<|p.a+p.t.size;grind;grind
theorem adx(b:f5≠0)(e:eJ c d)(h:(bR c d f5).1=true):d.a+1<=(bR c d f5).2.a:=by
 unfold bR at*;split at h;rename_i a;have:=sU c<|d.a+d.t.size;have:=e.2<|aw a b;grind;grind
theorem vR{n:Nat}(h:eJ c d):eJ c (dE c n d).2.2∧((dE c n d).2.1=true->d.a+1<=(dE c n d).2.2.a):=by
 unfold dE;split;rename_i a;have a1:=adx aA h a;have a2:=kE (k:=2) h;split;have b1:=hP (s:=c) (p:=(bR c d 2).2) 5;have b2:=Pv (s:=c) n [] _<|kE (k:=5) a2;grind;exact⟨kE a2,λ_=>by grind⟩;rename_i a;exact⟨kE h,λb=>absurd b a⟩
def R9(w:ag)(d:Nat)(s:ByteArray)(r:List fj×Bool×bT)(e:Iq)(a:ag):Prop:=
 ∃b l c,e=.returned (.tuple #[.slice b l c,.bool r.2.1])∧cQ a d s r.2.2∧ae (·=d) w a∧
  (r.2.1=true->∃k:ai,k.In a∧(∀a o,k a=some o->w<=a)∧k.list 3 ko (.slice b l c) r.1)
theorem ES(k)(e:cQ b a c d)(h:eJ c d)(i:c.size<=maxLen):
  aH 180 #[a,.int .i64 k] b λg f=>g=.returned (.bool (bR c d k).1)∧cQ f a c (bR c d k).2∧ae (·=a) b f:=by
 unfold bR;split;exact nQ k (by omega) e h i;exact(nh k aa e).mono λg f ⟨g,f⟩=>⟨g,f▸e,f▸.T _ _⟩
theorem T9{w:ag}(n N)(c6:c.size+1<=N)(b4:c.size+1<=n+d.a)(a5:cQ w a c d)(b5:eJ c d)(b8:c.size<=1099511627776):
  aH 181 #[a] w<|R9 w a c<|fE c N n [] d:=by
 have a3:c.size<=maxLen:=by unfold maxLen;omega
 have d0:=a5.m;have g:∀k,w.1.size<=k->¬k=a:=aa
 go_enter func181,ntmps181;go_wp2
 go_loopg [4] n (λgk c3 wr=>∃(G:List fj)(q:bT)(k:ai),cQ wr a c q∧eJ c q∧c.size+1<=gk+q.a∧G.length<=q.a∧fE c N gk G q=fE c N n [] d∧ae (·=a) w wr∧
  (∀b o,k b=some o->w.1.size<=b)∧aM wr w.1.size 309 3 ko k c3 G)
 case atStart=>exact⟨[],d,ai.ac,a5,b5,b4,af,rfl,.T _ _,λ_ _ h=>(nomatch h),.m<|ai.m _⟩
 case round=>
  obtain⟨G,q,k,b6,O,c7,c9,b9,I,v,i⟩:=hrel;have Y:ay<|fE c N _ _ q=fE c N n _ d:=b9;obtain⟨W,rfl⟩:∃W,gk=W+1:=⟨gk- 1,aI O.1⟩;have c8:G.length<=1099511627776:=aI O.1
  obtain⟨t,Z⟩:=aT<|bR c q 9;have J:=ES 9 b6 O a3;have T:=kE (k:=9) O;have b3:=hP (s:=c) (p:=q) 9;rw[<-Z]at J T b3;obtain⟨a6,a2⟩:=aT<|dE c N t.2;have P:=vR (n:=N) T;have K:=λ{w} (h:cQ w a c _)=>Lu (w:=w) N aa h T b8;rw[<-a2]at P K;have R:ay<|t=bR c q 9∧a6=dE c N t.2:=aJ;clear Z a2;obtain⟨a7,c2,X⟩:=a6;have m:∀b o,k b=some o->¬b=a:=aJ;have d3:=I.4;cases c2
  ·go_wp2_with (first|(go_at_call_of 180 (9:Int);refine J.mono ?_;rintro r w2 ⟨rfl,C,e⟩)|(go_at_call 179;refine(K C).mono ?_;rintro r w3 ⟨x,u,y,j,rfl,D,f,-⟩))
   go_ret2
   rw[<-Y.out,Y9 R.out];exact⟨_,_,_,rfl,D.B _,((I.B e).B f).I _,af⟩
  ·have d2:=P.2 rfl;have a0:∀ {w2 w3:ag} {F:ai},ae (·=a) wr w2->(∀b o,F b=some o->w2.1.size<=b)->∀b o,(k.or F) b=some o->w.1.size<=b:=by
    intro w2 w3 F b2 h b o l;have:=b2.4;obtain z|z:=ai.T l
    ·grind
    ·grind
   by_cases H:X.k=7
   ·go_wp2_with (first|(go_at_call_of 180 (9:Int);refine J.mono ?_;rintro r w2 ⟨rfl,C,e⟩)|(go_at_call 179;refine(K C).mono ?_;rintro r w3 ⟨x,u,y,j,rfl,D,f,V⟩;obtain⟨F,A,B,S⟩:=V rfl;have ax:=e.4;have c1:=f.4;have U:=(((i.I e g m).I f g m).cW A (λb o h z=>dX (B b o h)<|(i.B b z).2) λQ v j x=>ko.I v).I ((ae.T bE w3).I<|.cells #[x,.slice u y j] 233) i2 i3)|(at_builtin;refine tz Mv rfl (.tmp 17) (.tmp 21) rfl U rfl ⟨a7,t.1⟩ #[x,.slice u y j,t.1] (ko.O<|S.I<|ai.I ((i.I e g m).I f g m).V A) rfl (by simp[eP]) rfl af aa aa bQ ?_;intro b1 a8 w4 L E;have M:=cQ.V (D.B _) E λh=>aI<|(i.B a h).1)|(go_at_call_of 180 (7:Int);refine(nQ 7 H M P.1 a3).mono ?_;rintro r c4 ⟨rfl,b7,a4⟩))
    go_roundg W
    case measure=>omega
    case rel=>
     have d1:=sU c<|X.a+X.t.size;have a1:=a0 (w3:=w3) e B
     exact⟨_,_,_,b7,po P.1.1,aa,by grind,(Zc R.out H).symm.trans aa,
      ((((I.B e).B f).I _).V E λb l=>.inl (i.B b l).1).B a4,a1,L.I a4 g λb o l=>g b<|a1 b o l⟩
   ·go_wp2_with (first|(go_at_call_of 180 (9:Int);refine J.mono ?_;rintro r w2 ⟨rfl,C,e⟩)|(go_at_call 179;refine(K C).mono ?_;rintro r w3 ⟨x,u,y,j,rfl,D,f,V⟩;obtain⟨F,A,B,S⟩:=V rfl;have ax:=e.4;have c1:=f.4;have U:=(((i.I e g m).I f g m).cW A (λb o h z=>dX (B b o h)<|(i.B b z).2) λQ v j x=>ko.I v).I ((ae.T bE w3).I<|.cells #[x,.slice u y j] 233) i2 i3)|(at_builtin;refine tz Mv rfl (.tmp 17) (.tmp 21) rfl U rfl ⟨a7,t.1⟩ #[x,.slice u y j,t.1] (ko.O<|S.I<|ai.I ((i.I e g m).I f g m).V A) rfl (by simp[eP]) rfl af aa aa bQ ?_;intro b1 a8 w4 L E;have M:=cQ.V (D.B _) E λh=>aI<|(i.B a h).1)|(go_at_call_of 180 (7:Int);refine(nh 7 H M).mono ?_;rintro r c4 ⟨rfl,rfl⟩))
    go_ret2
    rw[<-Y.out,Zb R.out H];refine⟨_,_,_,rfl,M,(((I.B e).B f).I _).V E λb l=>.inl (i.B b l).1,λ_=>?_⟩;obtain⟨Q,a9,_,b0,aK⟩:=L.U λQ v j x=>ko.I v;exact⟨Q,a9,λb o l=>(b0 b o l).elim ((a0 (w3:=w3) e B) b o) λh=>(L.B b h).1,aa⟩
structure bk where
 head:fg
 body:List fj
def dg(h:ai)(c:List aq)(x:bk):Prop:=∃d v,jR h d x.1∧c=d++ [v]∧h.list 3 ko v x.2
variable{q:bk}{P:List bk}
theorem dg.I(e:i.le F)(H:dg i L q):dg F L q:=by
 obtain⟨d,v,a,b,c⟩:=H;exact⟨d,v,a.I e,b,c.B (h:=i) (k:=F) (λ_ _=>ko.I e) e⟩
def fq(s:ByteArray)(N:Nat)(p:bT):bk×Bool×bT:=
 let a:=dE s N p
 if a.2.1 then
  (let t:=bR s a.2.2 10
   if t.1 then(let b:=fE s N N [] t.2
    if b.2.1 then(⟨a.1,b.1⟩,bR s b.2.2 8)else(⟨a.1,[]⟩,false,b.2.2))
   else(⟨a.1,[]⟩,bR s t.2 8))
 else(⟨a.1,[]⟩,false,a.2.2)
theorem NC{s:ByteArray}{N:Nat}:∀(n) (a:List fj)(p:bT),eJ s p->eJ s (fE s N n a p).2.2:=by
 intro n;induction n with
 |zero=>intro a p h;exact h
 |succ n b=>
  intro a p h;have a:=(vR (n:=N)<|kE (k:=9) h).1;rw[fE];split;split;exact b _ _<|kE a;exact a;exact a
def I1(w:ag)(f:Nat)(s:ByteArray)(r:bk×Bool×bT)(g:Iq)(a:ag):Prop:=
 ∃x b l d c e c2,g=.returned (.tuple #[.agg #[.string x,.slice b l d,.slice c e c2],.bool r.2.1])∧cQ a f s r.2.2∧ae (·=f) w a∧
  (r.2.1=true->∃k:ai,k.In a∧(∀a o,k a=some o->w<=a)∧dg k [.string x,.slice b l d,.slice c e c2] r.1)
theorem Wu(h:(r,false,w)=dE c a d):fq c a d=(⟨r,[]⟩,false,w):=by
 unfold fq;grind
theorem Ww(h:(r,true,d)=dE c a w)(b: ¬d.k=10):fq c a w=(⟨r,[]⟩,bR c d 8):=by
 unfold fq;rw[<-h];simp[bR,b]
theorem Wv(h:(r,true,d)=dE c a w)(b:d.k=10)(e:(b6,false,f8)=fE c a a [] (cT c<|d.a+d.t.size)):fq c a w=(⟨r,[]⟩,false,f8):=by
 unfold fq;rw[<-h];simp[bR,b,<-e]
theorem Wx(h:(r,true,d)=dE c a w)(b:d.k=10)(e:(b6,true,f8)=fE c a a [] (cT c<|d.a+d.t.size)):fq c a w=(⟨r,b6⟩,bR c f8 8):=by
 unfold fq;rw[<-h];simp[bR,b,<-e]
theorem GQ{w:ag}{b:Nat}(h:i.In w)(a:∀c o,i c=some o->¬c=b)(x y z):i.In<|((w.setCell ⟨b,0,none⟩ x).setCell ⟨b,1,none⟩ y).setCell ⟨b,2,none⟩ z:=
 h.B (D:=(·=b)) ((((ae.T (·=b) w).U (p:=⟨b,0,none⟩) (.inr rfl) x).U (p:=⟨b,1,none⟩) (.inr rfl) y).U (p:=⟨b,2,none⟩) (.inr rfl) z) a
theorem TP{s:ByteArray}{F:bT}{a:Nat}{w:World}(N)(ax:s.size+1<=N)(E:cQ w a s F)(a6:eJ s F)(a7:s.size<=1099511627776):
  aH 125 #[a] w (I1 w a s (fq s N F)):=by
 have H:s.size<=maxLen:=by unfold maxLen;omega
 have d3:=E.m;have g:Hid (¬w.1.size=a):=by show ¬_;omega
 have t:=vR (n:=N) a6;have C:=λ{w} (h:cQ w a s F)=>Lu (w:=w) N aa h a6 a7;let⟨b2,a3⟩:=aT (dE s N F);rw[<-a3]at t C;have J:Hid _:=a3;obtain⟨bN,b3,ap⟩:=b2;cases b3
 ·go_enter func125,ntmps125;go_wp2_with (go_at_call 179;refine(C (E.B _)).mono ?_;rintro e w2 ⟨x,i,l,j,rfl,m,c,-⟩;have d:=c.dY g.out;have u:=lt_of_block d;obtain⟨r,a1,a2,L,M,O⟩:=bq d);refine bodyPost_ret (v:=.tuple #[.agg #[.string ByteArray.empty,.slice none 0 0,.slice none 0 0],.bool false]) (by simp[results,go_sem,r,a1,a2,u];rfl) rfl ?_;rw[Wu J.out];exact⟨_,_,_,_,_,_,_,rfl,(m.U aa).B _,(C5 (((ae.T _ w).I _).B c)).I _,af⟩
 ·have d4:=t.2 rfl;by_cases A:ap.k=10
  ·have a5:=NC (s:=s) (N:=N) N [] _ (po t.1.1);have T:=λ{w} (h:cQ w a s (cT s (ap.a+ap.t.size)))=>T9 (w:=w) N N ax aa h (po t.1.1) a7;let⟨b,a4⟩:=aT (fE s N N [] (cT s (ap.a+ap.t.size)));rw[<-a4]at a5 T;have b0:Hid _:=a4;obtain⟨aS,b4,b5⟩:=b;cases b4
   ·go_enter func125,ntmps125;go_wp2_with (first|(go_at_call 179;refine(C (E.B _)).mono ?_;rintro e w2 ⟨x,i,l,j,rfl,m,c,-⟩;have d:=c.dY g.out;have u:=lt_of_block d)|(go_at_call 180;refine(nQ 10 A (m.B _) t.1 H).mono ?_;rintro e w3 ⟨rfl,V,p⟩)|(go_at_call 181;refine(T V).mono ?_;rintro e w4 ⟨a0,a9,c2,rfl,W,q,-⟩;have b9:=q.O (p.O ((Below.heap_alloc _ _ _ u).trans d) g.out) g.out;obtain⟨r,a1,a2,L,M,O⟩:=bq b9));refine bodyPost_ret (v:=.tuple #[.agg #[.string ByteArray.empty,.slice none 0 0,.slice none 0 0],.bool false]) (by simp[results,go_sem,r,a1,a2];rfl) rfl ?_;rw[Wv J.out A b0.out];exact⟨_,_,_,_,_,_,_,rfl,W.U aa,C5 ((((((ae.T _ w).I _).B c).I _).B p).B q),af⟩
   ·go_enter func125,ntmps125;go_wp2_with (first|(go_at_call 179;refine(C (E.B _)).mono ?_;rintro e w2 ⟨x,i,l,j,rfl,m,c,U⟩;have d:=c.dY g.out;have u:=lt_of_block d)|(go_at_call 180;refine(nQ 10 A (m.B _) t.1 H).mono ?_;rintro e w3 ⟨rfl,V,p⟩)|(go_at_call 181;refine(T V).mono ?_;rintro e w4 ⟨a0,a9,c2,rfl,W,q,c3⟩));have S:=(((((ae.T _ w).I _).B c).I _).B p).B q;have G:=q.O (p.O (heap_alloc_new _ _) aa) aa;have R:=q.O (p.O ((Below.heap_alloc _ _ _ u).trans d) aa) aa;have c4: ¬w2.1.size=a:=aa
    have d2:=lt_of_block G;obtain⟨d0,d1,_,_⟩:=bJ G;refine qN (·=a) (λy=>y==4||y==5||y==6) ah ah ?_;intro b1 b6 c1 b7 b8 P;iterate 4 (refine aD ?_)
    refine a_ λz f=>?_;go_wp2_with (go_at_call 180;refine(ES 8 (W).O a5 H).mono ?_;rintro e Z ⟨rfl,X,D⟩);have Q:=D.O R aa;let⟨r,a1,a2,L,M,O⟩:=bq Q;have k:ae (·=a) w4 Z:=(ae.T _ _).m.B D;apply f _ _ ah (λ_=>P _ k);iterate 2 (refine a_ λz f=>?_;go_wp2;refine f _ _ ah (cS ah) ?_;clear f z)
    apply cR;go_wp2;refine bodyPost_ret (v:=.tuple #[.agg #[.string x,.slice i l j,.slice a0 a9 c2],.bool (bR s b5 8).1]) (by simp[results,go_sem,r,a1,a2]) rfl ?_;rw[Wx aa A aa];refine⟨_,_,_,_,_,_,_,rfl,X.U g.out,C5 (S.B k),λ_=>?_⟩;obtain⟨a8,m1,m2,Y⟩:=U trivial;obtain⟨d5,c8,I,c9⟩:=c3 trivial;have aK:=c.4;have c6:=p.4;have c7:=q.4;simp[World.size_alloc]at m2 I aK c6 c7;have K:=GQ (b:=w) (c8.B k λb o h=>aI (I b o h)) λb o h=>aI (I b o h)
    have B:=GQ (b:=w) (((((m1.B ((ae.T _ _).I _) λb o h=>aI (m2 b o h)).B p λb o h=>aI (m2 b o h)).B q λb o h=>aI (m2 b o h))).B k λb o h=>aI (m2 b o h)) λb o h=>aI (m2 b o h)
    exact⟨_,ai.bN (B _ _ _) (K _ _ _),λb o h=>(ai.T h).elim (λh=>aI (m2 b o h)) (λh=>aI (I b o h)),_,_,Y.I (ai.O _ _),rfl,c9.B (λ_ _=>ko.I (ai.I (B _ _ _) (K undef undef undef))) (ai.I (B _ _ undef) (K undef undef _))⟩
  ·go_enter func125,ntmps125;go_wp2_with (first|(go_at_call 179;refine(C (E.B _)).mono ?_;rintro e w2 ⟨x,i,l,j,rfl,m,c,U⟩;have d:=c.dY g.out;have u:=lt_of_block d)|(go_at_call 180;refine(nh 10 A (m.B _)).mono ?_;rintro e w3 ⟨rfl,rfl⟩));have S:ae (·=a) w (w2.alloc (.cells #[.string x,.slice i l j] 233)):=(((ae.T _ w).I _).B c).I _;have G:(w2.alloc (.cells #[.string x,.slice i l j] 233)).1[w2.1.size]?=some _:=heap_alloc_new _ _;have R:(w2.alloc (.cells #[.string x,.slice i l j] 233)).1[w.1.size]?=some (.cells #[.string ByteArray.empty,.slice _ 0 0,.slice _ 0 0] 236):=(Below.heap_alloc _ _ _ u).trans d;have c4: ¬w2.1.size=a:=aa
   obtain⟨d0,d1,_,_⟩:=bJ G;refine qN (·=a) (λy=>y==4||y==5||y==6) ah ah ?_;intro b1 b6 c1 b7 b8 P;iterate 4 (refine aD ?_)
   refine a_ λz f=>?_;go_wp2_with (go_at_call 180;refine(ES 8 (m.B _).O t.1 H).mono ?_;rintro e Z ⟨rfl,X,D⟩);have Q:=D.O R g.out;obtain⟨r,a1,a2,L,M,O⟩:=bq Q;have k:ae (·=a) (w2.alloc (.cells #[.string x,.slice i l j] 233)) Z:=(ae.T _ _).m.B D;refine f _ _ ah (λ_=>P _ k) ?_;clear f z;iterate 2 (refine a_ λz f=>?_;go_wp2;refine f _ _ ah (cS ah) ?_;clear f z)
   refine cR ?_;go_wp2;refine bodyPost_ret (v:=.tuple #[.agg #[.string x,.slice i l j,.slice none 0 0],.bool (bR s ap 8).1]) (by simp[results,go_sem,r,a1,a2]) rfl ?_;unfold I1;rw[Ww J.out A];refine⟨_,_,_,_,_,_,_,rfl,X.U g.out,C5 (S.B k),λ_=>?_⟩;obtain⟨a8,m1,m2,Y⟩:=U trivial;simp only[World.size_alloc]at m2;have B:=GQ (b:=w.1.size) ((m1.B ((ae.T (·=a) w2).I _) λb o h=>aI (m2 b o h)).B k λb o h=>aI (m2 b o h)) λb o h=>aI (m2 b o h)
   exact⟨a8,B _ _ _,λb o h=>aI (m2 b o h),_,_,Y,rfl,ai.Z _ _ _⟩
theorem Mt:fW Tryz.prog 88 236 3 64:=.B underlying88 (z:=.agg #[iJ,.slice none 0 0,.slice none 0 0]) ah rfl aA
theorem Pu{s:ByteArray}{p:bT}:p.a<=(dr s p).2.2.a:=by
 unfold dr;split;exact hP 4;split;exact hP 2;exact hP 3
theorem adD:∀(n) (ts:List dW)(p:bT),p.a<=(gp c n ts p).2.2.a:=by
 intro n;induction n with
 |zero=>intro ts p;exact cP _
 |succ n b=>
  intro ts p;have a:=Pu (s:=c) (p:=p);rw[gp];split;split;exact dI a<|dI (hP 7)<|b _ _;exact dI a<|hP 6;omega
theorem KX{s:ByteArray}{N:Nat}{p:bT}:p.a<=(dE s N p).2.2.a:=by
 unfold dE;split;split;exact dI (hP 2)<|dI (hP 5)<|adD _ _ _;exact dI (hP 2)<|hP 5;exact hP 2
theorem Za{s:ByteArray}{N:Nat}:∀(n) (a:List fj)(p:bT),p.a<=(fE s N n a p).2.2.a:=by
 intro n;induction n with
 |zero=>intro a p;exact cP _
 |succ n b=>
  intro a p;have a:p.a<=(dE s N (bR s p 9).2).2.2.a:=dI (hP 9) KX;rw[fE];split;split;exact dI a<|dI (hP 7)<|b _ _;omega;omega
theorem Mi{N:Nat}(h:eJ c d):eJ c (fq c N d).2.2∧((fq c N d).2.1=true->d.a+1<=(fq c N d).2.2.a):=by
 have b:=vR (n:=N) h;unfold fq;simp;split;rename_i j;have a:=kE (k:=10) b.1;have g:=hP (s:=c) (p:=(dE c N d).2.2) 10;split;have e:=NC (s:=c) (N:=N) N [] _ a;have i:=Za (s:=c) (N:=N) N [] (bR c (dE c N d).2.2 10).2;split;have f:=hP (s:=c) (p:=(fE c N N [] (bR c (dE c N d).2.2 10).2).2.2) 8;exact⟨kE e,λ_=>by grind⟩;grind;have f:=hP (s:=c) (p:=(bR c (dE c N d).2.2 10).2) 8;exact⟨kE a,λ_=>by grind⟩;grind
def lQ(s:ByteArray)(N:Nat):Nat->List bk->bT->Option (List bk)×Nat
 |0,_,p=>(none,p.a)
 |n+1,cs,p=>
  if p.k=0 then(some cs,0)
  else if(fq s N p).2.1 then lQ s N n (cs++ [(fq s N p).1]) (fq s N p).2.2 else(none,(fq s N p).2.2.a)
def parse(s:ByteArray):Option (List bk)×Nat:=lQ s (s.size+1) (s.size+1) [] (cT s 0)
theorem aaI(h:d.k=0):lQ c a (f+1) P d=(some P,0):=by rw[lQ,if_pos h]
theorem aaJ(h: ¬d.k=0)(b:(q,true,w)=fq c a d):lQ c a (f+1) P d=lQ c a f (P++ [q]) w:=by
 rw[lQ,if_neg h,<-b];simp
theorem aaH(h: ¬d.k=0)(b:(q,false,w)=fq c a d):lQ c a (f+1) P d=(none,w.a):=by
 rw[lQ,if_neg h,<-b];simp
def Sk(w:ag)(r:Option (List bk)×Nat)(e:Iq)(b:ag):Prop:=
 ∃a l c,e=.returned (.tuple #[.slice a l c,.int .i64 r.2,.bool r.1.isSome])∧au w b∧
  ∀cs,r.1=some cs->∃k:ai,k.In b∧(∀b o,k b=some o->w<=b)∧k.list 3 dg (.slice a l c) cs
theorem Vl{s:ByteArray}{w:ag}(a2:s.size<=1099511627776):aH 70 #[s] w<|Sk w<|parse s:=by
 have a3:s.size<=maxLen:=by unfold maxLen;omega
 have X:∀w,aH _ #[s,.int _ 0] w λl c8=>l=.returned (.agg _)∧xh _ w _:=λw=>Lq s 0 w aa a3;go_enter func70,ntmps70;go_wp2_with (go_at_call 124;refine(X _).mono ?_;rintro l w2 ⟨rfl,a⟩);have y:=ae.eT a;have aK:=y.4;let⟨e,A⟩:=aT w2.1.size;have K:cQ _ e s<|cT s 0:=⟨230,aw A<|cz _ _⟩;have a5:e+1=(w2.alloc<|.cells #[s,.int .i64 (cT s 0).k,.string (cT s 0).t,.int .i64 (cT s 0).a] 230):=iq
 have G:=y.I<|.cells #[s,.int .i64 (cT s 0).k,.string (cT s 0).t,.int .i64 (cT s 0).a] 230;have c4:w<=e:=aa
 rw[<-A]
 go_loopg [6] (s.size+1) (λgk v wr=>∃(cs:List bk)(q:bT)(k:ai),cQ wr e s q∧eJ s q∧s.size+1<=gk+q.a∧cs.length<=q.a∧lQ s (s.size+1) gk cs q=parse s∧au w wr∧
  (∀b o,k b=some o->e+1<=b)∧aM wr (e+1) 236 3 dg k v cs)
 case atStart=>exact⟨[],_,ai.ac,K,po<|aa,aa,af,rfl,G,λ_ _ h=>(nomatch h),.m<|ai.m _⟩
 case round=>
  clear K a5 G A y a;obtain⟨cs,q,k,B,n,b7,c1,a4,u,g,d⟩:=hrel;have F:ay<|lQ s _ _ _ q=parse s:=a4;obtain⟨E,rfl⟩:∃E,gk=E+1:=⟨gk- 1,aI n.1⟩;have ax:cs.length<=1099511627776:=aI n.1
  have b9:=B.bN;by_cases t:q.k=0
  ·obtain⟨f,c,rfl⟩:=d.O;go_wp2;refine fl (v:=.tuple #[.slice f cs.length c,.int .i64 0,true]) (by simp[results]) rfl ?_;rw[<-F.out,aaI t];refine⟨_,_,_,rfl,u,λb0 h=>?_⟩;cases dw h;obtain⟨D,R,_,S,T⟩:=d.U λD g c x=>dg.I g;exact⟨D,R,λb o a=>(S b o a).elim (λh=>aI<|g b o h) λh=>aI<|(d.B b h).1,T⟩
  ·have z:=TP (s.size+1) aa B n a2;have C:=Mi (N:=s.size+1) n;obtain⟨P,M⟩:=aT<|fq s (s.size+1) q;rw[<-M]at z C;have a7:ay<|P=fq s _ q:=M;obtain⟨rc,a6,Q⟩:=P;cases a6
   ·go_wp2_with (go_at_call 125;refine z.mono ?_;rintro l w3 ⟨x,f,p,c,j,r,c2,rfl,m,i,-⟩);have L:=m.B<|.cells #[x,.slice f p c,.slice j r c2] 236;refine dG (λ_=>false) ah ah ?_;intro a8 b1 b6 U b4 b5 b3;have b8:=λx=>(U x _ 3 L.m).trans L.Z;iterate 6 (refine aD ?_)
    apply cR;go_wp2;refine fl (v:=.tuple #[.slice none 0 0,.int .i64 Q.a,false]) (by simp[results]) rfl ?_;rw[<-F.out,aaH t aa];exact⟨_,_,_,rfl,((u.V i aa).I _).m,af⟩
   ·have c3:=C.2 rfl;have J:∀b o,k b=some o->¬b=e:=aJ
    go_wp2_with (first|(go_at_call 125;refine z.mono ?_;rintro l w3 ⟨x,f,p,c,j,r,c2,rfl,m,i,a1⟩;obtain⟨c7,H,I,W⟩:=a1 rfl;have c6:=i.4;have Z:=((d.I i (λb a h=>aa) J).cW H (λb o h V=>dX (I b o h)<|(d.B b V).2) λD g c x=>dg.I g).I ((ae.T bE w3).I<|.cells #[x,.slice f p c,.slice j r c2] 236) i2 i3)|(at_builtin;refine tz Mt rfl (.tmp 26) (.tmp 28) rfl Z rfl rc #[x,.slice f p c,.slice j r c2] (W.I<|ai.I (d.I i (λb a h=>aa) J).V H) rfl (by simp[eP]) rfl af aa aa (by have:=m.m;simp;omega) ?_;intro b2 a9 w4 a0 O))
    go_roundg E
    case measure=>omega
    case rel=>
     have Y:∀b o,(k.or _) b=some o->e+1<=b:=λb o h=>(ai.T h).elim (g b o) λh=>dX (I b o h) B.m
     exact⟨_,Q,_,(m.B _).V O λh=>aI<|(d.B _ h).1,C.1,aa,by grind,(aaJ t aa).symm.trans aa,
      ((u.V i aa).I _).V O λb a=>.inl<|aI<|(d.B b a).1,Y,a0⟩
section
open Go.WideAt Go.ChangeMaps
structure gO(P:bj)(kt:bB){κ:Type}(key:κ->aq)(ok:κ->Prop):Prop where
 inj:∀x y,ok x->ok y->key x=key y->x=y
 check:∀(w:ag)(em:Bool) x,ok x->(Instr.checkKey em 10000 kt (key x)).run P w=.ok () w
 find:∀(w:ag) x,ok x->∀es:List fZ,(∀e∈es,∃y,ok y∧e.1=key y)->
  ((uZ kt (key x) es).run P w=.ok none w∧∀e∈es,e.1≠key x)∨∃(j:Nat)(e:fZ),(uZ kt (key x) es).run P w=.ok (some (j,e.2)) w∧es[j]?=some e∧e.1=key x
 stays:∀(w:ag) x,ok x->(Instr.keyThatStays (key x) (key x)).run P w=.ok (key x) w
theorem gO.B{a:o->aq}{ok:o->Prop}(K:Dp z k)(b:∀x,ok x->∃l,keyOf z k (a x)=some l)(c:∀x y,ok x->ok y->a x=a y->x=y):gO z k a ok where
 inj:=c
 check w em x hx:=let⟨_,h⟩:=b x hx;K.3 w em h
 find w x hx es hes:=let⟨_,h⟩:=b x hx;K.4 w h es λe a=>by grind
 stays w x hx:=let⟨_,h⟩:=b x hx;K.5 w h
section
variable{P:bj}{kt et t:bB}{κ ν:Type}{key:κ->aq}{ok:κ->Prop}{enc:ν->aq}
structure Holds(ok:κ->Prop)(key:κ->aq)(enc:ν->aq)(es:Array fZ)(clock:Nat)(f:List (κ×ν)):Prop where
 rows:es.1.map (λe=>(e.1,e.2))=f.map λp=>(key p.1,enc p.2)
 good:∀p∈f,ok p.1
 once:(f.map bD).Nodup
 stamps:(es.1.map (·.3)).Nodup
 before:∀e∈es.1,e.3<clock
variable[DecidableEq κ]
def aB(f:List (κ×ν))(x:κ):Option ν:=(f.find? λp=>p.1=x).map js
def cK(f:List (κ×ν))(x:κ)(v:ν):List (κ×ν):=if f.any (λp=>p.1=x)then f.map (λp=>if p.1=x then(x,v)else p)else f++ [(x,v)]
def qM(f:List (κ×ν))(x:κ):List (κ×ν):=f.filter λp=> !decide (p.1=x)
omit [DecidableEq κ] in
theorem Holds.I{f:List (κ×ν)}(h:Holds ok key enc D a f):D.size=f.length:=by
 have:=congrArg List.length h.1;simpa using this
omit [DecidableEq κ] in
theorem Holds.U{f:List (κ×ν)}(h:Holds ok key enc D a f)(j:Nat):(D.1[j]?).map (λe=>(e.1,e.2))=(f[j]?).map λp=>(key p.1,enc p.2):=by
 have:=congrArg (λl=>l[j]?) h.1;simpa only[nI]using this
omit [DecidableEq κ] in
theorem Holds.T{f:List (κ×ν)}(h:Holds ok key enc D a f):∀e∈D.1,∃y,ok y∧e.1=key y:=by
 intro e b;obtain⟨j,c,rfl⟩:=ly b;have b:=h.U j;rw[cy c]at b;cases c:f[j]? with
 |none=>rw[c]at b;cases b
 |some p=>
  rw[c]at b;have:=dw b;exact⟨p.1,h.2 p<|cA c,congrArg bD this⟩
theorem F0{f:List (κ×ν)}(h:(f.map bD).Nodup){j:Nat}{x:κ}{v:ν}(a:f[j]?=some (x,v)):aB f x=some v:=by
 induction f generalizing j with
 |nil=>grind
 |cons p f b=>
  rw[rV,AA]at h;cases j with
  |zero=>
   cases dw a;simp[aB]
  |succ j=>
   have:=b h.2<|aV a;unfold aB at this⊢;grind
theorem Ce{f:List (κ×ν)}{x:κ}(h:∀p∈f,p.1≠x):aB f x=none:=by
 unfold aB;grind
omit [DecidableEq κ] in
theorem Holds.B{f:List (κ×ν)}(K:gO P kt key ok)(h:Holds ok key enc D a f)(w:ag){x:κ}(m:ok x):
  ((uZ kt (key x) D.1).run P w=.ok none w∧(∀p∈f,p.1≠x)∧∀e∈D.1,e.1≠key x)∨
  ∃(j:Nat)(e:fZ)(v:ν),(uZ kt (key x) D.1).run P w=.ok (some (j,enc v)) w∧D.1[j]?=some e∧e.1=key x∧e.2=enc v∧f[j]?=some (x,v):=by
 obtain⟨i,d⟩|⟨j,e,i,d,b⟩:=K.3 w x m D.1 h.T;refine .inl ⟨i,λp k e=>?_,d⟩;obtain⟨j,c,rfl⟩:=ly k;have b:=h.U j;rw[cy c]at b;cases g:D.1[j]? with
 |none=>rw[g]at b;cases b
 |some l=>
  rw[g]at b;have c:=congrArg bD<|dw b;exact d l (cA g)<|jy e c
 have c:=h.U j;rw[d]at c;cases g:f[j]? with
 |none=>rw[g]at c;cases c
 |some p=>
  rw[g]at c;have l:=dw c;have k:p.1=x:=K.1 _ _ (h.2 p<|cA g) m<|(congrArg bD l).symm.trans b;have c:e.2=enc p.2:=congrArg js l;exact .inr ⟨j,e,p.2,by rw[i,c],d,b,c,by rw[g,<-k]⟩
def ai.map(h:ai)(ok:κ->Prop)(key:κ->aq)(enc:ν->aq)(v:aq)(f:List (κ×ν)):Prop:=
 (v=.map none∧f= [])∨∃b c a,v=.map (some b)∧h b=some (.map c a)∧Holds ok key enc c a f
omit [DecidableEq κ] in
theorem ai.map.B{h k:ai}(e:h.le k){v:aq}{f:List (κ×ν)}(H:h.map ok key enc v f):k.map ok key enc v f:=by
 obtain a|⟨b,d,c,a,g,i⟩:=H;exact .inl a;exact .inr ⟨b,d,c,a,e _ _ g,i⟩
theorem GL(K:gO P kt key ok)(g:P.underlying t=some (.map kt et))(j:(zeroValue et).run P b=.ok e b)(m:i.In b){f:List (κ×ν)}(H:i.map ok key enc n f){x:κ}(a:ok x)(c:Bool):
  (xC t n (key x) c).run P b=.ok (if c then .tuple #[(aB f x).elim e enc,.bool (aB f x).isSome]else(aB f x).elim e enc) b:=by
 obtain⟨rfl,rfl⟩|⟨d,c,c,rfl,l,f⟩:=H;have c:=(K.3 b x a [] af);obtain⟨c,_⟩|⟨o,k,_,c,_⟩:=c;simp[xC,pA g,K.2 b _ x a,c,j,aB];grind;have h:=m d _ l;obtain⟨c,d,_⟩|⟨o,k,n,c,_,_,_,d⟩:=f.B K b a;simp[xC,pA g,rG h,K.2 b _ x a,c,j,Ce d];simp[xC,pA g,rG h,K.2 b _ x a,c,F0 f.3 d]
theorem Holds.O{f:List (κ×ν)}(K:gO P kt key ok)(h:Holds ok key enc D a f)(w:ag){x:κ}(d:ok x)(v:ν){b:Nat}(m:w.1[b]?=some (.map D a))(r:P.underlying t=some (.map kt et)):
  ∃e c,(rX t (.map<|some b) (key x)<|enc v).run P w=.ok () (setBlock w b<|.map e c)∧Holds ok key enc e c (cK f x v):=by
 obtain⟨n,l,c⟩|⟨j,e,u,n,s,u,_,l⟩:=h.B K w d
 ·refine⟨D.push ⟨key x,enc v,a⟩,a+1,?_,?_,?_,?_,?_,?_⟩
  ·simp[rX,pA r,rG m,K.2 w _ x d,n,uW _ m,setBlock]
  all_goals
   have k:cK f x v=f++ [(x,v)]:=by
    unfold cK;rw[if_neg];intro c;obtain⟨p,k,g⟩:=rF.1 c;exact l p k<|aV g
   try rw[k]
  ·simp[h.1]
  ·intro p q;obtain o|c:=gX.1 q
   ·exact h.2 p o
   ·rw[ir.1 c];exact d
  ·rw[iL,sf];refine⟨h.3,af,?_⟩;grind
  ·rw[Jl,iL,sf];refine⟨h.4,af,?_⟩;intro y y z A;obtain⟨p,q,rfl⟩:=ei.1 y;have o:z=a:=aJ
   rw[o];exact Iu<|h.5 p q
  ·intro e g;rw[Jl]at g;obtain c|c:=gX.1 g
   ·exact Nat.lt_succ_of_lt<|h.5 e c
   grind
 ·have o:cK f x v=f.set j (x,v):=by
   unfold cK;have g:f.any (λp=>decide<|p.1=x)=true:=rF.2 ⟨_,cA l,af⟩;rw[if_pos g];apply rH;intro i;rw[nI,Iw];by_cases g:j=i
   ·grind
   ·rw[if_neg g];cases q:f[i]? with
    |none=>rfl
    |some p=>
     have y:p.1≠x:=by
      intro e;have a1:(f.map bD)[i]?=some x:=by rw[nI,q,<-e];rfl
      have a2:(f.map bD)[j]?=some x:=by rw[nI,l];rfl
      exact g<|(List.getElem?_inj (iw.1 a2).1 h.3).1<|a2.trans a1.symm
     grind
  have l:(D.modify j λe=>{e with key:=key x,val:=enc v}).1=D.1.set j {e with key:=key x,val:=enc v}:=by
   apply rH;intro i;rw[xb,Ic,Iw];by_cases g:j=i
   ·grind
   ·grind
  refine⟨D.modify j λe=>{e with key:=key x,val:=enc v},a,?_,?_,?_,?_,?_,?_⟩
  ·have q:D[j]?=some e:=aJ
   simp[rX,pA r,rG m,K.2 w _ x d,n,q,u,K.4 w x d,uW _ m,setBlock]
  ·rw[l,o,Ix,Ix,h.1]
  ·rw[o];intro p k;obtain c|rfl:=Ry k
   ·exact h.2 p c
   ·exact d
  ·rw[o,Ix];have:(f.map bD).set j x=f.map bD:=by
    apply rH;intro i;rw[Iw];by_cases g:j=i
    ·grind
    ·grind
   rw[this];exact h.3
  ·rw[l,Ix];have:(D.1.map (·.3)).set j e.3=D.1.map (·.3):=by
    apply rH;intro i;rw[Iw];by_cases g:j=i
    ·grind
    ·grind
   rw[this];exact h.4
  ·intro f d;rw[l]at d;obtain c|rfl:=Ry d
   ·exact h.5 f c
   ·exact h.5 e<|cA s
def aF(w:ag)(ok:κ->Prop)(key:κ->aq)(enc:ν->aq)(c:Nat)(f:List (κ×ν)):Prop:=∃b a,w.1[c]?=some (.map b a)∧Holds ok key enc b a f
omit [DecidableEq κ] in
theorem aF.B{w w':ag}{f:List (κ×ν)}{D:Nat->Prop}(h:aF w ok key enc a f)(i:ae D w w')(g: ¬D a):aF w' ok key enc a f:=by
 obtain⟨c,b,d,e⟩:=h;exact⟨c,b,i.O d g,e⟩
omit [DecidableEq κ] in
theorem aF.O{w:ag}{b:Nat}{f:List (κ×ν)}(h:aF w ok key enc b f):b<w.1.size:=by
 obtain⟨a,a,a,_⟩:=h;exact aP a
omit [DecidableEq κ] in
theorem aF.I{w:ag}:aF (w.alloc<|.map #[] 0) ok key enc w.1.size ([]:List<|κ×ν):=
 ⟨#[],0,cz w _,rfl,λ_ h=>(nomatch h),J6,J6,λ_ h=>(nomatch h)⟩
omit [DecidableEq κ] in
theorem aF.T{f:List (κ×ν)}(h:aF b ok key enc a f):ai.map (λa=>b.1[a]?) ok key enc (.map<|some a) f:=by
 obtain⟨d,c,e,f⟩:=h;exact .inr ⟨a,d,c,rfl,e,f⟩
theorem bU(w:ag):ai.In (λb=>w.1[b]?) w:=λ_ _ h=>h
theorem rk(w:ag)(b)(o:bI):ae (·=b) w<|setBlock w b o:=
 ⟨rfl,rfl,rfl,by simp[setBlock],λk _ a=>by
  show(w.1.setIfInBounds b o)[k]?=_
  grind⟩
theorem nz{o c:bI}(h:b.1[a]?=some c):(setBlock b a o).1[a]?=some o:=by
 show(b.1.setIfInBounds a o)[a]?=_
 grind
theorem wpList_want(a:cV g (yielded d8 h.1)=true)(a:∀K,(∀h b,wpList P d8 M H h b->K h b)->g.wp P h b K M):wpList P d8 M (g::H) h b:=by
 unfold wpList;grind
section
variable{ops:Array bG}{rest:List bG}{o:bG}{a:bK}{Q:kh->bK->ag->Prop}{w:ag}{b:Nat}{f:List (κ×ν)}{x:κ}
theorem Hb(K:gO P kt key ok)(j:P.underlying t=some (.map kt et))(p:∀w,(zeroValue et).run P w=.ok e w)(b:cV o (yielded ops a.1)=true)(m y:cL)(c:Bool)(h:o.2=.lookup t m y c)(g:a.eval m=n)(k:i.In w)(H:i.map ok key enc n f)
  (m:a.eval y=key x) (l:ok x) (d:wpList P ops Q rest (a.put o.1 (if c then .tuple #[(aB f x).elim e enc,.bool (aB f x).isSome]else(aB f x).elim e enc)) w):wpList P ops Q (o::rest) a w:=by
 refine wpList_want b λb b=>?_;unfold jO;simp[execOp,h,g,m,GL K j (p w) k H l c];exact b _ _ d
theorem gJ(K:gO P kt key ok)(j:P.underlying t=some (.map kt et))(q:∀w,(zeroValue et).run P w=.ok n w)(b:cV o (yielded ops a.1)=true)(m y:cL)(h:o.2=.lookup t m y true)(g:a.eval m=e)(k:i.In w)(H:i.map ok key enc e f)
  (p:a.eval y=key x) (l:ok x) {u:ν} (d:aB f x=some u) (c:wpList P ops Q rest (a.put o.1<|.tuple #[enc u,true]) w):wpList P ops Q (o::rest) a w:=
 Hb K j q b m y true h g k H p l<|aw d c
theorem jo(K:gO P kt key ok)(j:P.underlying t=some (.map kt et))(q:∀w,(zeroValue et).run P w=.ok e w)(b:cV o (yielded ops a.1)=true)(m y:cL)(h:o.2=.lookup t m y true)(g:a.eval m=n)(k:i.In w)(H:i.map ok key enc n f)
  (p:a.eval y=key x) (l:ok x) (d:aB f x=none) (c:wpList P ops Q rest (a.put o.1<|.tuple #[e,false]) w):wpList P ops Q (o::rest) a w:=
 Hb K j q b m y true h g k H p l<|aw d c
theorem hZ(K:gO P kt key ok)(n:P.underlying t=some (.map kt et))(d:cV o (yielded ops a.1)=true)(m y u:cL)(l:o.2=.mapUpdate t m y u)(k:a.eval m=.map (some b))(H:aF w ok key enc b f)
  (q:a.eval y=key x) (p:ok x) (v:ν) (m:a.eval u=enc v) (j:∀c,ae (·=b) w c->aF c ok key enc b (cK f x v)->wpList P ops Q rest (a.put o.1 aj) c):wpList P ops Q (o::rest) a w:=by
 refine wpList_want d λc i=>?_;obtain⟨c,c,c,e⟩:=H;obtain⟨d,g,g,h⟩:=e.O K w p v c n;unfold jO;simp[execOp,l,k,q,m,g];exact i _ _<|j _ (rk w b _) ⟨d,_,nz c,h⟩
omit [DecidableEq κ] in
theorem nB(k:P.underlying t=some (.map kt et))(c:cV o (yielded ops a.1)=true)(m:cL)(j:o.2=.call {callee:=.builtin .len,args:= #[m],argTypes:= #[t]})(i:a.eval m=.map (some b))(H:aF w ok key enc b f)
  (h:wpList P ops Q rest (a.put o.1<|.int .i64 f.length) w):wpList P ops Q (o::rest) a w:=by
 refine wpList_want c λc g=>?_;obtain⟨c,c,c,d⟩:=H;have e:(uP #[t] o.3 #[some b]).run P w=.ok (.int .i64 f.length) w:=by
  rw[<-d.I];simp[uP,pA k,rG c,uX,goInt]
 unfold jO;simp[execOp,j,resolve,invoke,builtin,i,e,uX];exact g _ _ h
end
end
theorem ac6(a:z.underlying k=some .string):gO z k cr λs=>s.size<=maxLen:=
 .B (WideMaps.string_law a) (λx b=>⟨_,J7 a b⟩) (λx y _ _ h=>by grind)
end
theorem WZ:fW Tryz.prog 241 233 2 40:=.B underlying241 (z:=.agg #[iJ,.slice none 0 0]) ah rfl aA
def bt(c:bk):List fg:=c.1::c.2.map (·.a)
theorem jR.B{h:ai}{c:List aq}(H:jR h c r):∃ad a,c= [.string r.n,.slice ad r.2 a]:=by
 obtain⟨v,rfl,b⟩:=H;obtain⟨ad,a,rfl⟩:=b.I;grind
theorem ko.B{h:ai}{c:List aq}{y:fj}(H:ko h c y):∃ad a,c= [.string y.a.n,.slice ad y.a.2 a,.bool y.2]∧jR h [.string y.a.n,.slice ad y.a.2 a] y.a:=by
 obtain⟨d,b,rfl⟩:=H;obtain⟨ad,a,rfl⟩:=b.B;grind
theorem xS(u:i.In b)(n:dg i [.string c,.slice y f a,.slice e0 C j] q)(a6:q.2.length<=1099511627776):
  aH 132 #[.agg #[c,.slice y f a,.slice e0 C j]] b λJ z=>∃y f a,J=.returned (.slice y f a)∧au b z∧∃k,k.In z∧ai.Ext b i k∧k.list 2 jR (.slice y f a) (bt q):=by
 obtain⟨Y,W,o,p,O⟩:=n;obtain⟨V,P,a7⟩:=id o;subst P;obtain⟨rfl,rfl,rfl⟩:c=q.1.n∧ .slice _ f a=V∧ .slice _ _ _=W:=aV p;obtain⟨D,E,t,M⟩:=O.U u;obtain⟨rfl,rfl,rfl⟩:e0=D∧C=q.2∧j=E:=aV t;clear t p;go_enter func132,ntmps132;go_wp2;have R:aM _ (b+1) 233 2 _ i _ _:=
  aM.ku (u.B ((ae.T _ b).I<|.cells #[q.1.n,.slice y f a,.slice e0 q.2 j] 236) i3) #[q.1.n,.slice _ f a] rfl o af
 go_loopw [3,12] (λU m wr=>∃(k:Nat),k<=q.2.length∧m=.int .i64 k∧au b wr∧aM wr (b.1.size+1) 233 2 jR i U (q.1::(q.2.take k).map (·.a))) (λ_ m _=>q.2.length-(intOf m).toNat);exact⟨0,aa,rfl,ae.al.I _,aV R⟩;obtain⟨k,r,rfl,h,e⟩:=hrel;obtain⟨s,d,v⟩|s:=jf q.2 k;obtain⟨a2,x,cc,rfl,n,K,a4⟩:=M k d v;obtain⟨A,B,rfl,L⟩:=K.B;obtain⟨Z,a0,a1⟩:=h.ab aa id;have a5:=h.4;go_wp2_with (at_builtin;refine tz WZ rfl (.tmp 16) (.tmp 19) rfl (e.I ((ae.T bE wr).I<|.cells #[d.a.n,.slice A d.a.2.length B,d.2] 309) i2 i3) rfl d.a #[d.a.n,.slice A d.a.2.length B] L rfl (by simp[eP]) rfl af bQ bQ bQ ?_;intro a3 X w4 S T);go_roundw;refine⟨k+1,aa,ba,(h.I _).V T λg l=>.inl<|aI<|(e.B g l).1,?_⟩;rw[eA,v];simpa[(D5<|Nat.le_of_lt s)]using S;exact dK;have Q:k=q.2.length:=aa;obtain⟨a8,a9,rfl⟩:=e.O;go_wp2;go_ret;refine⟨_,_,_,rfl,h,?_⟩;obtain⟨w,F,G,H,I⟩:=e.U λw r a c=>jR.I r;have N:bt q=q.1::(q.2.take k).map (·.a):=by rw[Q,fo<|cP _];rfl
 rw[N];exact⟨w,F,⟨G,λg x l=>(H g x l).imp id λi=>aI<|(e.B g i).1⟩,I⟩
theorem qD(b:p[a]?=some d7)(h:(p.take a).any f0=false)(c:f0 d7=false):(p.take<|a+1).any f0=false:=by
 rw[eA,b,List.any_append,h];grind
theorem ub{p:o->Bool}{b:List o}(d:b[a]?=some d7)(c:p d7=true):b.any p=true:=rF.2 ⟨d7,cA d,c⟩
theorem vP(b: ¬a<p)(h:(p.take a).any f0=false):p.any f0=false:=by
 rwa [fo aa]at h
def yC(t:dW):Bool:=decide ((8:Int)<t.t.size)
def uq(a:fg):Bool:=decide ((8:Int)<a.n.size)||a.2.any yC
theorem Un(A:i.In b)(s:jR i [.string c,.slice y a f] r)(K:r.2.length<=1099511627776):
  aH 243 #[.agg #[c,.slice y a f]] b λq C=>q=.returned (.bool<|uq r)∧au b C:=by
 obtain⟨B,x,w⟩:=s;obtain⟨rfl,rfl⟩:c=r.n∧ .slice y a f=B:=aV x
 obtain⟨n,o,z,t⟩:=w.U A;obtain⟨rfl,rfl,rfl⟩:y=n∧a=r.2∧f=o:=aV z
 by_cases h:(8:Int)<r.n.size
 ·go_enter func243,ntmps243;go_wp2;go_ret;exact⟨iT (by simp[uq,h]),ae.al⟩
 ·go_enter func243,ntmps243;go_wp2
  go_loopw [12] (λg wr=>∃(k:Nat),k<=r.2.length∧g=.int .i64 k∧au b wr∧(r.2.take k).any yC=false) (λg _=>r.2.length-(intOf g).toNat)
  case atStart=>exact⟨0,aa,rfl,ae.al,rfl⟩
  case round=>
   obtain⟨k,J,rfl,e,v⟩:=hrel;have D:ay<|(r.2.take k).any _=false:=v;by_cases j:k<r.2.length
   ·let⟨d,l⟩:∃d,r.2[k]?=some d:=⟨_,cy j⟩;obtain⟨H,L,cc,rfl,I,rfl,u⟩:=t k d l;let⟨F,G⟩:=e.cB u id;have E:ay<|r.2[k]?=some d:=l;by_cases m:(8:Int)<d.t.size
    ·go_wp2;go_ret;exact⟨iT (by simp[uq,ub aa (p:=yC) (by simp[yC,m])]),e.I _⟩
    ·go_wp2;go_roundw
     case rel=>exact⟨k+1,aa,ba,e.I _,qD aa aa (by simp[yC,m])⟩
     case measure=>simp[intOf];omega
   ·go_wp2;go_ret;exact⟨iT (by simp[uq,h,vP j aa]),e⟩
def vS(a:fg):Bool:=decide ((3:Int)<a.2)||uq a
def pM(cl:bk):Bool:=decide ((4:Int)<cl.2)||(bt cl).any vS
def Small(n:Nat)(cl:bk):Prop:=cl.2<n∧∀a∈bt cl,a.2<n∧a.n.size<n∧∀t∈a.2,t.t.size<n
theorem dg.B{h:ai}{c:List aq}(H:dg h c q):∃ad b a d,c= [.string q.1.n,.slice ad q.1.2 b,.slice a q.2 d]:=by
 obtain⟨e,v,e,rfl,f⟩:=H;obtain⟨ad,b,rfl⟩:=e.B;obtain⟨a,d,rfl⟩:=f.I;simp_all
theorem Ua(L:i.In b)(n:dg i [.string c,.slice y j a,.slice e0 C f] q)(z:Small 1099511627776 q):
  aH 182 #[.agg #[c,.slice y j a,.slice e0 C f]] b λg V=>g=.returned (.bool<|pM q)∧au b V:=by
 obtain⟨N,O,P,Q,F⟩:=n.B;obtain⟨rfl,⟨rfl,rfl,rfl⟩,rfl,rfl,rfl⟩:c=q.1.n∧(y=N∧j=q.1.2∧a=O)∧e0=P∧C=q.2∧f=Q:=aV F
 by_cases t:(4:Int)<q.2.length
 ·go_enter func182,ntmps182;go_wp2;go_ret;exact⟨iT (by simp[pM,t]),ae.al⟩
 ·go_enter func182,ntmps182;go_wp2_with (go_at_call 132;refine(xS (L.B ((ae.T bE b).I<|.cells #[q.1.n,.slice y q.1.2.length a,.slice e0 q.2.length f] 236) i3) n<|aI z.1).mono ?_;rintro g w2 ⟨s,M,c3,rfl,I,a6,v,a5,w⟩;obtain⟨R,S,J⟩:=w.I;obtain⟨rfl,rfl,rfl⟩:s=R∧M=(bt q).length∧c3=S:=aV J);obtain⟨T,U,K,E⟩:=w.U v;obtain⟨rfl,rfl⟩:s=T∧c3=U:=aV K
  have l:=ae.al.B I;have a4:(bt q).length<=1099511627776:=by have:=z.1;simp[bt];omega
  go_loopw [12] (λr wr=>∃(k:Nat),k<=(bt q).length∧r=.int .i64 k∧au w2 wr∧((bt q).take k).any vS=false) (λr _=>(bt q).length-(intOf r).toNat)
  case atStart=>exact⟨0,aa,rfl,.T _ _,rfl⟩
  case round=>
   obtain⟨k,a3,rfl,e,H⟩:=hrel;have Y:ay<|((bt _).take k).any _=false:=H;by_cases x:k<(bt q).length
   ·let⟨d,A⟩:∃d,(bt _)[k]?=some d:=⟨_,cy x⟩;obtain⟨a2,a7,cc,rfl,n,u,G⟩:=E k d A;obtain⟨W,X,rfl⟩:=u.B;let⟨a0,a1⟩:=e.cB G id;have Z:ay<|(bt _)[k]?=some d:=A;by_cases B:(3:Int)<d.2.length
    ·go_wp2;go_ret;exact⟨iT (by simp[pM,ub aa (p:=vS) (by simp[vS,B])]),(l.B e).I _⟩
    ·have m:=Un ((v.B e i3).B ((ae.T _ _).I<|.cells #[d.n,.slice W d.2 X] 233) i3) u aa;have h:ay<|vS d=uq d:=by show _=_;simp[vS,B]
     generalize uq d=D at m h;cases D
     ·go_wp2_with (go_at_call 243;refine m.mono ?_;rintro g w3 ⟨rfl,o⟩);go_roundw
      case rel=>exact⟨k+1,aa,ba,(e.I _).B o,qD aa aa h.out⟩
      case measure=>simp[intOf];omega
     ·go_wp2_with (go_at_call 243;refine m.mono ?_;rintro g w3 ⟨rfl,o⟩);go_ret;exact⟨iT (by simp[pM,ub aa h.out]),((l.B e).I _).B o⟩
   ·go_wp2;go_ret;exact⟨iT (by simp[pM,t,vP x aa]),l.B e⟩
abbrev aL:ByteArray->Prop:=λs=>s.size<=maxLen
abbrev bX:Unit->Value:=λ_=>.agg #[]
theorem bZ:gO Tryz.prog 9 cr aL:=ac6 underlying9
def oU(f:List (ByteArray×Unit))(a:List fg):List (ByteArray×Unit):=a.foldl (λf a=>cK f a.n ()) f
theorem Sw{b:List fg}(c:b[a]?=some r):oU e4 (b.take<|a+1)=cK (oU e4<|b.take a) r.n ():=by
 unfold oU;rw[eA,c,iZ];rfl
def mG:Nat->List (ByteArray×Unit)->List bk->Int
 |_,_,[]=> -1
 |i,f,cl::cs=>if(16:Int)<=i∨(8:Int)<(oU f (bt cl)).length∨pM cl=true then i else mG (i+1) (oU f (bt cl)) cs
theorem TQ(u:i.In b)(a4:i.list 3 dg (.slice y a f) P)(_hn:P.length<=1099511627776)(b3:∀cl∈P,Small 1099511627776 cl):
  aH 127 #[.slice y a f] b λp c2=>p=.returned (.int .i64<|mG 0 [] P)∧au b c2:=by
 obtain⟨rfl,a0⟩:=a4.O u;have e0:= @iW Tryz.prog;go_enter func127,ntmps127;go_wp2;have G:aF (b.alloc<|.map #[] 0) aL cr bX b.1.size []:=aF.I
 go_loopw [11] (λe wr=>∃(k:Nat)(d:List<|ByteArray×Unit),k<=P.length∧e=.int .i64 k∧au b wr∧aF wr aL cr bX b.1.size d∧mG k d (P.drop k)=mG 0 [] P) (λe _=>P.length-(intOf e).toNat)
 case atStart=>exact⟨0,[],aa,rfl,ae.al,G,rfl⟩
 case round=>
  obtain⟨k,d,d7,rfl,q,F,I⟩:=hrel;have m:ay<|mG k d (P.drop k)=mG 0 [] P:=I;clear I G;by_cases H:k<P.length
  ·let⟨c,C⟩:∃c,P[k]?=some c:=⟨_,cy H⟩;obtain⟨d3,e4,cc,rfl,d4,A,a2⟩:=a0 k c C;obtain⟨L,N,M,O,rfl⟩:=A.B;have v:=b3 c<|cA C;let⟨c7,c8,c9⟩:=q.ab a2 id;have Q:ay<|P[k]?=some c:=C;go_wp2_with (go_at_call 132;refine(xS ((u.B q i3).B ((ae.T bE wr).I<|.cells #[c.1.n,.slice L c.1.2.length N,.slice M c.2.length O] 236) i3) A (by have:=v.1;omega)).mono ?_;rintro p w2 ⟨E,b7,c3,rfl,t,e3,a8,b5,B⟩;obtain⟨b9,ax,b4⟩:=B.I;obtain⟨rfl,rfl,rfl⟩:E=b9∧b7=(bt c).length∧c3=ax:=by simpa using b4);obtain⟨c1,b8,e1,a1⟩:=B.U a8;obtain⟨rfl,rfl⟩:E=c1∧c3=b8:=by grind
   have d8:(bt c).length<=1099511627776:=by have:=v.1;simp[bt];omega
   have e2:=t.4;have d9:=F.O;have W:=t.dY id
   go_loopw [19] (λe K=>∃(j:Nat),j<=(bt c).length∧e=.int .i64 j∧ae (·=b.1.size) w2 K∧aF K aL cr bX b.1.size (oU d<|(bt c).take j)) (λe _=>(bt c).length-(intOf e).toNat)
   case atStart=>exact⟨0,aa,rfl,.T _ _,((F.B ae.al id).B t id)⟩
   case round=>
    obtain⟨j,d6,rfl,r,g⟩:=hrel;by_cases a7:j<(bt c).length
    ·obtain⟨z,D⟩:∃z,(bt c)[j]?=some z:=⟨_,cy a7⟩;obtain⟨T,e5,c6,rfl,d5,Z,a3⟩:=a1 j z D;obtain⟨c4,aK,rfl⟩:=Z.B;have b6:=v.2 z<|cA D;have a5: ¬T=b.1.size:=by
      obtain⟨e6,a9⟩:=B.T;obtain x|x:=b5.2 _ _ a9
      ·have:=u.O x;omega
      ·simp at x;omega
     let⟨e7,e8⟩:=r.cB a3 a5;have R:ay<|(bt c)[j]?=some z:=D;go_wp2_with (at_mapUpdate;refine hZ bZ underlying249 rfl (.tmp 23) (.tmp 25) (.tmp 26) rfl rfl (g.B ((ae.T bE wr).I<|.cells #[z.n,.slice c4 z.2.length aK] 233) id) rfl (show z.n.size<=maxLen by have:=b6.2.1;unfold maxLen;omega) () rfl ?_;intro J l Y);go_roundw
     case rel=>exact⟨j+1,aa,ba,(r.I _).B l,by rw[Sw R.out];exact Y⟩
     case measure=>simp[intOf];omega
    ·have a6:oU d ((bt c).take j)=oU d (bt c):=by rw[fo aa]
     rw[a6]at g;have o:ay<|mG k d (P.drop k)=if(16:Int)<=k∨(8:Int)<(oU d<|bt c).length∨pM c=true then(k:Int)else mG (k+1) (oU d<|bt c)<|P.drop<|k+1:=by
      show _=_;rw[zJ H,(iw.1 Q.out).2,mG]
     have n:=((q.I<|.cells #[c.1.n,.slice L c.1.2.length N,.slice M c.2.length O] 236).B t).V r λS (i:S=b.1.size)=>.inl aa;by_cases U:(16:Int)<=k
     ·go_wp2;go_ret;exact⟨ny (by rw[<-m.out,o.out,if_pos<|.inl U]),n⟩
     ·by_cases V:(8:Int)<(oU d<|bt c).length
      ·go_wp2_with (at_len;refine nB underlying249 rfl (.tmp 31) rfl rfl g ?_);go_ret;exact⟨ny (by rw[<-m.out,o.out,if_pos<|.inr<|.inl V]),n⟩
      ·have X:=r.O W aa;obtain⟨b0,b1,b2,d0,d1,d2⟩:=bq X;have s:=Ua (u.B n i3) A v;cases h:pM c
       ·rw[h]at s;have w:ay<|pM c=false:=h;clear h;go_wp2_with (first|(at_len;refine nB underlying249 rfl (.tmp 31) rfl rfl g ?_)|(go_at_call 182;refine s.mono ?_;rintro p J ⟨rfl,l⟩));go_roundw
        case rel=>exact⟨k+1,_,by omega,by grind,n.B l,g.B l id,by rw[<-m.out,o.out,if_neg (by have:=w.out;grind)]⟩
        case measure=>simp[intOf];omega
       ·rw[h]at s;have w:ay<|pM c=true:=h;clear h;go_wp2_with (first|(at_len;refine nB underlying249 rfl (.tmp 31) rfl rfl g ?_)|(go_at_call 182;refine s.mono ?_;rintro p J ⟨rfl,l⟩));go_ret;exact⟨ny (by rw[<-m.out,o.out,if_pos<|.inr<|.inr w.out]),n.B l⟩
  ·go_wp2;go_ret;refine⟨ny ?_,q⟩;rw[<-m.out,xj aa];rfl
end
