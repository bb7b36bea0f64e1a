import Derived.Conc.Beside
import Derived.Conc.CrowdComm
import Derived.IntWalk
set_option maxRecDepth 100000
set_option maxHeartbeats 8000000
open Go renaming World->ag,FuncId->bw,Value->aq,IntKind->z_,Addr->bC,TypeId->bB,MapEntry->fZ,Deferred->qh,Program->bj,Code->eN,Obj->bI,Sem->cm,Event->gY,Halt->zn,program->qi,zeroValue->Ds,typeInfo->Dt,underlying->ry,load->Aa,store->zr,newObj->qj,getObj->Ab,setObj->wZ,shape->w_,Question->jq,choose->rU,mark->Je,askRoom->Jf,newVar->Jg,frozen->Hl,RuntimeError->Qb,loadCellsFrom->Jh,loadCells->Qc,storeCells->Hm,loadVar->Hn,storeVar->Qd,newRow->Ho,asAddr->Ac,asIntOf->Qe,asInt->Hp,asBool->Ji,stuck->tG,sizeOf->Hr,unsupported->Hs,numberAt->Qn,viewAt->Ad,behindNumber->uN,noView->Ae,byteOf->Qo,TypeDesc->zP,movedNumber->Hz,asNumber->Qz,BinOp->Af,Operand->cL,eqGuard->xc,binOp->uQ,movedPointer->QB,stringish->QE,mayBeOne->HE,sameAddr->Jt,Next->qf,builtin->QH,callFunc->QI,Oper->bG,execOp->xd,loadBytes->HJ,variablesAt->HL,freeze->zv,cellsIn->HM,isAgg->QQ,elemOf->HP,TypeInfo->Jv,method->QY,callMethod->HQ,Item->fJ,Frame->az,exitTo->Ai,undef->aj,results->Jy,GStep->vx,Outcome->JA,unwind->ql,Machine->JG
open Option renaming none->fL
open List renaming replicate->Dg
open Go.Sem renaming bind->Dr,runT->jQ,pure->P9,halt->Hi
open Go.World renaming farStore->Ja,cell?->gK,frozen?->zO,farLoad->Hj,noCell->Jd,freeze->Dy
open Pure renaming pure->cD
open Go.Value renaming ofBytes->Jb,slice->oD,pointer->zt,tuple->uO
open Except renaming bind->Jc
open True renaming intro->zo
open MonadExcept renaming throw->zq
open Go.Mode renaming plain->Hk
open Go.Builtin renaming holdsCells->Qa,len_->uP,delete_->xD,zeroCells->qd,clear_->Jo,lenOf->xE,firstCells->xF,append_->rZ,unsafeAdd_->zu,cap_->Jq,copy_->Jr,max2->HI,max_->Ju,unsafeString_->QO,unsafeSliceData_->QR
open Go.Instr renaming sureAddr->xA,loadAt->xB,storeAt->Qf,box->Qg,alloc->Qh,fill->vv,build->Qi,buildSlice->Qj,fieldAt->Qk,indexAt->Ql,checkKey->Ht,findAsking->Qp,sameNow->Qq,findNow->Dw,findKey->uZ,sameBits->xa,lookup->xC,keyThatStays->Jk,mapUpdate->rX,mapEntry->zQ,entryStore->zR,range->Qs,next->Dh,sliceBound->Hw,sliceBounds->Hx,slice->Qt,sliceAt->Qv,index->Qw,extract->Jn,makeMap->Qy,makeInterface->QC,field->Di,panic->HB,getLoop->QJ,yield->Dj,entry->QL,makeSlice->QN,enterLoop->QZ,beginRound->Aj,endRound->Jz,endLoop->Q_,takeDeferred->Dz
open Array renaming range->Hq,isEmpty->Hu,replicate->ml
open Go.Op renaming equalIn->Dv,maxDepth->vw,addrMod->HA,twoPlaces->QA,eqGuardIn->Jp,unary->QF,operands->c0
open Go.IntKind renaming i64->tA
open Nat renaming min->QD
open Go.Conv renaming bytesToString->HF,runesToString->QM,seenAt->QP,unsafePointer->HN
open ForInStep renaming yield->QG
open UInt8 renaming ofNat->wX
open Go.Call renaming operands->QK
open Go.Next renaming value->zS,skip->tR
open Go.Extern.AbiNoEscape renaming same->Er
open Go.Extern.Bytes renaming loadBytes->QS,bytesOf->QT,asByte->QU
open Go.Extern.BytealgCompare renaming compare->Es
open Go.Extern.BytealgIndexByte renaming indexByte->Et
open Go.Extern.BytealgIndex renaming index->Eu,maxLen->aez
open Go.Extern.BytealgMakeNoZero renaming digits->QV,makeNoZero->Dk
open Go.Made renaming reckonStruct->QW,reckon->QX,infoAt->Jw
open Go.GStep renaming after->tS
open Go.Frame renaming enter->ej,round->JB,raise->Ak,oper?->Q0
open Go.stepG renaming apply->py,exec->dO,oper->xe
open Go.CallKind renaming early->JC,wrapped->JD,normal->JE
open Go.Deferred renaming ofValue->wY
open Go.Item renaming code->Q1
open Classical renaming choose->Q2
open Prod renaming Lex->DC,lex->JI
open Go.Question renaming forced->aeA
namespace Go.Proofs
open Go.RowKit
abbrev cy:=@List.getElem?_eq_getElem
abbrev P8:=@List.getElem?_eq_none_iff
abbrev Dq:=@Array.getD_eq_getD_getElem?
abbrev tE:=@Nat.lt_or_ge
abbrev fU:=@Array.getElem?_eq_some_iff
abbrev Hh:=@Nat.lt_irrefl
abbrev cP:=@Nat.le_refl
abbrev dI:=@Nat.le_trans
abbrev kJ:=@Nat.lt_of_lt_of_le
abbrev vu:=@Nat.le_of_eq
abbrev mP:=@Array.mem_append
abbrev mQ:=@Array.getElem?_setIfInBounds_ne
abbrev rV:=@List.map_cons
abbrev Du:=@Array.foldl_toList
abbrev Jj:=@Array.mapM_eq_mapM_toList
abbrev Qm:=@Std.Legacy.Range.forIn_eq_forIn_range'
abbrev rW:=@Array.all_eq_true_iff_forall_mem
abbrev Qr:=@Array.getElem?_eq_none_iff
abbrev Jl:=@Array.toList_push
abbrev Dx:=@Array.toList_modify
abbrev Hv:=@List.getElem?_append_left
abbrev cA:=@List.mem_of_getElem?
abbrev Jm:=@List.getElem?_append_right
abbrev nI:=@List.getElem?_map
abbrev rY:=@Array.length_toList
abbrev kK:=@List.length_append
abbrev di:=@List.length_map
abbrev xb:=@Array.getElem?_toList
abbrev Hy:=@Array.toList_map
abbrev mR:=@Option.map_eq_some_iff
abbrev tH:=@Bool.false_eq_true
abbrev j_:=@Bool.and_eq_true
abbrev Js:=@Array.append_empty
abbrev dw:=@Option.some.inj
abbrev Ag:=@Bool.or_eq_true
abbrev Ah:=@Option.bind_eq_some_iff
abbrev rz:=@List.mem_cons_of_mem
abbrev pF:=@List.mem_cons
abbrev rA:=@Nat.add_zero
abbrev zw:=@Nat.le_succ
abbrev tI:=@Nat.add_assoc
abbrev pG:=@Nat.lt_succ_self
abbrev JF:=@List.map_toArray
abbrev HR:=@Go.Goroutine.mk.injEq
abbrev jM:=@List.mem_cons_self
abbrev HT:=@Classical.byContradiction
abbrev JH:=@Classical.choose_spec
abbrev Q3:=@Nat.exists_eq_add_of_le
abbrev vy:=@Go.Sem.runT_fst
abbrev pH:=@Option.ne_none_iff_exists'
variable{F s:Type}{e g:Array aq}{A:Array bB}{f6 f9:Array fZ}{d9:Array cL}{W:Array bG}{d3 d4:Array _}{g0 g1:List (Nat×aq)}{g9:List Nat}{e0:List bC}{d5 d6:List fZ}{i6 i7:List fJ}{h h0 h1 o:List az}{d8 e2:List _}{i r:Nat}{H N:Nat->Option bI}{h2 h3:Nat->s->cm _}{f7 g2:Option Nat}{J K b4 b5 b6 b7:Option aq}{a9:Option eN}{X h4 n t:Prop}{C f0 k:ag}{e3:ag->vx}{v:bw}{b8:bw->Bool}{a b f1 f2 p q:aq}{Q:aq->ag->Prop}{f j:bC}{b9 d d1:bB}{g3:bB->Option Jv}{L:bj}{R S:eN}{f8:eN->Bool}{M z:bI}{d2 h5:cm qf}{f3:gY}{e4:zP}{x:Af}{a7:Jv}{h6 h7:fJ}{c h8 i8 l:az}{b3:az->ag->Prop}{f4:vx}{h9 i0:JG}{a8:String}{e8 g6:s->cm aq}
section
instance:Coe ag Nat:=⟨λw=>w.1.size⟩
instance{α:Type _}:CoeOut (List α) Nat:=⟨List.length⟩
instance{α:Type _}:CoeOut (Array α) Nat:=⟨Array.size⟩
theorem ah(h:n:=by kernel_rfl):n:=h
theorem aa(h:n:=by omega):n:=h
theorem bb(h:n:=by decide +kernel):n:=h
theorem aA(h:n:=by decide):n:=h
theorem bf(h:n:=by rfl):n:=h
theorem af(h:n:=by simp):n:=h
theorem aJ(h:n:=by grind):n:=h
theorem iq(h:n:=by simp_all):n:=h
theorem bQ(h:n:=by simp;omega):n:=h
theorem uC(h:n:=by simp only [List.getElem?_toArray,List.getElem?_cons_succ,List.getElem?_cons_zero];rfl):n:=h
theorem ba(h:n:=by go_num):n:=h
theorem aZ(h:n:=by simp [go_sem]):n:=h
theorem aV(h:t)(i:t->n:=by intro h;simpa using h):n:=i h
theorem na(h:t)(i:t->n:=by intro h;simp at h):n:=i h
theorem aI(h:t)(i:t->n:=by intro h;omega):n:=i h
theorem dX(h:t)(k:X)(i:t->X->n:=by intro h k;omega):n:=i h k
theorem AY(h:t)(k:X)(l:h4)(i:t->X->h4->n:=by intro h k l;omega):n:=i h k l
theorem fN(h:t)(i:t->n:=by intro h;rw[h]):n:=i h
theorem dT(h:t)(i:t->n:=by intro h;rw[h];omega):n:=i h
theorem cw(h:t)(i:t->n:=by intro h;rw[h];simp):n:=i h
theorem dh(h:t)(i:t->n:=by intro h;rw[h];rfl):n:=i h
theorem aw(h:t)(k:X)(i:t->X->n:=by intro h k;rw[h];exact k):n:=i h k
theorem xM(h:t)(i:t->n:=by intro h;rw[<-h]):n:=i h
theorem KG(h:t)(i:t->n:=by intro h;rw[<-h];simp):n:=i h
theorem EF(h:t)(i:t->n:=by intro h;rw[<-h];rfl):n:=i h
theorem jy(h:t)(k:X)(i:t->X->n:=by intro h k;rw[<-h];exact k):n:=i h k
variable{d7:List UInt8}{g5:Sort _}
theorem aT(a:g5):∃x,x=a:=⟨a,rfl⟩
theorem gB(a:g5):∃x,a=x:=⟨a,rfl⟩
theorem jf(l:List s)(k):(k<l.length∧∃y,l[k]?=some y)∨¬k<l:=if h:k<l.length then .inl ⟨h,_,cy h⟩ else .inr h
theorem jX(n:Nat)(h:0<n:=by omega):∃m,n=m+1:=⟨n- 1,aa⟩
instance:Coe Nat Value:=⟨λb=>.pointer (some ⟨b,0,none⟩)⟩
instance:Coe ByteArray Value:=⟨.string⟩
instance:Coe Bool Value:=⟨.bool⟩
instance:Coe (Option Nat) Value:=⟨.map⟩
abbrev Ren:=Nat->Option Nat
def Ren.O(f g:Ren):Prop:=∀a b,f a=some b->g a=some b
def Ren.U(f:Ren):Prop:=∀a b c,f a=some c->f b=some c->a=b
theorem Ren.I(f:Ren):f.O f:=λ_ _ h=>h
theorem Ren.B{f g h:Ren}(a:f.O g)(b:g.O h):f.O h:=λ_ _ x=>b _ _<|a _ _ x
mutual
inductive av(F:bw->Bool)(f:Ren):aq->aq->Prop
 |bool (b:Bool):av F f (.bool b) (.bool b)
 |int (k:z_) (n:Int):av F f (.int k n) (.int k n)
 |string (s:ByteArray):av F f (.string s) (.string s)
 |nw:av F f (.pointer none) (.pointer none)
 |ptr {a:bC} {b:Nat} (h:f a.1=some b):av F f (.pointer (some a)) (.pointer (some {a with block:=b}))
 |nA (n c:Nat):av F f (.slice none n c) (.slice none n c)
 |sl {a:bC} {b:Nat} (n c:Nat) (h:f a.1=some b):av F f (.slice (some a) n c) (.slice (some {a with block:=b}) n c)
 |Ci:av F f (.map none) (.map none)
 |map {r b:Nat} (h:f r=some b):av F f (.map (some r)) (.map (some b))
 |fn {g:bw} {xs xs' cs cs':Array aq} (hg:F g=true) (hx:bM F f xs.1 xs'.1) (hc:bM F f cs.1 cs'.1):av F f (.func (.func g) xs cs) (.func (.func g) xs' cs')
 |yield {l b:Nat} (h:f l=some b):av F f (.func (.yield l) #[] #[]) (.func (.yield b) #[] #[])
 |nilFunc:av F f .nilFunc .nilFunc
 |iface (t:bB) {v v':aq} (h:av F f v v'):av F f (.iface t v) (.iface t v')
 |nilIface:av F f .nilIface .nilIface
 |agg {cs cs':Array aq} (h:bM F f cs.1 cs'.1):av F f (.agg cs) (.agg cs')
 |tuple {cs cs':Array aq} (h:bM F f cs.1 cs'.1):av F f (.tuple cs) (.tuple cs')
inductive bM(F:bw->Bool)(f:Ren):List aq->List aq->Prop
 |nil:bM F f [] []
 |cons {v v':aq} {l l':List aq} (h:av F f v v') (t:bM F f l l'):bM F f (v::l) (v'::l')
end
section
variable{F:bw->Bool}{f g:Ren}
mutual
theorem av.B(a:f.O g):∀ {v b:aq},av F f v b->av F g v b
 |_,_,.bool b=>.bool b
 |_,_,.int k n=>.int k n
 |_,_,.string s=>.string s
 |_,_,.nw=>.nw
 |_,_,.ptr h=>.ptr<|a _ _ h
 |_,_,.nA n c=>.nA n c
 |_,_,.sl n c h=>.sl n c<|a _ _ h
 |_,_,.Ci=>.Ci
 |_,_,.map h=>.map<|a _ _ h
 |_,_,.fn d e b=>.fn d (bM.cB a e)<|bM.cB a b
 |_,_,.yield h=>.yield<|a _ _ h
 |_,_,.nilFunc=>.nilFunc
 |_,_,.iface t h=>.iface t<|av.B a h
 |_,_,.nilIface=>.nilIface
 |_,_,.agg h=>.agg<|bM.cB a h
 |_,_,.tuple h=>.tuple<|bM.cB a h
theorem bM.cB(a:f.O g):∀ {l b:List aq},bM F f l b->bM F g l b
 |_,_,.nil=>.nil
 |_,_,.cons h t=>.cons (av.B a h)<|bM.cB a t
end
theorem bM.dY:∀ {l a:List aq},bM F f l a->l=a.length
 |_,_,.nil=>rfl
 |_,_,.cons _ t=>by simp[bM.dY t]
theorem bM.ao:∀ {l a:List aq},bM F f l a->∀(i:Nat) v,l[i]?=some v->∃b,a[i]?=some b∧av F f v b
 |_,_,.nil,i,v,h=>na h
 |_,_,.cons a t,0,v,h=>by grind
 |_,_,.cons a t,i+1,v,h=>by simpa using bM.ao t i v h
theorem bM.an:∀ {l a:List aq},bM F f l a->∀(i:Nat),l[i]?=fL->a[i]?=fL
 |_,_,h,i,a=>by rw[P8]at*;rw[<-h.dY];omega
theorem bM.ku:∀ {l a m b:List aq},bM F f l a->bM F f m b->bM F f (l++m) (a++b)
 |_,_,_,_,.nil,h=>h
 |_,_,_,_,.cons a t,h=>.cons a<|bM.ku t h
theorem bM.am:∀ {l a:List aq}{v b:aq}(i),bM F f l a->av F f v b->bM F f (l.set i v) (a.set i b)
 |_,_,_,_,_,.nil,_=>.nil
 |_,_,_,_,0,.cons _ t,h=>.cons h t
 |_,_,_,_,i+1,.cons a t,h=>.cons a<|bM.am i t h
theorem bM.al:∀ {l a:List aq}(i),bM F f l a->bM F f (l.drop i) (a.drop i)
 |_,_,0,h=>aV h
 |_,_,i+1,.nil=>by simpa using .nil
 |_,_,i+1,.cons _ t=>aV<|bM.al i t
theorem bM.iz:∀ {l a:List aq}(i),bM F f l a->bM F f (l.take i) (a.take i)
 |_,_,0,h=>by simpa using .nil
 |_,_,i+1,.nil=>by simpa using .nil
 |_,_,i+1,.cons a t=>by simpa using .cons a<|bM.iz i t
theorem bM.dz:∀ {l a:List aq},l=a.length->(∀(i:Nat) (v b),l[i]?=some v->a[i]?=some b->av F f v b)->bM F f l a
 | [],[],_,_=>.nil
 | [],_::_,h,_=>na h
 |_::_,[],h,_=>na h
 |c::l,d::a,h,H=>.cons (H 0 c d rfl rfl)<|bM.dz (aV h) λi v b a c=>H (i+1) v b (aV a)<|aV c
theorem bM.eT(n)(h:av F f a b):bM F f (Dg n a)<|Dg n b:=by
 induction n with
 |zero=>exact .nil
 |succ n c=>exact .cons h c
def RelA(F:bw->Bool)(f:Ren)(a b:Array aq):Prop:=bM F f a.1 b.1
theorem RelA.B(c:f.O g){a b:Array aq}(h:RelA F f a b):RelA F g a b:=bM.cB c h
theorem RelA.T{a b:Array aq}(h:RelA F f a b):a=b.size:=aV<|bM.dY h
theorem RelA.O{a b:Array aq}(h:RelA F f a b)(i:Nat)(v)(c:a[i]?=some v):∃a,b[i]?=some a∧av F f v a:=by
 have:=bM.ao h i v<|aV c;grind
theorem RelA.V{a b:Array aq}(h:RelA F f a b)(i:Nat)(c:a[i]?=none):b[i]?=none:=by
 have:=bM.an h i<|aV c;grind
theorem RelA.I{a b c d:Array aq}(h:RelA F f a b)(e:RelA F f c d):RelA F f (a++c)<|b++d:=by
 unfold RelA at*;simpa using bM.ku h e
theorem RelA.bN{c d:Array aq}(h:RelA F f c d)(e:av F f a b):RelA F f (c.push a)<|d.push b:=by
 unfold RelA at*;simpa using bM.ku h<|.cons e .nil
theorem RelA.Z{c d:Array aq}(i)(h:RelA F f c d)(e:av F f a b):RelA F f (c.setIfInBounds i a)<|d.setIfInBounds i b:=by
 unfold RelA at*;simpa using bM.am i h e
theorem RelA.m{a b:Array aq}(i j)(h:RelA F f a b):RelA F f (a.extract i j)<|b.extract i j:=by
 unfold RelA at*;simpa using bM.iz _<|bM.al i h
theorem RelA.U:RelA F f #[] #[]:=bM.nil
theorem RelA.ac(h:av F f a b):RelA F f #[a] #[b]:=bM.cons h .nil
theorem RelA.Y{a b:Array aq}(h:RelA F f a b)(i){d c:aq}(e:av F f d c):av F f (a.getD i d)<|b.getD i c:=by
 rw[Dq,Dq];cases c:a[i]? with
 |none=>rw[h.V i c];exact e
 |some v=>obtain⟨a,a,d⟩:=h.O i v c;rw[a];exact d
theorem av.U{v a:aq}(h:av F f v a):RelA F f v.cells a.cells:=by
 cases h<;>first|assumption|exact RelA.ac (by constructor<;>assumption)
inductive cG(F:bw->Bool)(f:Ren):List fZ->List fZ->Prop
 |nil:cG F f [] []
 |cons {e e':fZ} {l l':List fZ} (hk:av F f e.1 e'.1) (hv:av F f e.2 e'.2) (hb:e'.3=e.3) (t:cG F f l l'):cG F f (e::l) (e'::l')
inductive kp(f:Ren):List qh->List qh->Prop
 |nil:kp f [] []
 |cons {r b:Nat} {l l':List qh} (h:f r=some b) (t:kp f l l'):kp f ({target:=.collected r,args:= #[]}::l) ({target:=.collected b,args:= #[]}::l')
def oL:aq->Prop
 | .bool _| .int .. =>True
 |_=>False
inductive ek(P:bj)(F:bw->Bool)(C:eN->Bool)(f:Ren):bI->bI->Prop
 |cells {c c':Array aq} (e:bB) (fr:Nat×Nat) (h:RelA F f c c'):ek P F C f (.cells c e fr) (.cells c' e fr)
 |map {es es':Array fZ} (clock:Nat) (h:cG F f es.1 es'.1):ek P F C f (.map es clock) (.map es' clock)
 |wm (since:Nat) (seen:Array Nat) (st:Nat):ek P F C f (.mapIter none since seen st) (.mapIter none since seen st)
 |iter {m b:Nat} (h:f m=some b) (since:Nat) (seen:Array Nat) (st:Nat):ek P F C f (.mapIter (some m) since seen st) (.mapIter (some b) since seen st)
 |loop {l l':Loop} (hs:l'.1=l.1) (hp:l'.2=l.2) (hf:l'.3=l.3) (hF:F l.3=true) (ht:RelA F f l.4 l'.4) (hps:l'.5=l.5) (ha:l'.6=l.6) (hb:l'.7=l.7)
   (hd:f l.8=some l'.8) (ca:C l.6=true) (cb:C l.7=true) (cp:∀c,l.2=some c->C c=true):ek P F C f (.loop l) (.loop l')
 |xZ:ek P F C f (.deferred none) (.deferred none)
 |v_:ek P F C f (.deferred (some [])) (.deferred (some []))
 |number {a:bC} {b:Nat} (h:f a.1=some b) (lost:Bool):ek P F C f (.number a lost) (.number {a with block:=b} lost)
 |view {a:bC} {b:Nat} (h:f a.1=some b) {u:bB} (hu:∀k v,plainCell P P.depth u k=some v->oL v):ek P F C f (.view a u) (.view {a with block:=b} u)
theorem cG.B(a:f.O g):∀ {l b:List fZ},cG F f l b->cG F g l b
 |_,_,.nil=>.nil
 |_,_,.cons c d b t=>.cons (c.B a) (d.B a) b<|cG.B a t
theorem kp.B(a:f.O g):∀ {l b:List qh},kp f l b->kp g l b
 |_,_,.nil=>.nil
 |_,_,.cons h t=>.cons (a _ _ h)<|kp.B a t
theorem ek.B(a:f.O g){o b:bI}(h:ek L F f8 f o b):ek L F f8 g o b:=by
 cases h with
 |cells e fr h=>exact .cells e _<|h.B a
 |map b h=>exact .map _<|h.B a
 |wm b d c=>exact .wm b d c
 |iter h b d c=>exact .iter (a _ _ h) b d c
 |loop b d c i e k l m n p q r=>exact .loop b d c i (e.B a) k l m (a _ _ n) p q r
 |xZ=>exact .xZ
 |v_=>exact .v_
 |number h lost=>exact .number (a _ _ h) _
 |view h b=>exact .view (a _ _ h) b
theorem cG.I:∀ {l a:List fZ},cG F f l a->l=a.length
 |_,_,.nil=>rfl
 |_,_,.cons _ _ _ t=>by simp[cG.I t]
theorem cG.U:∀ {l a m b:List fZ},cG F f l a->cG F f m b->cG F f (l++m) (a++b)
 |_,_,_,_,.nil,h=>h
 |_,_,_,_,.cons a b c t,h=>.cons a b c<|cG.U t h
theorem cG.Z:∀ {l b:List fZ},cG F f l b->∀(i:Nat) e,l[i]?=some e->∃a,b[i]?=some a∧av F f e.1 a.1∧av F f e.2 a.2∧a.3=e.3
 |_,_,.nil,i,e,h=>na h
 |_,_,.cons b c a t,0,e,h=>by grind
 |_,_,.cons b c a t,i+1,e,h=>by simpa using cG.Z t i e h
end
theorem ll(P:bj):∀(b:cm s)(k:s->cm F)(w:ag)(a:Array gY),
  (b.bind k).runT P w a=match b.runT P w a with|(.ok b w1,c)=>(k b).runT P w1 c|(.halt h w1,c)=>(.halt h w1,c)
 | .pure b,k,w,a=>rfl
 | .load m b j,k,w,a=>by
  simp only[Dr,jQ];cases w.cell? b with
  |some v=>exact ll P _ k w _
  |none=>cases w.farLoad P b (m==.atomic)with
   |ok r=>exact ll P _ k w _
   |error h=>rfl
 | .store m b v j,k,w,a=>by
  cases v<;>simp only[Dr,jQ]<;>
  cases w.cell? b with
  |some x=>
   dsimp only;split;rfl;exact ll P j k _ _
  |none=>
   dsimp only;generalize Ja P w b _ (m==.atomic)=r;cases r with
   |ok r=>exact ll P j k _ _
   |error h=>rfl
 | .new o j,k,w,a=>ll P (j w.1.size) k _ _
 | .shape r j,k,w,a=>ll P (j<|w.shape? r) k _ _
 | .freeze b n j,k,w,a=>ll P j k _ _
 | .frozen b j,k,w,a=>ll P (j<|w.frozen? b) k _ _
 | .getObj r j,k,w,a=>by
  simp only[Dr,jQ];cases w.1[r]? with
  |none=>rfl
  |some o=>cases o<;>first|rfl|exact ll P (j _) k _ _
 | .setObj r o j,k,w,a=>by
  simp only[Dr,jQ];cases w.1[r]? with
  |none=>rfl
  |some b=>cases b<;>first|rfl|exact ll P j k _ _
 | .choose q j,k,w,a=>by
  simp only[Dr,jQ];split;exact ll P _ k _ _;exact ll P _ k _ _
 | .sys c j,k,w,a=>ll P (j _) k _ _
 | .program j,k,w,a=>ll P (j P) k _ _
 | .mark m j,k,w,a=>ll P j k _ _
 | .halt h,k,w,a=>rfl
theorem runT_bind'(P:bj)(c:cm s)(k:s->cm F)(w:ag)(a:Array gY):
  (c>>= k).runT P w a=match c.runT P w a with|(.ok d w1,b)=>(k d).runT P w1 b|(.halt h w1,b)=>(.halt h w1,b):=ll P c k w a
def lj:Obj:=.chan 0 #[] false 0 0 false
def lA(n:Nat)(w:ag):Prop:=∀b,b<n->w.1[b]?=some lj
theorem lA.B(h:lA i k):i<=k:=by
 obtain a|a:=tE k.1.size i;exact absurd (fU.1<|h _ a).1<|Hh _;omega
theorem lA.I{w w':ag}(h:lA i w)(c:∀b,b<i->w'.1[b]?=w.1[b]?):lA i w':=λb a=>(c b a).trans<|h b a
structure dB(P:bj)(F:bw->Bool)(C:eN->Bool)(f:Ren)(w w':ag):Prop where
 low:∀a b,f a=some b->P.globals.size<=a∧P.globals.size<=b
 big:lA P.globals.size w∧P.globals.size<=w'.1.size
 heap:∀a b,f a=some b->∃o o',w.1[a]?=some o∧w'.1[b]?=some o'∧ek P F C f o o'
 inj:f.U
 tape:∀i q,w.2 (w.3+i) q=w'.2 (w'.3+i) q
structure km(f g:Ren)(w w':ag):Prop where
 le:f.O g
 tape:w'.2=w.2
 os:w'.4=w.4
 output:w'.5=w.5
 size:w.1.size<=w'.1.size
 off:∀b,b<w.1.size->(∀a,f a≠some b)->w'.1[b]?=w.1[b]?
 fresh:∀a b,g a=some b->f a=some b∨w.1.size<=b
 new:∀b,w.1.size<=b->b<w'.1.size->∃a,g a=some b
theorem km.B(f:Ren)(w:ag):km f f w w:=⟨f.I,rfl,rfl,rfl,cP _,λ_ _ _=>rfl,λ_ _ h=>.inl h,λb a b=>absurd a aa⟩
variable{i1 i4 y:Ren}
theorem km.I(a:km i1 i4 C k)(b:km i4 y k f0):km i1 y C f0 where
 le:=Ren.B a.1 b.1
 tape:=b.2.trans a.2
 os:=b.3.trans a.3
 output:=b.4.trans a.4
 size:=dI a.5 b.5
 off:=λn d e=>by
  rw[b.6 n (kJ d a.5) λx c=>(a.7 x n c).elim (e x) aa,a.6 n d e]
 fresh:=λx n c=>by
  obtain y|y:=b.7 x n c;exact a.7 x n y;exact .inr<|dI a.5 y
 new:=λn e f=>by
  by_cases d:n<k.1.size;obtain⟨x,c⟩:=a.8 n e d;exact⟨x,b.1 _ _ c⟩;exact b.8 n aa f
def kP(f:Ren)(e:gY):Prop:=
 match e with
 |⟨.cell a,_,s⟩=>s=false∧∃x,f x=some a.1
 |⟨.obj r,_,s⟩=>s=false∧∃x,f x=some r
 |⟨.mark (.extern _),_,_⟩|⟨.mark .noRoom,_,_⟩=>True
 |_=>False
theorem kP.B{f g:Ren}(h:f.O g)(a:kP f f3):kP g f3:=by
 unfold kP at*;split at a;exact⟨a.1,a.2.imp λ_=>h _ _⟩;exact⟨a.1,a.2.imp λ_=>h _ _⟩;omega;omega;omega
def mW:zn->Prop
 | .panic _| .stuck _=>True
 | .unsupported (.initOrder _)=>False
 | .unsupported _=>True
 |_=>False
def Sn(P:bj)(c:bw->Bool)(C:eN->Bool)(A:Ren->s->F->Prop)(h:Ren)(g:cm s)(j:cm F):Prop:=
 ∀w a b f,dB P c C h w a->∀d w1 e,g.runT P w b=(.ok d w1,e)->
  ∃g e b i,j.runT P a f=(.ok e b,f++i)∧dB P c C g w1 b∧km h g a b∧A g d e∧∀e∈i,kP g e
def Local(P:bj)(d:cm s)(w:ag)(b:Array gY)(a:s)(w1:ag)(c:Array gY):Prop:=
 w.3<=w1.3∧w1.2=w.2∧∀T,(∀j,w.3<=j->j<w1.3->T j=w.2 j)->d.runT P {w with tape:=T} b=(.ok a {w1 with tape:=T},c)
def Clean(f:Ren)(w:ag):Prop:=∀a b,f a=some b->∀b,w.1[a]?=some (.deferred (some b))->b= []
theorem Clean.B{f g:Ren}(h:f.O g)(d:Clean g k):Clean f k:=λa b c=>d a b<|h _ _ c
theorem dB.O{w w':ag}(g:dB L b8 f8 y w w'):Clean y w:=by
 intro c b f a a;obtain⟨o,d,d,e,e⟩:=g.3 c b f;rw[d]at a;cases a;cases e;rfl
def Sp(P:bj)(F:bw->Bool)(C:eN->Bool)(f:Ren)(c:cm s):Prop:=
 ∀w a b,dB P F C f w a->(∀h w1 a,c.runT P w b=(.halt h w1,a)->mW h∧Clean f w1)∧∀d w1 a,c.runT P w b=(.ok d w1,a)->Local P c w b d w1 a
def ak(P:bj)(a:bw->Bool)(C:eN->Bool)(A:Ren->s->F->Prop)(f:Ren)(b:cm s)(c:cm F):Prop:=
 Sn P a C A f b c∧Sp P a C f b
section
variable{α α' β β':Type}{P:bj}{F:bw->Bool}{C:eN->Bool}{f:Ren}
theorem ak.of{A:Ren->α->α'->Prop}{s:cm α}{k:cm α'}(H:∀w c,dB P F C f w c->(∃h,(∀a,s.runT P w a=(.halt h w,a))∧mW h)∨
  ∃j w1 m g d b i,(∀T a,s.runT P {w with tape:=T} a=(.ok j {w1 with tape:=T},a++m))∧w1.3=w.3∧w1.2=w.2∧(∀a,k.runT P c a=(.ok d b,a++i))∧dB P F C g w1 b∧km f g c b∧A g j d∧∀e∈i,kP g e):ak P F C A f s k:=by
 refine⟨λw c a b k x w1 l b=>?_,λw c a k=>⟨λx w1 l b=>?_,λx w1 l b=>?_⟩⟩<;>obtain⟨h,e,n⟩|⟨j,w2,m,g,d,m,i,e,c,j,l,h⟩:=H w _ k
 all_goals first|rw[e]at b|rw[show s.runT P w a=_ from e w.tape a]at b
 all_goals cases b
 ·exact⟨g,d,m,i,l _,j▸h⟩
 ·exact⟨n,k.O⟩
 ·exact⟨vu c.symm,rfl,λT _=>e T _⟩
theorem ak.VT{A:Ren->α->α'->Prop}{a:α}{b:α'}(h:A f a b):ak P F C A f (P9 a)<|P9 b:=
 .of λw d c=>.inr ⟨a,w,#[],f,b,d,#[],λ_ _=>rfl,rfl,rfl,λ_=>rfl,c,.B _ _,h,af⟩
theorem ak.B{A:Ren->α->α'->Prop}{a:α}{b:α'}(h:A f a b):ak P F C A f (cD a:cm α) (cD b:cm α'):=ak.VT h
theorem ak.O{A:Ren->α->α'->Prop}{h:zn}{b:cm α'}(a:mW h:=by exact True.intro):ak P F C A f (Hi h) b:=.of λ_ _ _=>.inl ⟨_,λ_=>rfl,a⟩
theorem ak.I{A:Ren->α->α'->Prop}{B:Ren->β->β'->Prop}{s:cm α}{c:cm α'}{k:α->cm β}{a:α'->cm β'}
  (j:ak P F C A f s c)(t:∀g b d,f.O g->A g b d->ak P F C B g (k b) (a d)):ak P F C B f (s>>= k)<|c>>= a:=by
 refine⟨?_,λw w' l k=>⟨λx w1 p a=>?_,λx w1 p a=>?_⟩⟩;rotate_left;rw[runT_bind']at a;generalize i:s.runT P w l=r at a;obtain⟨r,n⟩:=r;cases r with
 |halt c w2=>
  obtain⟨⟨rfl,rfl⟩,_⟩:=a;exact(j.2 _ _ _ k).1 _ _ _ i
 |ok b w2=>
  obtain⟨g,d,v,o,e,c,h,m,q⟩:=j.1 w _ _ #[] k b w2 _ i;exact(((t g b _ h.1 m).2 _ _ _ c).1 _ _ _ a).imp id λu=>u.B h.1
 rw[runT_bind']at a;generalize i:s.runT P w l=r at a;obtain⟨r,n⟩:=r;cases r with
 |halt c w2=>simp at a
 |ok b w2=>
  obtain⟨g,d,v,o,e,c,h,m,q⟩:=j.1 w _ _ #[] k b w2 _ i;obtain⟨z,B,u⟩:=(j.2 _ _ _ k).2 _ _ _ i;obtain⟨m1,m2,D⟩:=((t g b d h.1 m).2 _ _ _ c).2 _ _ _ a;refine⟨dI z m1,m2.trans B,λT y=>?_⟩;rw[runT_bind',u T λu e c=>y u e<|kJ c m1];exact D T λu e c=>aw B<|y u (dI z e) c
 intro w w' l u k x w1 p a;rw[runT_bind']at a;generalize i:s.runT P w l=r at a;obtain⟨r,n⟩:=r;cases r with
 |halt j w2=>simp at a
 |ok b w2=>
  obtain⟨g,d,v,o,e,c,h,m,q⟩:=j.1 w w' l u k b w2 n i;obtain⟨j,i,y,z,k,i2,i3,l,s⟩:=(t g b d h.1 m).1 w2 v n (u++o) c x w1 p a;refine⟨j,i,y,o++z,?_,i2,h.I i3,l,?_⟩;rw[runT_bind',e];dsimp only;rw[k,Array.append_assoc];intro e a;obtain a|a:=mP.1 a;exact(q e a).B i3.1;exact s e a
theorem ak.EM{A B:Ren->α->α'->Prop}{s:cm α}{c:cm α'}(h:ak P F C A f s c)(k:∀g b a,f.O g->A g b a->B g b a):ak P F C B f s c:=by
 refine⟨?_,h.2⟩;intro w b b c m x w1 b l;obtain⟨g,a,n,o,d,e,b,i,j⟩:=h.1 w _ _ c m x w1 _ l;exact⟨g,a,n,o,d,e,b,k _ _ _ b.1 i,j⟩
def Still(P:bj)(s:cm α):Prop:=∃r:Except zn α,(∀h,r=.error h->mW h)∧∀w a,s.runT P w a=match r with| .ok b=>(.ok b w,a)| .error h=>(.halt h w,a)
theorem Still.B(a:α):Still P (cD a:cm α):=⟨.ok a,af,λ_ _=>rfl⟩
theorem Still.O(h:zn)(a:mW h:=by exact True.intro):Still P (Hi h:cm α):=⟨.error h,by grind,λ_ _=>rfl⟩
theorem Still.T:Still P qi:=⟨.ok P,af,λ_ _=>rfl⟩
theorem Still.I{s:cm α}{k:α->cm β}(h:Still P s)(f:∀a,Still P<|k a):Still P<|s>>= k:=by
 obtain⟨r,b,b⟩:=h;cases r with
 |error e=>exact⟨.error e,by grind,λw c=>by rw[runT_bind',b]⟩
 |ok a=>
  obtain⟨e,d,g⟩:=f a;exact⟨e,d,λw c=>by rw[runT_bind',b];grind⟩
theorem ak.ao{s:cm α}(h:Still P s):ak P F C (λ_ a b=>a=b) f s s:=by
 obtain⟨r|a,c,b⟩:=h;exact .of λw _ _=>.inl ⟨_,b w,c _ rfl⟩;exact .of λw d c=>.inr ⟨a,w,#[],f,a,d,#[],λ_ _=>b _ _,rfl,rfl,b _,c,.B _ _,rfl,af⟩
theorem GX(t:bB):Still P<|typeInfo t:=by
 refine .I .T λp=>?_;split;exact .B _;exact .O _
theorem wN(t:bB):Still P<|underlying t:=by
 refine .I .T λp=>?_;split;exact .B _;exact .O _
theorem jk(t:bB):Still P<|sizeOf t:=.I (GX t) λ_=>.B _
theorem Pk(t:bB):Still P<|isAgg t:=by
 refine .I (wN t) λd=>?_;split<;>exact .B _
theorem ac2(t:bB):Still P<|zeroValue t:=by
 refine .I (GX t) λi=>?_;split;exact .B _;exact .O _
theorem ak.Y{B:Ren->β->β'->Prop}{s c:cm α}{k:α->cm β}{b:α->cm β'}(h:ak P F C (λ_ a d=>a=d) f s c)(d:∀g a,f.O g->ak P F C B g (k a) (b a)):ak P F C B f (s>>= k)<|c>>= b:=.I h λg a _ b e=>e▸d g a b
theorem ak.Z{B:Ren->β->β'->Prop}{s:cm α}{k:α->cm β}{b:α->cm β'}(h:Still P s)(c:∀g a,f.O g->ak P F C B g (k a) (b a)):ak P F C B f (s>>= k)<|s>>= b:=.Y (.ao h) c
theorem ak.U{B:Ren->β->β'->Prop}{Q:Ren->α->Prop}{s c:cm α}{k:α->cm β}{b:α->cm β'}(h:ak P F C (λg a d=>a=d∧Q g a) f s c)(d:∀g a,f.O g->Q g a->ak P F C B g (k a) (b a)):ak P F C B f (s>>= k)<|c>>= b:=.I h λg a _ b e=>e.1▸d g a b e.2
theorem ak.E3{Q:α->Prop}{s:cm α}(h:Still P s)(q:∀w c a w1 d,s.runT P w c=(.ok a w1,d)->Q a):ak P F C (λ_ a b=>a=b∧Q a) f s s:=⟨λw p c g o a w1 d e=>let⟨i,b,r,s,j,k,l,m,n⟩:=(ak.ao (f:=f) h).1 w p c g o a w1 d e; ⟨i,b,r,s,j,k,l,⟨m,q _ _ _ _ _ e⟩,n⟩,(ak.ao h).2⟩
def Plain(F:bw->Bool)(v:aq):Prop:=∀f,av F f v v
def oP(P:bj)(F:bw->Bool)(t:bB):Prop:=∀i,P.info? t=some i->∀v,i.8=some v->Plain F v
theorem ak.ac(e:oP P F d):ak P F C (λ_ a b=>a=b∧Plain F a) f (Ds d)<|Ds d:=
 .E3 (ac2 d) λw b a w1 a a=>by
  unfold Ds Dt at a;rw[runT_bind',runT_bind']at a;simp only[qi,jQ]at a;cases b:P.info? d with
  |none=>simp[b]at a
  |some i=>
   simp only[b,cD,jQ]at a;cases c:i.8 with
   |none=>simp[c]at a
   |some v=>simp[c]at a;exact a.1.1▸e i b _ c
theorem ak.T(t:bB):ak P F C (λ_ a b=>a=b∧P.underlying t=some a) f (ry t)<|ry t:=
 .E3 (wN t) λw b a w1 a a=>by
  unfold ry at a;rw[runT_bind']at a;cases b:P.underlying t<;>simp[b]at a;grind
theorem ak.cB(t:bB):ak P F C (λ_ a b=>a=b∧P.info? t=some a) f (Dt t)<|Dt t:=
 .E3 (GX t) λw b a w1 a a=>by
  unfold Dt at a;rw[runT_bind']at a;cases b:P.info? t<;>simp[b]at a;grind
theorem ak.bN:ak P F C (λ_ a b=>P=a∧P=b) f qi qi:=.of λw b a=>.inr ⟨P,w,#[],f,P,b,#[],λ_ _=>rfl,rfl,rfl,λ_=>rfl,a,.B _ _,⟨rfl,rfl⟩,af⟩
end
def b_(f:Ren)(a c:bC):Prop:=∃b,f a.1=some b∧c={a with block:=b}
theorem b_.B{f g:Ren}(h:f.O g){a b:bC}(x:b_ f a b):b_ g a b:=let⟨b,a,e⟩:=x; ⟨b,h _ _ a,e⟩
theorem b_.I(n)(x:b_ y f j):b_ y (f.add n)<|j.add n:=by
 obtain⟨b,a,rfl⟩:=x;unfold Addr.add;split;exact⟨b,a,rfl⟩;exact⟨b,a,rfl⟩
section
variable{P:bj}{F:bw->Bool}{C:eN->Bool}{f:Ren}{w w':ag}
theorem ek.I(h:ek P F C f z M):z.isChan=false∧M.isChan=false:=by cases h<;>exact⟨rfl,rfl⟩
theorem dB.Y(n:dB P F C f w w'){c d:bC}(k:b_ f c d){v:aq}(a:w.cell? c=some v):∃e,w'.cell? d=some e∧av F f v e:=by
 obtain⟨b,l,rfl⟩:=k;obtain⟨p,q,g,i,j⟩:=n.3 _ _ l;unfold gK at*;rw[g]at a;cases j with
 |cells o fr h=>
  simp only[i];simp only at a⊢;split at a;grind;rename_i m;rw[if_neg m];exact h.O _ _ a
 |_=>grind
theorem dB.T(l:dB P F C f w w'){b c:bC}(i:b_ f b c)(a:w.cell? b=none):w'.cell? c=none:=by
 obtain⟨m,j,rfl⟩:=i;obtain⟨o,p,d,e,g⟩:=l.3 _ _ j;unfold gK at*;rw[d]at a;cases g with
 |cells n fr h=>
  simp only[e];simp only at a⊢;split at a;grind;rename_i k;rw[if_neg k];exact h.V _ a
 |_=>grind
theorem dB.B(e:dB P F C f w w'){a b:bC}(c:b_ f a b):w'.frozen? b=w.frozen? a:=by
 obtain⟨b,d,rfl⟩:=c;obtain⟨o,a,a,b,c⟩:=e.3 _ _ d;unfold zO;simp[a,b];cases c<;>rfl
theorem Ln(h:av F f a b):b.bytes?=a.bytes?∧∀c,a.bytes?=some c->b=a∧oL a:=by
 cases h with
 |bool c=>exact⟨rfl,λ_ _=>⟨rfl,trivial⟩⟩
 |int k n=>exact⟨rfl,λ_ _=>⟨rfl,trivial⟩⟩
 |_=>exact⟨rfl,λ_ h=>by simp[Value.bytes?]at h⟩
theorem Gb{v u:aq}(a:oL v)(h:v.ofBytes d7=some u):oL u:=by
 cases v<;>first|exact a.elim|skip
 unfold Jb at h;simp only at h;split at h<;>first|(cases h;trivial)|cases h
 unfold Jb at h;simp only at h;split at h;cases h;trivial;cases h
theorem aam(c:av F f a p)(h:a.ofBytes d7=some b):p.ofBytes d7=some b∧oL b:=by
 cases c with
 |bool c=>exact⟨h,Gb (v:=.bool c) trivial h⟩
 |int k n=>exact⟨h,Gb (v:=.int k n) trivial h⟩
 |_=>simp[Jb]at h
theorem oL.B{v:aq}(h:oL v):av F f v v:=by
 cases v<;>first|exact h.elim|skip
 exact .bool _;exact .int _ _
theorem O6(h:RelA F f e g)(a:bB):∀(n x b),seenCells P g a n x b=seenCells P e a n x b
 |0,_,_=>rfl
 |n+1,x,b=>by
  unfold seenCells;split;rfl;simp only;split;rfl;generalize(cellHolding P P.depth a<|x % P.bytesOf a).map (λ(i,s)=>(x/P.bytesOf a*P.cellsOf a+i,x/P.bytesOf a*P.bytesOf a+s))=q;cases q with
  |none=>rfl
  |some q=>
   obtain⟨i,s⟩:=q;simp only;cases b:e[i]? with
   |none=>rw[h.V i b]
   |some v=>
    obtain⟨c,d,c⟩:=h.O i v b;rw[d];simp only;rw[(Ln c).1];cases v.bytes? with
    |none=>rfl
    |some b=>
     cases b with
     |nil=>rfl
     |cons c b=>simp only;rw[O6 h a n]
theorem dB.V(x:dB P F C f w w'){a a' k c:bC}(q:b_ f a a')(j:c.2=k.2∧c.3=k.3)(u:bB){r:Array aq×bB× _×Nat×aq×List _}(h:w.seen P a u k false=.ok r):
  ∃b,w'.seen P a' u c false=.ok (b,r.2)∧RelA F f r.1 b∧plainCell P P.depth u k.2=some r.2.2.2.2.1∧w.1[a.1]?=some (.cells r.1 r.2.1 r.2.2.1)∧w'.1[a'.1]?=some (.cells b r.2.1 r.2.2.1):=by
 obtain⟨D,s,rfl⟩:=q;obtain⟨E,G,g,n,o⟩:=x.3 _ _ s;unfold World.seen at h⊢;rw[j.1,j.2];by_cases l:(k.3.isSome||a.3.isSome)=true;simp only[if_pos l]at h;cases h;simp only[if_neg l]at h⊢;cases v:plainCell P P.depth u k.2 with
 |none=>simp_all
 |some z=>
  rw[v]at h;dsimp only[pure_bind]at h⊢;cases y:z.bytes?.map (·.length)with
  |none=>simp_all
  |some size=>
   rw[y]at h;cases p:byteOfCell P P.depth u k.2 with
   |none=>simp_all
   |some B=>
    rw[p]at h;rw[g]at h;rw[n];cases o with
    |cells e fr i=>
     rename_i m b;by_cases d:P.cellsOf e=0;simp[if_pos d]at h;cases h;simp only[if_neg d]at h⊢;cases t:byteOfCell P P.depth e (a.2 % P.cellsOf e)with
     |none=>simp_all
     |some b0=>
      rw[t]at h;simp only at h⊢;rw[O6 i];generalize seenCells P m e (size+1) (a.2/P.cellsOf e*P.bytesOf e+b0+B) (a.2/P.cellsOf e*P.bytesOf e+b0+B+size)=A at h⊢;cases A with
      |error e=>cases h
      |ok cells=>
       cases h;exact⟨b,rfl,i,rfl,g,rfl⟩
    |_=>cases h
theorem dB.I(m:dB P F C f w w'){b c k e:bC}(i:b_ f b c)(j:e.2=k.2∧e.3=k.3)(l:∀k a,plainCell P P.depth d k=some a->oL a)(h:w.viewLoad P b d k false=.ok (a,e0)):
  ∃g,w'.viewLoad P c d e false=.ok (a,g)∧oL a∧∀x∈g,x.1=c.1:=by
 unfold World.viewLoad at h⊢;cases c:w.seen P b d k false with
 |error e=>rw[c]at h;cases h
 |ok r=>
  obtain⟨b,b,_,g,_⟩:=m.V i j d c;obtain⟨i,e,fr,first,e,cells⟩:=r;rw[c]at h;rw[b];have b:=l _ _ g;simp only[bind,Jc]at h⊢b;generalize c:e.ofBytes _=q at h⊢;cases q with
  |none=>cases h
  |some y=>cases h;exact⟨_,rfl,Gb b c,λx b=>by grind⟩
theorem dB.bN(i:dB P F C f w w'){a b:bC}(e:b_ f a b):(∃h,w.farLoad P a false=.error h∧mW h)∨
  ∃v c d,w.farLoad P a false=.ok (v,c)∧w'.farLoad P b false=.ok (v,d)∧av F f v v∧∀x∈d,∃y,f y=some x.1:=by
 have p:b.2=a.2∧b.3=a.3:=by obtain⟨j,_,rfl⟩:=e;exact⟨rfl,rfl⟩
 obtain⟨j,n,rfl⟩:=e;let⟨A,B,k,l,m⟩:=i.3 _ _ n;unfold Hj Jd;simp only[k,l];cases m with
 |view g q=>
  rename_i a1 b1 u;simp only;cases o:w.viewLoad P a1 u a false with
  |error z=>exact .inl ⟨_,rfl,zo⟩
  |ok t=>
   obtain⟨v,c⟩:=t;obtain⟨d,s,i2,i3⟩:=i.I ⟨b1,g,rfl⟩ p q o;rw[s];exact .inr ⟨v,c,_,rfl,rfl,i2.B,λx r=>⟨_,g.trans<|congrArg _ (i3 x r).symm⟩⟩
 |_=>exact .inl ⟨_,rfl,zo⟩
def ri(b:Nat×Nat)(first:Nat)(a:List UInt8)(c:Array aq)(q:Nat×Nat×List UInt8):Except String (Array aq):=do
 if q.2.1<first||q.2.1+q.2.2.length>first+a.length then zq "memory seen as another type: a part of a cell written"
 if b.1<=q.1&&q.1<b.2 then zq "a write to bytes that a string shares"
 let some old:=c[q.1]? |zq "memory seen as another type: no such cell"
 let some new:=old.ofBytes ((a.drop (q.2.1- first)).take q.2.2.length)|zq "memory seen as another type: a bool from a byte other than 0 or 1"
 cD (c.setIfInBounds q.1 new)
theorem MP(g:Nat×Nat)(first)(c:List UInt8):∀(l:List<|Nat×Nat×List UInt8){d e a:Array aq},RelA F f d e->l.foldlM (ri g first c) d=.ok a->∃b,l.foldlM (ri g first c) e=.ok b∧RelA F f a b
 | [],d,e,a,h,b=>by cases b;exact⟨e,rfl,h⟩
 |q::l,d,e,a,h,b=>by
  simp at b⊢;cases a:ri g first c d q with
  |error i=>rw[a]at b;cases b
  |ok c1=>
   rw[a]at b;have:∃i,ri g first c e q=.ok i∧RelA F f c1 i:=by
    unfold ri at a⊢;by_cases e:(decide (q.2.1<first)||decide (q.2.1+q.2.2.length>first+c.length))=true;simp only[if_pos e]at a;cases a;simp only[if_neg e]at a⊢;by_cases e:(decide (g.1<=q.1)&&decide (q.1<g.2))=true;simp only[if_pos e]at a;cases a;simp only[if_neg e]at a⊢;cases e:d[q.1]? with
    |none=>simp_all
    |some old=>
     obtain⟨d,d,g⟩:=h.O _ _ e;rw[e]at a;rw[d];dsimp only[pure_bind]at a⊢;cases d:old.ofBytes ((c.drop<|q.2.1- first).take q.2.2.length)with
     |none=>simp_all
     |some new=>
      obtain⟨c,i2⟩:=aam g d;rw[d]at a;rw[c];cases a;exact⟨_,rfl,h.Z _ i2.B⟩
   obtain⟨i,c,i2⟩:=this;rw[c];exact MP _ _ _ l i2 b
theorem PK(w:ag)(a k:bC)(u:bB)(v:aq):w.viewStore P a u k v false=(do
  if !tight P P.depth u then zq "memory seen as another type: a store through a type with padding"
  let r<-w.seen P a u k false
  let some b:=v.bytes?|zq "memory seen as another type: a value that is no plain data"
  if some b.length≠r.2.2.2.2.1.bytes?.map (·.length)then zq "memory seen as another type: a value of another size"
  let c<-r.2.2.2.2.2.foldlM (ri r.2.2.1 r.2.2.2.1 b) r.1
  cD ({w with heap:=w.1.setIfInBounds a.1 (.cells c r.2.1 r.2.2.1)},r.2.2.2.2.2.map λ(i,_,_)=>{block:=a.1,off:=i})):=rfl
theorem dB.U(a:dB P F C f w w')(c:f i=some r)(b:ek P F C f z M){w1 b:ag}
  (d:w1.1=w.1.setIfInBounds i z)(e:b.1=w'.1.setIfInBounds r M)(j:w1.2=w.2)(g:w1.3=w.3)(k:b.2=w'.2)(h:b.3=w'.3):dB P F C f w1 b:=by
 refine⟨a.1,⟨a.2.1.I λx b=>by rw[d,mQ];have:=(a.1 i r c).1;omega,by rw[e];simpa using a.2.2⟩,λx y b=>?_,a.4,λd q=>by rw[j,g,k,h];exact a.5 d q⟩;obtain⟨p,d,d,i2,i3⟩:=a.3 x y b;by_cases d:x=i;grind;have e:y≠r:=λe=>d<|a.4 _ _ _ b<|e▸c;grind
theorem km.O{r b:Nat}(a:f r=some b)(a:k.1=w'.1.setIfInBounds b z)(d:k.2=w'.2)(c:k.4=w'.4)(e:k.5=w'.5):km f f w' k where
 le:=f.I
 tape:=d
 os:=c
 output:=e
 size:=cw a
 off:=λn a a=>by grind
 fresh:=λ_ _ h=>.inl h
 new:=λn a a=>by grind
theorem yH(h:Array bI)(b)(g:bI->bI)(o:bI)(a:h[b]?=some o):h.modify b g=h.setIfInBounds b (g o):=by
 grind
theorem ad2{w w1:ag}{c k:bC}(h:w.viewStore P c d k a false=.ok (w1,e0)):
  ∃r b e,¬(!tight P P.depth d)=true∧w.seen P c d k false=.ok r∧a.bytes?=some b∧¬(some b.length≠r.2.2.2.2.1.bytes?.map (·.length))∧r.2.2.2.2.2.foldlM (ri r.2.2.1 r.2.2.2.1 b) r.1=.ok e∧
   w1={w with heap:=w.1.setIfInBounds c.1 (.cells e r.2.1 r.2.2.1)}∧e0=r.2.2.2.2.2.map λ(i,_,_)=>{block:=c.1,off:=i}:=by
 rw[PK]at h;by_cases f:(!tight P P.depth d)=true;simp only[if_pos f]at h;cases h;simp only[if_neg f]at h;cases f:w.seen P c d k false with
 |error c=>rw[f]at h;cases h
 |ok r=>
  rw[f]at h;simp only[bind,Jc]at h;cases f:a.bytes? with
  |none=>simp_all
  |some b=>
   rw[f]at h;by_cases f:some b.length≠r.2.2.2.2.1.bytes?.map (·.length);simp_all;simp[if_neg f]at h;cases f:r.2.2.2.2.2.foldlM (ri r.2.2.1 r.2.2.2.1 b) r.1 with
   |error c=>grind
   |ok e=>rw[f]at h;cases h;grind
theorem PL{w:ag}{a k:bC}{v:aq}{r:Array aq×bB× (Nat×Nat)×Nat×aq×List (Nat×Nat×List UInt8)}(b: ¬(!tight P P.depth d)=true)(c:w.seen P a d k false=.ok r)(f:v.bytes?=some d7)(g: ¬(some d7.length≠r.2.2.2.2.1.bytes?.map (·.length)))(h:r.2.2.2.2.2.foldlM (ri r.2.2.1 r.2.2.2.1 d7) r.1=.ok e):
  w.viewStore P a d k v false=.ok ({w with heap:=w.1.setIfInBounds a.1 (.cells e r.2.1 r.2.2.1)},r.2.2.2.2.2.map λ(i,_,_)=>{block:=a.1,off:=i}):=by
 rw[PK];simp only[if_neg b];rw[c];simp only[bind,Jc];rw[f];simp[if_neg g];rw[h];rfl
theorem dB.Z(g:dB P F C f w w'){c a':bC}(k:b_ f c a')(A:av F f a b):(∃j,w.farStore P c a false=.error j∧mW j)∨
  ∃w1 h d i,w.farStore P c a false=.ok (w1,d)∧w'.farStore P a' b false=.ok (h,i)∧dB P F C f w1 h∧km f f w' h∧(∀x∈i,∃H,f H=some x.1)∧
   w1.3=w.3∧w1.2=w.2∧∀T,Ja P {w with tape:=T} c a false=.ok ({w1 with tape:=T},d):=by
 have z:a'.2=c.2∧a'.3=c.3:=by obtain⟨o,_,rfl⟩:=k;exact⟨rfl,rfl⟩
 obtain⟨o,t,rfl⟩:=k;let⟨U,V,p,q,s⟩:=g.3 _ _ t;unfold Ja Jd;simp only[p,q];cases s with
 |view e N=>
  rename_i a1 b1 u;simp only;cases y:w.viewStore P a1 u c a false with
  |error M=>exact .inl ⟨_,rfl,zo⟩
  |ok r=>
   obtain⟨w1,d⟩:=r;obtain⟨r,I,J,l,i2,i3,m,n,rfl,rfl⟩:=ad2 y;obtain⟨K,B,D,Q,R,S⟩:=g.V (a':={a1 with block:=b1}) ⟨b1,e,rfl⟩ z u i2;let⟨L,E,G⟩:=MP _ _ _ _ D n;rw[(PL (v:=b) l B ((Ln A).1.trans i3) m E)];refine .inr ⟨_,_,_,_,rfl,rfl,g.U e (.cells _ _ G) rfl rfl rfl rfl rfl rfl,.O e rfl rfl rfl rfl,λx O=>?_,rfl,rfl,λT=>?_⟩;grind;rw[(PL (w:={w with tape:=T}) l i2 i3 m n)]
 |_=>exact .inl ⟨_,rfl,zo⟩
theorem MC{wr:Bool}(h:∀x∈e0,∃y,f y=some x.1):∀e∈e0.toArray.map (λx=>(⟨.cell x,wr,false⟩:gY)),kP f e:=by
 intro e a;simp at a;obtain⟨x,b,rfl⟩:=a;exact⟨rfl,h x b⟩
theorem yh(h:kP y f3):∀x∈(#[f3]:Array gY),kP y x:=by simpa
theorem ak.Bi{a e:bC}(c:b_ f a e):ak P F C (av F) f (Aa a)<|Aa e:=by
 refine .of λw w' b=>?_;simp only[Aa,jQ];cases d:w.cell? a with
 |none=>
  rw[b.T c d];obtain⟨h,i,g⟩|⟨v,g,h,i,k,h,j⟩:=b.bN c
  grind
  refine .inr ⟨v,w,g.toArray.map (⟨.cell ·,false,false⟩),f,_,w',_,λT g=>?_,rfl,rfl,λg=>by rw[show w'.farLoad P e (Hk==.atomic)=_ from k];rfl,b,.B _ _,h,MC j⟩
  rw[show gK {w with tape:=T} a=none from d,show Hj P {w with tape:=T} a (Hk==.atomic)=_ from i];rfl
 |some v=>
  obtain⟨j,i,h⟩:=b.Y c d;obtain⟨e,e,rfl⟩:=c
  exact .inr ⟨v,w,#[_],f,j,w',#[⟨.cell _,_,_⟩],λT g=>by rw[show gK {w with tape:=T} a=_ from d]; rfl,rfl,rfl,λg=>by rw[i]; rfl,b,.B _ _,h,yh ⟨rfl,_,e⟩⟩
theorem ak.VI{c j:bC}(k:b_ f c j)(K:av F f a b):ak P F C (λ_ _ _=>True) f (zr c a)<|zr j b:=by
 refine .of λw w' i=>?_
 let st(w:ag)(c:bC)(u:aq)(d:Array gY):Result Unit×Array Event:=match w.cell? c with
  |some _=>if w.frozen? c then(.halt (.unsupported<|.unsafePointer "a write to bytes that a string shares") w,d)else(.ok ()<|w.setCell c u,d.push ⟨.cell c,true,false⟩)
  |none=>match w.farStore P c u false with
   | .ok (w,U)=>(.ok () w,d++U.toArray.map (⟨.cell ·,true,false⟩))
   | .error h=>(.halt h w,d)
 have R:∀u l:aq,av F f u l->(∀w d,(zr c u).runT P w d=st w c u d)->(∀w d,(zr j l).runT P w d=st w j l d)->(∃h,(∀d,(zr c u).runT P w d=(.halt h w,d))∧mW h)∨
  ∃W w1 Z p X t z,(∀T d,(zr c u).runT P {w with tape:=T} d=(.ok W {w1 with tape:=T},d++Z))∧w1.3=w.3∧w1.2=w.2∧(∀d,(zr j l).runT P w' d=(.ok X t,d++z))∧dB P F C p w1 t∧km f p w' t∧True∧∀o∈z,kP p o:=by
  intro u l x D E;simp only[D,E,st];cases g:w.cell? c with
  |none=>
   rw[i.T k g];obtain⟨r,I,a2⟩|⟨w2,V,a0,a1,I,J,N,O,Q,A,B,H⟩:=i.Z k x;grind;exact .inr ⟨(),w2,_,f,(),V,_,λT d=>by rw[show gK {w with tape:=T} c=_ from g,H],A,B,λd=>by rw[J],N,O,trivial,MC Q⟩
  |some Y=>
   obtain⟨a4,L,_⟩:=i.Y k g;rw[L,i.B k];by_cases s:w.frozen? c=true;exact .inl ⟨_,λ_=>if_pos s,trivial⟩
   have M:∀T,¬zO {w with tape:=T} c=true:=λ_=>s
   obtain⟨m,n,rfl⟩:=k;let⟨y,a3,q,r,G⟩:=i.3 _ _ n;unfold gK at g;rw[q]at g;cases G with
   |cells v fr h=>
    have s1:∀{h:Array bI}{m:Nat}{e:Array aq}{u:aq},h[m]?=some (.cells e v fr)->h.modify m (λ| .cells e o S=>.cells (if c.3.isSome then e else e.setIfInBounds c.2 u) o S|y=>y)=h.setIfInBounds m (.cells (if c.3.isSome then e else e.setIfInBounds c.2 u) v fr):=λh=>yH _ _ _ _ h
    refine .inr ⟨(),w.setCell c u,#[⟨.cell c,true,false⟩],f,(),_,#[⟨_,_,_⟩],λT d=>?_,rfl,rfl,λ_=>if_neg s,i.U n (.cells _ _ ?_) (s1 q) (s1 r) rfl rfl rfl rfl,km.O n (s1 r) rfl rfl rfl,trivial,yh ⟨rfl,_,n⟩⟩
    have:gK {w with tape:=T} c=some Y:=by unfold gK;rw[q];exact g
    rw[this];exact if_neg (M T)
    split;exact h;exact h.Z _ x
   |_=>grind
 cases K<;>first|exact .inl ⟨_,λ_=>rfl,trivial⟩|exact R _ _ (by constructor<;>assumption) (λ_ _=>rfl) λ_ _=>rfl
theorem dB.m(a:dB P F C f w w')(h:f i=some r):i<w∧r<w':=by
 obtain⟨o,b,b,b,_⟩:=a.3 i r h;grind
theorem ak.mr(j:ek P F C f z M):ak P F C (λg r a=>g r=some a) f (qj z)<|qj M:=by
 refine .of λw w' a=>?_
 let g:Ren:=λx=>if x=w.1.size then some w'.1.size else f x
 have i:f.O g:=λc b h=>by
  have:=(a.m h).1;grind
 have e:∀{c b},g c=some b->(c=w.1.size∧b=w'.1.size)∨f c=some b:=aJ
 refine .inr ⟨_,{w with heap:=w.1.push z},#[],g,_,_,#[],λ_ _=>rfl,rfl,rfl,λ_=>rfl,⟨λc b h=>?_,⟨a.2.1.I λx d=>by have:=a.2.1.B;grind,by have:=a.2.2;grind⟩,λc b h=>?_,λc d b h d=>?_,a.5⟩,⟨i,rfl,rfl,rfl,af,λb g g=>?_,λc b h=>?_,λb g g=>⟨w.1.size,?_⟩⟩,if_pos rfl,af⟩
 obtain⟨rfl,rfl⟩|h:=e h;exact⟨a.2.1.B,a.2.2⟩;exact a.1 _ _ h
 obtain⟨rfl,rfl⟩|h:=e h;exact⟨z,M,af,af,j.B i⟩;obtain⟨p,j,k,i2,i3⟩:=a.3 c b h;have:=a.m h;exact⟨p,j,by grind,by grind,i3.B i⟩
 obtain⟨rfl,rfl⟩|h:=e h<;>obtain⟨rfl,g⟩|d:=e d
 rfl;have:=a.m d;omega;have:=a.m h;omega;exact a.4 _ _ _ h d
 grind
 grind
 grind
theorem ak.m(a:f i=some r):ak P F C (λg o d=>ek P F C g o d∧∀c e fr,o≠ .cells c e fr) f (Ab i)<|Ab r:=by
 refine .of λw w' b=>?_;obtain⟨o,d,d,e,g⟩:=b.3 _ _ a;simp only[Ab,jQ,d,e];cases g with
 |cells=>exact .inl ⟨_,λ_=>rfl,trivial⟩
 |_=>exact .inr ⟨_,w,#[_],f,_,w',#[⟨_,_,_⟩],λ_ _=>rfl,rfl,rfl,λ_=>rfl,b,.B _ _,⟨by constructor<;>assumption,af⟩,yh ⟨rfl,_,a⟩⟩
theorem ak.cW(a:f i=some r)(b:ek P F C f z M):ak P F C (λ_ _ _=>True) f (wZ i z)<|wZ r M:=by
 refine .of λw w' c=>?_;obtain⟨p,d,d,e,g⟩:=c.3 _ _ a;simp only[wZ,jQ,d,e,b.I];cases g with
 |cells=>exact .inl ⟨_,λ_=>rfl,trivial⟩
 |_=>exact .inr ⟨(),{w with heap:=w.1.setIfInBounds i z},#[_],f,_,_,#[⟨_,_,_⟩],λ_ _=>rfl,rfl,rfl,λ_=>rfl,c.U a b rfl rfl rfl rfl rfl rfl,km.O a rfl rfl rfl rfl,trivial,yh ⟨rfl,_,a⟩⟩
theorem ak.oQ(j:f i=some r):ak P F C (λ_ b c=>b=c) f (w_ i)<|w_ r:=
 .of λw w' a=>.inr ⟨_,w,#[],f,w.shape? i,w',#[],λ_ _=>rfl,rfl,rfl,λ_=>by
  obtain⟨o,k,d,e,g⟩:=a.3 _ _ j;simp only[w_,jQ,World.shape?,d,e];cases g<;>simp;rename_i h;exact h.T.symm,a,.B _ _,rfl,af⟩
theorem ak.oV{q:jq}:ak P F C (λ_ g i=>g=i) f (rU q)<|rU q:=by
 refine⟨?_,λw w' j a=>⟨λh w1 d c=>by simp at c;grind,λx w1 d c=>?_⟩⟩;rotate_left;simp only[rU,jQ]at c;split at c;rename_i b;obtain⟨⟨rfl,rfl⟩,rfl⟩:=c;exact⟨aa,rfl,λ_ _=>by simp only[rU,jQ,b,if_true]⟩;rename_i b;obtain⟨⟨rfl,rfl⟩,rfl⟩:=c;refine⟨af,rfl,λT r=>?_⟩;simp only[rU,jQ,if_neg b];grind;intro w w' j n a x w1 d h;simp only[rU,jQ]at h⊢;have e:=a.5 0 q;simp at e;split at h;rename_i b;obtain⟨⟨rfl,rfl⟩,rfl⟩:=h;exact⟨f,0,w',#[],by grind,a,.B _ _,rfl,af⟩;rename_i b;obtain⟨⟨rfl,rfl⟩,rfl⟩:=h;refine⟨f,_,{w' with drawn:=w'.3+1},#[],by rw[if_neg b];rfl,⟨a.1,a.2,a.3,a.4,λl p=>?_⟩,⟨f.I,rfl,rfl,rfl,af,af,λ_ _ h=>.inl h,λm k o=>absurd k (by grind)⟩,fN e,af⟩;have:=a.5 (l+1) p;grind
theorem ak.K6{m:Mark}(a:kP f ⟨.mark m,false,true⟩):ak P F C (λ_ _ _=>True) f (Je m)<|Je m:=.of λw w' b=>.inr ⟨(),w,#[_],f,_,w',#[_],λ_ _=>rfl,rfl,rfl,λ_=>rfl,b,.B _ _,trivial,yh a⟩
theorem ak.EJ(n):ak P F C (λ_ _ _=>True) f (Jf n)<|Jf n:=by
 unfold Jf;split;exact ak.K6 trivial;exact ak.B trivial
end
section
variable{α α' β β':Type}{P:bj}{F:bw->Bool}{C:eN->Bool}{f:Ren}{w w':ag}
def Grow(w w1:ag):Prop:=∀(b:Nat)(o:bI),w.1[b]?=some o->w1.1[b]?=some o
theorem Grow.B(w:ag):Grow w w:=λ_ _ h=>h
theorem Grow.I{a b c:ag}(h:Grow a b)(i:Grow b c):Grow a c:=λx o a=>i x o<|h x o a
def gy(P:bj)(s:cm α):Prop:=∀w a,∃h w1 b,s.runT P w a=(.halt h w1,b)∧mW h∧Grow w w1
def gw(P:bj)(s:cm α):Prop:=∀w b,∃a w1 c,s.runT P w b=(.ok a w1,c)∧Grow w w1
theorem gy.I(h:zn)(b:mW h:=by exact True.intro):gy P (Hi h:cm α):=λw a=>⟨h,w,a,rfl,b,.B _⟩
theorem gy.O{s:cm α}{k:α->cm β}(e:gw P s)(i:∀a,gy P<|k a):gy P<|s>>= k:=by
 intro w b;obtain⟨a,w1,c,f,d⟩:=e w b;obtain⟨h,w2,b,e,g,e⟩:=i a w1 c;exact⟨h,w2,b,by rw[runT_bind',f];omega,g,d.I e⟩
theorem gy.T{s:cm α}{k:α->cm β}(c:Still P s)(g:∀a,gy P<|k a):gy P<|s>>= k:=by
 obtain⟨r,b,d⟩:=c;intro w c;cases r with
 |error h=>exact⟨h,w,c,by rw[runT_bind',d],b _ rfl,.B _⟩
 |ok a=>
  obtain⟨h,w2,e,f,b,f⟩:=g a w c;exact⟨h,w2,e,by rw[runT_bind',d];omega,b,f⟩
theorem gy.B{s:cm α}{k:α->cm β}(h:gy P s):gy P<|s>>= k:=by
 intro w a;obtain⟨h,w1,b,c,d⟩:=h w a;exact⟨h,w1,b,by rw[runT_bind',c],d⟩
theorem ak.V{A:Ren->α->α'->Prop}{s:cm α}{a:cm α'}(h:gy P s):ak P F C A f s a:=
 ⟨λw _ c _ _ b w1 e a=>by obtain⟨h,w2,g,d,_⟩:=h w c;grind,
  λw _ c m=>⟨λi w1 e a=>by
    obtain⟨h,w2,g,d,i,l⟩:=h w c;rw[d]at a;obtain⟨⟨rfl,rfl⟩,_⟩:=a;refine⟨i,λb j k i i=>?_⟩;obtain⟨o,n,n,i2,i3⟩:=m.3 b j k;rw[l b o n]at i;cases i;cases i3;rfl,
   λb w1 e a=>by obtain⟨h,w2,g,d,_⟩:=h w c;rw[d]at a;simp at a⟩⟩
theorem gw.V:gw P qi:=λw a=>⟨P,w,a,rfl,.B _⟩
theorem gw.B(a:α):gw P (cD a:cm α):=λw b=>⟨a,w,b,rfl,.B _⟩
theorem gw.Z(o:bI):gw P<|qj o:=λw _=>⟨_,_,_,rfl,λb x a=>by
 grind⟩
theorem gw.O{s:cm α}{k:α->cm β}(f:gw P s)(h:∀a,gw P<|k a):gw P<|s>>= k:=by
 intro w c;obtain⟨a,w1,d,g,e⟩:=f w c;obtain⟨b,w2,c,f,f⟩:=h a w1 d;exact⟨b,w2,c,by rw[runT_bind',g];omega,e.I f⟩
theorem gw.Y(t:bB)(v):gw P<|Jg t v:=.O (.Z _) λ_=>.B _
theorem gw.T(q:jq):gw P<|rU q:=by
 intro w a;simp only[rU,jQ];split;exact⟨_,_,_,rfl,.B _⟩;exact⟨_,_,_,rfl,λ_ _ h=>h⟩
theorem gw.bN(r):gw P<|w_ r:=λ_ _=>⟨_,_,_,rfl,.B _⟩
theorem gw.m(a:bC):gw P<|Hl a:=λ_ _=>⟨_,_,_,rfl,.B _⟩
theorem gw.ab(m:Mark):gw P<|Je m:=λ_ _=>⟨_,_,_,rfl,.B _⟩
theorem gw.I(a:bC)(n):gw P<|Qa a n:=by
 refine .O (.bN _) λs=>?_;split<;>exact .B _
theorem gw.U(a b n)(base:Option bC)(x):gw P<|Builtin.mayShare a b n base x:=by
 have tail:∀b:Bool,gw P (if(!b)=true then(cD true:cm Bool)else match x with
   | .slice (some b) _ _=>do cD<|!(<-Qa b (n*a))||base.any (·.1==b.1)
   |_=>cD false):=by
  intro b;split;exact .B _;split;exact .O (.I _ _) λ_=>.B _;exact .B _
 cases base with
 |none=>exact .O (.B _) aa
 |some a=>exact .O (.I _ _) λ_=>.O (.m _) λ_=>.O (.B _) aa
theorem ac1(v):Still P<|asInt v:=by
 unfold asInt asIntOf;split;exact .B _;exact .O _;exact .O _
theorem Ph(t:bB):Still P<|elemOf t:=by
 refine .I (wN t) λd=>?_;split;exact .B _;exact .O _
theorem lO(e:Qb):gy P (runtimePanic e:cm α):=by
 refine .O .V λp=>?_;cases e<;>first|exact gy.I _|exact .T (Ph _) λ_=>.O (.Y _ _) λ_=>gy.I _
theorem yI(k:z_)(x y)(c:BoundsCode):gy P (boundsPanic k x y c:cm α):=by
 unfold boundsPanic;split;exact .O (.O (.T _) λ_=>.B _) λ_=>lO _;exact .O (.B _) λ_=>lO _
theorem ak.Sr{c d:bC}(e:b_ f c d):∀(n i) {a b:Array aq},RelA F f a b->ak P F C (RelA F) f (Jh c i n a) (Jh d i n b):=by
 intro n;induction n generalizing f with
 |zero=>intro i a b h;exact .B h
 |succ n c=>
  exact λi a b h=>.I (.Bi<|e.I i) λg v a a b=>c (e.B a) _<|(h.B a).bN b
theorem ak.xN{a b:bC}(c:b_ f a b)(n):ak P F C (RelA F) f (Qc a n)<|Qc b n:=.Sr c n 0 .U
theorem ak.ku:∀ {l c:List aq}{f:Ren}{a b:bC}(_:b_ f a b)(_:bM F f l c)(i),ak P F C (λ_ _ _=>True) f (Hm a l i)<|Hm b c i
 |_,_,_,_,_,_,.nil,_=>.B trivial
 |_,_,_,_,_,a,.cons b t,i=>.I (.VI (a.I i) b) λ_ _ _ b _=>ak.ku (a.B b) (t.cB b)<|i+1
theorem ak.eY(t:bB){a b:bC}(c:b_ f a b):ak P F C (av F) f (Hn t a)<|Hn t b:=by
 refine .Z (Pk t) λg b a=>?_;cases b with
 |false=>exact .Bi<|c.B a
 |true=>
  refine .Z (jk t) λb n b=>?_;exact .I (.xN ((c.B a).B b) n) λa c a _ a=>.B<|.agg a
theorem ak.S5(t:bB){c d:bC}(g:b_ f c d)(e:av F f a b):ak P F C (λ_ _ _=>True) f (Qd t c a)<|Qd t d b:=by
 refine .Z (jk t) λc n c=>?_;rw[<-e.U.T];split;exact .V<|.B<|.I _;exact .ku (g.B c) (e.U.B c) 0
theorem ak.lK(a:bB)(h:RelA F f e g):ak P F C b_ f (Ho a e)<|Ho a g:=by
 exact .I (.mr<|.cells a _ h) λa r b _ a=>.B ⟨b,a,rfl⟩
theorem ak.K1(t:bB)(h:av F f a b):ak P F C b_ f (Jg t a)<|Jg t b:=.lK t h.U
theorem av.T{a b:bC}(h:b_ f a b):av F f (.pointer<|some a)<|.pointer<|some b:=by
 obtain⟨b,a,rfl⟩:=h;exact .ptr a
theorem av.I{a b:bC}(h:b_ f a b)(n c):av F f (.slice (some a) n c)<|.slice (some b) n c:=by
 obtain⟨b,a,rfl⟩:=h;exact .sl n c a
theorem ak.pL(t:bB){c c':Array aq}(h:RelA F f c c')(a):ak P F C (av F) f (Go.part t c a)<|Go.part t c' a:=by
 refine .Z (Pk t) λg d b=>?_;cases d with
 |false=>
  cases d:c[a]? with
  |none=>exact .O
  |some v=>obtain⟨a,c,a⟩:=h.O _ v d;rw[c];exact .B<|a.B b
 |true=>
  refine .Z (jk t) λa n a=>?_;exact .B<|.agg<|((h.B b).B a).m _ _
theorem ak.am(h:av F f a b):ak P F C b_ f (xA a)<|xA b:=by
 cases h<;>first|exact .O|exact .B ⟨_,‹_›,rfl⟩
theorem ak.K3(h:av F f a b):ak P F C b_ f (Ac a)<|Ac b:=by
 cases h<;>first|exact .O|exact .B ⟨_,‹_›,rfl⟩|exact .never<|lO _
theorem ak.tY(h:av F f a b):ak P F C (λ_ c d=>c=d) f (Qe a)<|Qe b:=by
 cases h<;>first|exact .O|exact .B rfl
theorem ak.nd(h:av F f a b):ak P F C (λ_ c d=>c=d) f (Hp a)<|Hp b:=
 .I (.tY h) λ_ _ _ _ e=>by subst e;exact .B rfl
theorem ak.qL(h:av F f a b):ak P F C (λ_ c d=>c=d) f (Ji a)<|Ji b:=by
 cases h<;>first|exact .O|exact .B rfl
theorem ak.WJ(t:bB)(h:av F f a b):ak P F C (av F) f (xB t a)<|xB t b:=
 .I (.am h) λ_ _ _ _ c=>.eY t c
theorem ak.Te(t:bB)(h:av F f a b)(e:av F f p q):ak P F C (λ_ _ _=>True) f (Qf t a p)<|Qf t b q:=
 .I (.am h) λ_ _ _ d c=>.S5 t c<|e.B d
theorem ak.V0(t:bB)(h:av F f a b):ak P F C (av F) f (Qg t a)<|Qg t b:=
 .I (.K1 t h) λ_ _ _ _ c=>.B<|.T c
theorem ak.VS(t:bB)(a:oP P F t):ak P F C (av F) f (Qh t true<|.tuple #[])<|Qh t true<|.tuple #[]:=
 .U (.ac a) λg _ _ a=>.I (.K1 t<|a g) λ_ _ _ _ a=>.B<|.T a
theorem RelA.ab{e b:List _}(j:e.map (·.1)=b.map (·.1))(m:bM F f (e.map (·.2)) (b.map (·.2)))(g:Nat->Option _):∀ {c a:Array Value},RelA F f c a->
  (∃o p,Instr.fill g c e=some o∧Instr.fill g a b=some p∧RelA F f o p)∨(Instr.fill g c e=Option.none∧Instr.fill g a b=Option.none):=by
 induction e generalizing b with
 |nil=>intro c a i;cases b with
  |nil=>exact .inl ⟨c,a,rfl,rfl,i⟩
  |cons _ _=>grind
 |cons w e t=>
  intro c a i;cases b with
  |nil=>grind
  |cons y b=>
   obtain⟨s,A⟩:=w;obtain⟨z,B⟩:=y;simp at j;obtain⟨rfl,j⟩:=j;cases m with
   |cons k m=>
    simp at k;unfold Instr.fill;cases g s with
    |none=>grind
    |some os=>
     obtain⟨off,size⟩:=os;simp only;rw[<-k.U.T,<-i.T];split;grind;apply t j m;have v:∀(l d:List (Value×Nat))(c a:Array Value),l.map (·.2)=d.map (·.2)->bM F f (l.map (·.1)) (d.map (·.1))->RelA F f c a->
       RelA F f (l.foldl (λcs x=>cs.setIfInBounds (off+x.2) x.1) c) (d.foldl (λcs x=>cs.setIfInBounds (off+x.2) x.1) a):=by
      intro l;induction l with
      |nil=>simp_all
      |cons x l u=>
       intro d c a h n q;cases d with
       |nil=>simp at h
       |cons C d=>
        simp[List.map_cons]at h;cases n with
        |cons r n=>exact u d _ _ h.2 n (by simp only;rw[h.1];exact q.Z _ r)
     rw[<-Array.foldl_toList,<-Array.foldl_toList];refine v _ _ _ _ ?_ ?_ i;simp[k.U.T];have:=k.U;unfold RelA at this;simpa using this
theorem ak.ca(j:g0.map (·.1)=g1.map (·.1))(l:bM F f (g0.map (·.2)) (g1.map (·.2)))(b:Nat->Option (Nat×Nat))(i:RelA F f e g)(h:String)
  {A:Ren->α->α'->Prop} {k:Array aq->cm α} {c:Array aq->cm α'} (m:∀d a,RelA F f d a->ak P F C A f (k d) (c a)):
  ak P F C A f (match vv b e g0 with|some cells=>k cells|_=>tG h) (match vv b g g1 with|some cells=>c cells|_=>tG h):=by
 rcases RelA.ab j l b i with⟨d,a,a,b,c⟩|⟨a,b⟩;rw[a,b];exact m d _ c;rw[a,b];exact .O
end
section
variable{α α' β β':Type}{P:bj}{F:bw->Bool}{C:eN->Bool}{f:Ren}{w w':ag}
theorem Still.U{a b:Type}{g:a->cm b}(h:∀x,Still P<|g x):∀l:List a,Still P<|l.mapM g
 | []=>by exact .B _
 |x::l=>by rw[List.mapM_cons];exact .I (h x) λ_=>.I (Still.U h l) λ_=>.B _
theorem Still.V{a b:Type}{g:a->cm b}(h:∀x,Still P<|g x)(b:Array a):Still P<|b.mapM g:=by
 rw[Jj];exact .I (Still.U h _) λ_=>.B _
theorem Plain.B{v:aq}(h:Plain F v)(f:Ren):RelA F f v.cells v.cells:=(h f).U
theorem Plain.I:Plain F (default:aq):=λ_=>.bool false
theorem ak.VQ(a:oP P F d)(e:d3.1.map (·.1)=d4.1.map (·.1))(b:bM F f (d3.1.map (·.2)) (d4.1.map (·.2))):
  ak P F C (av F) f (Qi d d3) (Qi d d4):=by
 refine .U (.ac a) λg z c h=>?_;refine .Z (wN d) λa a i=>?_;have g:=(b.cB c).cB i;cases a with
 |struct b=>
  refine .Z (.V (λx=>.I (jk _) λ_=>.B _) _) λk l c=>?_;exact .ca e (g.cB c) _ (h.B _) _ λa i b=>.B (.agg b)
 |array n j=>
  refine .Z (jk j) λk l c=>?_;exact .ca e (g.cB c) _ (h.B _) _ λa i b=>.B (.agg b)
 |_=>exact .O
theorem CI(c:RelA F f e g)(n):RelA F f ((Hq n).map λi=>e[i % e.size]!)<|(Hq n).map λi=>g[i % g.size]!:=by
 refine bM.dz af λi v a a b=>?_;simp at a b;obtain⟨j,d,rfl⟩:=a;obtain⟨a,a,rfl⟩:=b;rw[d]at a;cases a;rw[<-c.T,Array.getElem!_eq_getD,Array.getElem!_eq_getD];exact c.Y _<|Plain.I f
theorem ak.TF(c:∀e,P.underlying d=some (.slice e)->oP P F e)(a)(m:d3.1.map (·.1)=d4.1.map (·.1))(o:bM F f (d3.1.map (·.2)) (d4.1.map (·.2))):
  ak P F C (av F) f (Qj d a d3) (Qj d a d4):=by
 refine .U (.T d) λh k p r=>?_;cases k with
 |slice e=>
  simp only;refine .Z (jk e) λi n q=>?_;have l:∀b (z g:Array aq),i.O b->RelA F b z g->ak P F C (av F) b
    (match vv (λi=>some (i*n,n)) ((Hq (a*n)).map (z[· % z.size]!)) d3.1 with|some cells=>(do cD (oD (some (<-Ho e cells)) a a))|_=>tG "buildSlice: a part of the wrong size")
    (match vv (λi=>some (i*n,n)) ((Hq (a*n)).map (g[· % g.size]!)) d4.1 with|some cells=>(do cD (oD (some (<-Ho e cells)) a a))|_=>tG "buildSlice: a part of the wrong size"):=by
   exact λb z g j c=>.ca m (((o.cB p).cB q).cB j) _ (CI c _) _ λk a a=>.I (.lK e a) λ_ _ _ _ a=>.B (.I a _ _)
  split
  ·exact .V (.B (.I _))
  ·split
   ·exact .I (.B (A:=λh a i=>RelA F h a i) .U) aa
   ·refine .U (.ac (c e r)) λe z e k=>?_;exact .I (.B (A:=λh a i=>RelA F h a i) (k.B _)) λb z g j c=>l _ z _ (Ren.B e j) c
 |_=>exact .O
def I5(P:bj)(s:bB)(k:Nat):Prop:=∀a,P.underlying s=some (.struct a)->∀x,a[k]?=some x->∀i,P.info? x.2=some i->i.3≠0
theorem ak.cc(j:I5 P d i)(h:av F f a b):ak P F C (av F) f (Qk d a i)<|Qk d b i:=by
 refine .U (.T d) λg c e k=>?_;cases c with
 |struct c=>
  simp only;cases l:c[i]? with
  |none=>exact .O
  |some x=>
   refine .I (.am<|h.B e) λc c c c g=>?_;refine .I (A:=b_) ?_ λc e e _ e=>.B<|.T e;refine .U (.I (.cB _) λc h e _ e=>.B (A:=λ_ n m=>n=m∧n≠0) ⟨fN e.1,j _ k x l h e.2⟩) λc n e c=>?_;rw[if_neg c,if_neg c];exact .B<|(g.B e).I _
 |_=>exact .O
theorem ak.Th(t:bB)(E:av F f p q)(k:av F f a b):ak P F C (av F) f (Ql t p a)<|Ql t q b:=by
 refine .Y (.tY k) λm J G=>?_;obtain⟨o,i⟩:=J;refine .U (.T t) λK v H M=>?_;have z:=(E.B G).B H;have r:∀j (g l:Option bC) (len:Nat) (d:bB),(match g,l with|some c,some h=>b_ j c h|none,none=>True|_,_=>False)->
   ak P F C (av F) j (do
    let u:=len<=1&&(match<-ry t with| .array .. =>true|_=>false)
    match g with
    |some c=>
     if 0<=i∧i<len then cD<|zt<|some<|c.add<|i.toNat*(<-Hr d)
     else if u then Hs<|.noEntry "op/indexAddr.an index out of range at an array of length 0 or 1 (ledger 616)"
     else boundsPanic o i len .index
    |none=>boundsPanic o i 0 .index) (do
    let u:=len<=1&&(match<-ry t with| .array .. =>true|_=>false)
    match l with
    |some c=>
     if 0<=i∧i<len then cD<|zt<|some<|c.add<|i.toNat*(<-Hr d)
     else if u then Hs<|.noEntry "op/indexAddr.an index out of range at an array of length 0 or 1 (ledger 616)"
     else boundsPanic o i len .index
    |none=>boundsPanic o i 0 .index):=by
  intro j g l len d e;refine .Z (wN t) λD v y=>?_;cases g with
  |none=>exact .V<|yI _ _ _ _
  |some c=>
   cases l with
   |none=>exact e.elim
   |some h=>
    by_cases w:0<=i∧i<len
    ·simp[if_pos w];refine .Z (jk _) λL n I=>?_;exact .B<|.T<|((b_.B y e).B I).I _
    ·simp[if_neg w];refine .V ?_
     repeat' split
     all_goals first|exact gy.I _|exact yI _ _ _ _
 cases v with
 |array len d=>
  refine .I (.am z) λD c h y s=>?_;refine .I (A:=λm a b=>a=(some c,len,d)∧b=(some _,len,d)∧b_ m c _) (.B ⟨rfl,rfl,s⟩) λj a b x k=>?_;obtain⟨rfl,rfl,e⟩:=k;exact r _ (some c) (some _) _ _ e
 |slice d=>
  cases z<;>first|exact .O|skip
  ·rename_i n B;exact .I (.B (A:=λ_ c h=>c=(none,n,d)∧h=(none,n,d)) af) λj c h x s=>by
    obtain⟨rfl,rfl⟩:=s;exact r _ none none n d trivial
  ·rename_i c g n B e;exact .I (.B (A:=λm a b=>a=(some c,n,d)∧b=(some _,n,d)∧m _=some g) ⟨rfl,rfl,e⟩) λj a b x k=>by
    obtain⟨rfl,rfl,e⟩:=k;exact r _ (some c) (some _) n _ ⟨g,e,rfl⟩
 |_=>exact .O
end
section
variable{α α' β β':Type}{P:bj}{F:bw->Bool}{C:eN->Bool}{f:Ren}{w w':ag}
theorem ak.tX{a c:Type}{body d:a->c->cm _}:∀(l:List a)f(b:c),(∀x,x∈l->∀b g,f.O g->ak P F C (λ_ a c=>a=c) g (body x b) (d x b))->
  ak P F C (λ_ a c=>a=c) f (forIn l b body) (forIn l b d)
 | [],f,b,_=>by exact .B rfl
 |x::l,f,b,h=>by
  simp;refine .Y (h x af b f f.I) λg s c=>?_;cases s with
  |done b=>exact .B rfl
  |yield b=>exact ak.tX l g b λx a b a a=>h x (by grind) b _ (Ren.B c a)
theorem ak.bi{a c:Type}{body d:a->c->cm _}(l:Array a)(f:Ren)(b:c)(h:∀x,x∈l->∀b g,f.O g->ak P F C (λ_ a c=>a=c) g (body x b) (d x b)):
  ak P F C (λ_ a c=>a=c) f (forIn l b body) (forIn l b d):=by
 rw[<-Array.forIn_toList,<-Array.forIn_toList];exact .tX _ _ _ λx a=>h x (aV a)
theorem ak.A_(n)(f:Ren)(b:s)(h:∀x b g,f.O g->ak P F C (λ_ a c=>a=c) g (h2 x b) (h3 x b)):
  ak P F C (λ_ a c=>a=c) f (forIn [0:n] b h2) (forIn [0:n] b h3):=by
 rw[Qm,Qm];exact .tX _ _ _ λx _=>h x
theorem ak.S6(c:f i=some r):ak P F C (λg a b=>(a=none∧b=none)∨∃x d l,a=some (x,l)∧b=some (d,l)∧b_ g x d) f (Qn i)<|Qn r:=by
 refine .Y (.oQ c) λg s a=>?_;split;exact .B<|.inl af;refine .I (.m<|a _ _ c) λa o a _ a=>?_;cases a.1 with
 |number h lost=>exact .B<|.inr ⟨_,_,_,rfl,rfl,_,h,rfl⟩
 |_=>exact .B<|.inl af
theorem ak.tZ(c:f i=some r):ak P F C (λg a b=>(a=none∧b=none)∨∃x d u,a=some (x,u)∧b=some (d,u)∧b_ g x d) f (Ad i)<|Ad r:=by
 refine .Y (.oQ c) λg s a=>?_;split;exact .B<|.inl af;refine .I (.m<|a _ _ c) λa o a _ a=>?_;cases a.1 with
 |view h a=>exact .B<|.inr ⟨_,_,_,rfl,rfl,_,h,rfl⟩
 |_=>exact .B<|.inl af
theorem ak.ab{a b:bC}(e:b_ f a b):ak P F C (λg x c=>∃y d l,x=(y,l)∧c=(d,l)∧b_ g y d) f (uN a)<|uN b:=by
 obtain⟨b,a,rfl⟩:=e;refine .I (.S6 a) λg s d d e=>?_;obtain⟨rfl,rfl⟩|⟨x,c,l,rfl,rfl,c⟩:=e;exact .B ⟨_,_,_,rfl,rfl,b,d _ _ a,rfl⟩;exact .B ⟨_,_,_,rfl,rfl,c⟩
theorem ak.EN{a b:bC}(c:b_ f a b):ak P F C (λ_ _ _=>True) f (Ae a)<|Ae b:=by
 obtain⟨b,a,rfl⟩:=c;refine .I (.tZ a) λg s a a a=>?_;obtain⟨rfl,rfl⟩|⟨x,b,u,rfl,rfl,b⟩:=a;exact .B trivial;exact .O
theorem ak.WN{a b:bC}(d:b_ f a b):ak P F C (λ_ x c=>x=c) f (Qo a)<|Qo b:=by
 obtain⟨b,c,rfl⟩:=d;obtain⟨blk,off,d⟩:=a;cases d with
 |some s=>exact .B rfl
 |none=>
  refine .I .bN λg p a a d=>?_;obtain⟨rfl,rfl⟩:=d;refine .I (.EN ⟨b,a _ _ c,rfl⟩) λd _ _ d _=>?_;refine .Y (.oQ<|d _ _<|a _ _ c) λa s _=>?_;cases s with
  |none=>exact .O
  |some s=>
   obtain⟨e,n⟩:=s;simp only;split;exact .B rfl;cases byteOfCell _ _ e (off % _)with
   |none=>exact .O
   |some b=>exact .B rfl
theorem ak.ua{A:Ren->α->α'->Prop}{s:cm α}{c:cm α'}(h:(∀a b,f a=some b->P.globals<=a∧P.globals<=b)->f.U->ak P F C A f s c):ak P F C A f s c:=
 ⟨λw w' b c a=>(h a.1 a.4).1 w w' b c a,λw w' b a=>(h a.1 a.4).2 w w' b a⟩
theorem b_.O(h:f.U){a c b d:bC}(e:b_ f a c)(g:b_ f b d):(c==d)=(a==b)∧(c.1==d.1)=(a.1==b.1):=by
 obtain⟨x,c,rfl⟩:=e;obtain⟨y,d,rfl⟩:=g;have e:x=y↔a.1=b.1:=⟨λe=>h _ _ _ c<|e▸d,λe=>by grind⟩
 cases a;cases b;grind
def ni(P:bj):Nat->bB->Bool
 |0,_=>true
 |d+1,t=>match P.underlying t with
  |some .bool|some (.int _)|some .string|some (.slice _)|some (.map _ _)=>true
  |some (.struct a)=>a.all λx=>ni P d x.2
  |some (.array _ e)=>ni P d e
  |_=>false
theorem ak.sy:∀(e) (t:bB)(f:Ren){x E G H:aq},ni P e t=true->av F f x E->av F f G H->ak P F C (λ_ h p=>h=p) f (Dv e t x G) (Dv e t E H)
 |0,_,_,_,_,_,_,_,_,_=>.O
 |e+1,t,f,x,E,G,H,o,a,b=>by
  unfold Dv;refine .U (.T t) λb7 b0 K a4=>?_;replace a:=a.B K;replace b:=b.B K;simp[ni,a4]at o;cases b0 with
  |bool=>cases a<;>cases b<;>first|exact .O|exact .B rfl
  |int z=>
   cases a<;>cases b<;>first
    |exact .O
    |exact .B rfl
    |skip
   case int.int k1 n1 k2 n2=>simp only;split<;>first|exact .B rfl|exact .O
   case int.ptr=>
    rename_i n _ _ _;rcases n with(_|B)|B<;>first|exact .B rfl|exact .O
   case ptr.int=>
    rename_i n;rcases n with(_|B)|B<;>first|exact .B rfl|exact .O
   case ptr.ptr=>
    rename_i h i j b5 g W;refine .I (.ab ⟨_,j,rfl⟩) λI c2 c3 c a0=>?_;obtain⟨a8,a9,ax,rfl,rfl,a1⟩:=a0;refine .I (.ab ⟨_,c _ _ W,rfl⟩) λl r R d k=>?_;obtain⟨c4,aK,c1,rfl,rfl,a2⟩:=k;refine .I .bN λJ a6 a7 L v=>?_;obtain⟨rfl,rfl⟩:=v;refine .ua λZ Y=>?_;have N:=(a1.B d).B L;have a3:=a2.B L;let⟨T,U⟩:=b_.O Y N a3;rw[T,U];have M:decide (a8.1<P.globals.size)=false∧decide (a9.1<P.globals.size)=false:=by
     obtain⟨c6,a5,rfl⟩:=N;have:=Z _ _ a5;simp;omega
    rw[M.1,M.2];simp;refine .I (A:=λ_ O Q=>O=Q) (.EM (.cB t) af) λm O Q b8 X=>?_;subst X;refine .ao ?_;split;split;exact .B _;exact .O _;exact .O _
  |string=>cases a<;>cases b<;>first|exact .O|exact .B rfl
  |slice g=>cases a<;>cases b<;>first|exact .O|exact .B rfl
  |map h i=>cases a<;>cases b<;>first|exact .O|exact .B rfl
  |struct b6=>
   cases a<;>first|exact .O|skip
   cases b<;>first|exact .O|skip
   rename_i b1 b2 w b3 b4 y;refine .I .bN λI a6 a7 c v=>?_;obtain⟨rfl,rfl⟩:=v;split;exact .V<|.B<|.I _;refine .I (.bi _ _ _ λx b9 i l d=>?_) λl r R _ k=>?_;split;refine .I (.pL _ ((w.cB c).cB d) _) λJ h p q j=>?_;refine .I (.pL _ (((y.cB c).cB d).cB q) _) λm i S s u=>?_;refine .Y (ak.sy e x.2 m (by simp only[rW]at o;grind) (j.B s) u) λV r _=>?_;split<;>exact .B rfl;exact .B rfl;subst k;obtain⟨D,_⟩:=r;cases D<;>exact .B rfl
  |array n g=>
   cases a<;>first|exact .O|skip
   cases b<;>first|exact .O|skip
   rename_i b1 b2 w b3 b4 y;refine .Z (jk g) λI z c=>?_;refine .I (.A_ n _ _ λx i l d=>?_) λl r R _ k=>?_;refine .I (.pL g ((bM.cB c w).cB d)<|x*z) λJ h p q j=>?_;refine .I (.pL g (((bM.cB c y).cB d).cB q)<|x*z) λm i S s u=>?_;refine .Y (ak.sy e g m o (j.B s) u) λV r _=>?_;split<;>exact .B rfl;subst k;obtain⟨D,_⟩:=r;cases D<;>exact .B rfl
  |_=>simp at o
end
section
variable{α α' β β':Type}{P:bj}{F:bw->Bool}{C:eN->Bool}{f:Ren}{w w':ag}
theorem ak.dY(b:Bool):∀(d) (t:bB)(f:Ren){x k:aq},ni P d t=true->av F f x k->ak P F C (λ_ _ _=>True) f (Ht b d t x) (Ht b d t k)
 |0,_,_,_,_,_,_=>.O
 |d+1,t,f,x,k,c,a=>by
  refine .U (.T t) λl y s u=>?_;replace a:=a.B s;simp[ni,u]at c;cases y with
  |interface _=>simp at c
  |struct B=>
   cases a<;>first|exact .O|skip
   rename_i z A j;refine .I (.bi _ l _ λx E o p i=>?_) λ_ _ _ _ _=>.B trivial;split;refine .I (.pL _ (bM.cB i j) _) λg m n q h=>?_;refine .I (ak.dY b d x.2 g (by simp only[rW]at c;grind) h) λ_ _ _ _ _=>?_;exact .B rfl;exact .B rfl
  |array w e=>
   cases a<;>first|exact .O|skip
   rename_i z A j;refine .I (.A_ w l _ λx o p i=>?_) λ_ _ _ _ _=>.B trivial;refine .Z (jk e) λD v r=>?_;refine .I (.pL e (bM.cB r<|bM.cB i j)<|x*v) λg m n q h=>?_;refine .I (ak.dY b d e g c h) λ_ _ _ _ _=>?_;exact .B rfl
  |_=>cases a<;>exact .B trivial
def Ez(F:bw->Bool)(f:Ren)(a b:Option (Nat×aq)):Prop:=(a=none∧b=none)∨∃i v c,a=some (i,v)∧b=some (i,c)∧av F f v c
theorem ak.A4(b:ni P vw d=true):∀ {l e:List fZ}{f:Ren}{k c:aq}(_:cG F f l e)(_:av F f k c)(i),ak P F C (Ez F) f (Qp d k l i)<|Qp d c e i
 |_,_,_,_,_,.nil,_,_=>.B<|.inl ⟨rfl,rfl⟩
 |_,_,_,_,_,.cons g j o m,h,i=>by
  refine .Y (.sy _ _ _ b h g) λn r a=>?_;split;exact .B<|.inr ⟨_,_,_,rfl,rfl,j.B a⟩;exact ak.A4 b (m.B a) (h.B a)<|i+1
theorem acf(c:av F f a b)(d:av F f p q):Qq e4 b q=Qq e4 a p:=by
 cases e4<;>first
  |(cases c<;>cases d<;>rfl)
  |rfl
theorem MH{d:zP}:∀ {l b:List fZ}{k a:aq}(_:cG F f l b)(_:av F f k a)(i),
  (Dw d k l i=none∧Dw d a b i=none)∨∃c e,Dw d k l i=some c∧Dw d a b i=some e∧Ez F f c e
 |_,_,_,_,.nil,_,_=>.inr ⟨none,none,rfl,rfl,.inl ⟨rfl,rfl⟩⟩
 |_,_,_,_,.cons g j n m,h,i=>by
  unfold Dw;rw[acf h g];split;exact .inr ⟨_,_,rfl,rfl,.inr ⟨_,_,_,rfl,rfl,j⟩⟩;exact MH m h<|i+1;grind
theorem ak.aE{t:bB}(k:ni P vw t=true)(i:cG F f d5 d6)(h:av F f a b):ak P F C (Ez F) f (uZ t a d5)<|uZ t b d6:=by
 refine .U (.T t) λg u c e=>?_;obtain⟨e,g⟩|⟨j,j,e,g,j⟩:=MH (d:=u) (i.B c) (h.B c) 0;rw[e,g];exact .A4 k (i.B c) (h.B c) 0;rw[e,g];exact .B j
theorem P6{p q:aq×aq->Bool}(h:∀a b c d,av F f a b->av F f c d->q (b,d)=p (a,c)):∀ {l a m b:List aq},bM F f l a->bM F f m b->(a.zip b).all q=(l.zip m).all p
 |_,_,_,_,.nil,_=>af
 |_,_,_,_,.cons _ _,.nil=>af
 |_,_,_,_,.cons a c,.cons b d=>by
  simp[h _ _ _ _ a b,P6 h c d]
theorem ace(t:f.U)(n):∀ {c d e g:aq},av F f c d->av F f e g->xa n d g=xa n c e:=by
 have l:∀(x:bC)(y:Nat)(h:bC)(i:Nat),f x.1=some y->f h.1=some i->((some ({x with block:=y}:bC))== (some ({h with block:=i}:bC)))=((some x)== (some h)):=by
  exact λx y h i a b=>(b_.O t ⟨y,a,rfl⟩ ⟨i,b,rfl⟩).1
 induction n with
 |zero=>
  intro c d e g j k;cases j<;>cases k<;>first
   |rfl
   |(unfold xa;exact l _ _ _ _ ‹_› ‹_›)
 |succ n m=>
  intro c d e g j k;cases j<;>cases k<;>first
   |rfl
   |(unfold xa;exact l _ _ _ _ ‹_› ‹_›)
   |(rename_i u w z a v A B b;unfold xa;rw[m a b])
   |(rename_i o r a c2 s b
     unfold xa;rw[(show r.size=o.size from(RelA.T a).symm),(show s.size=c2.size from(RelA.T b).symm)]
     rw[P6 (p:=λx=>xa n x.1 x.2) (q:=λx=>xa n x.1 x.2) (λ_ _ _ _ x y=>m x y) a b])
theorem ak.co(S:∀a x,P.underlying d=some (.map a x)->ni P vw a=true∧oP P F x)(u:av F f p q)(t:av F f a b)(ok:Bool):
  ak P F C (av F) f (xC d p a ok)<|xC d q b ok:=by
 refine .U (.T d) λh W D T=>?_;replace u:=u.B D;replace t:=t.B D;cases W with
 |map o y=>
  let⟨B,O⟩:=S _ _ T;have J:∀j (l m:Array fZ),h.O j->cG F j l.1 m.1->ak P F C (av F) j
    (do Ht l.isEmpty 10000 o a
        let(v,g) <-match<-uZ o a l.1 with
          |some (_,v)=>cD (v,true)
          |none=>cD (<-Ds y,false)
        cD (if ok then uO #[v,g]else v))
    (do Ht m.isEmpty 10000 o b
        let(v,g) <-match<-uZ o b m.1 with
          |some (_,v)=>cD (v,true)
          |none=>cD (<-Ds y,false)
        cD (if ok then uO #[v,g]else v)):=by
   intro j l m E z;have N:m.isEmpty=l.isEmpty:=by
    have:=z.I;simp at this;simp[Hu,this]
   rw[N];refine .I (.dY _ 10000 o j B<|t.B E) λH _ _ s _=>?_;refine .I (.aE B (z.B s)<|(t.B E).B s) λY U V Z w=>?_;have fin:∀r (v i:aq) (g:Bool),av F r v i->av F r (if ok then uO #[v,g]else v) (if ok then uO #[i,g]else i):=by
    intro r v i g k;cases ok;exact k;exact .tuple<|.cons k<|.cons (.bool g) .nil
   obtain⟨rfl,rfl⟩|⟨a1,v,i,rfl,rfl,k⟩:=w;refine .U (.ac O) λr G a0 R=>?_;exact .I (.B (A:=λh c e=>c=(G,false)∧e=(G,false)) ⟨rfl,rfl⟩) λI c e M n=>by
    obtain⟨rfl,rfl⟩:=n;exact .B<|fin _ _ _ _<|R _
   exact .I (.B (A:=λh c e=>c=(v,true)∧e=(i,true)∧av F h v i) ⟨rfl,rfl,k⟩) λI c e M n=>by
    obtain⟨rfl,rfl,k⟩:=n;exact .B<|fin _ _ _ _ k
  cases u<;>first|exact .O|skip
  exact .I (.B (A:=λh c e=>cG F h c.1 e.1) .nil) aa;rename_i U V w;refine .I (.m w) λj a2 a3 L Q=>?_;cases Q.1 with
  |map X K=>exact .I (.B (A:=λh c e=>cG F h c.1 e.1) K) λH c e s n=>J _ c _ (Ren.B L s) n
  |_=>first|exact .O|exact .never<|.of_first<|.halt _
 |_=>exact .O
end
end
section
section
variable{α α' β β':Type}{P:bj}{F:bw->Bool}{C:eN->Bool}{f:Ren}{w w':ag}
theorem cG.T{h h':fZ->fZ}(d:∀e a,av F f e.1 a.1->av F f e.2 a.2->a.3=e.3->av F f (h e).1 (h' a).1∧av F f (h e).2 (h' a).2∧(h' a).3=(h e).3):
  ∀ {l a:List fZ}(i),cG F f l a->cG F f (l.modify i h) (a.modify i h')
 |_,_,_,.nil=>by simpa using .nil
 |_,_,0,.cons b c a t=>by
  obtain⟨e,g,j⟩:=d _ _ b c a;simpa using .cons e g j t
 |_,_,i+1,.cons b c a t=>by simpa using .cons b c a<|cG.T d i t
theorem cG.Y:∀ {l a:List fZ}(i),cG F f l a->cG F f (l.eraseIdx i) (a.eraseIdx i)
 |_,_,_,.nil=>by simpa using .nil
 |_,_,0,.cons b c a t=>aV t
 |_,_,i+1,.cons b c a t=>by simpa using .cons b c a<|cG.Y i t
theorem cG.O(p:Nat->Bool):∀ {l a:List fZ},cG F f l a->cG F f (l.filter λe=>p e.3) (a.filter λe=>p e.3)
 |_,_,.nil=>.nil
 |_,_,.cons b c a t=>by
  rw[List.filter_cons,List.filter_cons,a];split;exact .cons b c a<|cG.O p t;exact cG.O p t
theorem cG.bN(p:Nat->Bool):∀ {l a:List fZ},cG F f l a->a.all (λe=>p e.3)=l.all (λe=>p e.3)
 |_,_,.nil=>rfl
 |_,_,.cons c d b t=>by simp[b,cG.bN p t]
theorem cG.m(p:Nat->Bool):∀ {l b:List fZ},cG F f l b->(l.find? (λe=>p e.3)=none∧b.find? (λe=>p e.3)=none)∨∃e a,l.find? (λe=>p e.3)=some e∧b.find? (λe=>p e.3)=some a∧av F f e.1 a.1∧av F f e.2 a.2
 |_,_,.nil=>.inl ⟨rfl,rfl⟩
 |_,_,.cons d g c t=>by
  simp only[List.find?_cons,c];split;grind;exact cG.m p t
theorem cG.V(p:Nat->Bool):∀ {l a:List fZ},cG F f l a->a.findIdx? (λe=>p e.3)=l.findIdx? (λe=>p e.3)
 |_,_,.nil=>rfl
 |_,_,.cons c d b t=>by simp[List.findIdx?_cons,b,cG.V p t]
theorem ak.nN(e:av F f a b)(c:av F f p q):ak P F C (av F) f (Jk a p)<|Jk b q:=by
 refine .ua λ_ d=>?_;unfold Jk;rw[ace d _ e c];split;exact .B c;refine .I .oV λg n d g d=>?_;subst d;by_cases d:n=0;simp[if_pos d];exact .B<|c.B g;simp[if_neg d];exact .B<|e.B g
theorem MV(h:cG F f f9.1 f6.1)(i:Nat)(c:av F f a b):av F f (((f9[i]?).map (·.1)).getD a) (((f6[i]?).map (·.1)).getD b):=by
 cases g:f9[i]? with
 |none=>
  have:f6[i]?=none:=by
   rw[Qr]at*;have:=h.I;simp at this;omega
  rw[this];exact c
 |some e=>
  obtain⟨c,c,d,j,j⟩:=h.Z i e (by simpa using g);rw[show f6[i]?=some _ by simpa using c];exact d
def zY(P:bj)(F:bw->Bool)(t:bB):Prop:=∀k e,P.underlying t=some (.map k e)->ni P vw k=true∧oP P F e
theorem ak.KI{t:TypeId}(A:zY P F t){s u q r v n:Value}(l:av F f s u)(d:av F f q r)(i:av F f v n):
  ak P F C (λ_ _ _=>True) f (Instr.mapUpdate t s q v) (Instr.mapUpdate t u r n):=by
 refine .U (.T t) λM G k B=>?_;replace l:=l.B k;replace d:=d.B k;replace i:=i.B k;cases G with
 |map E L=>
  let⟨o,R⟩:=A _ _ B;cases l<;>first|exact .O|exact .V _|skip
  rename_i X Y m;refine .I (.m m) λw T U c y=>?_;cases y.1 with
  |map J g=>
   refine .I (.dY _ 10000 E w o (d.B c)) λN _ _ a _=>?_;refine .I (.aE o (g.B a) ((d.B c).B a)) λO V W b z=>?_;rcases z with⟨rfl,rfl⟩|⟨p,Z,a0,rfl,rfl,S⟩;refine .cW (b _ _ (a _ _ (c _ _ m))) (.map _ ?_);simp[Array.toList_push];exact .U ((g.B a).B b) (.cons (((d.B c).B a).B b) (((i.B c).B a).B b) rfl .nil);refine .I (.nN (MV ((g.B a).B b) p (((d.B c).B a).B b)) (((d.B c).B a).B b)) λQ H I j D=>?_;refine .cW (j _ _ (b _ _ (a _ _ (c _ _ m)))) (.map _ ?_);simp[Array.toList_modify];exact cG.T (h:=λe=>{e with key:=H,val:=v}) (h':=λe=>{e with key:=I,val:=n}) (λe K _ _ x=>⟨D,(((i.B c).B a).B b).B j,x⟩) p (((g.B a).B b).B j)
  |_=>first|exact .O|exact .never _
 |_=>exact .O
theorem ak.S8{t:TypeId}(I:zY P F t){v w s u:Value}(k:av F f v w)(g:av F f s u):
  ak P F C (av F) f (Instr.mapEntry t v s)<|Instr.mapEntry t w u:=by
 refine .U (.T t) λU O q J=>?_;replace k:=k.B q;replace g:=g.B q;cases O with
 |map N T=>
  let⟨p,E⟩:=I _ _ J;cases k<;>first|exact .O|exact .V _|skip
  rename_i a4 a5 l;refine .I (.m l) λy a0 a1 c G=>?_;cases G.1 with
  |map S j=>
   rename_i m n;refine .I (.dY _ 10000 N y p<|g.B c) λV _ _ a _=>?_;refine .I (.aE p (j.B a)<|(g.B c).B a) λW a2 a3 b H=>?_;obtain⟨rfl,rfl⟩|⟨i,a6,a7,rfl,rfl,L⟩:=H;refine .U (.ac E) λz a8 d r=>?_;refine .I (.cW (d _ _<|b _ _<|a _ _<|c _ _ l)<|.map _ ?_) λA _ _ o _=>.B<|.tuple<|.cons (r _)<|.cons (.int _ _) .nil;simp;exact .U (((j.B a).B b).B d)<|.cons ((((g.B c).B a).B b).B d) (r _) rfl .nil;refine .I (.nN (MV ((j.B a).B b) i<|((g.B c).B a).B b)<|((g.B c).B a).B b) λz Q R d M=>?_;have D:((n[i]?).map λe=>(e.3:Int)).getD 0=((m[i]?).map λe=>(e.3:Int)).getD 0:=by
    cases X:m[i]? with
    |none=>
     have:n[i]?=none:=by
      rw[Array.getElem?_eq_none_iff]at*;have:=j.I;simp at this;omega
     grind
    |some e=>
     obtain⟨x,Y,_,_,Z⟩:=j.Z i e (by grind);grind
   rw[D];refine .I (.cW (d _ _<|b _ _<|a _ _<|c _ _ l)<|.map _ ?_) λA _ _ o _=>.B<|.tuple<|.cons ((L.B d).B o)<|.cons (.int _ _) .nil;simp[Array.toList_modify];exact cG.T (h:=λe=>{e with key:=Q}) (h':=λe=>{e with key:=R}) (λe x _ K B=>⟨M,K,B⟩) i<|((j.B a).B b).B d
  |_=>first|exact .O|exact .never<|.of_first<|.halt _
 |_=>exact .O
theorem ak.TE(t:bB)(s:av F f a q)(v:av F f f1 f2)(w:av F f b p):
  ak P F C (λ_ _ _=>True) f (zR t a f1 b)<|zR t q f2 p:=by
 cases s<;>first|exact .O|skip
 rename_i I J k;refine .I (.m k) λA G H c u=>?_;cases u.1 with
 |map y j=>
  refine .Y (.nd<|v.B c) λB n d=>?_;rename_i g i;have o:i.findIdx? (λe=>(e.3:Int)==n)=g.findIdx? (λe=>(e.3:Int)==n):=by
   have:=cG.V (λl=>(l:Int)==n) j;obtain⟨D⟩:=g;obtain⟨E⟩:=i;simpa using this
  rw[o];split;rename_i x _;refine .cW (d _ _<|c _ _ k)<|.map _ ?_;simp;exact cG.T (h:=λe=>{e with val:=b}) (h':=λe=>{e with val:=p}) (λe z r _ m=>⟨r,(w.B c).B d,m⟩) x<|j.B d;exact .O
 |_=>first|exact .O|exact .never<|.of_first<|.halt _
theorem ak.VK(t:bB){x m:aq}(i:av F f x m)(q:∀k,P.underlying t=some k->∃a j,k=.map a j):ak P F C (av F) f (Qs t x)<|Qs t m:=by
 refine .U (.T t) λg z p s=>?_;obtain⟨a,j,rfl⟩:=q _ s;replace i:=i.B p;have fin:∀d (o c:bI),ek P F C d o c->ak P F C (av F) d _ (do cD<|zt<|some ⟨<-qj c,0,none⟩):=
  λd o c b=>.I (.mr b) λn r u _ e=>.B<|.ptr (a:=⟨r,0,none⟩) e
 cases i<;>first|exact .O|skip
 exact .I (.B (A:=λg a h=>ek P F C g a h)<|.wm 0 _ 0) λd o c l b=>fin _ o _ b;rename_i r u e;refine .I (.m e) λd o c l b=>?_;cases b.1 with
 |map v w=>exact .I (.B (A:=λg a h=>ek P F C g a h)<|.iter (l _ _ e) _ _ _) λn o c y b=>fin _ o _ b
 |_=>first|exact .O|exact .never<|.of_first<|.halt _
theorem abV(h:cG F f d5 d6)(pre:List<|Option fZ)(c:∀x∈pre,x=none)(i:Nat):
  ((pre++d5.map some)[i]?=none∧(pre++d6.map some)[i]?=none)∨((pre++d5.map some)[i]?=some none∧(pre++d6.map some)[i]?=some none)∨
  ∃e a,(pre++d5.map some)[i]?=some (some e)∧(pre++d6.map some)[i]?=some (some a)∧av F f e.1 a.1∧av F f e.2 a.2∧a.3=e.3:=by
 by_cases b:i<pre.length;right;left;rw[Hv b,Hv b];obtain⟨x,d⟩:∃x,pre[i]?=some x:=⟨_,cy b⟩;have:=c x<|cA d;grind;rw[Jm aa,Jm aa];simp only[nI];cases b:d5[i- pre.length]? with
 |none=>
  left;have:d6[i- pre.length]?=none:=by rw[P8]at*;rw[<-h.I];exact b
  grind
 |some e=>
  obtain⟨a,a,a,a,a⟩:=h.Z _ _ b;grind
theorem ak.VU(n:av F f a b)(z:bB):ak P F C (av F) f (Dh a false z)<|Dh b false z:=by
 cases n<;>first|exact .O|skip
 rename_i o d r;obtain⟨V,off,a9⟩:=o;cases off with
 |succ y=>exact .O
 |zero=>
  refine .I (.m r) λY a5 a6 B J=>?_;cases J.1 with
  |wm o d W=>exact .B<|.tuple<|.cons (.bool _) .nil
  |iter w c seen last=>
   rename_i T U;refine .I (.m w) λA a7 a8 q L=>?_;cases L.1 with
   |map p m=>
    rename_i g i;simp only;have E:i.isEmpty=g.isEmpty:=by
     have:=m.I;simp only[rY]at this;simp only[Hu,this]
    have D:i.all (λe=>decide<|e.3>=last)=g.all (λe=>decide<|e.3>=last):=by
     rw[<-Array.all_toList,<-Array.all_toList];exact cG.bN (λd=>decide<|d>=last) m
    rw[E,D];split;exact .V<|.B<|.I _;have G:=cG.O (λd=> !seen.contains d) m;have x:=cG.O (λd=>decide<|d<c) aa;have u:=x.U (cG.O (λd=>decide<|d>=c) G);have H:=u.I;have S:∀(pre:Array<|Option fZ),(∀a∈pre,a=none)->∀(ca j:Array<|Option fZ),
      ca.1=pre.1++(((g.1.filter λe=> !seen.contains e.3).filter λe=>decide<|e.3<c)++((g.1.filter λe=> !seen.contains e.3).filter λe=>decide<|e.3>=c)).map some->
      j.1=pre.1++(((i.1.filter λe=> !seen.contains e.3).filter λe=>decide<|e.3<c)++((i.1.filter λe=> !seen.contains e.3).filter λe=>decide<|e.3>=c)).map some->
      ak P F C (av F) A (do
       match ca[<-rU (.mapNext ca.size)]? with
       |some (some e)=>
        wZ V<|.mapIter (some T) c (seen.push e.3) p
        cD<|.tuple #[true,e.1,e.2]
       |some none=>cD<|.tuple #[false]
       |none=>tG "Next: no such candidate") (do
       match j[<-rU (.mapNext j.size)]? with
       |some (some e)=>
        wZ d<|.mapIter (some U) c (seen.push e.3) p
        cD<|.tuple #[true,e.1,e.2]
       |some none=>cD<|.tuple #[false]
       |none=>tG "Next: no such candidate"):=by
     intro pre M ca j s t;have N:j.size=ca.size:=by
      rw[<-rY,<-rY,s,t];simp only[kK,di]at H⊢;omega
     rw[N];refine .I .oV λZ y a4 l I=>?_;subst I;have v:=abV u pre.1 (λa n=>M a<|aV n) y;rw[<-s,<-t,xb,xb]at v;obtain⟨k,h⟩|⟨k,h⟩|⟨e,X,k,h,O,Q,R⟩:=v;rw[k,h];exact .O;rw[k,h];exact .B<|.tuple<|.cons (.bool false) .nil;rw[k,h];dsimp only;rw[R];refine .I (.cW (l _ _<|q _ _<|B _ _ r)<|.iter (l _ _<|q _ _ w) _ _ _) λa0 _ _ h _=>?_;exact .B<|.tuple<|.cons (.bool true)<|.cons ((O.B l).B h)<|.cons ((Q.B l).B h) .nil
    have K:((i.filter λe=> !seen.contains e.3).filter λe=>decide<|e.3<c).isEmpty=((g.filter λe=> !seen.contains e.3).filter λe=>decide<|e.3<c).isEmpty:=by
     have a1:((i.filter λe=> !seen.contains e.3).filter λe=>decide<|e.3<c).size=((g.filter λe=> !seen.contains e.3).filter λe=>decide<|e.3<c).size:=by
      obtain⟨a2⟩:=g;obtain⟨a3⟩:=i;simpa using x.I.symm
     simp only[Hu,a1]
    rw[K];refine S (if((g.filter λe=> !seen.contains e.3).filter λe=>decide<|e.3<c).isEmpty=true then #[none]else #[]) ?_ _ _ ?_ ?_;grind;simp;simp
   |_=>first|exact .O|exact .never<|.of_first<|.halt _
  |_=>first|exact .O|exact .never<|.of_first<|.halt _
end
section
variable{α α' β β':Type}{P:bj}{F:bw->Bool}{C:eN->Bool}{f:Ren}{w w':ag}
def lI(F:bw->Bool)(f:Ren)(a b:Option aq):Prop:=(a=none∧b=none)∨∃v c,a=some v∧b=some c∧av F f v c
variable{y:Ren}
theorem lI.B(h:f.O y)(x:lI F f J K):lI F y J K:=by
 obtain a|⟨v,e,b,c,d⟩:=x;exact .inl a;exact .inr ⟨v,e,b,c,d.B h⟩
theorem ak.iz(h:av F f a b)(y)(d:BoundsCode):ak P F C (λ_ c e=>c=e) f (Hw a y d)<|Hw b y d:=by
 refine .Y (.tY h) λg c _=>?_;obtain⟨k,i⟩:=c;by_cases c:0<=i∧i<=y;simp[if_pos c];exact .B rfl;simp[if_neg c];exact .V<|yI _ _ _ _
theorem ak.dz(d:Bool)(g e)(c:lI F f J K)(i:lI F f b4 b5)(j:lI F f b6 b7):
  ak P F C (λ_ a b=>a=b) f (Hx d g e J b4 b6)<|Hx d g e K b5 b7:=by
 have low:∀(g:Ren)(m h:Nat)(s:Bool),lI F g J K->ak P F C (λ_ a b=>a=b) g
   (do let l<-match J with
         |some v=>Hw v h (if s then .slice3C else .sliceB)
         |none=>cD 0
       cD (l,h,m))
   (do let l<-match K with
         |some v=>Hw v h (if s then .slice3C else .sliceB)
         |none=>cD 0
       cD (l,h,m)):=by
  intro g m h s d;obtain⟨rfl,rfl⟩|⟨v,e,rfl,rfl,e⟩:=d;exact .ao<|.I (.B _) λ_=>.B _;exact .I (.iz e h _) λ_ a b _ a=>by subst a;exact .B rfl
 obtain⟨rfl,rfl⟩|⟨a,a,rfl,rfl,k⟩:=j;refine .Z (.B _) λg m a=>?_;obtain⟨rfl,rfl⟩|⟨j,l,rfl,rfl,d⟩:=i;refine .Z (.B _) λe h b=>?_;exact low _ m h _<|(c.B a).B b;refine .Y (.iz (d.B a) _ _) λe h b=>?_;exact low _ m h _<|(c.B a).B b;refine .Y (.iz k _ _) λg m a=>?_;obtain⟨rfl,rfl⟩|⟨j,l,rfl,rfl,d⟩:=i;exact .V<|.B<|.I _;refine .Y (.iz (d.B a) _ _) λe h b=>?_;exact low _ m h _<|(c.B a).B b
theorem abU{b:Option bC}(h:av F f (.slice b i r) a):∃c,a=.slice c i r∧((b=none∧c=none)∨∃x d,b=some x∧c=some d∧b_ f x d):=by
 cases h with
 |nA=>grind
 |sl _ _ h=>exact⟨_,rfl,.inr ⟨_,_,rfl,rfl,_,h,rfl⟩⟩
theorem ak.VJ(v:bB)(j:av F f a b)(d:lI F f b4 b5)(e:lI F f b6 b7)(g:lI F f J K):
  ak P F C (av F) f (Qt v a b4 b6 J)<|Qt v b b5 b7 K:=by
 refine .U (.T v) λD M q S=>?_;replace j:=j.B q;replace d:=d.B q;replace e:=e.B q;replace g:=g.B q;have L:K.isSome=J.isSome:=by rcases g with⟨rfl,rfl⟩|⟨_,_,rfl,rfl,_⟩<;>rfl
 cases M with
 |string=>
  cases j<;>first|exact .O|skip
  simp only;rw[L];split;exact .V<|.B<|.I _;refine .Y (.dz _ _ _ d e<|.inl ⟨rfl,rfl⟩) λs c _=>?_;exact .B<|.string _
 |slice w=>
  cases j<;>first|exact .O|skip
  refine .Y (.dz _ _ _ d e g) λs c _=>?_;obtain⟨l,h,m⟩:=c;refine .Z (jk w) λx t _=>?_;have:(if m=l then(none:Option _)else Option.map (λa:bC=>a.add<|l*t) none)=none:=by split<;>rfl
  rw[this];exact .B<|.nA _ _;rename_i c A n O G;refine .Y (.dz _ _ _ d e g) λs u k=>?_;obtain⟨l,h,m⟩:=u;refine .Z (jk w) λx t i=>?_;have z:b_ _ c _:=⟨A,i _ _<|k _ _ G,rfl⟩;by_cases o:m=l;simp[if_pos o];exact .B<|.I z _ _;simp[if_neg o];exact .B<|.I (z.I _) _ _
 |pointer r=>
  have body:ak P F C (av F) D
    (do let c<-Ac a
        let .array n p<-ry r|tG "Slice: array type expected"
        let(l,h,m) <-Hx false n n b4 b6 J
        let size<-Hr p
        cD<|.slice (some (if m=l then c else c.add<|l*size)) (h- l)<|m- l)
    (do let c<-Ac b
        let .array n p<-ry r|tG "Slice: array type expected"
        let(l,h,m) <-Hx false n n b5 b7 K
        let size<-Hr p
        cD<|.slice (some (if m=l then c else c.add<|l*size)) (h- l)<|m- l):=by
   refine .I (.K3 j) λs c N k E=>?_;refine .U (.T r) λx B i _=>?_;cases B with
   |array n p=>
    refine .Y (.dz _ _ _ ((d.B k).B i) ((e.B k).B i)<|(g.B k).B i) λQ u H=>?_;obtain⟨l,h,m⟩:=u;refine .Z (jk _) λR t I=>?_;have y:=((E.B i).B H).B I;by_cases o:m=l;simp[if_pos o];exact .B<|.I y _ _;simp[if_neg o];exact .B<|.I (y.I _) _ _
   |_=>exact .O
  exact body
 |_=>cases j<;>exact .O
theorem ak.Tf(t:bB)(h:av F f a b)(c:lI F f J K)(d:lI F f b4 b5)(e:lI F f b6 b7):
  ak P F C (av F) f (Qv t a J b4 b6)<|Qv t b K b5 b7:=by
 refine .U (.T t) λg u g i=>?_;replace h:=h.B g;replace c:=c.B g;replace d:=d.B g;replace e:=e.B g;cases u with
 |array n g=>
  refine .I (.am h) λg g g g i=>?_;refine .Y (.dz _ _ _ (c.B g) (d.B g)<|e.B g) λg q j=>?_;obtain⟨l,g,m⟩:=q;refine .Z (jk _) λg k k=>?_;have g:=(i.B j).B k;by_cases i:m=l;simp[if_pos i];exact .B<|.I g _ _;simp[if_neg i];exact .B<|.I (g.I _) _ _
 |_=>exact .VJ t h c d e
theorem ak.VM(t:bB)(c:av F f a b)(i:av F f p q):ak P F C (av F) f (Qw t a p)<|Qw t b q:=by
 refine .Y (.tY i) λv g j=>?_;obtain⟨z,n⟩:=g;refine .U (.T t) λw u k y=>?_;replace c:=(c.B j).B k;cases u with
 |array len e=>
  cases c<;>first|exact .O|skip
  rename_i o r h;by_cases d:0<=n∧n<len;simp[if_pos d];refine .Z (jk e) λx A l=>?_;exact .pL e (bM.cB l h) _;simp[if_neg d];exact .V<|yI _ _ _ _
 |string=>
  cases c<;>first|exact .O|skip
  rename_i s;simp only;cases(if 0<=n then s[n.toNat]? else none)with
  |none=>exact .V<|yI _ _ _ _
  |some m=>exact .B<|.int _ _
 |_=>cases c<;>exact .O
theorem ak.V9(j:av F f a b)(i):ak P F C (av F) f (Jn a i)<|Jn b i:=by
 unfold Jn;cases j<;>first|exact .O|skip
 rename_i c k g;simp only;cases h:c[i]? with
 |none=>exact .O
 |some v=>obtain⟨l,d,e⟩:=RelA.O g i v h;rw[d];exact .B e
theorem ak.Tg(t:bB)(h:lI F f J K):ak P F C (av F) f (Qy t J) (Qy t K):=by
 have fin:∀g,ak P F C (av F) g _ _:=
  λg=>.I (.mr (.map 0 .nil)) λb a c _ c=>.B (.map c)
 rcases h with⟨rfl,rfl⟩|⟨v,c,rfl,rfl,d⟩;exact fin f;refine .U (.T t) λg u c e=>?_;cases u with
 |map a a=>exact .I (.nd (d.B c)) λb _ _ _ _=>fin _
 |_=>first|exact .O|exact .never _
theorem ak.V_(ts:Array bB)(t:bB)(i:RelA F f e g):ak P F C (av F) f (uP ts t e)<|uP ts t g:=by
 unfold uP;cases ts[0]? with
 |none=>exact .O
 |some E=>
  cases j:e[0]? with
  |none=>exact .O
  |some x=>
   obtain⟨G,k,a⟩:=i.O 0 x j;rw[k];refine .U (.T _) λq u m v=>?_;replace a:=a.B m;cases u with
   |string=>cases a<;>first|exact .O|exact .B<|.int _ _
   |array y b=>exact .B<|.int _ _
   |pointer c=>
    refine .U (.T c) λh d s _=>?_;cases d<;>first|exact .O|exact .B<|.int _ _
   |slice b=>cases a<;>first|exact .O|exact .B<|.int _ _
   |map w b=>
    cases a<;>first|exact .O|exact .B (.int _ _)|skip
    rename_i B D o;refine .I (.m o) λh z A r n=>?_;cases n.1 with
    |map p l=>
     simp only;have:=l.I;simp at this;rw[this];exact .B<|.int _ _
    |_=>first|exact .O|exact .never<|.of_first<|.halt _
   |_=>cases a<;>exact .O
theorem ak.Fe(B:∀t,A[0]?=some t->zY P F t)(t:bB)(l:RelA F f e g):ak P F C (av F) f (xD A t e)<|xD A t g:=by
 unfold xD;cases z:A[0]? with
 |none=>exact .O
 |some Z=>
  cases r:e[0]? with
  |none=>exact .O
  |some I=>
   obtain⟨S,s,j⟩:=l.O 0 I r;cases u:e[1]? with
   |none=>exact .O
   |some G=>
    obtain⟨R,v,b⟩:=l.O 1 G u;rw[s,v];refine .U (.T _) λp J m D=>?_;replace j:=j.B m;replace b:=b.B m;cases J with
    |map H L=>
     let⟨i,O⟩:=B _ z _ _ D;cases j<;>first|exact .O|exact .V _|skip
     exact .I (.dY _ _ _ p i b) λ_ _ _ _ _=>.B<|.tuple .nil;rename_i X Y k;refine .I (.m k) λq T U c x=>?_;cases x.1 with
     |map K h=>
      rename_i n o;simp only;have w:o.isEmpty=n.isEmpty:=by
       have:=h.I;simp at this;simp[Hu,this]
      rw[w];refine .I (.dY _ 10000 H q i<|b.B c) λM _ _ a _=>?_;refine .I (.aE i (h.B a)<|(b.B c).B a) λN V W d y=>?_;obtain⟨rfl,rfl⟩|⟨E,a0,a1,rfl,rfl,Q⟩:=y;exact .I (.cW (d _ _<|a _ _<|c _ _ k)<|.map _<|(h.B a).B d) λ_ _ _ _ _=>.B<|.tuple .nil;refine .I (.cW (d _ _<|a _ _<|c _ _ k)<|.map _ ?_) λ_ _ _ _ _=>.B<|.tuple .nil;have:=((h.B a).B d).Y E;simpa using this
     |_=>first|exact .O|exact .never<|.of_first<|.halt _
    |_=>first|exact .O|exact .never<|.of_first<|.halt _
theorem OT(a:RelA F f e g)(n):RelA F f (qd e n)<|qd g n:=by
 unfold qd;have:=CI a<|n*e.size;rw[<-a.T]at*;exact this
theorem ak.VP{ts:Array bB}(y:∀t a,ts[0]?=some t->P.underlying t=some (.slice a)->oP P F a)(t:bB)(p:RelA F f e g):ak P F C (av F) f (Jo ts t e)<|Jo ts t g:=by
 unfold Jo;cases x:ts[0]? with
 |none=>exact .O
 |some J=>
  cases q:e[0]? with
  |none=>exact .O
  |some B=>
   obtain⟨G,s,b⟩:=p.O 0 B q;rw[s];refine .U (.T _) λd D u z=>?_;replace b:=b.B u;have ok:ak P F C (av F) d ((cD ():cm Unit) >>= λ_=>cD<|uO #[])<|(cD ():cm Unit) >>= λ_=>cD<|uO #[]:=.I (.B (A:=λ_ _ _=>True) trivial) λh _ _ _ _=>.B (A:=av F) (f:=h)<|.tuple .nil;have o:∀r c,d r=some c->ak P F C (av F) d
     (do let .map _ clock<-Ab r|(do tG "clear: map expected";cD<|uO #[])
         wZ r<|.map #[] clock
         cD<|uO #[])
     (do let .map _ clock<-Ab c|(do tG "clear: map expected";cD<|uO #[])
         wZ c<|.map #[] clock
         cD<|uO #[]):=by
    intro r c m;refine .I (.m m) λh H I i v=>?_;cases v.1 with
    |map k E=>exact .I (.cW (i _ _ m)<|.map _ .nil) λ_ _ _ _ _=>.B<|.tuple .nil
    |_=>first|exact .O|exact .never<|.of_first<|.halt _
   cases D with
   |slice a=>
    cases b<;>first|exact .O|exact .V (.B<|.I _)|exact ok|skip
    rename_i e j n k l;cases n with
    |zero=>exact ok
    |succ n=>
     refine .U (.ac<|y _ a x z) λh K i w=>?_;exact .I (.ku ⟨j,i _ _ l,rfl⟩ (OT (w.B _) _) 0) λ_ _ _ _ _=>.B<|.tuple .nil
    exact o _ _ aa
   |_=>
    cases b<;>first|exact .O|exact .V _|exact ok|exact o _ _ ‹_› |skip
    rename_i e j n k l;cases n with
    |zero=>exact ok
    |succ n=>first|exact .O|exact .never<|.of_first<|.halt _
end
section
variable{α α' β β':Type}{P:bj}{F:bw->Bool}{C:eN->Bool}{f:Ren}{w w':ag}
theorem ak.K8(h:av F f a b):ak P F C (λ_ c d=>c=d) f (xE a)<|xE b:=by
 cases h<;>first|exact .O|exact .B rfl
theorem ak.al(g n)(h:av F f a b):ak P F C (RelA F) f (xF g n a)<|xF g n b:=by
 cases h<;>first|exact .O|skip
 refine .B ?_;refine bM.dz rfl λl v o c e=>?_;rw[c]at e;cases e;simp only[Hy,nI,mR]at c;obtain⟨d,_,rfl⟩:=c;exact .int _ _;exact .B .U;rename_i j d m k i;exact .xN ⟨d,i,rfl⟩ _
theorem ak.WO{ts:Array bB}(ax:∀t E,ts[0]?=some t->P.underlying t=some (.slice E)->oP P F E)(b3:∃D,ts[1]?=some D∧∀c3,P.underlying D≠some (.int c3))(t:bB)(G:RelA F f e g):
  ak P F C (av F) f (rZ ts t e)<|rZ ts t g:=by
 unfold rZ;cases b8:ts[0]? with
 |none=>exact .O
 |some e7=>
  cases a0:e[0]? with
  |none=>exact .O
  |some B=>
   obtain⟨e6,a1,m⟩:=G.O 0 B a0;cases d:e[1]? with
   |none=>exact .O
   |some x=>
    obtain⟨a,a2,v⟩:=G.O 1 x d;rw[a1,a2];refine .U (.T _) λc9 c4 M c1=>?_;cases c4 with
    |slice U=>
     replace m:=m.B M;replace v:=v.B M;obtain⟨base,i,p,rfl⟩|b2:(∃k w c,B=.slice k w c)∨∀k w c,B≠ .slice k w c:=by
      grind
     obtain⟨b,rfl,h⟩:=abU m;refine .Z (jk _) λW size O=>?_;have R:=v.B O;have a3:(base=none∧b=none)∨∃x a,base=some x∧b=some a∧b_ W x a:=by
      obtain h|⟨y,j,d,q,r⟩:=h;exact .inl h;exact .inr ⟨y,j,d,q,r.B O⟩
     obtain⟨D,b9,e1⟩:=b3;rw[b9];refine .U (.T _) λd4 c8 a6 d8=>?_;refine .I (.B (A:=λ_ e g=>e=false∧g=false) (by grind)) λd5 aK e8 a8 c2=>?_;obtain⟨rfl,rfl⟩:=c2;simp only[tH,false_or];have a7:=Ren.B a6 a8;refine .Y (.K8<|R.B aa) λX z Q=>?_;have S:=(R.B aa).B Q;have J:(base=none∧b=none)∨∃x a,base=some x∧b=some a∧b_ X x a:=by
      obtain h|⟨y,j,d,q,r⟩:=a3;exact .inl h;exact .inr ⟨y,j,d,q,(r.B a7).B Q⟩
     by_cases K:i+z<=p;simp[if_pos K];refine .I (.al _ _ S) λY c T l s=>?_;obtain⟨rfl,rfl⟩|⟨y,j,rfl,rfl,n⟩:=J;exact .B<|.nA _ _;exact .I (.ku ((n.B l).I _) s 0) λZ _ _ u _=>.B<|.I ((n.B l).B u) _ _;simp only[if_neg K];refine .U (.cB _) λY o l L=>?_;by_cases H:((i+z:Nat):Int) >tA.max∧o.4=0;simp only[if_pos H];exact .V<|.B<|lO _;simp only[if_neg H];refine .U (.cB _) λZ o u L=>?_;by_cases I:Builtin.nextslicecap (i+z) p*o.4>2^48;simp only[if_pos I];refine .V<|.B<|.O (.U _ _ _ _ _) λk=>?_;split;exact .O (.ab _) λ_=>.I _;exact .I _;simp only[if_neg I];refine .I .oV λd6 c6 c7 b0 a4=>?_;subst a4;refine .U (.cB _) λd7 o b1 L=>?_;refine .I (.EJ _) λV _ _ d9 _=>?_;have a9:=Ren.B l<|Ren.B u<|Ren.B b0<|Ren.B b1 aa;have b7:av F V (.slice base i p)<|.slice b i p:=by
      obtain⟨rfl,rfl⟩|⟨y,j,rfl,rfl,n⟩:=J;exact .nA _ _;exact .I (n.B a9) _ _
     refine .I (.al _ _ b7) λd0 e2 e3 e0 b4=>?_;refine .I (.al _ _<|(S.B aa).B aa) λd1 c T a5 s=>?_;refine .U (.ac (ax _ _ b8 c1)) λd2 aK N b5=>?_;refine .I (.lK U<|(((b4.B a5).B N).I<|s.B N).I<|OT (b5.B _) _) λd3 e4 e5 _ b6=>?_;exact .B<|.I b6 _ _;cases m<;>first|exact .O|exact absurd rfl<|b2 _ _ _
    |_=>exact .O
end
section
variable{α α' β β':Type}{P:bj}{F:bw->Bool}{C:eN->Bool}{f:Ren}{w w':ag}
theorem ak.Ba(ts:Array bB)(t:bB){x e y j:aq}(i:av F f x e)(q:av F f y j):ak P F C (av F) f (zu ts t #[x,y])<|zu ts t #[e,j]:=by
 unfold zu;cases i<;>first|exact .O|skip
 ·refine .V<|.T (ac1 _) λn=>?_;simp only
  repeat' split
  all_goals first|exact .I _|exact .of_first<|.halt _
 ·rename_i a r b;refine .Y (.nd q) λu n c=>?_;by_cases g:n=0
  ·simp[if_pos g];refine .I (.tZ<|c _ _ b) λl D E d p=>?_;obtain⟨rfl,rfl⟩|⟨x,e,B,rfl,rfl,i⟩:=p
   ·exact .B<|.ptr<|d _ _<|c _ _ b
   ·exact .V<|.B<|.I _
  ·simp[if_neg g];by_cases h:n<0
   ·simp[if_pos h];exact .V<|.B<|.I _
   ·simp[if_neg h];refine .Y (.oQ<|c _ _ b) λl s d=>?_;cases s with
    |none=>exact .O
    |some s=>
     obtain⟨k,w⟩:=s;refine .I .bN λv z A m o=>?_;obtain⟨rfl,rfl⟩:=o;cases cellAtBytes P P.depth k _ a.2 n with
     |none=>exact .O
     |some off=>exact .B<|.ptr (a:={a with off})<|m _ _<|d _ _<|c _ _ b
theorem ak.eT(t:bB){x d y e:aq}(g:av F f x d)(c:av F f y e):ak P F C (av F) f (Hz t x y)<|Hz t d e:=by
 refine .U (.T t) λi w h H=>?_;replace g:=g.B h;replace c:=c.B h;have u:ak P F C (av F) i
   (do let .pointer<|some n:=x|zu #[] t #[x,y]
       let(a,lost) <-uN n
       match<-zu #[] t #[.pointer<|some a,y]with
       | .pointer (some b)=>Qz b lost
       |v=>cD v)
   (do let .pointer<|some n:=d|zu #[] t #[d,e]
       let(a,lost) <-uN n
       match<-zu #[] t #[.pointer<|some a,e]with
       | .pointer (some b)=>Qz b lost
       |v=>cD v):=by
  cases g;case ptr a b j=>
   refine .I (.ab ⟨b,j,rfl⟩) λB I J l m=>?_;obtain⟨M,N,r,rfl,rfl,q⟩:=m;refine .I (.Ba _ _ (.T q)<|c.B l) λD v L G p=>?_;cases p;case ptr z A k=>
    exact .I (.mr<|.number k r) λE s K _ o=>.B<|.ptr (a:=⟨s,0,_⟩) o
   all_goals exact .B (by constructor<;>assumption)
  all_goals exact .Ba _ _ (by constructor<;>assumption) c
 cases w<;>first|exact .V (.B<|.I _)|exact u
theorem ak.lL(k:z_){a b:bC}(c:b_ f a b)(n):ak P F C (av F) f (HA k a n)<|HA k b n:=by
 have a:=c;obtain⟨b,b,rfl⟩:=c;refine .Y (.oQ b) λg s b=>?_;cases s with
 |none=>exact .O
 |some s=>
  obtain⟨e,m⟩:=s;simp only;refine .U (.cB e) λc i c _=>?_;split;exact .V<|.B<|.I _;refine .Y (.WN<|(a.B b).B c) λa q _=>?_;exact .B<|.int _ _
theorem NQ{a b:bC}(c:P.globals<=a.1):gy P<|QA a b:=by
 unfold QA;have c:(a.1 != b.1||decide (a.1>=P.globals.size))=true:=aJ
 intro w a;rw[runT_bind'];simp only[qi,jQ];rw[if_pos c];exact gy.B (.I _) w _
def yK(P:bj)(op:Af)(t:bB):Bool:=
 match op with
 | .eql| .neq=>ni P vw t&& !P.eqGuardType P.depth t
 |_=>match P.underlying t with|some (.int _)|some .string=>true|_=>false
theorem Pj(d)(t:bB):Still P<|Jp (d+1) t .nilIface .nilIface:=by
 refine .I (wN t) λu=>?_;cases u<;>exact .B _
theorem ak.Wn(e:yK P x d=true)(g y:cL)(j:av F f a b)(k:av F f p q):
  ak P F C (λ_ _ _=>True) f (xc x d g y a p) (xc x d g y b q):=by
 have main:x=.eql∨x=.neq->ak P F C (λ_ _ _=>True) f (xc x d g y a p) (xc x d g y b q):=by
  intro c;have i:P.eqGuardType P.depth d=false:=by
   rcases c with rfl|rfl<;>(simp only[yK,j_,Bool.not_eq_true']at e;exact e.2)
  have l:∀e:cL,∀h:cL,Still P (if((match e with| .const _=>true|_=>false)||(match h with| .const _=>true|_=>false))=true then(cD ():cm Unit)else do
    if<-Jp vw d .nilIface .nilIface then Hs (.noEntry "binop/eql: two nil values of an interface type with methods, neither of them the literal nil")else cD ()):=by
   intro e h;generalize((match e with| .const _=>true|_=>false)||(match h with| .const _=>true|_=>false))=h;cases h;simp;refine .I (Pj 9999 d) λe=>?_;cases e;exact .B _;exact .O _;exact .B _
  rcases c with rfl|rfl;all_goals
   unfold xc;simp only[Bool.not_true];cases j<;>cases k<;>first
    |exact .B trivial
    |exact .EM (.ao (l g y)) λ_ _ _ _ _=>trivial
    |(refine .I .bN λg h j _ e=>?_
      obtain⟨rfl,rfl⟩:=e;refine .I .bN λg h j _ e=>?_;obtain⟨rfl,rfl⟩:=e;rw[i]
      exact .B trivial)
 by_cases c:x=.eql∨x=.neq;exact main c;cases x<;>first|exact .B trivial|exact absurd (.inl rfl) c|exact absurd (.inr rfl) c
theorem ak.K9(op:Af)(t:bB)(k c:z_)(a b):ak P F C (av F) f (uQ op t (.int k a)<|.int c b)<|uQ op t (.int k a)<|.int c b:=by
 cases op<;>
 ·dsimp only[uQ,Op.intDiv,Op.shift]
  repeat' split
  all_goals first|exact .B (.int _ _)|exact .B (.bool _)|exact .O|exact .never<|lO _
theorem ak.K5(op:Af)(t:bB)(a b:ByteArray):ak P F C (av F) f (uQ op t a<|.string b)<|uQ op t a<|.string b:=by
 cases op<;>
 ·dsimp only[uQ,Op.stringOp]
  repeat' split
  all_goals first|exact .B (.string _)|exact .B (.bool _)|exact .O
theorem ak.VR(D:yK P x d=true)(m:av F f a p)(n:av F f b q):
  ak P F C (av F) f (uQ x d a b) (uQ x d p q):=by
 by_cases t:∃k c I y,a=.int k c∧b=.int I y;obtain⟨k,c,I,y,rfl,rfl⟩:=t;cases m;cases n;exact .K9 _ d k _ c y;by_cases u:∃c y,a=.string c∧b=.string y;obtain⟨c,y,rfl,rfl⟩:=u;cases m;cases n;exact .K5 _ d c y;by_cases e:x=.eql∨x=.neq;have N:ni P vw d=true:=by
  rcases e with rfl|rfl<;>(simp only[yK,j_,Bool.not_eq_true']at D;exact D.1)
 have G:=ak.sy (P:=P) (F:=F) (C:=C) _ d f N m n;rcases e with rfl|rfl;cases m<;>cases n<;>first
  |exact absurd ⟨_,_,_,_,rfl,rfl⟩ t
  |exact absurd ⟨_,_,rfl,rfl⟩ u
  |exact .I G λ_ _ _ _ A=>by subst A;exact .B (.bool _)
 cases m<;>cases n<;>first
  |exact absurd ⟨_,_,_,_,rfl,rfl⟩ t
  |exact absurd ⟨_,_,rfl,rfl⟩ u
  |exact .I G λ_ _ _ _ A=>by subst A;exact .B (.bool _)
 have H:∀i,P.underlying d=some i->(i matches .unsafePointer)=false:=by
  intro i v;have:(match P.underlying d with|some (.int _)|some .string=>true|_=>false)=true:=by
   cases x<;>first|exact D|exact absurd (.inl rfl) e|exact absurd (.inr rfl) e
  rw[v]at this;cases i<;>first|rfl|simp at this
 have gT:∀(g:Ren)(c l y o:aq),av F g c l->av F g y o->ak P F C (av F) g
   (do if(<-ry d) matches .unsafePointer then QB d c y else Hz d c y) (do if(<-ry d) matches .unsafePointer then QB d l o else Hz d l o):=by
  intro g c l y o j s;refine .U (.T d) λE i r v=>?_;rw[if_neg (cw (H i v)),if_neg (cw (H i v))];exact .eT d (j.B r) (s.B r)
 have M:∀(g:Ren)(a b z i:bC)(k:bC->bC->cm aq),(∀c y,P.globals.size<=c.1->gy P (k c y))->b_ g a b->b_ g z i->ak P F C (av F) g
   (do k (<-uN a).1 (<-uN z).1) (do k (<-uN b).1 (<-uN i).1):=by
  intro g a b z i k Q B O;refine .I (.ab B) λE c l r j=>?_;obtain⟨y,o,J,rfl,rfl,s⟩:=j;refine .I (.ab (O.B r)) λW c l R j=>?_;obtain⟨Z,a0,J,rfl,rfl,X⟩:=j;refine .ua λS _=>.V ?_;obtain⟨Y,T,_⟩:=s.B R;exact Q _ _ (S _ _ T).1
 have V:∀(k:z_)(c y:bC),P.globals.size<=c.1->gy P (Op.addrSub k c y):=λk c y h=>.B (NQ h);have U:∀(L:Af)(c y:bC),P.globals.size<=c.1->gy P (Op.addrCmp L c y):=λL c y h=>.B (NQ h);have K:∀(g:Ren)(k:z_)(a b:bC)(w:Int),b_ g a b->ak P F C (av F) g (do HA k (<-uN a).1 w) (do HA k (<-uN b).1 w):=by
  intro g k a b w B;refine .I (.ab B) λE c l r j=>?_;obtain⟨y,o,J,rfl,rfl,s⟩:=j;exact .lL k s w
 cases m<;>cases n<;>first
  |exact absurd ⟨_,_,_,_,rfl,rfl⟩ t
  |exact absurd ⟨_,_,rfl,rfl⟩ u
  |(cases x<;>first|exact absurd (.inl rfl) e|exact absurd (.inr rfl) e|exact .O)
  |skip
 case int.nw=>cases x<;>first|exact absurd (.inl rfl) e|exact absurd (.inr rfl) e|exact .O|exact .eT d .nw (.int _ _)
 case nw.int=>cases x<;>first|exact absurd (.inl rfl) e|exact absurd (.inr rfl) e|exact .O|exact gT _ _ _ _ _ .nw (.int _ _)|exact .eT d .nw (.int _ _)
 case int.ptr h=>cases x<;>first|exact absurd (.inl rfl) e|exact absurd (.inr rfl) e|exact .O|exact .eT d (.ptr h) (.int _ _)|exact K _ _ _ _ _ ⟨_,h,rfl⟩
 case ptr.int h _ _=>cases x<;>first|exact absurd (.inl rfl) e|exact absurd (.inr rfl) e|exact .O|exact gT _ _ _ _ _ (.ptr h) (.int _ _)|exact .eT d (.ptr h) (.int _ _)|exact K _ _ _ _ _ ⟨_,h,rfl⟩
 case ptr.ptr h _ _ h'=>cases x<;>first|exact absurd (.inl rfl) e|exact absurd (.inr rfl) e|exact .O|exact M _ _ _ _ _ _ (V _) ⟨_,h,rfl⟩ ⟨_,h',rfl⟩|exact M _ _ _ _ _ _ (U _) ⟨_,h,rfl⟩ ⟨_,h',rfl⟩
end
section
variable{α α' β β':Type}{P:bj}{F:bw->Bool}{C:eN->Bool}{f:Ren}{w w':ag}
theorem ak.Sq(t:bB)(h:av F f a b):ak P F C (av F) f (QC t a)<|QC t b:=by
 refine .U (.T t) λg d c _=>?_;cases d<;>first|exact .O|exact .B<|.iface t<|h.B c
theorem ak.VN(t:bB)(h:av F f a b)(k):ak P F C (av F) f (Di t a k)<|Di t b k:=by
 refine .U (.T t) λn d i _=>?_;replace h:=h.B i;cases d<;>first|exact .O|skip
 rename_i c _;simp only;cases c[k]? with
 |none=>exact .O
 |some m=>
  cases h with
  |agg g=>
   exact .I (A:=RelA F) (.B g) λo j l _ e=>.pL _ e _
  |_=>exact .V<|.B<|.I _
theorem ak.V'(ts:Array bB)(t:bB)(h:RelA F f e g):ak P F C (av F) f (Jq ts t e)<|Jq ts t g:=by
 unfold Jq;cases a:ts[0]? with
 |none=>exact .O
 |some d=>
  cases b:e[0]? with
  |none=>exact .O
  |some x=>
   obtain⟨a,c,a⟩:=h.O 0 x b;rw[c];refine .U (.T d) λb d b _=>?_;cases d with
   |array n c=>exact .B<|.int _ _
   |pointer b=>
    refine .U (.T b) λb b _ _=>?_;cases b<;>first|exact .O|exact .B<|.int _ _
   |slice c=>cases a<;>first|exact .O|exact .B<|.int _ _
   |chan _ _=>cases a<;>exact .O
   |_=>exact .O
theorem ak.VX(t)(h:RelA F f e g):ak P F C (av F) f (Jr A t e)<|Jr A t g:=by
 unfold Jr;cases R:A[0]? with
 |none=>exact .O
 |some J=>
  cases x:e[0]? with
  |none=>exact .O
  |some K=>
   obtain⟨T,H,k⟩:=h.O 0 K x;cases B:e[1]? with
   |none=>exact .O
   |some y=>
    obtain⟨r,I,d⟩:=h.O 1 y B;rw[H,I];refine .U (.T J) λl u o _=>?_;replace k:=k.B o;replace d:=d.B o;cases u<;>first|exact .O|skip
    rename_i j _;have main:∀(b a:Option bC)(n:Nat),(∀c,b=some c->∃i,a=some i∧b_ l c i)->(b=none->a=none)->
      ak P F C (av F) l (do
       let m:=QD (<-xE y) n
       let cells<-xF (<-sizeOf j) m y
       if let some e:=b then Hm e cells.1
       cD<|goInt m) (do
       let m:=QD (<-xE r) n
       let cells<-xF (<-sizeOf j) m r
       if let some e:=a then Hm e cells.1
       cD<|goInt m):=by
     intro b a n v w;refine .Y (.K8 d) λM S p=>?_;refine .Z (jk j) λN sz q=>?_;refine .I (.al _ _<|(d.B p).B q) λO L s E D=>?_;cases b with
     |none=>rw[w rfl];exact .B<|.int _ _
     |some c=>
      obtain⟨i,rfl,G⟩:=v _ rfl;refine .I (.ku (((G.B p).B q).B E) D 0) λQ _ _ _ _=>.B<|.int _ _
    cases k<;>first|exact .O|skip
    exact main none none _ af af;rename_i c a n s z;exact main (some _) _ n (λ_ h=>by cases h;exact⟨_,rfl,_,z,rfl⟩) af
theorem SZ:∀(k:Ask s)(w:ag),(w.ask k).2.1=w.1:=by
 intro k;induction k with
 |done a=>intro w;rfl
 |ask a a k a=>
  intro w;unfold World.ask;grind
theorem adp(w:ag)(c:Sys):(w.sys c).2.1=w.1:=by
 have h:=SZ (Kernel.perform c w.4) w;unfold World.sys;grind
theorem ZZ{c:Sys}{k:SysRet->cm α}(h:∀r,gy P<|k r):gy P<|Sem.sys c k:=by
 intro w a;obtain⟨d,w1,b,e,f,g⟩:=h (w.sys c).1 (w.sys c).2<|a.push ⟨.output,true,false⟩;exact⟨d,w1,b,e,f,Grow.I (λb o a=>aw adp a) g⟩
theorem ZY:gy P<|HB a:=by
 unfold HB;cases a with
 |iface t v=>exact .I _
 |nilIface=>
  refine ZZ λr=>?_;cases r with
  |strings b=>
   refine gy.T (s:=qi) .T λp=>?_;simp only;split;exact .I _;exact lO _
  |_=>exact .I _
 |_=>exact .I _
variable{g4:Ren->aq->aq->Prop}
theorem ak.VL:ak P F C g4 f (HB a)<|HB b:=.V ZY
theorem ak.t_{a b:bC}(d:b_ f a b):ak P F C (λ_ x c=>x=c) f (Hl a)<|Hl b:=by
 refine⟨?_,λw w' b a=>⟨af,λx w1 c e=>?_⟩⟩;rotate_left;obtain⟨⟨rfl,rfl⟩,rfl⟩:=e;exact⟨aa,rfl,λ_ _=>rfl⟩;intro w w' b b a x w1 c h;obtain⟨⟨rfl,rfl⟩,rfl⟩:=h;exact⟨f,_,w',#[],by simp only[Hl,jQ,a.B d,Js],a,.B _ _,rfl,af⟩
theorem ak.an{a b:bC}(c:b_ f a b):ak P F C (λ_ x d=>x=d) f (w_ a.1)<|w_ b.1:=by
 obtain⟨b,a,rfl⟩:=c;exact .oQ a
theorem b_.T{a b:bC}(c:b_ f a b)(n):b_ f {block:=a.1,off:=n} {block:=b.1,off:=n}:=by
 obtain⟨b,a,rfl⟩:=c;exact⟨b,a,rfl⟩
theorem ak.KH{b c:bC}(a:b_ f b c):ak P F C (λ_ x d=>x=d) f (QE b)<|QE c:=by
 refine .Y (.t_ a) λg q b=>?_;cases q;refine .Y (.an<|a.B b) λc s c=>?_;cases s with
 |none=>exact .B rfl
 |some s=>exact .t_<|((a.B b).B c).T _
 exact .B rfl
theorem ak.S7{b c d e:bC}(g:b_ f b c)(h:b_ f d e):ak P F C (λ_ x a=>x=a) f (HE b d)<|HE c e:=by
 refine .Y (.KH g) λb p b=>?_;refine .Y (.KH<|h.B b) λc q d=>?_;refine .I (A:=λ_ x a=>x=a) (.I (.an ((g.B b).B d)) λe s i _ c=>?_) λe x a e g=>?_;subst c;exact .B rfl;subst g;refine .I (A:=λ_ x a=>x=a) (.I (.an<|((h.B b).B d).B e) λa s i _ c=>?_) λa y a a a=>?_;subst c;exact .B rfl;subst a;exact .B rfl
theorem ak.dJ{a b c d:bC}(g:b_ f a b)(h:b_ f c d):ak P F C (λ_ x i=>x=i) f (Jt a c)<|Jt b d:=by
 unfold Jt;refine .ua λ_ k=>?_;obtain⟨e,j⟩:=b_.O k g h;rw[e,j];split;exact .B rfl;refine .Y (.t_ g) λe p e=>?_;refine .Y (.t_<|h.B e) λl q j=>?_;have k:=(g.B e).B j;have g:=(h.B e).B j
 have e:ak P F C (λ_ x i=>x=i) l (do
   Ae a
   Ae c
   if<-HE a c then return (<-rU (.extern "sameAddr.stringBytes" 2))==1
   cD false) (do
   Ae b
   Ae d
   if<-HE b d then return (<-rU (.extern "sameAddr.stringBytes" 2))==1
   cD false):=by
  refine .I (.EN k) λa _ _ a _=>?_;refine .I (.EN<|g.B a) λb _ _ b _=>?_;refine .Y (.S7 ((k.B a).B b)<|(g.B a).B b) λa x _=>?_;split;exact .I .oV λ_ y a _ a=>by subst a;exact .B rfl
  exact .B rfl
 split;exact .V<|.B<|.I _;exact e
theorem ak.Tb(o)(z:(∃j,P.underlying d=some (.pointer j))∨P.underlying d=some .unsafePointer)(h:av F f p q)(c:av F f a b):
  ak P F C (λ_ g w=>g=w) f (Dv (o+1) d p a)<|Dv (o+1) d q b:=by
 refine .U (.T d) λA E u v=>?_;replace h:=h.B u;replace c:=c.B u;obtain⟨j,e⟩|e:=z;rw[v]at e;cases dw e;cases h<;>cases c<;>first|exact .O|exact .B rfl|skip
 rename_i g i l n k m;refine .Z (jk j) λB D r=>?_;have s:b_ _ g _:=⟨i,r _ _ l,rfl⟩;have t:b_ _ n _:=⟨k,r _ _ m,rfl⟩;split;exact .dJ s t;refine .ua λ_ y=>?_;obtain⟨x,_⟩:=b_.O y s t;rw[x];split;exact .B rfl;exact .I .oV λ_ a b _ c=>by subst c;exact .B rfl
 rw[v]at e;cases dw e;cases h<;>cases c<;>first|exact .O|exact .B rfl|skip
 rename_i g i l n k m;exact .dJ ⟨i,l,rfl⟩ ⟨k,m,rfl⟩
def Ct(P:bj)(op:Af)(t:bB):Bool:=
 (match op with| .eql| .neq=>true|_=>false)&&(match P.underlying t with|some (.pointer _)|some .unsafePointer=>true|_=>false)&& !P.eqGuardType P.depth t
theorem Gg(h:Ct P x d=true):(x=.eql∨x=.neq)∧((∃e,P.underlying d=some (.pointer e))∨P.underlying d=some .unsafePointer)∧P.eqGuardType P.depth d=false:=by
 unfold Ct at h;grind
theorem ak.TD(k:x=.eql∨x=.neq)(h:P.eqGuardType P.depth d=false)(g y:cL)(i:av F f a b)(j:av F f p q):
  ak P F C (λ_ _ _=>True) f (xc x d g y a p) (xc x d g y b q):=by
 have l:∀c:cL,∀e:cL,Still P (if((match c with| .const _=>true|_=>false)||(match e with| .const _=>true|_=>false))=true then(cD ():cm Unit)else do
   if<-Jp vw d .nilIface .nilIface then Hs (.noEntry "binop/eql: two nil values of an interface type with methods, neither of them the literal nil")else cD ()):=by
  intro c e;generalize((match c with| .const _=>true|_=>false)||(match e with| .const _=>true|_=>false))=e;cases e;simp;refine .I (Pj 9999 d) λc=>?_;cases c;exact .B _;exact .O _;exact .B _
 rcases k with rfl|rfl;all_goals
  unfold xc;simp only[Bool.not_true];cases i<;>cases j<;>first
   |exact .B trivial
   |exact .EM (.ao (l g y)) λ_ _ _ _ _=>trivial
   |(refine .I .bN λg e i _ c=>?_
     obtain⟨rfl,rfl⟩:=c;refine .I .bN λg e i _ c=>?_;obtain⟨rfl,rfl⟩:=c;rw[h]
     exact .B trivial)
theorem ak.sJ(c:Ct P x d=true)(e:av F f a p)(g:av F f b q):ak P F C (av F) f (uQ x d a b)<|uQ x d p q:=by
 obtain⟨l,m,_⟩:=Gg c;by_cases h:∃k c i y,a=.int k c∧b=.int i y;obtain⟨k,c,i,y,rfl,rfl⟩:=h;cases e;cases g;exact .K9 _ d k _ c y;by_cases i:∃c y,a=.string c∧b=.string y;obtain⟨c,y,rfl,rfl⟩:=i;cases e;cases g;exact .K5 _ d c y;have j:=ak.Tb (P:=P) (F:=F) (C:=C) 9999 m e g;obtain rfl|rfl:=l;cases e<;>cases g<;>first
  |exact absurd ⟨_,_,_,_,rfl,rfl⟩ h
  |exact absurd ⟨_,_,rfl,rfl⟩ i
  |exact .I j λ_ _ _ _ c=>by subst c;exact .B<|.bool _
 cases e<;>cases g<;>first
  |exact absurd ⟨_,_,_,_,rfl,rfl⟩ h
  |exact absurd ⟨_,_,rfl,rfl⟩ i
  |exact .I j λ_ _ _ _ c=>by subst c;exact .B<|.bool _
end
section
variable{α α' β β':Type}{P:bj}{F:bw->Bool}{C:eN->Bool}{f:Ren}{w w':ag}
theorem ak.VZ(h:av F f a b):ak P F C (av F) f (QF .neg a)<|QF .neg b:=by
 cases h with
 |int k n=>exact .B<|.int _ _
 |_=>exact .O
theorem ak.Su(k:av F f a b):ak P F C (av F) f (HF a)<|HF b:=by
 cases k with
 |nA n c=>exact .B<|.string _
 |sl n c l=>
  rename_i d h;refine .I (.xN ⟨h,l,rfl⟩ n) λj cs i w e=>?_;obtain⟨t⟩:=cs;obtain⟨u⟩:=i;unfold RelA at e;simp only at e;simp;have q:∀(s:ByteArray),ak P F C (λ_ d g=>d=g) j
    (forIn t s λc r=>match c with| .int .u8 n=>(cD (QG<|r.push<|wX n.toNat):cm<|ForInStep ByteArray)|_=>stuck "bytesToString: byte expected")
    (forIn u s λc r=>match c with| .int .u8 n=>(cD (QG<|r.push<|wX n.toNat):cm<|ForInStep ByteArray)|_=>stuck "bytesToString: byte expected"):=by
   induction e using bM.rec (motive_1:=λ_ _ _=>True)with
   |nil=>intro s;exact .B rfl
   |cons m x _ o=>
    intro s;simp;cases m with
    |int p n=>
     cases p<;>first
      |exact .V<|.B<|.I _
      |exact o _
    |_=>exact .V<|.B<|.I _
   |_=>grind
  refine .Y (q _) λv d _=>?_;exact .B<|.string _
 |_=>exact .O
end
def Cz:aq->Bool
 | .bool _| .int _ _| .string _| .pointer none| .slice none _ _| .map none| .nilFunc| .nilIface=>true
 | .tuple cs=>cs.isEmpty
 |_=>false
theorem CB:∀ {v:aq},Cz v=true->Plain b8 v
 | .bool _,_,_=>.bool _
 | .int _ _,_,_=>.int _ _
 | .string _,_,_=>.string _
 | .pointer none,_,_=>.nw
 | .slice none _ _,_,_=>.nA _ _
 | .map none,_,_=>.Ci
 | .nilFunc,_,_=>.nilFunc
 | .nilIface,_,_=>.nilIface
 | .tuple ⟨[]⟩,_,_=>.tuple .nil
def fF(F:bw->Bool):cL->Bool
 | .tmp _=>true
 | .const v=>Cz v
 | .global _=>false
 | .func g=>F g
def uL(P:bj)(t:bB):Bool:=
 match P.info? t with
 |some i=>(match i.8 with|some v=>(match v with| .agg cs=>cs.all Cz|v=>Cz v)|none=>true)
 |none=>true
theorem Df(h:uL L d=true):oP L b8 d:=by
 intro i a v b f;unfold uL at h;rw[a]at h;simp[b]at h;cases v with
 |agg cs=>
  refine .agg<|bM.dz rfl λj x a a b=>?_;rw[a]at b;cases b;simp only[rW]at h;exact CB (h x<|aV<|cA a) f
 |_=>exact CB h f
def yF(P:bj)(t:bB):Bool:=match P.underlying t with|some (.map k e)=>ni P vw k&&uL P e|_=>true
theorem yG(h:yF L d=true):zY L b8 d:=by
 intro k e a;unfold yF at h;simp[a]at h;exact⟨h.1,Df h.2⟩
def uE(P:bj)(t:bB):Bool:=match P.underlying t with|some (.slice e)=>uL P e|_=>true
theorem CY(h:uE L d=true):∀e,L.underlying d=some (.slice e)->oP L b8 e:=by
 intro e a;unfold uE at h;simp[a]at h;exact Df h
def Fz(P:bj)(s:bB)(k:Nat):Bool:=match P.underlying s with|some (.struct a)=>(match a[k]? with|some x=>(match P.info? x.2 with|some i=>i.3 != 0|none=>true)|none=>true)|_=>true
theorem Xk(h:Fz L d i=true):I5 L d i:=by
 intro a a x a a a;unfold Fz at h;grind
def pW(P:bj)(b:Builtin)(ts:Array bB):Bool:=
 match b with
 | .len=>true
 | .max=>true
 | .cap=>true
 | .copy=>true
 | .append=>(match ts[0]?,ts[1]? with|some a,some b=>uE P a&&(match P.underlying b with|some (.int _)=>false|_=>true)|_,_=>false)
 | .delete=>(match ts[0]? with|some a=>yF P a|none=>true)
 | .clear=>(match ts[0]? with|some a=>uE P a|none=>true)
 |_=>false
def jh(P:bj)(F:bw->Bool)(o:Op):Bool:=
 o.operands.all (fF F)&&
 match o with
 | .move _| .assign _| .pick .. | .box .. | .load .. | .store .. | .makeMap .. | .slice .. | .indexAddr .. | .index .. | .entryStore .. | .next _ false| .entry _| .extract .. =>true
 | .makeFunc fn _ _=>(match fn with| .func g=>F g|_=>false)
 | .alloc t=>uL P t
 | .build t _=>uL P t
 | .buildSlice t _ _=>uE P t
 | .nilCheck _| .makeInterface .. | .field .. | .panic _=>true
 | .binOp op t _ _ _=>yK P op t||Ct P op t
 | .unOp op _ _=>(match op with| .not| .neg=>true|_=>false)
 | .convert s t _=>(match P.underlying s,P.underlying t with|some (.int _),some (.int _)=>true|some (.slice e),some .string=>(match P.underlying e with|some (.int .u8)=>true|_=>false)|_,_=>false)
 | .fieldAddr s _ k=>Fz P s k
 | .lookup t _ _ _=>yF P t
 | .mapUpdate t _ _ _| .insert t _ _ _| .mapEntry t _ _=>yF P t
 | .range t _=>(match P.underlying t with|some (.map _ _)=>true|_=>false)
 | .call {callee:=.value _,..}=>true
 | .call {callee:=.builtin b,argTypes,..}=>pW P b argTypes
 |_=>false
inductive jw(F:bw->Bool)(C:eN->Bool)(f:Ren):qf->qf->Prop
 |value {v v':aq} (h:av F f v v'):jw F C f (.value v) (.value v')
 |skip:jw F C f .skip .skip
 |enter {g:bw} {a a':Array aq} (hg:F g=true) (h:RelA F f a a'):jw F C f (.enter g a) (.enter g a')
 |round {l l':Nat} {g:bw} {a a':Array aq} {x y:eN} (hl:f l=some l') (hg:F g=true) (h:RelA F f a a') (vZ:C x=true) (qL:C y=true):jw F C f (.round l g a x y) (.round l' g a' x y)
structure Fits(P:bj)(F:bw->Bool)(C:eN->Bool):Prop where
 fn:∀g,F g=true->∃x,P.funcs[g]?=some x∧(x.1== "runtime.NumGoroutine")=false∧
  (x.9.isSome=true∨(x.9.isNone=true∧Extern.findNext x=none∧∃e,Extern.find x=some e∧∀f a a',RelA F f a a'->ak P F C (av F) f (e a) (e a')))
section
variable{α α' β β':Type}{P:bj}{F:bw->Bool}{C:eN->Bool}{f:Ren}{w w':ag}
theorem ak.VW(d:av F f a b)(c:av F f p q):ak P F C (av F) f (HI a p)<|HI b q:=by
 cases d<;>cases c<;>first
  |exact .O
  |exact .B<|.int _ _
  |skip
 refine .I (A:=λ_ a b=>a=b) (.ao<|.B _) λg p q _ c=>?_;subst c;refine .I (A:=λ_ a b=>a=b) (.ao ?_) λg p q _ c=>?_;unfold Ji;split<;>first|exact .B _|exact .O _
 subst c;exact .B<|av.string _
theorem ak.L5:∀ {l c:List aq}{f:Ren}{a b:aq},bM F f l c->av F f a b->ak P F C (av F) f (l.foldlM HI a) (c.foldlM HI b)
 |_,_,_,_,_,.nil,h=>aV<|ak.B h
 |_,_,_,_,_,.cons a t,h=>by
  exact .I (.VW h a) λg x a a b=>ak.L5 (t.cB a) b
theorem ak.VV(ts:Array bB)(t:bB)(h:RelA F f e g):ak P F C (av F) f (Ju ts t e)<|Ju ts t g:=by
 unfold Ju;unfold RelA at h;generalize e.1=l at h;generalize g.1=a at h;cases h with
 |nil=>exact .O
 |cons h t=>exact .L5 t h
theorem ak.cl{c:Builtin}(a:pW P c A=true)(t:bB)(cs:Array Bool)(h:RelA F f e g):
  ak P F C (jw F C) f (QH c A t cs e)<|QH c A t cs g:=by
 have v:∀ {s n:cm aq},ak P F C (av F) f s n->ak P F C (jw F C) f _ _:=
  λl=>.I l λ_ _ _ _ m=>.B<|.value m
 cases c<;>first|(simp[pW]at a;done)|skip
 refine v<|.WO ?_ ?_ t h;intro i j b d;simp[pW]at a;split at a;rename_i p q k o;rw[k]at b;cases b;simp at a;exact CY a.1 _ d;simp at a;simp[pW]at a;grind;exact v<|.V' _ t h;refine v<|.VP ?_ t h;intro i j b d;simp[pW,b]at a;exact CY a _ d;exact v<|.VX t h;refine v<|.Fe ?_ t h;intro i b;simp[pW,b]at a;exact yG a;exact v<|.V_ _ t h;exact v<|.VV _ t h
theorem ak.xO(i:Fits P F C)(b:F v=true)(h:RelA F f e g):ak P F C (jw F C) f (QI v e)<|QI v g:=by
 refine .I .bN λa p a c a=>?_;obtain⟨rfl,rfl⟩:=a;obtain⟨x,d,j,a⟩:=i.1 v b;rw[d];simp only[j];obtain a|⟨a,j,i,i,k⟩:=a;have:x.9.isNone=false:=by cases d:x.9<;>simp_all
 simp[this];exact .B<|.enter b<|h.B c;simp[a];refine .I (.K6 trivial) λa _ _ a _=>?_;rw[j,i];exact .I (k _ _ _<|(h.B c).B a) λ_ _ _ _ a=>.B<|.value a
theorem ak.qH(j:f i=some r):ak P F C (λg (a o:Loop)=>ek P F C g (.loop a)<|.loop o) f (QJ i)<|QJ r:=by
 refine .I (.m j) λg t u s k=>?_;cases k.1 with
 |loop b c d e h l i m n p q a=>exact .B<|.loop b c d e h l i m n p q a
 |_=>exact .O
theorem ak.K4(b:f i=some r)(j:RelA F f e g):ak P F C (jw F C) f (Dj i e)<|Dj r g:=by
 refine .I (.qH b) λd E G k q=>?_;cases q with
 |loop B A o hF c p m n z ca l y=>
  rw[p,<-j.T];split;exact .V<|.B<|.I _;rw[o,m,n];refine .B<|.round (k _ _ b) hF ?_ ca l;have u:∀(a:List Tmp)(i r:List _)(t h:Array _),bM F d i r->RelA F d t h->RelA F d ((a.zip i).foldl (λtmps x=>tmps.setIfInBounds x.1 x.2) t) ((a.zip r).foldl (λtmps x=>tmps.setIfInBounds x.1 x.2) h):=by
   intro a;induction a with
   |nil=>simp_all
   |cons D a v=>
    intro i r t h b c;cases b with
    |nil=>simpa using c
    |cons s w=>simpa using v _ _ _ _ w<|c.Z _ s
  rw[<-Du,<-Du,Array.toList_zip,Array.toList_zip];exact u _ _ _ _ _ (j.B k) c
def sr(F:bw->Bool)(f:Ren)(a b:cL->aq):Prop:=∀x,fF F x=true->av F f (a x) (b x)
theorem ak.VY(E:Fits P F C){i:Call}(q:i.operands.all (fF F)=true)(v:(match i.1 with| .value _=>true| .builtin h=>pW P h i.3| .invoke _ _=>false)=true)(t:bB){m n:cL->aq}(u:sr F f m n):
  ak P F C (jw F C) f (do let d<-resolve m i t;invoke d.1 d.2) (do let d<-resolve n i t;invoke d.1 d.2):=by
 obtain⟨z,r,s⟩:=i;have B:RelA F f (r.map m)<|r.map n:=by
  refine bM.dz af λM K L b c=>?_;simp only[Hy,nI,mR]at b c;obtain⟨x,j,rfl⟩:=b;obtain⟨N,y,rfl⟩:=c;rw[j]at y;cases y;refine u x ?_;simp only[QK,rW]at q;exact q x<|mP.2<|.inr<|aV<|cA j
 cases z with
 |invoke _ _=>simp at v
 |builtin h=>
  refine .I (.B (A:=λo (d a:qh)=>∃cs,d.1=.builtin h s t cs∧a.1=.builtin h s t cs∧RelA F o d.2 a.2) ⟨_,rfl,rfl,aa⟩) λo d a w l=>?_;obtain⟨cs,b,c,k⟩:=l;rw[b,c];exact .cl v t _ k
 |value x=>
  have j:=u x (by
   simp only[QK,rW]at q
   grind)
  unfold resolve;simp only;generalize m x=K at j;generalize n x=L at j;cases j<;>first|exact .O|exact .V _|skip
  rename_i o O Q cs e G I D;refine .I (.B (A:=λg (d a:qh)=>(∃cs e,d.1=.fn _ cs∧a.1=.fn _ e∧RelA F g cs e)∧RelA F g d.2 a.2) ⟨⟨_,_,rfl,rfl,D⟩,RelA.I I aa⟩) λg d a w l=>?_;obtain⟨⟨cs,e,b,c,p⟩,k⟩:=l;rw[b,c];exact .xO E G<|k.I p;rename_i J h H;refine .I (.B (A:=λg (d a:qh)=>(∃cs e,d.1=.fn _ cs∧a.1=.fn _ e∧g J=some h)∧RelA F g d.2 a.2) ⟨⟨_,_,rfl,rfl,H⟩,aV B⟩) λg d a w l=>?_;obtain⟨⟨cs,e,b,c,p⟩,k⟩:=l;rw[b,c];exact .K4 p k
theorem ak.VO(u:av F f a b):ak P F C (av F) f (QL a)<|QL b:=by
 cases u<;>first|exact .O|skip
 rename_i l h p;obtain⟨J,off,L⟩:=l;cases off with
 |succ D=>exact .O
 |zero=>
  refine .I (.m p) λy E G A s=>?_;cases s.1 with
  |iter r K seen last=>
   simp only;cases seen.back? with
   |none=>exact .O
   |some c=>
    refine .I (.m r) λz H I B t=>?_;cases t.1 with
    |map m q=>
     rename_i i j;by_cases k:(m != last)=true;simp[k];exact .V<|.B<|.I _;simp only[if_neg k];have n:i.find? (λe=>e.3==c)=i.1.find? (λe=>e.3==c):=af
     have o:j.find? (λe=>e.3==c)=j.1.find? (λe=>e.3==c):=af
     rw[n,o];obtain⟨d,g⟩|⟨e,x,d,g,v,w⟩:=(cG.m (λh=>h==c) q);rw[d,g];exact .O;rw[d,g];exact .B<|.tuple<|.cons v<|.cons w .nil
    |_=>first|exact .O|exact .never<|.of_first<|.halt _
  |_=>first|exact .O|exact .never<|.of_first<|.halt _
theorem GG{a b:cL->aq}:∀ {ps:List (Nat×cL)},(∀x,x∈ps.map (·.2)->av F f (a x) (b x))->
  (ps.map λx=>(x.1,a x.2)).map (·.1)=(ps.map λx=>(x.1,b x.2)).map (·.1)∧bM F f ((ps.map λx=>(x.1,a x.2)).map (·.2)) ((ps.map λx=>(x.1,b x.2)).map (·.2))
 | [],_=>⟨rfl,.nil⟩
 |p::ps,h=>by
  have a:=(GG (ps:=ps) (λx b=>h x (by grind))).2;exact⟨af,.cons (h _ af) a⟩
theorem CK{a b:cL->aq}{o:Option cL}(h:∀x,o=some x->av F f (a x) (b x)):lI F f (o.map a)<|o.map b:=by
 cases o with
 |none=>exact .inl af
 |some x=>exact .inr ⟨_,_,rfl,rfl,h x rfl⟩
theorem GF{a b:cL->aq}(h:∀x,x∈d9->av F f (a x) (b x)):RelA F f (d9.map a)<|d9.map b:=by
 refine bM.dz af λi v a a b=>?_;simp only[Hy,nI,mR]at a b;obtain⟨x,c,rfl⟩:=a;obtain⟨a,a,rfl⟩:=b;rw[c]at a;cases a;exact h x<|aV<|cA c
theorem ak.K2(I:Fits P F C){o:bG}(b:jh P F o.2=true){g h:cL->aq}(B:sr F f g h):ak P F C (jw F C) f (xd g o) (xd h o):=by
 have v:∀ {s e:cm aq},ak P F C (av F) f s e->ak P F C (jw F C) f (do cD (zS (<-s))) (do cD (zS (<-e))):=
  λw=>.I w λ_ _ _ _ a=>.B (.value a)
 have u:∀ {s e:cm Unit},ak P F C (λ_ _ _=>True) f s e->ak P F C (jw F C) f (do s;cD tR) (do e;cD tR):=
  λw=>.I w λ_ _ _ _ _=>.B .skip
 obtain⟨O,op,ty,pos,N,R⟩:=o;unfold jh at b;rw[j_]at b;obtain⟨r,b⟩:=b;simp only[rW]at r;have arg:∀x,x∈op.operands->av F f _ _:=λx a=>B x (r x a);unfold xd;cases op with
 |move x=>exact .B (.value (arg x (by simp[c0])))
 |assign x=>exact .B (.value (arg x (by simp[c0])))
 |pick z d n=>
  refine .Y (.qL (arg z (by simp[c0]))) λq M c=>?_;cases M;exact .B (.value ((arg n (by simp[c0])).B c));exact .B (.value ((arg d (by simp[c0])).B c))
 |alloc t=>exact v (.VS t (Df b))
 |box t x=>exact v (.V0 t (arg x (by simp[c0])))
 |load t x=>exact v (.WJ t (arg x (by simp[c0])))
 |store t d x=>exact u (.Te t (arg d (by simp[c0])) (arg x (by simp[c0])))
 |binOp op t x y ty=>
  rcases(Ag _ _).mp b with b|b
  refine v (.I (.Wn b x y (arg x (by simp[c0])) (arg y (by simp[c0]))) λq _ _ c _=>?_);exact .VR b ((arg x (by simp[c0])).B c) ((arg y (by simp[c0])).B c);refine v (.I (.TD (Gg b).1 (Gg b).2.2 x y (arg x (by simp[c0])) (arg y (by simp[c0]))) λq _ _ c _=>?_);exact .sJ b ((arg x (by simp[c0])).B c) ((arg y (by simp[c0])).B c)
 |makeInterface t x=>exact v (.Sq t (arg x (by simp[c0])))
 |field t x k=>exact v (.VN t (arg x (by simp[c0])) k)
 |panic x=>exact v .VL
 |build t ps=>
  exact v (.VQ (Df b) af (aV ((GG (ps:=ps.1) (λx a=>arg x (by simpa[c0]using a))).2)))
 |buildSlice t L ps=>
  exact v (.TF (CY b) L af (aV ((GG (ps:=ps.1) (λx a=>arg x (by simpa[c0]using a))).2)))
 |nilCheck x=>
  have a:=arg x (by simp[c0]);simp only;generalize g x=d at a⊢;generalize h x=j at a⊢;cases a<;>first|exact .V (lO _)|exact .B (.value (by constructor<;>assumption))
 |unOp op t x=>
  have a:=arg x (by simp[c0]);cases op<;>first|(simp at b;done)|exact v (.VZ a)|skip
  apply v;generalize g x=d at a;generalize h x=j at a;cases a<;>first|exact .O|exact .B (.bool _)
 |convert s t x=>
  apply v;have a:=arg x (by simp[c0]);refine .U (.T s) λq l c D=>?_;refine .U (.T t) λE A J H=>?_;simp only at b;rw[D,H]at b;replace a:=(a.B c).B J;generalize g x=d at a;generalize h x=j at a;cases l<;>first|(simp at b;done)|skip
  cases A<;>first|(simp at b;done)|skip
  cases a<;>first|exact .O|exact .B (.int _ _)
  rename_i p;cases A<;>first|(simp at b;done)|skip
  simp only at b;have main:ak P F C (av F) E (do match<-ry p with| .int .u8=>HF d| .int .i32=>QM d|_=>stuck "Convert: a slice of what to string?")
    (do match<-ry p with| .int .u8=>HF j| .int .i32=>QM j|_=>stuck "Convert: a slice of what to string?"):=by
   refine .U (.T p) λQ l K G=>?_;rw[G]at b;cases l<;>first|(simp at b;done)|skip
   rename_i k;cases k<;>first|(simp at b;done)|exact .Su (a.B K)
  cases a<;>first|exact .O|exact main|exact .B (.string _)|(dsimp only[Conv.intToString];exact .pure' (.string _))
 |makeFunc fn W cs=>
  cases fn<;>first|(simp at b;done)|skip
  refine v (.B (.fn ?_ (GF λx a=>arg x (by simp[c0,a])) (GF λx a=>arg x (by simp[c0,a]))));omega
 |makeMap t V=>exact v (.Tg t (CK λx a=>arg x (by simp[c0,a])))
 |slice t x T S U=>
  exact v (.Tf t (arg x (by simp[c0])) (CK λx a=>arg x (by simp[c0,a])) (CK λx a=>arg x (by simp[c0,a])) (CK λx a=>arg x (by simp[c0,a])))
 |fieldAddr s x k=>exact v (.cc (Xk b) (arg x (by simp[c0])))
 |indexAddr t x i=>exact v (.Th t (arg x (by simp[c0])) (arg i (by simp[c0])))
 |index t x i=>exact v (.VM t (arg x (by simp[c0])) (arg i (by simp[c0])))
 |lookup t x i ok=>exact v (.co (yG b) (arg x (by simp[c0])) (arg i (by simp[c0])) _)
 |mapUpdate t m k x=>exact u (.KI (yG b) (arg m (by simp[c0])) (arg k (by simp[c0])) (arg x (by simp[c0])))
 |insert t m k x=>exact u (.KI (yG b) (arg m (by simp[c0])) (arg k (by simp[c0])) (arg x (by simp[c0])))
 |mapEntry t m k=>exact v (.S8 (yG b) (arg m (by simp[c0])) (arg k (by simp[c0])))
 |entryStore t m s x=>exact u (.TE t (arg m (by simp[c0])) (arg s (by simp[c0])) (arg x (by simp[c0])))
 |range t x=>
  refine v (.VK t (arg x (by simp[c0])) λl D=>?_);grind
 |next x n=>
  cases n;exact v (.VU (arg x (by simp[c0])) _);simp at b
 |entry x=>exact v (.VO (arg x (by simp[c0])))
 |extract x i=>exact v (.V9 (arg x (by simp[c0])) i)
 |call z=>
  refine .VY I (by simp only[rW];exact λx a=>r x (by simpa[c0]using a)) ?_ _ B;grind
 |_=>simp at b
end
section
variable{α α' β β':Type}{P:bj}{F:bw->Bool}{C:eN->Bool}{f:Ren}{w w':ag}
theorem ak.TJ(t:∀e,P.underlying d=some (.slice e)->oP P F e)(r:av F f a b)(s:av F f p q):ak P F C (av F) f (QN d a p) (QN d b q):=by
 refine .U (.T d) λg k j o=>?_;cases k<;>first|exact .O|skip
 rename_i e;dsimp only;refine .Y (.nd (r.B j)) λy Q m=>?_;refine .Y (.nd ((s.B j).B m)) λB x I=>?_;refine .U (.cB e) λD N J M=>?_;split;split;exact .V (.B (lO _));split;exact .V (.B (lO _));exact .V (.O (.T _) λ_=>.B (lO _));refine .I (.EJ _) λE _ _ K _=>?_;refine .Z (jk e) λG O L=>?_;split;exact .I (.B (A:=λg c h=>RelA F g c h) .U) λl z w _ u=>.I (.lK e (CI u _)) λ_ _ _ _ i=>.B (.I i _ _);refine .U (.ac (t e o)) λl z _ n=>?_;exact .I (.B (A:=λg c h=>RelA F g c h) (n.B _)) λH z w _ v=>.I (.lK e (CI v _)) λ_ _ _ _ i=>.B (.I i _ _)
theorem ak.KJ:∀(n) (c:ByteArray){f:Ren}{a b:bC},b_ f a b->ak P F C (λ_ x h=>x=h) f (HJ a c n) (HJ b c n)
 |0,c,f,a,b,_=>.B rfl
 |n+1,c,f,a,b,d=>by
  refine .I (.Bi d) λj v l e g=>?_;cases g with
  |int k i=>cases k<;>first|exact .O|exact ak.KJ n _<|(d.B e).I 1
  |_=>exact .O
theorem ak.AZ{a b:bC}(c:b_ f a b)(u:bB)(n):ak P F C (λ_ x d=>x=d) f (HL a u n)<|HL b u n:=by
 refine .I .bN λg p d d e=>?_;obtain⟨rfl,rfl⟩:=e;have e:b.2=a.2:=by obtain⟨b,_,rfl⟩:=c;rfl
 refine .Y (.an<|c.B d) λa s _=>?_;rw[e];cases s<;>exact .B rfl
def BK(off n:Nat):bI->bI
 | .cells c d (b,a)=>.cells c d (if b==a then(off,off+n)else(min b off,max a (off+n)))
 |o=>o
theorem FD(w:ag)(a:bC)(n):w.freeze a n=if n=0 then w else{w with heap:=w.1.modify a.1 (BK a.2 n)}:=by
 unfold Dy;split;rfl
 congr 2
theorem XN(a n)(h:ek P F C f z M):ek P F C f (BK a n z)<|BK a n M:=by
 cases h with
 |cells e fr h=>exact .cells e _ h
 |map c h=>exact .map c h
 |wm a b c=>exact .wm a b c
 |iter h a b c=>exact .iter h a b c
 |loop a b c d e k l m n p q r=>exact .loop a b c d e k l m n p q r
 |xZ=>exact .xZ
 |v_=>exact .v_
 |number h l=>exact .number h l
 |view h a=>exact .view h a
theorem ak.WK{c a:bC}(h:b_ f c a)(n):ak P F C (λ_ _ _=>True) f (zv c n)<|zv a n:=by
 refine⟨?_,λw w' d b=>⟨af,λx w1 e a=>?_⟩⟩;rotate_left;obtain⟨⟨_,rfl⟩,rfl⟩:=a;refine⟨?_,?_,λT _=>?_⟩;unfold Dy;grind;unfold Dy;grind;simp only[zv,jQ];unfold Dy;grind;intro w w' d d b x w1 e a;obtain⟨⟨_,rfl⟩,rfl⟩:=a;obtain⟨g,d,rfl⟩:=h;by_cases a:n=0;refine⟨f,(),w',#[],?_,?_,.B _ _,trivial,af⟩;simp only[zv,jQ,Dy,if_pos a,Js];rw[FD,if_pos a];exact b;obtain⟨o,e,h,e,i⟩:=b.3 _ _ d;rw[FD,if_neg a];refine⟨f,(),{w' with heap:=w'.1.modify g (BK c.2 n)},#[],?_,?_,?_,trivial,af⟩;simp only[zv,jQ,FD,if_neg a,Js];exact b.U d (XN _ n i) (yH _ _ _ _ h) (yH _ _ _ _ e) rfl rfl rfl rfl;exact km.O d (yH _ _ _ _ e) rfl rfl rfl
theorem ak.cv(ts:Array bB)(t:bB)(a:RelA F f e g):ak P F C (av F) f (QO ts t e)<|QO ts t g:=by
 obtain⟨l⟩:=e;obtain⟨b⟩:=g;unfold RelA at a;cases a with
 |nil=>exact .O
 |cons i a=>
  cases a with
  |nil=>cases i<;>exact .O
  |cons b a=>
   cases a with
   |cons _ _=>cases i<;>exact .O
   |nil=>
    cases i<;>first|exact .O|skip
    all_goals(refine .Y (.nd b) λg n h=>?_;cases ts[0]?;exact .O;dsimp only;split;exact .V (.B (lO _));split;exact .V (.B (.I _));split;exact .B (.string _))
    exact .V (lO _);refine .Z (Ph _) λd e c=>?_;refine .Y (.AZ ⟨_,c _ _ (h _ _ ‹_›),rfl⟩ e _) λg q j=>?_;split;refine .Y (.KJ _ _ ⟨_,j _ _ (c _ _ (h _ _ ‹_›)),rfl⟩) λp s k=>?_;exact .I (.WK ⟨_,k _ _ (j _ _ (c _ _ (h _ _ ‹_›))),rfl⟩ _) λ_ _ _ _ _=>.B (.string _);exact .O
def uF(P:bj):Nat->bB->Bool
 |0,_=>true
 |d+1,t=>
  match P.underlying t with
  |some (.struct a)=>a.all λx=>uF P d x.2
  |some (.array _ e)=>uF P d e
  |some (.float _)|some (.complex _)=>false
  |_=>true
theorem zf:∀(d) (t:bB),uF P d t=true->∀k v,plainCell P d t k=some v->oL v
 |0,_,_,k,v,h=>by simp[plainCell]at h
 |d+1,t,a,k,v,h=>by
  unfold plainCell at h;unfold uF at a;cases b:P.underlying t with
  |none=>rw[b]at h;cases h
  |some c=>
   rw[b]at h a;cases c with
   |struct b=>
    obtain⟨x,c,b⟩:=Array.exists_of_findSome?_eq_some h;split at b;exact zf d _ ((rW.1 a) x c) _ _ b;cases b
   |array n e=>
    simp only at h a;split at h;cases h;exact zf d e a _ _ h
   |bool=>simp only at h;split at h<;>cases h;trivial
   |int k=>simp only at h;split at h<;>cases h;trivial
   |float k=>cases a
   |complex k=>cases a
   |_=>cases h
def AW(P:bj)(t:bB):Prop:=∀k v,plainCell P P.depth t k=some v->oL v
theorem ak.EI{a b:bC}(c:b_ f a b)(e:AW P d):ak P F C (av F) f (do cD (zt (some ⟨<-qj (.view a d),0,none⟩))) (do cD (zt (some ⟨<-qj (.view b d),0,none⟩))):=by
 obtain⟨b,b,rfl⟩:=c;exact .I (.mr (.view b e)) λg r b _ b=>.B (.ptr (a:=⟨r,0,_⟩) b)
theorem ak.Ws(a:f i=some r):ak P F C (λ_ b c=>b=c) f (HM i)<|HM r:=by
 refine .Y (.oQ a) λg s b=>?_;cases s with
 |some s=>exact .B rfl
 |none=>
  refine .I (.m<|b _ _ a) λa o a _ a=>?_;cases a.1<;>exact .B rfl
theorem ak.K_{a b:bC}(e:b_ f a b):ak P F C b_ f (QP a)<|QP b:=by
 have i:b.2=a.2∧b.3=a.3:=by obtain⟨d,_,rfl⟩:=e;exact⟨rfl,rfl⟩
 have j:ak P F C (λh a b=>(a=none∧b=none)∨∃x c u,a=some (x,u)∧b=some (c,u)∧b_ h x c) f (Ad a.1)<|Ad b.1:=by
  obtain⟨d,g,rfl⟩:=e;exact .tZ g
 refine .I j λh s b h j=>?_;obtain⟨rfl,rfl⟩|⟨x,c,u,rfl,rfl,b⟩:=j;exact .B<|e.B h;have e:c.2=x.2∧c.3=x.3:=by obtain⟨d,_,rfl⟩:=b;exact⟨rfl,rfl⟩
 dsimp only;rw[i.1,i.2,e.1,e.2];split;exact .B b;split;exact .V<|.B<|.I _;refine .I .bN λc p c c e=>?_;obtain⟨rfl,rfl⟩:=e;cases byteOfCell P P.depth u a.2 with
 |none=>exact .O
 |some B=>
  refine .Y (.an<|b.B c) λa s a=>?_;cases s with
  |none=>exact .O
  |some s=>
   obtain⟨e,cells⟩:=s;simp only;split;exact .V<|.B<|.I _;cases cellAtBytes P P.depth e _ x.2 B with
   |none=>exact .O
   |some e=>
    obtain⟨d,g,rfl⟩:=b;exact .B ⟨d,a _ _<|c _ _ g,rfl⟩
theorem ak.adK(A:P.underlying b9=some (.pointer d))(B:P.underlying d1=some .unsafePointer)(D:AW P d)(j:av F f a b):ak P F C (av F) f (HN b9 d1 a)<|HN b9 d1 b:=by
 refine .U (.T b9) λE s w c=>?_;rw[A]at c;cases dw c;refine .U (.T d1) λG s x c=>?_;rw[B]at c;cases dw c;replace j:=(j.B w).B x;cases j<;>first|exact .O|exact .B .nw|skip
 rename_i k h i;refine .I (.K_ ⟨h,i,rfl⟩) λt q e I g=>?_;have n:e.2=q.2∧e.3=q.3:=by obtain⟨h,_,rfl⟩:=g;exact⟨rfl,rfl⟩
 have v:ak P F C (λ_ k r=>k=r) t (HM q.1)<|HM e.1:=by
  obtain⟨h,i,rfl⟩:=g;exact .Ws i
 refine .I v λu o K l y=>?_;subst y;rw[n.1,n.2]
 have p:∀z:Bool,ak P F C (av F) u (do
   if(<-sizeOf d)=0||z then cD (.pointer<|some ⟨<-qj (.view q d),0,none⟩)else cD<|.pointer<|some q) (do
   if(<-sizeOf d)=0||z then cD (.pointer<|some ⟨<-qj (.view e d),0,none⟩)else cD<|.pointer<|some e):=by
  intro z;refine .Z (jk d) λH J m=>?_;split;exact .EI ((g.B l).B m) D;exact .B<|.T<|(g.B l).B m
 cases o with
 |none=>exact p _
 |some o=>exact p _
theorem ak.zN(x:P.underlying b9=some .unsafePointer)(y:P.underlying d1=some (.pointer d))(A:AW P d)(k:av F f a b):ak P F C (av F) f (HN b9 d1 a) (HN b9 d1 b):=by
 refine .U (.T b9) λG o v e=>?_;rw[x]at e;cases dw e;refine .U (.T d1) λH o w e=>?_;rw[y]at e;cases dw e;replace k:=(k.B v).B w;cases k<;>first|exact .O|exact .B .nw|skip
 rename_i E m u;refine .I (.K_ ⟨m,u,rfl⟩) λp q l M h=>?_
 have n:∀ {g:Ren},p.O g->ak P F C (av F) g (do
   match<-w_ q.1 with
   |some (d,_)=>
    if(<-qi).holdsStoodIn (<-qi).depth d then unsupported (.unsafePointer "memory that holds a struct of a package that the model stands in for, seen as another type")
   |none=>unsupported (.unsafePointer "memory that has no shape (a package-level variable that still waits for its initialiser), seen as another type")
   cD (.pointer (some ⟨<-qj (.view q d),0,none⟩))) (do
   match<-w_ l.1 with
   |some (d,_)=>
    if(<-qi).holdsStoodIn (<-qi).depth d then unsupported (.unsafePointer "memory that holds a struct of a package that the model stands in for, seen as another type")
   |none=>unsupported (.unsafePointer "memory that has no shape (a package-level variable that still waits for its initialiser), seen as another type")
   cD (.pointer (some ⟨<-qj (.view l d),0,none⟩))):=by
  intro g c;refine .Y (.an (h.B c)) λJ z r=>?_;cases z with
  |none=>exact .V (.B (.I _))
  |some z=>
   refine .I .bN λK B D s j=>?_;obtain⟨rfl,rfl⟩:=j;refine .I .bN λL B D t j=>?_;obtain⟨rfl,rfl⟩:=j;split;exact .V (.B (.I _));exact .EI ((((h.B c).B r).B s).B t) A
 refine .Z (jk d) λI N i=>?_;refine .Y (.AZ (h.B i) d 1) λg z c=>?_;split;exact .B (.T ((h.B i).B c));exact n (Ren.B i c)
theorem ak.ud{A:Ren->α->α'->Prop}{s:cm α}{a:cm α'}(h:∀w,lA P.globals w->∀c,∃q b,s.runT P w c=(.halt q w,b)∧mW q):ak P F C A f s a:=by
 refine⟨λw w' c a d e w1 b a=>?_,λw w' c d=>⟨λq w1 b a=>?_,λe w1 b a=>?_⟩⟩<;>obtain⟨q,b,b,c⟩:=h w d.2.1 _<;>rw[b]at a;grind;cases a;exact⟨c,d.O⟩;cases a
theorem Mo(b:i<P.globals)(c:lA P.globals k)(a:Array gY):(Aa ⟨i,0,none⟩).runT P k a=(.halt (.stuck "load: no such cell") k,a):=by
 simp only[Aa,jQ,gK,Hj,Jd,(c i b),lj]
variable{g4:Ren->aq->aq->Prop}
theorem ak.Td(b:i<P.globals)(c:P.underlying d=some (.int .i64)){a:cm aq}:ak P F C g4 f (xB d<|.pointer<|some ⟨i,0,none⟩) a:=by
 refine .ud λw e a=>⟨.stuck "load: no such cell",a,?_,zo⟩;unfold xB xA Hn QQ ry;simp only[runT_bind',qi,jQ,c];exact Mo b e _
theorem ak.ct(t:bB):ak P F C (λ_ a b=>a=b∧P.underlying t=some (.pointer a)) f (HP t)<|HP t:=by
 refine .U (.T t) λg d _ a=>?_;cases d<;>first|exact .O|exact .B ⟨rfl,a⟩
theorem ak.EG(q:∀c,P.underlying d=some (.pointer c)->AW P c)(m:RelA F f e g):ak P F C (av F) f (QR A d e)<|QR A d g:=by
 obtain⟨u⟩:=e;obtain⟨v⟩:=g;cases m with
 |nil=>exact .O
 |cons j r=>
  cases r with
  |cons _ _=>cases j<;>exact .O
  |nil=>
   cases j<;>first|exact .O|exact .B .nw|skip
   rename_i a b w i h
   show ak P F C (av F) f (do
    if i≠0 then cD<|zt<|some a
    else if(<-Ad a.1).isSome then cD<|.pointer<|some a
    else cD<|.pointer<|some ⟨<-qj (.view a<|<-HP d),0,none⟩) (do
    if i≠0 then cD<|zt<|some {a with block:=b}
    else if(<-Ad b).isSome then cD<|.pointer<|some {a with block:=b}
    else cD<|.pointer<|some ⟨<-qj (.view {a with block:=b}<|<-HP d),0,none⟩)
   by_cases k:i≠0;simp[if_pos k];exact .B<|.ptr h;simp[if_neg k];refine .I (.tZ h) λs x y l p=>?_;obtain⟨rfl,rfl⟩|⟨e,g,z,rfl,rfl,m⟩:=p;refine .U (.ct d) λt c n o=>?_;exact .EI ⟨_,n _ _<|l _ _ h,rfl⟩<|q c o;exact .B<|.ptr<|l _ _ h
theorem ak.ce(a:RelA F f e g):ak P F C (av F) f (Er e)<|Er g:=by
 obtain⟨l⟩:=e;obtain⟨b⟩:=g;cases a with
 |nil=>exact .O
 |cons a b=>
  cases b with
  |nil=>exact .B a
  |cons _ _=>exact .O
theorem ak.qI:∀(n) (c:ByteArray){f:Ren}{a b:bC},b_ f a b->ak P F C (λ_ x h=>x=h) f (QS a n c) (QS b n c)
 |0,c,f,a,b,_=>.B rfl
 |n+1,c,f,a,b,d=>by
  refine .I (.Bi d) λj v l e g=>?_;cases g with
  |int k i=>cases k<;>first|exact .O|exact ak.qI n _<|(d.B e).I 1
  |_=>exact .O
theorem ak.iO(g:av F f a b):ak P F C (λ_ c d=>c=d) f (QT a)<|QT b:=by
 cases g<;>first|exact .O|exact .B rfl|skip
 rename_i e;exact .qI _ _ ⟨_,e,rfl⟩
theorem ak.vZ(e:av F f a b):ak P F C (λ_ c d=>c=d) f (QU a)<|QU b:=by
 cases e<;>first|exact .O|skip
 rename_i k n;cases k<;>first|exact .O|exact .B rfl
theorem ak.dv(a:RelA F f e g):ak P F C (av F) f (Es e)<|Es g:=by
 obtain⟨l⟩:=e;obtain⟨b⟩:=g;cases a with
 |nil=>exact .O
 |cons b a=>
  cases a with
  |nil=>exact .O
  |cons c a=>
   cases a with
   |cons _ _=>exact .O
   |nil=>
    refine .Y (.iO b) λa s a=>?_;refine .Y (.iO<|c.B a) λa u _=>?_;exact .B<|.int _ _
theorem ak.be(a:RelA F f e g):ak P F C (av F) f (Et e)<|Et g:=by
 obtain⟨l⟩:=e;obtain⟨b⟩:=g;cases a with
 |nil=>exact .O
 |cons b a=>
  cases a with
  |nil=>exact .O
  |cons c a=>
   cases a with
   |cons _ _=>exact .O
   |nil=>
    refine .Y (.iO b) λa s a=>?_;refine .Y (.vZ<|c.B a) λa u _=>?_;split<;>exact .B<|.int _ _
theorem ak.S9(a:RelA F f e g):ak P F C (av F) f (Eu e)<|Eu g:=by
 obtain⟨l⟩:=e;obtain⟨b⟩:=g;cases a with
 |nil=>exact .O
 |cons b a=>
  cases a with
  |nil=>exact .O
  |cons d a=>
   cases a with
   |cons _ _=>exact .O
   |nil=>
    refine .Y (.iO b) λc s a=>?_;refine .Y (.iO<|d.B a) λa u _=>?_;refine .I (A:=λ_ a b=>a=b) (.ud λw h a=>?_) λb m b _ d=>?_;unfold aez Go.globalAddr;simp only[runT_bind',qi,jQ];cases b:P.globals.findIdx? (·.1== "internal/bytealg.MaxLen")with
    |none=>exact⟨_,a,rfl,zo⟩
    |some c=>
     simp only[cD,jQ];rw[Mo (by have:=Array.findIdx?_eq_some_iff_getElem.1 b;grind) h _];exact⟨_,a,rfl,zo⟩
    subst d;by_cases c1:(decide (u.size<2)||decide ((u.size:Int) >m))=true;simp only[if_pos c1];exact .V<|.B<|.I _;simp only[if_neg c1];by_cases c2:s.size>=2^32- 15;simp[if_pos c2];exact .V<|.B<|.I _;simp[if_neg c2];split<;>exact .B<|.int _ _
theorem Mq:∀(n t) {a:Array aq},RelA F f a a->RelA F f (QV n t a) (QV n t a)
 |0,_,_,h=>h
 |n+1,_,_,h=>Mq n _<|h.bN<|.int _ _
theorem ak.Ss(c a:Array bB)(j:RelA F f e g):ak P F C (av F) f (Dk c a e)<|Dk c a g:=by
 obtain⟨x⟩:=e;obtain⟨y⟩:=g;cases j with
 |nil=>exact .O
 |cons b m=>
  cases m with
  |cons _ _=>cases b<;>first|exact .O|(rename_i k n;cases k<;>exact .halt)
  |nil=>
   cases b<;>first|exact .O|skip
   rename_i k n;cases k<;>first|exact .O|skip
   unfold Dk;cases a[0]? with
   |none=>exact .O
   |some t=>
    refine .U (.T t) λq d w v=>?_;cases d<;>first|exact .O|skip
    simp only;split;exact .V<|.B<|lO _;refine .I .oV λr o p _ i=>?_;subst i;refine .I (.EJ _) λs _ _ _ _=>?_;refine .I .oV λu z A _ l=>?_;subst l;exact .I (.lK _<|Mq _ _ .U) λ_ _ _ _ h=>.B<|.I h _ _
end
end
section
theorem ac7{a:Array Field}(h:QW g3 a=some a7):a7.10= #[]:=by
 unfold QW at h;simp only[bind,Ah]at h;grind
theorem abP(h:QX g3 e4=some a7):a7.10= #[]:=by
 unfold QX at h;cases e4<;>simp[Ah]at h;obtain⟨a,_,h⟩:=h;split at h;grind;split at h;grind;obtain⟨_,_,h⟩:=Ah.1 h;cases h;rfl;obtain⟨_,_,h⟩:=Ah.1 h;cases h;rfl;obtain⟨a,_,_,_,rfl⟩:=h;rfl;grind;obtain⟨a,_,_,_,_,_,_,_,rfl⟩:=h;rfl;obtain⟨a,_,_,_,rfl⟩:=h;rfl;exact ac7 h;obtain⟨_,_,rfl⟩:=h;rfl
theorem Zz(T:Tables):∀(n) (t:bB)(i:Jv),¬t<T.types->Jw T n t=some i->i.10= #[]
 |0,_,_,_,h=>by cases h
 |n+1,t,i,a,h=>by
  unfold Jw at h;rw[if_neg a]at h;obtain⟨d,_,h⟩:=Ah.1 h;exact abP h
def Cl(P:bj)(F:bw->Bool)(name:String):Bool:=
 P.types.all λi=>match i.10.find? (·.1==name)with
  |some m=>m.3.isEmpty&&(match m.4 with|some (g,true)=>F g|_=>false)
  |none=>true
section
variable{α α' β β':Type}{P:bj}{F:bw->Bool}{C:eN->Bool}{f:Ren}{w w':ag}
theorem ZQ(h:Cl P F a8=true)(a:P.info? d=some a7):
  a7.10.find? (·.1==a8)=none∨∃m g,a7.10.find? (·.1==a8)=some m∧m.3= #[]∧m.4=some (g,true)∧F g=true:=by
 by_cases b:d<P.types.size;have c:P.types[d]?=some a7:=by
  have:P.info? d=P.types[d]? :=if_pos b;rw[<-this];exact a
 have:=(rW.1 h) a7 (by grind);grind
 have:P.info? d=Jw _ _ d:=if_neg b;rw[this]at a;rw[Zz _ _ _ _ b a];grind
theorem ak.Mj(h:Cl P F a8=true)(n)(t:bB)(o:av F f a b):
  ak P F C (λg r d=>∃fn x c,r=(fn,x)∧d=(fn,c)∧F fn=true∧av F g x c) f (QY (n+1) t a a8)<|QY (n+1) t b a8:=by
 refine .U (.cB t) λg i m l=>?_;obtain n|⟨e,fn,e,i,j,k⟩:=ZQ h l;rw[n];exact .O;rw[e];simp only;rw[i,j];refine .I (.B (A:=λg (r d:bB×Place)=>∃x c,r=(t,.val x)∧d=(t,.val c)∧av F g x c) ⟨_,_,rfl,rfl,o.B m⟩) λe r d d d=>?_;obtain⟨x,c,rfl,rfl,e⟩:=d;refine .I (A:=av F) ?_ λc y c _ c=>.B ⟨fn,_,_,rfl,rfl,k,c⟩;refine .U (.T t) λc d c g=>?_;cases d<;>first|exact .O|exact .B<|e.B c
end
def more(P:bj)(F:bw->Bool)(o:bG):Bool:=
 match o.2 with
 | .load t (.global g)=>decide (g<P.globals.size)&&(match P.underlying t with|some (.int .i64)=>true|_=>false)
 | .makeSlice t l c=>fF F l&&fF F c&&uE P t
 | .convert s t x=>fF F x&&(match P.underlying s,P.underlying t with|some (.pointer e),some .unsafePointer=>uF P P.depth e|some .unsafePointer,some (.pointer e)=>uF P P.depth e|_,_=>false)
 | .call {callee:=.invoke recv name,args,..}=>fF F recv&&args.all (fF F)&&Cl P F name
 | .call {callee:=.builtin .unsafeString,args,..}=>args.all (fF F)
 | .call {callee:=.builtin .unsafeSliceData,args,..}=>args.all (fF F)&&(match P.underlying o.3 with|some (.pointer e)=>uF P P.depth e|_=>false)
 |_=>false
def lh(P:bj)(F:bw->Bool)(o:bG):Bool:=jh P F o.2||more P F o
section
variable{α α' β β':Type}{P:bj}{F:bw->Bool}{C:eN->Bool}{f:Ren}{w w':ag}
theorem yS{a b:cL->aq}(h:sr F f a b)(c:d9.all (fF F)=true):RelA F f (d9.map a)<|d9.map b:=
 GF λx a=>h x<|(rW.1 c) x a
theorem ak.vT(i:Fits P F C)(j:Cl P F a8=true)(n:av F f a b)(h:RelA F f e g):ak P F C (jw F C) f (HQ a a8 e)<|HQ b a8 g:=by
 cases n<;>first|exact .O|exact .V _|skip
 rename_i t w x m;refine .I .bN λp r s c k=>?_;obtain⟨rfl,rfl⟩:=k;refine .I (.Mj j _ t<|m.B c) λq u v d l=>?_;obtain⟨fn,y,z,rfl,rfl,hF,o⟩:=l;exact .xO i hF<|(RelA.ac o).I<|(h.B c).B d
theorem ak.Ta(A:Fits P F C){o:Oper}(a:more P F o=true){c d:Operand->Value}(i:sr F f c d)(hρ:∀p,c (.global p)= p):ak P F C (jw F C) f (Go.execOp c o)<|Go.execOp d o:=by
 have v:∀ {s G:Sem Value},ak P F C (av F) f s G->ak P F C (jw F C) f _ _:=
  λE=>.I E λ_ _ _ _ b=>.B<|.value b
 obtain⟨K,op,ty,pos,I,L⟩:=o;unfold more at a;dsimp only at a;unfold Go.execOp;split at a;simp at a;obtain⟨k,g⟩:=a;simp only;rw[hρ];refine v<|.Td k ?_;grind;simp at a;exact v<|.TJ (CY a.2) (i _ a.1.1)<|i _ a.1.2;rename_i s H x;simp[Bool.and_eq_true]at a;obtain⟨k,g⟩:=a;apply v;have b:=i _ k;refine .U (.T s) λp J B r=>?_;refine .U (.T H) λu z D m=>?_;replace b:=(b.B B).B D;rw[r,m]at g;split at g;rename_i n l q;cases l;cases q;have:=ak.adK (C:=C) (f:=u) r m (zf _ _ g) b;generalize c x=e at b this;generalize d x=w at b this;cases b<;>exact this;rename_i n l q;cases l;cases q;have:=ak.zN (C:=C) (f:=u) r m (zf _ _ g) b;generalize c x=e at b this;generalize d x=w at b this;cases b<;>exact this;cases g;rename_i j name h y;simp only[Bool.and_eq_true]at a;obtain⟨⟨k,g⟩,l⟩:=a
 show ak P F C _ f (do
  let some x:=(#[c j]++h.map c)[0]? |stuck "call: a method without a receiver"
  Go.callMethod x name<|(#[c j]++h.map c).extract 1 (#[c j]++h.map c).size) (do
  let some x:=(#[d j]++h.map d)[0]? |stuck "call: a method without a receiver"
  Go.callMethod x name<|(#[d j]++h.map d).extract 1 (#[d j]++h.map d).size)
 have n:∀(x:Value)(e:Array Value),(#[x]++e)[0]?=some x:=aJ
 have t:∀(x:Value)(e:Array Value),(#[x]++e).extract 1 (#[x]++e).size=e:=λx e=>by
  simp_all
 rw[n,n,t,t];exact .vT A l (i _ k)<|yS i g;rename_i h y;exact v<|.cv _ _<|yS i a;simp only[Bool.and_eq_true]at a;refine v<|.EG (λz m=>?_)<|yS i a.1;rw[m]at a;exact zf _ _ a.2;cases a
theorem ak.iA(b:Fits P F C){o:bG}(d:lh P F o=true){a c:cL->aq}(h:sr F f a c)(hρ:∀g,a (.global g)= g):ak P F C (jw F C) f (xd a o)<|xd c o:=
 (Ag _ _▸d:jh P F o.2=true∨more P F o=true).elim (λa=>.K2 b a h) λa=>.Ta b a h hρ
end
def cN(P:bj)(F:bw->Bool):eN->Bool
 | .skip| .label _| .ret| .exit _| .refuse _=>true
 | .region _ a _=>a.all λo=>lh P F o
 | .seq a b=>cN P F a&&cN P F b
 | .cond c a b=>fF F c&&(cN P F a&&cN P F b)
 | .block _ b| .loop b| .scope b=>cN P F b
 | .rangeFunc f _ a b=>fF F f&&(cN P F a&&cN P F b)
 | .goto _=>false
inductive nL(P:bj)(F:bw->Bool)(f:Ren):fJ->fJ->Prop
 |code {c:eN} (h:cN P F c=true):nL P F f (.code c) (.code c)
 |inBlock (id:Nat):nL P F f (.inBlock id) (.inBlock id)
 |inLoop {b:eN} (h:cN P F b=true):nL P F f (.inLoop b) (.inLoop b)
 |inScope (b:eN):nL P F f (.inScope b) (.inScope b)
 |inRegion {ops:Array bG} (todo:List Nat) (h:∀o∈ops,lh P F o=true):nL P F f (.inRegion ops todo) (.inRegion ops todo)
 |inRangeFunc {l b:Nat} (h:f l=some b):nL P F f (.inRangeFunc l) (.inRangeFunc b)
 |endRangeFunc {l b:Nat} (h:f l=some b):nL P F f (.endRangeFunc l) (.endRangeFunc b)
 |beginRound:nL P F f .beginRound .beginRound
inductive jS(P:bj)(F:bw->Bool)(f:Ren):List fJ->List fJ->Prop
 |nil:jS P F f [] []
 |cons {i i':fJ} {l l':List fJ} (h:nL P F f i i') (t:jS P F f l l'):jS P F f (i::l) (i'::l')
structure jv(P:bj)(F:bw->Bool)(f:Ren)(fr fr':az):Prop where
 fn:fr'.1=fr.1
 ok:F fr.1=true
 tmps:RelA F f fr.2 fr'.2
 todo:jS P F f fr.3 fr'.3
 defers:kp f fr.4 fr'.4
 mode:fr'.5=fr.5
 calm:fr.5=.run∨fr.5=.returning
 kind:fr.6=.normal∧fr'.6=.normal
 round:(fr.7=none∧fr'.7=none)∨∃l l',fr.7=some l∧fr'.7=some l'∧f l=some l'
inductive gR(P:bj)(F:bw->Bool)(f:Ren)(b0 base:List az):az->List az->az->List az->Prop
 |last {fr fr':az} (h:jv P F f fr fr') (hn:fr.7=none):gR P F f b0 base fr b0 fr' base
 |more {fr fr' c c':az} {cs cs':List az} (h:jv P F f fr fr') (t:gR P F f b0 base c cs c' cs'):gR P F f b0 base fr (c::cs) fr' (c'::cs')
section
variable{P:bj}{F:bw->Bool}{f g:Ren}
theorem nL.B(a:f.O g)(h:nL P F f h6 h7):nL P F g h6 h7:=by
 cases h with
 |code h=>exact .code h
 |inBlock id=>exact .inBlock _
 |inLoop h=>exact .inLoop h
 |inScope b=>exact .inScope b
 |inRegion t h=>exact .inRegion t h
 |inRangeFunc h=>exact .inRangeFunc<|a _ _ h
 |endRangeFunc h=>exact .endRangeFunc<|a _ _ h
 |beginRound=>exact .beginRound
theorem jS.B(a:f.O g):∀ {l b:List fJ},jS P F f l b->jS P F g l b
 |_,_,.nil=>.nil
 |_,_,.cons h t=>.cons (h.B a)<|jS.B a t
theorem jS.I(id):∀ {l a:List fJ},jS P F f l a->(Ai id l=none∧Ai id a=none)∨∃k b,Ai id l=some k∧Ai id a=some b∧jS P F f k b
 |_,_,.nil=>.inl ⟨rfl,rfl⟩
 |_,_,.cons h t=>by
  have a:=jS.I id t;cases h with
  |inBlock b=>
   simp only[Ai];grind
  |_=>simpa only[Ai]using a
theorem jv.U(a:f.O g)(h:jv P F f c l):jv P F g c l where
 fn:=h.1
 ok:=h.2
 tmps:=h.3.B a
 todo:=h.4.B a
 defers:=h.5.B a
 mode:=h.6
 calm:=h.7
 kind:=h.8
 round:=h.9.elim .inl λ⟨i,j,b,d,e⟩=>.inr ⟨i,j,b,d,a _ _ e⟩
theorem gR.O(a:f.O g){b0 base:List az}:∀ {fr c:az}{cs b:List az},gR P F f b0 base fr cs c b->gR P F g b0 base fr cs c b
 |_,_,_,_,.last h b=>.last (h.U a) b
 |_,_,_,_,.more h t=>.more (h.U a)<|gR.O a t
theorem gR.B{b0 base:List az}{fr fr':az}{cs cs':List az}(h:gR P F f b0 base fr cs fr' cs'):jv P F f fr fr':=by cases h<;>assumption
theorem gR.I(b:gR P F f h o l h0 i8 h1)(a:jv P F f c h8)(d:c.7=l.7):gR P F f h o c h0 h8 h1:=by
 cases b with
 |last _ b=>exact .last a<|d.trans b
 |more _ t=>exact .more a t
theorem av.O:av F f aj aj:=.tuple .nil
theorem jv.T(h:jv P F f c l):sr F f c.eval l.eval:=by
 intro x a;cases x with
 |tmp t=>exact h.3.Y t .O
 |const v=>exact CB a f
 |global g=>simp[fF]at a
 |func g=>exact .fn a .nil .nil
theorem jv.B{fr fr':az}(h:jv P F f fr fr'){v a:aq}(c:av F f v a):jv P F f (fr.finish v)<|fr'.finish a:=by
 obtain⟨fn,tmps,todo,defers,mode,kind,round⟩:=fr;obtain⟨a,a,a,a,a,a,a⟩:=fr'
 cases h.4 with
 |nil=>exact h
 |cons a t=>
  cases a with
  |inRegion a b=>
   cases a with
   |nil=>exact h
   |cons i a=>
    refine{h with tmps:=?_,todo:=.cons (.inRegion _ b) t};show RelA F f (match(_:Option Tmp)with|some d=>_|none=>_) (match(_:Option Tmp)with|some d=>_|none=>_);split;exact h.3.Z _ c;exact h.3
  |inRangeFunc a=>exact{h with todo:=.cons (.endRangeFunc a) t}
  |beginRound=>exact{h with todo:=t}
  |_=>exact h
theorem GN(p:bj)(fn:bw)(a:Array gY)(e:gY)(h:e∈seen p fn a):e∈a:=by
 have b:∀(l:List gY)(q:Bool×Array gY),(∀e∈q.2,e∈a)->(∀e∈l,e∈a)->∀e∈(l.foldl (λ(x:Bool×Array gY) e=>match e.1 with| .mark (.extern f)=>((p.funcs[f]?).any (·.10),x.2)|_=>(x.1,if x.1&& !e.3 then x.2 else x.2.push e)) q).2,e∈a:=by
  intro l;induction l with
  |nil=>grind
  |cons c l c=>
   grind
 refine b a.1 ((p.funcs[fn]?).any (·.10),#[]) af (λe a=>aV a) e ?_;unfold seen at h;simp only at h;rw[<-Du]at h;omega
theorem RelA.cW{a b:Array aq}(h:RelA F f a b):av F f (if h:a.size=1 then a[0]else .tuple a) (if h:b.size=1 then b[0]else .tuple b):=by
 have d:=h.T;by_cases c:a.size=1;rw[dif_pos c,dif_pos<|d▸c];obtain⟨i,e,g⟩:=h.O 0 a[0] af;have:b[0]'aa=i:=by
  have:=fU.1 e;exact this.2
 rw[this];exact g;rw[dif_neg c,dif_neg<|d▸c];exact .tuple h
variable{C:eN->Bool}
theorem ak.K7:∀(l:List s)(f:Ren),(∀x,x∈l->∀g,f.O g->ak P F C (av F) g (e8 x) (g6 x))->ak P F C (bM F) f (l.mapM e8) (l.mapM g6)
 | [],f,_=>aV<|ak.B (A:=bM F) .nil
 |a::l,f,h=>by
  simp;refine .I (h a af f f.I) λg x a d e=>?_;refine .I (ak.K7 l g λy b c a=>h y (rz _ b) _<|Ren.B d a) λc y c a b=>?_;exact .B<|.cons (e.B a) b
theorem ak.EH(fn:Func){t a:Array aq}(h:RelA F f t a):ak P F C (av F) f (Jy fn t)<|Jy fn a:=by
 refine .I (A:=RelA F) ?_ λg a d _ b=>.B b.cW;simp only[Jj];refine .I (.K7 _ f λx _ g c=>?_) λg a d _ b=>.B (by unfold RelA;simpa using b);cases x with
 |tmp i=>exact .B<|(h.B c).Y i .O
 |cell a ty=>
  exact .I (.K3<|(h.B c).Y a .O) λa b a _ a=>.eY _ a
theorem ak.bd{a b:Type}{A:Ren->a->b->Prop}{e:Qb}{c:cm b}:ak P F C A f (runtimePanic e:cm a) c:=.V<|lO _
theorem ak.bx(hF:F v=true){t i:Array aq}(o:RelA F f t i)(b:Array Tmp)(ca:C R=true)(j:C S=true)
  (n:(f7=none∧g2=none)∨∃l l',f7=some l∧g2=some l'∧f l=some l'):
  ak P F C (λg x a=>g x.1=some a.1∧kp g x.2 a.2) f (QZ v t b R S f7) (QZ v i b R S g2):=by
 have last:∀(g:Ren)(d c:Nat)(m e:List qh),f.O g->g d=some c->kp g m e->
   ak P F C (λg x a=>g x.1=some a.1∧kp g x.2 a.2) g (do cD (<-qj (.loop {state:=.ready,pending:=none,fn:=v,tmps:=t,params:=b,assign:=R,body:=S,defers:=d}),m))
    (do cD (<-qj (.loop {state:=.ready,pending:=none,fn:=v,tmps:=i,params:=b,assign:=R,body:=S,defers:=c}),e)):=by
  exact λg d c m e e h k=>.I (.mr (.loop (l:={state:=.ready,pending:=none,fn:=v,tmps:=t,params:=b,assign:=R,body:=S,defers:=d}) (l':={state:=.ready,pending:=none,fn:=v,tmps:=i,params:=b,assign:=R,body:=S,defers:=c}) rfl rfl rfl hF (o.B e) rfl rfl rfl h ca j af)) λb x a i b=>.B ⟨b,k.B i⟩
 rcases n with⟨rfl,rfl⟩|⟨l,l',rfl,rfl,i⟩;exact .I (.mr .v_) λg d c e h=>last g d _ _ _ e h (.cons h .nil);refine .I (.qH i) λg x a e b=>?_;cases b with
 |loop R S c d a k l m n p q f7=>exact last g _ _ _ _ e n .nil
theorem ak.bv(a:f i=some r):ak P F C (λ_ _ _=>True) f (Aj i)<|Aj r:=by
 refine .I (.qH a) λg p b k b=>?_;cases b with
 |loop n l j hF o m d e h ca b c=>
  refine .I (.cW (k _ _ a)<|.loop rfl l j hF o m d e h ca b c) λa _ _ a _=>?_;rw[n];cases p.1<;>first|exact .B trivial|exact .bd
theorem ak.Tc(a:f i=some r){j:Option eN}(m:∀c,j=some c->C c=true):ak P F C (av F) f (Jz i j)<|Jz r j:=by
 refine .I (.qH a) λg w x l o=>?_;cases o with
 |loop v u k hF p n d e h ca b q=>
  exact .I (.cW (l _ _ a)<|.loop rfl rfl k hF p n d e h ca b m) λs _ _ t _=>.B<|.bool _
theorem ak.ch(d:f i=some r):ak P F C (λ_ a b=>a=b∧∀c,a=some c->C c=true) f (Q_ i)<|Q_ r:=by
 refine .I (.qH d) λg p a m a=>?_;cases a with
 |loop b c l hF o n h j k ca e a=>
  rw[b];by_cases b:(p.1==.busy)=true;simp[b];exact .V<|.B<|lO _;simp only[if_neg b];exact .I (.cW (m _ _ d)<|.loop rfl c l hF o n h j k ca e a) λb _ _ b _=>.B ⟨c.symm,a⟩
theorem ak.Lg(a:f i=some r):ak P F C (λ_ b c=>b= []∧c= []) f (Dz i)<|Dz r:=by
 refine .I (.m a) λg o b b c=>?_;cases c.1 with
 |v_=>
  exact .I (.cW (b _ _ a) .xZ) λa _ _ a _=>.B af
 |_=>exact .O
end
structure Held(P:bj)(F:bw->Bool):Prop where
 fits:Fits P F (cN P F)
 body:∀g x c,F g=true->P.funcs[g]?=some x->x.9=some c->cN P F c=true
 init:∀g,F g=true->P.inits.idxOf? g=none
def Marks(f:Ren)(a:List qh):Prop:=∀d∈a,∃r b,d={target:=.collected r,args:= #[]}∧f r=some b
inductive pD(f:Ren)(b0:List az):az->List az->Prop
 |last {fr:az} (h:Marks f fr.4):pD f b0 fr b0
 |more {fr c:az} {cs:List az} (h:Marks f fr.4) (t:pD f b0 c cs):pD f b0 fr (c::cs)
structure Ej(f:Ren)(b0:List az)(fr:az)(cs:List az)(w:ag):Prop where
 mode:∃ch,fr.5=.panicking ch
 clean:Clean f w
 st:pD f b0 fr cs
inductive ew(P:bj)(F:bw->Bool)(b0 base:List az)(f:Ren)(w w':ag)(K:ag->vx)(s':vx):Prop
 |calm {g:Ren} {fr fr':az} {cs cs':List az} {w1 w1':ag} {es es':Array gY}
   (hK:K w=.go {frame:=fr,callers:=cs,status:=.running,dying:=none} w1 es)
   (hs:s'=.go {frame:=fr',callers:=cs',status:=.running,dying:=none} w1' es')
   (hw:dB P F (cN P F) g w1 w1') (hm:km f g w' w1') (hst:gR P F g b0 base fr cs fr' cs') (hev:∀e∈es',kP g e)
   (hd:w.3<=w1.3) (ht:w1.2=w.2)
   (hl:∀T:Nat->jq->Nat,(∀j,w.3<=j->j<w1.3->T j=w.2 j)->K {w with tape:=T}=.go {frame:=fr,callers:=cs,status:=.running,dying:=none} {w1 with tape:=T} es):ew P F b0 base f w w' K s'
 |yr {g:Ren} {fr:az} {cs:List az} {w1:ag} {es:Array gY} (hK:K w=.go {frame:=fr,callers:=cs,status:=.running,dying:=none} w1 es) (hg:Ej g b0 fr cs w1):ew P F b0 base f w w' K s'
 |ended {o:JA} {w1:ag} {es:Array gY} (hK:K w=.ended o w1 es):ew P F b0 base f w w' K s'
section
variable{α α':Type}{P:bj}{F:bw->Bool}{f g:Ren}{b0 base:List az}{w w':ag}
theorem F9:∀ {l a:List qh},kp f l a->Marks f l
 |_,_,.nil=>by intro d a;grind
 |_,_,.cons h t=>by
  intro d a;obtain rfl|a:=pF.1 a;grind;exact F9 t d a
theorem yt:∀ {fr b:az}{cs a:List az},gR P F f b0 base fr cs b a->pD f b0 fr cs
 |_,_,_,_,.last h _=>.last<|F9 h.5
 |_,_,_,_,.more h t=>.more (F9 h.5)<|yt t
theorem pD.B{fr a:az}{cs:List az}(h:pD f b0 fr cs)(b:Marks f a.4):pD f b0 a cs:=by
 cases h with
 |last _=>exact .last b
 |more _ t=>exact .more b t
theorem pD.I(a:pD f b0 c h):Marks f c.4:=by cases a<;>assumption
theorem ew.B{fr fr':az}{cs cs':List az}(d:dB P F (cN P F) f w w')
  (a:∀w,e3 w=.go {frame:=fr,callers:=cs,status:=.running,dying:=none} w #[])
  (b:f4=.go {frame:=fr',callers:=cs',status:=.running,dying:=none} w' #[])(c:gR P F f b0 base fr cs fr' cs'):ew P F b0 base f w w' e3 f4:=
 .calm (a w) b d (.B _ _) c af (cP _) rfl λ_ _=>a _
theorem ew.O{A:Ren->α->α'->Prop}{s:cm α}{i:cm α'}(k:ak P F (cN P F) A f s i)(l:dB P F (cN P F) f w w')
  (fn q:bw)(m:α->ag->vx)(e:zn->ag->vx)(o:α'->ag->vx)
  (n:∀w a w1 c,(∃g d,A g a d)->s.runT P w #[]=(.ok a w1,c)->e3 w=tS (seen P fn c) (m a w1))
  (t:∀w h w1 c,s.runT P w #[]=(.halt h w1,c)->mW h->∃j,e3 w=tS j (e h w1))
  (u:∀a w1 c,(∃g p,A g p a)->i.runT P w' #[]=(.ok a w1,c)->f4=tS (seen P q c) (o a w1))
  (v:∀g a d w1 i,f.O g->A g a d->dB P F (cN P F) g w1 i->ew P F b0 base g w1 i (m a) (o d i))
  (q:∀h w1,mW h->Clean f w1->(∃o w2 c,e h w1=.ended o w2 c)∨∃fr cs c,e h w1=.go {frame:=fr,callers:=cs,status:=.running,dying:=none} w1 c∧Ej f b0 fr cs w1):
  ew P F b0 base f w w' e3 f4:=by
 generalize e:s.runT P w #[]=r;obtain⟨r,c⟩:=r;cases r with
 |halt h w1=>
  obtain⟨m,p⟩:=(k.2 _ _ _ l).1 _ _ _ e;obtain⟨j,c⟩:=t _ _ _ _ e m;obtain⟨o,w2,o,j⟩|⟨fr,cs,o,j,o⟩:=q h _ m p;rw[j]at c;exact .ended c;rw[j]at c;exact .yr c o
 |ok a w1=>
  obtain⟨g,d,i,j,m,i2,i3,j,p⟩:=k.1 w _ _ #[] l a w1 _ e;obtain⟨o,o,x⟩:=(k.2 _ _ _ l).2 _ _ _ e;have c:=n _ _ _ _ ⟨_,_,j⟩ e;have k:=u _ _ _ ⟨_,_,j⟩ m;cases v g a d w1 i i3.1 j i2 with
  |calm e i d m l q r s t=>
   rw[e]at c;rw[i]at k;refine .calm c k d (i3.I m) l ?_ aa (s.trans o) λT l=>?_;intro k d;obtain d|d:=mP.1 d;have:=GN _ _ _ _ d;simp at this;exact(p k this).B m.1;exact q k d;rw[n _ _ _ _ ⟨_,_,j⟩<|x T λj a b=>l j a<|kJ b r,t T λj a b=>aw o<|l j aa b];rfl
  |yr e i=>rw[e]at c;exact .yr c i
  |ended e=>rw[e]at c;exact .ended c
theorem jv.I(H:Held P F)(c:F v=true){a b:Array aq}(h:RelA F f a b):jv P F f (ej P v a .normal) (ej P v b .normal) where
 fn:=rfl
 ok:=c
 tmps:=by
  show RelA F f (a++ml _ aj)<|b++ml _ aj;rw[h.T];apply h.I;unfold RelA;exact .eT _ .O
 todo:=by
  refine .cons (.code ?_) .nil;obtain⟨x,b,_⟩:=H.1.1 v c;simp only[b];cases a:x.9 with
  |none=>simp[cN,a]
  |some d=>simpa[a]using H.2 v x d c b a
 defers:=.nil
 mode:=rfl
 calm:=.inl rfl
 kind:=⟨rfl,rfl⟩
 round:=.inl ⟨rfl,rfl⟩
theorem jv.O(d:f i=some r)(c:F v=true){a b:Array aq}(h:RelA F f a b)(vZ:cN P F R=true)(qL:cN P F S=true):
  jv P F f (JB i v a R S .normal) (JB r v b R S .normal) where
 fn:=rfl
 ok:=c
 tmps:=h
 todo:=.cons (.code vZ)<|.cons .beginRound<|.cons (.code qL) .nil
 defers:=.nil
 mode:=rfl
 calm:=.inl rfl
 kind:=⟨rfl,rfl⟩
 round:=.inr ⟨_,_,rfl,rfl,d⟩
theorem wa(fr:az)(v):(fr.finish v).7=fr.7:=by
 unfold Frame.finish;grind
theorem ew.I(H:Held P F)(B:dB P F (cN P F) f w w')(j:gR P F f b0 base c h l o)(a:c.5=.run)(z:ak P F (cN P F) (jw F<|cN P F) f d2 h5):
  ew P F b0 base f w w' (λw=>py P true c h none d2 w)<|py P true l o none h5 w':=by
 have p:(c.6==JC)=false:=dh j.B.8.1;have s:(l.6==JC)=false:=dh j.B.8.2;have b:∀i a:List fJ,jS P F f i a->(match i with| .call _ true _ _::_=>JD|_=>JE)=.normal∧(match a with| .call _ true _ _::_=>JD|_=>JE)=.normal:=by
  intro i a a;cases a with
  |nil=>grind
  |cons a t=>cases a<;>exact⟨rfl,rfl⟩
 let⟨C,D⟩:=b _ _ j.B.4
 let k (c:az) (h:List az) (n:qf) (w:ag):GStep:=match n with
  | .value v=>.go {frame:=c.finish v,callers:=h,status:=.running,dying:=none} w
  | .skip=>.go {frame:=c.finish aj,callers:=h,status:=.running,dying:=none} w
  | .enter g d=>.go {frame:=ej P g d .normal,callers:=c::h,status:=.running,dying:=none} w
  | .round i g d x y=>.go {frame:=JB i g d x y .normal,callers:=c::h,status:=.running,dying:=none} w
  |_=>.ended (.stuck "" "") w
 let q (a:zn) (w:ag):GStep:=match a with
  | .panic v=>.go {frame:=c.raise [{v,recovered:=false}],callers:=h,status:=.running,dying:=none} w
  | .unsupported u=>.ended (.unsupported u<|c.pos P) w
  | .stuck d2=>.ended (.stuck d2<|c.pos P) w
  |_=>.ended (.stuck "" "") w
 have r:∀(c:az)(h:List az)(d2:cm qf)(w:ag)(n:qf)(w1:ag)(e:Array gY),(c.6==JC)=false->(match c.3 with| .call _ true _ _::_=>JD|_=>JE)=.normal->
   ((∃v,n=.value v)∨n=.skip∨(∃g d,n=.enter g d)∨∃i g d x y,n=.round i g d x y)->d2.runT P w #[]=(.ok n w1,e)->py P true c h none d2 w=tS (seen P c.1 e) (k c h n w1):=by
  intro c h d2 w n w1 e m A t b;obtain⟨v,rfl⟩|rfl|⟨g,d,rfl⟩|⟨i,g,d,x,y,rfl⟩:=t;simp only[py,b,m,tH,if_false,if_true,k];simp only[py,b,m,tH,if_false,if_true,k];simp only[py,b,m,tH,if_false,if_true,k];exact congrArg (λkd=>tS _<|.go {frame:=ej P g d kd,callers:=c::h,status:=.running,dying:=none} w1) A;simp only[py,b,m,tH,if_false,if_true,k]
 refine ew.O z B c.1 l.1 (k c h) q (k l o) ?_ ?_ ?_ ?_ ?_;intro w n w1 e d b;refine r _ _ d2 w n _ _ p C ?_ b;obtain⟨g,k,d⟩:=d;cases d with
 |value _=>grind
 |skip=>grind
 |enter _ _=>grind
 |round _ _ _ _ _=>grind
 intro w a w1 e b i;cases a with
 |panic v=>exact⟨seen P c.1 e,by simp only[py,b,p,tH,if_false,if_true,q]⟩
 |stuck v=>exact⟨seen P c.1 e,by simp only[py,b,p,tH,if_false,if_true,q]⟩
 |unsupported u=>
  cases u with
  |initOrder g=>exact i.elim
  |_=>exact⟨seen P c.1 e,by simp only[py,b,p,tH,if_false,if_true,q]⟩
 |_=>exact i.elim
 intro n w1 e d b;refine r _ _ _ _ n _ _ s D ?_ b;obtain⟨g,k,d⟩:=d;cases d with
 |value _=>grind
 |skip=>grind
 |enter _ _=>grind
 |round _ _ _ _ _=>grind
 intro g n k w1 b k d e;have b:=j.O k;cases d with
 |value d=>exact .B e (λ_=>rfl) rfl<|b.I (b.B.B d)<|wa _ _
 |skip=>exact .B e (λ_=>rfl) rfl<|b.I (b.B.B .O)<|wa _ _
 |enter d a=>exact .B e (λ_=>rfl) rfl<|.more (.I H d a) b
 |round hl d a vZ qL=>exact .B e (λ_=>rfl) rfl<|.more (.O hl d a vZ qL) b
 intro a w1 i b;cases a with
 |panic v=>
  refine .inr ⟨_,_,_,rfl,⟨⟨[{v,recovered:=false}],?_⟩,b,?_⟩⟩;unfold Ak;grind;refine(yt j).B ?_;have:(c.raise [{v,recovered:=false}]).4=c.4:=by unfold Ak;split<;>rfl
  rw[this];exact(yt j).I
 |stuck v=>grind
 |unsupported u=>grind
 |_=>grind
end
section
variable{mb:Bool}{α α':Type}{P:bj}{F:bw->Bool}{C:eN->Bool}{f g:Ren}{b0 base:List az}{w w':ag}
theorem ak.TL(s:Fits P F C)(w:av F f a b){n o:Array aq}(q:RelA F f n o):
  ak P F C (jw F C) f (do let d<-wY a n;invoke d.1 d.2) (do let d<-wY b o;invoke d.1 d.2):=by
 cases w<;>first|exact .O|exact .V _|skip
 rename_i g z B cs c t x r;refine .I (.B (A:=λh (d e:qh)=>(∃cs c,d.1=.fn _ cs∧e.1=.fn _ c∧RelA F h cs c)∧RelA F h d.2 e.2) ⟨⟨_,_,rfl,rfl,r⟩,RelA.I x aa⟩) λh d e v m=>?_;obtain⟨⟨cs,c,i,j,l⟩,k⟩:=m;rw[i,j];exact .xO s t<|k.I l;rename_i y p u;refine .I (.B (A:=λh (d e:qh)=>(∃cs c,d.1=.fn _ cs∧e.1=.fn _ c∧h y=some p)∧RelA F h d.2 e.2) ⟨⟨_,_,rfl,rfl,u⟩,aV q⟩) λh d e v m=>?_;obtain⟨⟨cs,c,i,j,l⟩,k⟩:=m;rw[i,j];exact .K4 l k
theorem kp.I:∀ {l a m b:List qh},kp f l a->kp f m b->kp f (l++m) (a++b)
 |_,_,_,_,.nil,h=>h
 |_,_,_,_,.cons h t,i=>.cons h<|kp.I t i
theorem aeu{t a:Array aq}(h:RelA F f t a)(j):yielded W a j=yielded W t j:=by
 unfold yielded;cases(W[j]?).bind (·.1)with
 |none=>rfl
 |some d=>
  simp;cases a:t[d]? with
  |none=>rw[h.V d a]
  |some v=>
   obtain⟨b,c,b⟩:=h.O d v a;rw[c];cases b<;>rfl
def Ol:Option eN->Bool
 |none|some .ret=>true
 |_=>false
def np(P:bj)(main:Bool)(fr:az)(cs:List az)(a:Option eN)(w:ag):GStep:=
 match fr.7 with
 |none=>if Ol a=true then .go {frame:={fr with mode:=.returning},callers:=cs,status:=.running,dying:=none} w else .ended (.stuck "exit, goto: no such block or label" (fr.pos P)) w
 |some l=>
  let(r,es):=(Jz l a).runT P w #[]
  tS (seen P fr.1 es) <|match r with
  | .ok v w=>doReturn P main fr cs none v w
  | .halt _ w=>.ended (.stuck "range over a function: no such loop" (fr.pos P)) w
theorem ew.V(n:dB P F (cN P F) f w w'){cs cs':List az}(b:gR P F f b0 base c cs l cs')(q:∀a,a9=some a->cN P F a=true):
  ew P F b0 base f w w' (λw=>np P true c cs a9 w)<|np P mb l cs' a9 w':=by
 obtain⟨p,x⟩|⟨z,A,p,x,r⟩:=b.B.9;by_cases y:Ol a9=true;refine .B (fr:={c with mode:=.returning}) (fr':={l with mode:=.returning}) (cs:=cs) (cs':=cs') n (λw=>?_) ?_<|b.I ?_ rfl;unfold np;grind;unfold np;grind;exact{b.B with mode:=rfl,calm:=.inr rfl};refine .ended (o:=.stuck "exit, goto: no such block or label" (c.pos P)) (w1:=w) (es:= #[]) ?_;unfold np;grind;cases b with
 |last _ k=>rw[p]at k;cases k
 |more e t=>
  rename_i a d cs cs';refine ew.O (ak.Tc (j:=a9) r q) n c.1 l.1 (λv w=>doReturn P true c (a::cs) none v w) (λ_ w=>.ended (.stuck "range over a function: no such loop" (c.pos P)) w) (λv w=>doReturn P mb l (d::cs') none v w) ?_ ?_ ?_ ?_ ?_;intro w v w1 es _ m;unfold np;grind;intro w h w1 es m _;refine⟨seen P c.1 es,?_⟩;unfold np;grind;intro v w1 es _ m;unfold np;grind;intro g v B w1 C i s u;refine .B (fr:=a.finish v) (fr':=d.finish _) (cs:=cs) (cs':=cs') u (λw=>?_) ?_<|(t.O i).I ((t.O i).B.B s)<|wa _ _;unfold doReturn;rw[e.8.1];unfold doReturn;rw[e.8.2];grind
theorem ew.T(p:dB P F (cN P F) f w w'){cs cs':List az}(i:gR P F f b0 base c cs l cs')(z:c.5=.returning):
  (c.4= []∧l.4= []∧cs=b0∧cs'=base)∨ew P F b0 base f w w' (λw=>ql P true c cs none w) (ql P mb l cs' none w'):=by
 have A:=i.B.6.trans z;have n:=i.B.5;generalize B:c.4=u at n;generalize y:l.4=x at n;cases n with
 |cons d t=>
  rename_i G E u x
  refine .inr (ew.O (ak.Lg d) p c.1 l.1 (λm w=>.go {frame:={c with defers:=m++u},callers:=cs,status:=.running,dying:=none} w)
   (λ_ w=>.ended (.stuck "the deferred calls of a range-over-func loop have been taken" (c.pos P)) w) (λm w=>.go {frame:={l with defers:=m++x},callers:=cs',status:=.running,dying:=none} w) ?_ ?_ ?_ ?_ ?_)
  intro w v w1 b _ d;unfold ql;grind;intro w h w1 b d _;refine⟨seen P c.1 b,?_⟩;unfold ql;grind;intro v w1 b _ d;unfold ql;grind;intro g v C w1 D e o q;obtain⟨rfl,rfl⟩:=o;exact .B q (λw=>rfl) rfl ((i.O e).I { (i.O e).B with defers:=t.B e} rfl);grind
 |nil=>
  cases i with
  |last _ _=>grind
  |more a t=>
   rename_i j k cs cs';cases r:P.funcs[c.1]? with
   |none=>
    refine .inr (.B (fr:=j.finish _) (fr':=k.finish _) (cs:=cs) (cs':=cs') p (λw=>?_) ?_ (t.I (t.B.B (a.3.Y 0 .O)) (wa _ _)));unfold ql;rw[B];rw[z];rw[r];unfold doReturn;rw[a.8.1];unfold ql;rw[y];rw[A];rw[a.1,r];unfold doReturn;rw[a.8.2]
   |some fn=>
    refine .inr (ew.O (ak.EH fn a.3) p c.1 l.1 (λv w=>doReturn P true c (j::cs) none v w)
     (λh w=>match h with| .stuck s=>.ended (.stuck s (c.pos P)) w|_=>.ended (.stuck "return: the result variables cannot be read" (c.pos P)) w) (λv w=>doReturn P mb l (k::cs') none v w) ?_ ?_ ?_ ?_ ?_)
    intro w v w1 b _ d;unfold ql;grind;intro w h w1 b d _;refine⟨seen P c.1 b,?_⟩;unfold ql;grind;intro v w1 b _ d;unfold ql;rw[y];rw[A];rw[a.1,r];grind;intro g v C w1 D e o q;refine .B (fr:=j.finish v) (fr':=k.finish _) (cs:=cs) (cs':=cs') q (λw=>?_) ?_ ((t.O e).I ((t.O e).B.B o) (wa _ _));unfold doReturn;rw[a.8.1];unfold doReturn;rw[a.8.2];intro h w1 _ _;cases h<;>exact .inl ⟨_,_,_,rfl⟩
end
section
variable{mb:Bool}{α α':Type}{P:bj}{F:bw->Bool}{f g:Ren}{b0 base:List az}{w w':ag}
theorem MD(main:Bool)(fr:az)(cs:List az)(w:ag)(h:fr.3= []∧a9=none∨(∃k,fr.3=.code .ret::k∧a9=some .ret)∨∃id k,fr.3=.code (.exit id)::k∧exitTo id k=none∧a9=some (.exit id)):
  dO P main true fr cs none w=np P main fr cs a9 w:=by
 obtain⟨h,rfl⟩|⟨k,h,rfl⟩|⟨id,k,h,a,rfl⟩:=h;unfold dO np;rw[h];rfl;unfold dO np;rw[h];rfl;unfold dO np;rw[h];dsimp only;rw[a];rfl
theorem ew.Y(H:Held P F)(s:dB P F (cN P F) f w w'){cs b:List az}(d:gR P F f b0 base c cs l b)(p:c.5=.run)
  (q:c.3=.inRegion W (i::g9)::i6)(r:l.3=.inRegion W (i::g9)::i7)(m:∀o∈W,lh P F o=true):
  ew P F b0 base f w w' (λw=>xe P true c cs none w)<|xe P true l b none w':=by
 have e:c.oper?=W[i]? :=by unfold Q0;rw[q]
 have h:l.oper?=W[i]? :=by unfold Q0;rw[r]
 cases k:W[i]? with
 |none=>
  refine .ended (o:=.stuck "no operation here" (c.pos P)) (w1:=w) (es:= #[]) ?_;unfold xe;grind
 |some o=>
  have a:=m o (by grind);have g:∀(c:az)(cs:List _)(w:ag),c.oper?=W[i]? ->xe P true c cs none w=py P true c cs none (execOp c.eval o) w:=by
   intro c cs w e;unfold xe;rw[e,k];dsimp only;split;rename_i n;unfold lh more at a;rw[n]at a;simp[jh]at a;rfl
  have:=ew.I H s d p<|ak.iA H.1 a d.B.T λ_=>rfl;have j:(λw=>xe P _ _ cs _ w)=λw=>py P _ _ _ _ _ w:=funext λw=>g _ _ w e;rw[j,g _ _ _ h];exact this
theorem OU:∀ {l a m b:List fJ},jS P F f l a->jS P F f m b->jS P F f (l++m) (a++b)
 |_,_,_,_,.nil,h=>h
 |_,_,_,_,.cons h t,i=>.cons h<|OU t i
theorem ew.Z(K:Held P F)(i:dB P F (cN P F) f w w')(n:gR P F f b0 base c h l o)(R:c.5=.run):
  ew P F b0 base f w w' (λw=>dO P true true c h none w) (dO P mb true l o none w'):=by
 have m:=n.B;have T:=m.4
 have j:∀ {k k':List fJ} {N:ag->vx} {S:vx},jS P F f k k'->(∀w,N w=.go {frame:={c with todo:=k},callers:=h,status:=.running,dying:=none} w #[])->
   S=.go {frame:={l with todo:=k'},callers:=o,status:=.running,dying:=none} w' #[]->ew P F b0 base f w w' N S:=by
  intro k k' N S a8 p t;exact .B i p t (n.I {m with todo:=a8} rfl)
 have V:∀ {jump:Option eN},(∀r,jump=some r->cN P F r=true)->
   (c.3= []∧jump=none∨(∃k,c.3=.code .ret::k∧jump=some .ret)∨∃id k,c.3=.code (.exit id)::k∧exitTo id k=none∧jump=some (.exit id))->
   (l.3= []∧jump=none∨(∃k,l.3=.code .ret::k∧jump=some .ret)∨∃id k,l.3=.code (.exit id)::k∧exitTo id k=none∧jump=some (.exit id))->
   ew P F b0 base f w w' (λw=>dO P true true c h none w) (dO P mb true l o none w'):=by
  intro jump a7 p t;have s:(λw=>dO P true true c h none w)=λw=>np P true c h jump w:=funext λw=>MD true c h w p;rw[s,MD mb l o w' t];exact .V i n a7
 generalize b:c.3=u at T
 generalize d:l.3=b4 at T
 cases T with
 |nil=>exact V (jump:=none) af (.inl ⟨b,rfl⟩) (.inl ⟨d,rfl⟩)
 |cons a6 e=>
  rename_i J b9 k k';cases a6 with
  |inBlock id=>exact j e (λw=>by unfold dO;grind) (by unfold dO;grind)
  |inScope q=>exact j e (λw=>by unfold dO;grind) (by unfold dO;grind)
  |inLoop Z=>exact j (.cons (.code Z) (.cons (.inLoop Z) e)) (λw=>by unfold dO;grind) (by unfold dO;grind)
  |inRangeFunc _=>exact .ended (w1:=w) (es:= #[]) (by unfold dO;rw[b])
  |beginRound=>
   have:ak P F (cN P F) (jw F (cN P F)) f (do c.7.elim (stuck "beginRound: no round") Aj;cD tR) (do l.7.elim (stuck "beginRound: no round") Aj;cD tR):=by
    rcases m.9 with⟨W,X⟩|⟨u,b4,W,X,Q⟩;rw[W,X];exact .I (A:=λ_ _ _=>True) .O λ_ _ _ _ _=>.B .skip;rw[W,X];exact .I (.bv Q) λ_ _ _ _ _=>.B .skip
   have s:(λw=>dO P true true c h none w)=λw=>py P true c h none (do c.7.elim (stuck "beginRound: no round") Aj;cD tR) w:=funext λw=>by
    unfold dO;grind
   have O:dO P mb true l o none w'=py P true l o none (do l.7.elim (stuck "beginRound: no round") Aj;cD tR) w':=by
    unfold dO;rw[d]
   rw[s,O];exact ew.I K i n R this
  |endRangeFunc Q=>
   refine ew.O (ak.ch Q) i c.1 l.1 (λjump w=>.go {frame:={c with todo:=(jump.map Q1).toList++k},callers:=h,status:=.running,dying:=none} w)
    (λy w=>match y with| .panic v=>.go {frame:=c.raise [{v,recovered:=false}],callers:=h,status:=.running,dying:=none} w|_=>.ended (.stuck "range over a function: no such loop" (c.pos P)) w)
    (λjump w=>.go {frame:={l with todo:=(jump.map Q1).toList++k'},callers:=o,status:=.running,dying:=none} w) ?_ ?_ ?_ ?_ ?_
   intro w v w1 es _ z;unfold dO;grind;intro w y w1 es z _;refine⟨seen P c.1 es,?_⟩;unfold dO;grind;intro v w1 es _ z;unfold dO;grind;intro g v c2 w1 b7 D I U;obtain⟨rfl,a⟩:=I;refine .B U (λ_=>rfl) rfl ((n.O D).I { (n.O D).B with todo:=OU ?_ (e.B D)} rfl);cases v with
   |none=>exact .nil
   |some r=>exact .cons (.code (a r rfl)) .nil
   intro y w1 _ a;cases y with
   |panic v=>
    refine .inr ⟨_,_,_,rfl,⟨⟨[{v,recovered:=false}],?_⟩,a,?_⟩⟩;unfold Ak;grind;refine(yt n).B ?_;have:(c.raise [{v,recovered:=false}]).4=c.4:=by unfold Ak;split<;>rfl
    rw[this];exact(yt n).I
   |_=>grind
  |inRegion todo a9=>
   rename_i B;cases todo with
   |nil=>exact j e (λw=>by unfold dO;grind) (by unfold dO;grind)
   |cons J c1=>
    have b2:yielded _ _=yielded B _:=funext λb3=>aeu m.3 b3;by_cases a:((B[J]?).map (Region.wanted · (yielded B c.2))).getD false=true;have s:(λw=>dO P true _ _ _ _ w)=λw=>xe P true _ h none w:=funext λw=>by
     unfold dO;rw[b];dsimp only;rw[if_pos a]
    have O:dO P mb true l o none w'=xe P true l o none w':=by
     unfold dO;rw[d];dsimp only;rw[b2,if_pos a]
    rw[s,O];exact .Y K i n R b d a9;refine .B i (fr:=c.finish _) (fr':=l.finish _) (cs:=h) (cs':=o) (λw=>?_) ?_ (n.I (m.B .O) (wa _ _));unfold dO;grind;unfold dO;grind
  |code a=>
   rename_i r;cases r with
   |skip=>exact j e (λw=>by unfold dO;grind) (by unfold dO;rw[d])
   |label u=>exact j e (λw=>by unfold dO;rw[b]) (by unfold dO;rw[d])
   |seq L q=>
    simp only[cN,j_]at a;exact j (.cons (.code a.1) (.cons (.code a.2) e)) (λw=>by unfold dO;rw[b]) (by unfold dO;rw[d])
   |block id q=>
    simp only[cN]at a;exact j (.cons (.code a) (.cons (.inBlock id) e)) (λw=>by unfold dO;rw[b]) (by unfold dO;rw[d])
   |loop q=>
    simp only[cN]at a;exact j (.cons (.code a) (.cons (.inLoop a) e)) (λw=>by unfold dO;rw[b]) (by unfold dO;rw[d])
   |scope q=>
    simp only[cN]at a;exact j (.cons (.code a) (.cons (.inScope q) e)) (λw=>by unfold dO;rw[b]) (by unfold dO;rw[d])
   |goto u=>simp[cN]at a
   |refuse c3=>exact .ended (w1:=w) (es:= #[]) (by unfold dO;rw[b])
   |ret=>exact V (jump:=some .ret) (by rintro _ ⟨⟩;rfl) (.inr (.inl ⟨_,b,rfl⟩)) (.inr (.inl ⟨_,d,rfl⟩))
   |exit id=>
    rcases jS.I id e with⟨p,t⟩|⟨a1,ax,p,t,a4⟩;exact V (jump:=some (.exit id)) (by rintro _ ⟨⟩;rfl) (.inr (.inr ⟨_,_,b,p,rfl⟩)) (.inr (.inr ⟨_,_,d,t,rfl⟩));exact j a4 (λw=>by unfold dO;rw[b];dsimp only;rw[p];rfl) (by unfold dO;rw[d];dsimp only;rw[t];rfl)
   |cond r L q=>
    simp only[cN,j_]at a;have I:=m.T r a.1;generalize E:c.eval r=x at I;generalize b1:l.eval r=Y at I;cases I with
    |bool v=>
     refine j (k:=.code (if v then L else q)::k) (k':=.code (if v then L else q)::k') (.cons (.code ?_) e) (λw=>by unfold dO;rw[b];dsimp only;rw[E]) (by unfold dO;rw[d];dsimp only;rw[b1]);cases v;exact a.2.2;exact a.2.1
    |_=>exact .ended (w1:=w) (es:= #[]) (by unfold dO;rw[b];dsimp only;rw[E])
   |region id B a3=>
    simp only[cN,rW]at a;cases a3 with
    |false=>exact j (.cons (.inRegion _ a) e) (λw=>by unfold dO;rw[b];rfl) (by unfold dO;rw[d];rfl)
    |true=>
     have s:∀(main:Bool)(c:az)(h:List az)(k:List fJ)(w:ag),c.3=.code (.region id B true)::k->dO P main true c h none w=
       .go {frame:={c with todo:=.inRegion B (Region.schedule (P.follows .mixedOrders) B (w.2 w.3 (.order c.1 id)))::k},callers:=h,status:=.running,dying:=none} {w with drawn:=w.3+1} #[]:=by
      intro main c h k w b;unfold dO;rw[b];rfl
     have a0:=i.5 0 (.order c.1 id);simp only[rA]at a0;refine .calm (g:=f) (s true c h k w b) (s mb l o k' w' d) ⟨i.1,i.2,i.3,i.4,λJ b6=>?_⟩ ⟨f.I,rfl,rfl,rfl,cP _,λ_ _ _=>rfl,λ_ _ y=>.inl y,λq p t=>absurd p (by simp at t;omega)⟩ ?_ af (zw _) rfl λb8 a5=>?_;have:=i.5 (J+1) b6;simpa[tI,Nat.add_comm 1 J]using this;refine n.I {m with todo:=.cons ?_ e} rfl;rw[m.1,<-a0];exact .inRegion _ a;dsimp only;rw[s true c h k _ b];dsimp only;rw[a5 w.3 (cP _) (pG _)]
   |rangeFunc H b5 L q=>
    simp only[cN,j_]at a;have a2:∀(c:az)(u:Nat),resolve c.eval {callee:=.value H,args:= #[.const (.func (.yield u) #[] #[])],argTypes:= #[]} 0=wY (c.eval H) #[.func (.yield u) #[] #[]]:=by
     intro c u;unfold resolve;simp only[JF,rV,List.map_nil];rfl
    refine ew.O (ak.bx (F:=F) (C:=cN P F) m.2 m.3 b5 a.2.1 a.2.2 m.9) i c.1 l.1
     (λx w=>py P true {c with todo:=.inRangeFunc x.1::k,defers:=x.2++c.4} h none (do let G<-wY (c.eval H) #[.func (.yield x.1) #[] #[]];invoke G.1 G.2) w)
     (λ_ w=>.ended (.stuck "range over a function: no such loop" (c.pos P)) w)
     (λx w=>py P true {l with todo:=.inRangeFunc x.1::k',defers:=x.2++l.4} o none (do let G<-wY (l.eval H) #[.func (.yield x.1) #[] #[]];invoke G.1 G.2) w) ?_ ?_ ?_ ?_ ?_
    intro w v w1 es _ z;obtain⟨u,a1⟩:=v;unfold dO;rw[b];dsimp only;rw[z];dsimp only;rw[a2];rfl;intro w y w1 es z _;refine⟨seen P c.1 es,?_⟩;unfold dO;rw[b];dsimp only;rw[z];intro v w1 es _ z;obtain⟨u,a1⟩:=v;unfold dO;rw[d];dsimp only;rw[m.1,z];dsimp only;rw[a2];rfl;intro g x Y w1 b7 D E U;have M:=n.O D;have p:jv P F g {c with todo:=.inRangeFunc x.1::k,defers:=x.2++c.4} {l with todo:=.inRangeFunc Y.1::k',defers:=Y.2++l.4}:=
     {M.B with todo:=.cons (.inRangeFunc E.1) (e.B D),defers:=E.2.I M.B.5}
    refine ew.I K U (M.I p rfl) R ?_;exact .TL K.1 (M.B.T H a.1) (.ac (.yield E.1));intro y w1 _ _;exact .inl ⟨_,_,_,rfl⟩
theorem ew.U(H:Held P F)(i:dB P F (cN P F) f w w'){cs a:List az}(d:gR P F f b0 base l cs c a):
  (l.5=.returning∧l.4= []∧c.4= []∧cs=b0∧a=base)∨
  ew P F b0 base f w w' (λw=>stepG P true {frame:=l,callers:=cs,status:=.running,dying:=none} w) (stepG P mb {frame:=c,callers:=a,status:=.running,dying:=none} w'):=by
 rcases d.B.7 with b|b;have e:(λw=>stepG P _ {frame:=l,callers:=cs,status:=.running,dying:=none} w)=λw=>dO P true _ _ _ _ w:=funext λw=>by
  unfold stepG;dsimp only;rw[b]
 have g:stepG P mb {frame:=c,callers:=a,status:=.running,dying:=none} w'=dO P mb true c a none w':=by
  unfold stepG;dsimp only;rw[d.B.6,b]
 rw[e,g];exact .inr (.Z H i d b);have e:(λw=>stepG P _ {frame:=l,callers:=cs,status:=.running,dying:=none} w)=λw=>ql P true _ _ _ w:=funext λw=>by
  unfold stepG;dsimp only;rw[b]
 have g:stepG P mb {frame:=c,callers:=a,status:=.running,dying:=none} w'=ql P mb c a none w':=by
  unfold stepG;dsimp only;rw[d.B.6,b]
 rw[e,g];rcases ew.T i d b with⟨a,a,a,a⟩|h;grind;exact .inr h
end
def wall:Frame:={fn:=0,tmps:= #[],todo:= [.code (.refuse "")],defers:= [{target:=.nil,args:= #[]}],mode:=.run,kind:=.normal}
def aN(w:ag)(T:Nat->jq->Nat):World:={w with tape:=T}
inductive LT(P:bj)(D:az->ag->Prop):az->List az->ag->Prop
 |done {fr:az} {w:ag} (h:D fr w):LT P D fr [wall] w
 |step {fr:az} {cs:List az} {w:ag}
   (h:∀T:Nat->jq->Nat,∃fr1 cs1 w1 es,stepG P true {frame:=fr,callers:=cs,status:=.running,dying:=none} (aN w T)=.go {frame:=fr1,callers:=cs1,status:=.running,dying:=none} w1 es∧∀ch,fr1.5≠ .panicking ch)
   (ht:∀T fr1 cs1 w1 es,stepG P true {frame:=fr,callers:=cs,status:=.running,dying:=none} (aN w T)=.go {frame:=fr1,callers:=cs1,status:=.running,dying:=none} w1 es->LT P D fr1 cs1 w1):LT P D fr cs w
section
variable{P:bj}{F:bw->Bool}{f g:Ren}{w w':ag}
theorem wA(a:lone c h k=lone l o C):c=l∧h=o∧k=C:=by
 simp only[lone,Machine.mk.injEq,Array.mk.injEq,List.cons.injEq,HR]at a;grind
theorem qQ{es:Array gY}(a:stepG P true {frame:=c,callers:=h,status:=.running,dying:=none} k=.go {frame:=l,callers:=o,status:=.running,dying:=none} C es):
  step P (lone c h k)=.next (lone l o C):=step_lone_go<|dh a
theorem wz{w w':ag}{o:JA}{es:Array gY}(a:stepG P true {frame:=c,callers:=h,status:=.running,dying:=none} w=.ended o w' es):
  step P (lone c h w)=.ended o w':=step_lone_ended<|dh a
def Reach(P:bj)(D:az->ag->Prop)(m:JG)(n:Nat):Prop:=∃fr w,runN P n m=.next (lone fr [wall] w)∧D fr w
theorem Reach.I{D:az->ag->Prop}(h:Reach P D h9<|i+1)(c:step P h9=.next i0):Reach P D i0 i:=by
 obtain⟨fr,w,a,b⟩:=h;exact⟨fr,w,by simpa only[runN,c]using a,b⟩
theorem Reach.B{D:az->ag->Prop}{m:JG}{o:JA}(h:Reach P D m<|i+1)(b:step P m=.ended o k):False:=by
 obtain⟨fr,k,a,c⟩:=h;simp[runN,b]at a
theorem adv{a:List qh}{b:Array gY}(h:(Dz i).runT P k #[]=(.ok a C,b)):
  k.1[i]?=some (.deferred<|some a)∧C.1=k.1.setIfInBounds i (.deferred none):=by
 unfold Dz at h;rw[runT_bind']at h;simp only[Ab,jQ]at h;cases a:k.1[i]? with
 |none=>grind
 |some o=>
  rw[a]at h;cases o with
  |deferred d=>
   cases d with
   |none=>simp_all
   |some d=>
    dsimp only at h;rw[runT_bind']at h;simp only[wZ,jQ,a]at h;obtain⟨⟨rfl,rfl⟩,_⟩:=h;grind
  |_=>first|(simp at h;done)|(simp[tG]at h;done)
theorem acZ(w:ag):∃o w',step P (lone wall [] w)=.ended o w':=
 ⟨_,_,wz (es:= #[]) (by rfl)⟩
theorem ac0(ch:List PanicEntry)(w:ag):∃o w',step P (lone (wall.raise ch) [] w)=.ended o w':=
 ⟨_,_,wz (es:= #[]) (by rfl)⟩
theorem FI(t:∀fr w,b3 fr w->fr.5=.returning):∀(n) {fr:az}{cs:List az}{w:ag},Ej f [wall] fr cs w->¬Reach P b3 (lone fr cs w) n
 |0,fr,cs,w,a,e=>by
  obtain⟨A,w1,b,d⟩:=e;simp[runN]at b;obtain⟨rfl,_,_⟩:=wA b;obtain⟨ch,h⟩:=a.1;grind
 |n+1,fr,cs,w,a,e=>by
  obtain⟨ch,h⟩:=a.1;have j:stepG P true {frame:=fr,callers:=cs,status:=.running,dying:=none} w=unwind P true fr cs none w:=by
   unfold stepG;dsimp only;rw[h]
  cases g:fr.4 with
  |cons k z=>
   have m:=a.3.I;rw[g]at m;obtain⟨r,y,rfl,G⟩:=m k<|jM ..;generalize p:(Dz r).runT P w #[]=x;obtain⟨x,es⟩:=x;cases x with
   |halt K w1=>
    exact e.B<|wz (es:=seen P _ _++ #[]) (o:=.stuck _ _) (w':=w1) (by
     rw[j];unfold unwind;rw[g];simp only;rw[p];rfl)
   |ok I w1=>
    let⟨b,d⟩:=adv p;have C:=a.2 r y G _ b;subst C
    refine FI t n (fr:={fr with defers:=z}) (cs:=cs) (w:=w1) ⟨⟨ch,h⟩,?_,?_⟩<|e.I<|qQ (es:=seen P _ _++ #[]) (by
     rw[j];unfold unwind;rw[g];simp only;rw[p];rfl)
    intro q b2 B J l;rw[d]at l;by_cases F:r=q;grind;rw[mQ F]at l;exact a.2 q _ B _ l;exact a.3.B λk E=>m k<|rz _ E
  |nil=>
   by_cases u:fr.catches P=true;exact e.B<|wz (es:= #[]) (w':=w) (by rw[j];unfold unwind;rw[g];rw[h];dsimp only;rw[if_pos u]);have s:∀c i,cs=c::i->stepG P true {frame:=fr,callers:=cs,status:=.running,dying:=none} w=.go {frame:=c.raise ch,callers:=i,status:=.running,dying:=none} w #[]:=by
    intro c i D;rw[j];unfold unwind;rw[g];rw[h];dsimp only;rw[if_neg u,D]
   have H:=a.3;cases H with
   |last _=>
    have b:=e.I<|qQ<|s _ _ rfl;cases n with
    |zero=>
     obtain⟨A,w1,d,_⟩:=b;simp[runN]at d;exact absurd (wA d).2.1 af
    |succ n=>
     let⟨o,w',d⟩:=ac0 (P:=P) ch w;exact b.B d
   |more _ v=>
    rename_i c i _;refine FI t n (fr:=c.raise _) (cs:=i) (w:=w) ⟨?_,a.2,v.B ?_⟩<|e.I<|qQ<|s _ _ rfl;unfold Ak;grind;have:(c.raise ch).4=c.4:=by unfold Ak;split<;>rfl
    rw[this];exact v.I
theorem MA(d:c.5=.returning)(g:c.4= [])(h:c.6=.normal)(a: ¬b3 c k):∀n,¬Reach P b3 (lone c [wall] k) n:=by
 intro n e;cases n with
 |zero=>
  obtain⟨j,w1,a,b⟩:=e;simp[runN]at a;obtain⟨rfl,_,rfl⟩:=wA a;grind
 |succ n=>
  have f:stepG P true {frame:=c,callers:= [wall],status:=.running,dying:=none} k=unwind P true c [wall] none k:=by
   unfold stepG;dsimp only;rw[d]
  have i:∀(w1:ag),Reach P b3 (lone wall [] w1) n->False:=by
   intro w1 a;cases n with
   |zero=>
    obtain⟨j,w2,b,_⟩:=a;simp[runN]at b;exact absurd (wA b).2.1 af
   |succ n=>
    obtain⟨o,w',b⟩:=acZ (P:=P) w1;exact a.B b
  cases a:P.funcs[c.1]? with
  |none=>
   exact i k<|e.I<|qQ (es:= #[]) (by rw[f];unfold unwind;rw[g];rw[d];rw[a];unfold doReturn;rw[h];rfl)
  |some fn=>
   generalize b:(results fn c.2).runT P k #[]=y;obtain⟨y,es⟩:=y;cases y with
   |ok v w1=>
    exact i _<|e.I<|qQ (es:=seen P _ _++ #[]) (by rw[f];unfold unwind;rw[g];rw[d];rw[a];simp only;rw[b];unfold doReturn;rw[h];rfl)
   |halt h w1=>
    have:∃o,stepG P true {frame:=c,callers:= [wall],status:=.running,dying:=none} k=.ended o w1 (seen P c.1 es++ #[]):=by
     rw[f];unfold unwind;rw[g];rw[d];rw[a];dsimp only;rw[b];cases h<;>exact⟨_,rfl⟩
    obtain⟨o,a⟩:=this;exact e.B<|wz a
end
structure St where
 fr:az
 cs:List az
 w:ag
def Good(P:bj)(F:bw->Bool)(S:St):Prop:=∃f b a c,dB P F (cN P F) f S.w c∧gR P F f [wall] [] S.1 S.2 b a
def xq(P:bj)(D:az->ag->Prop)(S:St):Prop:=∀T,(∀j,j<S.w.3->T j=S.w.2 j)->∃n,Reach P D (lone S.1 S.2 (aN S.w T)) n
section
variable{P:bj}{F:bw->Bool}{f g:Ren}{w w':ag}{D:az->ag->Prop}
theorem M3(e:Good P F ⟨c,h,k⟩)(T:Nat->jq->Nat):Good P F ⟨c,h,aN k T⟩:=by
 obtain⟨f,d,b,w',a,g⟩:=e;refine⟨f,d,b,{w' with tape:=λj q=>T (k.3+(j- w'.3)) q},⟨a.1,a.2,a.3,a.4,λi q=>?_⟩,g⟩;show T (k.3+i) q=T _ q;grind
theorem LT.T(a:∀c k T,D c k->D c (aN k T)){cs:List az}(h:LT P D c cs k)(T:Nat->jq->Nat):LT P D c cs<|aN k T:=by
 cases h with
 |done h=>exact .done<|a _ _ _ h
 |step h b=>exact .step (λa=>h _) λa=>b _
def Pe(a:Nat->jq->Nat)(n:Nat)(T:Nat->jq->Nat):Nat->jq->Nat:=λj=>if j<n then a j else T j
theorem Ti(H:Held P F)(u:∀fr w,D fr w->fr.5=.returning)(r:∀fr w T,D fr w->D fr (aN w T)){S:St}(g:Good P F S)(s:xq P D S)(t: ¬LT P D S.1 S.2 S.w):
  ∃a,Good P F a∧xq P D a∧¬LT P D a.1 a.2 a.w∧S.w.3<=a.w.3∧(∀j,j<S.w.3->a.w.2 j=S.w.2 j)∧
   ∀T,(∀j,j<a.w.3->T j=a.w.2 j)->∃b,stepG P true {frame:=S.1,callers:=S.2,status:=.running,dying:=none} (aN S.w T)=.go {frame:=a.1,callers:=a.2,status:=.running,dying:=none} (aN a.w T) b:=by
 obtain⟨fr,cs,w⟩:=S;simp only at*;have p:∀T,∀k l,lone fr cs (aN w T)=lone k [wall] l->¬D k l:=by
  intro T k l a i;obtain⟨rfl,rfl,rfl⟩:=wA a;exact t (by have:=(LT.done (P:=P) (r _ _ w.2 i));exact this)
 have calm:∀T:Nat->jq->Nat,(∀j,j<w.3->T j=w.2 j)->∃a cs1 w1 b,stepG P true {frame:=fr,callers:=cs,status:=.running,dying:=none} (aN w T)=.go {frame:=a,callers:=cs1,status:=.running,dying:=none} w1 b∧
   (∀ch,a.5≠ .panicking ch)∧Good P F ⟨a,cs1,w1⟩∧w.3<=w1.3∧w1.2=T∧
   ∀c:Nat->jq->Nat,(∀j,w.3<=j->j<w1.3->c j=T j)->stepG P true {frame:=fr,callers:=cs,status:=.running,dying:=none} (aN w c)=.go {frame:=a,callers:=cs1,status:=.running,dying:=none} (aN w1 c) b:=by
  intro T d;obtain⟨n,h⟩:=s T d;obtain⟨f,d,d,w',d,e⟩:=M3 g T;rcases ew.U (mb:=false) H d e with⟨d,g,_,o,_⟩|m;subst o;exact absurd h (MA d g e.B.8.1 (p T fr _ rfl) n);cases n with
  |zero=>
   obtain⟨k,l,d,g⟩:=h;simp[runN]at d;grind
  |succ n=>
   cases m with
   |calm e m v m q m i m p=>
    refine⟨_,_,_,_,e,?_,⟨_,_,_,_,v,q⟩,i,m,λc m=>p _ m⟩;intro ch p;rcases q.B.7 with i|i<;>rw[i]at p<;>cases p
   |yr e p=>exact absurd (h.I (qQ e)) (FI u n p)
   |ended e=>exact(h.B (wz e)).elim
 have p:∀T:Nat->jq->Nat,∃a cs1 w1 b,stepG P true {frame:=fr,callers:=cs,status:=.running,dying:=none} (aN w T)=.go {frame:=a,callers:=cs1,status:=.running,dying:=none} (aN w1 T) b∧
   (∀ch,a.5≠ .panicking ch)∧Good P F ⟨a,cs1,w1⟩∧w.3<=w1.3∧w1.2=Pe w.2 w.3 T∧
   ∀c:Nat->jq->Nat,(∀j,w.3<=j->j<w1.3->c j=Pe w.2 w.3 T j)->stepG P true {frame:=fr,callers:=cs,status:=.running,dying:=none} (aN w c)=.go {frame:=a,callers:=cs1,status:=.running,dying:=none} (aN w1 c) b:=by
  intro T;obtain⟨a,cs1,w1,b,d,g,o,u,v,q⟩:=calm _ λj e=>if_pos e;exact⟨a,cs1,w1,b,q T λj e _=>(if_neg aa).symm,g,o,u,v,q⟩
 have:∃T a cs1 w1 b,stepG P true {frame:=fr,callers:=cs,status:=.running,dying:=none} (aN w T)=.go {frame:=a,callers:=cs1,status:=.running,dying:=none} w1 b∧¬LT P D a cs1 w1:=by
  apply HT;intro q;refine t (.step (λT=>?_) λT a cs1 w1 b i=>?_);obtain⟨a,cs1,w1,b,d,g,_⟩:=p T;exact⟨a,cs1,_,b,d,g⟩;apply HT;intro o;exact q ⟨T,a,cs1,w1,b,i,o⟩
 obtain⟨T,a,cs1,w1,b,d,o⟩:=this;let⟨v,t,w2,u,x,i2,i3,a,b,q⟩:=p T;rw[x]at d;simp only[GStep.go.injEq,HR,and_true]at d;obtain⟨⟨rfl,rfl⟩,rfl,_⟩:=d;refine⟨⟨v,t,w2⟩,i3,?_,?_,a,?_,?_⟩;intro c m;have p:∀j,j<w.3->c j=w.2 j:=λj e=>by
  rw[m j (kJ e a),b];exact if_pos e
 obtain⟨n,h⟩:=s c p;cases n with
 |zero=>
  obtain⟨k,l,d,g⟩:=h;simp[runN]at d;grind
 |succ n=>exact⟨n,h.I (qQ (q _ λj _ e=>by simp_all))⟩
 intro i;exact o (i.T r T);intro j e;rw[b];exact if_pos e;intro c m;exact⟨u,q c λj _ e=>by simp_all⟩
theorem LT.B(H:Held P F)(B:∀fr w,D fr w->fr.5=.returning)(o:∀fr w T,D fr w->D fr (aN w T)){S:St}(G:Good P F S)(C:xq P D S):LT P D S.1 S.2 S.w:=by
 apply HT;intro I
 let X:={S:St//Good P F S∧xq P D S∧¬LT P D S.1 S.2 S.w}
 have q:∀x:X,∃y:X,x.1.w.3<=y.1.w.3∧(∀j,j<x.1.w.3->y.1.w.2 j=x.1.w.2 j)∧
   ∀T:Nat->jq->Nat,(∀j,j<y.1.w.3->T j=y.1.w.2 j)->∃f,stepG P true {frame:=x.1.1,callers:=x.1.2,status:=.running,dying:=none} (aN x.1.w T)=.go {frame:=y.1.1,callers:=y.1.2,status:=.running,dying:=none} (aN y.1.w T) f:=by
  intro x;obtain⟨r,t,u,c,d⟩:=Ti H B o x.2.1 x.2.2.1 x.2.2.2;exact⟨⟨r,t,u,c⟩,d⟩
 let s:Nat->X:=λn=>Nat.rec ⟨S,G,C,I⟩ (λ_ x=>Q2<|q x) n
 have i:∀n,(s n).1.w.3<=(s<|n+1).1.w.3∧(∀j,j<(s n).1.w.3->(s<|n+1).1.w.2 j=(s n).1.w.2 j)∧
   ∀T:Nat->jq->Nat,(∀j,j<(s<|n+1).1.w.3->T j=(s<|n+1).1.w.2 j)->∃f,stepG P true {frame:=(s n).1.1,callers:=(s n).1.2,status:=.running,dying:=none} _=.go {frame:=(s<|n+1).1.1,callers:=(s<|n+1).1.2,status:=.running,dying:=none} _ f:=
  λn=>JH<|q<|s n
 have mono:∀m k,(s m).1.w.3<=(s<|m+k).1.w.3∧∀j,j<(s m).1.w.3->(s<|m+k).1.w.2 j=(s m).1.w.2 j:=by
  intro m k;induction k with
  |zero=>exact⟨cP _,λ_ _=>rfl⟩
  |succ k e=>exact⟨dI e.1 (i<|m+k).1,λj b=>((i<|m+k).2.1 j<|kJ b e.1).trans<|e.2 j b⟩
 have J:∀m k j,j<(s m).1.w.3->j<(s k).1.w.3->(s m).1.w.2 j=(s k).1.w.2 j:=by
  intro m k j a g;obtain h|h:=Nat.le_total m k;obtain⟨d,rfl⟩:=Q3 h;exact((mono m d).2 j a).symm;obtain⟨d,rfl⟩:=Q3 h;exact(mono k d).2 j g
 have:∃T:Nat->jq->Nat,∀k j,j<(s k).1.w.3->T j=(s k).1.w.2 j:=by
  classical
  refine⟨λj=>if h:∃k,j<(s k).1.w.3 then(s<|Q2 h).1.w.2 j else λ_=>0,λk j b=>?_⟩;have h:∃k,j<(s k).1.w.3:=⟨k,b⟩;dsimp only;rw[dif_pos h];exact J _ _ _ (JH h) b
 obtain⟨T,p⟩:=this;have run:∀k,runN P k (lone (s 0).1.1 (s 0).1.2<|aN (s 0).1.w T)=.next (lone (s k).1.1 (s k).1.2<|aN (s k).1.w T):=by
  intro k;induction k with
  |zero=>rfl
  |succ k e=>
   obtain⟨f,E⟩:=(i k).2.2 T<|p<|k+1;rw[runN_add P k 1,e];dsimp only[runN];rw[qQ E]
 obtain⟨n,K,L,a,g⟩:=(s 0).2.2.1 T<|p 0;rw[run n]at a;simp at a;obtain⟨v,z,A⟩:=wA a;refine(s n).2.2.2 ?_;rw[v,z];have l:=o _ _ (s n).1.w.2 g;rw[<-A]at l;exact .done l
end
structure Fit(P:bj)(F:bw->Bool)(f:Ren)(v w:ag):Prop where
 low:∀a b,f a=some b->P.globals.size<=a∧P.globals.size<=b
 big:lA P.globals.size v∧P.globals.size<=w.1.size
 heap:∀a b,f a=some b->∃o o',v.1[a]?=some o∧w.1[b]?=some o'∧ek P F (cN P F) f o o'
 inj:f.U
def eu(P:bj)(a:cm s):Prop:=∀w T,a.run P (aN w T)=match a.run P w with| .ok b a=>.ok b (aN a T)| .halt h a=>.halt h (aN a T)
section
variable{mb:Bool}{P:bj}{F:bw->Bool}{f g:Ren}{v w w':ag}
theorem Fit.B(h:dB P F (cN P F) f v w):Fit P F f v w:=⟨h.1,h.2,h.3,h.4⟩
theorem Fit.O(h:Fit P F f v w):dB P F (cN P F) f (aN v λj=>w.2<|w.3+(j- v.3)) w:=
 ⟨h.1,h.2,h.3,h.4,λi q=>by show w.2 (w.3+(v.3+i- v.3)) q=_;grind⟩
theorem Fit.Y(h:Fit P F f v w)(T:Nat->jq->Nat):Fit P F f (aN v T) w:=⟨h.1,h.2,h.3,h.4⟩
theorem Fit.T{T:Nat->jq->Nat}(h:Fit P F f (aN v T) w):Fit P F f v w:=⟨h.1,h.2,h.3,h.4⟩
theorem eu.I a:eu P (cD a:cm s):=λ_ _=>rfl
theorem eu.bN h:eu P (Hi h:cm s):=λ_ _=>rfl
theorem eu.V:eu P qi:=λ_ _=>rfl
theorem run_bind{a b:Type}(s:cm a)(k:a->cm b)(w:ag):(s>>= k).run P w=match s.run P w with| .ok a w1=>(k a).run P w1| .halt h w1=>.halt h w1:=by
 rw[<-vy P _ w #[],runT_bind',<-vy P s w #[]];generalize s.runT P w #[]=r;obtain⟨r,b⟩:=r;cases r with
 |ok a w1=>simp_all
 |halt h w1=>rfl
theorem eu.B{a b:Type}{s:cm a}{k:a->cm b}(c:eu P s)(b:∀a,eu P<|k a):eu P<|s>>= k:=by
 intro w T;rw[run_bind,run_bind,c w T];cases s.run P w with
 |ok a w1=>exact b a _ T
 |halt h w1=>rfl
theorem eu.ac(a:bC):eu P<|Aa a:=by
 intro w T;simp;have b:gK (aN w T) a=w.cell? a:=rfl;have c:Hj P (aN w T) a (Hk==.atomic)=w.farLoad P a _:=rfl;rw[b,c];cases w.cell? a with
 |some x=>rfl
 |none=>
  cases w.farLoad P a (Hk==.atomic)with
  |ok r=>rfl
  |error h=>rfl
theorem eu.Y(t:bB):eu P<|Dt t:=by
 refine .B .V λp=>?_;split;exact .I _;exact .bN _
theorem eu.T(t:bB):eu P<|ry t:=by
 refine .B .V λp=>?_;split;exact .I _;exact .bN _
theorem eu.cW(t:bB):eu P<|QQ t:=by
 refine .B (.T t) λd=>?_;split<;>exact .I _
theorem eu.O(a:bC):∀(n i) b,eu P<|Jh a i n b
 |0,_,_=>.I _
 |n+1,i,_=>.B (.ac _) λ_=>eu.O a n (i+1) _
theorem eu.m(t:bB)(a:bC):eu P<|Hn t a:=by
 refine .B (.cW t) λb=>?_;split;exact .B (.B (.Y t) λ_=>.I _) λn=>.B (.O a n 0 _) λ_=>.I _;exact .ac a
theorem eu.ab(x):eu P<|Ac x:=by
 unfold Ac;split;exact .I _;exact λ_ _=>rfl;exact .bN _
theorem eu.Z:∀(l:List s),(∀x∈l,eu P<|e8 x)->eu P (l.mapM e8)
 | [],_=>aV<|eu.I (P:=P) ([]:List aq)
 |a::l,h=>by
  simp;exact .B (h a<|jM ..) λ_=>.B (eu.Z l λy a=>h y<|rz _ a) λ_=>.I _
theorem eu.U(fn:Func)(t):eu P<|Jy fn t:=by
 refine .B ?_ λ_=>.I _;simp[Jj];refine .B (.Z _ λx _=>?_) λ_=>.I _;cases x with
 |tmp i=>exact .I _
 |cell a ty=>exact .B (.ab _) λ_=>.m _ _
def xI(P:bj)(fn:bw)(R:aq->ag->Prop)(fr:az)(w:ag):Prop:=
 fr.5=.returning∧fr.4= []∧fr.1=fn∧∃x u,P.funcs[fn]?=some x∧(results x fr.2).run P w=.ok u w∧R u w
theorem xI.B{fn:bw}(g:∀u k T,Q u k->Q u (aN k T)){fr:az} T(h:xI P fn Q fr k):xI P fn Q fr<|aN k T:=by
 obtain⟨a,b,c,x,u,d,e,f⟩:=h;exact⟨a,b,c,x,u,d,by rw[eu.U x _ k T,e],g _ _ _ f⟩
theorem SP{fn:bw}
  (h:∀T,Calls P fn e (aN w T) λa w'=>∃u,a=.returned u∧Q u w'):xq P (xI P fn Q) ⟨ej P fn e .normal,[wall],w⟩:=by
 intro T _;obtain⟨a,w',fr,⟨u,rfl,g⟩,⟨n,d⟩,a,c,b,_,x,i,f⟩:=h T [wall];exact⟨n,fr,w',d,c,b,a,x,u,a▸i,f,g⟩
def vM(P:bj)(mb:Bool)(F:bw->Bool)(f:Ren)(fr:az)(cs:List az)(w:ag)(K:Ren->ag->az->List az->Prop):Prop:=
 ∃b cs1 w1 a g c,stepG P mb {frame:=fr,callers:=cs,status:=.running,dying:=none} w=.go {frame:=b,callers:=cs1,status:=.running,dying:=none} w1 a∧
  Fit P F g c w1∧km f g w w1∧(∀e∈a,kP g e)∧K g c b cs1
theorem LT.I{D:az->ag->Prop}{w:ag}(a:LT P D c h w):∃n,Reach P D (lone c h w) n:=by
 induction a with
 | @done c w a=>exact⟨0,c,w,rfl,a⟩
 | @step c h w a b e=>
  obtain⟨b,cs1,w1,b,b,_⟩:=a w.2;obtain⟨n,a,w2,d,d⟩:=e _ _ _ _ _ b;exact⟨n+1,a,w2,by simp[runN];rw[qQ (show stepG P _ _ w=_ from b)];omega,d⟩
theorem ad9: ¬jv P F f wall c:=by
 intro h;have a:=h.5;cases a
variable{y:Ren}{e1:Ren->ag->az->List az->Prop}
theorem LT.O(H:Held P F)
  (j:∀f k fr cs,(∀w,Fit P F f k w->vM P mb F f fr cs w e1)->e1 f k fr cs)
  (e:∀f c k fr,y.O f->b3 c k->jv P F f c fr->e1 f k fr o)
  {a:List az}(h:LT P b3 c a k):
  ∀ {f:Ren}{fr:az}{cs:List az},y.O f->gR P F f [wall] o c a fr cs->e1 f k fr cs:=by
 have g:=h;induction h with
 | @done c k i=>
  intro f fr cs d b;cases b with
  |last h _=>exact e f _ k _ d i h
  |more h t=>exact absurd t.B ad9
 | @step c a k h n q=>
  intro f fr cs d b;by_cases i:b3 c k∧a= [wall]∧cs=o;obtain⟨a,rfl,rfl⟩:=i;exact e f _ k _ d a b.B;refine j f k _ _ λw e=>?_;rcases ew.U (mb:=mb) H e.O b with⟨a,e,j,j,l⟩|m;subst j;obtain⟨p,j⟩:=g.I;exact absurd j (MA a e b.B.8.1 (λg=>i ⟨g,rfl,l⟩) p);obtain⟨b,cs1,w1,b,a,e⟩:=h λj=>w.2 (w.3+(j- k.3));cases m with
  |calm b l p i m j g g g=>
   obtain⟨⟨rfl,rfl⟩,rfl,rfl⟩:=(b.symm.trans a);exact⟨_,_,_,_,_,_,l,.B p,i,j,q _ _ _ _ _ a (n _ _ _ _ _ a) (Ren.B d i.1) m⟩
  |yr b g=>
   obtain⟨⟨rfl,rfl⟩,rfl,rfl⟩:=(b.symm.trans a);obtain⟨ch,d⟩:=g.1;exact absurd d (e _)
  |ended b=>rw[show stepG P _ _ _=_ from a]at b;cases b
theorem V1(H:Held P F){X:Ren->ag->az->List az->Prop}
  (O:∀f v fr h,(∀w,Fit P F f v w->vM P mb F f fr h w X)->X f v fr h)
  {fn:bw}(hF:F fn=true){e o:Array aq}(I:RelA F y e o)(d:∃w,Fit P F y k w)(G:∀u w T,Q u w->Q u (aN w T))
  (J:∀T,Calls P fn e (aN k T) λi w'=>∃u,i=.returned u∧Q u w')
  (N:∀f u n v,y.O f->av F f u n->Q u v->X f v (c.finish n) h):X y k (ej P fn o .normal)<|c::h:=by
 obtain⟨w,d⟩:=d;have hrel:gR P F _ [wall] _ _ _ _<|c::h:=.last (.I H hF aa) rfl;have Y:Good P F ⟨ej P fn e .normal,[wall],k⟩:=by
  have:gR P F y [wall] [] _ [wall] _ []:=.last (.I H hF I) rfl;exact M3 ⟨y,_,_,w,d.O,this⟩ k.2
 refine LT.O H aa ?_ (LT.B H (λ_ _ l=>l.1) (λ_ _ T l=>xI.B G T l) aa<|SP J) y.I hrel;intro f q v fr M K b;obtain⟨t,z,A,x,u,B,D,E⟩:=K;refine O f v _ _ λw d=>?_;have r:=b.6.trans t;have L:fr.4= []:=by
  have:=b.5;rw[z]at this;generalize fr.4=Z at this;cases this;rfl
 have R:P.funcs[fr.1]?=some x:=by rw[b.1,A];exact B
 have m:∃p,(results x q.2).runT P (aN v λj=>w.2<|w.3+(j- v.3)) #[]=(.ok u<|aN v λj=>w.2<|w.3+(j- v.3),p):=by
  have:=eu.U (P:=P) x q.2 v λj=>w.2<|w.3+(j- v.3);rw[D]at this;rw[<-vy P _ _ #[]]at this;exact⟨_,Prod.ext this rfl⟩
 obtain⟨p,m⟩:=m;let⟨g,n,w1,W,S,i2,i3,U,V⟩:=(ak.EH (C:=cN P F) x b.3).1 _ w _ #[] d.O u _ _ m;refine⟨_,h,w1,seen P fr.1 W++ #[],g,v,?_,(Fit.B i2).T,i3,?_,N g u _ v (Ren.B M i3.1) U E⟩;have s:stepG P mb {frame:=fr,callers:=c::h,status:=.running,dying:=none} w=ql P mb fr (c::h) none w:=by
  unfold stepG;dsimp only;rw[r]
 rw[s];unfold ql;rw[L];rw[r];rw[R];simp only;rw[S];unfold doReturn;rw[b.8.2];simp;rfl;intro i a;obtain a|a:=mP.1 a;exact V i<|GN _ _ _ _ a;simp at a
end
section
open Go.Conc
inductive cZ where
 |leaf
 |node (c:ag->cZ)
inductive cZ.vq:cZ->cZ->Prop
 |child (c:ag->cZ) (w:ag):cZ.vq (c w) (.node c)
theorem cZ.O:WellFounded cZ.vq:=by
 refine⟨λt=>?_⟩;induction t with
 |leaf=>exact⟨_,λs h=>nomatch h⟩
 |node c a=>exact⟨_,λs h=>by cases h with|child _ w=>exact a w⟩
structure aG where
 tok:Option (Ren×ag)
 e:Nat->Option bI
 s:Nat->Option bI
def aG.B(r:aG)(b:Nat):Prop:=r.e b≠none∨∃f v a,r.1=some (f,v)∧f a=some b
structure aG.Fits(P:bj)(F:bw->Bool)(r:aG)(w:ag):Prop where
 tok:∀f v,r.1=some (f,v)->Fit P F f v w
 e:∀b o,r.e b=some o->w.1[b]?=some o
 s:∀b o,r.s b=some o->w.1[b]?=some o
 apart:∀f v,r.1=some (f,v)->∀a b,f a=some b->r.e b=none∧r.s b=none
 alone:∀b o,r.e b=some o->r.s b=none
structure Only(r r':aG)(w w':ag):Prop where
 tape:w'.2=w.2
 os:w'.4=w.4
 output:w'.5=w.5
 size:w.1.size<=w'.1.size
 off:∀b,b<w.1.size->¬r.B b->w'.1[b]?=w.1[b]?
 fresh:∀b,r'.B b->r.B b∨w.1.size<=b
 seen:∀b o,r'.s b=some o->r.s b=some o
def lB(r:aG)(e:gY):Prop:=
 match e with
 |⟨.cell a,wr,s⟩=>s=false∧(r.B a.1∨(wr=false∧r.s a.1≠none))
 |⟨.obj b,wr,s⟩=>s=false∧(r.B b∨(wr=false∧r.s b≠none))
 |⟨.mark (.extern _),_,_⟩|⟨.mark .noRoom,_,_⟩=>True
 |_=>False
def nH(P:bj)(d:Bool)(F:bw->Bool)(r:aG)(fr:az)(cs:List az)(w:ag)(K:aG->az->List az->Prop):Prop:=
 ∃c cs1 w1 b a,stepG P d {frame:=fr,callers:=cs,status:=.running,dying:=none} w=.go {frame:=c,callers:=cs1,status:=.running,dying:=none} w1 b∧
  a.Fits P F w1∧Only r a w w1∧(∀e∈b,lB a e)∧K a c cs1
def Walk(P:bj)(b:Bool)(F:bw->Bool)(a:aG->az->List az->Prop):cZ->aG->az->List az->Prop
 | .leaf,r,fr,cs=>a r fr cs
 | .node c,r,fr,cs=>∀w,r.Fits P F w->nH P b F r fr cs w (Walk P b F a (c w))
def ar(P:bj)(b:Bool)(F:bw->Bool)(a:aG->az->List az->Prop)(r:aG)(fr:az)(cs:List az):Prop:=∃t,Walk P b F a t r fr cs
section
variable{mb:Bool}{P:bj}{F:bw->Bool}{Stop Stop':aG->az->List az->Prop}{r:aG}{fr:az}{cs:List az}
theorem ar.O(h:Stop r fr cs):ar P mb F Stop r fr cs:=⟨.leaf,h⟩
variable{y:Ren}{e1:Ren->ag->az->List az->Prop}{f5 i5:aG->az->List az->Prop}
theorem nH.I{w:ag}(h:nH P mb F r fr cs w f5)(i:∀r fr cs,f5 r fr cs->i5 r fr cs):nH P mb F r fr cs w i5:=by
 obtain⟨b,cs1,w1,a,j,c,d,e,f,g⟩:=h;exact⟨b,cs1,w1,a,j,c,d,e,f,i _ _ _ g⟩
theorem ar.U(h:∀w,r.Fits P F w->nH P mb F r fr cs w (ar P mb F Stop)):ar P mb F Stop r fr cs:=by
 classical
 have:∀w:ag,∃t:cZ,r.Fits P F w->nH P mb F r fr cs w (Walk P mb F Stop t):=by
  intro w;by_cases a:r.Fits P F w;obtain⟨c,cs1,w1,b,j,d,e,f,g,t,i⟩:=h w a;exact⟨t,λ_=>⟨c,cs1,w1,b,j,d,e,f,g,i⟩⟩;exact⟨.leaf,λh=>absurd h a⟩
 exact⟨.node _,λw a=>JH (this w) a⟩
theorem ar.Y(h:ar P mb F Stop r fr cs)(a:∀r fr cs,Stop r fr cs->Stop' r fr cs):ar P mb F Stop' r fr cs:=by
 obtain⟨t,h⟩:=h;induction t generalizing r fr cs with
 |leaf=>exact .O<|a _ _ _ h
 |node c b=>exact .U λw a=>(h w a).I λ_ _ _ a=>b w a
theorem nH.B{f:Ren}{v w:ag}(k:(⟨some (f,v),H,N⟩:aG).Fits P F w)
  (h:vM P mb F f fr cs w e1)
  (x:∀g d i cs1,f.O g->e1 g d i cs1->f5 ⟨some (g,d),H,N⟩ i cs1):nH P mb F ⟨some (f,v),H,N⟩ fr cs w f5:=by
 obtain⟨i,cs1,w1,r,g,d,l,j,c,s,t⟩:=h;have q:∀(b:Nat)(o:bI),w.1[b]?=some o->b<w.1.size:=aJ;have held:∀b o,(H b=some o∨N b=some o)->w.1[b]?=some o:=λb o h=>h.elim (k.e b o)<|k.s b o;have m:∀b o,(H b=some o∨N b=some o)->∀a,f a≠some b:=by
  intro b o h a e;obtain⟨l,j⟩:=k.4 f v rfl a b e;obtain h|h:=h;rw[show H b=none from l]at h;cases h;rw[show N b=none from j]at h;cases h
 have p:∀b o,(H b=some o∨N b=some o)->w1.1[b]?=some o:=by
  intro b o h;have j:=held b o h;rw[c.6 b (q b o j)<|m b o h];exact j
 have apart:∀b o,(H b=some o∨N b=some o)->∀a,g a≠some b:=by
  intro b o j a u;obtain n|n:=c.7 a b u;exact m b o j a n;have:=q b o<|held b o j;omega
 have j:∀a b,g a=some b->H b=none∧N b=none:=by
  intro a b j;refine⟨?_,?_⟩;cases j:H b with
  |none=>rfl
  |some o=>grind
  cases m:N b with
  |none=>rfl
  |some o=>grind
 refine⟨i,cs1,w1,r,⟨some (g,d),H,N⟩,l,⟨?_,λb o h=>p b o<|.inl h,λb o h=>p b o<|.inr h,?_,k.5⟩,⟨c.2,c.3,c.4,c.5,?_,?_,af⟩,?_,x _ _ _ _ c.1 t⟩;grind;intro i m j;obtain⟨rfl,rfl⟩:=j;omega;exact λb k l=>c.6 b k λa e=>l<|.inr ⟨f,v,a,rfl,e⟩;rintro b (k|⟨i,m,a,j,e⟩);exact .inl<|.inl k;obtain⟨rfl,rfl⟩:=j;obtain h|h:=c.7 a b e;exact .inl<|.inr ⟨f,v,a,rfl,h⟩;omega;intro a a;have:=s _ a;unfold kP at this;split at this;exact⟨this.1,.inl<|.inr ⟨g,d,_,rfl,this.2.choose_spec⟩⟩;exact⟨this.1,.inl<|.inr ⟨g,d,_,rfl,this.2.choose_spec⟩⟩;trivial;trivial;exact this.elim
theorem ar.m(e:Held P F){f0:Ren}{v0:ag}(hF:F v=true){args args':Array aq}(a:RelA F f0 args args')(b:∃w,Fit P F f0 v0 w)
  {R:aq->ag->Prop}(g:∀u w T,R u w->R u (aN w T))(h:∀T,Calls P v args (aN v0 T) λH a=>∃u,H=.returned u∧R u a)
  {c:az}(a:∀f u d a,f0.O f->av F f u d->R u a->ar P mb F Stop ⟨some (f,a),H,N⟩ (c.finish d) cs):
  ar P mb F Stop ⟨some (f0,v0),H,N⟩ (ej P v args' .normal)<|c::cs:=by
 refine V1 (mb:=mb) e (X:=λf a fr cs=>ar P _ F _ ⟨some (f,a),H,N⟩ fr cs) ?_ hF aa b g h ?_;exact λf a fr cs h=>.U λw b=>nH.B b (h w<|b.1 _ _ rfl) af;omega
theorem Only.B(r:aG)(w:ag):Only r r w w:=⟨rfl,rfl,rfl,cP _,λ_ _ _=>rfl,λ_ h=>.inl h,λ_ _ h=>h⟩
theorem ar.V{cs1:List az}(h:∀w,r.Fits P F w->∃a,stepG P mb {frame:=fr,callers:=cs,status:=.running,dying:=none} w=.go {frame:=c,callers:=cs1,status:=.running,dying:=none} w a∧∀e∈a,lB r e)
  (f:ar P mb F Stop r c cs1):ar P mb F Stop r fr cs:=
 .U λw b=>by
  obtain⟨a,d,e⟩:=h w b;exact⟨c,cs1,w,a,r,d,b,.B r w,e,f⟩
def aG.I(r:aG)(b:Nat)(o:bI):aG:={r with e:=λx=>if x=b then some o else r.e x}
theorem Fit.U{v w w1:ag}(h:Fit P F y v w)(a:∀(b:Nat) o,w.1[b]?=some o->w1.1[b]?=some o)(a:w<=w1.1.size):Fit P F y v w1:=by
 refine⟨h.1,⟨h.2.1,dI h.2.2 a⟩,λa b c=>?_,h.4⟩;obtain⟨o,d,d,d,d⟩:=h.3 a b c;grind
theorem aG.Fits.O{w w1:ag}(h:r.Fits P F w)(j:w1.1=w.1.push z):(r.I w z).Fits P F w1:=by
 have i:∀(b:Nat)(z:bI),w.1[b]?=some z->b<w.1.size:=aJ;have d:∀(b:Nat)(z:bI),w.1[b]?=some z->w1.1[b]?=some z:=aJ
 refine⟨λf v c=>(h.1 f v c).U d<|cw j,λb x a=>?_,λb x a=>d b x<|h.s b x a,λf v c e b g=>?_,λb x a=>?_⟩;simp[aG.I]at a;split at a;grind;exact d b x<|h.e b x a;have m:=h.4 f v c e b g;obtain⟨_,_,_,k,_⟩:=(h.1 f v c).3 e b g;have:=i b _ k;refine⟨?_,m.2⟩;simp[aG.I];grind;simp[aG.I]at a;split at a;rename_i l;subst l;show r.s _=none;cases n:r.s w.1.size with
 |none=>rfl
 |some y=>exact absurd (i _ _<|h.s _ _ n)<|Hh _
 exact h.5 b x a
theorem Only.I{w w1:ag}(a:w1.1=w.1.push z)(c:w1.2=w.2)(b:w1.4=w.4)(d:w1.5=w.5):Only r (r.I w z) w w1:=by
 refine⟨c,b,d,cw a,λb a _=>by grind,?_,λ_ _ h=>h⟩;rintro b (a|a);simp[aG.I]at a;split at a;omega;exact .inl<|.inl a;exact .inl<|.inr a
theorem aG.Fits.T{o q:bI}(h:r.Fits P F k)(g:r.e i=some o)(s:C.1=k.1.setIfInBounds i q):(r.I i q).Fits P F C:=by
 have A:=(fU.1<|h.e i o g).1;have l:∀(x:Nat),x≠i->C.1[x]?=k.1[x]? :=aJ
 refine⟨λf v d=>?_,λx y a=>?_,λx y a=>?_,λf v d c x t=>?_,λx y a=>?_⟩;have b:=h.1 f v d;refine⟨b.1,⟨b.2.1,by rw[s];simpa using b.2.2⟩,λc e n=>?_,b.4⟩;obtain⟨p,z,w,i2,i3⟩:=b.3 c e n;refine⟨p,z,w,?_,i3⟩;rw[l e λm=>?_];omega;have:=(h.4 f v d c e n).1;grind;simp[aG.I]at a;split at a;grind;rename_i j;rw[l x j];exact h.e x y a;rw[l x λm=>?_];exact h.s x y a;have:=h.5 i o g;rw[m,show(r.I i _).s i=none from this]at a;grind;have u:=h.4 f v d c x t;refine⟨?_,u.2⟩;simp[aG.I];grind;simp[aG.I]at a;split at a;rename_i j;subst j;exact h.5 x o g;exact h.5 x y a
theorem Only.O{w w1:ag}{b:Nat}(j:r.e b=some M)(c:w1.1=w.1.setIfInBounds b z)(f:w1.2=w.2)(e:w1.4=w.4)(g:w1.5=w.5):Only r (r.I b z) w w1:=by
 refine⟨f,e,g,cw c,λx _ d=>?_,?_,λ_ _ h=>h⟩;rw[c,mQ];exact λi=>d<|.inl (by grind);rintro x (a|a);simp[aG.I]at a;split at a;rename_i k;exact .inl<|.inl (by grind);exact .inl<|.inl a;exact .inl<|.inr a
end
abbrev aU:=Nat×Nat×cZ
abbrev aU.B:aU->aU->Prop:=DC (·< ·) (DC (·< ·) cZ.vq)
theorem aU.V:WellFounded aU.B:=by
 let a:WellFoundedRelation Nat:=⟨(·< ·),Nat.lt_wfRel.wf⟩
 let c:WellFoundedRelation _:=⟨_,cZ.O⟩
 exact(JI a<|JI a c).wf
def Row:Nat->Type
 |0=>Unit
 |n+1=>aU×Row n
def Row.B:(n:Nat)->Row n->Row n->Prop
 |0=>λ_ _=>False
 |n+1=>DC aU.B (Row.B n)
theorem Row.I:(n:Nat)->WellFounded (Row.B n)
 |0=>⟨λ_=>⟨_,λ_ h=>h.elim⟩⟩
 |n+1=>by
  let a:WellFoundedRelation _:=⟨_,aU.V⟩
  let b:WellFoundedRelation<|Row n:=⟨Row.B n,Row.I n⟩
  exact(JI a b).wf
def wJ(f:Nat->aU):(n:Nat)->(i:Nat)->Row n
 |0,_=>()
 |n+1,i=>(f i,wJ f n (i+1))
theorem yV{f g:Nat->aU}{k:Nat}(c:aU.B (f k)<|g k):∀(n i),i<=k->k<i+n->(∀j,i<=j->j<k->f j=g j)->Row.B n (wJ f n i) (wJ g n i)
 |0,i,h,a,_=>absurd a aa
 |n+1,i,h,a,b=>by
  by_cases l:i=k;subst l;exact .left _ _ c;have e:=b i aa aa;show DC aU.B (Row.B n) (f i,wJ f n<|i+1) (g i,wJ g n<|i+1);rw[e];exact .right _<|yV c n _ aa aa λj m d=>b j aa d
abbrev Em(n):=Row n×Nat
abbrev Em.O(n):Em n->Em n->Prop:=DC (Row.B n) (·< ·)
section
variable{P:bj}{gs:Array Goroutine}{w w₁:ag}{sl:Option (Nat×Nat)}{i j:Nat}{g g₂ gj:Goroutine}{es:Array gY}{shape shj:CommShape}{blocking:Bool}
 {c cap s r:Nat} {buf:Array aq} {closed tm:Bool} {v z zj:aq}
theorem WL(e:gs[i]?=some g)(h:stepG P (i==0) g w=.comm g₂ #[rcase c z] blocking shape w₁ es)(b:w₁.1[c]?=some (.chan cap buf closed s r tm))(n:0<buf.size)
  (f:j≠i)(k:gs[j]?=some (parked gj #[scase c v zj] shj))(m:partners (gs.setIfInBounds i ph) c true= [(j,0)]):
  runT P (crowd gs w sl) i=(.next<|crowd ((gs.setIfInBounds j<|gj.finishComm P #[scase c v zj] shj 0 aj false).setIfInBounds i<|g₂.finishComm P #[rcase c z] shape 0 (buf.getD 0 aj) true) (w₁.setChan c cap ((buf.extract 1 buf).push v) closed (s+1) (r+1) tm) sl,
   MemOp.ofEvents i g.1.1 g.1.place es++ #[{g:=i,fn:=g₂.1.1,pos:=g₂.1.place,act:=.recv c r cap},{g:=i,fn:=g₂.1.1,pos:=g₂.1.place,act:=.recvDone c r},
    {g:=j,fn:=gj.1.1,pos:=gj.1.place,act:=.send c s},{g:=j,fn:=gj.1.1,pos:=gj.1.place,act:=.sendDone c s}]):=by
 rw[runT_crowd_comm e h];have a:=stand_get (i:=i) f k;have d:(gs.setIfInBounds i ph).getD j default=parked gj #[scase c v zj] shj:=iq
 have l:offeredValue (gs.setIfInBounds i ph) j 0=v:=by simp[offeredValue,a,parked,scase]
 simp[communicate,ways,rcase,b,m,n,choose,Sem.run,aeA,World.setChan,crowd,(finishPartner_at P _ a (cs:= #[scase c v _]) (sh:=shj) rfl 0 _),d,l,set_stand2,scase,parked];rfl
end
end
section
open Go.Conc
open Go.ConcN (upd upd_same upd_ne)
structure cx where
 mD:List aq
 rc:Nat
 cl:Bool
 tm:Bool
 pend:Option (Ren×ag)
def room:Nat:=64
def cx.B(c:cx):Obj:=.chan room (c.1.drop c.2).toArray c.3 c.1 c.2 c.4
structure dx where
 r:Nat->aG
 ch:Nat->Option cx
def aG.O(r:aG)(b:Nat):Prop:=r.B b∨r.s b≠none
structure fX(P:bj)(F:bw->Bool)(k:Nat->Nat)(wg:Nat)(c:dx)(w:ag):Prop where
 fits:∀i,(c.r i).Fits P F w
 sep:∀i j b,i≠j->(c.r i).B b->¬(c.r j).O b
 chan:∀i h,c.2 i=some h->w.1[k i]?=some h.B
 afo:∀i h,c.2 i=some h->h.2<=h.1.length
 free:∀i h j,c.2 i=some h->¬(c.r j).O (k i)
 inj:∀i j h h',c.2 i=some h->c.2 j=some h'->k i=k j->i=j
 afw:wg<w.1.size
 afv:∀j,¬(c.r j).O wg
 afu:∀i h,c.2 i=some h->k i≠wg
 pend:∀i h f v,c.2 i=some h->h.5=some (f,v)->Fit P F f v w
 afm:∀i h f v a b,c.2 i=some h->h.5=some (f,v)->f a=some b->(∀j,¬(c.r j).O b)∧b≠wg∧(∀j h',c.2 j=some h'->k j≠b)∧∀j h' f' v' a',j≠i->c.2 j=some h'->h'.5=some (f',v')->f' a'≠some b
section
variable{P:bj}{F:bw->Bool}{k:Nat->Nat}{wg:Nat}{c:dx}{w w1:ag}{i:Nat}{r1:aG}
theorem aG.Fits.B{r:aG}{w:ag}(h:r.Fits P F w){b:Nat}(a:r.O b):b<w:=by
 have d:∀(b:Nat)(o:bI),w.1[b]?=some o->b<w.1.size:=aJ;obtain (a|⟨f,v,e,i,g⟩)|a:=a;let⟨o,c⟩:=pH.1 a;exact d b o<|h.e b o c;obtain⟨_,j,_,j,_⟩:=(h.1 f v i).3 e b g;grind;let⟨o,c⟩:=pH.1 a;exact d b o<|h.s b o c
theorem aG.Fits.I{r:aG}(h:r.Fits P F w)(d:∀b,r.O b->w1.1[b]?=w.1[b]?)(e:w<=w1.1.size):r.Fits P F w1:=by
 refine⟨λf v i=>?_,λb o a=>?_,λb o a=>?_,h.4,h.5⟩;have c:=h.1 f v i;refine⟨c.1,⟨c.2.1,dI c.2.2 e⟩,λe b g=>?_,c.4⟩;obtain⟨o,l,j,k,k⟩:=c.3 e b g;exact⟨o,l,j,by rw[d b<|.inl<|.inr ⟨f,v,e,i,g⟩];omega,k⟩;rw[d b<|.inl<|.inl<|cw a];exact h.e b o a;rw[d b<|.inr<|cw a];exact h.s b o a
variable{y:Ren}
theorem Fit.I{v:ag}(h:Fit P F y v w)(a:∀a b,y a=some b->w1.1[b]?=w.1[b]?)(c:w<=w1.1.size):Fit P F y v w1:=by
 refine⟨h.1,⟨h.2.1,dI h.2.2 c⟩,λa b c=>?_,h.4⟩;obtain⟨o,d,d,d,d⟩:=h.3 a b c;grind
theorem fX.V(h:fX P F k wg c w)(f:Only (c.r i) r1 w w1)(y:r1.Fits P F w1):fX P F k wg {c with r:=upd c.r i r1} w1:=by
 have u:∀(b:Nat)(o:bI),w.1[b]?=some o->b<w.1.size:=aJ;have l:∀b,r1.O b->b<w.1.size->(c.r i).O b:=by
  intro b a g;obtain a|a:=a;obtain d|d:=f.6 b a;exact .inl d;omega;obtain⟨o,e⟩:=pH.1 a;exact .inr<|cw<|f.7 b o e
 have A:∀b,r1.B b->b<w.1.size->(c.r i).B b:=by
  intro b a g;obtain d|d:=f.6 b a;exact d;omega
 have z:∀j b,j≠i->(c.r j).O b->w1.1[b]?=w.1[b]? :=by
  exact λj b e a=>f.5 b ((h.1 j).B a) λo=>h.2 i j b (λd=>e d.symm) o a
 have p:∀j b,({c with r:=upd c.r i r1}:dx).r j|>.O b->b<w.1.size->(c.r j).O b:=by
  intro j b a g;by_cases e:j=i;subst e;simp[upd_same]at a;exact l b a g;simpa only[upd_ne c.r r1 e]using a
 refine⟨λj=>?_,λj s b t a q=>?_,λj x d=>?_,h.4,λj x s d a=>?_,h.6,kJ h.7 f.4,λj a=>?_,h.9,λj x g v d l=>?_,λj x g v m b d l n=>?_⟩;by_cases e:j=i;subst e;simp[upd_same];exact y;simp[upd_ne _ _ e];exact(h.1 j).I (λb a=>z j b e a) f.4;by_cases e:j=i;subst e;have y:s≠j:=aa;simp[upd_same]at a;simp[upd_ne _ _ y]at q;exact h.2 j _ b t (A b a<|(h.1 _).B q) q;simp[upd_ne _ _ e]at a;exact h.2 j _ b t a<|p _ b q ((h.1 j).B<|.inl a);have e:=h.3 j x d;rw[f.5 _ (u _ _ e) λo=>h.5 j x i d<|.inl o];omega;exact h.5 j x _ d<|p _ _ a<|u _ _<|h.3 j x d;exact h.8 j<|p j _ a h.7
 exact(h.10 j x g v d l).I (λm b n=>f.5 b (by
  obtain⟨_,q,_,e,_⟩:=(h.10 j x g v d l).3 m b n
  grind) λo=>(h.11 j x g v m b d l n).1 i<|.inl o) f.4
 obtain⟨p1,p2,p3,p4⟩:=h.11 j x g v m b d l n;refine⟨λs a=>p1 _<|p _ b a ?_,p2,p3,p4⟩;obtain⟨_,q,_,e,_⟩:=(h.10 j x g v d l).3 m b n;grind
theorem fX.B(h:fX P F k wg c w){x y:cx}(n:c.2 i=some x)(a:y.2<=y.1)(e:y.5=x.5)(a:w1.1=w.1.setIfInBounds (k i) y.B):fX P F k wg {c with ch:=upd c.2 i (some y)} w1:=by
 have a:=(fU.1<|h.3 i x n).1;have A:∀b,b≠k i->w1.1[b]?=w.1[b]? :=aJ
 have B:w.1.size<=w1.1.size:=aJ;have old:∀j z,upd c.2 i (some y) j=some z->∃g,c.2 j=some g∧z.5=g.5:=by
  intro j z a;by_cases d:j=i;subst d;simp[upd_same]at a;subst a;exact⟨x,n,e⟩;rw[upd_ne c.2 (some y) d]at a;exact⟨z,a,rfl⟩
 refine⟨λj=>(h.1 j).I (λb e=>A b λl=>h.5 i x j n<|l▸e) B,h.2,λj z a=>?_,λj z a=>?_,λj z e a=>?_,λj e z p a o l=>?_,kJ h.7 B,h.8,λj z a=>?_,λj z f v a r=>?_,λj z f v t b a r u=>?_⟩;by_cases d:j=i;subst d;simp[upd_same]at a;grind;simp only at a;rw[upd_ne _ _ d]at a;rw[A _ λl=>d<|h.6 j i z x a n l];exact h.3 j z a;by_cases d:j=i;subst d;simp[upd_same]at a;grind;simp only at a;rw[upd_ne _ _ d]at a;exact h.4 j z a;obtain⟨g,d,_⟩:=old j z a;exact h.5 j _ _ d;obtain⟨g,d,_⟩:=old j z a;obtain⟨s,m,_⟩:=old e p o;exact h.6 j _ _ _ d m l;obtain⟨g,d,_⟩:=old j z a;exact h.9 j _ d;obtain⟨g,d,q⟩:=old j z a;exact(h.10 j _ f v d<|q▸r).I (λt b u=>A b λl=>(h.11 j _ f v t b d (q▸r) u).2.2.1 i x n aa) B;obtain⟨g,d,q⟩:=old j z a;obtain⟨p1,p2,p3,p4⟩:=h.11 j _ f v t b d (q▸r) u;refine⟨p1,p2,λe p o=>?_,λe p b l a d o j=>?_⟩;obtain⟨s,m,_⟩:=old e p o;exact p3 e s m;obtain⟨s,m,g⟩:=old e p o;exact p4 e s b l a d m<|g▸j
end
end
end
