import Derived.Test.YtkdljbnllgpfhaaGreatA9
import Derived.Test.YtkdljbnllgpfhaaGreatB1
import Derived.Test.YtkdljbnllgpfhaaGreatB2
import Derived.RangeFuncNested
import Derived.RangeFuncBound
import Derived.RangeFuncCalls
import Derived.RangeFuncLeaves
import Derived.OrdersIn
import Derived.WideKeyEntry
set_option maxRecDepth 100000
set_option maxHeartbeats 8000000
open Go renaming World→aly,cell_of_row→aqF,Value→aad,heap_alloc_new→atp,lt_of_block→atm,Oper→apy,run_underlying→auf,Operand→ang,Act→atu,Program→alu,Calls→asP,wpIn_mono→avY,YieldAt→avZ,u16_and_nat→avK,Exit→atY,u16_or_nat→av1,wpOps_eq_wpList→av3,u16_andNot_nat→av4,TypeId→acs,Code→amq,callsIn_wide→av7,bodyPost_ret→atg,Addr→alA,wpIn_region→av9
open Prod renaming fst→aug,snd→auw
open Go.Result renaming andThen→aua
open Go.MapKept renaming run_setObj_map→aul,run_getObj_map→auc
open Go.Fence renaming wide→avM
open List renaming mem_map→amk,length_map→auB,length_filter_le→avN,mem_of_getElem?→ann,map_append→atW,filter_append→avP,take_add_one→at8,length_take→as1,mem_filter→auV,getElem?_eq_getElem→arn,range_eq_range'→avW,length_eraseIdx→avX,getElem_of_mem→asW,mem_singleton→atQ,nodup_append→aus,getElem_map→auC,filter_cons→aol,mem_append→aqo,filter_nil→av0
open Go.Region renaming wanted→apY
open Go.Value renaming oneCell'→atv,map→aos,cells→av2
open Array renaming toList_modify→anv,length_toList→ane,ext'→avR,toList_push→aof,replicate→aps
open Go.ChangeMaps renaming modify_eq_set→avO
open Nat renaming le_trans→al2,lt_succ_self→atG,le_succ→atZ,le_refl→agl,add_assoc→at7,add_zero→at6,zero_le→arQ
open Go.Instr renaming mapUpdate→anJ,entryStore→anD,mapEntry→anL,yield→an1,next→an9
open Go.Code renaming region→apN,seq→av6
open Go.Oper renaming uponIn→avQ,wpIn_mono→avS,wp→atJ,upon→atw
open Go.World renaming block_lt_of_cell?→avT,putObj_heap_same→avU,size_alloc→atS
open Go.RowKit renaming Hid→at3
open Option.some renaming inj→alN
open Option renaming toList_some→avV
open ByteArray renaming empty→ati
open Bool renaming and_eq_true→anh
open Go.Value.slice renaming inj→av5
open Go.WideElems renaming set_self→av8
section
namespace Go.Upr
open Go Go.RowKit
def LG:Obj→Bool| .map _ _=>true|_=>false
def OH:Obj→Bool| .loop _=>true|_=>false
def Za:Obj→Bool| .loop _| .deferred _| .mapIter _ _ _ _=>true|_=>false
theorem fP(w:aly)(r:Nat)(o:Obj):af (·=r) w (w.putObj r o):=
 ⟨rfl,rfl,rfl,by simp,λ_ _ hd=>World.putObj_heap_other hd⟩
abbrev pB(Reads:Nat→Prop)(A:aly)(b:Nat):Prop:=¬Reads b∧∃o,A.heap[b]? =some o∧(LG o=true∨OH o=true)
abbrev nN(A:aly)(b:Nat):Prop:=∃o,A.heap[b]? =some o∧Za o=true
def Oi{α:Type}(P:alu)(g:Nat)(lb:Array aad)(yi:α→Array aad)(S:List α→Prop)(G:α→Prop)(N:Nat)(Reads:Nat→Prop)(w:aly):Prop:=
 ∀ (l:Nat) (J:List α→aly→Prop) (W:aly),af (λ_=>False) w W→
  (∀pre A B,J pre A→af (λb=>W.heap.size≤b∧nN A b) A B→J pre B)→
  (∀pre x A,J pre A→pre.length<N→G x→avZ avM 1 P l (yi x) A λe B=>e= .returned (.bool true)∧J (pre++ [x]) B∧af (pB Reads A) A B)→
  J [] W→asP P g (#[.func (.yield l) #[] #[]]++lb) W λe B=>(∃v,e= .returned v)∧∃xs,S xs∧J xs B
section
variable{α:Type}{P:alu}{g:ang}{ps:Array Tmp}{assign body:amq}{Q:atY→atu→aly→Prop}{a:atu}{w:aly}{gf:Nat}{lb:Array aad}{yi:α→Array aad}{S:List α→Prop}{G:α→Prop}{N:Nat}{Reads:Nat→Prop}{w0:aly}
theorem wu(hg:a.eval g= .func (.func gf) #[] lb)(eg: ∀args w,(callFunc gf args).run P w= .ok (.enter gf args) w)(hseq:Oi P gf lb yi S G N Reads w0)(hb0:af (λ_=>False) w0 w)(qJ: ∀x,(yi x).size=ps.size)
  (Xx: ∀b,Reads b→b<w.heap.size)
  (I:List α→aly→Prop) (hI: ∀pre A B,I pre A→af (λb=>w.heap.size≤b∧nN A b) A B→I pre B) (h0:I [] w)
  (Ax:α→atu→aly→Prop) (SN: ∀x a' A B,Ax x a' A→af (λb=>w.heap.size≤b∧nN A b) A B→Ax x a' B)
  (Gn: ∀ (l:Nat) (pre:List α) (x:α) (A:aly) (K:atu→aly→Prop),I pre A→G x→(∀a' A',af (λ_=>False) A A'→I pre A'→Ax x a' A'→K a' A')→
   assign.wpIn (avM.inRound l) 1 P (Exit.then K (λ_ _ _=>False)) {tmps:=(ps.zip (yi x)).foldl (λt (p,v)=>t.setIfInBounds p v) a.tmps,defers:= []} A)
  (jT: ∀ (l:Nat) (pre:List α) (x:α) (a':atu) (A:aly),I pre A→Ax x a' A→pre.length<N→G x→
   body.wpIn (avM.inRound l) 1 P (λe _ B=>e= .normal∧af (λb=>¬Reads b∧∃o,A.heap[b]? =some o∧LG o=true) A B∧I (pre++ [x]) B) a' A)
  (hdone: ∀ (D:Nat) (xs:List α) (B:aly),w.heap.size≤D→S xs→I xs B→B.heap[D]? =some (.deferred (some []))→Q .normal {a with defers:={target:= .collected D,args:= #[]}::a.defers} B):
  (Code.rangeFunc g ps assign body).wp P Q a w:=by
 refine(wpIn_wide (n:=2)).1 (wpIn_rangeFunc λfn _=>?_);obtain⟨rec,sT⟩: ∃rec:LoopState→Option amq→Loop,rec=λst pe=>{state:=st,pending:=pe,fn,tmps:=a.tmps,params:=ps,assign,body,defers:=w.heap.size}:=⟨_,rfl⟩;obtain⟨W1,hW1⟩: ∃W1,(w.alloc (.deferred (some []))).alloc (.loop (rec .ready none))=W1:=⟨_,rfl⟩;have hL1:W1.heap[w.heap.size+1]? =some (.loop (rec .ready none)):=by rw[←hW1];exact aR _ _ _
 have WY:W1.heap[w.heap.size]? =some (.deferred (some [])):=by rw[←hW1];exact bq _ _ _
 have je:af (λ_=>False) w W1:=by rw[←hW1];exact((af.refl _ w).alloc _).alloc _
 have hI1:I [] W1:=hI _ _ _ h0 je.wider;have hz1:W1.heap.size=w.heap.size+2:=by rw[←hW1];simp
 refine⟨w.heap.size+1,[{target:= .collected w.heap.size,args:= #[]}],W1,{target:= .fn (.func gf) lb,args:= #[.func (.yield (w.heap.size+1)) #[] #[]]},W1,gf,
  #[.func (.yield (w.heap.size+1)) #[] #[]]++lb,W1,?_,?_,λ_ _=>trivial,?_,(λh=>by cases h),?_⟩
 ·rw[←hW1,sT];exact run_enterLoop_outer _ _ _ _ _
 ·simp only[resolve,hg];simp[go_sem]
 ·simp[invoke,go_sem,eg]
 ·refine CallsIn.mono ((av7 (n:=1)).2 (hseq (w.heap.size+1)
   (λpre W=>I pre W∧W.heap[w.heap.size+1]? =some (.loop (rec .ready none))∧W.heap[w.heap.size]? =some (.deferred (some []))∧w.heap.size+2≤W.heap.size)
   W1 (hb0.trans je) ?_ ?_ ⟨hI1,hL1,WY,by omega⟩)) ?_
  ·rintro pre A B ⟨hi,hl,hk,hz⟩ ht;refine⟨hI _ _ _ hi (ht.mono λb _ hb=>⟨by have:=hb.1;omega,hb.2⟩),ht.kept hl λhb=>by have:=hb.1;omega,ht.kept hk λhb=>by have:=hb.1;omega,al2 hz ht.size⟩
  ·rintro pre x A ⟨hi,hl,hk,hz⟩ hlen hG;have hy:=run_yield (P:=P) (args:=yi x) hl (by rw[sT];exact qJ x);rw[sT]at hy;refine⟨fn,_,assign,body,hy,roundIn_of_wpIn trivial (Gn _ pre x A _ hi hG ?_)⟩;clear hy;intro a' A1 Sv hiA SC;have o7:=Sv.kept hl id;have vx:=Sv.kept hk id;have hz2:=Sv.size;refine⟨_,run_beginRound o7 (by rw[sT]),?_⟩;obtain⟨A2,lC⟩: ∃A2,A2=A1.putObj (w.heap.size+1) (.loop {rec .ready none with state:= .busy}):=⟨_,rfl⟩;rw[←lC];have aF:af (·=w.heap.size+1) A1 A2:=by rw[lC];exact fP _ _ _
   have hl2:A2.heap[w.heap.size+1]? =some (.loop {rec .ready none with state:= .busy}):=by rw[lC];exact avU aj
   have hk2:=aF.kept vx aj;have hb2:af (λb=>w.heap.size≤b∧nN A1 b) A1 A2:=aF.mono λb _ hb=>by subst hb;exact⟨atZ _,_,o7,rfl⟩
   refine avY (jT _ pre x a' A2 (hI _ _ _ hiA hb2) (SN _ _ _ _ SC hb2) hlen hG) ?_;rintro e a3 B ⟨rfl,Xj,hiB⟩;have WO:=Xj.kept hl2 λhb=>by
    obtain⟨_,o,ho,hm⟩:=hb;rw[hl2]at ho;cases ho;cases hm
   have hk3:=Xj.kept hk2 λhb=>by
    obtain⟨_,o,ho,hm⟩:=hb;rw[hk2]at ho;cases ho;cases hm
   have hend:=run_endRound (P:=P) (none:Option amq) WO;refine⟨_,_,hend,rfl,?_,?_⟩
   ·have ck:=fP B (w.heap.size+1) (.loop { {rec .ready none with state:= .busy}with state:=if(none:Option amq).isNone then .ready else .done,pending:=none});have hz3:=Xj.size;have wx:=aF.size;refine⟨hI _ _ _ hiB (ck.mono λb _ hb=>by subst hb;exact⟨atZ _,_,WO,rfl⟩),?_,ck.kept hk3 aj,al2 aj ck.size⟩;rw[avU aj,sT];rfl
   ·have ck:=fP B (w.heap.size+1) (.loop { {rec .ready none with state:= .busy}with state:=if(none:Option amq).isNone then .ready else .done,pending:=none});have hlA:pB Reads A (w.heap.size+1):=⟨λh=>by have:=Xx _ h;omega,_,hl,.inr rfl⟩;refine(((Sv.mono (E:=pB Reads A) λ_ _ h=>h.elim).bL aF (λb hb=>?_)).bL (D:=pB Reads A) Xj (λb hb=>?_)).bL ck (λb hb=>?_)
    ·subst hb;exact .inr hlA
    ·obtain⟨h1,o,h2,h3⟩:=hb;by_cases hlt:b<A.heap.size
     ·refine .inr ⟨h1,?_⟩;by_cases hbl:b=w.heap.size+1
      ·subst hbl;exact⟨_,hl,.inr rfl⟩
      ·have e1:=aF.block b aj hbl;have e2:=Sv.block b hlt id;rw[e1,e2]at h2;exact⟨o,h2,.inl h3⟩
     ·exact .inl aj
    ·subst hb;exact .inr hlA
  ·rintro e B ⟨⟨v,rfl⟩,xs,hS,hi,hl,hk,hz⟩;have ht:=fP B (w.heap.size+1) (.loop {rec .ready none with state:= .exhausted});refine⟨none,_,by have:=run_endLoop (P:=P) hl (by rw[sT];simp);rw[sT]at this;exact this,?_⟩;rw[sT]at ht;exact hdone _ xs _ (agl _) hS (hI _ _ _ hi (ht.mono λb _ hb=>by subst hb;exact⟨atZ _,_,hl,rfl⟩)) (ht.kept hk aj)
end
end Go.Upr
end
section
namespace Go.Upr
open Go Go.RowKit
def iA(o:apy):Bool:=match o.op with| .defer _=>false|_=>true
theorem semAt_plain{o:apy}(h:iA o=true)(ro:Option Nat)(ρ:ang→aad):Oper.semAt ro ρ o=execOp ρ o:=
 Oper.semAt_eq _ _ _ λc hc=>by unfold iA at h;rw[hc]at h;cases h
def Fr(ro:Option Nat):Fence:={avM with round:=ro}
section
variable{l n:Nat}{ro:Option Nat}{P:alu}{ops:Array apy}{K:atu→aly→Prop}{a:atu}{w:aly}
theorem pG{K:atu→aly→Prop}: ¬LetsOut (Exit.then K λ_ _ _=>False):=λ⟨_,_,h⟩=>h
theorem Co:(Fr ro).depth.isSome=true→1≤n:=λh=>by cases h
theorem QC{row:String}{args:Array aad}{R:aad→aly→Prop}(h:Rows P row args w R):RowsIn (Fr ro) n P row args w R:=
 λc cs _=>let⟨v,w',r,s⟩:=h c cs; ⟨v,w',r,stepsIn_wide.2 s⟩
theorem Ec{o:apy}{N:atu→aly→Prop}(r:Result Next)(h:o.upon P a N (Exit.then K λ_ _ _=>False) r):
  o.uponIn (Fr ro) n P a N (Exit.then K λ_ _ _=>False) r:=by
 cases r with
 |ok x w'=>
  cases x<;>simp only[atw,avQ]at h⊢ <;>try exact h
  ·exact⟨Co,(av7 (n:=n- 1)).2 h⟩
  ·exact⟨Co,QC h⟩
 |halt x w'=>cases x<;>simp only[atw,avQ]at h⊢ <;>exact h
theorem Ci(hd:ops.all iA=true)(s:List Nat): ∀ (a:atu) (w:aly),wpOps P ops (Exit.then K λ_ _ _=>False) s a w→
  wpOpsIn (Fr ro) n P ops (Exit.then K λ_ _ _=>False) s a w:=by
 induction s with
 |nil=>exact λa w h=>h
 |cons i rest ih=>
  intro a w h;simp only[wpOps,wpOpsIn]at h⊢;cases ho:ops[i]? with
  |none=>simp only[ho]at h⊢;exact ih _ _ h
  |some o=>
   simp only[ho]at h⊢;have hp:iA o=true:=(Array.all_eq_true_iff_forall_mem.1 hd) o (Array.mem_of_getElem? ho);split
   ·rename_i hw;rw[if_pos hw]at h;rcases h with h|⟨-,h⟩
    ·refine avS (K:=wpOps P ops (Exit.then K λ_ _ _=>False) rest) (λa w hh=>ih a w hh) ⟨λ_ _=>trivial,?_⟩;rw[semAt_plain hp];exact Ec _ h
    ·exact(pG h).elim
   ·rename_i hw;rw[if_neg hw]at h;exact⟨λ_ _=>trivial,ih _ _ h⟩
theorem Ex(s:List apy)(hd:s.all iA=true): ∀ (a:atu) (w:aly),wpList P ops (Exit.then K λ_ _ _=>False) s a w→
  wpListIn (Fr ro) n P ops (Exit.then K λ_ _ _=>False) s a w:=by
 induction s with
 |nil=>exact λa w h=>h
 |cons o rest ih=>
  intro a w h;simp only[List.all_cons,anh]at hd;unfold wpList at h;unfold wpListIn;split
  ·rename_i hw;rw[if_pos hw]at h;rcases h with h|⟨-,h⟩
   ·refine avS (K:=wpList P ops (Exit.then K λ_ _ _=>False) rest) (λa w hh=>ih hd.2 a w hh) ⟨λ_ _=>trivial,?_⟩;rw[semAt_plain hd.1];exact Ec _ h
   ·exact(pG h).elim
  ·rename_i hw;rw[if_neg hw]at h;exact⟨λ_ _=>trivial,ih hd.2 _ _ h⟩
theorem vu{Q:atY→atu→aly→Prop}{F:Fence}(s t:List apy): ∀ (a:atu) (w:aly),wpListIn F n P ops (Exit.then (wpListIn F n P ops Q t) λ_ _ _=>False) s a w→wpListIn F n P ops Q (s++t) a w:=by
 induction s with
 |nil=>exact λa w h=>h
 |cons o rest ih=>
  intro a w h;rw[List.cons_append];unfold wpListIn at h⊢;split
  ·rename_i hw;rw[if_pos hw]at h;have h2:o.wpIn F n P a w (wpListIn F n P ops Q (rest++t)) (Exit.then (wpListIn F n P ops Q t) λ_ _ _=>False):=avS (λa w hh=>ih a w hh) h;refine⟨h2.1,?_⟩;have h3:=h2.2;generalize(o.semAt F.round a.eval).run P w=r at*;cases r with
   |ok x w'=>
    cases x<;>simp only[avQ]at h3⊢ <;>try exact h3
    ·exact⟨h3.1,h3.2.mono λe w'' he=>by cases e<;>first|exact he|exact he.elim|exact(pG he).elim⟩
    ·exact⟨h3.1,h3.2.mono λe w'' he=>by cases e<;>first|exact he|exact he.elim|exact(pG he).elim⟩
   |halt x w'=>cases x<;>simp only[avQ]at h3⊢ <;>exact h3.elim
  ·rename_i hw;rw[if_neg hw]at h;exact⟨h.1,ih _ _ h.2⟩
theorem YieldAt.mono{F:Fence}{m:Nat}{l:Nat}{args:Array aad}{W:aly}{R R':Ending→aly→Prop}(h:avZ F m P l args W R)(hr: ∀e w,R e w→R' e w):avZ F m P l args W R':=
 let⟨fn,tmps,oas,bo,h1,h2⟩:=h; ⟨fn,tmps,oas,bo,h1,h2.mono hr⟩
theorem Av{id:Nat}{ls:List apy}{Q:atY→atu→aly→Prop}(l1:List apy)(o:apy)(l2:List apy)(hl:ls=l1++o::l2)(h1:l1.all iA=true)(h0:iA o=true)(h2:l2.all iA=true)
  (h: ∀K:atu→aly→Prop,(∀a w lp args,apY o (yielded ls.toArray a.tmps)=true→
    (∀f tm oas bo,(an1 lp args).run P w= .ok (.round lp f tm oas bo) w→(execOp a.eval o).run P w= .ok (.round lp f tm oas bo) w)→
    avZ avM 1 P lp args w (λe B=>e= .returned (.bool true)∧∀K2:atu→aly→Prop,(∀a w,Q .normal a w→K2 a w)→wpList P ls.toArray (Exit.then K2 λ_ _ _=>False) l2 (a.put o.dst (.bool true)) B)→K a w)→
   wpList P ls.toArray (Exit.then K λ_ _ _=>False) l1 a w):(apN id ls.toArray false).wp P Q a w:=by
 refine(wpIn_wide (n:=2)).1 (wpIn_region_list ?_);have e:ls.toArray.toList=l1++o::l2:=by rw[←hl]
 rw[e];refine vu l1 _ a w (Ex (ro:=none) l1 h1 a w (h _ ?_));rintro a' w' lp args hw hx ⟨f,tm,oas,bo,hy,hR⟩;change wpListIn (Fr none) 2 P ls.toArray Q (o::l2) a' w';unfold wpListIn;rw[if_pos hw];refine⟨λ_ _=>trivial,?_⟩;rw[semAt_plain h0,hx _ _ _ _ hy];refine⟨Co,hR.mono ?_⟩;rintro e B ⟨rfl,hB⟩;have uD:=Ex (ro:=none) (n:=2) l2 h2 _ _ (hB _ λ_ _ h=>h);have e3:l2=l2++ []:=(List.append_nil l2).symm;show wpListIn (Fr none) 2 P ls.toArray Q l2 _ B;rw[e3];exact vu l2 [] _ _ (by exact uD)
theorem mU{id:Nat}{ls:List apy}{y:amq}{Q:atY→atu→aly→Prop}(l1:List apy)(o:apy)(l2:List apy)(hl:ls=l1++o::l2)(h1:l1.all iA=true)(h0:iA o=true)(h2:l2.all iA=true)
  (h: ∀K:atu→aly→Prop,(∀a w lp args,apY o (yielded ls.toArray a.tmps)=true→
    (∀f tm oas bo,(an1 lp args).run P w= .ok (.round lp f tm oas bo) w→(execOp a.eval o).run P w= .ok (.round lp f tm oas bo) w)→
    avZ avM 1 P lp args w (λe B=>e= .returned (.bool true)∧∀K2:atu→aly→Prop,(∀a w,y.wp P Q a w→K2 a w)→wpList P ls.toArray (Exit.then K2 λ_ _ _=>False) l2 (a.put o.dst (.bool true)) B)→K a w)→
   wpList P ls.toArray (Exit.then K λ_ _ _=>False) l1 a w):(av6 (apN id ls.toArray false) y).wp P Q a w:=
 wp_seq (Av (Q:=Exit.then (y.wp P Q) Q) l1 o l2 hl h1 h0 h2 h)
theorem jw{id:Nat}{l':List apy}{y:amq}{Q:atY→atu→aly→Prop}(hd:l'.toArray.all iA=true)
  (h: ∀K:atu→aly→Prop,(∀a w,y.wpIn (avM.inRound l) n P Q a w→K a w)→wpList P l'.toArray (Exit.then K λ_ _ _=>False) l' a w):
  (av6 (.region id l'.toArray false) y).wpIn (avM.inRound l) n P Q a w:=by
 refine wpIn_seq (avY (Q:=Exit.then (y.wpIn (avM.inRound l) n P Q) λ_ _ _=>False) (av9 ?_) ?_)
 ·have h1:=h _ λ_ _ h=>h;rw[avW,←ane];refine Ci (ro:=some l) hd _ _ _ ?_;rw[av3 l'.toArray.toList 0 bz];exact h1
 ·intro e a w h;cases e<;>first|exact h|exact h.elim
end
end Go.Upr
end
section
namespace Go.Upr
open Go Go.RowKit Go.WideElems Go.ChangeShapes
open Go.ChangeMaps (setBlock)
variable{P:alu}{kt et t:acs}{κ ν:Type}{key:κ→aad}{ok:κ→Prop}{enc:ν→aad}[DecidableEq κ]
def Gx(P:alu)(t:acs)(w:aly)(ok:κ→Prop)(key:κ→aad)(enc:ν→aad)(b:Nat)(f:List (κ×ν))(x:κ)(st:Nat):Prop:=
 ∀w2:aly,w2.heap[b]? =w.heap[b]? →∀v,∃es' clock',(anD t (.map (some b)) (goInt st) (enc v)).run P w2= .ok () (setBlock w2 b (.map es' clock'))∧Holds ok key enc es' clock' (dO f x v)
theorem GH{w:aly}{b:Nat}{f:List (κ×ν)}{x:κ}(K:fG P kt key ok)(ht:P.underlying t=some (.map kt et)){z0:ν}(hz: ∀w,(zeroValue et).run P w= .ok (enc z0) w)(H:av w ok key enc b f)(hx:ok x):
  ∃ (st:Nat) (w':aly),(anL t (.map (some b)) (key x)).run P w= .ok (.tuple #[enc ((au f x).getD z0),goInt st]) w'∧af (·=b) w w'∧av w' ok key enc b (if(au f x).isSome then f else f++ [(x,z0)])∧Gx P t w' ok key enc b f x st:=by
 obtain⟨es,clock,h1,h2⟩:=H;rcases h2.search K w hx with⟨h3,h4,h5⟩|⟨j,e,u,h3,h6,h7,h8,h9⟩
 ·have hl:au f x=none:=l_.2 λh=>by
   obtain⟨p,hp,RV⟩:=amk.1 h;exact h4 p hp RV
  have hp: ∀v,Holds ok key enc (es.push ⟨key x,enc v,clock⟩) (clock+1) (dO f x v):=λv=>by
   obtain⟨es',clock',h10,h11⟩:=h2.put K w hx v h1 ht;have ky:(anJ t (.map (some b)) (key x) (enc v)).run P w= .ok () (setBlock w b (.map (es.push ⟨key x,enc v,clock⟩) (clock+1))):=by
    simp[anJ,auf ht,auc h1,K.check w false x hx,h3,aul _ h1,aua,setBlock]
   rw[ky]at h10;have AU:=congrArg (λr:Result Unit=>match r with| .ok _ w'=>w'.heap[b]? | .halt _ w'=>w'.heap[b]?) h10;dsimp only at AU;rw[cM h1,cM h1]at AU;cases AU;exact h11
  refine⟨clock,setBlock w b (.map (es.push ⟨key x,enc z0,clock⟩) (clock+1)),?_,eT w b _,?_,?_⟩
  ·rw[hl];simp[anL,auf ht,auc h1,K.check w false x hx,h3,hz,aul _ h1,aua,setBlock]
  ·rw[hl,if_neg bz];have:=hp z0;have G3:dO f x z0=f++ [(x,z0)]:=by
    unfold dO;rw[if_neg];intro hc;obtain⟨p,hp,he⟩:=List.any_eq_true.1 hc;exact h4 p hp (by simpa using he)
   rw[G3]at this;exact⟨_,_,cM h1,this⟩
  ·intro w2 hw2 v;rw[cM h1]at hw2;refine⟨es.push ⟨key x,enc v,clock⟩,clock+1,?_,hp v⟩;have abA:(es.push ⟨key x,enc z0,clock⟩).findIdx? (λe=>((e.born:Nat):Int)== ((clock:Nat):Int))=some es.size:=by
    rw[findIdx_arr];exact findIdx_born (l:=(es.push ⟨key x,enc z0,clock⟩).toList) (j:=es.size) (e0:=⟨key x,enc z0,clock⟩) (hp z0).stamps bz
   have KW:(es.push ⟨key x,enc z0,clock⟩).modify es.size (λe=>{e with val:=enc v})=es.push ⟨key x,enc v,clock⟩:=by
    apply avR;rw[anv,aof,aof,←ane,modify_last]
   simp[anD,auc hw2,asInt,asIntOf,goInt,abA,KW,aul _ hw2,aua,setBlock]
 ·have hj:es[j]? =some e:=by rw[←Array.getElem?_toList];exact h6
  have hl:au f x=some u:=(ux h2.once).2 (ann h9);have rW:es.modify j (λe=>{e with key:=key x})=es:=by
   apply avR;rw[anv,avO _ _ _ _ h6];have:({e with key:=key x}:MapEntry)=e:=by rw[←h7]
   rw[this];exact av8 _ _ _ h6
  refine⟨e.born,setBlock w b (.map es clock),?_,eT w b _,?_,?_⟩
  ·rw[hl];simp[anL,auf ht,auc h1,K.check w false x hx,h3,hj,h7,K.stays w x hx,rW,aul _ h1,aua,setBlock,goInt]
  ·simp only[hl,Option.isSome_some,if_true];exact⟨_,_,cM h1,h2⟩
  ·intro w2 hw2 v;rw[cM h1]at hw2;obtain⟨es',clock',h10,h11⟩:=h2.put K w hx v h1 ht;have ky:(anJ t (.map (some b)) (key x) (enc v)).run P w= .ok () (setBlock w b (.map (es.modify j λe'=>{e' with key:=key x,val:=enc v}) clock)):=by
    simp[anJ,auf ht,auc h1,K.check w false x hx,h3,hj,h7,K.stays w x hx,aul _ h1,aua,setBlock]
   rw[ky]at h10;have AU:=congrArg (λr:Result Unit=>match r with| .ok _ w'=>w'.heap[b]? | .halt _ w'=>w'.heap[b]?) h10;dsimp only at AU;rw[cM h1,cM h1]at AU;cases AU;refine⟨_,_,?_,h11⟩;have abA:es.findIdx? (λe'=>((e'.born:Nat):Int)== ((e.born:Nat):Int))=some j:=by
    rw[findIdx_arr];exact findIdx_born h2.stamps h6
   have KW:es.modify j (λe'=>{e' with val:=enc v})=es.modify j (λe'=>{e' with key:=key x,val:=enc v}):=by
    apply avR;rw[anv,anv,avO _ _ _ _ h6,avO _ _ _ _ h6,←h7]
   simp[anD,auc hw2,asInt,asIntOf,goInt,abA,KW,aul _ hw2,aua,setBlock]
section
variable{ops:Array apy}{rest:List apy}{o:apy}{a:atu}{Q:atY→atu→aly→Prop}{w:aly}{b:Nat}{f:List (κ×ν)}{x:κ}
theorem JA(K:fG P kt key ok)(ht:P.underlying t=some (.map kt et)){z0:ν}(hz: ∀w,(zeroValue et).run P w= .ok (enc z0) w)(hg:apY o (yielded ops a.tmps)=true)(m y:ang)(hop:o.op= .mapEntry t m y)(hm:a.eval m= .map (some b))(H:av w ok key enc b f)
  (hy:a.eval y=key x) (hx:ok x) (hk: ∀ (st:Nat) (w':aly),af (·=b) w w'→av w' ok key enc b (if(au f x).isSome then f else f++ [(x,z0)])→Gx P t w' ok key enc b f x st→wpList P ops Q rest (a.put o.dst (.tuple #[enc ((au f x).getD z0),.int .i64 st])) w'):wpList P ops Q (o::rest) a w:=by
 refine wpList_want hg λK' hK'=>?_;obtain⟨st,w',h1,h2,h3,h4⟩:=GH K ht hz H hx;unfold atJ;simp[execOp,hop,hm,hy,h1,aua];exact hK' _ _ (hk st w' h2 h3 h4)
theorem Du{w1:aly}{st:Nat}{v:ν}(hg:apY o (yielded ops a.tmps)=true)(m y u:ang)(hop:o.op= .entryStore t m y u)(hm:a.eval m= .map (some b))(hy:a.eval y= .int .i64 st)(hu:a.eval u=enc v)(H:Gx P t w1 ok key enc b f x st)(hs:w.heap[b]? =w1.heap[b]?)
  (hl:b<w.heap.size) (hk: ∀w',af (·=b) w w'→av w' ok key enc b (dO f x v)→wpList P ops Q rest (a.put o.dst undef) w'):wpList P ops Q (o::rest) a w:=by
 refine wpList_want hg λK' hK'=>?_;obtain⟨es',clock',h1,h2⟩:=H w hs v;have hb: ∃o',w.heap[b]? =some o':=⟨_,Array.getElem?_eq_getElem hl⟩;obtain⟨o',m_⟩:=hb;unfold atJ;have hy2:a.eval y=goInt st:=hy;simp[execOp,hop,hm,hy2,hu,h1,aua];exact hK' _ _ (hk _ (eT w b _) ⟨es',clock',cM m_,h2⟩)
end
section
variable{ops:Array apy}{C:aly→Prop}{fx:Nat→Bool}{Q:atu→aly→Prop}{k:Nat}{o:apy}{rest:List apy}{a:atu}{w:aly}{y:κ}
theorem AA(K:fG P kt key ok)(ht:P.underlying t=some (.map kt et)){z:aad}(hz: ∀w,(zeroValue et).run P w= .ok z w)(hf:fx k=false)(hw:apY o (yielded ops a.tmps)=true)(m x:ang)(hop:o.op= .lookup t m x false){v:aad}(hm:a.eval m=v)
  {u:aad} (H: ∀w,C w→∃f,Hp.map (λb=>w.heap[b]?) ok key enc v f∧(au f y).elim z enc=u) (hx:a.eval x=key y) (hy:ok y) (h:eX P ops C fx Q (k+1) rest (a.put o.dst u) w):eX P ops C fx Q k (o::rest) a w:=by
 refine ak hf (by rw[hop];rfl) hw λK' hK=>rJ (λw hw=>?_) (hK _ h);obtain⟨f,h0,h2⟩:=H w hw;have h1:=Cb K ht (hz w) (aD w) h0 hy false;simp[execOp,hop,hm,hx,h1,h2,aua]
end
section
variable{l n:Nat}{a:atu}{w:aly}
theorem kj{id:Nat}{l':List apy}{Q:atY→atu→aly→Prop}(hd:l'.toArray.all iA=true)
  (h: ∀K:atu→aly→Prop,(∀a w,Q .normal a w→K a w)→wpList P l'.toArray (Exit.then K λ_ _ _=>False) l' a w):
  (apN id l'.toArray false).wpIn (avM.inRound l) n P Q a w:=by
 refine avY (Q:=Exit.then (λa w=>Q .normal a w) λ_ _ _=>False) (av9 ?_) ?_
 ·have h1:=h _ λ_ _ h=>h;rw[avW,←ane];refine Ci (ro:=some l) hd _ _ _ ?_;rw[av3 l'.toArray.toList 0 bz];exact h1
 ·intro e a w h;cases e<;>first|exact h|exact h.elim
theorem Dz{id:Nat}{l':List apy}{Q:atY→atu→aly→Prop}(C:aly→Prop)(fx:Nat→Bool)(hm:P.follows .mixedOrders=true)(hd:l'.toArray.all iA=true)(hB:BF .any l'.toArray fx=true)(hC:C w.drew)
  (h: ∀K:atu→aly→Prop,(∀a w,Q .normal a w→K a w)→eX P l'.toArray C fx K 0 l' a w.drew):
  (apN id l'.toArray true).wpIn (avM.inRound l) n P Q a w:=by
 refine avY (Q:=Exit.then (λa w=>Q .normal a w) λ_ _ _=>False) (wpIn_region_draw λt=>?_) ?_
 ·have h1:=h _ (λ_ _ h=>h);refine Ci (ro:=some l) hd _ _ _ ?_;simp only[Region.schedule,hm,Bool.true_or,if_true];refine wpAny_sound l'.toArray.size t _ _ _ ?_;simp only[BF,anh]at hB;have qj:Shut .any l'.toArray (aps l'.toArray.size false):=λi o _ h=>by simp only[Array.getD_eq_getD_getElem?,Array.getElem?_replicate]at h;split at h<;>cases h
  refine gu (fx:=fx) (C:=C) (Q:=λa' w'=>Exit.then (λa w=>Q .normal a w) (λ_ _ _=>False) .normal a' w') (λ_ _ h=>h) _ _ _ _ ⟨qj,.inl hC⟩ ?_;exact rq (C:=C) hB.1 l' 0 (aps l'.toArray.size false) a _ bz (by simpa using hB.2) ⟨qj,.inl hC⟩ h1
 ·intro e a w h;cases e<;>first|exact h|exact h.elim
theorem Dy{id:Nat}{l':List apy}{Q:atY→atu→aly→Prop}(C:aly→Prop)(fx:Nat→Bool)(hm:P.follows .mixedOrders=true)(hd:l'.toArray.all iA=true)(hB:BF .any l'.toArray fx=true)(hC:C w.drew)
  (h: ∀K:atu→aly→Prop,(∀a w,Q .normal a w→K a w)→∀ (S:Type) (g:S→aly),Nonempty S→(∀x,C (g x))→(∀w',C w'→∃x,w'=g x)→eX P l'.toArray (λw'=>∃x,w'=g x) fx K 0 l' a w.drew):
  (apN id l'.toArray true).wpIn (avM.inRound l) n P Q a w:=
 Dz (λw'=>∃x:{w'//C w'},w'=x.1) fx hm hd hB ⟨⟨_,hC⟩,rfl⟩ λK hK=>h K hK {w'//C w'} (λx=>x.1) ⟨⟨_,hC⟩⟩ (λx=>x.2) λw' hw=>⟨⟨w',hw⟩,rfl⟩
end
end Go.Upr
end
section
namespace Go.Upr
open Go Go.RowKit
open Go.ChangeMaps (setBlock)
variable{P:alu}{kt et t:acs}{κ ν:Type}{key:κ→aad}{ok:κ→Prop}{enc:ν→aad}
theorem Ae{w:aly}{b:Nat}{x:aad}{e:acs}(h:w.heap[b]? =some (.cells #[x] e)):w.cell? ⟨b,0,none⟩=some x:=(aqF w b 0 _ e (0,0) h).trans rfl
def fY(w:aly)(ok:κ→Prop)(key:κ→aad)(enc:ν→aad)(v:aad)(it:Nat)(f came:List (κ×ν)):Prop:=
 (v= .map none∧f= []∧came= []∧w.heap[it]? =some (.mapIter none 0 #[] 0))∨∃b,v= .map (some b)∧b≠it∧cN w ok key enc b it f came
theorem fY.turn{w w':aly}{v:aad}{it:Nat}{f came:List (κ×ν)}{D:Nat→Prop}(h:fY w ok key enc v it f came)(ht:af D w w')(hb: ∀b,v= .map (some b)→¬D b)(hi: ¬D it):fY w' ok key enc v it f came:=by
 rcases h with⟨h1,h2,h3,h4⟩|⟨b,rfl,h2,h3⟩
 ·exact .inl ⟨h1,h2,h3,ht.kept h4 hi⟩
 ·exact .inr ⟨b,rfl,h2,h3.turn ht (hb b rfl) hi⟩
theorem fY.book{w:aly}{v:aad}{it:Nat}{f came:List (κ×ν)}(h:fY w ok key enc v it f came): ∃m s x c,w.heap[it]? =some (.mapIter m s x c):=by
 rcases h with⟨_,_,_,h⟩|⟨b,_,_,es,clock,since,ce,_,_,h,_⟩
 ·exact⟨_,_,_,_,h⟩
 ·exact⟨_,_,_,_,h⟩
theorem fY.sub{w:aly}{v:aad}{it:Nat}{f came:List (κ×ν)}(h:fY w ok key enc v it f came):(∀p∈came,p∈f)∧(came.map aug).Nodup∧(∀p∈came,ok p.1)∧came.length≤f.length:=by
 rcases h with⟨_,rfl,rfl,_⟩|⟨b,_,_,h⟩
 ·simp
 ·exact⟨h.sub.1,h.sub.2.1,h.sub.2.2,h.le⟩
section
variable{ops:Array apy}{rest:List apy}{o:apy}{a:atu}{Q:atY→atu→aly→Prop}{w:aly}{v:aad}{f:List (κ×ν)}
theorem kD(ht:P.underlying t=some (.map kt et))(hg:apY o (yielded ops a.tmps)=true)(m:ang)(hop:o.op= .range t m)(hm:a.eval m=v)(H:Hp.map (λb=>w.heap[b]?) ok key enc v f)
  (hk: ∀w',af (λ_=>False) w w'→w'.heap.size=w.heap.size+1→fY w' ok key enc v w.heap.size f []→wpList P ops Q rest (a.put o.dst (.pointer (some ⟨w.heap.size,0,none⟩))) w'):wpList P ops Q (o::rest) a w:=by
 rcases H with⟨rfl,rfl⟩|⟨b,es,clock,rfl,h1,h2⟩
 ·refine wpList_want hg λK' hK'=>?_;unfold atJ;simp[execOp,hop,hm,run_range_nilMap w t kt et ht,aua];exact hK' _ _ (hk _ ((af.refl _ w).alloc _) bz (.inl ⟨rfl,rfl,rfl,atp w _⟩))
 ·exact fZ ht hg m hop hm ⟨es,clock,h1,h2⟩ λw' h3 h4 h5=>hk w' h3 h4 (.inr ⟨b,rfl,λe=>by have:=atm h1;omega,h5⟩)
theorem mv(K:fG P kt key ok)(hg:apY o (yielded ops a.tmps)=true)(m:ang)(hop:o.op= .next m false){it:Nat}(hm:a.eval m= .pointer (some ⟨it,0,none⟩)){came:List (κ×ν)}(H:fY w ok key enc v it f came)
  (hDone:(∀p∈f,p∈came)→wpList P ops Q rest (a.put o.dst (.tuple #[.bool false])) w)
  (hMore: ∀p w',p∈f→p∉came→came.length<f.length→af (·=it) w w'→fY w' ok key enc v it f (came++ [p])→wpList P ops Q rest (a.put o.dst (.tuple #[.bool true,key p.1,enc p.2])) w'):wpList P ops Q (o::rest) a w:=by
 rcases H with⟨rfl,rfl,rfl,h4⟩|⟨b,rfl,hbi,h⟩
 ·refine wpList_want hg λK' hK'=>?_;have hrun:(an9 (.pointer (some ⟨it,0,none⟩)) false o.type).run P w= .ok (.tuple #[.bool false]) w:=by
   simp only[an9,getObj,Sem.run_bind,Sem.run,h4,aua];rfl
  unfold atJ;simp[execOp,hop,hm,hrun,aua];exact hK' _ _ (hDone bz)
 ·exact iy K hg m hop hm h hbi hDone λp w' h1 h2 h3 h4 h5=>hMore p w' h1 h2 h3 h4 (.inr ⟨b,rfl,hbi,h5⟩)
theorem kE(hg:apY o (yielded ops a.tmps)=true)(m:ang)(hop:o.op= .entry m){it:Nat}(hm:a.eval m= .pointer (some ⟨it,0,none⟩)){came:List (κ×ν)}{p:κ×ν}(H:fY w ok key enc v it f (came++ [p]))
  (hk:wpList P ops Q rest (a.put o.dst (.tuple #[key p.1,enc p.2])) w):wpList P ops Q (o::rest) a w:=by
 rcases H with⟨_,_,h,_⟩|⟨b,_,_,h⟩
 ·simp at h
 ·exact fI hg m hop hm h hk
end
end Go.Upr
namespace Go.Proofs.YtkdljbnllgpfhaaGreat
open Go Go.RowKit Go.Upr
theorem aeS(m:Option Nat)(w:aly):asP Tryz.prog 160 #[.map m] w λe w'=>e= .returned (.func (.func 221) #[] #[.pointer (some ⟨w.heap.size,0,none⟩)])∧w'=w.alloc (.cells #[.map m] 123):=by
 go_enter Tryz.func160,Tryz.ntmps160;go_wp2;go_ret;exact⟨rfl,rfl⟩
theorem ai7(a b c:Option Nat)(w:aly):asP Tryz.prog 375 #[.agg #[.map a,.map b,.map c]] w λe w'=>e= .returned (.func (.func 381) #[] #[.pointer (some ⟨w.heap.size,0,none⟩)])∧w'=w.alloc (.cells #[.map a,.map b,.map c] 491):=by
 go_enter Tryz.func375,Tryz.ntmps375;go_wp2;go_ret;exact⟨rfl,rfl⟩
theorem fe{l:List aS}{p:aS×Unit}:p∈aU l↔p.1∈l:=by
 obtain⟨t,u⟩:=p;simp[aU]
def bC{α:Type}(l xs:List α):Prop:=(∀x∈l,x∈xs)∧(∀x∈xs,x∈l)∧xs.Nodup
theorem agc{w:aly}{o:Option Nat}{b0:Nat}{ts:List aS}(h0:w.heap[b0]? =some (.cells #[.map o] 123))(H:Hp.map (λb=>w.heap[b]?) fq br aY (.map o) (aU ts)):
  Oi Tryz.prog 221 #[.pointer (some ⟨b0,0,none⟩)] (λt=> #[br t]) (bC ts) fq ts.length (λb=>b=b0∨o=some b) w:=by
 intro l J W bM hJ hY hj;have hlen:(aU ts).length=ts.length:=by simp[aU]
 have h1:=bM.kept h0 id;have H1:=Hp.bY H bM;clear h0 H bM;have hb:=atm h1;have c0:=Ae h1;go_enter Tryz.func221,Tryz.ntmps221;go_wp2_with (at_range;refine kD (v:= .map o) Tryz.underlying123 rfl (.tmp 4) rfl rfl H1 ?_;intro w1 jh hz1 uP);have DO:=hJ _ _ _ hj jh.wider;have h2:=jh.kept h1 id
 go_loopg [] (aU ts).length (λgk wr=>∃came:List (aS×Unit),came.length+gk=(aU ts).length∧J (came.map aug) wr∧wr.heap[b0]? =some (.cells #[.map o] 123)∧W.heap.size<wr.heap.size∧fY wr fq br aY (.map o) W.heap.size (aU ts) came)
 case atStart=>exact⟨[],by simp,DO,h2,by omega,uP⟩
 case round=>
  clear uP DO;obtain⟨came,bW,KF,h3,hz3,hR⟩:=hrel;go_wp2_with (at_next;refine mv gL rfl (.tmp 5) rfl rfl hR ?_ ?_)
  ·intro hd;have mf: ∀t∈ts,t∈came.map aug:=λt ht=>amk.2 ⟨(t,()),hd _ _ _ _ (fe.2 ht),rfl⟩;clear hd;go_wp2;go_end0;have hs:=hR.sub
   exact⟨⟨_,rfl⟩,_,⟨mf,λt ht=>by
    obtain⟨p,hp,rfl⟩:=amk.1 ht
    exact fe.1 (hs.1 p hp),hs.2.1⟩,KF⟩
  ·intro x y z u w2 _ _ hlt aF iG;obtain⟨m,rfl⟩: ∃m,gk=m+1:=⟨gk- 1,by omega⟩;obtain⟨mm,ms,mx,mc,sH⟩:=hR.book;have wC:=hJ _ _ (w2.alloc (.cells #[.int .u64 x,.int .u64 y,.int .u64 z] 116)) KF ((aF.mono λb _ (hb:b=W.heap.size)=>⟨by omega,by subst hb;exact⟨_,sH,rfl⟩⟩).alloc _);have h4:=aF.kept h3 aj;have wx:=aF.size;have qM:=iG.turn (D:=λ_=>False) ((af.refl _ w2).alloc (.cells #[.int .u64 x,.int .u64 y,.int .u64 z] 116)) (λ_ _=>id) id;have h5:=(af.refl (λ_=>False) w2).alloc (.cells #[.int .u64 x,.int .u64 y,.int .u64 z] 116) |>.kept h4 id;have hc1:(came.map aug).length<ts.length:=by rw[auB];omega
   have hy:=hY _ (x,y,z) _ wC hc1 (iG.sub.2.2.1 ((x,y,z),u) bz);clear wC KF;go_wp2_with (refine kE rfl (.tmp 5) rfl rfl iG ?_;dsimp only[br];rename_i HK;replace HK:at3 _:=HK);refine HK.out _ _ (mU (id:=3) [_,_] _ [_] rfl ar ar ar ?_);intro Ky Bl;replace Bl:at3 _:=Bl;go_wp2;refine Bl.out _ _ l #[br (x,y,z)] rfl ?_ (YieldAt.mono hy ?_)
   ·intro f tm asg bo hrun;unfold br at hrun;simp[execOp,go_sem,hrun]
   ·rintro e B ⟨rfl,hJ3,eN⟩;clear hy Bl HK;refine⟨rfl,λK2 hK2=>?_⟩
    have C8:=qM.turn eN (λb pk ⟨h,_⟩=>h (.inr (by simpa using pk))) (by
     rintro⟨_,q,hq,hm⟩;obtain⟨_,_,_,_,pj⟩:=qM.book;rw[pj]at hq;cases hq
     rcases hm with hm|hm<;>cases hm)
    have h6:=eN.kept h5 (by rintro⟨h,_⟩;exact h (.inl rfl));have zt:=eN.size;simp only[atS]at zt;clear hR iG qM h3 h4 h5 eN sH;go_wp2
    go_roundg m
    case measure=>exact atG m
    case rel=>exact⟨came++ [((x,y,z),u)],by simp;omega,by simpa using hJ3,h6,by omega,C8⟩
end Go.Proofs.YtkdljbnllgpfhaaGreat
end
section
namespace Go.Upr
open Go Go.RowKit
theorem Hp.uw{κ ν:Type}{key:κ→aad}{ok:κ→Prop}{enc:ν→aad}{w w':aly}{v:aad}{f:List (κ×ν)}{D:Nat→Prop}(h:Hp.map (λb=>w.heap[b]?) ok key enc v f)(ht:af D w w')(hd: ∀b,v= .map (some b)→¬D b):Hp.map (λb=>w'.heap[b]?) ok key enc v f:=by
 rcases h with h|⟨b,es,clock,h1,h2,h3⟩
 ·exact .inl h
 ·exact .inr ⟨b,es,clock,h1,ht.kept h2 (hd b h1),h3⟩
theorem pB.book{Reads:Nat→Prop}{A:aly}{b:Nat}{m:Option Nat}{s:Nat}{x:Array Nat}{c:Nat}(h:A.heap[b]? =some (.mapIter m s x c)): ¬pB Reads A b:=by
 rintro⟨_,q,hq,hm⟩;rw[h]at hq;cases hq;rcases hm with hm|hm<;>cases hm
end Go.Upr
namespace Go.Proofs.YtkdljbnllgpfhaaGreat
open Go Go.RowKit Go.Upr
def ja(l1 l2:List aS):List aS:=l1.filter λt=> !gP l2 t
theorem MI(l2:List aS)(l:List aS)(t:aS):ja (l++ [t]) l2=if gP l2 t then ja l l2 else ja l l2++ [t]:=by
 unfold ja;rw[avP];by_cases h:gP l2 t=true
 ·simp[h]
 ·simp[h]
theorem Ey(l l2:List aS):(ja l l2).length≤l.length:=avN _ _
theorem bC.less{l xs:List aS}(h:bC l xs)(l2:List aS):bC (ja l l2) (ja xs l2):=by
 unfold ja;refine⟨λx hx=>?_,λx hx=>?_,h.2.2.filter _⟩
 ·rw[auV]at hx⊢;exact⟨h.1 x hx.1,hx.2⟩
 ·rw[auV]at hx⊢;exact⟨h.2.1 x hx.1,hx.2⟩
def tj(l1 l2 l3 xs:List aS):Prop:=∃y z,xs=y++z∧bC (ja l1 l2) y∧bC l3 z
theorem agb{w:aly}{o1 o2 o3:Option Nat}{b0:Nat}{l1 l2 l3:List aS}(h0:w.heap[b0]? =some (.cells #[.map o1,.map o2,.map o3] 491))(H1:Hp.map (λb=>w.heap[b]?) fq br aY (.map o1) (aU l1))(H2:Hp.map (λb=>w.heap[b]?) fq br aY (.map o2) (aU l2))(H3:Hp.map (λb=>w.heap[b]?) fq br aY (.map o3) (aU l3)):
  Oi Tryz.prog 381 #[.pointer (some ⟨b0,0,none⟩)] (λt=> #[br t]) (tj l1 l2 l3) fq (l1.length+l3.length) (λb=>b=b0∨o1=some b∨o2=some b∨o3=some b) w:=by
 intro l J W bM hJ hY hj;have hlen:(aU l1).length=l1.length:=by simp[aU]
 have akv:(aU l3).length=l3.length:=by simp[aU]
 have h1:=bM.kept h0 id;replace H1:=Hp.bY H1 bM;replace H2:=Hp.bY H2 bM;replace H3:=Hp.bY H3 bM;clear h0 bM;have hb:=atm h1;have hc:=bI h1;obtain⟨c0,c1,c2,_⟩:=hc;go_enter Tryz.func381,Tryz.ntmps381;go_wp2_with (at_range;refine kD (v:= .map o1) Tryz.underlying123 rfl (.tmp 6) rfl rfl H1 ?_;intro w1 jh hz1 uP);have DO:=hJ _ _ _ hj jh.wider;have h2:=jh.kept h1 id;have H21:=Hp.bY H2 jh;have H31:=Hp.bY H3 jh;clear c0 c1 c2
 go_loopg [] (aU l1).length (λgk wr=>∃came:List (aS×Unit),came.length+gk=(aU l1).length∧J (ja (came.map aug) l2) wr∧wr.heap[b0]? =some (.cells #[.map o1,.map o2,.map o3] 491)∧W.heap.size<wr.heap.size∧fY wr fq br aY (.map o1) W.heap.size (aU l1) came∧Hp.map (λb=>wr.heap[b]?) fq br aY (.map o2) (aU l2)∧Hp.map (λb=>wr.heap[b]?) fq br aY (.map o3) (aU l3))
 case atStart=>exact⟨[],by simp,DO,h2,by omega,uP,H21,H31⟩
 case round=>
  clear uP DO H21 H31 h2;obtain⟨came,bW,KF,h3,hz3,hR,H22,H32⟩:=hrel;obtain⟨d0,d1,d2,_⟩:=bI h3;go_wp2_with (at_next;refine mv gL rfl (.tmp 7) rfl rfl hR ?_ ?_)
  ·intro hd;have mf: ∀t∈l1,t∈came.map aug:=λt ht=>amk.2 ⟨(t,()),hd _ _ _ _ (fe.2 ht),rfl⟩;have hs:=hR.sub
   have Bg:bC l1 (came.map aug):=⟨mf,λt ht=>by
    obtain⟨p,hp,rfl⟩:=amk.1 ht
    exact fe.1 (hs.1 p hp),hs.2.1⟩
   have adM:=Bg.less l2;have hle:=Ey (came.map aug) l2;rw[auB]at hle;generalize ja (came.map aug) l2=ys at adM KF hle;clear hd mf hs Bg hR hz1 jh;go_wp2_with (at_range;refine kD (v:= .map o3) Tryz.underlying123 rfl (.tmp 24) rfl rfl H32 ?_;intro w4 ck wx C8);have hj4:=hJ _ _ _ KF ck.wider;have h4:=ck.kept h3 id;clear d0 d1 d2 H22 H32;go_frame;generalize wr.heap.size=Bd at hz3 wx C8⊢
   go_loopg [] (aU l3).length (λgk wr2=>∃Ha:List (aS×Unit),Ha.length+gk=(aU l3).length∧J (ys++Ha.map aug) wr2∧wr2.heap[b0]? =some (.cells #[.map o1,.map o2,.map o3] 491)∧Bd<wr2.heap.size∧fY wr2 fq br aY (.map o3) Bd (aU l3) Ha)
   case atStart=>exact⟨[],by simp,by simpa using hj4,h4,by omega,C8⟩
   case round=>
    clear C8 hj4 h4;obtain⟨Ha,sU,abz,h5,zt,qH⟩:=hrel;go_wp2_with (at_next;refine mv gL rfl (.tmp 25) rfl rfl qH ?_ ?_)
    ·intro hd;have mf: ∀t∈l3,t∈Ha.map aug:=λt ht=>amk.2 ⟨(t,()),hd _ _ _ _ (fe.2 ht),rfl⟩;clear hd;go_wp2;go_end0;have hs:=qH.sub
     exact⟨⟨_,rfl⟩,_,⟨ys,_,rfl,adM,mf,λt ht=>by
      obtain⟨p,hp,rfl⟩:=amk.1 ht
      exact fe.1 (hs.1 p hp),hs.2.1⟩,abz⟩
    ·intro x y z u w2 _ _ hlt aF iG;obtain⟨m,rfl⟩: ∃m,gk=m+1:=⟨gk- 1,by omega⟩;obtain⟨mm,ms,mx,mc,sH⟩:=qH.book;have wC:=hJ _ _ (w2.alloc (.cells #[.int .u64 x,.int .u64 y,.int .u64 z] 116)) abz ((aF.mono λb _ (hb:b=Bd)=>⟨by omega,by subst hb;exact⟨_,sH,rfl⟩⟩).alloc _);have h4:=aF.kept h5 aj;have Hh:=aF.size;have qM:=iG.turn (D:=λ_=>False) ((af.refl _ w2).alloc (.cells #[.int .u64 x,.int .u64 y,.int .u64 z] 116)) (λ_ _=>id) id;have h6:=(af.refl (λ_=>False) w2).alloc (.cells #[.int .u64 x,.int .u64 y,.int .u64 z] 116) |>.kept h4 id;have hc1:(ys++Ha.map aug).length<l1.length+l3.length:=by
      have:=hlen;rw[List.length_append,auB];omega
     have hy:=hY _ (x,y,z) _ wC hc1 (iG.sub.2.2.1 ((x,y,z),u) bz);clear wC abz;go_wp2_with (refine kE rfl (.tmp 25) rfl rfl iG ?_;dsimp only[br];rename_i HK;replace HK:at3 _:=HK);refine HK.out _ _ (mU (id:=7) [_,_] _ [_] rfl ar ar ar ?_);intro Ky Bl;replace Bl:at3 _:=Bl;go_wp2;refine Bl.out _ _ l #[br (x,y,z)] rfl ?_ (YieldAt.mono hy ?_)
     ·intro f tm asg bo hrun;unfold br at hrun;simp[execOp,go_sem,hrun]
     ·rintro e B ⟨rfl,hJ3,eN⟩;clear hy Bl HK;refine⟨rfl,λK2 hK2=>?_⟩;obtain⟨_,_,_,_,pj⟩:=qM.book;have C8:=qM.turn eN (λb pk ⟨h,_⟩=>h (.inr (.inr (.inr (by simpa using pk))))) (pB.book pj);have h7:=eN.kept h6 (by rintro⟨h,_⟩;exact h (.inl rfl));have C_:=eN.size;simp only[atS]at C_;clear qH iG qM h3 h4 h5 h6 eN sH pj;go_wp2
      go_roundg m
      case measure=>exact atG m
      case rel=>exact⟨Ha++ [((x,y,z),u)],by simp;omega,by simpa using hJ3,h7,by omega,C8⟩
  ·intro x y z u w2 _ _ hlt aF iG;obtain⟨m,rfl⟩: ∃m,gk=m+1:=⟨gk- 1,by omega⟩;obtain⟨mm,ms,mx,mc,sH⟩:=hR.book;have gH:fq (x,y,z):=iG.sub.2.2.1 ((x,y,z),u) bz;obtain⟨w5,Ki⟩: ∃w5,w5=w2.alloc (.cells #[.int .u64 x,.int .u64 y,.int .u64 z] 116):=⟨_,rfl⟩;have bA:af (·=W.heap.size) wr w5:=by rw[Ki];exact aF.alloc _
   have bH:af (λ_=>False) w2 w5:=by rw[Ki];exact(af.refl _ _).alloc _
   have wC:=hJ _ _ w5 KF (bA.mono λb _ (hb:b=W.heap.size)=>⟨by omega,by subst hb;exact⟨_,sH,rfl⟩⟩);have h4:=bA.kept h3 aj;have wx:=bA.size;have qM:=iG.turn bH (λ_ _=>id) id;have AL: ∀ {o:Option Nat} {l:List aS},Hp.map (λb=>wr.heap[b]?) fq br aY (.map o) (aU l)→∀b,aos o= .map (some b)→¬b=W.heap.size:=by
    intro o l h b hb R5;rcases h with⟨h,_⟩|⟨b',es,clock,h,h',_⟩
    ·rw[h]at hb;cases hb
    ·rw[h]at hb;cases hb;rw[R5]at h';have h'':wr.heap[W.heap.size]? =_:=h';rw[sH]at h'';cases h''
   have H23:=Hp.uw H22 bA (AL H22);have H33:=Hp.uw H32 bA (AL H32);have hc1:(ja (came.map aug) l2).length<l1.length+l3.length:=by
    have:=Ey (came.map aug) l2;rw[auB]at this;omega
   have HS:at3 (ja ((came++ [((x,y,z),u)]).map aug) l2=if gP l2 (x,y,z)then ja (came.map aug) l2 else ja (came.map aug) l2++ [(x,y,z)]):=by
    show _=_;rw[atW];exact MI _ _ _
   obtain⟨e0,e1,e2,_⟩:=bI h4;have XG:w5.heap[w2.heap.size]? =some (.cells #[.int .u64 x,.int .u64 y,.int .u64 z] 116):=by rw[Ki];exact atp _ _
   obtain⟨q0,q1,q2,_⟩:=bI XG;have hbl:b0<w5.heap.size:=atm h4;clear d0 d1 d2 AL KF H22 H32 h3;clear bA bH;go_wp2_with (refine kE rfl (.tmp 7) rfl rfl iG ?_;dsimp only[br];rename_i HK;replace HK:at3 _:=HK);rw[←Ki];clear Ki iG hR aF;have hcc:=FK (aD w5) H23 x y z gH;cases dC:gP l2 (x,y,z)with
   |true=>
    rw[dC]at hcc;have W8:at3 (ja ((came++ [((x,y,z),u)]).map aug) l2=ja (came.map aug) l2):=by show _=_;rw[HS.out,if_pos dC]
    clear HS dC;refine HK.out _ _ ?_;clear HK;go_wp2_with (go_at_call 144;refine hcc.mono ?_;rintro e w7 ⟨rfl,eC⟩;have r0:=eC.cell q0 id;have r1:=eC.cell q1 id;have r2:=eC.cell q2 id);have hj3:=hJ _ _ w7 wC eC.wider;have h7:=eC.kept h4 id;have C_:=eC.size;have Bi:=qM.turn eC (λ_ _=>id) id;have H27:=Hp.bY H23 eC;have H37:=Hp.bY H33 eC
    go_roundg m
    case measure=>exact atG m
    case rel=>exact⟨came++ [((x,y,z),u)],by simp;omega,by rw[W8.out];exact hj3,h7,by omega,Bi,H27,H37⟩
   |false=>
    rw[dC]at hcc;have W8:at3 (ja ((came++ [((x,y,z),u)]).map aug) l2=ja (came.map aug) l2++ [(x,y,z)]):=by show _=_;rw[HS.out,if_neg (by rw[dC];simp)]
    clear HS dC;refine HK.out _ _ (mU (id:=3) [_,_,_,_,_,_,_,_] _ [_,_] rfl ar ar ar ?_);intro Ky Bl;replace Bl:at3 _:=Bl;go_wp2_with (go_at_call 144;refine hcc.mono ?_;rintro e w7 ⟨rfl,eC⟩;have r0:=eC.cell q0 id;have r1:=eC.cell q1 id;have r2:=eC.cell q2 id);have hj3:=hJ _ _ w7 wC eC.wider;have hy:=hY _ (x,y,z) _ hj3 hc1 gH;have h7:=eC.kept h4 id;have C_:=eC.size;have Bi:=qM.turn eC (λ_ _=>id) id;have H27:=Hp.bY H23 eC;have H37:=Hp.bY H33 eC;clear hcc eC wC hj3;refine Bl.out _ _ l #[br (x,y,z)] rfl ?_ (YieldAt.mono hy ?_)
    ·intro f tm asg bo hrun;unfold br at hrun;simp[execOp,go_sem,hrun]
    ·rintro e B ⟨rfl,hJ3,eN⟩;clear hy Bl HK;refine⟨rfl,λK2 hK2=>?_⟩;obtain⟨_,_,_,_,pj⟩:=Bi.book;have C8:=Bi.turn eN (λb pk ⟨h,_⟩=>h (.inr (.inl (by simpa using pk)))) (pB.book pj);have h8:=eN.kept h7 (by rintro⟨h,_⟩;exact h (.inl rfl));have H28:=Hp.uw H27 eN (λb pk ⟨h,_⟩=>h (.inr (.inr (.inl (by simpa using pk)))));have H38:=Hp.uw H37 eN (λb pk ⟨h,_⟩=>h (.inr (.inr (.inr (by simpa using pk)))));have Xd:=eN.size;clear qM Bi H27 H37 H23 H33 h4 h7 eN sH pj e0 e1 e2 q0 q1 q2 r0 r1 r2 XG;go_wp2
     go_roundg m
     case measure=>exact atG m
     case rel=>exact⟨came++ [((x,y,z),u)],by simp;omega,by rw[W8.out];exact hJ3,h8,by omega,C8,H28,H38⟩
end Go.Proofs.YtkdljbnllgpfhaaGreat
end
section
namespace Go.Proofs.YtkdljbnllgpfhaaGreat
open Go Go.RowKit Go.Upr
theorem rf:eL Tryz.prog 472 493 6 72:= .mk' Tryz.underlying472 (z:= .agg #[.string ati,.slice none 0 0,.bool false,.map none,.map none,.map none]) ar rfl aI
structure iY where
 a:sW
 neg:Bool
 deriving DecidableEq
def xT(h:Hp)(c:List aad)(l:iY):Prop:=∃v,c= [.string l.a.n,v,.bool l.neg]∧h.list 2 r_ v l.a.ts
theorem xT.cells{h:Hp}{c:List aad}{p:iY}(H:xT h c p): ∃ad cp,c= [.string p.a.n,.slice ad p.a.ts.length cp,.bool p.neg]∧h.list 2 r_ (.slice ad p.a.ts.length cp) p.a.ts:=by
 obtain⟨v,h1,h2⟩:=H;obtain⟨ad,cp,rfl⟩:=h2.shape;exact⟨ad,cp,h1,h2⟩
theorem xT.mono{h k:Hp}(e:h.le k){c:List aad}{a:iY}(H:xT h c a):xT k c a:=by
 obtain⟨v,h1,h2⟩:=H;exact⟨v,h1,Hp.list.mono (h:=h) (k:=k) (λ_ _ q=>q) h2 e⟩
def TE(l:iY):Prop:=l.a.ts.length≤3∧(∀t∈l.a.ts,qP t)∧bZ l.a.n
def dI(s:Bool)(l:iY):bN:=⟨l.a,l.neg,s⟩
theorem Mp{s:Bool}{ls:List iY}{k:Nat}{y:iY}(hy:ls[k]? =some y):(ls.take (k+1)).map (dI s)=(ls.take k).map (dI s)++ [dI s y]:=by
 rw[at8,hy,atW];rfl
theorem Ys{V:Bool→ByteArray→Vw}{s:Bool}{h:Hp}{w:aly}(hw:h.In w){m0 m1 m2:Option Nat}{b0 b1 b2:List (ByteArray×Nat)}{F0 F1 F2:ByteArray→List aS}(h0:qa w m0 b0 F0)(h1:qa w m1 b1 F1)(h2:qa w m2 b2 F2)(hV: ∀n,V s n=(au b0 n,au b1 n,au b2 n))
  {ad:Option alA} {l c:Nat} {ls:List iY} (hcs:h.list 3 xT (.slice ad l c) ls) (hn:ls.length≤16) (hv: ∀p∈ls,TE p):
  asP Tryz.prog 361 #[.slice ad l c,.agg #[.map m0,.map m1,.map m2]] w λe w'=>∃v,e= .returned v∧af (λ_=>False) w w'∧aw w' w.heap.size 493 6 (jX V) h v (ls.map (dI s)):=by
 obtain⟨lu,cap',hv2,hat⟩:=hcs.at hw;obtain⟨rfl,rfl,rfl⟩:ad=lu∧l=ls.length∧c=cap':=by simpa using hv2
 clear hv2;obtain⟨W,hW⟩: ∃W,W=w.alloc (.cells #[.map m0,.map m1,.map m2] 444):=⟨_,rfl⟩;have bM:af (λ_=>False) w W:=by rw[hW];exact(af.refl _ w).alloc _
 have lY:W.heap[w.heap.size]? =some (.cells #[.map m0,.map m1,.map m2] 444):=by rw[hW];exact atp _ _
 have lr:aw W (w.heap.size+1) 493 6 (jX V) h (.slice none 0 0) ((ls.take 0).map (dI s)):= .nil (hw.turn bM (λ_ _ _ h=>h));go_enter Tryz.func361,Tryz.ntmps361;go_wp2_with (rw[←hW]);clear hW
 go_loopw [5,10] (λv i wr=>∃ (k:Nat),k≤ls.length∧i= .int .i64 k∧af (λ_=>False) w wr∧wr.heap[w.heap.size]? =some (.cells #[.map m0,.map m1,.map m2] 444)∧aw wr (w.heap.size+1) 493 6 (jX V) h v ((ls.take k).map (dI s))) (λ_ i _=>ls.length-(intOf i).toNat)
 case atStart=>exact⟨0,arQ _,rfl,bM,lY,lr⟩
 case round=>
  clear lr;obtain⟨k,hk,rfl,hT,hA,hm⟩:=hrel;by_cases hlt:k<ls.length
  ·obtain⟨y,hy⟩: ∃y,ls[k]? =some y:=⟨_,arn hlt⟩;obtain⟨g,o,cc,rfl,bW,hR,ag⟩:=hat k y hy;obtain⟨ya,yc,rfl,wF⟩:=hR.cells;have e0:=hT.cell (ag 0 aI) id;have e1:=hT.cell (ag 1 aI) id;have e2:=hT.cell (ag 2 aI) id;simp only[at6,←at7]at e0 e1 e2;have r8:=hv y (ann hy);have HS:at3 ((ls.take (k+1)).map (dI s)=(ls.take k).map (dI s)++ [dI s y]):=Mp hy;have jy:((ls.take k).map (dI s)).length≤16:=by rw[auB,as1];omega
   clear hy ag bW hR;generalize(ls.take k).map (dI s)=f at hm jy HS;have hd:decide ((k:Int)<(ls.length:Int))=true:=by rw[decide_eq_true_eq];omega
   have k1:=λ(w':aly) (ht:af (λ_=>False) w w')=>aja (h0.turn ht (λ_ _=>id) (λ_ _=>id)) (h1.turn ht (λ_ _=>id) (λ_ _=>id)) (h2.turn ht (λ_ _=>id) (λ_ _=>id)) r8.2.2;have HR:at3 (∀v1 v2 v3,v1=au b0 y.a.n→v2=au b1 y.a.n→v3=au b2 y.a.n→jX V h [.string y.a.n,.slice ya y.a.ts.length yc,.bool y.neg,.map v1,.map v2,.map v3] (dI s y)):=by
    rintro v1 v2 v3 rfl rfl rfl;refine⟨_,?_,wF⟩;show _= [_,_,_,aos (V s y.a.n).1,aos (V s y.a.n).2.1,aos (V s y.a.n).2.2];rw[hV];rfl
   have qM:=HR.out _ _ _ rfl rfl rfl;generalize au b0 y.a.n=v1 at k1 qM;generalize au b1 y.a.n=v2 at k1 qM;generalize au b2 y.a.n=v3 at k1 qM;clear HR wF;go_wp2;obtain⟨wa,gY⟩: ∃wa,wa=wr.alloc (.cells #[.string y.a.n,.slice ya y.a.ts.length yc,.bool y.neg] 382):=⟨_,rfl⟩;have gI:af (λ_=>False) wr wa:=by rw[gY];exact(af.refl _ wr).alloc _
   have hP:wa.heap[wr.heap.size]? =some (.cells #[.string y.a.n,.slice ya y.a.ts.length yc,.bool y.neg] 382):=by rw[gY];exact atp _ _
   have hpl:=atm hP;have o9:=gI.kept hA id;have qK:=atm o9;obtain⟨p0,p1,p2,_,_,_⟩:=bI hP;obtain⟨a0,a1,a2,_,_,_⟩:=bI o9;rw[←gY];clear gY;refine aG (λi=>i==6||i==8||i==9||i==10) ar ar ?_;intro S g fN gc gf gh gb;iterate 6 (refine ak ar aC aC λK hK=>?_;go_big_quiet_op;refine hK _ ?_;clear hK K)
   refine ai ar aC λQ' hQ=>?_;go_wp2_with (go_at_call 370;refine(k1 _ (hT.trans gI.drew)).mono ?_;rintro e w2 ⟨rfl,aF⟩);have Fl:af (λ_=>False) wa w2:=(af.refl _ _).drew.trans aF;refine hQ _ _ ar (λ_=>gb _ Fl.below) ?_;clear hQ Q';refine ak ar aC aC λK hK=>?_;go_big_quiet_op;refine hK _ ?_;clear hK K;have nd:af (λ_=>False) wr w2:=gI.trans Fl;have il:=hm.turn nd (λ_ _ h=>h) (λ_ _ _ h=>h);have hz2:=nd.size;have akL:=hT.size;refine ai ar aC λQ' hQ=>?_;go_wp2;refine hQ _ _ ar (λ_=>gb _ (Fl.alloc _).below) ?_;clear hQ Q';refine ai ar aC λQ' hQ=>?_;refine bK rf rfl (.tmp 14) (.tmp 22) rfl il rfl (dI s y) #[.string y.a.n,.slice ya y.a.ts.length yc,.bool y.neg,.map v1,.map v2,.map v3] qM rfl (by simp[atv]) rfl rfl aj aj (by have:=atm hA;omega) ?_;intro g4 lK w6 gQ bH _;go_wp2;refine hQ _ _ ar (aX ar) ?_;clear hQ Q';refine ai ar aC λQ' hQ=>?_;go_wp2;refine hQ _ _ ar (aX ar) ?_;clear hQ Q';refine aQ ?_;go_wp2;go_roundw
   case rel=>
    refine⟨k+1,by omega,by go_num,(hT.trans nd).bL bH (λb hb=> .inl (by have:=(il.own b hb).1;omega)),bH.kept (Fl.kept o9 id) (λhb=>?_),by rw[HS.out];exact gQ⟩;have:=(il.own _ hb).1;omega
   case measure=>simp[intOf];omega
  ·have iQ:ls.take k=ls:=List.take_of_length_le aj;rw[iQ]at hm;go_wp2;go_ret;exact⟨_,rfl,hT,hm.lower (atZ _)⟩
end Go.Proofs.YtkdljbnllgpfhaaGreat
end
section
namespace Go.Proofs.YtkdljbnllgpfhaaGreat
open Go Go.RowKit Go.Upr
def py(bound:Nat)(p:bN):Bool:=decide (bU p.a.ts&&& (65535- bound)=0)
def iI(bound:Nat)(ps:List bN):List bN:=ps.filter (py bound)
def fw(bound:Nat)(ps:List bN):List bN:=ps.filter λp=> !py bound p
def nz(bound head:Nat)(ps:List bN):Nat:=bound&&& (head|||nw (fw bound ps))
theorem Nf{bound:Nat}{ps:List bN}{k:Nat}{y:bN}(hy:ps[k]? =some y):iI bound (ps.take (k+1))=if py bound y then iI bound (ps.take k)++ [y]else iI bound (ps.take k):=by
 unfold iI;rw[at8,hy,avP];simp only[avV,aol,av0];split<;>simp
theorem Mj{bound:Nat}{ps:List bN}{k:Nat}{y:bN}(hy:ps[k]? =some y):fw bound (ps.take (k+1))=if py bound y then fw bound (ps.take k)else fw bound (ps.take k)++ [y]:=by
 unfold fw;rw[at8,hy,avP];simp only[avV,aol,av0];cases py bound y<;>simp
theorem KP{a b:Nat}(ha:a<4096)(hb:b<4096):a|||b<4096:=Nat.or_lt_two_pow (n:=12) ha hb
theorem xd{a b:Nat}(ha:a<4096):a&&& b<4096:=Nat.lt_of_le_of_lt Nat.and_le_left ha
theorem aex{V:Bool→ByteArray→Vw}{h:Hp}{w:aly}(hw:h.In w){ad:Option alA}{l c:Nat}{ps:List bN}(hcs:h.list 6 (jX V) (.slice ad l c) ps)(hn:ps.length≤16)(hv: ∀p∈ps,dP p)(bound head:Nat)(hbd:bound<4096)(Px:head<4096):
  asP Tryz.prog 371 #[.int .u16 bound,.slice ad l c,.int .u16 head] w λe w'=>∃a1 c1 a2 c2,e= .returned (.tuple #[.agg #[.slice a1 (iI bound ps).length c1,.int .u16 (nz bound head ps:Nat)],.slice a2 (fw bound ps).length c2])∧af (λ_=>False) w w'∧
   ∃k:Hp,k.In w'∧Hp.Ext w.heap.size h k∧k.list 6 (jX V) (.slice a1 (iI bound ps).length c1) (iI bound ps)∧k.list 6 (jX V) (.slice a2 (fw bound ps).length c2) (fw bound ps):=by
 obtain⟨lu,cap',hv2,hat⟩:=hcs.at hw;obtain⟨rfl,rfl,rfl⟩:ad=lu∧l=ps.length∧c=cap':=by simpa using hv2
 clear hv2;have E4: ∀b o,h b=some o→b<w.heap.size:=λb o hb=>hw.lt hb;have bM:af (λ_=>False) w (w.alloc (.cells #[.slice none 0 0,.int .u16 0] 476)):=(af.refl _ w).alloc _;have hk0:=hw.turn bM (λ_ _ _ h=>h);have lr:aw (w.alloc (.cells #[.slice none 0 0,.int .u16 0] 476)) (w.heap.size+1) 493 6 (jX V) h (.slice none 0 0) (iI bound (ps.take 0)):= .nil hk0;have G8:aw (w.alloc (.cells #[.slice none 0 0,.int .u16 0] 476)) (w.heap.size+1) 493 6 (jX V) h (.slice none 0 0) (fw bound (ps.take 0)):= .nil hk0;go_enter Tryz.func371,Tryz.ntmps371;go_wp2
 go_loopw [8,9,14] (λv1 v2 i wr=>∃ (k:Nat),k≤ps.length∧i= .int .i64 k∧af (λ_=>False) w wr∧wr.heap[w.heap.size]? =some (.cells #[.slice none 0 0,.int .u16 0] 476)∧aw wr (w.heap.size+1) 493 6 (jX V) h v1 (iI bound (ps.take k))∧aw wr (w.heap.size+1) 493 6 (jX V) h v2 (fw bound (ps.take k))∧at3 (∀b,v1.ownBlock=some b→v2.ownBlock≠some b)) (λ_ _ i _=>ps.length-(intOf i).toNat)
 case atStart=>exact⟨0,arQ _,rfl,bM,atp _ _,lr,G8,λb hb=>(nomatch hb)⟩
 case round=>
  clear lr G8 hk0;obtain⟨k,hk,rfl,hT,hA,G8,il,HAP⟩:=hrel;have qK:=atm hA;by_cases hlt:k<ps.length
  ·obtain⟨y,hy⟩: ∃y,ps[k]? =some y:=⟨_,arn hlt⟩;obtain⟨g,o,cc,rfl,bW,hR,ag⟩:=hat k y hy;obtain⟨ya,yc,rfl,wF⟩:=hR.cells;have e0:=hT.cell (ag 0 aI) id;have e1:=hT.cell (ag 1 aI) id;have e2:=hT.cell (ag 2 aI) id;have e3:=hT.cell (ag 3 aI) id;have e4:=hT.cell (ag 4 aI) id;have e5:=hT.cell (ag 5 aI) id;simp only[at6,←at7]at e0 e1 e2 e3 e4 e5;have r8:=hv y (ann hy);have HS1:at3 (iI bound (ps.take (k+1))=if py bound y then iI bound (ps.take k)++ [y]else iI bound (ps.take k)):=Nf hy;have W8:at3 (fw bound (ps.take (k+1))=if py bound y then fw bound (ps.take k)else fw bound (ps.take k)++ [y]):=Mj hy;have o7:(iI bound (ps.take k)).length≤16:=al2 (avN _ _) (by rw[as1];omega);have hl2:(fw bound (ps.take k)).length≤16:=al2 (avN _ _) (by rw[as1];omega);generalize iI bound (ps.take k)=f1 at G8 o7 HS1;generalize fw bound (ps.take k)=f2 at il hl2 W8;have xZ:=iL r8.2.1;have k1:=λ(w':aly) (ht:af (λ_=>False) wr w')=>P7 (hw.turn (hT.trans ht) (λ_ _ _ h=>h)) wF r8.1 r8.2.1;have HB:at3 (py bound y=decide (bU y.a.ts&&& (65535- bound)=0)):=rfl;clear hy ag bW;generalize bU y.a.ts=q at k1 xZ HB;have hbt:=av4 q bound aj aj;generalize q&&& (65535- bound)=r at hbt HB;generalize(V y.side y.a.n).1=u1 at*;generalize(V y.side y.a.n).2.1=u2 at*;generalize(V y.side y.a.n).2.2=u3 at*;by_cases hr:r=0
   ·have hq:((r:Int)==0)=true:=by simpa using hr
    have HB2:at3 (py bound y=true):=by show _=_;rw[HB.out];simpa using hr
    clear hr;go_wp2_with (first|(go_at_call 322;refine(k1 _ ((af.refl _ wr).alloc _)).mono ?_;rintro e w2 ⟨rfl,aF⟩;have nd:af (λ_=>False) wr w2:=((af.refl _ wr).alloc (.cells #[.string y.a.n,.slice ya y.a.ts.length yc,.bool y.neg,.map u1,.map u2,.map u3] 493)).trans aF;have hP:=aF.kept (atp wr (.cells #[.string y.a.n,.slice ya y.a.ts.length yc,.bool y.neg,.map u1,.map u2,.map u3] 493)) id;have q0:=(aqF _ _ 0 _ 493 (0,0) hP).trans rfl;have q1:=(aqF _ _ 1 _ 493 (0,0) hP).trans rfl;have q2:=(aqF _ _ 2 _ 493 (0,0) hP).trans rfl;have q3:=(aqF _ _ 3 _ 493 (0,0) hP).trans rfl;have q4:=(aqF _ _ 4 _ 493 (0,0) hP).trans rfl;have q5:=(aqF _ _ 5 _ 493 (0,0) hP).trans rfl;have Xr:=G8.turn nd (λ_ _ h=>h) (λ_ _ _ h=>h);have Hk:=il.turn nd (λ_ _ h=>h) (λ_ _ _ h=>h);have hz2:=nd.size)|(at_builtin;refine bK rf rfl (.tmp 25) (.tmp 27) rfl Xr rfl y #[.string y.a.n,.slice ya y.a.ts.length yc,.bool y.neg,.map u1,.map u2,.map u3] hR rfl (by simp[atv]) rfl rfl aj aj aj ?_;intro g4 lK w6 gQ bH E6));go_roundw
    case rel=>
     refine⟨k+1,by omega,by go_num,(hT.trans nd).bL bH (λb hb=> .inl (by have:=(Xr.own b hb).1;omega)),bH.kept (nd.kept hA id) (λhb=>by have:=(Xr.own _ hb).1;omega),by rw[HS1.out,if_pos HB2.out];exact gQ,by rw[W8.out,if_pos HB2.out];exact Hk.gB bH (λb hb hb'=>HAP.out b hb' hb) (λb o hb h'=>by have:=(Xr.own b h').1;have:=E4 b o hb;omega),λb hb=>?_⟩;obtain rfl:=alN hb;rcases E6 with E6|E6
     ·exact HAP.out _ E6
     ·intro h2;have:=(Hk.own _ h2).2;have h3:w2.heap.size≤g4:=E6;have h4:g4<w2.heap.size:=this;omega
    case measure=>simp[intOf];omega
   ·have hq:((r:Int)==0)=false:=by simpa using hr
    have HB2:at3 (py bound y=false):=by show _=_;rw[HB.out];simpa using hr
    clear hr;go_wp2_with (first|(go_at_call 322;refine(k1 _ ((af.refl _ wr).alloc _)).mono ?_;rintro e w2 ⟨rfl,aF⟩;have nd:af (λ_=>False) wr w2:=((af.refl _ wr).alloc (.cells #[.string y.a.n,.slice ya y.a.ts.length yc,.bool y.neg,.map u1,.map u2,.map u3] 493)).trans aF;have hP:=aF.kept (atp wr (.cells #[.string y.a.n,.slice ya y.a.ts.length yc,.bool y.neg,.map u1,.map u2,.map u3] 493)) id;have q0:=(aqF _ _ 0 _ 493 (0,0) hP).trans rfl;have q1:=(aqF _ _ 1 _ 493 (0,0) hP).trans rfl;have q2:=(aqF _ _ 2 _ 493 (0,0) hP).trans rfl;have q3:=(aqF _ _ 3 _ 493 (0,0) hP).trans rfl;have q4:=(aqF _ _ 4 _ 493 (0,0) hP).trans rfl;have q5:=(aqF _ _ 5 _ 493 (0,0) hP).trans rfl;have Xr:=il.turn nd (λ_ _ h=>h) (λ_ _ _ h=>h);have Hk:=G8.turn nd (λ_ _ h=>h) (λ_ _ _ h=>h);have hz2:=nd.size)|(at_builtin;refine bK rf rfl (.tmp 29) (.tmp 31) rfl Xr rfl y #[.string y.a.n,.slice ya y.a.ts.length yc,.bool y.neg,.map u1,.map u2,.map u3] hR rfl (by simp[atv]) rfl rfl aj aj aj ?_;intro g4 lK w6 gQ bH E6));go_roundw
    case rel=>
     refine⟨k+1,by omega,by go_num,(hT.trans nd).bL bH (λb hb=> .inl (by have:=(Xr.own b hb).1;omega)),bH.kept (nd.kept hA id) (λhb=>by have:=(Xr.own _ hb).1;omega),by rw[HS1.out,if_neg (by rw[HB2.out];decide)];exact Hk.gB bH (λb hb hb'=>HAP.out b hb hb') (λb o hb h'=>by have:=(Xr.own b h').1;have:=E4 b o hb;omega),by rw[W8.out,if_neg (by rw[HB2.out];decide)];exact gQ,λb hb hb2=>?_⟩;obtain rfl:=alN hb2;rcases E6 with E6|E6
     ·exact HAP.out _ hb E6
     ·have:=(Hk.own _ hb).2;have h3:w2.heap.size≤g4:=E6;have h4:g4<w2.heap.size:=this;omega
    case measure=>simp[intOf];omega
  ·obtain rfl:k=ps.length:=by omega
   rw[List.take_length]at G8 il;have HL:at3 (nz bound head ps=bound&&& (head|||nw (fw bound ps))):=rfl;have hv2: ∀p∈fw bound ps,dP p:=λp hp=>hv p (auV.1 hp).1;have o7:(iI bound ps).length≤16:=al2 (avN _ _) hn;have hl2:(fw bound ps).length≤16:=al2 (avN _ _) hn;have hvp:=B4 hv2;obtain⟨k1,a1,a2,a3,a4⟩:=G8.done λk' hk c x=>jX.mono hk;obtain⟨k2,b1,b2,b3,b4⟩:=il.done λk' hk c x=>jX.mono hk;obtain⟨va,vc,rfl⟩:=G8.shape;obtain⟨ua,uc,rfl⟩:=il.shape;have hc9:=aew b1 b4 hl2 hv2;have o1:=λb hb=>(G8.own b hb).1;have o2:=λb hb=>(il.own b hb).1;clear G8 il HAP;generalize Pz:iI bound ps=f1 at*;generalize hf2:fw bound ps=f2 at*;have HF1:at3 (iI bound ps=f1):=Pz;have HF2:at3 (fw bound ps=f2):=hf2;clear Pz hf2;generalize nw f2=vr at*;have hor:=av1 head vr aj aj;have hho:=KP Px hvp;generalize head|||vr=hv' at*;have han:=avK bound hv' aj aj;generalize bound&&& hv'=lv' at*;go_wp2_with (go_at_call 379;refine hc9.mono ?_;rintro e w4 ⟨rfl,ck⟩;have xS:=ck.kept hA id;obtain⟨s0,s1,s2,s3⟩:=b9 xS);have hr:=cR (o:=1) (cR (o:=0) xS (.slice va f1.length vc)) (.int .u16 (lv':Nat));have hTD:af (·=w.heap.size) w4 ((w4.setCell ⟨w.heap.size,0,none⟩ (.slice va f1.length vc)).setCell ⟨w.heap.size,1,none⟩ (.int .u16 (lv':Nat))):=((af.refl (·=w.heap.size) w4).setCell (p:=⟨w.heap.size,0,none⟩) (.inr rfl) _).setCell (p:=⟨w.heap.size,1,none⟩) (.inr rfl) _;refine atg (iO rfl _ _ w.heap.size 476 #[.slice va f1.length vc,.int .u16 (lv':Nat)] (0,0) _ rfl hr Tryz.underlying476 rfl ar _ rfl) rfl ?_;rw[HF1.out,HF2.out,HL.out];refine⟨_,_,_,_,rfl,(hT.trans ck).bL hTD (λb (h:b=w.heap.size)=> .inl aj),k1.or k2,?_,⟨a2.trans (Hp.lW _ _),λb o hb=>?_⟩,Hp.list.mono (h:=k1) (k:=k1.or k2) (λc x=>jX.mono (Hp.lW _ _)) a4 (Hp.lW _ _),Hp.list.mono (h:=k2) (k:=k1.or k2) (λc x=>jX.mono (Hp.gR a1 b1)) b4 (Hp.gR a1 b1)⟩
   ·refine(Hp.TC a1 b1).turn (ck.wider.trans hTD) λb o hb h'=>?_;subst h';rcases Hp.nP hb with hb|hb
    ·rcases a3 _ _ hb with h1|h1
     ·have:=E4 _ _ h1;omega
     ·have:=o1 _ h1;omega
    ·rcases b3 _ _ hb with h1|h1
     ·have:=E4 _ _ h1;omega
     ·have:=o2 _ h1;omega
   ·rcases Hp.nP hb with hb|hb
    ·exact(a3 _ _ hb).imp id λh1=>by have:=o1 _ h1;omega
    ·exact(b3 _ _ hb).imp id λh1=>by have:=o2 _ h1;omega
end Go.Proofs.YtkdljbnllgpfhaaGreat
end
section
namespace Go.Proofs.YtkdljbnllgpfhaaGreat
open Go Go.RowKit Go.Upr
theorem jX.one{V:Bool→ByteArray→Vw}{h:Hp}: ∀c p,jX V h c p→∀u∈c,u.oneCell'=true:=by
 intro c p H u hu;obtain⟨ad,cp,rfl,_⟩:=H.cells;simp only[List.mem_cons,List.mem_nil_iff,or_false]at hu;rcases hu with rfl|rfl|rfl|rfl|rfl|rfl<;>rfl
theorem Qs(a:alA)(l c:Nat)(w:aly):(binOp .eql 472 (.slice (some a) l c) (.slice none 0 0)).run Tryz.prog w= .ok (.bool false) w:=by kernel_rfl
theorem ai1{V:Bool→ByteArray→Vw}{h:Hp}{w:aly}(hw:h.In w){ad:Option alA}{l c:Nat}{ps:List bN}(hcs:h.list 6 (jX V) (.slice ad l c) ps)(hn:ps.length≤16)(hne:ps≠ []):
  asP Tryz.prog 384 #[.slice ad l c] w λe w'=>∃v,e= .returned v∧af (λ_=>False) w w'∧aw w' w.heap.size 493 6 (jX V) h v ps:=by
 obtain⟨lu,cap',hv2,hat⟩:=hcs.at hw;obtain⟨rfl,rfl,rfl⟩:ad=lu∧l=ps.length∧c=cap':=by simpa using hv2
 clear hv2;obtain⟨g,o,rfl⟩: ∃g o,ad=some ⟨g,o,none⟩:=by
  cases ps with
  |nil=>exact absurd rfl hne
  |cons p ps=>obtain⟨g,o,_,h1,_⟩:=hat 0 p rfl;exact⟨g,o,h1⟩
 have hm:=aw.empty (α:=bN) (e:=493) (sz:=6) (R:=jX V) hw (agl _);have GY:=λw=>Qs ⟨g,o,none⟩ ps.length c w;go_enter Tryz.func384,Tryz.ntmps384;go_wp2_with (at_builtin;refine l9 rf rfl (.tmp 5) (.tmp 6) rfl hm rfl hcs rfl jX.one (by simp[maxLen];omega) lq bz ?_;intro v5 w5 o0 bA _);go_ret;exact⟨_,rfl,((af.refl _ w).alloc _).bL bA (λb hb=> .inl (hm.own b hb).1),o0⟩
theorem Oq(w:aly):(zeroValue 493).run Tryz.prog w= .ok (.agg #[.string ati,.slice none 0 0,.bool false,.map none,.map none,.map none]) w:=by kernel_rfl
theorem ai2{V:Bool→ByteArray→Vw}{h:Hp}{w:aly}{N:Nat}{g cap m:Nat}{ps:List bN}(hlen:ps.length=m+1)(hm:aw w N 493 6 (jX V) h (.slice (some ⟨g,0,none⟩) (m+1) cap) ps)(hn:m<16)(Dr:m+1≤cap)(i:Nat)(hi:i<m+1)(air:cap≤maxLen):
  asP Tryz.prog 383 #[.slice (some ⟨g,0,none⟩) (m+1) cap,.int .i64 i,.int .i64 (i+1:Int)] w λe w'=>∃v,e= .returned v∧af (·=g) w w'∧aw w' N 493 6 (jX V) h v (ps.eraseIdx i):=by
 have hle:(ps.eraseIdx i).length=m:=by rw[avX,if_pos aj,hlen];rfl
 unfold maxLen at air;have hie:((i:Int)== (i:Int)+1)=false:=by rw[beq_eq_false_iff_ne];omega
 by_cases hci:cap=i+1
 ·obtain rfl:i=m:=by omega
  subst hci;have HM:at3 (aw w N 493 6 (jX V) h (.slice (some ⟨g,0,none⟩) (i+1) (i+1)) ps):=hm;clear hm;go_enter Tryz.func383,Tryz.ntmps383;go_wp2;refine aG (λi=>i==6||i==7) ar ar ?_;intro S gg fN gc gf gh gb;iterate 6 (refine ak ar aC aC λK hK=>?_;go_big_quiet_op;refine hK _ ?_;clear hK K)
  refine ai ar aC λQ' hQ=>?_;refine u_ rf rfl (.tmp 22) (.tmp 25) rfl (HM.out.turn (D:=λ_=>False) ((af.refl _ w).drew) (λ_ _ h=>h) (λ_ _ _ h=>h)) hlen.symm i aj aj rfl aj (.inl aj) rfl jX.one ?_;intro w5 o0 bA;go_wp2;refine hQ _ _ ar (aX ar) ?_;clear hQ Q';refine ai ar aC λQ' hQ=>?_;go_wp2;refine hQ _ _ ar (aX ar) ?_;clear hQ Q';refine aQ ?_;go_wp2_with (refine ve Tryz.underlying472 Oq rfl (by simp[atv,av2]) rfl (.tmp 31) rfl o0 hle.symm i (agl _) aj rfl rfl ?_;intro w6 gQ bH);go_ret;exact⟨_,rfl,(((af.refl _ w).drew).trans bA).trans bH,gQ⟩
 ·have hcf:(cap=i+1)=False:=eq_false hci;have HM:at3 (aw w N 493 6 (jX V) h (.slice (some ⟨g,0,none⟩) (m+1) cap) ps):=hm;clear hm;go_enter Tryz.func383,Tryz.ntmps383;go_wp2;refine aG (λi=>i==6||i==7) ar ar ?_;intro S gg fN gc gf gh gb;iterate 6 (refine ak ar aC aC λK hK=>?_;go_big_quiet_op;refine hK _ ?_;clear hK K)
  refine ai ar aC λQ' hQ=>?_;refine u_ rf rfl (.tmp 22) (.tmp 25) rfl (HM.out.turn (D:=λ_=>False) ((af.refl _ w).drew) (λ_ _ h=>h) (λ_ _ _ h=>h)) hlen.symm i aj aj rfl aj (.inr rfl) rfl jX.one ?_;intro w5 o0 bA;go_wp2;refine hQ _ _ ar (aX ar) ?_;clear hQ Q';refine ai ar aC λQ' hQ=>?_;go_wp2;refine hQ _ _ ar (aX ar) ?_;clear hQ Q';refine aQ ?_;go_wp2_with (refine ve Tryz.underlying472 Oq rfl (by simp[atv,av2]) rfl (.tmp 31) rfl o0 hle.symm m (agl _) aj rfl rfl ?_;intro w6 gQ bH);go_ret;exact⟨_,rfl,(((af.refl _ w).drew).trans bA).trans bH,gQ⟩
end Go.Proofs.YtkdljbnllgpfhaaGreat
end
section
namespace Go.Proofs.YtkdljbnllgpfhaaGreat
open Go Go.RowKit Go.Upr
structure r9 where
 asks:List bN
 live:Nat
 part:bN
 known:Nat
 fresh:Nat
 deriving DecidableEq
def Dh(V:Bool→ByteArray→Vw)(h:Hp)(c:List aad)(s:r9):Prop:=
 ∃v u,c= [v,.int .u16 (s.live:Nat),.string s.part.a.n,u,.bool s.part.neg,.map (V s.part.side s.part.a.n).1,.map (V s.part.side s.part.a.n).2.1,.map (V s.part.side s.part.a.n).2.2,.int .u16 (s.known:Nat),.int .u16 (s.fresh:Nat),.map none]∧h.list 6 (jX V) v s.asks∧h.list 2 r_ u s.part.a.ts
theorem Dh.mono{V:Bool→ByteArray→Vw}{h k:Hp}(e:h.le k){c:List aad}{a:r9}(H:Dh V h c a):Dh V k c a:=by
 obtain⟨v,u,h1,h2,h3⟩:=H;exact⟨v,u,h1,Hp.list.mono (h:=h) (k:=k) (λ_ _=>jX.mono e) h2 e,Hp.list.mono (h:=h) (k:=k) (λ_ _ q=>q) h3 e⟩
def vP(live head own:Nat)(others:List bN):Nat:=(own&&& (head|||nw others))&&& (65535- live)
def fS(live head:Nat)(rest:List bN)(i:Nat)(p:bN):r9:=
 let fresh:=vP live head (bU p.a.ts) (rest.eraseIdx i)
 ⟨iI (live|||fresh) (rest.eraseIdx i),nz (live|||fresh) head (rest.eraseIdx i),p,bU p.a.ts&&& live,fresh⟩
def kM(live head:Nat)(rest:List bN)(i:Nat)(p:bN):List bN:=fw (live|||vP live head (bU p.a.ts) (rest.eraseIdx i)) (rest.eraseIdx i)
theorem ai3{V:Bool→ByteArray→Vw}{h:Hp}{w:aly}(hw:h.In w){ad:Option alA}{c m:Nat}{rest:List bN}(hlen:rest.length=m+1)(hcs:h.list 6 (jX V) (.slice ad (m+1) c) rest)(hn:m<16)(hv: ∀p∈rest,dP p)(live head:Nat)(hlv:live<4096)(Px:head<4096)(i:Nat){y:bN}(hy:rest[i]? =some y):
  asP Tryz.prog 380 #[.int .u16 live,.slice ad (m+1) c,.int .i64 i,.int .u16 head] w λe w'=>∃cs a2 c2,cs.size=11∧e= .returned (.tuple #[.agg cs,.slice a2 (kM live head rest i y).length c2])∧af (λ_=>False) w w'∧
   ∃k:Hp,k.In w'∧Hp.Ext w.heap.size h k∧Dh V k cs.toList (fS live head rest i y)∧k.list 6 (jX V) (.slice a2 (kM live head rest i y).length c2) (kM live head rest i y):=by
 have NA:i<m+1:=by have:=(List.getElem?_eq_some_iff.1 hy).1;omega
 obtain⟨lu,cap',hv2,hat⟩:=hcs.at hw;obtain⟨rfl,rfl⟩:ad=lu∧c=cap':=by
  have:=av5 hv2;exact⟨this.1,this.2.2⟩
 clear hv2;have hne:rest≠ []:=by rintro rfl;cases hlen
 obtain⟨g,o,cc,rfl,bW,hR,ag⟩:=hat i y hy;obtain⟨ya,yc,rfl,wF⟩:=hR.cells;have e0:=(af.refl (λ_=>False) w).cell (ag 0 aI) id;have e1:=(af.refl (λ_=>False) w).cell (ag 1 aI) id;have e2:=(af.refl (λ_=>False) w).cell (ag 2 aI) id;have e3:=(af.refl (λ_=>False) w).cell (ag 3 aI) id;have e4:=(af.refl (λ_=>False) w).cell (ag 4 aI) id;have e5:=(af.refl (λ_=>False) w).cell (ag 5 aI) id;simp only[at6,←at7]at e0 e1 e2 e3 e4 e5;clear ag bW;have r8:=hv y (ann hy);obtain⟨W,hW⟩: ∃W,W=w.alloc (.cells #[.slice none 0 0,.int .u16 0,.string ⟨#[]⟩,.slice none 0 0,.bool false,.map none,.map none,.map none,.int .u16 0,.int .u16 0,.map none] 497):=⟨_,rfl⟩;have bM:af (λ_=>False) w W:=by rw[hW];exact(af.refl _ w).alloc _
 have SE:W.heap[w.heap.size]? =some (.cells #[.slice none 0 0,.int .u16 0,.string ⟨#[]⟩,.slice none 0 0,.bool false,.map none,.map none,.map none,.int .u16 0,.int .u16 0,.map none] 497):=by rw[hW];exact atp _ _
 have vx:=hw.turn bM (λ_ _ _ h=>h);have hz0:W.heap.size=w.heap.size+1:=by rw[hW];simp
 have ain:h.list 6 (jX V) (.slice (some ⟨g,o,none⟩) rest.length c) rest:=by rw[hlen];exact hcs
 have k4:=ai1 vx ain aj hne;rw[hlen]at k4;have hvo: ∀p∈rest.eraseIdx i,dP p:=λp hp=>hv p ((List.eraseIdx_sublist _ _).subset hp);have xW:(rest.eraseIdx i).length=m:=by rw[avX,if_pos aj,hlen];rfl
 have HST:at3 (∀f own,bU y.a.ts=own→vP live head own (rest.eraseIdx i)=f→fS live head rest i y=⟨iI (live|||f) (rest.eraseIdx i),nz (live|||f) head (rest.eraseIdx i),y,own&&& live,f⟩∧kM live head rest i y=fw (live|||f) (rest.eraseIdx i)):=by
  rintro f own rfl rfl;exact⟨rfl,rfl⟩
 generalize fS live head rest i y=st at HST⊢;generalize kM live head rest i y=lf at HST⊢;generalize Dp:rest.eraseIdx i=others at hvo xW HST;have hown:=iL r8.2.1;have k6:=λ(w':aly) (ht:af (λ_=>False) w w')=>P7 (hw.turn ht (λ_ _ _ h=>h)) wF r8.1 r8.2.1;generalize Xp:bU y.a.ts=own at hown k6 HST;have adE:=B4 hvo;have HFR:at3 (vP live head own others=(own&&& (head|||nw others))&&& (65535- live)):=rfl;obtain⟨vo,adD⟩: ∃q,nw others=q:=⟨_,rfl⟩;rw[adD]at adE HFR;have b1:=av1 head vo aj aj;have c1:=KP Px adE;generalize head|||vo=o1 at b1 c1 HFR;have b2:=avK own o1 aj aj;have c2:=xd (b:=o1) hown;generalize own&&& o1=a1 at b2 c2 HFR;have b3:=av4 a1 live aj aj;have c3:=xd (b:=65535- live) c2;generalize a1&&& (65535- live)=f1 at b3 c3 HFR;have HS1:=HST.out f1 own rfl HFR.out;have b4:=av1 live f1 aj aj;have c4:=KP hlv c3;generalize live|||f1=l1 at b4 c4 HS1;have b5:=avK own live aj aj;generalize own&&& live=kn at b5 HS1;obtain⟨rfl,rfl⟩:=HS1;clear HST HFR;have E4: ∀b o,h b=some o→b<w.heap.size:=λb o hb=>hw.lt hb;have HR:at3 (jX V h [.string y.a.n,.slice ya y.a.ts.length yc,.bool y.neg,.map (V y.side y.a.n).1,.map (V y.side y.a.n).2.1,.map (V y.side y.a.n).2.2] y):=hR;clear hR Xp;obtain⟨u1,Ss⟩: ∃q,(V y.side y.a.n).1=q:=⟨_,rfl⟩;obtain⟨u2,KB⟩: ∃q,(V y.side y.a.n).2.1=q:=⟨_,rfl⟩;obtain⟨u3,Sr⟩: ∃q,(V y.side y.a.n).2.2=q:=⟨_,rfl⟩;rw[Ss]at e3;rw[KB]at e4;rw[Sr]at e5;have HU:at3 ((V y.side y.a.n).1=u1∧(V y.side y.a.n).2.1=u2∧(V y.side y.a.n).2.2=u3):=⟨Ss,KB,Sr⟩;clear Ss KB Sr;have akh:at3 (rest.eraseIdx i=others):=Dp;clear Dp;have abw:others.length<16:=by omega
 clear xW;go_enter Tryz.func380,Tryz.ntmps380
 go_wp2_with (first|(rw[←hW])|(go_at_call 384;refine k4.mono ?_;rintro e w2 ⟨v2,rfl,aF,il⟩;obtain⟨g2,Ts,hv2,hc2,hc3⟩:=il.slice hne;rw[hlen]at hv2 hc2;subst hv2;have k5:=ai2 hlen il hn hc2 i NA hc3;rw[akh.out]at k5)|
  (go_at_call 383;refine k5.mono ?_;rintro e w3 ⟨v3,rfl,bX,rR⟩;have eN:af (λ_=>False) w w3:=(bM.trans aF).bL bX (λb (h:b=g2)=> .inl (by have:=(il.own g2 rfl).1;omega));have f0:=eN.cell e0 id;have f1':=eN.cell e1 id;have hRw:=bX.kept (aF.kept SE id) (λh'=>by have h'':w.heap.size=g2:=h';have:=(il.own g2 rfl).1;omega))|
  (go_at_call 322;refine(k6 _ eN).mono ?_;rintro e w4 ⟨rfl,ck⟩;have lB:=rR.turn ck (λ_ _ h=>h) (λ_ _ _ h=>h);obtain⟨q1,q2,q3,q4,q5⟩:=lB.done (λk' hk c x=>jX.mono hk);obtain⟨va,vc,hv3⟩:=lB.shape;subst hv3;have k7:=aew q2 q5 aj hvo;rw[adD]at k7)|
  (go_at_call 379;refine k7.mono ?_;rintro e w5 ⟨rfl,bA⟩;have q1':=q2.turn bA (λ_ _ _ h=>h);have k8:=aex q1' q5 aj hvo l1 head c4 Px)|
  (go_at_call 371;refine k8.mono ?_;rintro e w6 ⟨a1',c1',a2',c2',rfl,bH,k',r1,r2,r3,r4⟩;have uO:=((eN.trans ck).trans bA).trans bH;have g0:=uO.cell e0 id;have g1:=uO.cell e1 id;have g2':=uO.cell e2 id;have g3:=uO.cell e3 id;have g4:=uO.cell e4 id;have g5:=uO.cell e5 id;have C7:=bH.kept (bA.kept (ck.kept hRw id) id) id))
 obtain⟨wb,Be⟩: ∃wb,wb=w6.alloc (.cells #[.slice a1' (iI l1 others).length c1',.int .u16 (nz l1 head others:Nat)] 476):=⟨_,rfl⟩;have AQ:af (λ_=>False) w6 wb:=by rw[Be];exact(af.refl _ _).alloc _
 have hP:=atp w6 (.cells #[.slice a1' (iI l1 others).length c1',.int .u16 (nz l1 head others:Nat)] 476);rw[←Be]at hP⊢;clear Be;have hpl:=atm hP;obtain⟨p0,p1,_,_⟩:=b9 hP;have hRb:=AQ.kept C7 id;have hTB:=uO.trans AQ;have j0:=AQ.cell g0 id;have j1:=AQ.cell g1 id;have j2:=AQ.cell g2' id;have j3:=AQ.cell g3 id;have j4:=AQ.cell g4 id;have j5:=AQ.cell g5 id;have o8:g<wb.heap.size:=avT wb _ j0;have zZ: ¬w6.heap.size=w.heap.size:=by
  have:=atm C7;omega
 have Nx: ¬g=w.heap.size:=by
  have:=avT w _ e0;dsimp only at this;omega
 refine fM (·=w.heap.size) (λi=>i==11||i==12) ar ar ?_;intro S gg fN gc gh gb;iterate 11 (refine ak ar aC aC λK hK=>?_;go_big_quiet_op;refine hK _ ?_;clear hK K)
 refine ai ar aC λQ' hQ=>?_;refine bV rfl (.tmp 8) (.tmp 54) rfl rfl (show wb.drew.heap[w.heap.size]? =_ from hRb) rfl Tryz.sizeOf497 rfl (by simp[atv]) ?_;intro w8 jJ Fe;have h8:af (·=w.heap.size) wb w8:=(af.refl _ _).drew.trans jJ;go_wp2;refine hQ _ _ ar (λ_=>gb _ h8) ?_;clear hQ Q';refine ai ar aC λQ' hQ=>?_;go_wp2;refine hQ _ _ ar (aX ar) ?_;clear hQ Q';refine aQ ?_;go_wp2;refine atg (iO rfl _ _ w.heap.size 497 _ (0,0) _ rfl Fe Tryz.underlying497 rfl ar _ rfl) rfl ?_;have se: ∀b o,k' b=some o→h b=some o∨w.heap.size+1≤b:=λb o hb=>by
  rcases r2.new b o hb with h1|h1
  ·rcases q4 b o h1 with h2|h2
   ·exact .inl h2
   ·have:=(lB.own b h2).1;exact .inr aj
  ·have:=((eN.trans ck).trans bA).size;have hs:=atm SE;have hs2:=aF.size;have hs3:=bX.size;have hs4:=ck.size;have hs5:=bA.size;exact .inr aj
 refine⟨_,_,_,rfl,rfl,hTB.bL h8 (λb (h:b=w.heap.size)=> .inl aj),k',?_,⟨q3.trans r2.le,λb o hb=>?_⟩,⟨.slice a1' (iI l1 others).length c1',.slice ya y.a.ts.length yc,?_,r3,?_⟩,r4⟩
 ·refine(r1.turn AQ (λ_ _ _ h=>h)).turn h8 λb o hb h'=>?_;subst h';rcases se _ _ hb with h1|h1
  ·have:=E4 _ _ h1;omega
  ·omega
 ·exact(se b o hb).imp id λh1=>by omega
 ·obtain⟨x1,x2,x3⟩:=HU.out;dsimp only;rw[x1,x2,x3]
 ·obtain⟨v,xP,hv2⟩:=wF;obtain⟨_,rfl⟩:y.a.n=y.a.n∧ .slice ya y.a.ts.length yc=v:=by simpa using xP
  exact Hp.list.mono (h:=h) (k:=k') (λ_ _ q=>q) hv2 (q3.trans r2.le)
theorem ag5{V:Bool→ByteArray→Vw}{h:Hp}{w:aly}(hw:h.In w){ad:Option alA}{c m:Nat}{rest:List bN}(hlen:rest.length=m+1)(hcs:h.list 6 (jX V) (.slice ad (m+1) c) rest)(hn:m<16)(hv: ∀p∈rest,dP p)(live head:Nat)(hlv:live<4096)(Px:head<4096)(i:Nat){y:bN}(hy:rest[i]? =some y){st:r9}(hst:fS live head rest i y=st){lf:List bN}(WN:kM live head rest i y=lf):
  asP Tryz.prog 380 #[.int .u16 live,.slice ad (m+1) c,.int .i64 i,.int .u16 head] w λe w'=>∃sa sc ua uc a2 c2,e= .returned (.tuple #[.agg #[.slice sa st.asks.length sc,.int .u16 (st.live:Nat),.string st.part.a.n,.slice ua st.part.a.ts.length uc,.bool st.part.neg,.map (V st.part.side st.part.a.n).1,.map (V st.part.side st.part.a.n).2.1,.map (V st.part.side st.part.a.n).2.2,.int .u16 (st.known:Nat),.int .u16 (st.fresh:Nat),.map none],.slice a2 lf.length c2])∧af (λ_=>False) w w'∧
   ∃k:Hp,k.In w'∧Hp.Ext w.heap.size h k∧k.list 6 (jX V) (.slice sa st.asks.length sc) st.asks∧k.list 2 r_ (.slice ua st.part.a.ts.length uc) st.part.a.ts∧k.list 6 (jX V) (.slice a2 lf.length c2) lf:=by
 subst hst WN;refine(ai3 hw hlen hcs hn hv live head hlv Px i hy).mono ?_;rintro e w' ⟨cs,a2,c2,h11,rfl,ht,k,hk,hx,⟨v,u,hc,h1,h2⟩,h3⟩;obtain⟨sa,sc,rfl⟩:=h1.shape;obtain⟨ua,uc,rfl⟩:=h2.shape;refine⟨sa,sc,ua,uc,a2,c2,?_,ht,k,hk,hx,h1,h2,h3⟩;have:cs= #[.slice sa (fS live head rest i y).asks.length sc,.int .u16 ((fS live head rest i y).live:Nat),.string (fS live head rest i y).part.a.n,.slice ua (fS live head rest i y).part.a.ts.length uc,.bool (fS live head rest i y).part.neg,.map (V (fS live head rest i y).part.side (fS live head rest i y).part.a.n).1,.map (V (fS live head rest i y).part.side (fS live head rest i y).part.a.n).2.1,.map (V (fS live head rest i y).part.side (fS live head rest i y).part.a.n).2.2,.int .u16 ((fS live head rest i y).known:Nat),.int .u16 ((fS live head rest i y).fresh:Nat),.map none]:=avR hc;rw[this]
end Go.Proofs.YtkdljbnllgpfhaaGreat
end
section
namespace Go.Proofs.YtkdljbnllgpfhaaGreat
open Go Go.RowKit Go.Upr
theorem adl(p:Nat)(v:aad)(T:Array aad):((#[p]:Array Tmp).zip #[v]).foldl (λt (p,v)=>t.setIfInBounds p v) T=T.setIfInBounds p v:=by simp
def Ad(n:Nat):Value:= .int .u64 (n:Nat)
def SU:Nat:=18446744073709551616
abbrev Ht:=eB→List (eB×Nat)
theorem AW(w:aly):(zeroValue 510).run Tryz.prog w= .ok (.map none) w:=by kernel_rfl
theorem Ov(w:aly):(zeroValue 110).run Tryz.prog w= .ok (Ad 0) w:=by kernel_rfl
structure fF(w:aly)(mb:Nat)(kb:List (eB×Nat))(F:Ht):Prop where
 top:av w okB cZ ji mb kb
 dy: ∀p∈kb,av w okB cZ Ad p.2 (F p.1)
 apart:(kb.map auw).Nodup
 off: ∀p∈kb,p.2≠mb
 none: ∀k,k∉kb.map aug→F k= []
theorem fF.turn{w w':aly}{mb:Nat}{kb:List (eB×Nat)}{F:Ht}{D:Nat→Prop}(h:fF w mb kb F)(ht:af D w w')(h0: ¬D mb)(h1: ∀p∈kb,¬D p.2):fF w' mb kb F:=
 ⟨h.top.turn ht h0,λp hp=>(h.dy p hp).turn ht (h1 p hp),h.apart,h.off,h.none⟩
def jL(ts:List ni)(known fresh:Nat)(F:Ht)(t:aS):Ht:=
 match cO ts (lx t)with
 |none=>F
 |some b=>λk=>if k=eH b known then mF SU (F k) (eH b fresh,1)else F k
theorem fF.new{w w' w'':aly}{mb nb:Nat}{kb:List (eB×Nat)}{F:Ht}(h:fF w mb kb F){k:eB}(hk:au kb k=Option.none)(ht:af (λ_=>False) w w')(hn:av w' okB cZ Ad nb [])(hf:w.heap.size≤nb)(hu:af (·=mb) w' w'')(aF:av w'' okB cZ ji mb (dO kb k nb)):fF w'' mb (kb++ [(k,nb)]) F∧au (kb++ [(k,nb)]) k=some nb:=by
 have z7:k∉kb.map aug:=λhm=>l_.1 hk hm;rw[tG z7]at aF;have hlt: ∀p∈kb,p.2<w.heap.size:=λp hp=>(h.dy p hp).lt;have hne:mb≠nb:=by have:=h.top.lt;omega
 refine⟨⟨aF,?_,?_,?_,?_⟩,?_⟩
 ·intro p hp;rcases aqo.1 hp with hp|hp
  ·exact((h.dy p hp).turn ht id).turn hu (h.off p hp)
  ·rw[atQ.1 hp];dsimp only;rw[h.none k z7];exact hn.turn hu hne.symm
 ·rw[atW,aus];refine⟨h.apart,by simp,λx hx y hy=>?_⟩;obtain⟨p,hp,rfl⟩:=amk.1 hx;have:=hlt p hp;simp at hy;omega
 ·intro p hp;rcases aqo.1 hp with hp|hp
  ·exact h.off p hp
  ·rw[atQ.1 hp];exact hne.symm
 ·intro x hx;exact h.none x λhm=>hx (by rw[atW];exact List.mem_append_left _ hm)
 ·refine(ux ?_).2 bz;rw[atW,aus];refine⟨?_,by simp,λx hx y hy=>?_⟩
  ·obtain⟨_,_,_,hh⟩:=h.top;exact hh.once
  ·simp at hy;rintro rfl;exact z7 (hy▸hx)
theorem fF.YW{w w':aly}{mb rb:Nat}{kb:List (eB×Nat)}{F G:Ht}(h:fF w mb kb F){k:eB}(hk:au kb k=some rb)(ht:af (·=rb) w w')(hn:av w' okB cZ Ad rb (G k))(hG: ∀x,x≠k→G x=F x):fF w' mb kb G:=by
 have gJ:=cB hk;have hon:(kb.map aug).Nodup:=by
  obtain⟨_,_,_,hh⟩:=h.top;exact hh.once
 refine⟨h.top.turn ht (h.off _ gJ).symm,λp hp=>?_,h.apart,h.off,λx hx=>?_⟩
 ·by_cases Nv:p.1=k
  ·have:p=(k,rb):=O1 hon hp gJ Nv;rw[this];exact hn
  ·rw[hG _ Nv];refine(h.dy p hp).turn ht λNt=>Nv ?_;have:p=(k,rb):=by
    obtain⟨i,hi,rfl⟩:=asW hp;obtain⟨j,hj,AP⟩:=asW gJ;have e1:(kb.map auw)[i]'(by rw[auB];exact hi)=(kb.map auw)[j]'(by rw[auB];exact hj):=by rw[auC,auC,AP];exact Nt
    obtain rfl:=(List.getElem_inj h.apart).1 e1;exact AP
   rw[this]
 ·rw[hG x]
  ·exact h.none x hx
  ·rintro rfl;exact hx (amk.2 ⟨_,gJ,rfl⟩)
theorem Me{ts:List ni}{known fresh:Nat}{F:Ht}{t:aS}{b:eB}(h:cO ts (lx t)=some b):(jL ts known fresh F t (eH b known)=dO (F (eH b known)) (eH b fresh) (((au (F (eH b known)) (eH b fresh)).getD 0+1) % SU))∧∀x,x≠eH b known→jL ts known fresh F t x=F x:=by
 unfold jL;rw[h];refine⟨?_,λx hx=>?_⟩
 ·dsimp only;rw[if_pos rfl];rfl
 ·dsimp only;rw[if_neg hx]
end Go.Proofs.YtkdljbnllgpfhaaGreat
end
