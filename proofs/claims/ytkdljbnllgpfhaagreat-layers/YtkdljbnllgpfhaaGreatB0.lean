import Derived.Test.YtkdljbnllgpfhaaGreatA8
import Derived.Test.YtkdljbnllgpfhaaGreatA9
import Derived.Maps.OwnSet
import Derived.Maps.OwnOps
import Derived.DeepKeys5
set_option maxRecDepth 100000
set_option maxHeartbeats 8000000
open List renaming getElem?_eq_getElem→arn,mem_of_getElem?→ann,take_of_length_le→at4,getElem?_eq_some_iff→apT,take_add_one→at8,foldl_append→at9,drop_eq_getElem_cons→aub,drop_of_length_le→aud,getElem?_map→anr,mem_map→amk,any_eq_true→aue,getElem?_set→auh,ext_getElem?→aui,map_set→auk,mem_or_eq_of_mem_set→aum,getElem_of_mem→asW,mem_singleton→atQ,find?_eq_none→aur,nodup_append→aus,mem_append→aqo,map_append→atW,nodup_nil→aut
open Go.Value renaming string→at5,oneCell'→atv
open Nat renaming add_zero→at6,add_assoc→at7,zero_le→arQ,mul_one→aup,le_refl→agl
open Go renaming World→aly,Value→aad,run_underlying→auf,MapEntry→alz,Calls→asP,Addr→alA,lt_of_block→atm,heap_alloc_new→atp,Operand→ang,Program→alu,TypeId→acs,Oper→apy
open Go.Result renaming andThen→aua
open Go.MapKept renaming run_getObj_map→auc,run_setObj_map→aul
open Go.RowKit renaming Hid→at3,run_makeMap→auj
open Array renaming getElem?_toList→an0,toList_push→aof
open Go.Region renaming wanted→apY
open Prod renaming fst→aug,snd→auw
open Option.some renaming inj→alN
open Go.Instr renaming findKey→alR,lookup→ami,mapUpdate→anJ
open Option renaming map_eq_none_iff→aun
open ByteArray renaming empty→ati
open Go.WideMaps renaming KeyLaw→auo,string_law→auy,keyOf_string_mk→auz
open Go.Program renaming keyLits→auq
open Go.World renaming size_alloc→atS
open Go.Builtin renaming len_→anW
open Bool renaming and_false→auu,and_true→auv
open Go.Oper renaming wp→atJ
open Function renaming comp→auA
section
namespace Go.Upr
open Go Go.RowKit Go.WideAt Go.ChangeMaps
structure fG(P:alu)(kt:acs){κ:Type}(key:κ→aad)(ok:κ→Prop):Prop where
 inj: ∀x y,ok x→ok y→key x=key y→x=y
 check: ∀ (w:aly) (em:Bool) x,ok x→(Instr.checkKey em 10000 kt (key x)).run P w= .ok () w
 find: ∀ (w:aly) x,ok x→∀es:List alz,(∀e∈es,∃y,ok y∧e.key=key y)→
  ((alR kt (key x) es).run P w= .ok none w∧∀e∈es,e.key≠key x)∨∃ (j:Nat) (e:alz),(alR kt (key x) es).run P w= .ok (some (j,e.val)) w∧es[j]? =some e∧e.key=key x
 stays: ∀ (w:aly) x,ok x→(Instr.keyThatStays (key x) (key x)).run P w= .ok (key x) w
theorem fG.of_law{P:alu}{kt:acs}{κ:Type}{key:κ→aad}{ok:κ→Prop}(K:auo P kt)(hk: ∀x,ok x→∃l,keyOf P kt (key x)=some l)(hi: ∀x y,ok x→ok y→key x=key y→x=y):fG P kt key ok where
 inj:=hi
 check w em x hx:=let⟨_,h⟩:=hk x hx;K.check w em h
 find w x hx es hes:=let⟨_,h⟩:=hk x hx;K.find w h es λe he=>by obtain⟨y,hy,e1⟩:=hes e he;rw[e1];exact hk y hy
 stays w x hx:=let⟨_,h⟩:=hk x hx;K.stays w h
section
variable{P:alu}{kt et t:acs}{κ ν:Type}{key:κ→aad}{ok:κ→Prop}{enc:ν→aad}
structure Holds(ok:κ→Prop)(key:κ→aad)(enc:ν→aad)(es:Array alz)(clock:Nat)(f:List (κ×ν)):Prop where
 rows:es.toList.map (λe=>(e.key,e.val))=f.map λp=>(key p.1,enc p.2)
 good: ∀p∈f,ok p.1
 once:(f.map aug).Nodup
 stamps:(es.toList.map (·.born)).Nodup
 before: ∀e∈es.toList,e.born<clock
variable[DecidableEq κ]
def au(f:List (κ×ν))(x:κ):Option ν:=(f.find? λp=>p.1=x).map auw
def dO(f:List (κ×ν))(x:κ)(v:ν):List (κ×ν):=if f.any (λp=>p.1=x)then f.map (λp=>if p.1=x then(x,v)else p)else f++ [(x,v)]
def Ds(f:List (κ×ν))(x:κ):List (κ×ν):=f.filter λp=> !decide (p.1=x)
omit [DecidableEq κ] in
theorem Holds.size{es:Array alz}{clock:Nat}{f:List (κ×ν)}(h:Holds ok key enc es clock f):es.size=f.length:=by
 have:=congrArg List.length h.rows;simpa using this
omit [DecidableEq κ] in
theorem Holds.at{es:Array alz}{clock:Nat}{f:List (κ×ν)}(h:Holds ok key enc es clock f)(j:Nat):(es.toList[j]?).map (λe=>(e.key,e.val))=(f[j]?).map λp=>(key p.1,enc p.2):=by
 have:=congrArg (λl=>l[j]?) h.rows;simpa only[anr]using this
omit [DecidableEq κ] in
theorem Holds.keys{es:Array alz}{clock:Nat}{f:List (κ×ν)}(h:Holds ok key enc es clock f): ∀e∈es.toList,∃y,ok y∧e.key=key y:=by
 intro e he;obtain⟨j,hj,rfl⟩:=asW he;have h1:=h.at j;rw[arn hj]at h1;cases hf:f[j]? with
 |none=>rw[hf]at h1;cases h1
 |some p=>
  rw[hf]at h1;have:=alN h1;exact⟨p.1,h.good p (ann hf),congrArg aug this⟩
theorem Ck{f:List (κ×ν)}(h:(f.map aug).Nodup){j:Nat}{x:κ}{v:ν}(hj:f[j]? =some (x,v)):au f x=some v:=by
 induction f generalizing j with
 |nil=>cases hj
 |cons p f ih=>
  rw[List.map_cons,List.nodup_cons]at h;cases j with
  |zero=>
   obtain rfl:=alN hj;simp[au]
  |succ j=>
   have hm:(x,v)∈f:=ann (by simpa using hj);have hne: ¬p.1=x:=λe=>h.1 (e▸amk.2 ⟨_,hm,rfl⟩);have:=ih h.2 (by simpa using hj);unfold au at this⊢;rw[List.find?_cons_of_neg (by simpa using hne)];exact this
theorem rD{f:List (κ×ν)}{x:κ}(h: ∀p∈f,p.1≠x):au f x=none:=by
 unfold au;rw[aun,aur];intro p hp;simpa using h p hp
omit [DecidableEq κ] in
theorem Holds.search{es:Array alz}{clock:Nat}{f:List (κ×ν)}(K:fG P kt key ok)(h:Holds ok key enc es clock f)(w:aly){x:κ}(hx:ok x):
  ((alR kt (key x) es.toList).run P w= .ok none w∧(∀p∈f,p.1≠x)∧∀e∈es.toList,e.key≠key x)∨
  ∃ (j:Nat) (e:alz) (v:ν),(alR kt (key x) es.toList).run P w= .ok (some (j,enc v)) w∧es.toList[j]? =some e∧e.key=key x∧e.val=enc v∧f[j]? =some (x,v):=by
 rcases K.find w x hx es.toList h.keys with⟨h1,h2⟩|⟨j,e,h1,h2,h3⟩
 ·refine .inl ⟨h1,λp hp e=>?_,h2⟩;obtain⟨j,hj,rfl⟩:=asW hp;have h3:=h.at j;rw[arn hj]at h3;cases he:es.toList[j]? with
  |none=>rw[he]at h3;cases h3
  |some e0=>
   rw[he]at h3;have h4:=congrArg aug (alN h3);exact h2 e0 (ann he) (by rw[←e];exact h4)
 ·have h4:=h.at j;rw[h2]at h4;cases hf:f[j]? with
  |none=>rw[hf]at h4;cases h4
  |some p=>
   rw[hf]at h4;have h5:=alN h4;have hp:p.1=x:=K.inj _ _ (h.good p (ann hf)) hx ((congrArg aug h5).symm.trans h3);have h6:e.val=enc p.2:=congrArg auw h5;exact .inr ⟨j,e,p.2,by rw[h1,h6],h2,h3,h6,by rw[hf,←hp]⟩
def Hp.map(h:Hp)(ok:κ→Prop)(key:κ→aad)(enc:ν→aad)(v:aad)(f:List (κ×ν)):Prop:=
 (v= .map Option.none∧f= [])∨∃b es clock,v= .map (some b)∧h b=some (.map es clock)∧Holds ok key enc es clock f
omit [DecidableEq κ] in
theorem Hp.map.mono{h k:Hp}(e:h.le k){v:aad}{f:List (κ×ν)}(H:h.map ok key enc v f):k.map ok key enc v f:=by
 rcases H with h1|⟨b,es,clock,h1,h2,h3⟩
 ·exact .inl h1
 ·exact .inr ⟨b,es,clock,h1,e _ _ h2,h3⟩
theorem Cb{h:Hp}{w:aly}(K:fG P kt key ok)(ht:P.underlying t=some (.map kt et)){z:aad}(hz:(zeroValue et).run P w= .ok z w)(hw:h.In w){v:aad}{f:List (κ×ν)}(H:h.map ok key enc v f){x:κ}(hx:ok x)(c:Bool):
  (ami t v (key x) c).run P w= .ok (if c then .tuple #[(au f x).elim z enc,.bool (au f x).isSome]else(au f x).elim z enc) w:=by
 rcases H with⟨rfl,rfl⟩|⟨b,es,clock,rfl,h1,h2⟩
 ·have h0:=(K.find w x hx [] bz);rcases h0 with⟨h0,_⟩|⟨j,e,_,h0,_⟩
  ·simp[ami,auf ht,K.check w _ x hx,h0,hz,aua,au]
  ·simp at h0
 ·have hb:=hw b _ h1;rcases h2.search K w hx with⟨h3,h4,_⟩|⟨j,e,v,h3,_,_,_,h4⟩
  ·simp[ami,auf ht,auc hb,K.check w _ x hx,h3,hz,aua,rD h4]
  ·simp[ami,auf ht,auc hb,K.check w _ x hx,h3,aua,Ck h2.once h4]
theorem Holds.put{es:Array alz}{clock:Nat}{f:List (κ×ν)}(K:fG P kt key ok)(h:Holds ok key enc es clock f)(w:aly){x:κ}(hx:ok x)(v:ν){b:Nat}(hb:w.heap[b]? =some (.map es clock))(ht:P.underlying t=some (.map kt et)):
  ∃es' clock',(anJ t (.map (some b)) (key x) (enc v)).run P w= .ok () (setBlock w b (.map es' clock'))∧Holds ok key enc es' clock' (dO f x v):=by
 rcases h.search K w hx with⟨h3,h4,h5⟩|⟨j,e,u,h3,h6,h7,_,h4⟩
 ·refine⟨es.push ⟨key x,enc v,clock⟩,clock+1,?_,?_,?_,?_,?_,?_⟩
  ·simp[anJ,auf ht,auc hb,K.check w false x hx,h3,aul _ hb,aua,setBlock]
  all_goals
   have hp:dO f x v=f++ [(x,v)]:=by
    unfold dO;rw[if_neg];intro hc;obtain⟨p,hp,he⟩:=aue.1 hc;exact h4 p hp (by simpa using he)
   try rw[hp]
  ·simp[h.rows]
  ·intro p Nw;rcases aqo.1 Nw with h8|h'
   ·exact h.good p h8
   ·rw[atQ.1 h'];exact hx
  ·rw[atW,aus];refine⟨h.once,by simp,?_⟩;intro y hy z hz;obtain⟨p,Nw,rfl⟩:=amk.1 hy;have:z=x:=by simpa using hz
   rw[this];exact h4 p Nw
  ·rw[aof,atW,aus];refine⟨h.stamps,by simp,?_⟩;intro y hy z hz;obtain⟨p,Nw,rfl⟩:=amk.1 hy;have h8:z=clock:=by simpa using hz
   rw[h8];exact Nat.ne_of_lt (h.before p Nw)
  ·intro e he;rw[aof]at he;rcases aqo.1 he with h'|h'
   ·exact Nat.lt_succ_of_lt (h.before e h')
   ·rw[atQ.1 h'];exact Nat.lt_succ_self _
 ·have rS:=(apT.1 h6).1;have hput:dO f x v=f.set j (x,v):=by
   unfold dO;have abM:f.any (λp=>decide (p.1=x))=true:=aue.2 ⟨_,ann h4,by simp⟩;rw[if_pos abM];apply aui;intro i;rw[anr,auh];by_cases tX:j=i
   ·subst tX;rw[h4];simp[(apT.1 h4).1]
   ·rw[if_neg tX];cases hi:f[i]? with
    |none=>rfl
    |some p=>
     have hne:p.1≠x:=by
      intro e;have a1:(f.map aug)[i]? =some x:=by rw[anr,hi,←e];rfl
      have a2:(f.map aug)[j]? =some x:=by rw[anr,h4];rfl
      exact tX ((List.getElem?_inj (apT.1 a2).1 h.once).1 (a2.trans a1.symm))
     simp[hne]
  have KW:(es.modify j λe=>{e with key:=key x,val:=enc v}).toList=es.toList.set j {e with key:=key x,val:=enc v}:=by
   apply aui;intro i;rw[an0,Array.getElem?_modify,auh];by_cases tX:j=i
   ·subst tX;rw[if_pos rfl,if_pos rfl,if_pos rS,←an0,h6];rfl
   ·rw[if_neg tX,if_neg tX,←an0]
  refine⟨es.modify j λe=>{e with key:=key x,val:=enc v},clock,?_,?_,?_,?_,?_,?_⟩
  ·have h9:es[j]? =some e:=by rw[←an0];exact h6
   simp[anJ,auf ht,auc hb,K.check w false x hx,h3,h9,h7,K.stays w x hx,aul _ hb,aua,setBlock]
  ·rw[KW,hput,auk,auk,h.rows]
  ·rw[hput];intro p hp;rcases aum hp with h'|rfl
   ·exact h.good p h'
   ·exact hx
  ·rw[hput,auk];have:(f.map aug).set j x=f.map aug:=by
    apply aui;intro i;rw[auh];by_cases tX:j=i
    ·subst tX;rw[if_pos rfl,anr,h4];simp[(apT.1 h4).1]
    ·rw[if_neg tX]
   rw[this];exact h.once
  ·rw[KW,auk];have:(es.toList.map (·.born)).set j e.born=es.toList.map (·.born):=by
    apply aui;intro i;rw[auh];by_cases tX:j=i
    ·subst tX;rw[if_pos rfl,anr,h6];simpa using rS
    ·rw[if_neg tX]
   rw[this];exact h.stamps
  ·intro d hd;rw[KW]at hd;rcases aum hd with h'|rfl
   ·exact h.before d h'
   ·exact h.before e (ann h6)
def av(w:aly)(ok:κ→Prop)(key:κ→aad)(enc:ν→aad)(b:Nat)(f:List (κ×ν)):Prop:=∃es clock,w.heap[b]? =some (.map es clock)∧Holds ok key enc es clock f
omit [DecidableEq κ] in
theorem av.turn{w w':aly}{b:Nat}{f:List (κ×ν)}{D:Nat→Prop}(h:av w ok key enc b f)(ht:af D w w')(hd: ¬D b):av w' ok key enc b f:=by
 obtain⟨es,clock,h1,h2⟩:=h;exact⟨es,clock,ht.kept h1 hd,h2⟩
omit [DecidableEq κ] in
theorem av.lt{w:aly}{b:Nat}{f:List (κ×ν)}(h:av w ok key enc b f):b<w.heap.size:=by
 obtain⟨es,clock,h1,_⟩:=h;exact atm h1
omit [DecidableEq κ] in
theorem av.made{w:aly}:av (w.alloc (.map #[] 0)) ok key enc w.heap.size ([]:List (κ×ν)):=
 ⟨#[],0,atp w _,rfl,λ_ h=>(nomatch h),aut,aut,λ_ h=>(nomatch h)⟩
omit [DecidableEq κ] in
theorem av.hp{w:aly}{b:Nat}{f:List (κ×ν)}(h:av w ok key enc b f):Hp.map (λb=>w.heap[b]?) ok key enc (.map (some b)) f:=by
 obtain⟨es,clock,h1,h2⟩:=h;exact .inr ⟨b,es,clock,rfl,h1,h2⟩
theorem aD(w:aly):Hp.In (λb=>w.heap[b]?) w:=λ_ _ h=>h
theorem eT(w:aly)(b:Nat)(o:Obj):af (·=b) w (setBlock w b o):=
 ⟨rfl,rfl,rfl,by simp[setBlock],λk _ hd=>by
  show(w.heap.setIfInBounds b o)[k]? =_
  rw[Array.getElem?_setIfInBounds_ne (λe=>hd e.symm)]⟩
theorem cM{w:aly}{b:Nat}{o o':Obj}(h:w.heap[b]? =some o'):(setBlock w b o).heap[b]? =some o:=by
 show(w.heap.setIfInBounds b o)[b]? =_
 rw[Array.getElem?_setIfInBounds_self_of_lt (atm h)]
theorem wpList_want{ops:Array apy}{rest:List apy}{o:apy}{a:Act}{Q:Exit→Act→aly→Prop}{w:aly}(hw:apY o (yielded ops a.tmps)=true)(h: ∀K:Act→aly→Prop,(∀a w,wpList P ops Q rest a w→K a w)→o.wp P a w K Q):wpList P ops Q (o::rest) a w:=by
 unfold wpList;rw[if_pos hw];exact .inl (h _ λ_ _ h=>h)
section
variable{ops:Array apy}{rest:List apy}{o:apy}{a:Act}{Q:Exit→Act→aly→Prop}{w:aly}{b:Nat}{f:List (κ×ν)}{x:κ}
theorem yH(K:fG P kt key ok)(ht:P.underlying t=some (.map kt et)){z:aad}(hz: ∀w,(zeroValue et).run P w= .ok z w)(hg:apY o (yielded ops a.tmps)=true)(m y:ang)(c:Bool)(hop:o.op= .lookup t m y c){v:aad}(hm:a.eval m=v){h:Hp}(hw:h.In w)(H:h.map ok key enc v f)
  (hy:a.eval y=key x) (hx:ok x) (hk:wpList P ops Q rest (a.put o.dst (if c then .tuple #[(au f x).elim z enc,.bool (au f x).isSome]else(au f x).elim z enc)) w):wpList P ops Q (o::rest) a w:=by
 refine wpList_want hg λK' hK'=>?_;unfold atJ;simp[execOp,hop,hm,hy,Cb K ht (hz w) hw H hx c,aua];exact hK' _ _ hk
theorem aP(K:fG P kt key ok)(ht:P.underlying t=some (.map kt et)){z:aad}(hz: ∀w,(zeroValue et).run P w= .ok z w)(hg:apY o (yielded ops a.tmps)=true)(m y:ang)(hop:o.op= .lookup t m y true){v:aad}(hm:a.eval m=v){h:Hp}(hw:h.In w)(H:h.map ok key enc v f)
  (hy:a.eval y=key x) (hx:ok x) {u:ν} (hl:au f x=some u) (hk:wpList P ops Q rest (a.put o.dst (.tuple #[enc u,.bool true])) w):wpList P ops Q (o::rest) a w:=
 yH K ht hz hg m y true hop hm hw H hy hx (by rw[hl];exact hk)
theorem aZ(K:fG P kt key ok)(ht:P.underlying t=some (.map kt et)){z:aad}(hz: ∀w,(zeroValue et).run P w= .ok z w)(hg:apY o (yielded ops a.tmps)=true)(m y:ang)(hop:o.op= .lookup t m y true){v:aad}(hm:a.eval m=v){h:Hp}(hw:h.In w)(H:h.map ok key enc v f)
  (hy:a.eval y=key x) (hx:ok x) (hl:au f x=none) (hk:wpList P ops Q rest (a.put o.dst (.tuple #[z,.bool false])) w):wpList P ops Q (o::rest) a w:=
 yH K ht hz hg m y true hop hm hw H hy hx (by rw[hl];exact hk)
theorem bj(K:fG P kt key ok)(ht:P.underlying t=some (.map kt et))(hg:apY o (yielded ops a.tmps)=true)(m y u:ang)(hop:o.op= .mapUpdate t m y u)(hm:a.eval m= .map (some b))(H:av w ok key enc b f)
  (hy:a.eval y=key x) (hx:ok x) (v:ν) (hu:a.eval u=enc v) (hk: ∀w',af (·=b) w w'→av w' ok key enc b (dO f x v)→wpList P ops Q rest (a.put o.dst undef) w'):wpList P ops Q (o::rest) a w:=by
 refine wpList_want hg λK' hK'=>?_;obtain⟨es,clock,h1,h2⟩:=H;obtain⟨es',clock',h3,h4⟩:=h2.put K w hx v h1 ht;unfold atJ;simp[execOp,hop,hm,hy,hu,h3,aua];exact hK' _ _ (hk _ (eT w b _) ⟨es',clock',cM h1,h4⟩)
omit [DecidableEq κ] in
theorem fQ(ht:P.underlying t=some (.map kt et))(hg:apY o (yielded ops a.tmps)=true)(m:ang)(hop:o.op= .call {callee:= .builtin .len,args:= #[m],argTypes:= #[t]})(hm:a.eval m= .map (some b))(H:av w ok key enc b f)
  (hk:wpList P ops Q rest (a.put o.dst (.int .i64 f.length)) w):wpList P ops Q (o::rest) a w:=by
 refine wpList_want hg λK' hK'=>?_;obtain⟨es,clock,h1,h2⟩:=H;have h3:(anW #[t] o.type #[.map (some b)]).run P w= .ok (.int .i64 f.length) w:=by
  rw[←h2.size];simp[anW,auf ht,auc h1,aua,goInt]
 unfold atJ;simp[execOp,hop,resolve,invoke,builtin,hm,h3,aua];exact hK' _ _ hk
end
end
theorem Mf{P:alu}{kt:acs}(hk:P.underlying kt=some .string):fG P kt at5 λs=>s.size≤maxLen:=
 .of_law (auy hk) (λx hx=>⟨_,auz hk hx⟩) (λx y _ _ h=>by injection h)
end Go.Upr
end
section
namespace Go.Proofs.YtkdljbnllgpfhaaGreat
open Go Go.RowKit Go.Upr
theorem ZU:eL Tryz.prog 241 233 2 40:= .mk' Tryz.underlying241 (z:= .agg #[.string ati,.slice none 0 0]) ar rfl aI
def ay(c:cS):List qI:=c.head::c.body.map (·.a)
theorem kQ.cells{h:Hp}{c:List aad}{a:qI}(H:kQ h c a): ∃ad cp,c= [.string a.n,.slice ad a.ts.length cp]:=by
 obtain⟨v,rfl,h1⟩:=H;obtain⟨ad,cp,rfl⟩:=h1.shape;exact⟨ad,cp,rfl⟩
theorem mr.cells{h:Hp}{c:List aad}{y:sK}(H:mr h c y): ∃ad cp,c= [.string y.a.n,.slice ad y.a.ts.length cp,.bool y.neg]∧kQ h [.string y.a.n,.slice ad y.a.ts.length cp] y.a:=by
 obtain⟨d,h1,rfl⟩:=H;obtain⟨ad,cp,rfl⟩:=h1.cells;exact⟨ad,cp,rfl,h1⟩
theorem P9{h:Hp}{w:aly}(hw:h.In w){x:ByteArray}{ad mh:Option alA}{l c l2 c2:Nat}{cl:cS}(bW:cW h [.string x,.slice ad l c,.slice mh l2 c2] cl)(hsz:cl.body.length≤1099511627776):
  asP Tryz.prog 132 #[.agg #[.string x,.slice ad l c,.slice mh l2 c2]] w λe w'=>∃ad l c,e= .returned (.slice ad l c)∧af (λ_=>False) w w'∧∃k:Hp,k.In w'∧Hp.Ext w.heap.size h k∧k.list 2 kQ (.slice ad l c) (ay cl):=by
 obtain⟨d,v2,hd,hdd,jT⟩:=bW;obtain⟨v1,Ko,iu⟩:=id hd;subst Ko;obtain⟨rfl,rfl,rfl⟩:x=cl.head.n∧ .slice ad l c=v1∧ .slice mh l2 c2=v2:=by simpa using hdd
 obtain⟨lu,cap',hv2,hat⟩:=jT.at hw;obtain⟨rfl,rfl,rfl⟩:mh=lu∧l2=cl.body.length∧c2=cap':=by simpa using hv2
 clear hv2 hdd;go_enter Tryz.func132,Tryz.ntmps132;go_wp2;have lr:aw ((w.alloc (.cells #[.string cl.head.n,.slice ad l c,.slice mh cl.body.length c2] 236)).alloc (.cells #[.string cl.head.n,.slice ad l c] 233)) (w.heap.size+1) 233 2 kQ h _ [cl.head]:=
  aw.one (hw.turn ((af.refl (λ_=>False) w).alloc (.cells #[.string cl.head.n,.slice ad l c,.slice mh cl.body.length c2] 236)) (λ_ _ _ h=>h)) #[.string cl.head.n,.slice ad l c] rfl hd bz
 simp only[atS]at lr
 go_loopw [3,12] (λv i wr=>∃ (k:Nat),k≤cl.body.length∧i= .int .i64 k∧af (λ_=>False) w wr∧aw wr (w.heap.size+1) 233 2 kQ h v (cl.head::(cl.body.take k).map (·.a))) (λ_ i _=>cl.body.length-(intOf i).toNat)
 case atStart=>exact⟨0,arQ _,rfl,((af.refl _ w).alloc _).alloc _,by simpa using lr⟩
 case round=>
  obtain⟨k,hk,rfl,hT,hm⟩:=hrel;by_cases hlt:k<cl.body.length
  ·obtain⟨y,hy⟩: ∃y,cl.body[k]? =some y:=⟨_,arn hlt⟩;obtain⟨g,o,cc,rfl,bW,hR,ag⟩:=hat k y hy;obtain⟨ya,yc,rfl,hRa⟩:=hR.cells;have e0:=hT.cell (ag 0 aI) id;have e1:=hT.cell (ag 1 aI) id;have e2:=hT.cell (ag 2 aI) id;simp only[at6,←at7]at e0 e1 e2;have z7:=hT.size;have rR:=hm.turn ((af.refl (λ_=>False) wr).alloc (.cells #[.string y.a.n,.slice ya y.a.ts.length yc,.bool y.neg] 309)) (λ_ _ h=>h) (λ_ _ _ h=>h);go_wp2_with (at_builtin;refine di ZU rfl (.tmp 16) (.tmp 19) rfl rR rfl y.a #[.string y.a.n,.slice ya y.a.ts.length yc] hRa rfl (by simp[atv]) rfl bz lq lq lq ?_;intro g4 lK w4 lB ck);go_roundw
   case rel=>
    refine⟨k+1,by omega,by go_num,(hT.alloc _).bL ck (λb hb=> .inl (by have:=(hm.own b hb).1;omega)),?_⟩;rw[at8,hy];have ahR:min k cl.body.length=k:=Nat.min_eq_left (Nat.le_of_lt hlt);simpa[ahR]using lB
   case measure=>simp[intOf];omega
  ·have KE:k=cl.body.length:=by omega
   obtain⟨va,vc,rfl⟩:=hm.shape;go_wp2;go_ret;refine⟨_,_,_,rfl,hT,?_⟩;obtain⟨k',d1,d2,d3,d4⟩:=hm.done λk' hk c x=>kQ.mono hk;have hat':ay cl=cl.head::(cl.body.take k).map (·.a):=by rw[KE,at4 (agl _)];rfl
   rw[hat'];exact⟨k',d1,⟨d2,λb o hb=>(d3 b o hb).imp id λh=>by have:=(hm.own b h).1;omega⟩,d4⟩
end Go.Proofs.YtkdljbnllgpfhaaGreat
end
section
namespace Go.Proofs.YtkdljbnllgpfhaaGreat
open Go Go.RowKit Go.Upr
theorem kZ{α:Type}{p:α→Bool}{xs:List α}{k:Nat}{y:α}(hy:xs[k]? =some y)(h:(xs.take k).any p=false)(hp:p y=false):(xs.take (k+1)).any p=false:=by
 rw[at8,hy,List.any_append,h];simp[hp]
theorem ri{α:Type}{p:α→Bool}{xs:List α}{k:Nat}{y:α}(hy:xs[k]? =some y)(hp:p y=true):xs.any p=true:=aue.2 ⟨y,ann hy,hp⟩
theorem ui{α:Type}{p:α→Bool}{xs:List α}{k:Nat}(hk: ¬k<xs.length)(h:(xs.take k).any p=false):xs.any p=false:=by
 rwa [at4 aj]at h
def yz(t:Tm):Bool:=decide ((8:Int)<t.t.size)
def qZ(a:qI):Bool:=decide ((8:Int)<a.n.size)||a.ts.any yz
theorem ajH{h:Hp}{w:aly}(hw:h.In w){x:ByteArray}{ad:Option alA}{l c:Nat}{a:qI}(ha:kQ h [.string x,.slice ad l c] a)(hsz:a.ts.length≤1099511627776):
  asP Tryz.prog 243 #[.agg #[.string x,.slice ad l c]] w λe w'=>e= .returned (.bool (qZ a))∧af (λ_=>False) w w':=by
 obtain⟨v,hv,iu⟩:=ha;obtain⟨rfl,rfl⟩:x=a.n∧ .slice ad l c=v:=by simpa using hv
 obtain⟨lu,cap',hv2,hat⟩:=iu.at hw;obtain⟨rfl,rfl,rfl⟩:ad=lu∧l=a.ts.length∧c=cap':=by simpa using hv2
 clear hv2 hv;by_cases h8:(8:Int)<a.n.size
 ·go_enter Tryz.func243,Tryz.ntmps243;go_wp2;go_ret;exact⟨jS (by simp[qZ,h8]),(af.refl _ _).alloc _⟩
 ·go_enter Tryz.func243,Tryz.ntmps243;go_wp2
  go_loopw [12] (λi wr=>∃ (k:Nat),k≤a.ts.length∧i= .int .i64 k∧af (λ_=>False) w wr∧(a.ts.take k).any yz=false) (λi _=>a.ts.length-(intOf i).toNat)
  case atStart=>exact⟨0,arQ _,rfl,(af.refl _ w).alloc _,rfl⟩
  case round=>
   obtain⟨k,hk,rfl,hT,hn⟩:=hrel;have HN:at3 ((a.ts.take k).any yz=false):=hn;clear hn;by_cases hlt:k<a.ts.length
   ·obtain⟨y,hy⟩: ∃y,a.ts[k]? =some y:=⟨_,arn hlt⟩;obtain⟨g,o,cc,rfl,bW,rfl,ag⟩:=hat k y hy;have e0:=hT.cell (ag 0 aI) id;have e1:=hT.cell (ag 1 aI) id;simp only[at6,←at7]at e0 e1;have HY:at3 (a.ts[k]? =some y):=hy;clear hy;by_cases hy8:(8:Int)<y.t.size
    ·go_wp2;go_ret;exact⟨jS (by simp[qZ,ri HY.out (p:=yz) (by simp[yz,hy8])]),hT.alloc _⟩
    ·go_wp2;go_roundw
     case rel=>exact⟨k+1,by omega,by go_num,hT.alloc _,kZ HY.out HN.out (by simp[yz,hy8])⟩
     case measure=>simp[intOf];omega
   ·go_wp2;go_ret;exact⟨jS (by simp[qZ,h8,ui hlt HN.out]),hT⟩
def vQ(a:qI):Bool:=decide ((3:Int)<a.ts.length)||qZ a
def pT(cl:cS):Bool:=decide ((4:Int)<cl.body.length)||(ay cl).any vQ
def Small(n:Nat)(cl:cS):Prop:=cl.body.length<n∧∀a∈ay cl,a.ts.length<n∧a.n.size<n∧∀t∈a.ts,t.t.size<n
theorem cW.cells{h:Hp}{c:List aad}{cl:cS}(H:cW h c cl): ∃ad cp mh cp2,c= [.string cl.head.n,.slice ad cl.head.ts.length cp,.slice mh cl.body.length cp2]:=by
 obtain⟨d,v,h1,rfl,h2⟩:=H;obtain⟨ad,cp,rfl⟩:=h1.cells;obtain⟨mh,cp2,rfl⟩:=h2.shape;exact⟨ad,cp,mh,cp2,rfl⟩
theorem ajS{h:Hp}{w:aly}(hw:h.In w){x:ByteArray}{ad mh:Option alA}{l c l2 c2:Nat}{cl:cS}(bW:cW h [.string x,.slice ad l c,.slice mh l2 c2] cl)(hsm:Small 1099511627776 cl):
  asP Tryz.prog 182 #[.agg #[.string x,.slice ad l c,.slice mh l2 c2]] w λe w'=>e= .returned (.bool (pT cl))∧af (λ_=>False) w w':=by
 obtain⟨q1,q2,q3,q4,hcc⟩:=bW.cells;obtain⟨rfl,⟨rfl,rfl,rfl⟩,rfl,rfl,rfl⟩:x=cl.head.n∧(ad=q1∧l=cl.head.ts.length∧c=q2)∧mh=q3∧l2=cl.body.length∧c2=q4:=by simpa using hcc
 clear hcc;by_cases h4:(4:Int)<cl.body.length
 ·go_enter Tryz.func182,Tryz.ntmps182;go_wp2;go_ret;exact⟨jS (by simp[pT,h4]),(af.refl _ _).alloc _⟩
 ·go_enter Tryz.func182,Tryz.ntmps182;have ik:=hw.turn ((af.refl (λ_=>False) w).alloc (.cells #[.string cl.head.n,.slice ad cl.head.ts.length c,.slice mh cl.body.length c2] 236)) (λ_ _ _ h=>h);go_wp2_with (go_at_call 132;refine(P9 ik bW (by have:=hsm.1;omega)).mono ?_;rintro e w2 ⟨KL,l3,c3,rfl,aF,k2,hk2,hx2,hl2⟩;obtain⟨q5,q6,hv2⟩:=hl2.shape;obtain⟨rfl,rfl,rfl⟩:KL=q5∧l3=(ay cl).length∧c3=q6:=by simpa using hv2);obtain⟨q7,q8,hv3,hat⟩:=hl2.at hk2;obtain⟨rfl,rfl⟩:KL=q7∧c3=q8:=by simpa using hv3
  clear hv3;have dK:af (λ_=>False) w w2:=((af.refl _ w).alloc _).trans aF;have hlen:(ay cl).length≤1099511627776:=by have:=hsm.1;simp[ay];omega
  go_loopw [12] (λi wr=>∃ (k:Nat),k≤(ay cl).length∧i= .int .i64 k∧af (λ_=>False) w2 wr∧((ay cl).take k).any vQ=false) (λi _=>(ay cl).length-(intOf i).toNat)
  case atStart=>exact⟨0,arQ _,rfl,af.refl _ _,rfl⟩
  case round=>
   obtain⟨k,hk,rfl,hT,hn⟩:=hrel;have HN:at3 (((ay cl).take k).any vQ=false):=hn;clear hn;by_cases hlt:k<(ay cl).length
   ·obtain⟨y,hy⟩: ∃y,(ay cl)[k]? =some y:=⟨_,arn hlt⟩;obtain⟨g,o,cc,rfl,bW,hR,ag⟩:=hat k y hy;obtain⟨ya,yc,rfl⟩:=hR.cells;have qG:=(hsm.2 y (ann hy)).1;have e0:=hT.cell (ag 0 aI) id;have e1:=hT.cell (ag 1 aI) id;simp only[at6,←at7]at e0 e1;have HY:at3 ((ay cl)[k]? =some y):=hy;clear hy;have hk3:=(hk2.turn hT (λ_ _ _ h=>h)).turn ((af.refl (λ_=>False) wr).alloc (.cells #[.string y.n,.slice ya y.ts.length yc] 233)) (λ_ _ _ h=>h);by_cases hy3:(3:Int)<y.ts.length
    ·go_wp2;go_ret;exact⟨jS (by simp[pT,ri HY.out (p:=vQ) (by simp[vQ,hy3])]),(dK.trans hT).alloc _⟩
    ·have hc3:=ajH hk3 hR aj;have HL:at3 (vQ y=qZ y):=by show _=_;simp[vQ,hy3]
     generalize qZ y=b at hc3 HL;cases b
     ·go_wp2_with (go_at_call 243;refine hc3.mono ?_;rintro e w3 ⟨rfl,bX⟩);go_roundw
      case rel=>exact⟨k+1,by omega,by go_num,(hT.alloc _).trans bX,kZ HY.out HN.out HL.out⟩
      case measure=>simp[intOf];omega
     ·go_wp2_with (go_at_call 243;refine hc3.mono ?_;rintro e w3 ⟨rfl,bX⟩);go_ret;exact⟨jS (by simp[pT,ri HY.out HL.out]),((dK.trans hT).alloc _).trans bX⟩
   ·go_wp2;go_ret;exact⟨jS (by simp[pT,h4,ui hlt HN.out]),dK.trans hT⟩
end Go.Proofs.YtkdljbnllgpfhaaGreat
end
section
namespace Go.Proofs.YtkdljbnllgpfhaaGreat
open Go Go.RowKit Go.Upr
abbrev bZ:ByteArray→Prop:=λs=>s.size≤maxLen
abbrev aY:Unit→Value:=λ_=> .agg #[]
theorem cI:fG Tryz.prog 9 at5 bZ:=Mf Tryz.underlying9
def jr(f:List (ByteArray×Unit))(zs:List qI):List (ByteArray×Unit):=zs.foldl (λf a=>dO f a.n ()) f
theorem DI{f:List (ByteArray×Unit)}{zs:List qI}{k:Nat}{y:qI}(hy:zs[k]? =some y):jr f (zs.take (k+1))=dO (jr f (zs.take k)) y.n ():=by
 unfold jr;rw[at8,hy,at9];rfl
def pq:Nat→List (ByteArray×Unit)→List cS→Int
 |_,_,[]=> -1
 |i,f,cl::cs=>if(16:Int)≤i∨(8:Int)<(jr f (ay cl)).length∨pT cl=true then i else pq (i+1) (jr f (ay cl)) cs
theorem aka{h:Hp}{w:aly}(hw:h.In w){ad:Option alA}{l c:Nat}{cs:List cS}(hcs:h.list 3 cW (.slice ad l c) cs)(_hn:cs.length≤1099511627776)(hsm: ∀cl∈cs,Small 1099511627776 cl):
  asP Tryz.prog 127 #[.slice ad l c] w λe w'=>e= .returned (.int .i64 (pq 0 [] cs))∧af (λ_=>False) w w':=by
 obtain⟨q7,q8,hv3,hat⟩:=hcs.at hw;obtain⟨rfl,rfl,rfl⟩:ad=q7∧l=cs.length∧c=q8:=by simpa using hv3
 clear hv3;have tV:= @auj Tryz.prog;go_enter Tryz.func127,Tryz.ntmps127;go_wp2;have p8:av (w.alloc (.map #[] 0)) bZ at5 aY w.heap.size []:=av.made
 go_loopw [11] (λi wr=>∃ (k:Nat) (f:List (ByteArray×Unit)),k≤cs.length∧i= .int .i64 k∧af (λ_=>False) w wr∧av wr bZ at5 aY w.heap.size f∧pq k f (cs.drop k)=pq 0 [] cs) (λi _=>cs.length-(intOf i).toNat)
 case atStart=>exact⟨0,[],arQ _,rfl,(af.refl _ w).alloc _,p8,rfl⟩
 case round=>
  obtain⟨k,f,hk,rfl,hT,hM,Xp⟩:=hrel;have HO:at3 (pq k f (cs.drop k)=pq 0 [] cs):=Xp;clear Xp p8;by_cases hlt:k<cs.length
  ·obtain⟨y,hy⟩: ∃y,cs[k]? =some y:=⟨_,arn hlt⟩;obtain⟨g,o,cc,rfl,bW,hR,ag⟩:=hat k y hy;obtain⟨ya,yc,lA,lz,rfl⟩:=hR.cells;have mL:=hsm y (ann hy);have e0:=hT.cell (ag 0 aI) id;have e1:=hT.cell (ag 1 aI) id;have e2:=hT.cell (ag 2 aI) id;simp only[at6,←at7]at e0 e1 e2;have HY:at3 (cs[k]? =some y):=hy;clear hy;have vx:=(hw.turn hT (λ_ _ _ h=>h)).turn ((af.refl (λ_=>False) wr).alloc (.cells #[.string y.head.n,.slice ya y.head.ts.length yc,.slice lA y.body.length lz] 236)) (λ_ _ _ h=>h);go_wp2_with (go_at_call 132;refine(P9 vx hR (by have:=mL.1;omega)).mono ?_;rintro e w2 ⟨KL,l3,c3,rfl,aF,k2,hk2,hx2,hl2⟩;obtain⟨q5,q6,hv2⟩:=hl2.shape;obtain⟨rfl,rfl,rfl⟩:KL=q5∧l3=(ay y).length∧c3=q6:=by simpa using hv2);obtain⟨q9,q10,hv3,x_⟩:=hl2.at hk2;obtain⟨rfl,rfl⟩:KL=q9∧c3=q10:=by simpa using hv3
   clear hv3;have yf:=(hT.alloc (.cells #[.string y.head.n,.slice ya y.head.ts.length yc,.slice lA y.body.length lz] 236)).trans aF;have hlen:(ay y).length≤1099511627776:=by have:=mL.1;simp[ay];omega
   have wz:av w2 bZ at5 aY w.heap.size f:=(hM.turn ((af.refl (λ_=>False) wr).alloc _) id).turn aF id;have hz2:=aF.size;have KX:=hM.lt;have uD:=aF.made id
   go_loopw [19] (λi wq=>∃ (j:Nat),j≤(ay y).length∧i= .int .i64 j∧af (·=w.heap.size) w2 wq∧av wq bZ at5 aY w.heap.size (jr f ((ay y).take j))) (λi _=>(ay y).length-(intOf i).toNat)
   case atStart=>exact⟨0,arQ _,rfl,af.refl _ _,wz⟩
   case round=>
    obtain⟨j,hj,rfl,gT,kH⟩:=hrel;by_cases pL:j<(ay y).length
    ·obtain⟨z,hz⟩: ∃z,(ay y)[j]? =some z:=⟨_,arn pL⟩;obtain⟨g2,o2,cc2,rfl,sU,iG,dh⟩:=x_ j z hz;obtain⟨za,zc,rfl⟩:=iG.cells;have hzs:=mL.2 z (ann hz);have hg2: ¬g2=w.heap.size:=by
      obtain⟨ob,pk⟩:=hl2.block;rcases hx2.new _ _ pk with h1|h1
      ·have:=hw.lt h1;omega
      ·simp at h1;omega
     have u0:=gT.cell (dh 0 aI) hg2;have u1:=gT.cell (dh 1 aI) hg2;simp only[at6,←at7]at u0 u1;have HZ:at3 ((ay y)[j]? =some z):=hz;clear hz;go_wp2_with (at_mapUpdate;refine bj cI Tryz.underlying249 rfl (.tmp 23) (.tmp 25) (.tmp 26) rfl rfl (kH.turn ((af.refl (λ_=>False) wr).alloc (.cells #[.string z.n,.slice za z.ts.length zc] 233)) id) rfl (show z.n.size≤maxLen by have:=hzs.2.1;unfold maxLen;omega) () rfl ?_;intro w5 bA mg);go_roundw
     case rel=>exact⟨j+1,by omega,by go_num,(gT.alloc _).trans bA,by rw[DI HZ.out];exact mg⟩
     case measure=>simp[intOf];omega
    ·have AP:jr f ((ay y).take j)=jr f (ay y):=by rw[at4 aj]
     rw[AP]at kH;have HS:at3 (pq k f (cs.drop k)=if(16:Int)≤k∨(8:Int)<(jr f (ay y)).length∨pT y=true then(k:Int)else pq (k+1) (jr f (ay y)) (cs.drop (k+1))):=by
      show _=_;rw[aub hlt,(apT.1 HY.out).2,pq]
     have KG:af (λ_=>False) w wr:=yf.bL gT λb (h:b=w.heap.size)=> .inl aj;by_cases h16:(16:Int)≤k
     ·go_wp2;go_ret;exact⟨pn (by rw[←HO.out,HS.out,if_pos (.inl h16)]),KG⟩
     ·by_cases h8:(8:Int)<(jr f (ay y)).length
      ·go_wp2_with (at_len;refine fQ Tryz.underlying249 rfl (.tmp 31) rfl rfl kH ?_);go_ret;exact⟨pn (by rw[←HO.out,HS.out,if_pos (.inr (.inl h8))]),KG⟩
      ·have Bn:=gT.kept uD aj;obtain⟨b0,b1,b2,f0,f1,f2⟩:=bI Bn;have hc:=ajS (hw.turn KG (λ_ _ _ h=>h)) hR mL;cases hb:pT y
       ·rw[hb]at hc;have HB:at3 (pT y=false):=hb;clear hb;go_wp2_with (first|(at_len;refine fQ Tryz.underlying249 rfl (.tmp 31) rfl rfl kH ?_)|(go_at_call 182;refine hc.mono ?_;rintro e w5 ⟨rfl,bA⟩));go_roundw
        case rel=>exact⟨k+1,_,by omega,by go_num,KG.trans bA,kH.turn bA id,by rw[←HO.out,HS.out,if_neg (by have:=HB.out;rintro(h|h|h);omega;omega;simp[this]at h)]⟩
        case measure=>simp[intOf];omega
       ·rw[hb]at hc;have HB:at3 (pT y=true):=hb;clear hb;go_wp2_with (first|(at_len;refine fQ Tryz.underlying249 rfl (.tmp 31) rfl rfl kH ?_)|(go_at_call 182;refine hc.mono ?_;rintro e w5 ⟨rfl,bA⟩));go_ret;exact⟨pn (by rw[←HO.out,HS.out,if_pos (.inr (.inr HB.out))]),KG.trans bA⟩
  ·go_wp2;go_ret;refine⟨pn ?_,hT⟩;rw[←HO.out,aud aj];rfl
end Go.Proofs.YtkdljbnllgpfhaaGreat
end
section
namespace Go.Proofs.YtkdljbnllgpfhaaGreat
open Go Go.RowKit Go.Upr
abbrev Ai:Int→Value:=Value.int .i64
theorem wR(w:aly):(zeroValue 3).run Tryz.prog w= .ok (.int .i64 0) w:=by kernel_rfl
def j_(f:List (ByteArray×Int)):List qI→Option (List (ByteArray×Int))
 | []=>some f
 |a::l=>match au f a.n with
  |some u=>if u=(a.ts.length:Int)then j_ (dO f a.n a.ts.length) l else none
  |none=>j_ (dO f a.n a.ts.length) l
def NK:Nat→List (ByteArray×Int)→List cS→Int
 |_,_,[]=> -1
 |i,f,cl::cs=>match j_ f (ay cl)with
  |none=>i
  |some f'=>NK (i+1) f' cs
theorem aj9{h:Hp}{w:aly}(hw:h.In w){ad:Option alA}{l c:Nat}{cs:List cS}(hcs:h.list 3 cW (.slice ad l c) cs)(_hn:cs.length≤1099511627776)(hsm: ∀cl∈cs,Small 1099511627776 cl):
  asP Tryz.prog 128 #[.slice ad l c] w λe w'=>e= .returned (.int .i64 (NK 0 [] cs))∧af (λ_=>False) w w':=by
 obtain⟨q7,q8,hv3,hat⟩:=hcs.at hw;obtain⟨rfl,rfl,rfl⟩:ad=q7∧l=cs.length∧c=q8:=by simpa using hv3
 clear hv3;have tV:= @auj Tryz.prog;go_enter Tryz.func128,Tryz.ntmps128;go_wp2;have p8:av (w.alloc (.map #[] 0)) bZ at5 Ai w.heap.size []:=av.made
 go_loopw [13] (λi wr=>∃ (k:Nat) (f:List (ByteArray×Int)),k≤cs.length∧i= .int .i64 k∧af (λ_=>False) w wr∧av wr bZ at5 Ai w.heap.size f∧NK k f (cs.drop k)=NK 0 [] cs) (λi _=>cs.length-(intOf i).toNat)
 case atStart=>exact⟨0,[],arQ _,rfl,(af.refl _ w).alloc _,p8,rfl⟩
 case round=>
  obtain⟨k,f,hk,rfl,hT,hM,Xp⟩:=hrel;have HO:at3 (NK k f (cs.drop k)=NK 0 [] cs):=Xp;clear Xp p8;by_cases hlt:k<cs.length
  ·obtain⟨y,hy⟩: ∃y,cs[k]? =some y:=⟨_,arn hlt⟩;obtain⟨g,o,cc,rfl,bW,hR,ag⟩:=hat k y hy;obtain⟨ya,yc,lA,lz,rfl⟩:=hR.cells;have mL:=hsm y (ann hy);have e0:=hT.cell (ag 0 aI) id;have e1:=hT.cell (ag 1 aI) id;have e2:=hT.cell (ag 2 aI) id;simp only[at6,←at7]at e0 e1 e2;have HY:at3 (cs[k]? =some y):=hy;clear hy;have vx:=(hw.turn hT (λ_ _ _ h=>h)).turn ((af.refl (λ_=>False) wr).alloc (.cells #[.string y.head.n,.slice ya y.head.ts.length yc,.slice lA y.body.length lz] 236)) (λ_ _ _ h=>h);go_wp2_with (go_at_call 132;refine(P9 vx hR (by have:=mL.1;omega)).mono ?_;rintro e w2 ⟨KL,l3,c3,rfl,aF,k2,hk2,hx2,hl2⟩;obtain⟨q5,q6,hv2⟩:=hl2.shape;obtain⟨rfl,rfl,rfl⟩:KL=q5∧l3=(ay y).length∧c3=q6:=by simpa using hv2);obtain⟨q9,q10,hv3,x_⟩:=hl2.at hk2;obtain⟨rfl,rfl⟩:KL=q9∧c3=q10:=by simpa using hv3
   clear hv3;have yf:=(hT.alloc (.cells #[.string y.head.n,.slice ya y.head.ts.length yc,.slice lA y.body.length lz] 236)).trans aF;have hlen:(ay y).length≤1099511627776:=by have:=mL.1;simp[ay];omega
   have wz:av w2 bZ at5 Ai w.heap.size f:=(hM.turn ((af.refl (λ_=>False) wr).alloc _) id).turn aF id;have hz2:=aF.size;have KX:=hM.lt;have uD:=aF.made id
   go_loopw [21] (λi wq=>∃ (j:Nat) (f':List (ByteArray×Int)),j≤(ay y).length∧i= .int .i64 j∧af (·=w.heap.size) w2 wq∧av wq bZ at5 Ai w.heap.size f'∧j_ f' ((ay y).drop j)=j_ f (ay y)) (λi _=>(ay y).length-(intOf i).toNat)
   case atStart=>exact⟨0,f,arQ _,rfl,af.refl _ _,wz,rfl⟩
   case round=>
    have HS:at3 (NK k f (cs.drop k)=match j_ f (ay y)with|none=>(k:Int)|some f'=>NK (k+1) f' (cs.drop (k+1))):=by
     show _=_;rw[aub hlt,(apT.1 HY.out).2,NK]
    obtain⟨j,f',hj,rfl,gT,kH,haq⟩:=hrel;have HQ:at3 (j_ f' ((ay y).drop j)=j_ f (ay y)):=haq;clear haq;have KG:af (λ_=>False) w wr:=yf.bL gT λb (h:b=w.heap.size)=> .inl aj;by_cases pL:j<(ay y).length
    ·obtain⟨z,hz⟩: ∃z,(ay y)[j]? =some z:=⟨_,arn pL⟩;obtain⟨g2,o2,cc2,rfl,sU,iG,dh⟩:=x_ j z hz;obtain⟨za,zc,rfl⟩:=iG.cells;have hzs:=mL.2 z (ann hz);have AH:bZ z.n:=by have:=hzs.2.1;show _≤maxLen;unfold maxLen;omega
     have hg2: ¬g2=w.heap.size:=by
      obtain⟨ob,pk⟩:=hl2.block;rcases hx2.new _ _ pk with h1|h1
      ·have:=hw.lt h1;omega
      ·simp at h1;omega
     have u0:=gT.cell (dh 0 aI) hg2;have u1:=gT.cell (dh 1 aI) hg2;simp only[at6,←at7]at u0 u1;have HZ:at3 ((ay y).drop j=z::(ay y).drop (j+1)):=by
      show _=_;rw[aub pL,(apT.1 hz).2]
     clear hz;have jN:=kH.turn ((af.refl (λ_=>False) wr).alloc (.cells #[.string z.n,.slice za z.ts.length zc] 233)) id;cases hl:au f' z.n with
     |none=>
      have HL:at3 (au f' z.n=none):=hl;clear hl;go_wp2_with (first|(at_lookup;refine aZ cI Tryz.underlying307 wR rfl (.tmp 26) (.tmp 28) rfl rfl (aD _) jN.hp rfl AH HL.out ?_)|(at_mapUpdate;refine bj cI Tryz.underlying307 rfl (.tmp 41) (.tmp 43) (.tmp 46) rfl rfl jN rfl AH (z.ts.length:Int) rfl ?_;intro w5 bA mg));go_roundw
      case rel=>exact⟨j+1,_,by omega,by go_num,(gT.alloc _).trans bA,mg,by rw[←HQ.out,HZ.out,j_,HL.out]⟩
      case measure=>simp[intOf];omega
     |some u=>
      have HL:at3 (au f' z.n=some u):=hl;clear hl;by_cases hu:u=(z.ts.length:Int)
      ·subst hu;go_wp2_with (first|(at_lookup;refine aP cI Tryz.underlying307 wR rfl (.tmp 26) (.tmp 28) rfl rfl (aD _) jN.hp rfl AH HL.out ?_)|(at_mapUpdate;refine bj cI Tryz.underlying307 rfl (.tmp 41) (.tmp 43) (.tmp 46) rfl rfl jN rfl AH (z.ts.length:Int) rfl ?_;intro w5 bA mg));go_roundw
       case rel=>exact⟨j+1,_,by omega,by go_num,(gT.alloc _).trans bA,mg,by rw[←HQ.out,HZ.out,j_,HL.out];simp⟩
       case measure=>simp[intOf];omega
      ·go_wp2_with (at_lookup;refine aP cI Tryz.underlying307 wR rfl (.tmp 26) (.tmp 28) rfl rfl (aD _) jN.hp rfl AH HL.out ?_);go_ret;exact⟨pn (by rw[←HO.out,HS.out,←HQ.out,HZ.out,j_,HL.out];simp[hu]),KG.alloc _⟩
    ·have AP:(ay y).drop j= []:=aud aj;go_wp2;go_roundw
     case rel=>exact⟨k+1,f',by omega,by go_num,KG,kH,by rw[←HO.out,HS.out,←HQ.out,AP,j_]⟩
     case measure=>simp[intOf];omega
  ·go_wp2;go_ret;refine⟨pn ?_,hT⟩;rw[←HO.out,aud aj];rfl
end Go.Proofs.YtkdljbnllgpfhaaGreat
end
section
namespace Go.Proofs.YtkdljbnllgpfhaaGreat
open Go Go.RowKit Go.Upr
theorem P8(x:ByteArray)(ad mh:Option alA)(l c l2 c2:Nat)(w:aly):asP Tryz.prog 133 #[.agg #[.string x,.slice ad l c,.slice mh l2 c2]] w λe w'=>e= .returned (.bool (decide (l2=0)))∧af (λ_=>False) w w':=by
 by_cases h:l2=0
 ·subst h;go_enter Tryz.func133,Tryz.ntmps133;go_wp2;go_ret;exact⟨rfl,(af.refl _ _).alloc _⟩
 ·have h':((l2:Int)==0)=false:=by simpa using h
  go_enter Tryz.func133,Tryz.ntmps133;go_wp2;go_ret;exact⟨jS (by simp[h]),(af.refl _ _).alloc _⟩
theorem bT(w:aly):(zeroValue 251).run Tryz.prog w= .ok (.agg #[]) w:=by kernel_rfl
def sf(cs:List cS):List (ByteArray×Unit):=cs.foldl (λf cl=>if cl.body.length=0 then f else dO f cl.head.n ()) []
theorem Rq{cs:List cS}{k:Nat}{y:cS}(hy:cs[k]? =some y):sf (cs.take (k+1))=if y.body.length=0 then sf (cs.take k)else dO (sf (cs.take k)) y.head.n ():=by
 unfold sf;rw[at8,hy,at9];rfl
def NJ(f:List (ByteArray×Unit)):Nat→List cS→Int
 |_,[]=> -1
 |i,cl::cs=>if(au f cl.head.n).isSome∧cl.body.length=0 then i else NJ f (i+1) cs
theorem aj8{h:Hp}{w:aly}(hw:h.In w){ad:Option alA}{l c:Nat}{cs:List cS}(hcs:h.list 3 cW (.slice ad l c) cs)(_hn:cs.length≤1099511627776)(hsm: ∀cl∈cs,Small 1099511627776 cl):
  asP Tryz.prog 129 #[.slice ad l c] w λe w'=>e= .returned (.int .i64 (NJ (sf cs) 0 cs))∧af (λ_=>False) w w':=by
 obtain⟨q7,q8,hv3,hat⟩:=hcs.at hw;obtain⟨rfl,rfl,rfl⟩:ad=q7∧l=cs.length∧c=q8:=by simpa using hv3
 clear hv3;have tV:= @auj Tryz.prog;obtain⟨f,hf⟩: ∃f,f=sf cs:=⟨_,rfl⟩;rw[←hf];have HF:at3 (f=sf cs):=hf;clear hf;go_enter Tryz.func129,Tryz.ntmps129;go_wp2;have p8:av (w.alloc (.map #[] 0)) bZ at5 aY w.heap.size []:=av.made
 go_loopw [13] (λi wr=>∃ (k:Nat),k≤cs.length∧i= .int .i64 k∧af (λ_=>False) w wr∧av wr bZ at5 aY w.heap.size (sf (cs.take k))) (λi _=>cs.length-(intOf i).toNat)
 case atStart=>exact⟨0,arQ _,rfl,(af.refl _ w).alloc _,p8⟩
 case round=>
  obtain⟨k,hk,rfl,hT,hM⟩:=hrel;clear p8;by_cases hlt:k<cs.length
  ·obtain⟨y,hy⟩: ∃y,cs[k]? =some y:=⟨_,arn hlt⟩;obtain⟨g,o,cc,rfl,bW,hR,ag⟩:=hat k y hy;obtain⟨ya,yc,lA,lz,rfl⟩:=hR.cells;have qG:bZ y.head.n:=by have:=((hsm y (ann hy)).2 y.head (by simp[ay])).2.1;show _≤maxLen;unfold maxLen;omega
   have e0:=hT.cell (ag 0 aI) id;have e1:=hT.cell (ag 1 aI) id;have e2:=hT.cell (ag 2 aI) id;simp only[at6,←at7]at e0 e1 e2;have HY:=Rq hy;have HY':at3 (sf (cs.take (k+1))=if y.body.length=0 then sf (cs.take k)else dO (sf (cs.take k)) y.head.n ()):=HY;clear hy HY;have hc:=λw=>P8 y.head.n ya lA y.head.ts.length yc y.body.length lz w;by_cases hb:y.body.length=0
   ·rw[hb]at hc e2;go_wp2_with (go_at_call 133;refine(hc _).mono ?_;rintro e w3 ⟨rfl,bX⟩);go_roundw
    case rel=>exact⟨k+1,by omega,by go_num,(hT.alloc _).trans bX,by rw[HY'.out,if_pos hb];exact(hM.turn ((af.refl (λ_=>False) wr).alloc _) id).turn bX id⟩
    case measure=>simp[intOf];omega
   ·have hd:decide (y.body.length=0)=false:=by simpa using hb
    rw[hd]at hc;go_wp2_with (first|(go_at_call 133;refine(hc _).mono ?_;rintro e w3 ⟨rfl,bX⟩;obtain⟨b0,b1,b2,f0,f1,f2⟩:=bI (bX.made id))|(at_mapUpdate;refine bj cI Tryz.underlying249 rfl (.tmp 20) (.tmp 23) (.tmp 24) rfl rfl ((hM.turn ((af.refl (λ_=>False) wr).alloc _) id).turn bX id) rfl qG () rfl ?_;intro w5 bA mg));go_roundw
    case rel=>exact⟨k+1,by omega,by go_num,((hT.alloc _).trans bX).bL bA (λb (h:b=w.heap.size)=> .inl aj),by rw[HY'.out,if_neg hb];exact mg⟩
    case measure=>simp[intOf];omega
  ·have iQ:sf (cs.take k)=sf cs:=by rw[at4 aj]
   rw[iQ]at hM;rw[←HF.out]at hM;clear iQ;go_wp2
   go_loopw [28] (λi wq=>∃ (j:Nat),j≤cs.length∧i= .int .i64 j∧af (λ_=>False) w wq∧av wq bZ at5 aY w.heap.size f∧NJ f j (cs.drop j)=NJ f 0 cs) (λi _=>cs.length-(intOf i).toNat)
   case atStart=>exact⟨0,arQ _,rfl,hT,hM,rfl⟩
   case round=>
    clear hT hM;obtain⟨j,hj,rfl,hT,hM,WS⟩:=hrel;have HD:at3 (NJ f j (cs.drop j)=NJ f 0 cs):=WS;clear WS;by_cases xZ:j<cs.length
    ·obtain⟨y,hy⟩: ∃y,cs[j]? =some y:=⟨_,arn xZ⟩;obtain⟨g,o,cc,rfl,bW,hR,ag⟩:=hat j y hy;obtain⟨ya,yc,lA,lz,rfl⟩:=hR.cells;have qG:bZ y.head.n:=by have:=((hsm y (ann hy)).2 y.head (by simp[ay])).2.1;show _≤maxLen;unfold maxLen;omega
     have e0:=hT.cell (ag 0 aI) id;have e1:=hT.cell (ag 1 aI) id;have e2:=hT.cell (ag 2 aI) id;simp only[at6,←at7]at e0 e1 e2;have HS:at3 (NJ f j (cs.drop j)=if(au f y.head.n).isSome∧y.body.length=0 then(j:Int)else NJ f (j+1) (cs.drop (j+1))):=by
      show _=_;rw[aub xZ,(apT.1 hy).2,NJ]
     clear hy;have hc:=λw=>P8 y.head.n ya lA y.head.ts.length yc y.body.length lz w;have jN:=hM.turn ((af.refl (λ_=>False) wr).alloc (.cells #[.string y.head.n,.slice ya y.head.ts.length yc,.slice lA y.body.length lz] 236)) id;cases hl:au f y.head.n with
     |none=>
      have HL:at3 (au f y.head.n=none):=hl;clear hl;go_wp2_with (at_lookup;refine aZ cI Tryz.underlying249 bT rfl (.tmp 34) (.tmp 37) rfl rfl (aD _) jN.hp rfl qG HL.out ?_);go_roundw
      case rel=>exact⟨j+1,by omega,by go_num,(hT.alloc _).alloc _,(jN.turn ((af.refl (λ_=>False) _).alloc _) id),by rw[←HD.out,HS.out,HL.out];simp⟩
      case measure=>simp[intOf];omega
     |some u=>
      have HL:at3 (au f y.head.n=some u):=hl;clear hl;by_cases hb:y.body.length=0
      ·rw[hb]at hc e2 jN;go_wp2_with (first|(at_lookup;refine aP cI Tryz.underlying249 bT rfl (.tmp 34) (.tmp 37) rfl rfl (aD _) jN.hp rfl qG HL.out ?_)|(go_at_call 133;refine(hc _).mono ?_;rintro e w3 ⟨rfl,bX⟩));go_ret;exact⟨pn (by rw[←HD.out,HS.out,HL.out];simp[hb]),((hT.alloc _).alloc _).trans bX⟩
      ·have hd:decide (y.body.length=0)=false:=by simpa using hb
       rw[hd]at hc;go_wp2_with (first|(at_lookup;refine aP cI Tryz.underlying249 bT rfl (.tmp 34) (.tmp 37) rfl rfl (aD _) jN.hp rfl qG HL.out ?_)|(go_at_call 133;refine(hc _).mono ?_;rintro e w3 ⟨rfl,bX⟩));go_roundw
       case rel=>exact⟨j+1,by omega,by go_num,((hT.alloc _).alloc _).trans bX,(jN.turn ((af.refl (λ_=>False) _).alloc _) id).turn bX id,by rw[←HD.out,HS.out];simp[hb]⟩
       case measure=>simp[intOf];omega
    ·go_wp2;go_ret;refine⟨pn ?_,hT⟩;rw[←HD.out,aud aj];rfl
end Go.Proofs.YtkdljbnllgpfhaaGreat
end
section
namespace Go.Proofs.YtkdljbnllgpfhaaGreat
open Go Go.RowKit Go.Upr
def Ps(f:List (ByteArray×Unit))(t:Tm):Bool:=t.v&& !(au f t.t).isSome
theorem ig{n:Nat}(h:n<1099511627776):n≤maxLen:=by unfold maxLen;omega
theorem aeN{h:Hp}{w:aly}(hw:h.In w){ad:Option alA}{l c:Nat}{ts:List Tm}(iu:h.list 2 ack (.slice ad l c) ts){v:aad}{f:List (ByteArray×Unit)}(hM:h.map bZ at5 aY v f)
  (hl:ts.length<1099511627776) (hs: ∀t∈ts,t.t.size<1099511627776):asP Tryz.prog 245 #[.slice ad l c,v] w λe w'=>e= .returned (.bool (!ts.any (Ps f)))∧af (λ_=>False) w w':=by
 obtain⟨q7,q8,hv3,hat⟩:=iu.at hw;obtain⟨rfl,rfl,rfl⟩:ad=q7∧l=ts.length∧c=q8:=by simpa using hv3
 clear hv3;go_enter Tryz.func245,Tryz.ntmps245;go_wp2
 go_loopw [11] (λi wr=>∃ (k:Nat),k≤ts.length∧i= .int .i64 k∧af (λ_=>False) w wr∧(ts.take k).any (Ps f)=false) (λi _=>ts.length-(intOf i).toNat)
 case atStart=>exact⟨0,arQ _,rfl,af.refl _ _,rfl⟩
 case round=>
  obtain⟨k,hk,rfl,hT,hn⟩:=hrel;have HN:at3 ((ts.take k).any (Ps f)=false):=hn;clear hn;by_cases hlt:k<ts.length
  ·obtain⟨y,hy⟩: ∃y,ts[k]? =some y:=⟨_,arn hlt⟩;obtain⟨g,o,cc,rfl,bW,rfl,ag⟩:=hat k y hy;have qG:bZ y.t:=ig (hs y (ann hy));have e0:=hT.cell (ag 0 aI) id;have e1:=hT.cell (ag 1 aI) id;simp only[at6,←at7]at e0 e1;have HY:at3 (ts[k]? =some y):=hy;clear hy;have hk3:=(hw.turn hT (λ_ _ _ h=>h)).turn ((af.refl (λ_=>False) wr).alloc (.cells #[.string y.t,.bool y.v] 331)) (λ_ _ _ h=>h);cases hl:au f y.t with
   |none=>
    cases hv:y.v with
    |false=>
     have HU:at3 (Ps f y=false):=by show _=_;simp[Ps,hv]
     rw[hv]at e1 hk3;go_wp2_with (at_lookup;refine aZ cI Tryz.underlying249 bT rfl (.tmp 16) (.tmp 18) rfl rfl hk3 hM rfl qG hl ?_);go_roundw
     case rel=>exact⟨k+1,by omega,by go_num,(hT.alloc _).alloc _,kZ HY.out HN.out HU.out⟩
     case measure=>simp[intOf];omega
    |true=>
     have HU:at3 (Ps f y=true):=by show _=_;simp[Ps,hv,hl]
     rw[hv]at e1 hk3;go_wp2_with (at_lookup;refine aZ cI Tryz.underlying249 bT rfl (.tmp 16) (.tmp 18) rfl rfl hk3 hM rfl qG hl ?_);go_ret;exact⟨jS (by simp[ri HY.out HU.out]),(hT.alloc _).alloc _⟩
   |some u=>
    have HU:at3 (Ps f y=false):=by show _=_;simp[Ps,hl]
    cases hv:y.v
    all_goals
     rw[hv]at e1 hk3;go_wp2_with (at_lookup;refine aP cI Tryz.underlying249 bT rfl (.tmp 16) (.tmp 18) rfl rfl hk3 hM rfl qG hl ?_);go_roundw
     case rel=>exact⟨k+1,by omega,by go_num,(hT.alloc _).alloc _,kZ HY.out HN.out HU.out⟩
     case measure=>simp[intOf];omega
  ·go_wp2;go_ret;exact⟨jS (by rw[ui hlt HN.out];rfl),hT⟩
def ym(f:List (ByteArray×Unit))(ts:List Tm):List (ByteArray×Unit):=ts.foldl (λf t=>if t.v then dO f t.t ()else f) f
def Kt(body:List sK):List (ByteArray×Unit):=body.foldl (λf y=>if y.neg then f else ym f y.a.ts) []
theorem Rv{f:List (ByteArray×Unit)}{ts:List Tm}{k:Nat}{y:Tm}(hy:ts[k]? =some y):ym f (ts.take (k+1))=if y.v then dO (ym f (ts.take k)) y.t ()else ym f (ts.take k):=by
 unfold ym;rw[at8,hy,at9];rfl
theorem Wk{body:List sK}{k:Nat}{y:sK}(hy:body[k]? =some y):Kt (body.take (k+1))=if y.neg then Kt (body.take k)else ym (Kt (body.take k)) y.a.ts:=by
 unfold Kt;rw[at8,hy,at9];rfl
theorem ajG{h:Hp}{w:aly}(hw:h.In w){x:ByteArray}{ad mh:Option alA}{l c l2 c2:Nat}{cl:cS}(bW:cW h [.string x,.slice ad l c,.slice mh l2 c2] cl)(hsm:Small 1099511627776 cl):
  asP Tryz.prog 244 #[.agg #[.string x,.slice ad l c,.slice mh l2 c2]] w λe w'=>∃mb,e= .returned (.map (some mb))∧w.heap.size≤mb∧av w' bZ at5 aY mb (Kt cl.body)∧af (λ_=>False) w w':=by
 obtain⟨d,v2,hd,hdd,jT⟩:=bW;obtain⟨v1,Ko,iu⟩:=id hd;subst Ko;obtain⟨rfl,rfl,rfl⟩:x=cl.head.n∧ .slice ad l c=v1∧ .slice mh l2 c2=v2:=by simpa using hdd
 obtain⟨lu,cap',hv2,hat⟩:=jT.at hw;obtain⟨rfl,rfl,rfl⟩:mh=lu∧l2=cl.body.length∧c2=cap':=by simpa using hv2
 clear hv2 hdd;have tV:= @auj Tryz.prog;have hbl:=hsm.1;go_enter Tryz.func244,Tryz.ntmps244;go_wp2;have p8:av ((w.alloc (.cells #[.string cl.head.n,.slice ad l c,.slice mh cl.body.length c2] 236)).alloc (.map #[] 0)) bZ at5 aY (w.heap.size+1) []:=by
  have:=av.made (w:=w.alloc (.cells #[.string cl.head.n,.slice ad l c,.slice mh cl.body.length c2] 236)) (ok:=bZ) (key:=at5) (enc:=aY)
  rwa [atS]at this
 go_loopw [12] (λi wr=>∃ (k:Nat),k≤cl.body.length∧i= .int .i64 k∧af (λ_=>False) w wr∧av wr bZ at5 aY (w.heap.size+1) (Kt (cl.body.take k))) (λi _=>cl.body.length-(intOf i).toNat)
 case atStart=>exact⟨0,arQ _,rfl,((af.refl _ w).alloc _).alloc _,p8⟩
 case round=>
  clear p8;obtain⟨k,hk,rfl,hT,hM⟩:=hrel;by_cases hlt:k<cl.body.length
  ·obtain⟨y,hy⟩: ∃y,cl.body[k]? =some y:=⟨_,arn hlt⟩;obtain⟨g,o,cc,rfl,bW,hR,ag⟩:=hat k y hy;obtain⟨ya,yc,rfl,hRa⟩:=hR.cells;have mL:=hsm.2 y.a (by simp[ay];exact .inr ⟨y,ann hy,rfl⟩);have e0:=hT.cell (ag 0 aI) id;have e1:=hT.cell (ag 1 aI) id;have e2:=hT.cell (ag 2 aI) id;simp only[at6,←at7]at e0 e1 e2;have HY:at3 (Kt (cl.body.take (k+1))=if y.neg then Kt (cl.body.take k)else ym (Kt (cl.body.take k)) y.a.ts):=Wk hy;clear hy;have jN:=hM.turn ((af.refl (λ_=>False) wr).alloc (.cells #[.string y.a.n,.slice ya y.a.ts.length yc,.bool y.neg] 309)) id;cases vD:y.neg with
   |true=>
    rw[vD]at e2 jN;go_wp2;go_roundw
    case rel=>exact⟨k+1,by omega,by go_num,hT.alloc _,by rw[HY.out,vD];exact jN⟩
    case measure=>simp[intOf];omega
   |false=>
    rw[vD]at e2 jN;obtain⟨tv,htv,X9⟩:=hRa;obtain rfl: .slice ya y.a.ts.length yc=tv:=by simpa using htv
    have hz:=hT.size;have E3:=hM.lt;have R8:=hT.alloc (.cells #[.string y.a.n,.slice ya y.a.ts.length yc,.bool false] 309);obtain⟨q5,q6,RQ,x_⟩:=X9.at (hw.turn R8 (λ_ _ _ h=>h));obtain⟨rfl,rfl⟩:ya=q5∧yc=q6:=by simpa using RQ
    clear RQ;go_wp2;obtain⟨fk,Xv⟩: ∃fk,fk=Kt (cl.body.take k):=⟨_,rfl⟩;rw[←Xv]at jN;have HK:at3 (fk=Kt (cl.body.take k)):=Xv;clear Xv
    go_loopw [22] (λi wq=>∃ (j:Nat),j≤y.a.ts.length∧i= .int .i64 j∧af (·=w.heap.size+1) (wr.alloc (.cells #[.string y.a.n,.slice ya y.a.ts.length yc,.bool false] 309)) wq∧av wq bZ at5 aY (w.heap.size+1) (ym fk (y.a.ts.take j))) (λi _=>y.a.ts.length-(intOf i).toNat)
    case atStart=>exact⟨0,arQ _,rfl,af.refl _ _,jN⟩
    case round=>
     obtain⟨j,hj,rfl,gT,kH⟩:=hrel;by_cases pL:j<y.a.ts.length
     ·obtain⟨z,hz⟩: ∃z,y.a.ts[j]? =some z:=⟨_,arn pL⟩;obtain⟨g2,o2,cc2,rfl,sU,rfl,dh⟩:=x_ j z hz;have AH:bZ z.t:=ig (mL.2.2 z (ann hz));have hg2: ¬g2=w.heap.size+1:=by
       obtain⟨ob,pk⟩:=X9.block;have:=hw.lt pk;omega
      have u0:=gT.cell (dh 0 aI) hg2;have u1:=gT.cell (dh 1 aI) hg2;simp only[at6,←at7]at u0 u1;have HZ:at3 (ym fk (y.a.ts.take (j+1))=if z.v then dO (ym fk (y.a.ts.take j)) z.t ()else ym fk (y.a.ts.take j)):=Rv hz;clear hz;have hMw:=kH.turn ((af.refl (λ_=>False) wr).alloc (.cells #[.string z.t,.bool z.v] 331)) id;cases Np:z.v with
      |false=>
       rw[Np]at u1 hMw;go_wp2;go_roundw
       case rel=>exact⟨j+1,by omega,by go_num,gT.alloc _,by rw[HZ.out,Np];exact hMw⟩
       case measure=>simp[intOf];omega
      |true=>
       rw[Np]at u1 hMw;go_wp2_with (at_mapUpdate;refine bj cI Tryz.underlying249 rfl (.tmp 28) (.tmp 30) (.tmp 31) rfl rfl hMw rfl AH () rfl ?_;intro w5 bA mg);go_roundw
       case rel=>exact⟨j+1,by omega,by go_num,(gT.alloc _).trans bA,by rw[HZ.out,Np];exact mg⟩
       case measure=>simp[intOf];omega
     ·have AP:ym fk (y.a.ts.take j)=ym fk y.a.ts:=by rw[at4 aj]
      rw[AP]at kH;go_wp2;go_roundw
      case rel=>exact⟨k+1,by omega,by go_num,R8.bL gT (λb (h:b=w.heap.size+1)=> .inl aj),by rw[HY.out,vD,←HK.out];exact kH⟩
      case measure=>simp[intOf];omega
  ·have iQ:Kt (cl.body.take k)=Kt cl.body:=by rw[at4 aj]
   rw[iQ]at hM;go_wp2;go_ret;exact⟨_,rfl,Nat.le_succ _,hM,hT⟩
end Go.Proofs.YtkdljbnllgpfhaaGreat
end
section
namespace Go.Proofs.YtkdljbnllgpfhaaGreat
open Go Go.RowKit Go.Upr
def jC(f:List (ByteArray×Unit))(y:sK):Bool:=y.neg&&y.a.ts.any (Ps f)
def BA(cl:cS):Bool:= !cl.body.any (jC (Kt cl.body))&& !cl.head.ts.any (Ps (Kt cl.body))
theorem OO{α:Type}{h:Hp}{w:aly}(hw:h.In w){sz:Nat}{R:Hp→List aad→α→Prop}{v:aad}{xs:List α}(hR: ∀k:Hp,h.le k→∀c x,R h c x→R k c x)(H:h.list sz R v xs):Hp.list (λb=>w.heap[b]?) sz R v xs:=H.mono (hR _ hw) hw
theorem ajR{h:Hp}{w:aly}(hw:h.In w){x:ByteArray}{ad mh:Option alA}{l c l2 c2:Nat}{cl:cS}(bW:cW h [.string x,.slice ad l c,.slice mh l2 c2] cl)(hsm:Small 1099511627776 cl):
  asP Tryz.prog 183 #[.agg #[.string x,.slice ad l c,.slice mh l2 c2]] w λe w'=>e= .returned (.bool (BA cl))∧af (λ_=>False) w w':=by
 have aip:=bW;obtain⟨d,v2,hd,hdd,jT⟩:=bW;obtain⟨v1,Ko,iu⟩:=id hd;subst Ko;obtain⟨rfl,rfl,rfl⟩:x=cl.head.n∧ .slice ad l c=v1∧ .slice mh l2 c2=v2:=by simpa using hdd
 obtain⟨lu,cap',hv2,hat⟩:=jT.at hw;obtain⟨rfl,rfl,rfl⟩:mh=lu∧l2=cl.body.length∧c2=cap':=by simpa using hv2
 obtain⟨adh,aiT,hvh⟩:=iu.shape;obtain⟨rfl,rfl,rfl⟩:ad=adh∧l=cl.head.ts.length∧c=aiT:=by simpa using hvh
 clear hv2 hdd hvh;have hbl:=hsm.1;have ik:=hw.turn ((af.refl (λ_=>False) w).alloc (.cells #[.string cl.head.n,.slice ad cl.head.ts.length c,.slice mh cl.body.length c2] 236)) (λ_ _ _ h=>h);go_enter Tryz.func183,Tryz.ntmps183;go_wp2_with (go_at_call 244;refine(ajG ik aip hsm).mono ?_;rintro e w2 ⟨mb,rfl,oZ,hM,aF⟩;obtain⟨p0,p1,p2,p3,p4,p5⟩:=bI (aF.made id));have bM:=((af.refl (λ_=>False) w).alloc (.cells #[.string cl.head.n,.slice ad cl.head.ts.length c,.slice mh cl.body.length c2] 236)).trans aF;have La:=aF.made id;obtain⟨bs,DT⟩: ∃bs,bs=Kt cl.body:=⟨_,rfl⟩;have HB:at3 (BA cl=(!cl.body.any (jC bs)&& !cl.head.ts.any (Ps bs))):=by rw[DT];exact rfl
 rw[←DT]at hM;clear DT
 go_loopw [11] (λi wr=>∃ (k:Nat),k≤cl.body.length∧i= .int .i64 k∧af (λ_=>False) w2 wr∧(cl.body.take k).any (jC bs)=false) (λi _=>cl.body.length-(intOf i).toNat)
 case atStart=>exact⟨0,arQ _,rfl,af.refl _ _,rfl⟩
 case round=>
  obtain⟨k,hk,rfl,nd,hn⟩:=hrel;have HN:at3 ((cl.body.take k).any (jC bs)=false):=hn;clear hn;have hT:=bM.trans nd;have xR:=hM.turn nd id;by_cases hlt:k<cl.body.length
  ·obtain⟨y,hy⟩: ∃y,cl.body[k]? =some y:=⟨_,arn hlt⟩;obtain⟨g,o,cc,rfl,bW,hR,ag⟩:=hat k y hy;obtain⟨ya,yc,rfl,hRa⟩:=hR.cells;have mL:=hsm.2 y.a (by simp[ay];exact .inr ⟨y,ann hy,rfl⟩);have e0:=hT.cell (ag 0 aI) id;have e1:=hT.cell (ag 1 aI) id;have e2:=hT.cell (ag 2 aI) id;simp only[at6,←at7]at e0 e1 e2;have HY:at3 (cl.body[k]? =some y):=hy;clear hy;obtain⟨tv,htv,X9⟩:=hRa;obtain rfl: .slice ya y.a.ts.length yc=tv:=by simpa using htv
   have R8:=hT.alloc (.cells #[.string y.a.n,.slice ya y.a.ts.length yc,.bool y.neg] 309);have jN:=xR.turn ((af.refl (λ_=>False) wr).alloc (.cells #[.string y.a.n,.slice ya y.a.ts.length yc,.bool y.neg] 309)) id;have hc:=aeN (aD _) (OO (hw.turn R8 (λ_ _ _ h=>h)) (λ_ _ _ _ h=>h) X9) jN.hp mL.1 mL.2.2;cases vD:y.neg with
   |false=>
    rw[vD]at e2;go_wp2;go_roundw
    case rel=>exact⟨k+1,by omega,by go_num,nd.alloc _,kZ HY.out HN.out (by simp[jC,vD])⟩
    case measure=>simp[intOf];omega
   |true=>
    rw[vD]at e2 hc;cases hb:y.a.ts.any (Ps bs)with
    |false=>
     rw[hb]at hc;have HU:at3 (jC bs y=false):=by show _=_;simp only[jC,hb,auu]
     clear hb;go_wp2_with (go_at_call 245;refine hc.mono ?_;rintro e w5 ⟨rfl,bA⟩);go_roundw
     case rel=>exact⟨k+1,by omega,by go_num,(nd.alloc _).trans bA,kZ HY.out HN.out HU.out⟩
     case measure=>simp[intOf];omega
    |true=>
     rw[hb]at hc;have HU:at3 (jC bs y=true):=by show _=_;simp only[jC,hb,vD,auv]
     clear hb;go_wp2_with (go_at_call 245;refine hc.mono ?_;rintro e w5 ⟨rfl,bA⟩);go_ret;exact⟨jS (by rw[HB.out,ri HY.out HU.out];rfl),(hT.alloc _).trans bA⟩
  ·obtain⟨r0,r1,r2,_,_,_⟩:=bI (nd.kept La id);have hhs:=hsm.2 cl.head (by simp[ay]);have hc:=aeN (aD _) (OO (hw.turn hT (λ_ _ _ h=>h)) (λ_ _ _ _ h=>h) iu) xR.hp hhs.1 hhs.2.2;go_wp2_with (go_at_call 245;refine hc.mono ?_;rintro e w5 ⟨rfl,bA⟩);go_ret;exact⟨jS (by rw[HB.out,ui hlt HN.out];rfl),hT.trans bA⟩
def Nn:Nat→List cS→Int
 |_,[]=> -1
 |i,cl::cs=>if BA cl=true then Nn (i+1) cs else i
theorem aj7{h:Hp}{w:aly}(hw:h.In w){ad:Option alA}{l c:Nat}{cs:List cS}(hcs:h.list 3 cW (.slice ad l c) cs)(_hn:cs.length≤1099511627776)(hsm: ∀cl∈cs,Small 1099511627776 cl):
  asP Tryz.prog 130 #[.slice ad l c] w λe w'=>e= .returned (.int .i64 (Nn 0 cs))∧af (λ_=>False) w w':=by
 obtain⟨q7,q8,hv3,hat⟩:=hcs.at hw;obtain⟨rfl,rfl,rfl⟩:ad=q7∧l=cs.length∧c=q8:=by simpa using hv3
 clear hv3;go_enter Tryz.func130,Tryz.ntmps130;go_wp2
 go_loopw [7] (λi wr=>∃ (k:Nat),k≤cs.length∧i= .int .i64 k∧af (λ_=>False) w wr∧Nn k (cs.drop k)=Nn 0 cs) (λi _=>cs.length-(intOf i).toNat)
 case atStart=>exact⟨0,arQ _,rfl,af.refl _ w,rfl⟩
 case round=>
  obtain⟨k,hk,rfl,hT,hus⟩:=hrel;have HO:at3 (Nn k (cs.drop k)=Nn 0 cs):=hus;clear hus;by_cases hlt:k<cs.length
  ·obtain⟨y,hy⟩: ∃y,cs[k]? =some y:=⟨_,arn hlt⟩;obtain⟨g,o,cc,rfl,bW,hR,ag⟩:=hat k y hy;obtain⟨ya,yc,lA,lz,rfl⟩:=hR.cells;have mL:=hsm y (ann hy);have e0:=hT.cell (ag 0 aI) id;have e1:=hT.cell (ag 1 aI) id;have e2:=hT.cell (ag 2 aI) id;simp only[at6,←at7]at e0 e1 e2;have HS:at3 (Nn k (cs.drop k)=if BA y=true then Nn (k+1) (cs.drop (k+1))else(k:Int)):=by
    show _=_;rw[aub hlt,(apT.1 hy).2,Nn]
   clear hy;have hc:=ajR ((hw.turn hT (λ_ _ _ h=>h)).turn ((af.refl (λ_=>False) wr).alloc (.cells #[.string y.head.n,.slice ya y.head.ts.length yc,.slice lA y.body.length lz] 236)) (λ_ _ _ h=>h)) hR mL;cases hb:BA y with
   |true=>
    rw[hb]at hc;have HB:at3 (BA y=true):=hb;clear hb;go_wp2_with (go_at_call 183;refine hc.mono ?_;rintro e w5 ⟨rfl,bA⟩);go_roundw
    case rel=>exact⟨k+1,by omega,by go_num,(hT.alloc _).trans bA,by rw[←HO.out,HS.out,if_pos HB.out]⟩
    case measure=>simp[intOf];omega
   |false=>
    rw[hb]at hc;have HB:at3 (BA y=false):=hb;clear hb;go_wp2_with (go_at_call 183;refine hc.mono ?_;rintro e w5 ⟨rfl,bA⟩);go_ret;exact⟨pn (by rw[←HO.out,HS.out,HB.out];rfl),(hT.alloc _).trans bA⟩
  ·go_wp2;go_ret;refine⟨pn ?_,hT⟩;rw[←HO.out,aud aj];rfl
end Go.Proofs.YtkdljbnllgpfhaaGreat
end
section
namespace Go.Proofs.YtkdljbnllgpfhaaGreat
open Go Go.RowKit Go.Upr
theorem D9:eL Tryz.prog 23 9 1 16:= .mk' Tryz.underlying23 (z:= .string ati) ar rfl aI
def gX(_:Hp)(c:List aad)(x:ByteArray):Prop:=c= [.string x]
def jM(ns:List ByteArray):List (ByteArray×Unit):=ns.map λx=>(x,())
def inN(ns:List ByteArray)(x:ByteArray):Bool:=ns.any λy=>decide (y=x)
theorem Gk{ns:List ByteArray}{x:ByteArray}:inN ns x=true↔x∈ns:=by
 unfold inN;rw[aue];constructor
 ·rintro⟨y,hy,he⟩;have:y=x:=by simpa using he
  exact this▸hy
 ·intro h;exact⟨x,h,by simp⟩
theorem rH(ns:List ByteArray)(x:ByteArray):au (jM ns) x=if inN ns x then some ()else none:=by
 by_cases h:x∈ns
 ·rw[if_pos (Gk.2 h)];obtain⟨p,hp⟩: ∃p,au (jM ns) x=some p:=by
   unfold au jM;have:((ns.map λx=>(x,())).find? λp=>decide (p.1=x)).isSome=true:=List.find?_isSome.2 ⟨(x,()),amk.2 ⟨x,h,rfl⟩,by simp⟩;obtain⟨q,hq⟩:=Option.isSome_iff_exists.1 this;exact⟨q.2,by rw[hq];rfl⟩
  rw[hp]
 ·rw[if_neg (λhc=>h (Gk.1 hc))];exact rD λp hp=>by
   obtain⟨y,hy,rfl⟩:=amk.1 hp;rintro rfl;exact h hy
theorem ES{ns:List ByteArray}{x:ByteArray}(h':inN ns x=false):dO (jM ns) x ()=jM (ns++ [x]):=by
 have h:x∉ns:=λhc=>by rw[Gk.2 hc]at h';cases h'
 unfold dO;rw[if_neg]
 ·simp[jM]
 ·intro hc;obtain⟨p,hp,he⟩:=aue.1 hc;obtain⟨y,hy,rfl⟩:=amk.1 hp;have:y=x:=by simpa using he
  exact h (this▸hy)
def addN(ns:List ByteArray)(x:ByteArray):List ByteArray:=if inN ns x then ns else ns++ [x]
def gG(ns:List ByteArray)(l:List qI):List ByteArray:=l.foldl (λns a=>addN ns a.n) ns
theorem CV{ns:List ByteArray}{l:List qI}{k:Nat}{y:qI}(hy:l[k]? =some y):gG ns (l.take (k+1))=addN (gG ns (l.take k)) y.n:=by
 unfold gG;rw[at8,hy,at9];rfl
def a_(cs:List cS):List ByteArray:=cs.foldl (λns cl=>gG ns (ay cl)) []
theorem EU{cs:List cS}{k:Nat}{y:cS}(hy:cs[k]? =some y):a_ (cs.take (k+1))=gG (a_ (cs.take k)) (ay y):=by
 unfold a_;rw[at8,hy,at9];rfl
theorem Ke(ns:List ByteArray)(x:ByteArray):(addN ns x).length≤ns.length+1:=by
 unfold addN;split<;>simp
theorem rO(l:List qI): ∀ns:List ByteArray,(gG ns l).length≤ns.length+l.length:=by
 unfold gG
 induction l with
 |nil=>intro ns;simp
 |cons a l ih=>
  intro ns;have h1:=ih (addN ns a.n);have h2:=Ke ns a.n;simp only[List.foldl_cons,List.length_cons];omega
theorem aeQ{h:Hp}{w:aly}(hw:h.In w){ad:Option alA}{l c:Nat}{cs:List cS}(hcs:h.list 3 cW (.slice ad l c) cs)(_hn:cs.length≤1099511627776)(hsm: ∀cl∈cs,Small 1099511627776 cl)
  (hB: ∀k,(a_ (cs.take k)).length≤1099511627776):asP Tryz.prog 185 #[.slice ad l c] w λe w'=>∃ad c,e= .returned (.slice ad (a_ cs).length c)∧af (λ_=>False) w w'∧∃k:Hp,k.In w'∧Hp.Ext w.heap.size h k∧k.list 1 gX (.slice ad (a_ cs).length c) (a_ cs):=by
 obtain⟨q7,q8,hv3,hat⟩:=hcs.at hw;obtain⟨rfl,rfl,rfl⟩:ad=q7∧l=cs.length∧c=q8:=by simpa using hv3
 clear hv3;have tV:= @auj Tryz.prog;have E4: ∀b o,h b=some o→b<w.heap.size:=λb o hb=>hw.lt hb;go_enter Tryz.func185,Tryz.ntmps185;go_wp2;have p8:av (w.alloc (.map #[] 0)) bZ at5 aY w.heap.size (jM []):=av.made;have lr:aw (w.alloc (.map #[] 0)) (w.heap.size+1) 9 1 gX h (.slice none 0 0) []:= .nil (hw.turn ((af.refl (λ_=>False) w).alloc _) (λ_ _ _ h=>h))
 go_loopw [4,14] (λv i wr=>∃ (k:Nat),k≤cs.length∧i= .int .i64 k∧af (λ_=>False) w wr∧av wr bZ at5 aY w.heap.size (jM (a_ (cs.take k)))∧aw wr (w.heap.size+1) 9 1 gX h v (a_ (cs.take k))) (λ_ i _=>cs.length-(intOf i).toNat)
 case atStart=>exact⟨0,arQ _,rfl,(af.refl _ w).alloc _,p8,lr⟩
 case round=>
  clear p8 lr;obtain⟨k,hk,rfl,hT,hM,hm⟩:=hrel;by_cases hlt:k<cs.length
  ·obtain⟨y,hy⟩: ∃y,cs[k]? =some y:=⟨_,arn hlt⟩;obtain⟨g,o,cc,rfl,bW,hR,ag⟩:=hat k y hy;obtain⟨ya,yc,lA,lz,rfl⟩:=hR.cells;have mL:=hsm y (ann hy);have e0:=hT.cell (ag 0 aI) id;have e1:=hT.cell (ag 1 aI) id;have e2:=hT.cell (ag 2 aI) id;simp only[at6,←at7]at e0 e1 e2;have hst:=EU hy;have hBk:=hB (k+1);have HS:at3 (a_ (cs.take (k+1))=gG (a_ (cs.take k)) (ay y)):=hst;clear hst hy;have vx:=(hw.turn hT (λ_ _ _ h=>h)).turn ((af.refl (λ_=>False) wr).alloc (.cells #[.string y.head.n,.slice ya y.head.ts.length yc,.slice lA y.body.length lz] 236)) (λ_ _ _ h=>h);go_wp2_with (go_at_call 132;refine(P9 vx hR (by have:=mL.1;omega)).mono ?_;rintro e w2 ⟨KL,l3,c3,rfl,aF,k2,hk2,hx2,hl2⟩;obtain⟨q5,q6,hv2⟩:=hl2.shape;obtain⟨rfl,rfl,rfl⟩:KL=q5∧l3=(ay y).length∧c3=q6:=by simpa using hv2);have hz2:=aF.size;have KX:=hM.lt;have KZ: ∀b o,k2 b=some o→¬b=w.heap.size:=λb o hb h=>by
    rcases hx2.new b o hb with h1|h1
    ·have:=E4 b o h1;omega
    ·simp at h1;omega
   have wz:av w2 bZ at5 aY w.heap.size (jM (a_ (cs.take k))):=(hM.turn ((af.refl (λ_=>False) wr).alloc _) id).turn aF id
   have il:aw w2 (w.heap.size+1) 9 1 gX k2 _ (a_ (cs.take k)):=((hm.turn ((af.refl (λ_=>False) wr).alloc (.cells #[.string y.head.n,.slice ya y.head.ts.length yc,.slice lA y.body.length lz] 236)) (λ_ _ h=>h) (λ_ _ _ h=>h)).turn aF (λ_ _ h=>h) (λ_ _ _ h=>h)).wider (λ_ _ h=>h) hk2 (λb o hb h'=>by
    have:=(hm.own b h');rcases hx2.new b o hb with h1|h1
    ·have:=E4 b o h1;omega
    ·simp at h1;omega)
   have yf:=(hT.alloc (.cells #[.string y.head.n,.slice ya y.head.ts.length yc,.slice lA y.body.length lz] 236)).trans aF;have hlen:(ay y).length≤1099511627776:=by have:=mL.1;simp[ay];omega
   obtain⟨n0,AO⟩: ∃n0,n0=a_ (cs.take k):=⟨_,rfl⟩;have lH:=hB k;rw[←AO]at wz il lH;have HN0:at3 (n0=a_ (cs.take k)):=AO;clear AO
   go_loopw [4,21] (λv i wq=>∃ (j:Nat),j≤(ay y).length∧i= .int .i64 j∧af (λ_=>False) w wq∧av wq bZ at5 aY w.heap.size (jM (gG n0 ((ay y).take j)))∧aw wq (w.heap.size+1) 9 1 gX k2 v (gG n0 ((ay y).take j))) (λ_ i _=>(ay y).length-(intOf i).toNat)
   case atStart=>exact⟨0,arQ _,rfl,yf,wz,il⟩
   case round=>
    clear wz il hm hM;obtain⟨j,hj,rfl,gT,kH,DM⟩:=hrel;by_cases pL:j<(ay y).length
    ·obtain⟨z,hz⟩: ∃z,(ay y)[j]? =some z:=⟨_,arn pL⟩;obtain⟨g2,o2,cc2,rfl,sU,iG,dh⟩:=hl2.cell DM.known hz;obtain⟨za,zc,rfl⟩:=iG.cells;have AH:bZ z.n:=ig (mL.2 z (ann hz)).2.1;have u0:_=some _:=dh 0 aI;have u1:_=some _:=dh 1 aI;simp only[at6,←at7]at u0 u1;have HZ:at3 (gG n0 ((ay y).take (j+1))=addN (gG n0 ((ay y).take j)) z.n):=CV hz;clear hz;have Hl:=rO ((ay y).take j) n0;have xZ:((ay y).take j).length≤(ay y).length:=by rw[List.length_take];omega
     obtain⟨f,hf⟩: ∃f,f=gG n0 ((ay y).take j):=⟨_,rfl⟩;rw[←hf]at kH DM Hl;have HF:at3 (f=gG n0 ((ay y).take j)):=hf;clear hf;have ahQ:=kH.lt;have jN:=(kH.turn ((af.refl (λ_=>False) wr).alloc (.cells #[.string z.n,.slice za z.ts.length zc] 233)) id);cases dC:inN f z.n with
     |true=>
      have HA:at3 (addN f z.n=f):=by show _=_;unfold addN;rw[if_pos dC]
      have hl:au (jM f) z.n=some ():=by rw[rH,if_pos dC]
      clear dC;go_wp2_with (at_lookup;refine aP cI Tryz.underlying249 bT rfl (.tmp 26) (.tmp 28) rfl rfl (aD _) jN.hp rfl AH hl ?_);go_roundw
      case rel=>exact⟨j+1,by omega,by go_num,(gT.alloc _).alloc _,by rw[HZ.out,←HF.out,HA.out];exact jN.turn ((af.refl (λ_=>False) _).alloc _) id,by rw[HZ.out,←HF.out,HA.out];exact DM.turn (((af.refl (λ_=>False) wr).alloc _).alloc _) (λ_ _ h=>h) (λ_ _ _ h=>h)⟩
      case measure=>simp[intOf];omega
     |false=>
      have HA:at3 (addN f z.n=f++ [z.n]):=by show _=_;unfold addN;rw[if_neg (by rw[dC];simp)]
      have HP:at3 (dO (jM f) z.n ()=jM (f++ [z.n])):=ES dC;have hl:au (jM f) z.n=none:=by rw[rH,if_neg (by rw[dC];simp)]
      clear dC;have abS:=jN.turn ((af.refl (λ_=>False) _).alloc (.cells #[] 251)) id;have KY:=DM.turn (((af.refl (λ_=>False) wr).alloc (.cells #[.string z.n,.slice za z.ts.length zc] 233)).alloc (.cells #[] 251)) (λ_ _ h=>h) (λ_ _ _ h=>h);go_wp2_with (first|(at_lookup;refine aZ cI Tryz.underlying249 bT rfl (.tmp 26) (.tmp 28) rfl rfl (aD _) jN.hp rfl AH hl ?_)|(at_mapUpdate;refine bj cI Tryz.underlying249 rfl (.tmp 34) (.tmp 36) (.tmp 37) rfl rfl abS rfl AH () rfl ?_;intro w5 bA mg;obtain⟨t0,t1,_,_⟩:=b9 (bA.kept (bq wr _ _) aj))|(at_builtin;refine di D9 rfl (.tmp 38) (.tmp 41) rfl (KY.turn bA (λb hb h=>by omega) KZ) rfl z.n #[.string z.n] rfl rfl (by simp[atv]) rfl bz aj aj (by have:=mg.lt;omega) ?_;intro g4 lK w6 gQ bH));go_roundw
      case rel=>
       refine⟨j+1,by omega,by go_num,?_,?_,by rw[HZ.out,←HF.out,HA.out];exact gQ⟩
       ·exact(((gT.alloc _).alloc _).bL bA (λb (h:b=w.heap.size)=> .inl aj)).bL bH (λb hb=> .inl (by have:=(KY.own b hb).1;omega))
       ·rw[HZ.out,←HF.out,HA.out,←HP.out];exact mg.turn bH (λh=>by have:=(KY.own _ h).1;omega)
      case measure=>simp[intOf];omega
    ·have AP:gG n0 ((ay y).take j)=gG n0 (ay y):=by rw[at4 aj]
     rw[AP]at kH DM;go_wp2;go_roundw
     case rel=>exact⟨k+1,by omega,by go_num,gT,by rw[HS.out,←HN0.out];exact kH,by rw[HS.out,←HN0.out];exact DM.wider (λ_ _ h=>h) (hw.turn gT (λ_ _ _ h=>h)) (λb o hb=>DM.apart b o (hx2.le b o hb))⟩
     case measure=>simp[intOf];omega
  ·have iQ:a_ (cs.take k)=a_ cs:=by rw[at4 aj]
   rw[iQ]at hm;obtain⟨va,vc,rfl⟩:=hm.shape;go_wp2;go_ret;obtain⟨k',d1,d2,d3,d4⟩:=hm.done λk' hk c x h=>h;exact⟨_,_,rfl,hT,k',d1,⟨d2,λb o hb=>(d3 b o hb).imp id λh=>by have:=(hm.own b h).1;omega⟩,d4⟩
end Go.Proofs.YtkdljbnllgpfhaaGreat
end
section
namespace Go.Proofs.YtkdljbnllgpfhaaGreat
open Go Go.RowKit Go.Upr
theorem Zy:auo Tryz.prog 256:=deep_law_gate ar mE mE ar ar
theorem Jo:Tryz.prog.cellsOf 256=2:=by kernel_rfl
theorem adb:Tryz.prog.cellsOf 9=1:=by kernel_rfl
theorem LI:Tryz.prog.types.size=522:=by kernel_rfl
theorem keyOf_pair{a b:ByteArray}(ha:a.size≤maxLen)(hb:b.size≤maxLen): ∃l,keyOf Tryz.prog 256 (.agg #[.string a,.string b])=some l:=by
 have h1:Tryz.prog.keyType 256=true:=by kernel_rfl
 have h2:(Value.agg #[.string a,.string b]).formed Tryz.prog 256=true:=by
  unfold Value.formed;rw[Tryz.underlying256,Jo];rfl
 have h0: ∀ (d:Nat) {s:ByteArray},s.size≤maxLen→Tryz.prog.keyLits (d+1) 9 [.string s]=some [.string s.data.toList]:=by
  intro d s hs;unfold auq;rw[Tryz.underlying9];exact if_pos hs
 have h3: ∀d,Tryz.prog.keyLits (d+2) 256 [.string a,.string b]=some [.string a.data.toList,.string b.data.toList]:=by
  intro d;unfold auq;rw[Tryz.underlying256];simp[Jo,adb,h0 d ha,h0 d hb]
 unfold keyOf;rw[Tryz.underlying256,LI];simp only[h1,h2,auv,if_true];show ∃l,(Tryz.prog.keyLits 523 256 [.string a,.string b]).map _=some l;rw[h3 521];exact⟨_,rfl⟩
def TB(p:ByteArray×ByteArray):Value:= .agg #[.string p.1,.string p.2]
abbrev okP:ByteArray×ByteArray→Prop:=λp=>p.1.size≤maxLen∧p.2.size≤maxLen
theorem gU:fG Tryz.prog 256 TB okP:= .of_law Zy (λ_ h=>keyOf_pair h.1 h.2) (λx y _ _ h=>by
 obtain⟨a,b⟩:=x;obtain⟨c,d⟩:=y
 simpa[TB]using h)
section
variable{κ:Type}[DecidableEq κ]
def aU(ps:List κ):List (κ×Unit):=ps.map λx=>(x,())
def gP(ps:List κ)(x:κ):Bool:=ps.any λy=>decide (y=x)
def ly(ps:List κ)(x:κ):List κ:=if gP ps x then ps else ps++ [x]
theorem cA(ps:List κ)(x:κ):au (aU ps) x=if gP ps x then some ()else none:=by
 cases h:gP ps x with
 |true=>
  obtain⟨y,hy,he⟩:=aue.1 h;have he':y=x:=by simpa using he
  subst he';cases hp:au (aU ps) y with
  |some u=>rfl
  |none=>
   unfold au at hp;rw[aun,aur]at hp;exact absurd (hp (y,()) (amk.2 ⟨y,hy,rfl⟩)) bz
 |false=>
  rw[if_neg bz];refine rD λp hp=>?_;obtain⟨y,hy,rfl⟩:=amk.1 hp;rintro rfl;have:=List.any_eq_false.1 h _ hy;simp at this
theorem qq(ps:List κ)(x:κ):dO (aU ps) x ()=aU (ly ps x):=by
 have abM:((aU ps).any λp=>decide (p.1=x))=gP ps x:=by
  unfold aU gP;rw[List.any_map];rfl
 unfold dO ly;rw[abM];cases gP ps x with
 |true=>
  simp only[if_true];unfold aU;rw[List.map_map];apply List.map_congr_left;intro y _;simp only[auA];split
  ·rename_i h;rw[h]
  ·rfl
 |false=>simp[aU]
end
def GW(ps:List (ByteArray×ByteArray))(u m:ByteArray)(ns:List ByteArray):List (ByteArray×ByteArray):=ns.foldl (λps l=>if gP ps (m,l)then ly ps (u,l)else ps) ps
theorem U_{ps:List (ByteArray×ByteArray)}{u m:ByteArray}{ns:List ByteArray}{k:Nat}{y:ByteArray}(hy:ns[k]? =some y):GW ps u m (ns.take (k+1))=if gP (GW ps u m (ns.take k)) (m,y)then ly (GW ps u m (ns.take k)) (u,y)else GW ps u m (ns.take k):=by
 unfold GW;rw[at8,hy,at9];rfl
abbrev lF(w:aly)(b:Nat)(ps:List (ByteArray×ByteArray)):Prop:=av w okP TB aY b (aU ps)
theorem ajP{h:Hp}{w:aly}(hw:h.In w){mb:Nat}(hne: ∀b o,h b=some o→¬b=mb){ps:List (ByteArray×ByteArray)}(hM:lF w mb ps){u m:ByteArray}(hu:u.size≤maxLen)(hm:m.size≤maxLen){ad:Option alA}{l c:Nat}{ns:List ByteArray}
  (AK:h.list 1 gX (.slice ad l c) ns) (hl:ns.length≤1099511627776) (hs: ∀x∈ns,x.size≤maxLen):
  asP Tryz.prog 186 #[.map (some mb),.string u,.string m,.slice ad l c] w λe w'=>e= .returned (.tuple #[])∧af (·=mb) w w'∧lF w' mb (GW ps u m ns):=by
 obtain⟨q7,q8,hv3,hat⟩:=AK.at hw;obtain⟨rfl,rfl,rfl⟩:ad=q7∧l=ns.length∧c=q8:=by simpa using hv3
 clear hv3;go_enter Tryz.func186,Tryz.ntmps186;go_wp2
 go_loopw [14] (λi wr=>∃ (k:Nat),k≤ns.length∧i= .int .i64 k∧af (·=mb) w wr∧lF wr mb (GW ps u m (ns.take k))) (λi _=>ns.length-(intOf i).toNat)
 case atStart=>exact⟨0,arQ _,rfl,af.refl _ _,hM⟩
 case round=>
  clear hM;obtain⟨k,hk,rfl,hT,hM⟩:=hrel;by_cases hlt:k<ns.length
  ·obtain⟨y,hy⟩: ∃y,ns[k]? =some y:=⟨_,arn hlt⟩;obtain⟨g,o,cc,rfl,bW,rfl,ag⟩:=hat k y hy;have qG:=hs y (ann hy);have hg: ¬g=mb:=by obtain⟨ob,pk⟩:=AK.block;exact hne _ _ pk
   have e0:=hT.cell (ag 0 aI) hg;simp only[at6,aup]at e0;have HY:at3 (GW ps u m (ns.take (k+1))=if gP (GW ps u m (ns.take k)) (m,y)then ly (GW ps u m (ns.take k)) (u,y)else GW ps u m (ns.take k)):=U_ hy;clear hy;obtain⟨f,hf⟩: ∃f,f=GW ps u m (ns.take k):=⟨_,rfl⟩;rw[←hf]at hM;have HF:at3 (f=GW ps u m (ns.take k)):=hf;clear hf;cases dC:gP f (m,y)with
   |true=>
    have hl:au (aU f) (m,y)=some ():=by rw[cA,if_pos dC]
    have HI:at3 (gP f (m,y)=true):=dC;clear dC;go_wp2_with (first|(at_lookup;refine aP gU Tryz.underlying247 bT rfl (.tmp 19) (.tmp 22) rfl rfl (aD _) hM.hp rfl ⟨hm,qG⟩ hl ?_)|(at_mapUpdate;refine bj gU Tryz.underlying247 rfl (.tmp 27) (.tmp 30) (.tmp 31) rfl rfl (hM.turn ((af.refl (λ_=>False) wr).alloc (.cells #[] 251)) id) (x:=(u,y)) rfl ⟨hu,qG⟩ () rfl ?_;intro w5 bA mg));go_roundw
    case rel=>exact⟨k+1,by omega,by go_num,(hT.alloc _).trans bA,by rw[HY.out,←HF.out,if_pos HI.out];show av _ _ _ _ _ (aU (ly f (u,y)));rw[←qq];exact mg⟩
    case measure=>simp[intOf];omega
   |false=>
    have hl:au (aU f) (m,y)=none:=by rw[cA,if_neg (by rw[dC];simp)]
    have HI:at3 (gP f (m,y)=false):=dC;clear dC;go_wp2_with (at_lookup;refine aZ gU Tryz.underlying247 bT rfl (.tmp 19) (.tmp 22) rfl rfl (aD _) hM.hp rfl ⟨hm,qG⟩ hl ?_);go_roundw
    case rel=>exact⟨k+1,by omega,by go_num,hT.alloc _,by rw[HY.out,←HF.out,if_neg (by rw[HI.out];simp)];exact hM.turn ((af.refl (λ_=>False) wr).alloc _) id⟩
    case measure=>simp[intOf];omega
  ·have iQ:GW ps u m (ns.take k)=GW ps u m ns:=by rw[at4 aj]
   rw[iQ]at hM;go_wp2;exact bodyPost_end (v:= .tuple #[]) (by simp[results,Tryz.results186,go_sem]) rfl ⟨rfl,hT,hM⟩
end Go.Proofs.YtkdljbnllgpfhaaGreat
end
section
namespace Go.Proofs.YtkdljbnllgpfhaaGreat
open Go Go.RowKit Go.Upr
def Bv(ps:List (ByteArray×ByteArray))(n:ByteArray)(body:List sK):List (ByteArray×ByteArray):=body.foldl (λps y=>ly ps (n,y.a.n)) ps
theorem QX{ps:List (ByteArray×ByteArray)}{n:ByteArray}{body:List sK}{k:Nat}{y:sK}(hy:body[k]? =some y):Bv ps n (body.take (k+1))=ly (Bv ps n (body.take k)) (n,y.a.n):=by
 unfold Bv;rw[at8,hy,at9];rfl
def rY(cs:List cS):List (ByteArray×ByteArray):=cs.foldl (λps cl=>Bv ps cl.head.n cl.body) []
theorem Nd{cs:List cS}{k:Nat}{y:cS}(hy:cs[k]? =some y):rY (cs.take (k+1))=Bv (rY (cs.take k)) y.head.n y.body:=by
 unfold rY;rw[at8,hy,at9];rfl
def sQ(ps:List (ByteArray×ByteArray))(m:ByteArray)(ns us:List ByteArray):List (ByteArray×ByteArray):=us.foldl (λps u=>if gP ps (u,m)then GW ps u m ns else ps) ps
theorem QT{ps:List (ByteArray×ByteArray)}{m:ByteArray}{ns us:List ByteArray}{k:Nat}{y:ByteArray}(hy:us[k]? =some y):sQ ps m ns (us.take (k+1))=if gP (sQ ps m ns (us.take k)) (y,m)then GW (sQ ps m ns (us.take k)) y m ns else sQ ps m ns (us.take k):=by
 unfold sQ;rw[at8,hy,at9];rfl
def RJ(ps:List (ByteArray×ByteArray))(ns ms:List ByteArray):List (ByteArray×ByteArray):=ms.foldl (λps m=>sQ ps m ns ns) ps
theorem U6{ps:List (ByteArray×ByteArray)}{ns ms:List ByteArray}{k:Nat}{y:ByteArray}(hy:ms[k]? =some y):RJ ps ns (ms.take (k+1))=sQ (RJ ps ns (ms.take k)) y ns ns:=by
 unfold RJ;rw[at8,hy,at9];rfl
def dz(cs:List cS):List (ByteArray×ByteArray):=RJ (rY cs) (a_ cs) (a_ cs)
theorem aeT{h:Hp}{w:aly}(hw:h.In w){ad:Option alA}{l c:Nat}{cs:List cS}(hcs:h.list 3 cW (.slice ad l c) cs)(hn:cs.length≤1099511627776)(hsm: ∀cl∈cs,Small 1099511627776 cl)
  (hB: ∀k,(a_ (cs.take k)).length≤1099511627776) (hN: ∀x∈a_ cs,x.size≤maxLen):
  asP Tryz.prog 137 #[.slice ad l c] w λe w'=>∃mb,e= .returned (.map (some mb))∧w.heap.size≤mb∧af (λ_=>False) w w'∧lF w' mb (dz cs):=by
 obtain⟨q7,q8,hv3,hat⟩:=hcs.at hw;obtain⟨rfl,rfl,rfl⟩:ad=q7∧l=cs.length∧c=q8:=by simpa using hv3
 clear hv3;have tV:= @auj Tryz.prog;have E4: ∀b o,h b=some o→b<w.heap.size:=λb o hb=>hw.lt hb;go_enter Tryz.func137,Tryz.ntmps137;go_wp2;have p8:lF (w.alloc (.map #[] 0)) w.heap.size []:=av.made
 go_loopw [18] (λi wr=>∃ (k:Nat),k≤cs.length∧i= .int .i64 k∧af (λ_=>False) w wr∧lF wr w.heap.size (rY (cs.take k))) (λi _=>cs.length-(intOf i).toNat)
 case atStart=>exact⟨0,arQ _,rfl,(af.refl _ w).alloc _,p8⟩
 case round=>
  clear p8;obtain⟨k,hk,rfl,hT,hM⟩:=hrel;by_cases hlt:k<cs.length
  ·obtain⟨y,hy⟩: ∃y,cs[k]? =some y:=⟨_,arn hlt⟩;obtain⟨g,o,cc,rfl,bW,hR,ag⟩:=hat k y hy;obtain⟨ya,yc,lA,lz,rfl⟩:=hR.cells;obtain⟨d,v2,hd,hdd,jT⟩:=hR;obtain⟨v1,Ko,iu⟩:=id hd;subst Ko;obtain⟨-,rfl⟩: .slice ya y.head.ts.length yc=v1∧ .slice lA y.body.length lz=v2:=by simpa using hdd
   clear hdd iu;have mL:=hsm y (ann hy);have hyb:=mL.1;have qG:bZ y.head.n:=ig (mL.2 y.head (by simp[ay])).2.1;have e0:=hT.cell (ag 0 aI) id;have e1:=hT.cell (ag 1 aI) id;have e2:=hT.cell (ag 2 aI) id;simp only[at6,←at7]at e0 e1 e2;have HS:at3 (rY (cs.take (k+1))=Bv (rY (cs.take k)) y.head.n y.body):=Nd hy;clear hy;have KX:=hM.lt;have La:=atp wr (.cells #[.string y.head.n,.slice ya y.head.ts.length yc,.slice lA y.body.length lz] 236);have R8:=hT.alloc (.cells #[.string y.head.n,.slice ya y.head.ts.length yc,.slice lA y.body.length lz] 236);have jN:=hM.turn ((af.refl (λ_=>False) wr).alloc (.cells #[.string y.head.n,.slice ya y.head.ts.length yc,.slice lA y.body.length lz] 236)) id;obtain⟨fk,Xv⟩: ∃fk,fk=rY (cs.take k):=⟨_,rfl⟩;rw[←Xv]at jN;have HK:at3 (fk=rY (cs.take k)):=Xv;clear Xv;go_wp2
   go_loopw [25] (λi wq=>∃ (j:Nat),j≤y.body.length∧i= .int .i64 j∧af (·=w.heap.size) (wr.alloc (.cells #[.string y.head.n,.slice ya y.head.ts.length yc,.slice lA y.body.length lz] 236)) wq∧lF wq w.heap.size (Bv fk y.head.n (y.body.take j))) (λi _=>y.body.length-(intOf i).toNat)
   case atStart=>exact⟨0,arQ _,rfl,af.refl _ _,jN⟩
   case round=>
    clear hM jN;obtain⟨j,hj,rfl,gT,kH⟩:=hrel;by_cases pL:j<y.body.length
    ·obtain⟨z,hz⟩: ∃z,y.body[j]? =some z:=⟨_,arn pL⟩;obtain⟨g2,o2,cc2,rfl,sU,iG,dh⟩:=jT.cell (hw.turn R8 (λ_ _ _ h=>h)) hz;obtain⟨za,zc,rfl,_⟩:=iG.cells;have AH:bZ z.a.n:=ig (mL.2 z.a (by simp[ay];exact .inr ⟨z,ann hz,rfl⟩)).2.1;have hg2: ¬g2=w.heap.size:=by obtain⟨ob,pk⟩:=jT.block;have:=E4 _ _ pk;omega
     have u0:=gT.cell (dh 0 aI) hg2;have u1:=gT.cell (dh 1 aI) hg2;have u2:=gT.cell (dh 2 aI) hg2;simp only[at6,←at7]at u0 u1 u2;obtain⟨r0,r1,r2,_,_,_⟩:=bI (gT.kept La aj);have hlq:=atm (gT.kept La aj);have HZ:at3 (Bv fk y.head.n (y.body.take (j+1))=ly (Bv fk y.head.n (y.body.take j)) (y.head.n,z.a.n)):=QX hz;clear hz;go_wp2_with (at_mapUpdate;refine bj gU Tryz.underlying247 rfl (.tmp 29) (.tmp 36) (.tmp 37) rfl rfl (kH.turn ((af.refl (λ_=>False) wr).alloc (.cells #[.string z.a.n,.slice za z.a.ts.length zc,.bool z.neg] 309)) id) (x:=(y.head.n,z.a.n)) rfl ⟨qG,AH⟩ () rfl ?_;intro w5 bA mg);go_roundw
     case rel=>exact⟨j+1,by omega,by go_num,(gT.alloc _).trans bA,by rw[HZ.out];show av _ _ _ _ _ (aU (ly _ _));rw[←qq];exact mg⟩
     case measure=>simp[intOf];omega
    ·have AP:Bv fk y.head.n (y.body.take j)=Bv fk y.head.n y.body:=by rw[at4 aj]
     rw[AP]at kH;go_wp2;go_roundw
     case rel=>exact⟨k+1,by omega,by go_num,R8.bL gT (λb (h:b=w.heap.size)=> .inl aj),by rw[HS.out,←HK.out];exact kH⟩
     case measure=>simp[intOf];omega
  ·have iQ:rY (cs.take k)=rY cs:=by rw[at4 aj]
   rw[iQ]at hM;have hc:=aeQ (hw.turn hT (λ_ _ _ h=>h)) hcs hn hsm hB;obtain⟨ns,AK⟩: ∃ns,ns=a_ cs:=⟨_,rfl⟩;obtain⟨f0,hf0⟩: ∃f0,f0=rY cs:=⟨_,rfl⟩;have hBn:(a_ cs).length≤1099511627776:=by have:=hB cs.length;rwa [at4 (agl _)]at this
   have HST:at3 (dz cs=RJ f0 ns ns):=by rw[AK,hf0];exact rfl
   rw[←AK]at hc hN hBn;rw[←hf0]at hM;clear AK hf0 iQ;have KX:=hM.lt;go_wp2_with (go_at_call 185;refine hc.mono ?_;rintro e w2 ⟨adn,cn,rfl,aF,k2,hk2,hx2,hl2⟩);have wz:=hM.turn aF id;have dK:=hT.trans aF;have hz2:=aF.size;have KZ: ∀b o,k2 b=some o→¬b=w.heap.size:=λb o hb h=>by
    rcases hx2.new b o hb with h1|h1
    ·have:=E4 b o h1;omega
    ·omega
   clear hM hat
   go_loopw [44] (λi wr=>∃ (k:Nat),k≤ns.length∧i= .int .i64 k∧af (·=w.heap.size) w2 wr∧lF wr w.heap.size (RJ f0 ns (ns.take k))) (λi _=>ns.length-(intOf i).toNat)
   case atStart=>exact⟨0,arQ _,rfl,af.refl _ _,wz⟩
   case round=>
    clear wz;obtain⟨i1,Xt,rfl,gI,Fi⟩:=hrel;by_cases hit:i1<ns.length
    ·obtain⟨m,hm⟩: ∃m,ns[i1]? =some m:=⟨_,arn hit⟩;obtain⟨g,o,cc,rfl,bW,rfl,ag⟩:=hl2.cell hk2 hm;have hg: ¬g=w.heap.size:=by obtain⟨ob,pk⟩:=hl2.block;exact KZ _ _ pk
     have DN:=hN m (ann hm);have e0:=gI.cell (ag 0 aI) hg;simp only[at6,aup]at e0;have HM:at3 (RJ f0 ns (ns.take (i1+1))=sQ (RJ f0 ns (ns.take i1)) m ns ns):=U6 hm;clear hm;obtain⟨f1,Pz⟩: ∃f1,f1=RJ f0 ns (ns.take i1):=⟨_,rfl⟩;rw[←Pz]at Fi;have HF1:at3 (f1=RJ f0 ns (ns.take i1)):=Pz;clear Pz;go_wp2
     go_loopw [50] (λi wq=>∃ (j:Nat),j≤ns.length∧i= .int .i64 j∧af (·=w.heap.size) w2 wq∧lF wq w.heap.size (sQ f1 m ns (ns.take j))) (λi _=>ns.length-(intOf i).toNat)
     case atStart=>exact⟨0,arQ _,rfl,gI,Fi⟩
     case round=>
      clear Fi;obtain⟨j,hj,rfl,gT,kH⟩:=hrel;by_cases pL:j<ns.length
      ·obtain⟨u,hu⟩: ∃u,ns[j]? =some u:=⟨_,arn pL⟩;obtain⟨g2,o2,cc2,SA,sU,rfl,dh⟩:=hl2.cell hk2 hu;obtain⟨rfl,rfl⟩:g=g2∧o=o2:=by simpa using SA
       have GX:=hN u (ann hu);have u0:=gT.cell (dh 0 aI) hg;simp only[at6,aup]at u0;have HU:at3 (sQ f1 m ns (ns.take (j+1))=if gP (sQ f1 m ns (ns.take j)) (u,m)then GW (sQ f1 m ns (ns.take j)) u m ns else sQ f1 m ns (ns.take j)):=QT hu;clear hu SA;obtain⟨f2,hf2⟩: ∃f2,f2=sQ f1 m ns (ns.take j):=⟨_,rfl⟩;rw[←hf2]at kH;have HF2:at3 (f2=sQ f1 m ns (ns.take j)):=hf2;clear hf2;have jN:=kH.turn ((af.refl (λ_=>False) wr).alloc (.cells #[] 251)) id;have hkv:=(hk2.turn gT KZ).turn ((af.refl (λ_=>False) wr).alloc (.cells #[] 251)) (λ_ _ _ h=>h);cases dC:gP f2 (u,m)with
       |true=>
        have hl:au (aU f2) (u,m)=some ():=by rw[cA,if_pos dC]
        have HI:at3 (gP f2 (u,m)=true):=dC;clear dC;go_wp2_with (first|(at_lookup;refine aP gU Tryz.underlying247 bT rfl (.tmp 55) (.tmp 58) rfl rfl (aD _) kH.hp rfl ⟨GX,DN⟩ hl ?_)|(go_at_call 186;refine(ajP hkv KZ jN GX DN hl2 hBn hN).mono ?_;rintro e w5 ⟨rfl,bA,mg⟩));go_roundw
        case rel=>exact⟨j+1,by omega,by go_num,(gT.alloc _).trans bA,by rw[HU.out,←HF2.out,if_pos HI.out];exact mg⟩
        case measure=>simp[intOf];omega
       |false=>
        have hl:au (aU f2) (u,m)=none:=by rw[cA,if_neg (by rw[dC];simp)]
        have HI:at3 (gP f2 (u,m)=false):=dC;clear dC;go_wp2_with (at_lookup;refine aZ gU Tryz.underlying247 bT rfl (.tmp 55) (.tmp 58) rfl rfl (aD _) kH.hp rfl ⟨GX,DN⟩ hl ?_);go_roundw
        case rel=>exact⟨j+1,by omega,by go_num,gT.alloc _,by rw[HU.out,←HF2.out,if_neg (by rw[HI.out];simp)];exact jN⟩
        case measure=>simp[intOf];omega
      ·have AP:sQ f1 m ns (ns.take j)=sQ f1 m ns ns:=by rw[at4 aj]
       rw[AP]at kH;go_wp2;go_roundw
       case rel=>exact⟨i1+1,by omega,by go_num,gT,by rw[HM.out,←HF1.out];exact kH⟩
       case measure=>simp[intOf];omega
    ·have AP:RJ f0 ns (ns.take i1)=RJ f0 ns ns:=by rw[at4 aj]
     rw[AP,←HST.out]at Fi;go_wp2;go_ret;exact⟨_,rfl,agl _,dK.bL gI (λb (h:b=w.heap.size)=> .inl aj),Fi⟩
end Go.Proofs.YtkdljbnllgpfhaaGreat
end
section
namespace Go.Proofs.YtkdljbnllgpfhaaGreat
open Go Go.RowKit Go.Upr
def XL(f:List (ByteArray×ByteArray))(n:ByteArray)(y:sK):Bool:=y.neg&&gP f (y.a.n,n)
def Tp(f:List (ByteArray×ByteArray))(cl:cS):Bool:=cl.body.any (XL f cl.head.n)
def S5(cs:List cS):Bool:= !cs.any (Tp (dz cs))
theorem aj6{h:Hp}{w:aly}(hw:h.In w){ad:Option alA}{l c:Nat}{cs:List cS}(hcs:h.list 3 cW (.slice ad l c) cs)(hn:cs.length≤1099511627776)(hsm: ∀cl∈cs,Small 1099511627776 cl)
  (hB: ∀k,(a_ (cs.take k)).length≤1099511627776) (hN: ∀x∈a_ cs,x.size≤maxLen):
  asP Tryz.prog 131 #[.slice ad l c] w λe w'=>e= .returned (.bool (S5 cs))∧af (λ_=>False) w w':=by
 have hc:=aeT hw hcs hn hsm hB hN;obtain⟨q7,q8,hv3,hat⟩:=hcs.at hw;obtain⟨rfl,rfl,rfl⟩:ad=q7∧l=cs.length∧c=q8:=by simpa using hv3
 clear hv3;obtain⟨f,hf⟩: ∃f,f=dz cs:=⟨_,rfl⟩;have HL:at3 (S5 cs= !cs.any (Tp f)):=by rw[hf];exact rfl
 rw[←hf]at hc;clear hf;go_enter Tryz.func131,Tryz.ntmps131;go_wp2_with (go_at_call 137;refine hc.mono ?_;rintro e w2 ⟨mb,rfl,oZ,dK,wz⟩)
 go_loopw [14] (λi wr=>∃ (k:Nat),k≤cs.length∧i= .int .i64 k∧af (λ_=>False) w2 wr∧(cs.take k).any (Tp f)=false) (λi _=>cs.length-(intOf i).toNat)
 case atStart=>exact⟨0,arQ _,rfl,af.refl _ _,rfl⟩
 case round=>
  obtain⟨k,hk,rfl,nd,E1⟩:=hrel;have HN:at3 ((cs.take k).any (Tp f)=false):=E1;clear E1;have hT:=dK.trans nd;by_cases hlt:k<cs.length
  ·obtain⟨y,hy⟩: ∃y,cs[k]? =some y:=⟨_,arn hlt⟩;obtain⟨g,o,cc,rfl,bW,hR,ag⟩:=hat k y hy;obtain⟨ya,yc,lA,lz,rfl⟩:=hR.cells;obtain⟨d,v2,hd,hdd,jT⟩:=hR;obtain⟨v1,Ko,iu⟩:=id hd;subst Ko;obtain⟨-,rfl⟩: .slice ya y.head.ts.length yc=v1∧ .slice lA y.body.length lz=v2:=by simpa using hdd
   clear hdd iu;have mL:=hsm y (ann hy);have hyb:=mL.1;have qG:bZ y.head.n:=ig (mL.2 y.head (by simp[ay])).2.1;have e0:=hT.cell (ag 0 aI) id;have e1:=hT.cell (ag 1 aI) id;have e2:=hT.cell (ag 2 aI) id;simp only[at6,←at7]at e0 e1 e2;have HY:at3 (cs[k]? =some y):=hy;clear hy;have La:=atp wr (.cells #[.string y.head.n,.slice ya y.head.ts.length yc,.slice lA y.body.length lz] 236);have R8:=hT.alloc (.cells #[.string y.head.n,.slice ya y.head.ts.length yc,.slice lA y.body.length lz] 236);have aeh:=nd.alloc (.cells #[.string y.head.n,.slice ya y.head.ts.length yc,.slice lA y.body.length lz] 236);go_wp2
   go_loopw [21] (λi wq=>∃ (j:Nat),j≤y.body.length∧i= .int .i64 j∧af (λ_=>False) (wr.alloc (.cells #[.string y.head.n,.slice ya y.head.ts.length yc,.slice lA y.body.length lz] 236)) wq∧(y.body.take j).any (XL f y.head.n)=false) (λi _=>y.body.length-(intOf i).toNat)
   case atStart=>exact⟨0,arQ _,rfl,af.refl _ _,rfl⟩
   case round=>
    obtain⟨j,hj,rfl,gT,hnq⟩:=hrel;have HQ:at3 ((y.body.take j).any (XL f y.head.n)=false):=hnq;clear hnq;by_cases pL:j<y.body.length
    ·obtain⟨z,hz⟩: ∃z,y.body[j]? =some z:=⟨_,arn pL⟩;obtain⟨g2,o2,cc2,rfl,sU,iG,dh⟩:=jT.cell (hw.turn R8 (λ_ _ _ h=>h)) hz;obtain⟨za,zc,rfl,_⟩:=iG.cells;have AH:bZ z.a.n:=ig (mL.2 z.a (by simp[ay];exact .inr ⟨z,ann hz,rfl⟩)).2.1;have u0:=gT.cell (dh 0 aI) id;have u1:=gT.cell (dh 1 aI) id;have u2:=gT.cell (dh 2 aI) id;simp only[at6,←at7]at u0 u1 u2;obtain⟨r0,r1,r2,_,_,_⟩:=bI (gT.kept La id);have hlq:=atm (gT.kept La id);have HZ:at3 (y.body[j]? =some z):=hz;clear hz;have jN:=(wz.turn (aeh.trans gT) id).turn ((af.refl (λ_=>False) wr).alloc (.cells #[.string z.a.n,.slice za z.a.ts.length zc,.bool z.neg] 309)) id;cases dC:gP f (z.a.n,y.head.n)with
     |true=>
      have hl:au (aU f) (z.a.n,y.head.n)=some ():=by rw[cA,if_pos dC]
      cases Np:z.neg with
      |true=>
       have HC:at3 (XL f y.head.n z=true):=by show _=_;simp only[XL,dC,Np,Bool.and_self]
       rw[Np]at u2 jN;clear dC Np;go_wp2_with (at_lookup;refine aP gU Tryz.underlying247 bT rfl (.tmp 26) (.tmp 33) rfl rfl (aD _) jN.hp (x:=(z.a.n,y.head.n)) rfl ⟨AH,qG⟩ hl ?_);go_ret;exact⟨jS (by rw[HL.out,ri HY.out (p:=Tp f) (ri HZ.out HC.out)];rfl),((R8.trans gT).alloc _).alloc _⟩
      |false=>
       have HC:at3 (XL f y.head.n z=false):=by show _=_;simp only[XL,Np,Bool.false_and]
       rw[Np]at u2 jN;clear dC Np;go_wp2_with (at_lookup;refine aP gU Tryz.underlying247 bT rfl (.tmp 26) (.tmp 33) rfl rfl (aD _) jN.hp (x:=(z.a.n,y.head.n)) rfl ⟨AH,qG⟩ hl ?_);go_roundw
       case rel=>exact⟨j+1,by omega,by go_num,(gT.alloc _).alloc _,kZ HZ.out HQ.out HC.out⟩
       case measure=>simp[intOf];omega
     |false=>
      have hl:au (aU f) (z.a.n,y.head.n)=none:=by rw[cA,if_neg (by rw[dC];simp)]
      have HC:at3 (XL f y.head.n z=false):=by show _=_;simp only[XL,dC,auu]
      clear dC;cases Np:z.neg
      all_goals
       rw[Np]at u2 jN;clear Np;go_wp2_with (at_lookup;refine aZ gU Tryz.underlying247 bT rfl (.tmp 26) (.tmp 33) rfl rfl (aD _) jN.hp (x:=(z.a.n,y.head.n)) rfl ⟨AH,qG⟩ hl ?_);go_roundw
       case rel=>exact⟨j+1,by omega,by go_num,(gT.alloc _).alloc _,kZ HZ.out HQ.out HC.out⟩
       case measure=>simp[intOf];omega
    ·go_wp2;go_roundw
     case rel=>exact⟨k+1,by omega,by go_num,aeh.trans gT,kZ HY.out HN.out (ui pL HQ.out)⟩
     case measure=>simp[intOf];omega
  ·go_wp2;go_ret;exact⟨jS (by rw[HL.out,ui hlt HN.out];rfl),hT⟩
def gM(cs:List cS):Int×Int:=
 if pq 0 [] cs≠ -1 then(3,pq 0 [] cs)else if NK 0 [] cs≠ -1 then(4,NK 0 [] cs)else if NJ (sf cs) 0 cs≠ -1 then(5,NJ (sf cs) 0 cs)
 else if Nn 0 cs≠ -1 then(6,Nn 0 cs)else if S5 cs=false then(7,0)else(0,0)
theorem c72{h:Hp}{w:aly}(hw:h.In w){ad:Option alA}{l c:Nat}{cs:List cS}(hcs:h.list 3 cW (.slice ad l c) cs)(hn:cs.length≤1099511627776)(hsm: ∀cl∈cs,Small 1099511627776 cl)
  (hB: ∀k,(a_ (cs.take k)).length≤1099511627776) (hN: ∀x∈a_ cs,x.size≤maxLen):
  asP Tryz.prog 72 #[.slice ad l c] w λe w'=>e= .returned (.tuple #[.int .i64 (gM cs).1,.int .i64 (gM cs).2])∧af (λ_=>False) w w':=by
 have k1:=aka hw hcs hn hsm;have k2:=λ{w':aly} (ht:af (λ_=>False) w w')=>aj9 (hw.turn ht (λ_ _ _ h=>h)) hcs hn hsm;have k3:=λ{w':aly} (ht:af (λ_=>False) w w')=>aj8 (hw.turn ht (λ_ _ _ h=>h)) hcs hn hsm;have k4:=λ{w':aly} (ht:af (λ_=>False) w w')=>aj7 (hw.turn ht (λ_ _ _ h=>h)) hcs hn hsm;have k5:=λ{w':aly} (ht:af (λ_=>False) w w')=>aj6 (hw.turn ht (λ_ _ _ h=>h)) hcs hn hsm hB hN
 have HC:at3 (gM cs=if pq 0 [] cs≠ -1 then(3,pq 0 [] cs)else if NK 0 [] cs≠ -1 then(4,NK 0 [] cs)else if NJ (sf cs) 0 cs≠ -1 then(5,NJ (sf cs) 0 cs)
  else if Nn 0 cs≠ -1 then(6,Nn 0 cs)else if S5 cs=false then(7,0)else(0,0)):=rfl
 generalize pq 0 [] cs=n1 at k1 HC;generalize NK 0 [] cs=n2 at k2 HC;generalize NJ (sf cs) 0 cs=n3 at k3 HC;generalize Nn 0 cs=n4 at k4 HC;generalize S5 cs=b5 at k5 HC;generalize gM cs=r at HC;by_cases g1:n1= -1
 ·by_cases g2:n2= -1
  ·by_cases g3:n3= -1
   ·by_cases g4:n4= -1
    ·subst g1 g2 g3 g4;cases b5
     all_goals
      obtain rfl:=HC.out;go_enter Tryz.func72,Tryz.ntmps72;go_wp2_with (first|(go_at_call 127;refine k1.mono ?_;rintro e w1 ⟨rfl,h1⟩)|(go_at_call 128;refine(k2 h1).mono ?_;rintro e w2 ⟨rfl,Fl⟩;have h2:=h1.trans Fl)|(go_at_call 129;refine(k3 h2).mono ?_;rintro e w3 ⟨rfl,h3'⟩;have h3:=h2.trans h3')|(go_at_call 130;refine(k4 h3).mono ?_;rintro e w4 ⟨rfl,h4'⟩;have h4:=h3.trans h4')|(go_at_call 131;refine(k5 h4).mono ?_;rintro e w5 ⟨rfl,h5'⟩;have h5:=h4.trans h5'))
      go_ret2
      exact⟨rfl,h5⟩
    ·subst g1 g2 g3;have hne:(n4 != -1)=true:=by simpa using g4
     have hr:r=(6,n4):=by rw[HC.out];simp[g4]
     subst hr;go_enter Tryz.func72,Tryz.ntmps72;go_wp2_with (first|(go_at_call 127;refine k1.mono ?_;rintro e w1 ⟨rfl,h1⟩)|(go_at_call 128;refine(k2 h1).mono ?_;rintro e w2 ⟨rfl,Fl⟩;have h2:=h1.trans Fl)|(go_at_call 129;refine(k3 h2).mono ?_;rintro e w3 ⟨rfl,h3'⟩;have h3:=h2.trans h3')|(go_at_call 130;refine(k4 h3).mono ?_;rintro e w4 ⟨rfl,h4'⟩;have h4:=h3.trans h4'))
     go_ret2
     exact⟨rfl,h4⟩
   ·subst g1 g2;have hne:(n3 != -1)=true:=by simpa using g3
    have hr:r=(5,n3):=by rw[HC.out];simp[g3]
    subst hr;go_enter Tryz.func72,Tryz.ntmps72;go_wp2_with (first|(go_at_call 127;refine k1.mono ?_;rintro e w1 ⟨rfl,h1⟩)|(go_at_call 128;refine(k2 h1).mono ?_;rintro e w2 ⟨rfl,Fl⟩;have h2:=h1.trans Fl)|(go_at_call 129;refine(k3 h2).mono ?_;rintro e w3 ⟨rfl,h3'⟩;have h3:=h2.trans h3'))
    go_ret2
    exact⟨rfl,h3⟩
  ·subst g1;have hne:(n2 != -1)=true:=by simpa using g2
   have hr:r=(4,n2):=by rw[HC.out];simp[g2]
   subst hr;go_enter Tryz.func72,Tryz.ntmps72;go_wp2_with (first|(go_at_call 127;refine k1.mono ?_;rintro e w1 ⟨rfl,h1⟩)|(go_at_call 128;refine(k2 h1).mono ?_;rintro e w2 ⟨rfl,Fl⟩;have h2:=h1.trans Fl))
   go_ret2
   exact⟨rfl,h2⟩
 ·have hne:(n1 != -1)=true:=by simpa using g1
  have hr:r=(3,n1):=by rw[HC.out];simp[g1]
  subst hr;go_enter Tryz.func72,Tryz.ntmps72;go_wp2_with (go_at_call 127;refine k1.mono ?_;rintro e w1 ⟨rfl,h1⟩)
  go_ret2
  exact⟨rfl,h1⟩
end Go.Proofs.YtkdljbnllgpfhaaGreat
end
