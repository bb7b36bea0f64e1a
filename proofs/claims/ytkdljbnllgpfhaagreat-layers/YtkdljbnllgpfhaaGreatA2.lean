import Derived.Test.YtkdljbnllgpfhaaGreatA1
import Derived.RunT
set_option maxRecDepth 100000
set_option maxHeartbeats 8000000
open Go.stepG renaming exec→aoy,apply→aoA,oper→aoM
open Go renaming Frame→aoz,World→aly,Program→alu,Value→aad,Question→am6,FuncId→alB,TypeId→acs,unwind→aoI,newObj→alZ,freeze→aoK,variablesAt→aoR,callMethod→aoU,program→alw,loadBytes→aoY,exitTo→ao2,Event→amp,Deferred→amI,cellsIn→ao5,Code→amq,execOp→aom,elemOf→apb,TypeInfo→apc,GStep→apd,Item→api,viewAt→amQ,results→apr,method→apu,Operand→ang,Addr→alA,Oper→apy,Sem→alP,RuntimeError→apB,Outcome→apC,Machine→apD,undef→apE,stuck→alO,shape→alX,asInt→anb
open Pure renaming pure→ads
open Bool renaming false_eq_true→amA,and_eq_true→anh
open Go.Stepped.next renaming injEq→aoB
open Array renaming all_eq_true_iff_forall_mem→al0,getElem?_eq_some_iff→ad3,append_empty→amv,replicate→aps
open Option renaming bind_eq_some_iff→aoC
open Go.Extern.BytealgMakeNoZero renaming makeNoZero→aoD,digits→aoP
open Go.Instr renaming beginRound→aoE,takeDeferred→aoF,endRound→aoZ,makeSlice→ao9,enterLoop→apa,endLoop→aph,loadAt→amZ
open Go.Extern.BytealgIndexByte renaming indexByte→aoG
open Go.Conv renaming unsafePointer→aoH,seenAt→apn
open Go.Deferred renaming ofValue→aox
open Go.Extern.BytealgCompare renaming compare→aoJ
open Go.Sem renaming runT→aab
open Go.Extern.BytealgIndex renaming index→aoL,maxLen→apq
open Go.Frame renaming raise→aoN,enter→ao7,round→apk,oper?→apv
open Classical renaming byContradiction→aoO,choose_spec→apg,choose→apl
open Go.Extern.Bytes renaming loadBytes→aoQ,bytesOf→aoT,asByte→aoV
open Option.some renaming inj→alN,injEq→apx
open Go.GStep renaming after→aoS
open Go.World renaming freeze→aoW
open Go.Builtin renaming unsafeString_→aoX,unsafeSliceData_→ape
open Prod.mk renaming injEq→ae
open List renaming mem_cons_of_mem→ao0,mem_cons_self→ao3
open Nat renaming le_refl→agl,lt_of_lt_of_le→amC,exists_eq_add_of_le→apj,le_trans→al2
open Go.Extern.AbiNoEscape renaming same→ao1
open Go.Value renaming pointer→amM
open Go.CallKind renaming wrapped→ao4,normal→ao6,early→ao8
open Go.Result.ok renaming injEq→aB
open Go.Goroutine.mk renaming injEq→apf
open Go.Next renaming skip→aou,value→anO
open Go.Made renaming infoAt→apm,reckonStruct→apo,reckon→apw
open True renaming intro→alF
open Go.IntKind renaming i64→apt
open Go.Item renaming code→apz
open Go.Machine.mk renaming injEq→apA
open List.cons renaming injEq→amr
open Go.GStep.go renaming injEq→apF
open Array.mk renaming injEq→apG
namespace Go.Upr
section
variable{α α' β β':Type}{P:alu}{F:alB→Bool}{C:amq→Bool}{f:Ren}{w w':aly}
theorem aH.makeSlice{t:acs}(hz: ∀e,P.underlying t=some (.slice e)→pU P F e){x x' y y':aad}(hx:aA F f x x')(hy:aA F f y y'):aH P F C (aA F) f (ao9 t x y) (ao9 t x' y'):=by
 unfold ao9;refine .bind (.underlying t) λg d d' hle hd=>?_;obtain⟨rfl,hu⟩:=hd;cases d<;>first|exact .halt|skip
 rename_i e;dsimp only;refine .bind (.asInt (hx.mono hle)) λg1 n n' h1 hn=>?_;subst hn;refine .bind (.asInt ((hy.mono hle).mono h1)) λg2 c c' h2 hc=>?_;subst hc;refine .bind (.typeInfo e) λg3 i i' h3 hi=>?_;obtain⟨rfl,hi⟩:=hi;have never: ∀ (e:apB) (k:Unit→alP aad),ie P (do runtimePanic e;k ()):=λe k=> .aO (aL _);split
 ·split
  ·exact .never (.aO (aL _))
  ·split
   ·exact .never (.aO (aL _))
   ·exact .never (.bind (.choose _) λ_=> .aO (aL _))
 refine .bind (.askRoom _) λg4 _ _ h4 _=>?_;refine .bind (.still (bO e)) λg5 m m' h5 hm=>?_;subst hm;split
 ·exact .bind (.pure' (A:=λg a a'=>RelA F g a a') .empty) λg6 z z' _ Hh=> .bind (.newRow e (pE Hh _)) λ_ _ _ _ ha=> .pure' (.lO ha _ _)
 ·refine .bind (.zeroValue (hz e hu)) λg6 z z' _ hzz=>?_;obtain⟨rfl,hp⟩:=hzz;exact .bind (.pure' (A:=λg a a'=>RelA F g a a') (hp.cells _)) λg7 z z' _ C_=> .bind (.newRow e (pE C_ _)) λ_ _ _ _ ha=> .pure' (.lO ha _ _)
theorem aH.loadBytes: ∀ (n:Nat) (acc:ByteArray) {f:Ren} {a a':alA},bE f a a'→aH P F C (λ_ x x'=>x=x') f (aoY a acc n) (aoY a' acc n)
 |0,acc,f,a,a',_=> .pure' rfl
 |n+1,acc,f,a,a',ha=>by
  unfold aoY;refine .bind (.load ha) λg v v' hle hv=>?_;cases hv with
  |int k b=>cases k<;>first|exact .halt|exact aH.loadBytes n _ ((ha.mono hle).add 1)
  |_=>exact .halt
theorem aH.variablesAt{a a':alA}(ha:bE f a a')(u:acs)(n:Nat):aH P F C (λ_ x x'=>x=x') f (aoR a u n) (aoR a' u n):=by
 unfold aoR;refine .bind .program λg p p' hle hp=>?_;obtain⟨rfl,rfl⟩:=hp;have ho:a'.off=a.off:=by obtain⟨b,_,rfl⟩:=ha;rfl
 refine .bind (.ud (ha.mono hle)) λg2 s s' _ hs=>?_;subst hs;rw[ho];cases s<;>exact .pure' rfl
def frz(off n:Nat):Obj→Obj
 | .cells c elem (lo,hi)=> .cells c elem (if lo==hi then(off,off+n)else(min lo off,max hi (off+n)))
 |o=>o
theorem yQ(w:aly)(a:alA)(n:Nat):w.freeze a n=if n=0 then w else{w with heap:=w.heap.modify a.block (frz a.off n)}:=by
 unfold aoW;split
 ·rfl
 ·congr 2
theorem ZK(off n:Nat){o o':Obj}(h:jf P F C f o o'):jf P F C f (frz off n o) (frz off n o'):=by
 cases h with
 |cells e fr h=>exact .cells e _ h
 |map c h=>exact .map c h
 |D4 a b c=>exact .D4 a b c
 |iter h a b c=>exact .iter h a b c
 |loop a b c d e k l m n p q r=>exact .loop a b c d e k l m n p q r
 |Tn=>exact .Tn
 |P6=>exact .P6
 |number h l=>exact .number h l
 |view h hu=>exact .view h hu
theorem aH.freeze{a a':alA}(ha:bE f a a')(n:Nat):aH P F C (λ_ _ _=>True) f (aoK a n) (aoK a' n):=by
 refine⟨?_,λw w' es hw=>⟨λh w1 ft hr=>by simp only[aoK,aab,ae,reduceCtorEq,false_and]at hr,λx w1 ft hr=>?_⟩⟩;rotate_left
 ·simp only[aoK,aab,ae,aB]at hr;obtain⟨⟨_,rfl⟩,rfl⟩:=hr;refine⟨?_,?_,λT _=>?_⟩
  ·unfold aoW;split<;>exact agl _
  ·unfold aoW;split<;>rfl
  ·simp only[aoK,aab];unfold aoW;split<;>rfl
 intro w w' es es' hw x w1 ft hr;simp only[aoK,aab,ae,aB]at hr;obtain⟨⟨_,rfl⟩,rfl⟩:=hr;obtain⟨b,hb,rfl⟩:=ha;by_cases hn:n=0
 ·refine⟨f,(),w',#[],?_,?_,.refl _ _,trivial,by simp⟩
  ·simp only[aoK,aab,aoW,if_pos hn,amv]
  ·rw[yQ,if_pos hn];exact hw
 obtain⟨o,o',h1,h2,h3⟩:=hw.heap _ _ hb;rw[yQ,if_neg hn];refine⟨f,(),{w' with heap:=w'.heap.modify b (frz a.off n)},#[],?_,?_,?_,trivial,by simp⟩
 ·simp only[aoK,aab,yQ,if_neg hn,amv]
 ·exact hw.put hb (ZK a.off n h3) (jH _ _ _ _ h1) (jH _ _ _ _ h2) rfl rfl rfl rfl
 ·exact mO.put hb (jH _ _ _ _ h2) rfl rfl rfl
theorem aH.unsafeString(ts:Array acs)(t:acs){x x':Array aad}(hx:RelA F f x x'):aH P F C (aA F) f (aoX ts t x) (aoX ts t x'):=by
 unfold aoX;obtain⟨l⟩:=x;obtain⟨l'⟩:=x';unfold RelA at hx;dsimp only at hx;cases hx with
 |nil=>exact .halt
 |cons h1 tl=>
  cases tl with
  |nil=>cases h1<;>exact .halt
  |cons h2 tl=>
   cases tl with
   |cons _ _=>cases h1<;>exact .halt
   |nil=>
    have main: ∀ (p p':Option alA),(p=none∧p'=none∨∃a a',p=some a∧p'=some a'∧bE f a a')→∀y y',aA F f y y'→aH P F C (aA F) f (do
      let n←anb y
      let some pt:=ts[0]? |stuck "unsafe.String: no argument types"
      if n<0 then runtimePanic (.error "unsafe.String: len out of range")
      if n>apt.max then unsupported (.unsafePointer "String: a length above the largest int")
      match p with
      |none=>
       if n=0 then ads (.string .empty)
       else runtimePanic (.error "unsafe.String: ptr is nil and len is not zero")
      |some a=>
       if n=0 then ads (.string .empty)
       else if←aoR a (←elemOf pt) n.toNat then do
        let s←aoY a .empty n.toNat
        aoK a n.toNat
        ads (.string s)
       else unsupported (.unsafePointer "String: not so many bytes at ptr")) (do
      let n←anb y'
      let some pt:=ts[0]? |stuck "unsafe.String: no argument types"
      if n<0 then runtimePanic (.error "unsafe.String: len out of range")
      if n>apt.max then unsupported (.unsafePointer "String: a length above the largest int")
      match p' with
      |none=>
       if n=0 then ads (.string .empty)
       else runtimePanic (.error "unsafe.String: ptr is nil and len is not zero")
      |some a=>
       if n=0 then ads (.string .empty)
       else if←aoR a (←elemOf pt) n.toNat then do
        let s←aoY a .empty n.toNat
        aoK a n.toNat
        ads (.string s)
       else unsupported (.unsafePointer "String: not so many bytes at ptr")):=by
     intro p p' hp y y' hy;refine .bind (.asInt hy) λg n n' hle hn=>?_;subst hn;cases ts[0]? with
     |none=>exact .halt
     |some pt=>
      dsimp only;split
      ·exact .never (.aO (aL _))
      split
      ·exact .never (.aO (.halt _))
      rcases hp with⟨rfl,rfl⟩|⟨a,a',rfl,rfl,ha⟩
      ·dsimp only;split
       ·exact .pure' (.string _)
       ·exact .never (aL _)
      ·dsimp only;split
       ·exact .pure' (.string _)
       ·refine .bind (.still (xB pt)) λg2 e e' h2 he=>?_;subst he;refine .bind (.variablesAt ((ha.mono hle).mono h2) e _) λg3 q q' h3 hq=>?_;subst hq;split
        ·refine .bind (.loadBytes _ _ (((ha.mono hle).mono h2).mono h3)) λg4 s s' h4 hs=>?_;subst hs;exact .bind (.freeze ((((ha.mono hle).mono h2).mono h3).mono h4) _) λg5 _ _ _ _=> .pure' (.string _)
        ·exact .halt
    cases h1 with
    |ptrN=>exact main none none (.inl ⟨rfl,rfl⟩) _ _ h2
    |ptr hb=>exact main (some _) (some _) (.inr ⟨_,_,rfl,rfl,_,hb,rfl⟩) _ _ h2
    |_=>exact .halt
def vJ(P:alu):Nat→acs→Bool
 |0,_=>true
 |d+1,t=>
  match P.underlying t with
  |some (.struct fs)=>fs.all λx=>vJ P d x.type
  |some (.array _ e)=>vJ P d e
  |some (.float _)|some (.complex _)=>false
  |_=>true
theorem lj: ∀ (d:Nat) (t:acs),vJ P d t=true→∀k v,plainCell P d t k=some v→nL v
 |0,_,_,k,v,h=>by simp[plainCell]at h
 |d+1,t,ht,k,v,h=>by
  unfold plainCell at h;unfold vJ at ht;cases hu:P.underlying t with
  |none=>rw[hu]at h;cases h
  |some td=>
   rw[hu]at h ht;cases td with
   |struct fs=>
    dsimp only at h ht;obtain⟨x,hx,hv⟩:=Array.exists_of_findSome?_eq_some h;split at hv
    ·exact lj d x.type ((al0.1 ht) x hx) _ _ hv
    ·cases hv
   |array n e=>
    dsimp only at h ht;split at h
    ·cases h
    ·exact lj d e ht _ _ h
   |bool=>dsimp only at h;split at h<;>cases h;trivial
   |int k=>dsimp only at h;split at h<;>cases h;trivial
   |float k=>cases ht
   |complex k=>cases ht
   |_=>cases h
def F6(P:alu)(t:acs):Prop:=∀k v,plainCell P P.depth t k=some v→nL v
theorem aH.Gi{a a':alA}(ha:bE f a a'){t:acs}(ht:F6 P t):aH P F C (aA F) f (do ads (amM (some ⟨←alZ (.view a t),0,none⟩))) (do ads (amM (some ⟨←alZ (.view a' t),0,none⟩))):=by
 obtain⟨b,hb,rfl⟩:=ha;exact .bind (.newObj (.view hb ht)) λg r r' _ hr=> .pure' (.ptr (a:=⟨r,0,none⟩) hr)
theorem aH.cellsIn{r r':Nat}(hr:f r=some r'):aH P F C (λ_ a a'=>a=a') f (ao5 r) (ao5 r'):=by
 unfold ao5;refine .bind (.shape hr) λg s s' hle hs=>?_;subst hs;cases s with
 |some s=>exact .pure' rfl
 |none=>
  refine .bind (.getObj (hle _ _ hr)) λg2 o o' _ ho=>?_;cases ho.1<;>exact .pure' rfl
theorem aH.seenAt{a a':alA}(ha:bE f a a'):aH P F C bE f (apn a) (apn a'):=by
 unfold apn;have ho:a'.off=a.off∧a'.spot=a.spot:=by obtain⟨b,_,rfl⟩:=ha;exact⟨rfl,rfl⟩
 have hv:aH P F C (λg a a'=>(a=none∧a'=none)∨∃x x' u,a=some (x,u)∧a'=some (x',u)∧bE g x x') f (amQ a.block) (amQ a'.block):=by
  obtain⟨b,hb,rfl⟩:=ha;exact .viewAt hb
 refine .bind hv λg s s' hle hs=>?_;rcases hs with⟨rfl,rfl⟩|⟨x,x',u,rfl,rfl,hx⟩
 ·exact .pure' (ha.mono hle)
 have hx2:x'.off=x.off∧x'.spot=x.spot:=by obtain⟨b,_,rfl⟩:=hx;exact⟨rfl,rfl⟩
 dsimp only;rw[ho.1,ho.2,hx2.1,hx2.2];split
 ·exact .pure' hx
 split
 ·exact .never (.aO (.halt _))
 refine .bind .program λg2 p p' h2 hp=>?_;obtain⟨rfl,rfl⟩:=hp;cases byteOfCell P P.depth u a.off with
 |none=>exact .halt
 |some B=>
  dsimp only;refine .bind (.ud (hx.mono h2)) λg3 s s' h3 hs=>?_;subst hs;cases s with
  |none=>exact .halt
  |some s=>
   obtain⟨e,cells⟩:=s;dsimp only;split
   ·exact .never (.aO (.halt _))
   cases cellAtBytes P P.depth e (cells/P.cellsOf e) x.off B with
   |none=>exact .halt
   |some c=>
    obtain⟨b,hb,rfl⟩:=hx;exact .pure' ⟨b,h3 _ _ (h2 _ _ hb),rfl⟩
theorem aH.UO{s t:acs}{e:acs}(hs:P.underlying s=some (.pointer e))(ht:P.underlying t=some .unsafePointer)(hv:F6 P e){x x':aad}(hx:aA F f x x'):aH P F C (aA F) f (aoH s t x) (aoH s t x'):=by
 unfold aoH;refine .bind (.underlying s) λg d d' hle hd=>?_;obtain⟨rfl,hd⟩:=hd;rw[hs]at hd;obtain rfl:=alN hd;refine .bind (.underlying t) λg2 d d' cC hd=>?_;obtain⟨rfl,hd⟩:=hd;rw[ht]at hd;obtain rfl:=alN hd;replace hx:=(hx.mono hle).mono cC;cases hx<;>first|exact .halt|exact .pure' .ptrN|skip
 rename_i a b hb;dsimp only;refine .bind (.seenAt ⟨b,hb,rfl⟩) λg3 q q' h3 hq=>?_;have pj:q'.off=q.off∧q'.spot=q.spot:=by obtain⟨b,_,rfl⟩:=hq;exact⟨rfl,rfl⟩
 have hc:aH P F C (λ_ a a'=>a=a') g3 (ao5 q.block) (ao5 q'.block):=by
  obtain⟨b,hb,rfl⟩:=hq;exact .cellsIn hb
 refine .bind hc λg4 n n' h4 hn=>?_;subst hn;rw[pj.1,pj.2]
 have rest: ∀z:Bool,aH P F C (aA F) g4 (do
   if(←sizeOf e)=0||z then ads (.pointer (some ⟨←alZ (.view q e),0,none⟩))else ads (.pointer (some q))) (do
   if(←sizeOf e)=0||z then ads (.pointer (some ⟨←alZ (.view q' e),0,none⟩))else ads (.pointer (some q'))):=by
  intro z;refine .bind (.still (bO e)) λg5 m m' h5 hm=>?_;subst hm;split
  ·exact .Gi ((hq.mono h4).mono h5) hv
  ·exact .pure' (.BB ((hq.mono h4).mono h5))
 cases n with
 |none=>exact rest false
 |some n=>exact rest _
theorem aH.MV{s t:acs}{e:acs}(hs:P.underlying s=some .unsafePointer)(ht:P.underlying t=some (.pointer e))(hv:F6 P e){x x':aad}(hx:aA F f x x'):aH P F C (aA F) f (aoH s t x) (aoH s t x'):=by
 unfold aoH;refine .bind (.underlying s) λg d d' hle hd=>?_;obtain⟨rfl,hd⟩:=hd;rw[hs]at hd;obtain rfl:=alN hd;refine .bind (.underlying t) λg2 d d' cC hd=>?_;obtain⟨rfl,hd⟩:=hd;rw[ht]at hd;obtain rfl:=alN hd;replace hx:=(hx.mono hle).mono cC;cases hx<;>first|exact .halt|exact .pure' .ptrN|skip
 rename_i a b hb;dsimp only;refine .bind (.seenAt ⟨b,hb,rfl⟩) λg3 q q' h3 hq=>?_
 have back: ∀ {g5:Ren},g3.le g5→aH P F C (aA F) g5 (do
   match←alX q.block with
   |some (e,_)=>
    if(←alw).holdsStoodIn (←alw).depth e then unsupported (.unsafePointer "memory that holds a struct of a package that the model stands in for, seen as another type")
   |none=>unsupported (.unsafePointer "memory that has no shape (a package-level variable that still waits for its initialiser), seen as another type")
   ads (.pointer (some ⟨←alZ (.view q e),0,none⟩))) (do
   match←alX q'.block with
   |some (e,_)=>
    if(←alw).holdsStoodIn (←alw).depth e then unsupported (.unsafePointer "memory that holds a struct of a package that the model stands in for, seen as another type")
   |none=>unsupported (.unsafePointer "memory that has no shape (a package-level variable that still waits for its initialiser), seen as another type")
   ads (.pointer (some ⟨←alZ (.view q' e),0,none⟩))):=by
  intro g5 h5;refine .bind (.ud (hq.mono h5)) λg6 z z' h6 hz=>?_;subst hz;cases z with
  |none=>exact .never (.aO (.halt _))
  |some z=>
   obtain⟨ty,n⟩:=z;dsimp only;refine .bind .program λg7 p p' h7 hp=>?_;obtain⟨rfl,rfl⟩:=hp;refine .bind .program λg8 p p' h8 hp=>?_;obtain⟨rfl,rfl⟩:=hp;split
   ·exact .never (.aO (.halt _))
   ·exact .Gi ((((hq.mono h5).mono h6).mono h7).mono h8) hv
 refine .bind (.still (bO e)) λg4 m m' h4 hm=>?_;subst hm;refine .bind (.variablesAt (hq.mono h4) e 1) λg5 z z' h5 hz=>?_;subst hz;split
 ·exact .pure' (.BB ((hq.mono h4).mono h5))
 ·exact back (Ren.le_trans h4 h5)
theorem aH.I7{A:Ren→α→α'→Prop}{s:alP α}{s':alP α'}(h: ∀w,vH P.globals.size w→∀es,∃q ft,s.runT P w es=(.halt q w,ft)∧Ar q):aH P F C A f s s':=by
 refine⟨λw w' es es' hw a w1 ft hr=>?_,λw w' es hw=>⟨λq w1 ft hr=>?_,λa w1 ft hr=>?_⟩⟩<;>obtain⟨q,DY,h1,h2⟩:=h w hw.big.1 es<;>rw[h1]at hr
 ·cases hr
 ·cases hr;exact⟨h2,hw.clean⟩
 ·cases hr
theorem EI{g:Nat}(hg:g<P.globals.size){w:aly}(hw:vH P.globals.size w)(es:Array amp):(Go.load ⟨g,0,none⟩).runT P w es=(.halt (.stuck "load: no such cell") w,es):=by
 have h:=hw g hg;simp only[Go.load,aab,World.cell?,World.farLoad,World.noCell,h,jo]
theorem aH.Wc{A:Ren→aad→aad→Prop}{t:acs}{g:Nat}(hg:g<P.globals.size)(ht:P.underlying t=some (.int .i64)){s':alP aad}:aH P F C A f (amZ t (.pointer (some ⟨g,0,none⟩))) s':=by
 refine .I7 λw hw es=>⟨.stuck "load: no such cell",es,?_,alF⟩;unfold amZ Instr.sureAddr Go.loadVar Go.isAgg Go.underlying;simp only[runT_bind',alw,ads,aab,ht,amA,if_false];exact EI hg hw es
theorem aH.elemOf(t:acs):aH P F C (λ_ a a'=>a=a'∧P.underlying t=some (.pointer a)) f (apb t) (apb t):=by
 unfold apb;refine .bind (.underlying t) λg d d' _ hd=>?_;obtain⟨rfl,hd⟩:=hd;cases d<;>first|exact .halt|exact .pure' ⟨rfl,hd⟩
theorem aH.unsafeSliceData{ts:Array acs}{t:acs}(ht: ∀e,P.underlying t=some (.pointer e)→F6 P e){x x':Array aad}(hx:RelA F f x x'):aH P F C (aA F) f (ape ts t x) (ape ts t x'):=by
 obtain⟨l⟩:=x;obtain⟨l'⟩:=x';unfold RelA at hx;dsimp only at hx;cases hx with
 |nil=>exact .halt
 |cons h1 tl=>
  cases tl with
  |cons _ _=>cases h1<;>exact .halt
  |nil=>
   cases h1<;>first|exact .halt|exact .pure' .ptrN|skip
   rename_i a b n c hb
   show aH P F C (aA F) f (do
    if c≠0 then ads (amM (some a))
    else if(←amQ a.block).isSome then ads (.pointer (some a))
    else ads (.pointer (some ⟨←alZ (.view a (←apb t)),0,none⟩))) (do
    if c≠0 then ads (amM (some {a with block:=b}))
    else if(←amQ b).isSome then ads (.pointer (some {a with block:=b}))
    else ads (.pointer (some ⟨←alZ (.view {a with block:=b} (←apb t)),0,none⟩)))
   by_cases hc:c≠0
   ·simp only[if_pos hc];exact .pure' (.ptr hb)
   simp only[if_neg hc];refine .bind (.viewAt hb) λg s s' hle hs=>?_;rcases hs with⟨rfl,rfl⟩|⟨x,x',u,rfl,rfl,hx⟩
   ·simp only[Option.isSome_none,amA,if_false];refine .bind (.elemOf t) λg2 e e' h2 he=>?_;obtain⟨rfl,he⟩:=he;exact .Gi ⟨_,h2 _ _ (hle _ _ hb),rfl⟩ (ht e he)
   ·simp only[Option.isSome_some,if_true];exact .pure' (.ptr (hle _ _ hb))
theorem aH.ZO{x x':Array aad}(hx:RelA F f x x'):aH P F C (aA F) f (ao1 x) (ao1 x'):=by
 obtain⟨l⟩:=x;obtain⟨l'⟩:=x';unfold RelA at hx;dsimp only at hx;cases hx with
 |nil=>exact .halt
 |cons h1 tl=>
  cases tl with
  |nil=>exact .pure' h1
  |cons _ _=>exact .halt
theorem aH.xJ: ∀ (n:Nat) (acc:ByteArray) {f:Ren} {a a':alA},bE f a a'→aH P F C (λ_ x x'=>x=x') f (aoQ a n acc) (aoQ a' n acc)
 |0,acc,f,a,a',_=> .pure' rfl
 |n+1,acc,f,a,a',ha=>by
  unfold aoQ;refine .bind (.load ha) λg v v' hle hv=>?_;cases hv with
  |int k b=>cases k<;>first|exact .halt|exact aH.xJ n _ ((ha.mono hle).add 1)
  |_=>exact .halt
theorem aH.bytesOf{x x':aad}(hx:aA F f x x'):aH P F C (λ_ a a'=>a=a') f (aoT x) (aoT x'):=by
 unfold aoT;cases hx<;>first|exact .halt|exact .pure' rfl|skip
 rename_i hb;exact .xJ _ _ ⟨_,hb,rfl⟩
theorem aH.asByte{x x':aad}(hx:aA F f x x'):aH P F C (λ_ a a'=>a=a') f (aoV x) (aoV x'):=by
 unfold aoV;cases hx<;>first|exact .halt|skip
 rename_i k n;cases k<;>first|exact .halt|exact .pure' rfl
theorem aH.M0{x x':Array aad}(hx:RelA F f x x'):aH P F C (aA F) f (aoJ x) (aoJ x'):=by
 obtain⟨l⟩:=x;obtain⟨l'⟩:=x';unfold RelA at hx;dsimp only at hx;cases hx with
 |nil=>exact .halt
 |cons h1 tl=>
  cases tl with
  |nil=>exact .halt
  |cons h2 tl=>
   cases tl with
   |cons _ _=>exact .halt
   |nil=>
    unfold aoJ;refine .bind (.bytesOf h1) λg s s' hle hs=>?_;subst hs;refine .bind (.bytesOf (h2.mono hle)) λg2 u u' _ hu=>?_;subst hu;exact .pure' (.int _ _)
theorem aH.GP{x x':Array aad}(hx:RelA F f x x'):aH P F C (aA F) f (aoG x) (aoG x'):=by
 obtain⟨l⟩:=x;obtain⟨l'⟩:=x';unfold RelA at hx;dsimp only at hx;cases hx with
 |nil=>exact .halt
 |cons h1 tl=>
  cases tl with
  |nil=>exact .halt
  |cons h2 tl=>
   cases tl with
   |cons _ _=>exact .halt
   |nil=>
    unfold aoG;refine .bind (.bytesOf h1) λg s s' hle hs=>?_;subst hs;refine .bind (.asByte (h2.mono hle)) λg2 u u' _ hu=>?_;subst hu;split<;>exact .pure' (.int _ _)
theorem aH.V_{x x':Array aad}(hx:RelA F f x x'):aH P F C (aA F) f (aoL x) (aoL x'):=by
 obtain⟨l⟩:=x;obtain⟨l'⟩:=x';unfold RelA at hx;dsimp only at hx;cases hx with
 |nil=>exact .halt
 |cons h1 tl=>
  cases tl with
  |nil=>exact .halt
  |cons h2 tl=>
   cases tl with
   |cons _ _=>exact .halt
   |nil=>
    unfold aoL;refine .bind (.bytesOf h1) λg s s' hle hs=>?_;subst hs;refine .bind (.bytesOf (h2.mono hle)) λg2 u u' _ hu=>?_;subst hu;refine .bind (A:=λ_ a a'=>a=a') (.I7 λw hw es=>?_) λg3 m m' _ hm=>?_
    ·unfold apq Go.globalAddr;simp only[runT_bind',alw,aab];cases hg:P.globals.findIdx? (·.name== "internal/bytealg.MaxLen")with
     |none=>exact⟨_,es,rfl,alF⟩
     |some g=>
      dsimp only[ads,aab];rw[EI (by have:=Array.findIdx?_eq_some_iff_getElem.1 hg;exact this.1) hw es];exact⟨_,es,rfl,alF⟩
    subst hm;by_cases c1:(decide (u.size<2)||decide ((u.size:Int) >m))=true
    ·simp only[if_pos c1];exact .never (.aO (.halt _))
    simp only[if_neg c1];by_cases c2:s.size≥2^32- 15
    ·simp only[if_pos c2];exact .never (.aO (.halt _))
    simp only[if_neg c2];split<;>exact .pure' (.int _ _)
theorem CQ: ∀ (n t:Nat) {acc:Array aad},RelA F f acc acc→RelA F f (aoP n t acc) (aoP n t acc)
 |0,_,_,h=>h
 |n+1,_,_,h=>CQ n _ (h.push (.int _ _))
theorem aH.DF(ps rs:Array acs){x x':Array aad}(hx:RelA F f x x'):aH P F C (aA F) f (aoD ps rs x) (aoD ps rs x'):=by
 obtain⟨l⟩:=x;obtain⟨l'⟩:=x';unfold RelA at hx;dsimp only at hx;cases hx with
 |nil=>exact .halt
 |cons h1 tl=>
  cases tl with
  |cons _ _=>cases h1<;>first|exact .halt|(rename_i k n;cases k<;>exact .halt)
  |nil=>
   cases h1<;>first|exact .halt|skip
   rename_i k n;cases k<;>first|exact .halt|skip
   unfold aoD;dsimp only;cases rs[0]? with
   |none=>exact .halt
   |some t=>
    dsimp only;refine .bind (.underlying t) λg d d' hle hd=>?_;obtain⟨rfl,hd⟩:=hd;cases d<;>first|exact .halt|skip
    dsimp only;split
    ·exact .never (.aO (aL _))
    refine .bind .choose λg2 c c' _ hc=>?_;subst hc;refine .bind (.askRoom _) λg3 _ _ _ _=>?_;refine .bind .choose λg4 y y' _ hy=>?_;subst hy;exact .bind (.newRow _ (CQ _ _ .empty)) λ_ _ _ _ ha=> .pure' (.lO ha _ _)
end
theorem CW{info:acs→Option apc}{fs:Array Field}{i:apc}(h:apo info fs=some i):i.methods= #[]:=by
 unfold apo at h;simp only[bind,aoC,ads]at h;obtain⟨_,_,h⟩:=h;split at h<;>(cases h;rfl)
theorem CZ{info:acs→Option apc}{d:TypeDesc}{i:apc}(h:apw info d=some i):i.methods= #[]:=by
 unfold apw at h;cases d<;>simp only[bind,aoC,ads,apx,reduceCtorEq]at h
 ·obtain⟨a,_,h⟩:=h;split at h
  ·cases h
  ·split at h
   ·cases h
   ·obtain⟨_,_,h⟩:=aoC.1 h;cases h;rfl
  ·obtain⟨_,_,h⟩:=aoC.1 h;cases h;rfl
 ·obtain⟨a,_,_,_,rfl⟩:=h;rfl
 ·obtain⟨a,_,_,_,rfl⟩:=h;rfl
 ·obtain⟨a,_,_,_,_,_,_,_,rfl⟩:=h;rfl
 ·obtain⟨a,_,_,_,rfl⟩:=h;rfl
 ·exact CW h
 ·obtain⟨_,_,rfl⟩:=h;rfl
theorem GM(T:Tables): ∀ (n:Nat) (t:acs) (i:apc),¬t<T.types.size→apm T n t=some i→i.methods= #[]
 |0,_,_,_,h=>by cases h
 |n+1,t,i,ht,h=>by
  unfold apm at h;rw[if_neg ht]at h;obtain⟨d,_,h⟩:=aoC.1 h;exact CZ h
def FT(P:alu)(F:alB→Bool)(name:String):Bool:=
 P.types.all λi=>match i.methods.find? (·.name==name)with
  |some m=>m.path.isEmpty&&(match m.func with|some (g,true)=>F g|_=>false)
  |none=>true
section
variable{α α' β β':Type}{P:alu}{F:alB→Bool}{C:amq→Bool}{f:Ren}{w w':aly}
theorem JX{name:String}(h:FT P F name=true){t:acs}{i:apc}(hi:P.info? t=some i):
  i.methods.find? (·.name==name)=none∨∃m g,i.methods.find? (·.name==name)=some m∧m.path= #[]∧m.func=some (g,true)∧F g=true:=by
 by_cases ht:t<P.types.size
 ·have hi':P.types[t]? =some i:=by
   have:P.info? t=P.types[t]? :=if_pos ht;rw[←this];exact hi
  have:=(al0.1 h) i (by exact Array.mem_of_getElem? hi');cases hf:i.methods.find? (·.name==name)with
  |none=>exact .inl rfl
  |some m=>
   rw[hf]at this;simp only[anh]at this;obtain⟨h1,h2⟩:=this;right;cases hm:m.func with
   |none=>rw[hm]at h2;cases h2
   |some q=>
    obtain⟨g,b⟩:=q;rw[hm]at h2;cases b with
    |false=>cases h2
    |true=>exact⟨m,g,rfl,by simpa using h1,hm,h2⟩
 ·have:P.info? t=apm P.toTables Made.depth t:=if_neg ht;rw[this]at hi;rw[GM _ _ _ _ ht hi];exact .inl rfl
theorem aH.method{name:String}(h:FT P F name=true)(n:Nat)(t:acs){v v':aad}(hv:aA F f v v'):
  aH P F C (λg r r'=>∃fn x x',r=(fn,x)∧r'=(fn,x')∧F fn=true∧aA F g x x') f (apu (n+1) t v name) (apu (n+1) t v' name):=by
 unfold apu;refine .bind (.typeInfo t) λg i i' hle hi=>?_;obtain⟨rfl,hi⟩:=hi;rcases JX h hi with hn|⟨m,fn,h1,h2,h3,h4⟩
 ·rw[hn];exact .halt
 ·rw[h1];dsimp only;rw[h2,h3];unfold Go.follow;refine .bind (.pure' (A:=λg (r r':acs×Place)=>∃x x',r=(t,.val x)∧r'=(t,.val x')∧aA F g x x') ⟨_,_,rfl,rfl,hv.mono hle⟩) λg2 r r' h5 hr=>?_;obtain⟨x,x',rfl,rfl,hx⟩:=hr;dsimp only;refine .bind (A:=aA F) ?_ λg3 y y' _ hy=> .pure' ⟨fn,_,_,rfl,rfl,h4,hy⟩;unfold Go.receiverAt;refine .bind (.underlying t) λg4 d d' h6 hd=>?_;obtain⟨rfl,hd⟩:=hd;cases d<;>first|exact .halt|exact .pure' (hx.mono h6)
end
def more(P:alu)(F:alB→Bool)(o:apy):Bool:=
 match o.op with
 | .load t (.global g)=>decide (g<P.globals.size)&&(match P.underlying t with|some (.int .i64)=>true|_=>false)
 | .makeSlice t l c=>bP F l&&bP F c&&qX P t
 | .convert s t x=>bP F x&&(match P.underlying s,P.underlying t with|some (.pointer e),some .unsafePointer=>vJ P P.depth e|some .unsafePointer,some (.pointer e)=>vJ P P.depth e|_,_=>false)
 | .call {callee:= .invoke recv name,args,..}=>bP F recv&&args.all (bP F)&&FT P F name
 | .call {callee:= .builtin .unsafeString,args,..}=>args.all (bP F)
 | .call {callee:= .builtin .unsafeSliceData,args,..}=>args.all (bP F)&&(match P.underlying o.type with|some (.pointer e)=>vJ P P.depth e|_=>false)
 |_=>false
def mM(P:alu)(F:alB→Bool)(o:apy):Bool:=qd P F o.op||more P F o
section
variable{α α' β β':Type}{P:alu}{F:alB→Bool}{C:amq→Bool}{f:Ren}{w w':aly}
theorem qB{ρ ρ':ang→aad}(h:zC F f ρ ρ'){args:Array ang}(ha:args.all (bP F)=true):RelA F f (args.map ρ) (args.map ρ'):=
 Cf λx hx=>h x ((al0.1 ha) x hx)
theorem aH.callMethod(hf:Fits P F C){name:String}(hm:FT P F name=true){x x':aad}(hx:aA F f x x'){a a':Array aad}(ha:RelA F f a a'):aH P F C (qh F C) f (aoU x name a) (aoU x' name a'):=by
 unfold aoU;cases hx<;>first|exact .halt|exact .never (aL _)|skip
 rename_i t v v' hv;dsimp only;refine .bind .program λg p p' hle hp=>?_;obtain⟨rfl,rfl⟩:=hp;refine .bind (.method hm (P.types.size+99) t (hv.mono hle)) λg2 r r' h2 hr=>?_;obtain⟨fn,y,y',rfl,rfl,hF,hy⟩:=hr;exact .callFunc hf hF ((RelA.one hy).append ((ha.mono hle).mono h2))
theorem aH.V'(hf:Fits P F C){o:apy}(ho:more P F o=true){ρ ρ':ang→aad}(h:zC F f ρ ρ')(hρ: ∀g,ρ (.global g)= .pointer (some ⟨g,0,none⟩)):aH P F C (qh F C) f (aom ρ o) (aom ρ' o):=by
 have v: ∀ {s s':alP aad},aH P F C (aA F) f s s'→aH P F C (qh F C) f (do ads (anO (←s))) (do ads (anO (←s'))):=
  λhs=> .bind hs λ_ _ _ _ hx=> .pure' (.value hx)
 obtain⟨dst,op,ty,pos,after,guard⟩:=o;unfold more at ho;dsimp only at ho;unfold aom;split at ho
 ·rename_i t g;simp only[anh,decide_eq_true_eq]at ho;obtain⟨h1,h2⟩:=ho;dsimp only;rw[hρ];refine v (.Wc h1 ?_);split at h2
  ·assumption
  ·cases h2
 ·simp only[anh]at ho;exact v (.makeSlice (pD ho.2) (h _ ho.1.1) (h _ ho.1.2))
 ·rename_i s t x;simp only[anh]at ho;obtain⟨h1,h2⟩:=ho;refine v ?_;have hx:=h _ h1;unfold Go.convert;refine .bind (.underlying s) λg d d' hle hd=>?_;obtain⟨rfl,hd⟩:=hd;refine .bind (.underlying t) λg2 e e' cC he=>?_;obtain⟨rfl,he⟩:=he;replace hx:=(hx.mono hle).mono cC;rw[hd,he]at h2;split at h2
  ·rename_i e1 h3 h4;cases h3;cases h4;have:=aH.UO (C:=C) (f:=g2) hd he (lj _ _ h2) hx;generalize ρ x=a at hx this;generalize ρ' x=a' at hx this;cases hx<;>exact this
  ·rename_i e1 h3 h4;cases h3;cases h4;have:=aH.MV (C:=C) (f:=g2) hd he (lj _ _ h2) hx;generalize ρ x=a at hx this;generalize ρ' x=a' at hx this;cases hx<;>exact this
  ·cases h2
 ·rename_i rv name args ats;simp only[anh]at ho;obtain⟨⟨h1,h2⟩,h3⟩:=ho
  show aH P F C (qh F C) f (do
   let some x:=(#[ρ rv]++args.map ρ)[0]? |stuck "call: a method without a receiver"
   aoU x name ((#[ρ rv]++args.map ρ).extract 1 (#[ρ rv]++args.map ρ).size)) (do
   let some x:=(#[ρ' rv]++args.map ρ')[0]? |stuck "call: a method without a receiver"
   aoU x name ((#[ρ' rv]++args.map ρ').extract 1 (#[ρ' rv]++args.map ρ').size))
  have e1: ∀ (x:aad) (a:Array aad),(#[x]++a)[0]? =some x:=λx a=>by rw[←Array.getElem?_toList,Array.toList_append];rfl
  have e2: ∀ (x:aad) (a:Array aad),(#[x]++a).extract 1 (#[x]++a).size=a:=λx a=>by
   obtain⟨l⟩:=a;apply Array.ext';simp
  rw[e1,e1,e2,e2];exact .callMethod hf h3 (h _ h1) (qB h h2)
 ·rename_i args ats;exact v (.unsafeString ats ty (qB h ho))
 ·rename_i args ats;simp only[anh]at ho;refine v (.unsafeSliceData (λe he=>?_) (qB h ho.1));rw[he]at ho;exact lj _ _ ho.2
 ·cases ho
theorem aH.O4(hf:Fits P F C){o:apy}(ho:mM P F o=true){ρ ρ':ang→aad}(h:zC F f ρ ρ')(hρ: ∀g,ρ (.global g)= .pointer (some ⟨g,0,none⟩)):aH P F C (qh F C) f (aom ρ o) (aom ρ' o):=
 (Bool.or_eq_true _ _▸ho:qd P F o.op=true∨more P F o=true).elim (λh1=> .execOp hf h1 h) λh1=> .V' hf h1 h hρ
end
def bD(P:alu)(F:alB→Bool):amq→Bool
 | .skip| .label _| .ret| .exit _| .refuse _=>true
 | .region _ ops _=>ops.all λo=>mM P F o
 | .seq a b=>bD P F a&&bD P F b
 | .cond c a b=>bP F c&&(bD P F a&&bD P F b)
 | .block _ b| .loop b| .scope b=>bD P F b
 | .rangeFunc f _ a b=>bP F f&&(bD P F a&&bD P F b)
 | .goto _=>false
inductive Ao(P:alu)(F:alB→Bool)(f:Ren):api→api→Prop
 |code {c:amq} (h:bD P F c=true):Ao P F f (.code c) (.code c)
 |inBlock (id:Nat):Ao P F f (.inBlock id) (.inBlock id)
 |inLoop {b:amq} (h:bD P F b=true):Ao P F f (.inLoop b) (.inLoop b)
 |inScope (b:amq):Ao P F f (.inScope b) (.inScope b)
 |inRegion {ops:Array apy} (todo:List Nat) (h: ∀o∈ops,mM P F o=true):Ao P F f (.inRegion ops todo) (.inRegion ops todo)
 |inRangeFunc {l b:Nat} (h:f l=some b):Ao P F f (.inRangeFunc l) (.inRangeFunc b)
 |endRangeFunc {l b:Nat} (h:f l=some b):Ao P F f (.endRangeFunc l) (.endRangeFunc b)
 |beginRound:Ao P F f .beginRound .beginRound
inductive sj(P:alu)(F:alB→Bool)(f:Ren):List api→List api→Prop
 |nil:sj P F f [] []
 |cons {i i':api} {l l':List api} (h:Ao P F f i i') (t:sj P F f l l'):sj P F f (i::l) (i'::l')
structure d_(P:alu)(F:alB→Bool)(f:Ren)(fr fr':aoz):Prop where
 fn:fr'.fn=fr.fn
 ok:F fr.fn=true
 tmps:RelA F f fr.tmps fr'.tmps
 todo:sj P F f fr.todo fr'.todo
 defers:sV f fr.defers fr'.defers
 mode:fr'.mode=fr.mode
 calm:fr.mode= .run∨fr.mode= .returning
 kind:fr.kind= .normal∧fr'.kind= .normal
 round:(fr.roundOf=none∧fr'.roundOf=none)∨∃l l',fr.roundOf=some l∧fr'.roundOf=some l'∧f l=some l'
inductive iJ(P:alu)(F:alB→Bool)(f:Ren)(b0 base:List aoz):aoz→List aoz→aoz→List aoz→Prop
 |last {fr fr':aoz} (h:d_ P F f fr fr') (hn:fr.roundOf=none):iJ P F f b0 base fr b0 fr' base
 |more {fr fr' c c':aoz} {cs cs':List aoz} (h:d_ P F f fr fr') (t:iJ P F f b0 base c cs c' cs'):iJ P F f b0 base fr (c::cs) fr' (c'::cs')
section
variable{P:alu}{F:alB→Bool}{f g:Ren}
theorem Ao.mono(hle:f.le g){i i':api}(h:Ao P F f i i'):Ao P F g i i':=by
 cases h with
 |code h=>exact .code h
 |inBlock id=>exact .inBlock id
 |inLoop h=>exact .inLoop h
 |inScope b=>exact .inScope b
 |inRegion t h=>exact .inRegion t h
 |inRangeFunc h=>exact .inRangeFunc (hle _ _ h)
 |endRangeFunc h=>exact .endRangeFunc (hle _ _ h)
 |beginRound=>exact .beginRound
theorem sj.mono(hle:f.le g): ∀ {l l':List api},sj P F f l l'→sj P F g l l'
 |_,_,.nil=> .nil
 |_,_,.cons h t=> .cons (h.mono hle) (sj.mono hle t)
theorem sj.exitTo(id:Nat): ∀ {l l':List api},sj P F f l l'→(ao2 id l=none∧ao2 id l'=none)∨∃k k',ao2 id l=some k∧ao2 id l'=some k'∧sj P F f k k'
 |_,_,.nil=> .inl ⟨rfl,rfl⟩
 |_,_,.cons h t=>by
  have ih:=sj.exitTo id t;cases h with
  |inBlock id'=>
   simp only[ao2];by_cases hi:(id'==id)=true
   ·rw[if_pos hi,if_pos hi];exact .inr ⟨_,_,rfl,rfl,t⟩
   ·rw[if_neg hi,if_neg hi];exact ih
  |_=>simpa only[ao2]using ih
theorem d_.mono(hle:f.le g){fr fr':aoz}(h:d_ P F f fr fr'):d_ P F g fr fr' where
 fn:=h.fn
 ok:=h.ok
 tmps:=h.tmps.mono hle
 todo:=h.todo.mono hle
 defers:=h.defers.mono hle
 mode:=h.mode
 calm:=h.calm
 kind:=h.kind
 round:=h.round.elim .inl λ⟨l,l',a,b,c⟩=> .inr ⟨l,l',a,b,hle _ _ c⟩
theorem iJ.mono(hle:f.le g){b0 base:List aoz}: ∀ {fr fr':aoz} {cs cs':List aoz},iJ P F f b0 base fr cs fr' cs'→iJ P F g b0 base fr cs fr' cs'
 |_,_,_,_,.last h hn=> .last (h.mono hle) hn
 |_,_,_,_,.more h t=> .more (h.mono hle) (iJ.mono hle t)
theorem iJ.top{b0 base:List aoz}{fr fr':aoz}{cs cs':List aoz}(h:iJ P F f b0 base fr cs fr' cs'):d_ P F f fr fr':=by cases h<;>assumption
theorem iJ.swap{b0 base:List aoz}{fr fr' fr1 aet:aoz}{cs cs':List aoz}(h:iJ P F f b0 base fr cs fr' cs')(h1:d_ P F f fr1 aet)(hr:fr1.roundOf=fr.roundOf):iJ P F f b0 base fr1 cs aet cs':=by
 cases h with
 |last _ hn=>exact .last h1 (hr.trans hn)
 |more _ t=>exact .more h1 t
theorem aA.undef:aA F f apE apE:= .tuple .nil
theorem d_.eval{fr fr':aoz}(h:d_ P F f fr fr'):zC F f fr.eval fr'.eval:=by
 intro x hx;cases x with
 |tmp t=>exact h.tmps.getD t .undef
 |const v=>exact ln hx f
 |global g=>simp[bP]at hx
 |func g=>exact .fn hx .nil .nil
theorem d_.finish{fr fr':aoz}(h:d_ P F f fr fr'){v v':aad}(hv:aA F f v v'):d_ P F f (fr.finish v) (fr'.finish v'):=by
 obtain⟨fn,tmps,todo,defers,mode,kind,round⟩:=fr;obtain⟨fn',akm,akl,ahh,ako,akp,round'⟩:=fr';have ht:=h.todo
 dsimp only at ht;cases ht with
 |nil=>exact h
 |cons hi t=>
  cases hi with
  |inRegion rest ho=>
   cases rest with
   |nil=>exact h
   |cons i rest=>
    refine{h with tmps:=?_,todo:= .cons (.inRegion rest ho) t};show RelA F f (match(_:Option Tmp)with|some d=>_|none=>_) (match(_:Option Tmp)with|some d=>_|none=>_);split
    ·exact h.tmps.set _ hv
    ·exact h.tmps
  |inRangeFunc hl=>exact{h with todo:= .cons (.endRangeFunc hl) t}
  |beginRound=>exact{h with todo:=t}
  |_=>exact h
theorem B_(p:alu)(fn:alB)(es:Array amp)(e:amp)(h:e∈seen p fn es):e∈es:=by
 have key: ∀ (l:List amp) (q:Bool×Array amp),(∀e∈q.2,e∈es)→(∀e∈l,e∈es)→∀e∈(l.foldl (λ(x:Bool×Array amp) e=>match e.loc with| .mark (.extern f)=>((p.funcs[f]?).any (·.norace),x.2)|_=>(x.1,if x.1&& !e.sync then x.2 else x.2.push e)) q).2,e∈es:=by
  intro l
  induction l with
  |nil=>intro q hq _ e he;exact hq e he
  |cons a l ih=>
   intro q hq hl;simp only[List.foldl_cons];refine ih _ ?_ (λe he=>hl e (ao0 _ he));intro e he;split at he
   ·exact hq e he
   ·dsimp only at he;split at he
    ·exact hq e he
    ·rcases Array.mem_push.1 he with he|rfl
     ·exact hq e he
     ·exact hl _ (ao3 ..)
 refine key es.toList ((p.funcs[fn]?).any (·.norace),#[]) bz (λe he=>by simpa using he) e ?_;unfold seen at h;dsimp only at h;rw[←Array.foldl_toList]at h;exact h
theorem RelA.afY{a a':Array aad}(h:RelA F f a a'):aA F f (if h:a.size=1 then a[0]else .tuple a) (if h:a'.size=1 then a'[0]else .tuple a'):=by
 have hs:=h.size;by_cases h1:a.size=1
 ·rw[dif_pos h1,dif_pos (hs▸h1)];obtain⟨v',h2,h3⟩:=h.get 0 a[0] bz;have:a'[0]'aj=v':=by
   have:=ad3.1 h2;exact this.2
  rw[this];exact h3
 ·rw[dif_neg h1,dif_neg (hs▸h1)];exact .tuple h
variable{C:amq→Bool}
theorem aH.Il{γ:Type}{s s':γ→alP aad}: ∀ (l:List γ) (f:Ren),(∀x,x∈l→∀g,f.le g→aH P F C (aA F) g (s x) (s' x))→aH P F C (cz F) f (l.mapM s) (l.mapM s')
 | [],f,_=>by simpa using aH.pure' (A:=cz F) .nil
 |a::l,f,h=>by
  simp only[List.mapM_cons];refine .bind (h a (ao3 ..) f f.le_refl) λg x x' hg hx=>?_;refine .bind (aH.Il l g λy hy g2 h2=>h y (ao0 _ hy) g2 (Ren.le_trans hg h2)) λg2 y y' h2 hy=>?_;exact .pure' (.cons (hx.mono h2) hy)
theorem aH.results(fn:Func){t t':Array aad}(h:RelA F f t t'):aH P F C (aA F) f (apr fn t) (apr fn t'):=by
 unfold apr;refine .bind (A:=RelA F) ?_ λg a a' _ ha=> .pure' ha.afY;simp only[Array.mapM_eq_mapM_toList];rw[←bind_pure_comp,←bind_pure_comp];refine .bind (.Il _ f λx _ g hg=>?_) λg a a' _ ha=> .pure' (by unfold RelA;simpa using ha);cases x with
 |tmp i=>exact .pure' ((h.mono hg).getD i .undef)
 |cell a ty=>
  exact .bind (.asAddr ((h.mono hg).getD a .undef)) λg2 b b' _ hb=> .loadVar ty hb
theorem aH.runtimePanic{α α':Type}{A:Ren→α→α'→Prop}{e:apB}{s':alP α'}:aH P F C A f (runtimePanic e:alP α) s':= .never (aL _)
theorem aH.enterLoop{fn:alB}(hF:F fn=true){t t':Array aad}(ht:RelA F f t t')(params:Array Tmp){a b:amq}(ca:C a=true)(cb:C b=true){r r':Option Nat}
  (hr:(r=none∧r'=none)∨∃l l',r=some l∧r'=some l'∧f l=some l'):
  aH P F C (λg x x'=>g x.1=some x'.1∧sV g x.2 x'.2) f (apa fn t params a b r) (apa fn t' params a b r'):=by
 unfold apa;have last: ∀ (g:Ren) (d d':Nat) (m m':List amI),f.le g→g d=some d'→sV g m m'→
   aH P F C (λg x x'=>g x.1=some x'.1∧sV g x.2 x'.2) g (do ads (←alZ (.loop {state:= .ready,pending:=none,fn,tmps:=t,params,assign:=a,body:=b,defers:=d}),m))
    (do ads (←alZ (.loop {state:= .ready,pending:=none,fn,tmps:=t',params,assign:=a,body:=b,defers:=d'}),m')):=by
  intro g d d' m m' hg hd hm;refine .bind (.newObj (.loop (l:={state:= .ready,pending:=none,fn,tmps:=t,params,assign:=a,body:=b,defers:=d}) (l':={state:= .ready,pending:=none,fn,tmps:=t',params,assign:=a,body:=b,defers:=d'}) rfl rfl rfl hF (ht.mono hg) rfl rfl rfl hd ca cb bz)) λg2 x x' h2 hx=>?_;exact .pure' ⟨hx,hm.mono h2⟩
 rcases hr with⟨rfl,rfl⟩|⟨l,l',rfl,rfl,hl⟩
 ·dsimp only;refine .bind (.newObj .P6) λg d d' hg hd=>?_;exact last g d d' _ _ hg hd (.cons hd .nil)
 ·dsimp only;refine .bind (.getLoop hl) λg x x' hg hx=>?_;cases hx with
  |loop a b c d e k l m n p q r=>exact last g _ _ [] [] hg n .nil
theorem aH.beginRound{l l':Nat}(hl:f l=some l'):aH P F C (λ_ _ _=>True) f (aoE l) (aoE l'):=by
 unfold aoE;refine .bind (.getLoop hl) λg r r' hg hr=>?_;cases hr with
 |loop hs hp hfn hF ht qJ ha hb hd ca cb cp=>
  refine .bind (.setObj (hg _ _ hl) (.loop rfl hp hfn hF ht qJ ha hb hd ca cb cp)) λg2 _ _ h2 _=>?_;rw[hs];cases r.state<;>first|exact .pure' trivial|exact .runtimePanic
theorem aH.endRound{l l':Nat}(hl:f l=some l'){j:Option amq}(hj: ∀c,j=some c→C c=true):aH P F C (aA F) f (aoZ l j) (aoZ l' j):=by
 unfold aoZ;refine .bind (.getLoop hl) λg r r' hg hr=>?_;cases hr with
 |loop hs hp hfn hF ht qJ ha hb hd ca cb cp=>
  refine .bind (.setObj (hg _ _ hl) (.loop rfl rfl hfn hF ht qJ ha hb hd ca cb hj)) λg2 _ _ h2 _=>?_;exact .pure' (.bool _)
theorem aH.endLoop{l l':Nat}(hl:f l=some l'):aH P F C (λ_ a a'=>a=a'∧∀c,a=some c→C c=true) f (aph l) (aph l'):=by
 unfold aph;refine .bind (.getLoop hl) λg r r' hg hr=>?_;cases hr with
 |loop hs hp hfn hF ht qJ ha hb hd ca cb cp=>
  rw[hs];by_cases hc:(r.state== .busy)=true
  ·simp only[hc,if_true];exact .never (.aO (aL _))
  ·simp only[if_neg hc];refine .bind (.setObj (hg _ _ hl) (.loop rfl hp hfn hF ht qJ ha hb hd ca cb cp)) λg2 _ _ h2 _=>?_;exact .pure' ⟨hp.symm,cp⟩
theorem aH.takeDeferred{b b':Nat}(hb:f b=some b'):aH P F C (λ_ a a'=>a= []∧a'= []) f (aoF b) (aoF b'):=by
 unfold aoF;refine .bind (.getObj hb) λg o o' hg ho=>?_;cases ho.1 with
 |P6=>
  refine .bind (.setObj (hg _ _ hb) .Tn) λg2 _ _ h2 _=>?_;exact .pure' ⟨rfl,rfl⟩
 |_=>exact .halt
end
structure Held(P:alu)(F:alB→Bool):Prop where
 fits:Fits P F (bD P F)
 body: ∀g x c,F g=true→P.funcs[g]? =some x→x.body=some c→bD P F c=true
 init: ∀g,F g=true→P.inits.idxOf? g=none
def Marks(f:Ren)(ds:List amI):Prop:=∀d∈ds,∃r b,d={target:= .collected r,args:= #[]}∧f r=some b
inductive pV(f:Ren)(b0:List aoz):aoz→List aoz→Prop
 |last {fr:aoz} (h:Marks f fr.defers):pV f b0 fr b0
 |more {fr c:aoz} {cs:List aoz} (h:Marks f fr.defers) (t:pV f b0 c cs):pV f b0 fr (c::cs)
structure acp(f:Ren)(b0:List aoz)(fr:aoz)(cs:List aoz)(w:aly):Prop where
 mode: ∃ch,fr.mode= .panicking ch
 clean:Clean f w
 st:pV f b0 fr cs
inductive tZ(P:alu)(F:alB→Bool)(b0 base:List aoz)(f:Ren)(w w':aly)(K:aly→apd)(s':apd):Prop
 |calm {g:Ren} {fr fr':aoz} {cs cs':List aoz} {w1 mV:aly} {es es':Array amp}
   (hK:K w= .go {frame:=fr,callers:=cs,status:= .running,dying:=none} w1 es)
   (hs:s'= .go {frame:=fr',callers:=cs',status:= .running,dying:=none} mV es')
   (hw:h_ P F (bD P F) g w1 mV) (hm:mO f g w' mV) (hst:iJ P F g b0 base fr cs fr' cs') (Fb: ∀e∈es',vG g e)
   (hd:w.drawn≤w1.drawn) (ht:w1.tape=w.tape)
   (hl: ∀T:Nat→am6→Nat,(∀j,w.drawn≤j→j<w1.drawn→T j=w.tape j)→K {w with tape:=T}= .go {frame:=fr,callers:=cs,status:= .running,dying:=none} {w1 with tape:=T} es):tZ P F b0 base f w w' K s'
 |Tj {g:Ren} {fr:aoz} {cs:List aoz} {w1:aly} {es:Array amp} (hK:K w= .go {frame:=fr,callers:=cs,status:= .running,dying:=none} w1 es) (hg:acp g b0 fr cs w1):tZ P F b0 base f w w' K s'
 |ended {o:apC} {w1:aly} {es:Array amp} (hK:K w= .ended o w1 es):tZ P F b0 base f w w' K s'
section
variable{α α':Type}{P:alu}{F:alB→Bool}{f g:Ren}{b0 base:List aoz}{w w':aly}
theorem rK: ∀ {l l':List amI},sV f l l'→Marks f l
 |_,_,.nil=>by intro d hd;simp at hd
 |_,_,.cons h t=>by
  intro d hd;rcases List.mem_cons.1 hd with rfl|hd
  ·exact⟨_,_,rfl,h⟩
  ·exact rK t d hd
theorem jU: ∀ {fr fr':aoz} {cs cs':List aoz},iJ P F f b0 base fr cs fr' cs'→pV f b0 fr cs
 |_,_,_,_,.last h _=> .last (rK h.defers)
 |_,_,_,_,.more h t=> .more (rK h.defers) (jU t)
theorem pV.swap{fr fr1:aoz}{cs:List aoz}(h:pV f b0 fr cs)(hd:Marks f fr1.defers):pV f b0 fr1 cs:=by
 cases h with
 |last _=>exact .last hd
 |more _ t=>exact .more hd t
theorem pV.top{fr:aoz}{cs:List aoz}(h:pV f b0 fr cs):Marks f fr.defers:=by cases h<;>assumption
theorem tZ.plain{fr fr':aoz}{cs cs':List aoz}{K:aly→apd}{s':apd}(hw:h_ P F (bD P F) f w w')
  (hK: ∀w,K w= .go {frame:=fr,callers:=cs,status:= .running,dying:=none} w #[])
  (hs:s'= .go {frame:=fr',callers:=cs',status:= .running,dying:=none} w' #[]) (hst:iJ P F f b0 base fr cs fr' cs'):tZ P F b0 base f w w' K s':=
 .calm (hK w) hs hw (.refl _ _) hst bz (agl _) rfl λ_ _=>hK _
theorem tZ.run{A:Ren→α→α'→Prop}{s:alP α}{s':alP α'}(hs:aH P F (bD P F) A f s s')(hw:h_ P F (bD P F) f w w'){K:aly→apd}{S':apd}
  (fn fn':alB) (k:α→aly→apd) (kh:Halt→aly→apd) (k':α'→aly→apd)
  (h1: ∀w a w1 es,(∃g a',A g a a')→s.runT P w #[]=(.ok a w1,es)→K w=aoS (seen P fn es) (k a w1))
  (h2: ∀w h w1 es,s.runT P w #[]=(.halt h w1,es)→Ar h→∃es',K w=aoS es' (kh h w1))
  (h3: ∀a w1 es,(∃g a0,A g a0 a)→s'.runT P w' #[]=(.ok a w1,es)→S'=aoS (seen P fn' es) (k' a w1))
  (hk: ∀g a a' w1 mV,f.le g→A g a a'→h_ P F (bD P F) g w1 mV→tZ P F b0 base g w1 mV (k a) (k' a' mV))
  (hh: ∀h w1,Ar h→Clean f w1→(∃o w2 es,kh h w1= .ended o w2 es)∨∃fr cs es,kh h w1= .go {frame:=fr,callers:=cs,status:= .running,dying:=none} w1 es∧acp f b0 fr cs w1):
  tZ P F b0 base f w w' K S':=by
 generalize hr:s.runT P w #[]=r;obtain⟨r,es⟩:=r;cases r with
 |halt h w1=>
  obtain⟨d,c⟩:=(hs.2 _ _ _ hw).1 _ _ _ hr;obtain⟨es',hK⟩:=h2 _ _ _ _ hr d;rcases hh h w1 d c with⟨o,w2,DY,h4⟩|⟨fr,cs,DY,h4,hg⟩
  ·rw[h4]at hK;exact .ended hK
  ·rw[h4]at hK;exact .Tj hK hg
 |ok a w1=>
  obtain⟨g,a',mV,xs,i1,i2,i3,i4,i5⟩:=hs.1 w w' #[] #[] hw a w1 es hr;obtain⟨l1,l2,l3⟩:=(hs.2 _ _ _ hw).2 _ _ _ hr;have hK:=h1 _ _ _ _ ⟨_,_,i4⟩ hr;have hS:=h3 _ _ _ ⟨_,_,i4⟩ i1;cases hk g a a' w1 mV i3.le i4 i2 with
  |calm j1 j2 j3 j4 j5 j6 j7 j8 j9=>
   rw[j1]at hK;rw[j2]at hS;refine .calm hK hS j3 (i3.trans j4) j5 ?_ (al2 l1 j7) (j8.trans l2) λT hT=>?_
   ·intro e he;rcases Array.mem_append.1 he with he|he
    ·have:=B_ _ _ _ _ he;simp only[Array.empty_append]at this;exact(i5 e this).mono j4.le
    ·exact j6 e he
   ·rw[h1 _ _ _ _ ⟨_,_,i4⟩ (l3 T λj a b=>hT j a (amC b j7)),j9 T λj a b=>by rw[l2];exact hT j (al2 l1 a) b];rfl
  |Tj j1 j2=>rw[j1]at hK;exact .Tj hK j2
  |ended j1=>rw[j1]at hK;exact .ended hK
theorem d_.enter(H:Held P F){g:alB}(hg:F g=true){a a':Array aad}(h:RelA F f a a'):d_ P F f (ao7 P g a .normal) (ao7 P g a' .normal) where
 fn:=rfl
 ok:=hg
 tmps:=by
  show RelA F f (a++aps (_- a.size) undef) (a'++aps (_- a'.size) undef);rw[h.size];refine h.append ?_;unfold RelA;simp only[Array.toList_replicate];exact .replicate _ .undef
 todo:=by
  refine .cons (.code ?_) .nil;obtain⟨x,hx,_⟩:=H.fits.fn g hg;simp only[hx];cases hb:x.body with
  |none=>simp[bD,hb]
  |some c=>simpa[hb]using H.body g x c hg hx hb
 defers:= .nil
 mode:=rfl
 calm:= .inl rfl
 kind:=⟨rfl,rfl⟩
 round:= .inl ⟨rfl,rfl⟩
theorem d_.Y'{l l':Nat}(hl:f l=some l'){g:alB}(hg:F g=true){a a':Array aad}(h:RelA F f a a'){x y:amq}(cx:bD P F x=true)(cy:bD P F y=true):
  d_ P F f (apk l g a x y .normal) (apk l' g a' x y .normal) where
 fn:=rfl
 ok:=hg
 tmps:=h
 todo:= .cons (.code cx) (.cons .beginRound (.cons (.code cy) .nil))
 defers:= .nil
 mode:=rfl
 calm:= .inl rfl
 kind:=⟨rfl,rfl⟩
 round:= .inr ⟨_,_,rfl,rfl,hl⟩
theorem jI(fr:aoz)(v:aad):(fr.finish v).roundOf=fr.roundOf:=by
 unfold Frame.finish;split<;>rfl
theorem tZ.apply(H:Held P F)(hw:h_ P F (bD P F) f w w'){fr fr':aoz}{cs cs':List aoz}(hst:iJ P F f b0 base fr cs fr' cs')(hrun:fr.mode= .run){s s':alP Next}(hs:aH P F (bD P F) (qh F (bD P F)) f s s'):
  tZ P F b0 base f w w' (λw=>aoA P true fr cs none s w) (aoA P true fr' cs' none s' w'):=by
 have vx:(fr.kind==ao8)=false:=by rw[hst.top.kind.1];rfl
 have hk2:(fr'.kind==ao8)=false:=by rw[hst.top.kind.2];rfl
 have tk: ∀l l':List api,sj P F f l l'→(match l with| .call _ true _ _::_=>ao4|_=>ao6)= .normal∧(match l' with| .call _ true _ _::_=>ao4|_=>ao6)= .normal:=by
  intro l l' h;cases h with
  |nil=>exact⟨rfl,rfl⟩
  |cons h t=>cases h<;>exact⟨rfl,rfl⟩
 obtain⟨t1,t2⟩:=tk _ _ hst.top.todo
 let k (fr:aoz) (cs:List aoz) (n:Next) (w:aly):GStep:=match n with
  | .value v=> .go {frame:=fr.finish v,callers:=cs,status:= .running,dying:=none} w
  | .skip=> .go {frame:=fr.finish undef,callers:=cs,status:= .running,dying:=none} w
  | .enter g a=> .go {frame:=ao7 P g a .normal,callers:=fr::cs,status:= .running,dying:=none} w
  | .round l g a x y=> .go {frame:=apk l g a x y .normal,callers:=fr::cs,status:= .running,dying:=none} w
  |_=> .ended (.stuck "" "") w
 let kh (h:Halt) (w:aly):GStep:=match h with
  | .panic v=> .go {frame:=fr.raise [{v,recovered:=false}],callers:=cs,status:= .running,dying:=none} w
  | .unsupported u=> .ended (.unsupported u (fr.pos P)) w
  | .stuck s=> .ended (.stuck s (fr.pos P)) w
  |_=> .ended (.stuck "" "") w
 have app: ∀ (fr:aoz) (cs:List aoz) (s:alP Next) (w:aly) (n:Next) (w1:aly) (es:Array amp),(fr.kind==ao8)=false→(match fr.todo with| .call _ true _ _::_=>ao4|_=>ao6)= .normal→
   ((∃v,n= .value v)∨n= .skip∨(∃g a,n= .enter g a)∨∃l g a x y,n= .round l g a x y)→s.runT P w #[]=(.ok n w1,es)→aoA P true fr cs none s w=aoS (seen P fr.fn es) (k fr cs n w1):=by
  intro fr cs s w n w1 es hk ht hn hr;rcases hn with⟨v,rfl⟩|rfl|⟨g,a,rfl⟩|⟨l,g,a,x,y,rfl⟩
  ·simp only[aoA,hr,hk,amA,if_false,if_true,k]
  ·simp only[aoA,hr,hk,amA,if_false,if_true,k]
  ·simp only[aoA,hr,hk,amA,if_false,if_true,k];exact congrArg (λkd=>aoS (seen P fr.fn es) (.go {frame:=ao7 P g a kd,callers:=fr::cs,status:= .running,dying:=none} w1)) ht
  ·simp only[aoA,hr,hk,amA,if_false,if_true,k]
 refine tZ.run hs hw fr.fn fr'.fn (k fr cs) kh (k fr' cs') ?_ ?_ ?_ ?_ ?_
 ·intro w n w1 es ha hr;refine app fr cs s w n w1 es vx t1 ?_ hr;obtain⟨g,n',ha⟩:=ha;cases ha with
  |value _=>exact .inl ⟨_,rfl⟩
  |skip=>exact .inr (.inl rfl)
  |enter _ _=>exact .inr (.inr (.inl ⟨_,_,rfl⟩))
  |round _ _ _ _ _=>exact .inr (.inr (.inr ⟨_,_,_,_,_,rfl⟩))
 ·intro w h w1 es hr hd;cases h with
  |panic v=>exact⟨seen P fr.fn es,by simp only[aoA,hr,vx,amA,if_false,if_true,kh]⟩
  |stuck v=>exact⟨seen P fr.fn es,by simp only[aoA,hr,vx,amA,if_false,if_true,kh]⟩
  |unsupported u=>
   cases u with
   |initOrder g=>exact hd.elim
   |_=>exact⟨seen P fr.fn es,by simp only[aoA,hr,vx,amA,if_false,if_true,kh]⟩
  |_=>exact hd.elim
 ·intro n w1 es ha hr;refine app fr' cs' s' w' n w1 es hk2 t2 ?_ hr;obtain⟨g,n',ha⟩:=ha;cases ha with
  |value _=>exact .inl ⟨_,rfl⟩
  |skip=>exact .inr (.inl rfl)
  |enter _ _=>exact .inr (.inr (.inl ⟨_,_,rfl⟩))
  |round _ _ _ _ _=>exact .inr (.inr (.inr ⟨_,_,_,_,_,rfl⟩))
 ·intro g n n' w1 mV hle ha ik;have uH:=hst.mono hle;cases ha with
  |value hv=>exact .plain ik (λ_=>rfl) rfl (uH.swap (uH.top.finish hv) (jI _ _))
  |skip=>exact .plain ik (λ_=>rfl) rfl (uH.swap (uH.top.finish .undef) (jI _ _))
  |enter hg h=>exact .plain ik (λ_=>rfl) rfl (.more (.enter H hg h) uH)
  |round hl hg h cx cy=>exact .plain ik (λ_=>rfl) rfl (.more (.Y' hl hg h cx cy) uH)
 ·intro h w1 hd hc;cases h with
  |panic v=>
   refine .inr ⟨_,_,_,rfl,⟨⟨[{v,recovered:=false}],?_⟩,hc,?_⟩⟩
   ·unfold aoN;rw[hrun]
   ·refine(jU hst).swap ?_;have:(fr.raise [{v,recovered:=false}]).defers=fr.defers:=by unfold aoN;split<;>rfl
    rw[this];exact(jU hst).top
  |stuck v=>exact .inl ⟨_,_,_,rfl⟩
  |unsupported u=>exact .inl ⟨_,_,_,rfl⟩
  |_=>exact .inl ⟨_,_,_,rfl⟩
end
section
variable{mb:Bool}{α α':Type}{P:alu}{F:alB→Bool}{C:amq→Bool}{f g:Ren}{b0 base:List aoz}{w w':aly}
theorem aH.Ru(hf:Fits P F C){v v':aad}(hx:aA F f v v'){a a':Array aad}(qm:RelA F f a a'):
  aH P F C (qh F C) f (do let d←aox v a;invoke d.target d.args) (do let d←aox v' a';invoke d.target d.args):=by
 unfold aox;cases hx<;>first|exact .halt|exact .never (.bind (.pure _) λ_=>aL _)|skip
 ·rename_i g xs xs' cs cs' hg oY hcs;refine .bind (.pure' (A:=λg' (d d':amI)=>(∃cs cs',d.target= .fn (.func g) cs∧d'.target= .fn (.func g) cs'∧RelA F g' cs cs')∧RelA F g' d.args d'.args) ⟨⟨_,_,rfl,rfl,hcs⟩,RelA.append oY qm⟩) λg' d d' hle hd=>?_;obtain⟨⟨cs,cs',h1,h2,h4⟩,h3⟩:=hd;rw[h1,h2];exact .callFunc hf hg (h3.append h4)
 ·rename_i l b hl;refine .bind (.pure' (A:=λg' (d d':amI)=>(∃cs cs',d.target= .fn (.yield l) cs∧d'.target= .fn (.yield b) cs'∧g' l=some b)∧RelA F g' d.args d'.args) ⟨⟨_,_,rfl,rfl,hl⟩,by simpa using qm⟩) λg' d d' hle hd=>?_;obtain⟨⟨cs,cs',h1,h2,h4⟩,h3⟩:=hd;rw[h1,h2];exact .yield h4 h3
theorem sV.append: ∀ {l l' m m':List amI},sV f l l'→sV f m m'→sV f (l++m) (l'++m')
 |_,_,_,_,.nil,h=>h
 |_,_,_,_,.cons h t,i=> .cons h (sV.append t i)
theorem Jz{ops:Array apy}{t t':Array aad}(h:RelA F f t t')(j:Nat):yielded ops t' j=yielded ops t j:=by
 unfold yielded;cases(ops[j]?).bind (·.dst)with
 |none=>rfl
 |some d=>
  simp only[Option.bind_some];cases hd:t[d]? with
  |none=>rw[h.none d hd]
  |some v=>
   obtain⟨v',hv,hr⟩:=h.get d v hd;rw[hv];cases hr<;>rfl
def En:Option amq→Bool
 |none|some .ret=>true
 |_=>false
def lQ(P:alu)(main:Bool)(fr:aoz)(cs:List aoz)(jump:Option amq)(w:aly):GStep:=
 match fr.roundOf with
 |none=>if En jump=true then .go {frame:={fr with mode:= .returning},callers:=cs,status:= .running,dying:=none} w else .ended (.stuck "exit, goto: no such block or label" (fr.pos P)) w
 |some l=>
  let(r,es):=(aoZ l jump).runT P w #[]
  aoS (seen P fr.fn es) <|match r with
  | .ok v w=>doReturn P main fr cs none v w
  | .halt _ w=> .ended (.stuck "range over a function: no such loop" (fr.pos P)) w
theorem tZ.leave(hw:h_ P F (bD P F) f w w'){fr fr':aoz}{cs cs':List aoz}(hst:iJ P F f b0 base fr cs fr' cs'){jump:Option amq}(hj: ∀c,jump=some c→bD P F c=true):
  tZ P F b0 base f w w' (λw=>lQ P true fr cs jump w) (lQ P mb fr' cs' jump w'):=by
 rcases hst.top.round with⟨r1,r2⟩|⟨l,l',r1,r2,hl⟩
 ·by_cases hc:En jump=true
  ·refine .plain (fr:={fr with mode:= .returning}) (fr':={fr' with mode:= .returning}) (cs:=cs) (cs':=cs') hw (λw=>?_) ?_ (hst.swap ?_ rfl)
   ·unfold lQ;rw[r1];dsimp only;rw[if_pos hc]
   ·unfold lQ;rw[r2];dsimp only;rw[if_pos hc]
   ·exact{hst.top with mode:=rfl,calm:= .inr rfl}
  ·refine .ended (o:= .stuck "exit, goto: no such block or label" (fr.pos P)) (w1:=w) (es:= #[]) ?_;unfold lQ;rw[r1];dsimp only;rw[if_neg hc]
 ·cases hst with
  |last _ hn=>rw[r1]at hn;cases hn
  |more jg t=>
   rename_i c c' cs cs';refine tZ.run (aH.endRound (j:=jump) hl hj) hw fr.fn fr'.fn (λv w=>doReturn P true fr (c::cs) none v w) (λ_ w=> .ended (.stuck "range over a function: no such loop" (fr.pos P)) w) (λv w=>doReturn P mb fr' (c'::cs') none v w) ?_ ?_ ?_ ?_ ?_
   ·intro w v w1 es _ hr;unfold lQ;rw[r1];dsimp only;rw[hr]
   ·intro w h w1 es hr _;refine⟨seen P fr.fn es,?_⟩;unfold lQ;rw[r1];dsimp only;rw[hr]
   ·intro v w1 es _ hr;unfold lQ;rw[r2];dsimp only;rw[hr]
   ·intro g v v' w1 mV hle hv ik;refine .plain (fr:=c.finish v) (fr':=c'.finish v') (cs:=cs) (cs':=cs') ik (λw=>?_) ?_ ((t.mono hle).swap ((t.mono hle).top.finish hv) (jI _ _))
    ·unfold doReturn;rw[jg.kind.1]
    ·unfold doReturn;rw[jg.kind.2]
   ·intro h w1 _ _;exact .inl ⟨_,_,_,rfl⟩
theorem tZ.unwind(hw:h_ P F (bD P F) f w w'){fr fr':aoz}{cs cs':List aoz}(hst:iJ P F f b0 base fr cs fr' cs')(hm:fr.mode= .returning):
  (fr.defers= []∧fr'.defers= []∧cs=b0∧cs'=base)∨tZ P F b0 base f w w' (λw=>aoI P true fr cs none w) (aoI P mb fr' cs' none w'):=by
 have z6:fr'.mode= .returning:=hst.top.mode.trans hm;have hd:=hst.top.defers;generalize z_:fr.defers=ds at hd;generalize abE:fr'.defers=ds' at hd;cases hd with
 |cons hr t=>
  rename_i r b ds ds'
  refine .inr (tZ.run (aH.takeDeferred hr) hw fr.fn fr'.fn (λcalls w=> .go {frame:={fr with defers:=calls++ds},callers:=cs,status:= .running,dying:=none} w)
   (λ_ w=> .ended (.stuck "the deferred calls of a range-over-func loop have been taken" (fr.pos P)) w) (λcalls w=> .go {frame:={fr' with defers:=calls++ds'},callers:=cs',status:= .running,dying:=none} w) ?_ ?_ ?_ ?_ ?_)
  ·intro w v w1 es _ hr;unfold aoI;rw[z_];dsimp only;rw[hr]
  ·intro w h w1 es hr _;refine⟨seen P fr.fn es,?_⟩;unfold aoI;rw[z_];dsimp only;rw[hr]
  ·intro v w1 es _ hr;unfold aoI;rw[abE];dsimp only;rw[hr]
  ·intro g v v' w1 mV hle hv ik;obtain⟨rfl,rfl⟩:=hv;exact .plain ik (λw=>rfl) rfl ((hst.mono hle).swap { (hst.mono hle).top with defers:=t.mono hle} rfl)
  ·intro h w1 _ _;exact .inl ⟨_,_,_,rfl⟩
 |nil=>
  cases hst with
  |last _ _=>exact .inl ⟨rfl,rfl,rfl,rfl⟩
  |more jg t=>
   rename_i c c' cs cs';cases hx:P.funcs[fr.fn]? with
   |none=>
    refine .inr (.plain (fr:=c.finish (fr.tmps.getD 0 undef)) (fr':=c'.finish (fr'.tmps.getD 0 undef)) (cs:=cs) (cs':=cs') hw (λw=>?_) ?_ (t.swap (t.top.finish (jg.tmps.getD 0 .undef)) (jI _ _)))
    ·unfold aoI;rw[z_];dsimp only;rw[hm];dsimp only;rw[hx];dsimp only;unfold doReturn;rw[jg.kind.1]
    ·unfold aoI;rw[abE];dsimp only;rw[z6];dsimp only;rw[jg.fn,hx];dsimp only;unfold doReturn;rw[jg.kind.2]
   |some fn=>
    refine .inr (tZ.run (aH.results fn jg.tmps) hw fr.fn fr'.fn (λv w=>doReturn P true fr (c::cs) none v w)
     (λh w=>match h with| .stuck s=> .ended (.stuck s (fr.pos P)) w|_=> .ended (.stuck "return: the result variables cannot be read" (fr.pos P)) w) (λv w=>doReturn P mb fr' (c'::cs') none v w) ?_ ?_ ?_ ?_ ?_)
    ·intro w v w1 es _ hr;unfold aoI;rw[z_];dsimp only;rw[hm];dsimp only;rw[hx];dsimp only;rw[hr]
    ·intro w h w1 es hr _;refine⟨seen P fr.fn es,?_⟩;unfold aoI;rw[z_];dsimp only;rw[hm];dsimp only;rw[hx];dsimp only;rw[hr];cases h<;>rfl
    ·intro v w1 es _ hr;unfold aoI;rw[abE];dsimp only;rw[z6];dsimp only;rw[jg.fn,hx];dsimp only;rw[hr]
    ·intro g v v' w1 mV hle hv ik;refine .plain (fr:=c.finish v) (fr':=c'.finish v') (cs:=cs) (cs':=cs') ik (λw=>?_) ?_ ((t.mono hle).swap ((t.mono hle).top.finish hv) (jI _ _))
     ·unfold doReturn;rw[jg.kind.1]
     ·unfold doReturn;rw[jg.kind.2]
    ·intro h w1 _ _;cases h<;>exact .inl ⟨_,_,_,rfl⟩
end
section
variable{mb:Bool}{α α':Type}{P:alu}{F:alB→Bool}{f g:Ren}{b0 base:List aoz}{w w':aly}
theorem aaM(main:Bool)(fr:aoz)(cs:List aoz)(w:aly){jump:Option amq}(h:fr.todo= []∧jump=none∨(∃k,fr.todo= .code .ret::k∧jump=some .ret)∨∃id k,fr.todo= .code (.exit id)::k∧exitTo id k=none∧jump=some (.exit id)):
  aoy P main true fr cs none w=lQ P main fr cs jump w:=by
 rcases h with⟨h,rfl⟩|⟨k,h,rfl⟩|⟨id,k,h,he,rfl⟩
 ·unfold aoy lQ;rw[h];rfl
 ·unfold aoy lQ;rw[h];rfl
 ·unfold aoy lQ;rw[h];dsimp only;rw[he];rfl
theorem tZ.oper(H:Held P F)(hw:h_ P F (bD P F) f w w'){fr fr':aoz}{cs cs':List aoz}(hst:iJ P F f b0 base fr cs fr' cs')(hrun:fr.mode= .run){ops:Array apy}{i:Nat}{rest:List Nat}{k k':List api}
  (ht:fr.todo= .inRegion ops (i::rest)::k) (Kj:fr'.todo= .inRegion ops (i::rest)::k') (ho: ∀o∈ops,mM P F o=true):
  tZ P F b0 base f w w' (λw=>aoM P true fr cs none w) (aoM P true fr' cs' none w'):=by
 have e:fr.oper?=ops[i]? :=by unfold apv;rw[ht]
 have e':fr'.oper?=ops[i]? :=by unfold apv;rw[Kj]
 cases hi:ops[i]? with
 |none=>
  refine .ended (o:= .stuck "no operation here" (fr.pos P)) (w1:=w) (es:= #[]) ?_;unfold aoM;rw[e,hi]
 |some o=>
  have gH:=ho o (by have:=ad3.1 hi;obtain⟨h1,h2⟩:=this;rw[←h2];exact Array.getElem_mem h1);have key: ∀ (fr:aoz) (cs:List aoz) (w:aly),fr.oper?=ops[i]? →aoM P true fr cs none w=aoA P true fr cs none (execOp fr.eval o) w:=by
   intro fr cs w e;unfold aoM;rw[e,hi];dsimp only;split
   ·rename_i hop;unfold mM more at gH;rw[hop]at gH;simp[qd]at gH
   ·rfl
  have:=tZ.apply H hw hst hrun (aH.O4 H.fits gH hst.top.eval λ_=>rfl);have e3:(λw=>aoM P true fr cs none w)=λw=>aoA P true fr cs none (execOp fr.eval o) w:=funext λw=>key fr cs w e;rw[e3,key fr' cs' w' e'];exact this
theorem zK: ∀ {l l' m m':List api},sj P F f l l'→sj P F f m m'→sj P F f (l++m) (l'++m')
 |_,_,_,_,.nil,h=>h
 |_,_,_,_,.cons h t,i=> .cons h (zK t i)
theorem tZ.exec(H:Held P F)(hw:h_ P F (bD P F) f w w'){fr fr':aoz}{cs cs':List aoz}(hst:iJ P F f b0 base fr cs fr' cs')(hrun:fr.mode= .run):
  tZ P F b0 base f w w' (λw=>aoy P true true fr cs none w) (aoy P mb true fr' cs' none w'):=by
 have jg:=hst.top;have TI:=jg.todo
 have to: ∀ {k k':List api} {K:aly→apd} {S:apd},sj P F f k k'→(∀w,K w= .go {frame:={fr with todo:=k},callers:=cs,status:= .running,dying:=none} w #[])→
   S= .go {frame:={fr' with todo:=k'},callers:=cs',status:= .running,dying:=none} w' #[]→tZ P F b0 base f w w' K S:=by
  intro k k' K S hk h1 h2;exact .plain hw h1 h2 (hst.swap {jg with todo:=hk} rfl)
 have leave: ∀ {jump:Option amq},(∀c,jump=some c→bD P F c=true)→
   (fr.todo= []∧jump=none∨(∃k,fr.todo= .code .ret::k∧jump=some .ret)∨∃id k,fr.todo= .code (.exit id)::k∧exitTo id k=none∧jump=some (.exit id))→
   (fr'.todo= []∧jump=none∨(∃k,fr'.todo= .code .ret::k∧jump=some .ret)∨∃id k,fr'.todo= .code (.exit id)::k∧exitTo id k=none∧jump=some (.exit id))→
   tZ P F b0 base f w w' (λw=>aoy P true true fr cs none w) (aoy P mb true fr' cs' none w'):=by
  intro jump hj h1 h2;have e1:(λw=>aoy P true true fr cs none w)=λw=>lQ P true fr cs jump w:=funext λw=>aaM true fr cs w h1;rw[e1,aaM mb fr' cs' w' h2];exact .leave hw hst hj
 generalize hl:fr.todo=l at TI
 generalize hl':fr'.todo=l' at TI
 cases TI with
 |nil=>exact leave (jump:=none) bz (.inl ⟨hl,rfl⟩) (.inl ⟨hl',rfl⟩)
 |cons hi ht=>
  rename_i i i' k k';cases hi with
  |inBlock id=>exact to ht (λw=>by unfold aoy;rw[hl]) (by unfold aoy;rw[hl'])
  |inScope b=>exact to ht (λw=>by unfold aoy;rw[hl]) (by unfold aoy;rw[hl'])
  |inLoop hb=>exact to (.cons (.code hb) (.cons (.inLoop hb) ht)) (λw=>by unfold aoy;rw[hl]) (by unfold aoy;rw[hl'])
  |inRangeFunc _=>exact .ended (w1:=w) (es:= #[]) (by unfold aoy;rw[hl])
  |beginRound=>
   have:aH P F (bD P F) (qh F (bD P F)) f (do fr.roundOf.elim (stuck "beginRound: no round") aoE;ads aou) (do fr'.roundOf.elim (stuck "beginRound: no round") aoE;ads aou):=by
    rcases jg.round with⟨r1,r2⟩|⟨l,l',r1,r2,jy⟩
    ·rw[r1,r2];exact .bind (A:=λ_ _ _=>True) .halt λ_ _ _ _ _=> .pure' .skip
    ·rw[r1,r2];exact .bind (.beginRound jy) λ_ _ _ _ _=> .pure' .skip
   have e1:(λw=>aoy P true true fr cs none w)=λw=>aoA P true fr cs none (do fr.roundOf.elim (stuck "beginRound: no round") aoE;ads aou) w:=funext λw=>by
    unfold aoy;rw[hl]
   have e2:aoy P mb true fr' cs' none w'=aoA P true fr' cs' none (do fr'.roundOf.elim (stuck "beginRound: no round") aoE;ads aou) w':=by
    unfold aoy;rw[hl']
   rw[e1,e2];exact tZ.apply H hw hst hrun this
  |endRangeFunc jy=>
   refine tZ.run (aH.endLoop jy) hw fr.fn fr'.fn (λjump w=> .go {frame:={fr with todo:=(jump.map apz).toList++k},callers:=cs,status:= .running,dying:=none} w)
    (λh w=>match h with| .panic v=> .go {frame:=fr.raise [{v,recovered:=false}],callers:=cs,status:= .running,dying:=none} w|_=> .ended (.stuck "range over a function: no such loop" (fr.pos P)) w)
    (λjump w=> .go {frame:={fr' with todo:=(jump.map apz).toList++k'},callers:=cs',status:= .running,dying:=none} w) ?_ ?_ ?_ ?_ ?_
   ·intro w v w1 es _ hr;unfold aoy;rw[hl];dsimp only;rw[hr]
   ·intro w h w1 es hr _;refine⟨seen P fr.fn es,?_⟩;unfold aoy;rw[hl];dsimp only;rw[hr];cases h<;>rfl
   ·intro v w1 es _ hr;unfold aoy;rw[hl'];dsimp only;rw[hr]
   ·intro g v v' w1 mV hle hv ik;obtain⟨rfl,hc⟩:=hv;refine .plain ik (λ_=>rfl) rfl ((hst.mono hle).swap { (hst.mono hle).top with todo:=zK ?_ (ht.mono hle)} rfl);cases v with
    |none=>exact .nil
    |some c=>exact .cons (.code (hc c rfl)) .nil
   ·intro h w1 _ hc;cases h with
    |panic v=>
     refine .inr ⟨_,_,_,rfl,⟨⟨[{v,recovered:=false}],?_⟩,hc,?_⟩⟩
     ·unfold aoN;rw[hrun]
     ·refine(jU hst).swap ?_;have:(fr.raise [{v,recovered:=false}]).defers=fr.defers:=by unfold aoN;split<;>rfl
      rw[this];exact(jU hst).top
    |_=>exact .inl ⟨_,_,_,rfl⟩
  |inRegion todo ho=>
   rename_i ops;cases todo with
   |nil=>exact to ht (λw=>by unfold aoy;rw[hl]) (by unfold aoy;rw[hl'])
   |cons i rest=>
    have hy:yielded ops fr'.tmps=yielded ops fr.tmps:=funext λj=>Jz jg.tmps j;by_cases hc:((ops[i]?).map (Region.wanted · (yielded ops fr.tmps))).getD false=true
    ·have e1:(λw=>aoy P true true fr cs none w)=λw=>aoM P true fr cs none w:=funext λw=>by
      unfold aoy;rw[hl];dsimp only;rw[if_pos hc]
     have e2:aoy P mb true fr' cs' none w'=aoM P true fr' cs' none w':=by
      unfold aoy;rw[hl'];dsimp only;rw[hy,if_pos hc]
     rw[e1,e2];exact .oper H hw hst hrun hl hl' ho
    ·refine .plain hw (fr:=fr.finish undef) (fr':=fr'.finish undef) (cs:=cs) (cs':=cs') (λw=>?_) ?_ (hst.swap (jg.finish .undef) (jI _ _))
     ·unfold aoy;rw[hl];dsimp only;rw[if_neg hc]
     ·unfold aoy;rw[hl'];dsimp only;rw[hy,if_neg hc]
  |code hc=>
   rename_i c;cases c with
   |skip=>exact to ht (λw=>by unfold aoy;rw[hl]) (by unfold aoy;rw[hl'])
   |label l=>exact to ht (λw=>by unfold aoy;rw[hl]) (by unfold aoy;rw[hl'])
   |seq a b=>
    simp only[bD,anh]at hc;exact to (.cons (.code hc.1) (.cons (.code hc.2) ht)) (λw=>by unfold aoy;rw[hl]) (by unfold aoy;rw[hl'])
   |block id b=>
    simp only[bD]at hc;exact to (.cons (.code hc) (.cons (.inBlock id) ht)) (λw=>by unfold aoy;rw[hl]) (by unfold aoy;rw[hl'])
   |loop b=>
    simp only[bD]at hc;exact to (.cons (.code hc) (.cons (.inLoop hc) ht)) (λw=>by unfold aoy;rw[hl]) (by unfold aoy;rw[hl'])
   |scope b=>
    simp only[bD]at hc;exact to (.cons (.code hc) (.cons (.inScope b) ht)) (λw=>by unfold aoy;rw[hl]) (by unfold aoy;rw[hl'])
   |goto l=>simp[bD]at hc
   |refuse why=>exact .ended (w1:=w) (es:= #[]) (by unfold aoy;rw[hl])
   |ret=>exact leave (jump:=some .ret) (by rintro _ ⟨⟩;rfl) (.inr (.inl ⟨_,hl,rfl⟩)) (.inr (.inl ⟨_,hl',rfl⟩))
   |exit id=>
    rcases sj.exitTo id ht with⟨h1,h2⟩|⟨m,m',h1,h2,h3⟩
    ·exact leave (jump:=some (.exit id)) (by rintro _ ⟨⟩;rfl) (.inr (.inr ⟨_,_,hl,h1,rfl⟩)) (.inr (.inr ⟨_,_,hl',h2,rfl⟩))
    ·exact to h3 (λw=>by unfold aoy;rw[hl];dsimp only;rw[h1];rfl) (by unfold aoy;rw[hl'];dsimp only;rw[h2];rfl)
   |cond c a b=>
    simp only[bD,anh]at hc;have hv:=jg.eval c hc.1;generalize hx:fr.eval c=x at hv;generalize kx:fr'.eval c=x' at hv;cases hv with
    |bool v=>
     refine to (k:= .code (if v then a else b)::k) (k':= .code (if v then a else b)::k') (.cons (.code ?_) ht) (λw=>by unfold aoy;rw[hl];dsimp only;rw[hx]) (by unfold aoy;rw[hl'];dsimp only;rw[kx]);cases v
     ·exact hc.2.2
     ·exact hc.2.1
    |_=>exact .ended (w1:=w) (es:= #[]) (by unfold aoy;rw[hl];dsimp only;rw[hx])
   |region id ops draw=>
    simp only[bD,al0]at hc;cases draw with
    |false=>exact to (.cons (.inRegion _ hc) ht) (λw=>by unfold aoy;rw[hl];rfl) (by unfold aoy;rw[hl'];rfl)
    |true=>
     have e1: ∀ (main:Bool) (fr:aoz) (cs:List aoz) (k:List api) (w:aly),fr.todo= .code (.region id ops true)::k→aoy P main true fr cs none w=
       .go {frame:={fr with todo:= .inRegion ops (Region.schedule (P.follows .mixedOrders) ops (w.tape w.drawn (.order fr.fn id)))::k},callers:=cs,status:= .running,dying:=none} {w with drawn:=w.drawn+1} #[]:=by
      intro main fr cs k w hl;unfold aoy;rw[hl];rfl
     have RR:=hw.tape 0 (.order fr.fn id);simp only[Nat.add_zero]at RR;refine .calm (g:=f) (e1 true fr cs k w hl) (e1 mb fr' cs' k' w' hl') ⟨hw.low,hw.big,hw.heap,hw.inj,λi q=>?_⟩ ⟨f.le_refl,rfl,rfl,rfl,agl _,λ_ _ _=>rfl,λ_ _ h=> .inl h,λb h1 h2=>absurd h1 (by simp at h2;omega)⟩ ?_ bz (Nat.le_succ _) rfl λT hT=>?_
     ·have:=hw.tape (i+1) q;simpa[Nat.add_assoc,Nat.add_comm 1 i]using this
     ·refine hst.swap {jg with todo:= .cons ?_ ht} rfl;rw[jg.fn,←RR];exact .inRegion _ hc
     ·dsimp only;rw[e1 true fr cs k _ hl];dsimp only;rw[hT w.drawn (agl _) (Nat.lt_succ_self _)]
   |rangeFunc fo params a b=>
    simp only[bD,anh]at hc;have res: ∀ (fr:aoz) (l:Nat),resolve fr.eval {callee:= .value fo,args:= #[.const (.func (.yield l) #[] #[])],argTypes:= #[]} 0=aox (fr.eval fo) #[.func (.yield l) #[] #[]]:=by
     intro fr l;unfold resolve;simp only[List.map_toArray,List.map_cons,List.map_nil];rfl
    refine tZ.run (aH.enterLoop (F:=F) (C:=bD P F) jg.ok jg.tmps params hc.2.1 hc.2.2 jg.round) hw fr.fn fr'.fn
     (λx w=>aoA P true {fr with todo:= .inRangeFunc x.1::k,defers:=x.2++fr.defers} cs none (do let d←aox (fr.eval fo) #[.func (.yield x.1) #[] #[]];invoke d.target d.args) w)
     (λ_ w=> .ended (.stuck "range over a function: no such loop" (fr.pos P)) w)
     (λx w=>aoA P true {fr' with todo:= .inRangeFunc x.1::k',defers:=x.2++fr'.defers} cs' none (do let d←aox (fr'.eval fo) #[.func (.yield x.1) #[] #[]];invoke d.target d.args) w) ?_ ?_ ?_ ?_ ?_
    ·intro w v w1 es _ hr;obtain⟨l,m⟩:=v;unfold aoy;rw[hl];dsimp only;rw[hr];dsimp only;rw[res];rfl
    ·intro w h w1 es hr _;refine⟨seen P fr.fn es,?_⟩;unfold aoy;rw[hl];dsimp only;rw[hr]
    ·intro v w1 es _ hr;obtain⟨l,m⟩:=v;unfold aoy;rw[hl'];dsimp only;rw[jg.fn,hr];dsimp only;rw[res];rfl
    ·intro g x x' w1 mV hle hx ik;have uH:=hst.mono hle;have h1:d_ P F g {fr with todo:= .inRangeFunc x.1::k,defers:=x.2++fr.defers} {fr' with todo:= .inRangeFunc x'.1::k',defers:=x'.2++fr'.defers}:=
      {uH.top with todo:= .cons (.inRangeFunc hx.1) (ht.mono hle),defers:=hx.2.append uH.top.defers}
     refine tZ.apply H ik (uH.swap h1 rfl) hrun ?_;exact .Ru H.fits (uH.top.eval fo hc.1) (.one (.yield hx.1))
    ·intro h w1 _ _;exact .inl ⟨_,_,_,rfl⟩
theorem tZ.step(H:Held P F)(hw:h_ P F (bD P F) f w w'){fr fr':aoz}{cs cs':List aoz}(hst:iJ P F f b0 base fr cs fr' cs'):
  (fr.mode= .returning∧fr.defers= []∧fr'.defers= []∧cs=b0∧cs'=base)∨
  tZ P F b0 base f w w' (λw=>stepG P true {frame:=fr,callers:=cs,status:= .running,dying:=none} w) (stepG P mb {frame:=fr',callers:=cs',status:= .running,dying:=none} w'):=by
 rcases hst.top.calm with hm|hm
 ·have e1:(λw=>stepG P true {frame:=fr,callers:=cs,status:= .running,dying:=none} w)=λw=>aoy P true true fr cs none w:=funext λw=>by
   unfold stepG;dsimp only;rw[hm]
  have e2:stepG P mb {frame:=fr',callers:=cs',status:= .running,dying:=none} w'=aoy P mb true fr' cs' none w':=by
   unfold stepG;dsimp only;rw[hst.top.mode,hm]
  rw[e1,e2];exact .inr (.exec H hw hst hm)
 ·have e1:(λw=>stepG P true {frame:=fr,callers:=cs,status:= .running,dying:=none} w)=λw=>aoI P true fr cs none w:=funext λw=>by
   unfold stepG;dsimp only;rw[hm]
  have e2:stepG P mb {frame:=fr',callers:=cs',status:= .running,dying:=none} w'=aoI P mb fr' cs' none w':=by
   unfold stepG;dsimp only;rw[hst.top.mode,hm]
  rw[e1,e2];rcases tZ.unwind hw hst hm with⟨h1,h2,h3,h4⟩|h
  ·exact .inl ⟨hm,h1,h2,h3,h4⟩
  ·exact .inr h
end
def wall:Frame:={fn:=0,tmps:= #[],todo:= [.code (.refuse "")],defers:= [{target:= .nil,args:= #[]}],mode:= .run,kind:= .normal}
def ax(w:aly)(T:Nat→am6→Nat):World:={w with tape:=T}
inductive LT(P:alu)(D:aoz→aly→Prop):aoz→List aoz→aly→Prop
 |done {fr:aoz} {w:aly} (h:D fr w):LT P D fr [wall] w
 |step {fr:aoz} {cs:List aoz} {w:aly}
   (h: ∀T:Nat→am6→Nat,∃fr1 cs1 w1 es,stepG P true {frame:=fr,callers:=cs,status:= .running,dying:=none} (ax w T)= .go {frame:=fr1,callers:=cs1,status:= .running,dying:=none} w1 es∧∀ch,fr1.mode≠ .panicking ch)
   (ht: ∀T fr1 cs1 w1 es,stepG P true {frame:=fr,callers:=cs,status:= .running,dying:=none} (ax w T)= .go {frame:=fr1,callers:=cs1,status:= .running,dying:=none} w1 es→LT P D fr1 cs1 w1):LT P D fr cs w
section
variable{P:alu}{F:alB→Bool}{f g:Ren}{w w':aly}
theorem qx{fr fr':aoz}{cs cs':List aoz}{w w':aly}(h:lone fr cs w=lone fr' cs' w'):fr=fr'∧cs=cs'∧w=w':=by
 simp only[lone,apA,apG,amr,apf]at h;exact⟨h.2.1.1.1,h.2.1.1.2.1,h.1⟩
theorem jE{fr fr':aoz}{cs cs':List aoz}{w w':aly}{es:Array amp}(h:stepG P true {frame:=fr,callers:=cs,status:= .running,dying:=none} w= .go {frame:=fr',callers:=cs',status:= .running,dying:=none} w' es):
  step P (lone fr cs w)= .next (lone fr' cs' w'):=step_lone_go (by rw[h];rfl)
theorem qy{fr:aoz}{cs:List aoz}{w w':aly}{o:apC}{es:Array amp}(h:stepG P true {frame:=fr,callers:=cs,status:= .running,dying:=none} w= .ended o w' es):
  step P (lone fr cs w)= .ended o w':=step_lone_ended (by rw[h];rfl)
def Reach(P:alu)(D:aoz→aly→Prop)(m:apD)(n:Nat):Prop:=∃fr w,runN P n m= .next (lone fr [wall] w)∧D fr w
theorem Reach.next{D:aoz→aly→Prop}{m m1:apD}{n:Nat}(h:Reach P D m (n+1))(hs:step P m= .next m1):Reach P D m1 n:=by
 obtain⟨fr,w,h1,h2⟩:=h;exact⟨fr,w,by simpa only[runN,hs]using h1,h2⟩
theorem Reach.ended{D:aoz→aly→Prop}{m:apD}{n:Nat}{o:apC}{w:aly}(h:Reach P D m (n+1))(hs:step P m= .ended o w):False:=by
 obtain⟨fr,w,h1,h2⟩:=h;simp[runN,hs]at h1
theorem Aw{b:Nat}{w w1:aly}{ds:List amI}{es:Array amp}(h:(aoF b).runT P w #[]=(.ok ds w1,es)):
  w.heap[b]? =some (.deferred (some ds))∧w1.heap=w.heap.setIfInBounds b (.deferred none):=by
 unfold aoF at h;rw[runT_bind']at h;simp only[Go.getObj,aab]at h;cases hb:w.heap[b]? with
 |none=>rw[hb]at h;simp at h
 |some o=>
  rw[hb]at h;cases o with
  |deferred d=>
   cases d with
   |none=>simp[alO]at h
   |some d=>
    dsimp only at h;rw[runT_bind']at h;simp only[Go.setObj,aab,hb,ads,ae,aB]at h;obtain⟨⟨rfl,rfl⟩,_⟩:=h;exact⟨rfl,rfl⟩
  |_=>first|(simp at h;done)|(simp[alO]at h;done)
theorem Qn(w:aly): ∃o w',step P (lone wall [] w)= .ended o w':=
 ⟨_,_,qy (es:= #[]) (by unfold stepG aoy wall;rfl)⟩
theorem Ay(ch:List PanicEntry)(w:aly): ∃o w',step P (lone (wall.raise ch) [] w)= .ended o w':=
 ⟨_,_,qy (es:= #[]) (by unfold stepG wall aoN unwind callDeferred;rfl)⟩
theorem v_{D:aoz→aly→Prop}(hD: ∀fr w,D fr w→fr.mode= .returning): ∀ (n:Nat) {fr:aoz} {cs:List aoz} {w:aly},acp f [wall] fr cs w→¬Reach P D (lone fr cs w) n
 |0,fr,cs,w,hg,hr=>by
  obtain⟨fr1,w1,h1,h2⟩:=hr;simp only[runN,aoB]at h1;obtain⟨rfl,_,_⟩:=qx h1;obtain⟨ch,hm⟩:=hg.mode;rw[hD _ _ h2]at hm;cases hm
 |n+1,fr,cs,w,hg,hr=>by
  obtain⟨ch,hm⟩:=hg.mode;have e0:stepG P true {frame:=fr,callers:=cs,status:= .running,dying:=none} w=unwind P true fr cs none w:=by
   unfold stepG;dsimp only;rw[hm]
  cases z_:fr.defers with
  |cons d ds=>
   have hmk:=hg.st.top;rw[z_]at hmk;obtain⟨r,b,rfl,Kk⟩:=hmk d (ao3 ..);generalize ht:(aoF r).runT P w #[]=x;obtain⟨x,es⟩:=x;cases x with
   |halt h w1=>
    exact hr.ended (qy (es:=seen P fr.fn es++ #[]) (o:= .stuck "the deferred calls of a range-over-func loop have been taken" (fr.pos P)) (w':=w1) (by
     rw[e0];unfold unwind;rw[z_];dsimp only;rw[ht];rfl))
   |ok calls w1=>
    obtain⟨h1,h2⟩:=Aw ht;have hc:=hg.clean r b Kk _ h1;subst hc
    refine v_ hD n (fr:={fr with defers:=ds}) (cs:=cs) (w:=w1) ⟨⟨ch,hm⟩,?_,?_⟩ (hr.next (jE (es:=seen P fr.fn es++ #[]) (by
     rw[e0];unfold unwind;rw[z_];dsimp only;rw[ht];rfl)))
    ·intro a b2 hab ds2 Dd;rw[h2]at Dd;by_cases hra:r=a
     ·subst hra;rw[Array.getElem?_setIfInBounds_self_of_lt (ad3.1 h1).1]at Dd;cases Dd
     ·rw[Array.getElem?_setIfInBounds_ne hra]at Dd;exact hg.clean a b2 hab ds2 Dd
    ·exact hg.st.swap λd hd=>hmk d (ao0 _ hd)
  |nil=>
   by_cases P3:fr.catches P=true
   ·exact hr.ended (qy (es:= #[]) (w':=w) (by rw[e0];unfold unwind;rw[z_];dsimp only;rw[hm];dsimp only;rw[if_pos P3]))
   ·have e1: ∀c rest,cs=c::rest→stepG P true {frame:=fr,callers:=cs,status:= .running,dying:=none} w= .go {frame:=c.raise ch,callers:=rest,status:= .running,dying:=none} w #[]:=by
     intro c rest hcs;rw[e0];unfold unwind;rw[z_];dsimp only;rw[hm];dsimp only;rw[if_neg P3,hcs]
    have hst:=hg.st;cases hst with
    |last _=>
     have h1:=hr.next (jE (e1 _ _ rfl));cases n with
     |zero=>
      obtain⟨fr1,w1,h2,_⟩:=h1;simp only[runN,aoB]at h2;exact absurd (qx h2).2.1 bz
     |succ n=>
      obtain⟨o,w',h2⟩:=Ay (P:=P) ch w;exact h1.ended h2
    |more _ t=>
     rename_i c rest _;refine v_ hD n (fr:=c.raise ch) (cs:=rest) (w:=w) ⟨?_,hg.clean,t.swap ?_⟩ (hr.next (jE (e1 _ _ rfl)))
     ·unfold aoN;split
      ·exact⟨_,rfl⟩
      ·exact⟨_,rfl⟩
     ·have:(c.raise ch).defers=c.defers:=by unfold aoN;split<;>rfl
      rw[this];exact t.top
theorem EF{D:aoz→aly→Prop}{fr:aoz}{w:aly}(hm:fr.mode= .returning)(z_:fr.defers= [])(hk:fr.kind= .normal)(hno: ¬D fr w): ∀n,¬Reach P D (lone fr [wall] w) n:=by
 intro n hr;cases n with
 |zero=>
  obtain⟨fr1,w1,h1,h2⟩:=hr;simp only[runN,aoB]at h1;obtain⟨rfl,_,rfl⟩:=qx h1;exact hno h2
 |succ n=>
  have e0:stepG P true {frame:=fr,callers:= [wall],status:= .running,dying:=none} w=unwind P true fr [wall] none w:=by
   unfold stepG;dsimp only;rw[hm]
  have ret: ∀ (w1:aly),Reach P D (lone wall [] w1) n→False:=by
   intro w1 h1;cases n with
   |zero=>
    obtain⟨fr1,w2,h2,_⟩:=h1;simp only[runN,aoB]at h2;exact absurd (qx h2).2.1 bz
   |succ n=>
    obtain⟨o,w',h2⟩:=Qn (P:=P) w1;exact h1.ended h2
  cases hx:P.funcs[fr.fn]? with
  |none=>
   exact ret w (hr.next (jE (es:= #[]) (by rw[e0];unfold unwind;rw[z_];dsimp only;rw[hm];dsimp only;rw[hx];dsimp only;unfold doReturn;rw[hk];rfl)))
  |some fn=>
   generalize hy:(results fn fr.tmps).runT P w #[]=y;obtain⟨y,es⟩:=y;cases y with
   |ok v w1=>
    exact ret w1 (hr.next (jE (es:=seen P fr.fn es++ #[]) (by rw[e0];unfold unwind;rw[z_];dsimp only;rw[hm];dsimp only;rw[hx];dsimp only;rw[hy];dsimp only;unfold doReturn;rw[hk];rfl)))
   |halt h w1=>
    have: ∃o,stepG P true {frame:=fr,callers:= [wall],status:= .running,dying:=none} w= .ended o w1 (seen P fr.fn es++ #[]):=by
     rw[e0];unfold unwind;rw[z_];dsimp only;rw[hm];dsimp only;rw[hx];dsimp only;rw[hy];cases h<;>exact⟨_,rfl⟩
    obtain⟨o,ho⟩:=this;exact hr.ended (qy ho)
end
structure St where
 fr:aoz
 cs:List aoz
 w:aly
def Good(P:alu)(F:alB→Bool)(S:St):Prop:=∃f fr' cs' w',h_ P F (bD P F) f S.w w'∧iJ P F f [wall] [] S.fr S.cs fr' cs'
def tK(P:alu)(D:aoz→aly→Prop)(S:St):Prop:=∀T:Nat→am6→Nat,(∀j,j<S.w.drawn→T j=S.w.tape j)→∃n,Reach P D (lone S.fr S.cs (ax S.w T)) n
section
variable{P:alu}{F:alB→Bool}{f g:Ren}{w w':aly}{D:aoz→aly→Prop}
theorem ED{fr:aoz}{cs:List aoz}{w:aly}(h:Good P F ⟨fr,cs,w⟩)(T:Nat→am6→Nat):Good P F ⟨fr,cs,ax w T⟩:=by
 obtain⟨f,fr',cs',w',hw,hst⟩:=h;refine⟨f,fr',cs',{w' with tape:=λj q=>T (w.drawn+(j- w'.drawn)) q},⟨hw.low,hw.big,hw.heap,hw.inj,λi q=>?_⟩,hst⟩;show T (w.drawn+i) q=T (w.drawn+(w'.drawn+i- w'.drawn)) q;rw[Nat.add_sub_cancel_left]
theorem LT.tape(hD: ∀fr w T,D fr w→D fr (ax w T)){fr:aoz}{cs:List aoz}{w:aly}(h:LT P D fr cs w)(T:Nat→am6→Nat):LT P D fr cs (ax w T):=by
 cases h with
 |done h=>exact .done (hD _ _ _ h)
 |step h ht=>exact .step (λT'=>h T') λT'=>ht T'
def Lr(T0:Nat→am6→Nat)(n:Nat)(T:Nat→am6→Nat):Nat→am6→Nat:=λj=>if j<n then T0 j else T j
theorem Wo(H:Held P F)(hD1: ∀fr w,D fr w→fr.mode= .returning)(hD2: ∀fr w T,D fr w→D fr (ax w T)){S:St}(hg:Good P F S)(ha:tK P D S)(hn: ¬LT P D S.fr S.cs S.w):
  ∃S':St,Good P F S'∧tK P D S'∧¬LT P D S'.fr S'.cs S'.w∧S.w.drawn≤S'.w.drawn∧(∀j,j<S.w.drawn→S'.w.tape j=S.w.tape j)∧
   ∀T:Nat→am6→Nat,(∀j,j<S'.w.drawn→T j=S'.w.tape j)→∃es,stepG P true {frame:=S.fr,callers:=S.cs,status:= .running,dying:=none} (ax S.w T)= .go {frame:=S'.fr,callers:=S'.cs,status:= .running,dying:=none} (ax S'.w T) es:=by
 obtain⟨fr,cs,w⟩:=S;dsimp only at*;have aba: ∀T,∀DX w0,lone fr cs (ax w T)=lone DX [wall] w0→¬D DX w0:=by
  intro T DX w0 he hd;obtain⟨rfl,rfl,rfl⟩:=qx he;exact hn (by have:=(LT.done (P:=P) (hD2 _ _ w.tape hd));exact this)
 have calm: ∀T:Nat→am6→Nat,(∀j,j<w.drawn→T j=w.tape j)→∃fr1 cs1 w1 es,stepG P true {frame:=fr,callers:=cs,status:= .running,dying:=none} (ax w T)= .go {frame:=fr1,callers:=cs1,status:= .running,dying:=none} w1 es∧
   (∀ch,fr1.mode≠ .panicking ch)∧Good P F ⟨fr1,cs1,w1⟩∧w.drawn≤w1.drawn∧w1.tape=T∧
   ∀T':Nat→am6→Nat,(∀j,w.drawn≤j→j<w1.drawn→T' j=T j)→stepG P true {frame:=fr,callers:=cs,status:= .running,dying:=none} (ax w T')= .go {frame:=fr1,callers:=cs1,status:= .running,dying:=none} (ax w1 T') es:=by
  intro T hT;obtain⟨n,hr⟩:=ha T hT;obtain⟨f,fr',cs',w',hw,hst⟩:=ED hg T;rcases tZ.step (mb:=false) H hw hst with⟨h1,h2,_,h3,_⟩|abD
  ·subst h3;exact absurd hr (EF h1 h2 hst.top.kind.1 (aba T fr _ rfl) n)
  ·cases n with
   |zero=>
    obtain⟨DX,w0,h1,h2⟩:=hr;simp only[runN,aoB]at h1;exact absurd h2 (aba T _ _ h1)
   |succ n=>
    cases abD with
    |calm hK hs ik hm uH Fb hd ht hl=>
     refine⟨_,_,_,_,hK,?_,⟨_,_,_,_,ik,uH⟩,hd,ht,λT' hT'=>hl T' hT'⟩;intro ch hch;rcases uH.top.calm with h|h<;>rw[h]at hch<;>cases hch
    |Tj hK hgr=>exact absurd (hr.next (jE hK)) (v_ hD1 n hgr)
    |ended hK=>exact(hr.ended (qy hK)).elim
 have aaQ: ∀T:Nat→am6→Nat,∃fr1 cs1 w1 es,stepG P true {frame:=fr,callers:=cs,status:= .running,dying:=none} (ax w T)= .go {frame:=fr1,callers:=cs1,status:= .running,dying:=none} (ax w1 T) es∧
   (∀ch,fr1.mode≠ .panicking ch)∧Good P F ⟨fr1,cs1,w1⟩∧w.drawn≤w1.drawn∧w1.tape=Lr w.tape w.drawn T∧
   ∀T':Nat→am6→Nat,(∀j,w.drawn≤j→j<w1.drawn→T' j=Lr w.tape w.drawn T j)→stepG P true {frame:=fr,callers:=cs,status:= .running,dying:=none} (ax w T')= .go {frame:=fr1,callers:=cs1,status:= .running,dying:=none} (ax w1 T') es:=by
  intro T;obtain⟨fr1,cs1,w1,es,h1,h2,h3,h4,h5,h6⟩:=calm (Lr w.tape w.drawn T) λj hj=>if_pos hj;exact⟨fr1,cs1,w1,es,h6 T λj hj _=>(if_neg aj).symm,h2,h3,h4,h5,h6⟩
 have: ∃T fr1 cs1 w1 es,stepG P true {frame:=fr,callers:=cs,status:= .running,dying:=none} (ax w T)= .go {frame:=fr1,callers:=cs1,status:= .running,dying:=none} w1 es∧¬LT P D fr1 cs1 w1:=by
  apply aoO;intro hno;refine hn (.step (λT=>?_) λT fr1 cs1 w1 es h=>?_)
  ·obtain⟨fr1,cs1,w1,es,h1,h2,_⟩:=aaQ T;exact⟨fr1,cs1,_,es,h1,h2⟩
  ·apply aoO;intro hlt;exact hno ⟨T,fr1,cs1,w1,es,h,hlt⟩
 obtain⟨T,fr1,cs1,w1,es,h1,hlt⟩:=this;obtain⟨fr2,cs2,w2,DY,i1,i2,i3,i4,i5,i6⟩:=aaQ T;rw[i1]at h1;simp only[apF,apf,and_true]at h1;obtain⟨⟨rfl,rfl⟩,rfl,_⟩:=h1;refine⟨⟨fr2,cs2,w2⟩,i3,?_,?_,i4,?_,?_⟩
 ·intro T' hT';have dK: ∀j,j<w.drawn→T' j=w.tape j:=λj hj=>by
   rw[hT' j (amC hj i4),i5];exact if_pos hj
  obtain⟨n,hr⟩:=ha T' dK;cases n with
  |zero=>
   obtain⟨DX,w0,h1,h2⟩:=hr;simp only[runN,aoB]at h1;exact absurd h2 (aba T' _ _ h1)
  |succ n=>exact⟨n,hr.next (jE (i6 T' λj _ hj=>by rw[hT' j hj,i5]))⟩
 ·intro h;exact hlt (h.tape hD2 T)
 ·intro j hj;dsimp only;rw[i5];exact if_pos hj
 ·intro T' hT';exact⟨DY,i6 T' λj _ hj=>by rw[hT' j hj,i5]⟩
theorem LT.Vm(H:Held P F)(hD1: ∀fr w,D fr w→fr.mode= .returning)(hD2: ∀fr w T,D fr w→D fr (ax w T)){S:St}(hg:Good P F S)(ha:tK P D S):LT P D S.fr S.cs S.w:=by
 apply aoO;intro hn
 let X:={S:St//Good P F S∧tK P D S∧¬LT P D S.fr S.cs S.w}
 have nx: ∀x:X,∃y:X,x.1.w.drawn≤y.1.w.drawn∧(∀j,j<x.1.w.drawn→y.1.w.tape j=x.1.w.tape j)∧
   ∀T:Nat→am6→Nat,(∀j,j<y.1.w.drawn→T j=y.1.w.tape j)→∃es,stepG P true {frame:=x.1.fr,callers:=x.1.cs,status:= .running,dying:=none} (ax x.1.w T)= .go {frame:=y.1.fr,callers:=y.1.cs,status:= .running,dying:=none} (ax y.1.w T) es:=by
  intro x;obtain⟨S',a,b,c,d⟩:=Wo H hD1 hD2 x.2.1 x.2.2.1 x.2.2.2;exact⟨⟨S',a,b,c⟩,d⟩
 let s:Nat→X:=λn=>Nat.rec ⟨S,hg,ha,hn⟩ (λ_ x=>apl (nx x)) n
 have hs: ∀n,(s n).1.w.drawn≤(s (n+1)).1.w.drawn∧(∀j,j<(s n).1.w.drawn→(s (n+1)).1.w.tape j=(s n).1.w.tape j)∧
   ∀T:Nat→am6→Nat,(∀j,j<(s (n+1)).1.w.drawn→T j=(s (n+1)).1.w.tape j)→∃es,stepG P true {frame:=(s n).1.fr,callers:=(s n).1.cs,status:= .running,dying:=none} (ax (s n).1.w T)= .go {frame:=(s (n+1)).1.fr,callers:=(s (n+1)).1.cs,status:= .running,dying:=none} (ax (s (n+1)).1.w T) es:=
  λn=>apg (nx (s n))
 have mono: ∀m k,(s m).1.w.drawn≤(s (m+k)).1.w.drawn∧∀j,j<(s m).1.w.drawn→(s (m+k)).1.w.tape j=(s m).1.w.tape j:=by
  intro m k
  induction k with
  |zero=>exact⟨agl _,λ_ _=>rfl⟩
  |succ k ih=>exact⟨al2 ih.1 (hs (m+k)).1,λj hj=>((hs (m+k)).2.1 j (amC hj ih.1)).trans (ih.2 j hj)⟩
 have same: ∀m k j,j<(s m).1.w.drawn→j<(s k).1.w.drawn→(s m).1.w.tape j=(s k).1.w.tape j:=by
  intro m k j h1 h2;rcases Nat.le_total m k with h|h
  ·obtain⟨d,rfl⟩:=apj h;exact((mono m d).2 j h1).symm
  ·obtain⟨d,rfl⟩:=apj h;exact(mono k d).2 j h2
 have: ∃T:Nat→am6→Nat,∀k j,j<(s k).1.w.drawn→T j=(s k).1.w.tape j:=by
  classical
  refine⟨λj=>if h: ∃k,j<(s k).1.w.drawn then(s (apl h)).1.w.tape j else λ_=>0,λk j hj=>?_⟩;have h: ∃k,j<(s k).1.w.drawn:=⟨k,hj⟩;dsimp only;rw[dif_pos h];exact same _ _ _ (apg h) hj
 obtain⟨T,hT⟩:=this;have run: ∀k,runN P k (lone (s 0).1.fr (s 0).1.cs (ax (s 0).1.w T))= .next (lone (s k).1.fr (s k).1.cs (ax (s k).1.w T)):=by
  intro k
  induction k with
  |zero=>rfl
  |succ k ih=>
   obtain⟨es,he⟩:=(hs k).2.2 T (hT (k+1));rw[runN_add P k 1,ih];dsimp only[runN];rw[jE he]
 obtain⟨n,DX,w0,h1,h2⟩:=(s 0).2.2.1 T (hT 0);rw[run n]at h1;simp only[aoB]at h1;obtain⟨e1,e2,e3⟩:=qx h1;refine(s n).2.2.2 ?_;rw[e1,e2];have h3:=hD2 _ _ (s n).1.w.tape h2;rw[←e3]at h3;exact .done h3
end
end Go.Upr
