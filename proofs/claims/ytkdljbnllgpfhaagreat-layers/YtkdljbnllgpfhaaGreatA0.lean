import Derived.Calls
import Derived.Laws.Sem
import Derived.KernelRfl
import GoSem.Dispatch
set_option maxRecDepth 100000
set_option maxHeartbeats 8000000
open Prod.mk renaming injEq→ae
open Go.Result.ok renaming injEq→aB
open Go.Sem renaming runT→aab,bind→ame,halt→amX,pure→am8
open Go renaming Value→aad,TypeId→acs,Program→alu,program→alw,World→aly,MapEntry→alz,Addr→alA,FuncId→alB,store→alG,choose→alI,underlying→alJ,stuck→alO,Sem→alP,getObj→alS,zeroValue→alU,unsupported→alW,shape→alX,setObj→alY,newObj→alZ,load→al6,newRow→al8,typeInfo→amb,behindNumber→amc,mark→amh,Event→amp,Code→amq,storeVar→amy,numberAt→amz,Result→amB,loadVar→amE,askRoom→amF,Deferred→amI,viewAt→amQ,sizeOf→amR,noView→amS,newVar→amT,loadCellsFrom→amU,byteOf→amV,storeCells→am1,Obj→am2,part→am4,loadCells→am5,Question→am6,asIntOf→am7,asBool→am9,asAddr→ana,asInt→anb
open Pure renaming pure→ads
open Go.Result.halt renaming injEq→ad2
open Array renaming getElem?_eq_some_iff→ad3,getElem?_setIfInBounds_ne→als,getElem?_setIfInBounds_self_of_lt→alC,getElem?_push→alD,all_eq_true_iff_forall_mem→al0,range→al7,getD_eq_getD_getElem?→al9,getElem!_eq_getD→amj,getElem?_modify→amm,forIn_toList→amt,foldl_toList→amu,append_empty→amv
open Nat renaming le_refl→agl,le_trans→al2,lt_of_lt_of_le→amC
open MonadExcept renaming throw→alv
open Go.Instr renaming sameBits→alx,fill→alE,checkKey→alK,findNow→alQ,findKey→alR,findAsking→al3,buildSlice→al4,indexAt→amf,fieldAt→amg,lookup→ami,build→amn,alloc→amo,sureAddr→amH,storeAt→amO,sameNow→amP,loadAt→amZ,box→am3
open True renaming intro→alF
open Go.World renaming cell?→alH,farStore→ama,setCell→amJ,frozen?→amK,farLoad→amL,noCell→amW
open Std.Legacy.Range renaming forIn_eq_forIn_range'→alL
open Go.Result renaming halt→alM
open Option.some renaming inj→alN
open Bool renaming eq_iff_iff→alT,false_eq_true→amA
open Go.Builtin renaming holdsCells→alV,mayShare→ams
open Option renaming none→al1
open Go.Value renaming tuple→al5,ofBytes→amd,pointer→amM,slice→am0
open List renaming mem_map→amk,replicate→amN,map_cons→amY
open Except renaming bind→aml
open List.cons renaming injEq→amr
open Go.Op renaming maxDepth→amw,equalIn→amD
open Go.Mode renaming plain→amx
open Go.Addr.mk renaming injEq→amG
section
namespace Go
theorem ar{p:Prop}(h:p:=by kernel_rfl):p:=h
theorem aj{p:Prop}(h:p:=by omega):p:=h
theorem mE{p:Prop}(h:p:=by decide +kernel):p:=h
theorem aI{p:Prop}(h:p:=by decide):p:=h
theorem aC{p:Prop}(h:p:=by rfl):p:=h
theorem bz{p:Prop}(h:p:=by simp):p:=h
theorem lq{p:Prop}(h:p:=by simp;omega):p:=h
theorem pK{p:Prop}(h:p:=by simp only [List.getElem?_toArray,List.getElem?_cons_succ,List.getElem?_cons_zero];rfl):p:=h
end Go
namespace Go.Upr
abbrev Ren:=Nat→Option Nat
def Ren.le(f g:Ren):Prop:=∀a b,f a=some b→g a=some b
def Ren.Inj(f:Ren):Prop:=∀a a' b,f a=some b→f a'=some b→a=a'
theorem Ren.le_refl(f:Ren):f.le f:=λ_ _ h=>h
theorem Ren.le_trans{f g h:Ren}(a:f.le g)(b:g.le h):f.le h:=λ_ _ x=>b _ _ (a _ _ x)
mutual
inductive aA(F:alB→Bool)(f:Ren):aad→aad→Prop
 |bool (b:Bool):aA F f (.bool b) (.bool b)
 |int (k:IntKind) (n:Int):aA F f (.int k n) (.int k n)
 |string (s:ByteArray):aA F f (.string s) (.string s)
 |ptrN:aA F f (.pointer none) (.pointer none)
 |ptr {a:alA} {b:Nat} (h:f a.block=some b):aA F f (.pointer (some a)) (.pointer (some {a with block:=b}))
 |Kw (n c:Nat):aA F f (.slice none n c) (.slice none n c)
 |sl {a:alA} {b:Nat} (n c:Nat) (h:f a.block=some b):aA F f (.slice (some a) n c) (.slice (some {a with block:=b}) n c)
 |PO:aA F f (.map none) (.map none)
 |map {r b:Nat} (h:f r=some b):aA F f (.map (some r)) (.map (some b))
 |fn {g:alB} {xs xs' cs cs':Array aad} (hg:F g=true) (hx:cz F f xs.toList xs'.toList) (hc:cz F f cs.toList cs'.toList):aA F f (.func (.func g) xs cs) (.func (.func g) xs' cs')
 |yield {l b:Nat} (h:f l=some b):aA F f (.func (.yield l) #[] #[]) (.func (.yield b) #[] #[])
 |nilFunc:aA F f .nilFunc .nilFunc
 |iface (t:acs) {v v':aad} (h:aA F f v v'):aA F f (.iface t v) (.iface t v')
 |nilIface:aA F f .nilIface .nilIface
 |agg {cs cs':Array aad} (h:cz F f cs.toList cs'.toList):aA F f (.agg cs) (.agg cs')
 |tuple {cs cs':Array aad} (h:cz F f cs.toList cs'.toList):aA F f (.tuple cs) (.tuple cs')
inductive cz(F:alB→Bool)(f:Ren):List aad→List aad→Prop
 |nil:cz F f [] []
 |cons {v v':aad} {l l':List aad} (h:aA F f v v') (t:cz F f l l'):cz F f (v::l) (v'::l')
end
section
variable{F:alB→Bool}{f g:Ren}
mutual
theorem aA.mono(hle:f.le g): ∀ {v v':aad},aA F f v v'→aA F g v v'
 |_,_,.bool b=> .bool b
 |_,_,.int k n=> .int k n
 |_,_,.string s=> .string s
 |_,_,.ptrN=> .ptrN
 |_,_,.ptr h=> .ptr (hle _ _ h)
 |_,_,.Kw n c=> .Kw n c
 |_,_,.sl n c h=> .sl n c (hle _ _ h)
 |_,_,.PO=> .PO
 |_,_,.map h=> .map (hle _ _ h)
 |_,_,.fn hg hx hc=> .fn hg (cz.mono hle hx) (cz.mono hle hc)
 |_,_,.yield h=> .yield (hle _ _ h)
 |_,_,.nilFunc=> .nilFunc
 |_,_,.iface t h=> .iface t (aA.mono hle h)
 |_,_,.nilIface=> .nilIface
 |_,_,.agg h=> .agg (cz.mono hle h)
 |_,_,.tuple h=> .tuple (cz.mono hle h)
theorem cz.mono(hle:f.le g): ∀ {l l':List aad},cz F f l l'→cz F g l l'
 |_,_,.nil=> .nil
 |_,_,.cons h t=> .cons (aA.mono hle h) (cz.mono hle t)
end
theorem cz.length: ∀ {l l':List aad},cz F f l l'→l.length=l'.length
 |_,_,.nil=>rfl
 |_,_,.cons _ t=>by simp[cz.length t]
theorem cz.get: ∀ {l l':List aad},cz F f l l'→∀ (i:Nat) (v:aad),l[i]? =some v→∃v',l'[i]? =some v'∧aA F f v v'
 |_,_,.nil,i,v,h=>by simp at h
 |_,_,.cons hv t,0,v,h=>by simp at h;subst h;exact⟨_,rfl,hv⟩
 |_,_,.cons hv t,i+1,v,h=>by simp at h;simpa using cz.get t i v h
theorem cz.none: ∀ {l l':List aad},cz F f l l'→∀ (i:Nat),l[i]? =al1→l'[i]? =al1
 |_,_,h,i,hn=>by rw[List.getElem?_eq_none_iff]at*;rw[←h.length];exact hn
theorem cz.append: ∀ {l l' m m':List aad},cz F f l l'→cz F f m m'→cz F f (l++m) (l'++m')
 |_,_,_,_,.nil,h=>h
 |_,_,_,_,.cons hv t,h=> .cons hv (cz.append t h)
theorem cz.set: ∀ {l l':List aad} {v v':aad} (i:Nat),cz F f l l'→aA F f v v'→cz F f (l.set i v) (l'.set i v')
 |_,_,_,_,_,.nil,_=> .nil
 |_,_,_,_,0,.cons _ t,h=> .cons h t
 |_,_,_,_,i+1,.cons hv t,h=> .cons hv (cz.set i t h)
theorem cz.drop: ∀ {l l':List aad} (i:Nat),cz F f l l'→cz F f (l.drop i) (l'.drop i)
 |_,_,0,h=>by simpa using h
 |_,_,i+1,.nil=>by simpa using .nil
 |_,_,i+1,.cons _ t=>by simpa using cz.drop i t
theorem cz.take: ∀ {l l':List aad} (i:Nat),cz F f l l'→cz F f (l.take i) (l'.take i)
 |_,_,0,h=>by simpa using .nil
 |_,_,i+1,.nil=>by simpa using .nil
 |_,_,i+1,.cons hv t=>by simpa using .cons hv (cz.take i t)
theorem cz.lV: ∀ {l l':List aad},l.length=l'.length→(∀ (i:Nat) (v v':aad),l[i]? =some v→l'[i]? =some v'→aA F f v v')→cz F f l l'
 | [],[],_,_=> .nil
 | [],_::_,h,_=>by simp at h
 |_::_,[],h,_=>by simp at h
 |a::l,b::l',h,H=> .cons (H 0 a b rfl rfl) (cz.lV (by simpa using h) λi v v' h1 h2=>H (i+1) v v' (by simpa using h1) (by simpa using h2))
theorem cz.replicate(n:Nat){v v':aad}(h:aA F f v v'):cz F f (amN n v) (amN n v'):=by
 induction n with
 |zero=>exact .nil
 |succ n ih=>exact .cons h ih
def RelA(F:alB→Bool)(f:Ren)(a b:Array aad):Prop:=cz F f a.toList b.toList
theorem RelA.mono(hle:f.le g){a b:Array aad}(h:RelA F f a b):RelA F g a b:=cz.mono hle h
theorem RelA.size{a b:Array aad}(h:RelA F f a b):a.size=b.size:=by simpa using cz.length h
theorem RelA.get{a b:Array aad}(h:RelA F f a b)(i:Nat)(v:aad)(hv:a[i]? =some v): ∃v',b[i]? =some v'∧aA F f v v':=by
 have:=cz.get h i v (by simpa using hv);simpa using this
theorem RelA.none{a b:Array aad}(h:RelA F f a b)(i:Nat)(hv:a[i]? =none):b[i]? =none:=by
 have:=cz.none h i (by simpa using hv);simpa using this
theorem RelA.append{a b c d:Array aad}(h:RelA F f a b)(h':RelA F f c d):RelA F f (a++c) (b++d):=by
 unfold RelA at*;simpa using cz.append h h'
theorem RelA.push{a b:Array aad}{v v':aad}(h:RelA F f a b)(h':aA F f v v'):RelA F f (a.push v) (b.push v'):=by
 unfold RelA at*;simpa using cz.append h (.cons h' .nil)
theorem RelA.set{a b:Array aad}{v v':aad}(i:Nat)(h:RelA F f a b)(h':aA F f v v'):RelA F f (a.setIfInBounds i v) (b.setIfInBounds i v'):=by
 unfold RelA at*;simpa using cz.set i h h'
theorem RelA.extract{a b:Array aad}(i j:Nat)(h:RelA F f a b):RelA F f (a.extract i j) (b.extract i j):=by
 unfold RelA at*;simpa using cz.take (j- i) (cz.drop i h)
theorem RelA.empty:RelA F f #[] #[]:=cz.nil
theorem RelA.one{v v':aad}(h:aA F f v v'):RelA F f #[v] #[v']:=cz.cons h .nil
theorem RelA.getD{a b:Array aad}(h:RelA F f a b)(i:Nat){d d':aad}(hd:aA F f d d'):aA F f (a.getD i d) (b.getD i d'):=by
 rw[al9,al9];cases ha:a[i]? with
 |none=>rw[h.none i ha];exact hd
 |some v=>obtain⟨v',hb,hv⟩:=h.get i v ha;rw[hb];exact hv
theorem aA.cells{v v':aad}(h:aA F f v v'):RelA F f v.cells v'.cells:=by
 cases h<;>first|assumption|exact RelA.one (by constructor<;>assumption)
inductive dT(F:alB→Bool)(f:Ren):List alz→List alz→Prop
 |nil:dT F f [] []
 |cons {e e':alz} {l l':List alz} (hk:aA F f e.key e'.key) (hv:aA F f e.val e'.val) (hb:e'.born=e.born) (t:dT F f l l'):dT F f (e::l) (e'::l')
inductive sV(f:Ren):List amI→List amI→Prop
 |nil:sV f [] []
 |cons {r b:Nat} {l l':List amI} (h:f r=some b) (t:sV f l l'):sV f ({target:= .collected r,args:= #[]}::l) ({target:= .collected b,args:= #[]}::l')
def nL:aad→Prop
 | .bool _| .int .. =>True
 |_=>False
inductive jf(P:alu)(F:alB→Bool)(C:amq→Bool)(f:Ren):am2→am2→Prop
 |cells {c c':Array aad} (e:acs) (fr:Nat×Nat) (h:RelA F f c c'):jf P F C f (.cells c e fr) (.cells c' e fr)
 |map {es es':Array alz} (clock:Nat) (h:dT F f es.toList es'.toList):jf P F C f (.map es clock) (.map es' clock)
 |D4 (since:Nat) (seen:Array Nat) (st:Nat):jf P F C f (.mapIter none since seen st) (.mapIter none since seen st)
 |iter {m b:Nat} (h:f m=some b) (since:Nat) (seen:Array Nat) (st:Nat):jf P F C f (.mapIter (some m) since seen st) (.mapIter (some b) since seen st)
 |loop {l l':Loop} (hs:l'.state=l.state) (hp:l'.pending=l.pending) (hf:l'.fn=l.fn) (hF:F l.fn=true) (ht:RelA F f l.tmps l'.tmps) (qJ:l'.params=l.params) (ha:l'.assign=l.assign) (hb:l'.body=l.body)
   (hd:f l.defers=some l'.defers) (ca:C l.assign=true) (cb:C l.body=true) (cp: ∀c,l.pending=some c→C c=true):jf P F C f (.loop l) (.loop l')
 |Tn:jf P F C f (.deferred none) (.deferred none)
 |P6:jf P F C f (.deferred (some [])) (.deferred (some []))
 |number {a:alA} {b:Nat} (h:f a.block=some b) (lost:Bool):jf P F C f (.number a lost) (.number {a with block:=b} lost)
 |view {a:alA} {b:Nat} (h:f a.block=some b) {u:acs} (hu: ∀k v,plainCell P P.depth u k=some v→nL v):jf P F C f (.view a u) (.view {a with block:=b} u)
theorem dT.mono(hle:f.le g): ∀ {l l':List alz},dT F f l l'→dT F g l l'
 |_,_,.nil=> .nil
 |_,_,.cons hk hv hb t=> .cons (hk.mono hle) (hv.mono hle) hb (dT.mono hle t)
theorem sV.mono(hle:f.le g): ∀ {l l':List amI},sV f l l'→sV g l l'
 |_,_,.nil=> .nil
 |_,_,.cons h t=> .cons (hle _ _ h) (sV.mono hle t)
theorem jf.mono{P:alu}{C:amq→Bool}(hle:f.le g){o o':am2}(h:jf P F C f o o'):jf P F C g o o':=by
 cases h with
 |cells e fr h=>exact .cells e fr (h.mono hle)
 |map clock h=>exact .map clock (h.mono hle)
 |D4 a b c=>exact .D4 a b c
 |iter h a b c=>exact .iter (hle _ _ h) a b c
 |loop a b c d e k l m n p q r=>exact .loop a b c d (e.mono hle) k l m (hle _ _ n) p q r
 |Tn=>exact .Tn
 |P6=>exact .P6
 |number h lost=>exact .number (hle _ _ h) lost
 |view h hu=>exact .view (hle _ _ h) hu
theorem dT.length: ∀ {l l':List alz},dT F f l l'→l.length=l'.length
 |_,_,.nil=>rfl
 |_,_,.cons _ _ _ t=>by simp[dT.length t]
theorem dT.append: ∀ {l l' m m':List alz},dT F f l l'→dT F f m m'→dT F f (l++m) (l'++m')
 |_,_,_,_,.nil,h=>h
 |_,_,_,_,.cons a b c t,h=> .cons a b c (dT.append t h)
theorem dT.get: ∀ {l l':List alz},dT F f l l'→∀ (i:Nat) (e:alz),l[i]? =some e→∃e':alz,l'[i]? =some e'∧aA F f e.key e'.key∧aA F f e.val e'.val∧e'.born=e.born
 |_,_,.nil,i,e,h=>by simp at h
 |_,_,.cons hk hv hb t,0,e,h=>by simp at h;subst h;exact⟨_,rfl,hk,hv,hb⟩
 |_,_,.cons hk hv hb t,i+1,e,h=>by simp at h;simpa using dT.get t i e h
end
end Go.Upr
end
namespace Go.Upr
theorem en{α β:Type}(P:alu): ∀ (s:alP α) (k:α→alP β) (w:aly) (es:Array amp),
  (s.bind k).runT P w es=match s.runT P w es with|(.ok a w1,ft)=>(k a).runT P w1 ft|(.halt h w1,ft)=>(.halt h w1,ft)
 | .pure a,k,w,es=>rfl
 | .load m a j,k,w,es=>by
  simp only[ame,aab];cases w.cell? a with
  |some v=>exact en P (j v) k w _
  |none=>cases w.farLoad P a (m== .atomic)with
   |ok r=>exact en P (j r.1) k w _
   |error h=>rfl
 | .store m a v j,k,w,es=>by
  cases v<;>simp only[ame,aab]<;>
  ·cases w.cell? a with
   |some x=>
    dsimp only;split
    ·rfl
    ·exact en P j k _ _
   |none=>
    dsimp only;generalize ama P w a _ (m== .atomic)=r;cases r with
    |ok r=>exact en P j k _ _
    |error h=>rfl
 | .new o j,k,w,es=>en P (j w.heap.size) k _ _
 | .shape r j,k,w,es=>en P (j (w.shape? r)) k _ _
 | .freeze a n j,k,w,es=>en P j k _ _
 | .frozen a j,k,w,es=>en P (j (w.frozen? a)) k _ _
 | .getObj r j,k,w,es=>by
  simp only[ame,aab];cases w.heap[r]? with
  |none=>rfl
  |some o=>cases o<;>first|rfl|exact en P (j _) k _ _
 | .setObj r o j,k,w,es=>by
  simp only[ame,aab];cases w.heap[r]? with
  |none=>rfl
  |some o'=>cases o'<;>first|rfl|exact en P j k _ _
 | .choose q j,k,w,es=>by
  simp only[ame,aab];split
  ·exact en P (j 0) k _ _
  ·exact en P (j _) k _ _
 | .sys c j,k,w,es=>en P (j _) k _ _
 | .program j,k,w,es=>en P (j P) k _ _
 | .mark m j,k,w,es=>en P j k _ _
 | .halt h,k,w,es=>rfl
theorem runT_bind'{α β:Type}(P:alu)(s:alP α)(k:α→alP β)(w:aly)(es:Array amp):
  (s>>= k).runT P w es=match s.runT P w es with|(.ok a w1,ft)=>(k a).runT P w1 ft|(.halt h w1,ft)=>(.halt h w1,ft):=en P s k w es
def jo:Obj:= .chan 0 #[] false 0 0 false
def vH(n:Nat)(w:aly):Prop:=∀b,b<n→w.heap[b]? =some jo
theorem vH.size{n:Nat}{w:aly}(h:vH n w):n≤w.heap.size:=by
 rcases Nat.lt_or_ge w.heap.size n with hn|hn
 ·exact absurd (ad3.1 (h _ hn)).1 (Nat.lt_irrefl _)
 ·exact hn
theorem vH.same{n:Nat}{w w':aly}(h:vH n w)(hs: ∀b,b<n→w'.heap[b]? =w.heap[b]?):vH n w':=λb hb=>(hs b hb).trans (h b hb)
structure h_(P:alu)(F:alB→Bool)(C:amq→Bool)(f:Ren)(w w':aly):Prop where
 low: ∀a b,f a=some b→P.globals.size≤a∧P.globals.size≤b
 big:vH P.globals.size w∧P.globals.size≤w'.heap.size
 heap: ∀a b,f a=some b→∃o o',w.heap[a]? =some o∧w'.heap[b]? =some o'∧jf P F C f o o'
 inj:f.Inj
 tape: ∀i q,w.tape (w.drawn+i) q=w'.tape (w'.drawn+i) q
structure mO(f g:Ren)(w w':aly):Prop where
 le:f.le g
 tape:w'.tape=w.tape
 os:w'.os=w.os
 output:w'.output=w.output
 size:w.heap.size≤w'.heap.size
 off: ∀b,b<w.heap.size→(∀a,f a≠some b)→w'.heap[b]? =w.heap[b]?
 fresh: ∀a b,g a=some b→f a=some b∨w.heap.size≤b
 new: ∀b,w.heap.size≤b→b<w'.heap.size→∃a,g a=some b
theorem mO.refl(f:Ren)(w:aly):mO f f w w:=⟨f.le_refl,rfl,rfl,rfl,agl _,λ_ _ _=>rfl,λ_ _ h=> .inl h,λb h1 h2=>absurd h1 aj⟩
theorem mO.trans{f g h:Ren}{w₀ w₁ w₂:aly}(a:mO f g w₀ w₁)(b:mO g h w₁ w₂):mO f h w₀ w₂ where
 le:=Ren.le_trans a.le b.le
 tape:=b.tape.trans a.tape
 os:=b.os.trans a.os
 output:=b.output.trans a.output
 size:=al2 a.size b.size
 off:=λn hn hf=>by
  rw[b.off n (amC hn a.size) (λx hx=>(a.fresh x n hx).elim (hf x) (λh=>absurd h aj)),a.off n hn hf]
 fresh:=λx n hx=>by
  rcases b.fresh x n hx with h|h
  ·exact a.fresh x n h
  ·exact .inr (al2 a.size h)
 new:=λn h1 h2=>by
  by_cases hn:n<w₁.heap.size
  ·obtain⟨x,hx⟩:=a.new n h1 hn;exact⟨x,b.le _ _ hx⟩
  ·exact b.new n aj h2
def vG(f:Ren)(e:amp):Prop:=
 match e with
 |⟨.cell a,_,s⟩=>s=false∧∃x,f x=some a.block
 |⟨.obj r,_,s⟩=>s=false∧∃x,f x=some r
 |⟨.mark (.extern _),_,_⟩|⟨.mark .noRoom,_,_⟩=>True
 |_=>False
theorem vG.mono{f g:Ren}(h:f.le g){e:amp}(he:vG f e):vG g e:=by
 unfold vG at*;split at he
 ·exact⟨he.1,he.2.imp λ_=>h _ _⟩
 ·exact⟨he.1,he.2.imp λ_=>h _ _⟩
 ·trivial
 ·trivial
 ·exact he.elim
def Ar:Halt→Prop
 | .panic _| .stuck _=>True
 | .unsupported (.initOrder _)=>False
 | .unsupported _=>True
 |_=>False
def ahe{α α':Type}(P:alu)(F:alB→Bool)(C:amq→Bool)(A:Ren→α→α'→Prop)(f:Ren)(s:alP α)(s':alP α'):Prop:=
 ∀w w' es es',h_ P F C f w w'→∀a w1 ft,s.runT P w es=(.ok a w1,ft)→
  ∃g a' mV xs,s'.runT P w' es'=(.ok a' mV,es'++xs)∧h_ P F C g w1 mV∧mO f g w' mV∧A g a a'∧∀e∈xs,vG g e
def Local{α:Type}(P:alu)(s:alP α)(w:aly)(es:Array amp)(a:α)(w1:aly)(ft:Array amp):Prop:=
 w.drawn≤w1.drawn∧w1.tape=w.tape∧∀T:Nat→am6→Nat,(∀j,w.drawn≤j→j<w1.drawn→T j=w.tape j)→s.runT P {w with tape:=T} es=(.ok a {w1 with tape:=T},ft)
def Clean(f:Ren)(w:aly):Prop:=∀a b,f a=some b→∀ds,w.heap[a]? =some (.deferred (some ds))→ds= []
theorem Clean.mono{f g:Ren}(h:f.le g){w:aly}(hc:Clean g w):Clean f w:=λa b hab=>hc a b (h _ _ hab)
theorem h_.clean{P:alu}{F:alB→Bool}{C:amq→Bool}{f:Ren}{w w':aly}(hw:h_ P F C f w w'):Clean f w:=by
 intro a b hab ds hd;obtain⟨o,o',h1,h2,h3⟩:=hw.heap a b hab;rw[h1]at hd;cases hd;cases h3;rfl
def Z_{α:Type}(P:alu)(F:alB→Bool)(C:amq→Bool)(f:Ren)(s:alP α):Prop:=
 ∀w w' es,h_ P F C f w w'→(∀h w1 ft,s.runT P w es=(.halt h w1,ft)→Ar h∧Clean f w1)∧∀a w1 ft,s.runT P w es=(.ok a w1,ft)→Local P s w es a w1 ft
def aH{α α':Type}(P:alu)(F:alB→Bool)(C:amq→Bool)(A:Ren→α→α'→Prop)(f:Ren)(s:alP α)(s':alP α'):Prop:=
 ahe P F C A f s s'∧Z_ P F C f s
section
variable{α α' β β':Type}{P:alu}{F:alB→Bool}{C:amq→Bool}{f:Ren}
theorem aH.pure{A:Ren→α→α'→Prop}{a:α}{a':α'}(h:A f a a'):aH P F C A f (am8 a) (am8 a'):=by
 refine⟨?_,λw w' es _=>⟨λh w1 ft hr=>by simp[aab]at hr,λx w1 ft hr=>?_⟩⟩;rotate_left
 ·simp only[aab,ae,aB]at hr;obtain⟨⟨rfl,rfl⟩,rfl⟩:=hr;exact⟨agl _,rfl,λ_ _=>rfl⟩
 intro w w' es es' hw x w1 ft hr;simp only[aab,ae,aB]at hr;obtain⟨⟨rfl,rfl⟩,rfl⟩:=hr;exact⟨f,a',w',#[],by simp[aab],hw,.refl _ _,h,by simp⟩
theorem aH.pure'{A:Ren→α→α'→Prop}{a:α}{a':α'}(h:A f a a'):aH P F C A f (ads a:alP α) (ads a':alP α'):=aH.pure h
theorem aH.halt{A:Ren→α→α'→Prop}{h:Halt}{s':alP α'}(hd:Ar h:=by exact True.intro):aH P F C A f (amX h) s':=by
 refine⟨?_,λw w' es hw=>⟨λh w1 ft hr=>?_,λx w1 ft hr=>?_⟩⟩
 ·intro w w' es es' hw x w1 ft hr;simp[aab]at hr
 ·simp only[aab,ae,ad2]at hr;obtain⟨⟨rfl,rfl⟩,_⟩:=hr;exact⟨hd,hw.clean⟩
 ·simp[aab]at hr
theorem aH.bind{A:Ren→α→α'→Prop}{B:Ren→β→β'→Prop}{s:alP α}{s':alP α'}{k:α→alP β}{k':α'→alP β'}
  (h:aH P F C A f s s') (hk: ∀g a a',f.le g→A g a a'→aH P F C B g (k a) (k' a')):aH P F C B f (s>>= k) (s'>>= k'):=by
 refine⟨?_,λw w' es hw=>⟨λx w1 ft hr=>?_,λx w1 ft hr=>?_⟩⟩;rotate_left
 ·rw[runT_bind']at hr;generalize hs:s.runT P w es=r at hr;obtain⟨r,DY⟩:=r;cases r with
  |halt h2 w2=>
   simp only[ae,ad2]at hr;obtain⟨⟨rfl,rfl⟩,_⟩:=hr;exact(h.2 _ _ _ hw).1 _ _ _ hs
  |ok a w2=>
   dsimp only at hr;obtain⟨g,a',W9,xs,h1,h2,h3,h4,h5⟩:=h.1 w w' es #[] hw a w2 DY hs;exact(((hk g a a' h3.le h4).2 _ _ _ h2).1 _ _ _ hr).imp id λhc=>hc.mono h3.le
 ·rw[runT_bind']at hr;generalize hs:s.runT P w es=r at hr;obtain⟨r,DY⟩:=r;cases r with
  |halt h2 w2=>simp at hr
  |ok a w2=>
   dsimp only at hr;obtain⟨g,a',W9,xs,h1,h2,h3,h4,h5⟩:=h.1 w w' es #[] hw a w2 DY hs;obtain⟨l1,l2,l3⟩:=(h.2 _ _ _ hw).2 _ _ _ hs;obtain⟨m1,m2,m3⟩:=((hk g a a' h3.le h4).2 _ _ _ h2).2 _ _ _ hr;refine⟨al2 l1 m1,m2.trans l2,λT hT=>?_⟩;rw[runT_bind',l3 T λj h1 h2=>hT j h1 (amC h2 m1)];exact m3 T λj h1 h2=>by rw[l2];exact hT j (al2 l1 h1) h2
 intro w w' es es' hw x w1 ft hr;rw[runT_bind']at hr;generalize hs:s.runT P w es=r at hr;obtain⟨r,DY⟩:=r;cases r with
 |halt h w2=>simp at hr
 |ok a w2=>
  dsimp only at hr;obtain⟨g,a',W9,xs,h1,h2,h3,h4,h5⟩:=h.1 w w' es es' hw a w2 DY hs;obtain⟨g2,b',w3',ys,i1,i2,i3,i4,i5⟩:=(hk g a a' h3.le h4).1 w2 W9 DY (es'++xs) h2 x w1 ft hr;refine⟨g2,b',w3',xs++ys,?_,i2,h3.trans i3,i4,?_⟩
  ·rw[runT_bind',h1];dsimp only;rw[i1,Array.append_assoc]
  ·intro e he;rcases Array.mem_append.1 he with he|he
   ·exact(h5 e he).mono i3.le
   ·exact i5 e he
theorem aH.mono{A B:Ren→α→α'→Prop}{s:alP α}{s':alP α'}(h:aH P F C A f s s')(hAB: ∀g a a',f.le g→A g a a'→B g a a'):aH P F C B f s s':=by
 refine⟨?_,h.2⟩;intro w w' es es' hw x w1 ft hr;obtain⟨g,a',W9,xs,h1,h2,h3,h4,h5⟩:=h.1 w w' es es' hw x w1 ft hr;exact⟨g,a',W9,xs,h1,h2,h3,hAB _ _ _ h3.le h4,h5⟩
def Still(P:alu)(s:alP α):Prop:=∃r:Except Halt α,(∀h,r= .error h→Ar h)∧∀w es,s.runT P w es=match r with| .ok a=>(.ok a w,es)| .error h=>(.halt h w,es)
theorem Still.pure(a:α):Still P (ads a:alP α):=⟨.ok a,by simp,λ_ _=>rfl⟩
theorem Still.halt(h:Halt)(hd:Ar h:=by exact True.intro):Still P (amX h:alP α):=⟨.error h,by rintro _ ⟨⟩;exact hd,λ_ _=>rfl⟩
theorem Still.program:Still P alw:=⟨.ok P,by simp,λ_ _=>rfl⟩
theorem Still.bind{s:alP α}{k:α→alP β}(h:Still P s)(hk: ∀a,Still P (k a)):Still P (s>>= k):=by
 obtain⟨r,hd,hr⟩:=h;cases r with
 |error e=>exact⟨.error e,by rintro _ ⟨⟩;exact hd _ rfl,λw es=>by rw[runT_bind',hr]⟩
 |ok a=>
  obtain⟨r2,Dd,hr2⟩:=hk a;exact⟨r2,Dd,λw es=>by rw[runT_bind',hr];exact hr2 w es⟩
theorem aH.still{s:alP α}(h:Still P s):aH P F C (λ_ a a'=>a=a') f s s:=by
 obtain⟨r,hd,hr⟩:=h;refine⟨?_,λw w' es hw=>⟨λx w1 ft h1=>?_,λx w1 ft h1=>?_⟩⟩;rotate_left
 ·rw[hr]at h1;cases r with
  |error e=>
   simp only[ae,ad2]at h1;obtain⟨⟨rfl,rfl⟩,_⟩:=h1;exact⟨hd _ rfl,hw.clean⟩
  |ok a=>simp at h1
 ·rw[hr]at h1;cases r with
  |error e=>simp at h1
  |ok a=>
   simp only[ae,aB]at h1;obtain⟨⟨rfl,rfl⟩,rfl⟩:=h1;exact⟨agl _,rfl,λT _=>hr _ _⟩
 intro w w' es es' hw x w1 ft h1;rw[hr]at h1;cases r with
 |error e=>simp at h1
 |ok a=>
  simp only[ae,aB]at h1;obtain⟨⟨rfl,rfl⟩,rfl⟩:=h1;exact⟨f,a,w',#[],by rw[hr];simp,hw,.refl _ _,rfl,by simp⟩
theorem ll(t:acs):Still P (typeInfo t):=by
 unfold typeInfo;refine .bind .program λp=>?_;split
 ·exact .pure _
 ·exact .halt _
theorem dm(t:acs):Still P (underlying t):=by
 unfold underlying;refine .bind .program λp=>?_;split
 ·exact .pure _
 ·exact .halt _
theorem bO(t:acs):Still P (sizeOf t):= .bind (ll t) λ_=> .pure _
theorem zI(t:acs):Still P (isAgg t):=by
 unfold isAgg;refine .bind (dm t) λd=>?_;split<;>exact .pure _
theorem kg(t:acs):Still P (zeroValue t):=by
 unfold zeroValue;refine .bind (ll t) λi=>?_;split
 ·exact .pure _
 ·exact .halt _
end
def bE(f:Ren)(a a':alA):Prop:=∃b,f a.block=some b∧a'={a with block:=b}
theorem bE.mono{f g:Ren}(h:f.le g){a a':alA}(x:bE f a a'):bE g a a':=let⟨b,hb,e⟩:=x; ⟨b,h _ _ hb,e⟩
theorem bE.add{f:Ren}{a a':alA}(n:Nat)(x:bE f a a'):bE f (a.add n) (a'.add n):=by
 obtain⟨b,hb,rfl⟩:=x;unfold Addr.add;split
 ·exact⟨b,hb,rfl⟩
 ·exact⟨b,hb,rfl⟩
section
variable{P:alu}{F:alB→Bool}{C:amq→Bool}{f:Ren}{w w':aly}
theorem jf.Zb{o o':am2}(h:jf P F C f o o'):o.isChan=false∧o'.isChan=false:=by cases h<;>exact⟨rfl,rfl⟩
theorem h_.cell(hw:h_ P F C f w w'){a a':alA}(ha:bE f a a'){v:aad}(hv:w.cell? a=some v): ∃v',w'.cell? a'=some v'∧aA F f v v':=by
 obtain⟨b,hb,rfl⟩:=ha;obtain⟨o,o',h1,h2,h3⟩:=hw.heap _ _ hb;unfold alH at*;rw[h1]at hv;cases h3 with
 |cells e fr h=>
  simp only[h2];dsimp only at hv⊢;split at hv
  ·cases hv
  ·rename_i hs;rw[if_neg hs];exact h.get _ _ hv
 |_=>simp at hv
theorem h_.aaP(hw:h_ P F C f w w'){a a':alA}(ha:bE f a a')(hv:w.cell? a=none):w'.cell? a'=none:=by
 obtain⟨b,hb,rfl⟩:=ha;obtain⟨o,o',h1,h2,h3⟩:=hw.heap _ _ hb;unfold alH at*;rw[h1]at hv;cases h3 with
 |cells e fr h=>
  simp only[h2];dsimp only at hv⊢;split at hv
  ·rename_i hs;rw[if_pos hs]
  ·rename_i hs;rw[if_neg hs];exact h.none _ hv
 |_=>simp[h2]
theorem h_.frozen(hw:h_ P F C f w w'){a a':alA}(ha:bE f a a'):w'.frozen? a'=w.frozen? a:=by
 obtain⟨b,hb,rfl⟩:=ha;obtain⟨o,o',h1,h2,h3⟩:=hw.heap _ _ hb;unfold amK;simp only[h1,h2];cases h3<;>rfl
theorem EO{v v':aad}(h:aA F f v v'):v'.bytes?=v.bytes?∧∀bs,v.bytes?=some bs→v'=v∧nL v:=by
 cases h with
 |bool b=>exact⟨rfl,λ_ _=>⟨rfl,trivial⟩⟩
 |int k n=>exact⟨rfl,λ_ _=>⟨rfl,trivial⟩⟩
 |_=>exact⟨rfl,λ_ h=>by simp[Value.bytes?]at h⟩
theorem pX{v u:aad}{bs:List UInt8}(hv:nL v)(h:v.ofBytes bs=some u):nL u:=by
 cases v<;>first|exact hv.elim|skip
 ·unfold amd at h;dsimp only at h;split at h<;>first|(cases h;trivial)|cases h
 ·unfold amd at h;dsimp only at h;split at h
  ·cases h;trivial
  ·cases h
theorem JQ{v v' u:aad}{bs:List UInt8}(hv:aA F f v v')(h:v.ofBytes bs=some u):v'.ofBytes bs=some u∧nL u:=by
 cases hv with
 |bool b=>exact⟨h,pX (v:= .bool b) trivial h⟩
 |int k n=>exact⟨h,pX (v:= .int k n) trivial h⟩
 |_=>simp[amd]at h
theorem nL.rel{v:aad}(h:nL v):aA F f v v:=by
 cases v<;>first|exact h.elim|skip
 ·exact .bool _
 ·exact .int _ _
theorem vn{c c':Array aad}(h:RelA F f c c')(e:acs): ∀ (n x stop:Nat),seenCells P c' e n x stop=seenCells P c e n x stop
 |0,_,_=>rfl
 |n+1,x,stop=>by
  unfold seenCells;split
  ·rfl
  dsimp only;split
  ·rfl
  generalize(cellHolding P P.depth e (x % P.bytesOf e)).map (λ(i,s)=>(x/P.bytesOf e*P.cellsOf e+i,x/P.bytesOf e*P.bytesOf e+s))=q;cases q with
  |none=>rfl
  |some q=>
   obtain⟨i,s⟩:=q;dsimp only;cases hc:c[i]? with
   |none=>rw[h.none i hc]
   |some v=>
    obtain⟨v',hv',hr⟩:=h.get i v hc;rw[hv'];dsimp only;rw[(EO hr).1];cases v.bytes? with
    |none=>rfl
    |some bs=>
     cases bs with
     |nil=>rfl
     |cons b bs=>dsimp only;rw[vn h e n]
theorem h_.seen(hw:h_ P F C f w w'){a a' k k':alA}(ha:bE f a a')(hk:k'.off=k.off∧k'.spot=k.spot)(u:acs){r:Array aad×acs× (Nat×Nat)×Nat×aad×List (Nat×Nat×List UInt8)}(h:w.seen P a u k false= .ok r):
  ∃c',w'.seen P a' u k' false= .ok (c',r.2)∧RelA F f r.1 c'∧plainCell P P.depth u k.off=some r.2.2.2.2.1∧w.heap[a.block]? =some (.cells r.1 r.2.1 r.2.2.1)∧w'.heap[a'.block]? =some (.cells c' r.2.1 r.2.2.1):=by
 obtain⟨b,hb,rfl⟩:=ha;obtain⟨o,o',h1,h2,h3⟩:=hw.heap _ _ hb;unfold World.seen at h⊢;rw[hk.1,hk.2];dsimp only;by_cases hs:(k.spot.isSome||a.spot.isSome)=true
 ·simp only[if_pos hs]at h;cases h
 simp only[if_neg hs]at h⊢;cases hp:plainCell P P.depth u k.off with
 |none=>rw[hp]at h;cases h
 |some like=>
  rw[hp]at h;dsimp only[pure_bind]at h⊢;cases hz:like.bytes?.map (·.length)with
  |none=>rw[hz]at h;cases h
  |some size=>
   rw[hz]at h;dsimp only at h⊢;cases hB:byteOfCell P P.depth u k.off with
   |none=>rw[hB]at h;cases h
   |some B=>
    rw[hB]at h;dsimp only at h⊢;rw[h1]at h;rw[h2];cases h3 with
    |cells e fr hc=>
     rename_i c c';dsimp only at h⊢;by_cases h0:P.cellsOf e=0
     ·simp only[if_pos h0]at h;cases h
     simp only[if_neg h0]at h⊢;cases hb0:byteOfCell P P.depth e (a.off % P.cellsOf e)with
     |none=>rw[hb0]at h;cases h
     |some b0=>
      rw[hb0]at h;dsimp only at h⊢;rw[vn hc];generalize seenCells P c e (size+1) (a.off/P.cellsOf e*P.bytesOf e+b0+B) (a.off/P.cellsOf e*P.bytesOf e+b0+B+size)=q at h⊢;cases q with
      |error e=>cases h
      |ok cells=>
       cases h;exact⟨c',rfl,hc,rfl,h1,rfl⟩
    |_=>cases h
theorem h_.viewLoad(hw:h_ P F C f w w'){a a' k k':alA}(ha:bE f a a')(hk:k'.off=k.off∧k'.spot=k.spot){u:acs}(hu: ∀k v,plainCell P P.depth u k=some v→nL v){v:aad}{Dg:List alA}(h:w.viewLoad P a u k false= .ok (v,Dg)):
  ∃uI,w'.viewLoad P a' u k' false= .ok (v,uI)∧nL v∧∀x∈uI,x.block=a'.block:=by
 unfold World.viewLoad at h⊢;cases hs:w.seen P a u k false with
 |error e=>rw[hs]at h;cases h
 |ok r=>
  obtain⟨c',h1,_,h2,_⟩:=hw.seen ha hk u hs;obtain⟨c,e,fr,first,like,cells⟩:=r;rw[hs]at h;rw[h1];have hl:=hu _ _ h2;dsimp only[bind,aml]at h⊢hl;generalize hq:like.ofBytes (List.flatMap (λx=>List.take (first+(Option.map (λx=>x.length) like.bytes?).getD 0- max first x.2.1) (List.drop (first- x.2.1) x.2.2)) cells)=q at h⊢;cases q with
  |none=>cases h
  |some y=>cases h;exact⟨_,rfl,pX hl hq,λx hx=>by simp only[amk]at hx;obtain⟨_,_,rfl⟩:=hx;rfl⟩
theorem h_.far(hw:h_ P F C f w w'){a a':alA}(ha:bE f a a'):(∃h,w.farLoad P a false= .error h∧Ar h)∨
  ∃v Dg uI,w.farLoad P a false= .ok (v,Dg)∧w'.farLoad P a' false= .ok (v,uI)∧aA F f v v∧∀x∈uI,∃y,f y=some x.block:=by
 have hk:a'.off=a.off∧a'.spot=a.spot:=by obtain⟨b,_,rfl⟩:=ha;exact⟨rfl,rfl⟩
 obtain⟨b,hb,rfl⟩:=ha;obtain⟨o,o',h1,h2,h3⟩:=hw.heap _ _ hb;unfold amL amW;simp only[h1,h2];cases h3 with
 |view hv hu=>
  rename_i a1 b1 u;dsimp only;cases he:w.viewLoad P a1 u a false with
  |error e=>exact .inl ⟨_,rfl,alF⟩
  |ok r=>
   obtain⟨v,Dg⟩:=r;obtain⟨uI,i1,i2,i3⟩:=hw.viewLoad ⟨b1,hv,rfl⟩ hk hu he;rw[i1];exact .inr ⟨v,Dg,uI,rfl,rfl,i2.rel,λx hx=>⟨_,hv.trans (congrArg some (i3 x hx).symm)⟩⟩
 |_=>exact .inl ⟨_,rfl,alF⟩
def wU(fz:Nat×Nat)(first:Nat)(bytes:List UInt8)(c:Array aad)(q:Nat×Nat×List UInt8):Except String (Array aad):=do
 if q.2.1<first||q.2.1+q.2.2.length>first+bytes.length then alv "memory seen as another type: a part of a cell written"
 if fz.1≤q.1&&q.1<fz.2 then alv "a write to bytes that a string shares"
 let some old:=c[q.1]? |alv "memory seen as another type: no such cell"
 let some new:=old.ofBytes ((bytes.drop (q.2.1- first)).take q.2.2.length)|alv "memory seen as another type: a bool from a byte other than 0 or 1"
 ads (c.setIfInBounds q.1 new)
theorem EE(fz:Nat×Nat)(first:Nat)(bytes:List UInt8): ∀ (l:List (Nat×Nat×List UInt8)) {c c' d:Array aad},RelA F f c c'→l.foldlM (wU fz first bytes) c= .ok d→∃d',l.foldlM (wU fz first bytes) c'= .ok d'∧RelA F f d d'
 | [],c,c',d,h,hd=>by cases hd;exact⟨c',rfl,h⟩
 |q::l,c,c',d,h,hd=>by
  simp only[List.foldlM_cons]at hd⊢;cases hq:wU fz first bytes c q with
  |error e=>rw[hq]at hd;cases hd
  |ok c1=>
   rw[hq]at hd;have: ∃c1',wU fz first bytes c' q= .ok c1'∧RelA F f c1 c1':=by
    unfold wU at hq⊢;by_cases h1:(decide (q.2.1<first)||decide (q.2.1+q.2.2.length>first+bytes.length))=true
    ·simp only[if_pos h1]at hq;cases hq
    simp only[if_neg h1]at hq⊢;by_cases h2:(decide (fz.1≤q.1)&&decide (q.1<fz.2))=true
    ·simp only[if_pos h2]at hq;cases hq
    simp only[if_neg h2]at hq⊢;cases ho:c[q.1]? with
    |none=>rw[ho]at hq;cases hq
    |some old=>
     obtain⟨akz,m_,hr⟩:=h.get _ _ ho;rw[ho]at hq;rw[m_];dsimp only[pure_bind]at hq⊢;cases hn:old.ofBytes ((bytes.drop (q.2.1- first)).take q.2.2.length)with
     |none=>rw[hn]at hq;cases hq
     |some new=>
      obtain⟨i1,i2⟩:=JQ hr hn;rw[hn]at hq;rw[i1];cases hq;exact⟨_,rfl,h.set _ i2.rel⟩
   obtain⟨c1',i1,i2⟩:=this;rw[i1];exact EE fz first bytes l i2 hd
theorem xA(w:aly)(a k:alA)(u:acs)(v:aad):w.viewStore P a u k v false=(do
  if !tight P P.depth u then alv "memory seen as another type: a store through a type with padding"
  let r←w.seen P a u k false
  let some bytes:=v.bytes?|alv "memory seen as another type: a value that is no plain data"
  if some bytes.length≠r.2.2.2.2.1.bytes?.map (·.length)then alv "memory seen as another type: a value of another size"
  let c←r.2.2.2.2.2.foldlM (wU r.2.2.1 r.2.2.2.1 bytes) r.1
  ads ({w with heap:=w.heap.setIfInBounds a.block (.cells c r.2.1 r.2.2.1)},r.2.2.2.2.2.map λ(i,_,_)=>{block:=a.block,off:=i})):=rfl
theorem h_.put(hw:h_ P F C f w w'){r b:Nat}(hr:f r=some b){o o':am2}(ho:jf P F C f o o'){w1 mV:aly}
  (h1:w1.heap=w.heap.setIfInBounds r o) (Bp:mV.heap=w'.heap.setIfInBounds b o') (ht:w1.tape=w.tape) (hd:w1.drawn=w.drawn) (Kj:mV.tape=w'.tape) (mf:mV.drawn=w'.drawn):h_ P F C f w1 mV:=by
 refine⟨hw.low,⟨hw.big.1.same λx hx=>by rw[h1,als];have:=(hw.low r b hr).1;omega,by rw[Bp];simpa using hw.big.2⟩,λx y hx=>?_,hw.inj,λi q=>by rw[ht,hd,Kj,mf];exact hw.tape i q⟩;obtain⟨p,p',i1,i2,i3⟩:=hw.heap x y hx;by_cases hxr:x=r
 ·subst hxr;have hy:y=b:=by rw[hr]at hx;exact(alN hx).symm
  subst hy;refine⟨o,o',?_,?_,ho⟩
  ·rw[h1,alC (ad3.1 i1).1]
  ·rw[Bp,alC (ad3.1 i2).1]
 ·have hyb:y≠b:=λe=>hxr (hw.inj _ _ _ hx (e▸hr));refine⟨p,p',?_,?_,i3⟩
  ·rw[h1,als (λe=>hxr e.symm)];exact i1
  ·rw[Bp,als (λe=>hyb e.symm)];exact i2
theorem mO.put{r b:Nat}(hr:f r=some b){o':am2}{mV:aly}(Bp:mV.heap=w'.heap.setIfInBounds b o')(Kj:mV.tape=w'.tape)(ho:mV.os=w'.os)(hu:mV.output=w'.output):mO f f w' mV where
 le:=f.le_refl
 tape:=Kj
 os:=ho
 output:=hu
 size:=by rw[Bp];simp
 off:=λn hn hf=>by rw[Bp,als];intro e;exact hf r (e▸hr)
 fresh:=λ_ _ h=> .inl h
 new:=λn h1 h2=>by rw[Bp]at h2;simp at h2;omega
theorem jH(h:Array am2)(b:Nat)(g:am2→am2)(o:am2)(hb:h[b]? =some o):h.modify b g=h.setIfInBounds b (g o):=by
 apply Array.ext_getElem?;intro i;by_cases hi:b=i
 ·subst hi;rw[amm,if_pos rfl,hb,alC (ad3.1 hb).1];rfl
 ·rw[amm,if_neg hi,als hi]
theorem GD{w w1:aly}{a k:alA}{u:acs}{v:aad}{Dg:List alA}(h:w.viewStore P a u k v false= .ok (w1,Dg)):
  ∃r bytes c,¬(!tight P P.depth u)=true∧w.seen P a u k false= .ok r∧v.bytes?=some bytes∧¬(some bytes.length≠r.2.2.2.2.1.bytes?.map (·.length))∧r.2.2.2.2.2.foldlM (wU r.2.2.1 r.2.2.2.1 bytes) r.1= .ok c∧
   w1={w with heap:=w.heap.setIfInBounds a.block (.cells c r.2.1 r.2.2.1)}∧Dg=r.2.2.2.2.2.map λ(i,_,_)=>{block:=a.block,off:=i}:=by
 rw[xA]at h;by_cases ht:(!tight P P.depth u)=true
 ·simp only[if_pos ht]at h;cases h
 simp only[if_neg ht]at h;cases hs:w.seen P a u k false with
 |error e=>rw[hs]at h;cases h
 |ok r=>
  rw[hs]at h;dsimp only[bind,aml]at h;cases hb:v.bytes? with
  |none=>rw[hb]at h;cases h
  |some bytes=>
   rw[hb]at h;dsimp only at h;by_cases hl:some bytes.length≠r.2.2.2.2.1.bytes?.map (·.length)
   ·simp only[if_pos hl]at h;cases h
   simp only[if_neg hl]at h;cases hc:r.2.2.2.2.2.foldlM (wU r.2.2.1 r.2.2.2.1 bytes) r.1 with
   |error e=>rw[hc]at h;cases h
   |ok c=>rw[hc]at h;cases h;exact⟨r,bytes,c,ht,rfl,rfl,hl,hc,rfl,rfl⟩
theorem xz{w:aly}{a k:alA}{u:acs}{v:aad}{r:Array aad×acs× (Nat×Nat)×Nat×aad×List (Nat×Nat×List UInt8)}{bytes:List UInt8}{c:Array aad}(h1: ¬(!tight P P.depth u)=true)(h2:w.seen P a u k false= .ok r)(h3:v.bytes?=some bytes)(h4: ¬(some bytes.length≠r.2.2.2.2.1.bytes?.map (·.length)))(h5:r.2.2.2.2.2.foldlM (wU r.2.2.1 r.2.2.2.1 bytes) r.1= .ok c):
  w.viewStore P a u k v false= .ok ({w with heap:=w.heap.setIfInBounds a.block (.cells c r.2.1 r.2.2.1)},r.2.2.2.2.2.map λ(i,_,_)=>{block:=a.block,off:=i}):=by
 rw[xA];simp only[if_neg h1];rw[h2];dsimp only[bind,aml];rw[h3];dsimp only;simp only[if_neg h4];rw[h5];rfl
theorem h_.ab2(hw:h_ P F C f w w'){a a':alA}(ha:bE f a a'){v v':aad}(hv:aA F f v v'):(∃h,w.farStore P a v false= .error h∧Ar h)∨
  ∃w1 mV Dg uI,w.farStore P a v false= .ok (w1,Dg)∧w'.farStore P a' v' false= .ok (mV,uI)∧h_ P F C f w1 mV∧mO f f w' mV∧(∀x∈uI,∃y,f y=some x.block)∧
   w1.drawn=w.drawn∧w1.tape=w.tape∧∀T,ama P {w with tape:=T} a v false= .ok ({w1 with tape:=T},Dg):=by
 have hk:a'.off=a.off∧a'.spot=a.spot:=by obtain⟨b,_,rfl⟩:=ha;exact⟨rfl,rfl⟩
 obtain⟨b,hb,rfl⟩:=ha;obtain⟨o,o',h1,h2,h3⟩:=hw.heap _ _ hb;unfold ama amW;simp only[h1,h2];cases h3 with
 |view hv' hu=>
  rename_i a1 b1 u;dsimp only;cases he:w.viewStore P a1 u a v false with
  |error e=>exact .inl ⟨_,rfl,alF⟩
  |ok r=>
   obtain⟨w1,Dg⟩:=r;obtain⟨r,bytes,c,i1,i2,i3,i4,i5,rfl,rfl⟩:=GD he;obtain⟨c',j1,j2,j3,j4,j5⟩:=hw.seen (a':={a1 with block:=b1}) ⟨b1,hv',rfl⟩ hk u i2;obtain⟨d,k1,k2⟩:=EE _ _ _ _ j2 i5;have e2:=xz (v:=v') i1 j1 ((EO hv).1.trans i3) i4 k1;rw[e2];refine .inr ⟨_,_,_,_,rfl,rfl,hw.put hv' (.cells _ _ k2) rfl rfl rfl rfl rfl rfl,.put hv' rfl rfl rfl rfl,λx hx=>?_,rfl,rfl,λT=>?_⟩
   ·simp only[amk]at hx;obtain⟨_,_,rfl⟩:=hx;exact⟨_,hv'⟩
   ·have e3:World.viewStore P {w with tape:=T} a1 u a v false=_:=xz (w:={w with tape:=T}) i1 i2 i3 i4 i5;rw[e3]
 |_=>exact .inl ⟨_,rfl,alF⟩
theorem Uy{Dg:List alA}{wr:Bool}(h: ∀x∈Dg,∃y,f y=some x.block): ∀e∈Dg.toArray.map (λx=>(⟨.cell x,wr,false⟩:amp)),vG f e:=by
 intro e he;simp only[List.map_toArray,List.mem_toArray,amk]at he;obtain⟨x,hx,rfl⟩:=he;exact⟨rfl,h x hx⟩
theorem aH.load{a a':alA}(ha:bE f a a'):aH P F C (aA F) f (al6 a) (al6 a'):=by
 refine⟨?_,λw w' es hw=>⟨λh w1 ft hr=>?_,λx w1 ft hr=>?_⟩⟩;rotate_left;rotate_left
 ·simp only[al6,aab]at hr;cases hv:w.cell? a with
  |none=>
   have hb:(amx== .atomic)=false:=rfl;rw[hv,hb]at hr;rcases hw.far ha with⟨h2,hh,hd⟩|⟨v,Dg,uI,hh,_,_,_⟩
   ·rw[hh]at hr;simp at hr
   ·rw[hh]at hr;simp only[ae,aB]at hr;obtain⟨⟨rfl,rfl⟩,rfl⟩:=hr;refine⟨agl _,rfl,λT _=>?_⟩;have hv':alH {w with tape:=T} a=none:=hv;have hh':amL P {w with tape:=T} a false=_:=hh;simp only[al6,aab,hv',hb,hh']
  |some v=>
   rw[hv]at hr;simp only[ae,aB]at hr;obtain⟨⟨rfl,rfl⟩,rfl⟩:=hr;refine⟨agl _,rfl,λT _=>?_⟩;have hv':alH {w with tape:=T} a=some v:=hv;simp only[al6,aab,hv']
 rotate_left
 ·simp only[al6,aab]at hr;cases hv:w.cell? a with
  |none=>
   have hb:(amx== .atomic)=false:=rfl;rw[hv,hb]at hr;rcases hw.far ha with⟨h2,hh,hd⟩|⟨v,Dg,uI,hh,_,_,_⟩
   ·rw[hh]at hr;simp only[ae,ad2]at hr;obtain⟨⟨rfl,rfl⟩,_⟩:=hr;exact⟨hd,hw.clean⟩
   ·rw[hh]at hr;simp at hr
  |some v=>rw[hv]at hr;simp at hr
 intro w w' es es' hw x w1 ft hr;simp only[al6,aab]at hr⊢;cases hv:w.cell? a with
 |none=>
  have hb:(amx== .atomic)=false:=rfl;rw[hv,hb]at hr;have hn:w'.cell? a'=none:=hw.aaP ha hv;rw[hn,hb];rcases hw.far ha with⟨h2,hh,hd⟩|⟨v,Dg,uI,hh,hh',hr2,Fb⟩
  ·rw[hh]at hr;simp at hr
  ·rw[hh]at hr;rw[hh'];simp only[ae,aB]at hr;obtain⟨⟨rfl,rfl⟩,rfl⟩:=hr;exact⟨f,_,w',_,rfl,hw,.refl _ _,hr2,Uy Fb⟩
 |some v=>
  rw[hv]at hr;simp only[ae,aB]at hr;obtain⟨⟨rfl,rfl⟩,rfl⟩:=hr;obtain⟨v',hv',hrel⟩:=hw.cell ha hv;obtain⟨b,hb,rfl⟩:=ha
  exact⟨f,v',w',#[⟨.cell {a with block:=b},false,false⟩],by rw[hv'];rfl,hw,.refl _ _,hrel,by
   intro e he;simp at he;subst he;exact⟨rfl,_,hb⟩⟩
theorem aH.store{a a':alA}(ha:bE f a a'){v v':aad}(hv:aA F f v v'):aH P F C (λ_ _ _=>True) f (alG a v) (alG a' v'):=by
 refine⟨?_,λw w' es hw=>⟨λh w1 ft hr=>?_,λx w1 ft hr=>?_⟩⟩;rotate_left;rotate_left
 ·have key: ∀u u':aad,aA F f u u'→(∀c,u≠ .agg c)→(∀c,u≠ .tuple c)→(alG a u).runT P w es=(.ok x w1,ft)→Local P (alG a u) w es x w1 ft:=by
   intro u u' hu n1 n2 hr;have e1: ∀w:aly,(alG a u).runT P w es=match w.cell? a with
     |some _=>if w.frozen? a then(.halt (.unsupported (.unsafePointer "a write to bytes that a string shares")) w,es)else(.ok () (w.setCell a u),es.push ⟨.cell a,true,false⟩)
     |none=>match w.farStore P a u false with
      | .ok (w,qV)=>(.ok () w,es++qV.toArray.map (⟨.cell ·,true,false⟩))
      | .error h=>(.halt h w,es):=by
    intro w;cases u<;>first|rfl|exact absurd rfl (n1 _)|exact absurd rfl (n2 _)
   rw[e1]at hr;cases hc:w.cell? a with
   |none=>
    rw[hc]at hr;rcases hw.ab2 ha hu with⟨h2,hh,hd⟩|⟨w2,W9,Dg,uI,hh,_,_,_,_,d1,d2,hT⟩
    ·rw[hh]at hr;simp at hr
    ·rw[hh]at hr;simp only[ae,aB]at hr;obtain⟨⟨_,rfl⟩,rfl⟩:=hr;refine⟨Nat.le_of_eq d1.symm,d2,λT _=>?_⟩;have hc':alH {w with tape:=T} a=none:=hc;rw[e1,hc'];dsimp only;rw[hT]
   |some y=>
    rw[hc]at hr;dsimp only at hr;split at hr
    ·simp at hr
    ·rename_i hf;simp only[ae,aB]at hr;obtain⟨⟨_,rfl⟩,rfl⟩:=hr;refine⟨agl _,rfl,λT _=>?_⟩;have hc':alH {w with tape:=T} a=some y:=hc;have hf': ¬amK {w with tape:=T} a=true:=hf;rw[e1,hc'];dsimp only;rw[if_neg hf'];rfl
  cases v with
  |agg c=>
   have sG:((alM (.stuck "store: not the value of one cell") w:amB Unit),es)=(.ok x w1,ft):=hr;simp at sG
  |tuple c=>
   have sG:((alM (.stuck "store: not the value of one cell") w:amB Unit),es)=(.ok x w1,ft):=hr;simp at sG
  |_=>exact key _ _ hv bz bz hr
 rotate_left
 ·have key: ∀u u':aad,aA F f u u'→(∀c,u≠ .agg c)→(∀c,u≠ .tuple c)→(alG a u).runT P w es=(.halt h w1,ft)→Ar h∧Clean f w1:=by
   intro u u' hu n1 n2 hr;have e1:(alG a u).runT P w es=match w.cell? a with
     |some _=>if w.frozen? a then(.halt (.unsupported (.unsafePointer "a write to bytes that a string shares")) w,es)else(.ok () (w.setCell a u),es.push ⟨.cell a,true,false⟩)
     |none=>match w.farStore P a u false with
      | .ok (w,qV)=>(.ok () w,es++qV.toArray.map (⟨.cell ·,true,false⟩))
      | .error h=>(.halt h w,es):=by
    cases u<;>first|rfl|exact absurd rfl (n1 _)|exact absurd rfl (n2 _)
   rw[e1]at hr;cases hc:w.cell? a with
   |none=>
    rw[hc]at hr;rcases hw.ab2 ha hu with⟨h2,hh,hd⟩|⟨w2,W9,Dg,uI,hh,_,_,_,_,d1,d2,hT⟩
    ·rw[hh]at hr;simp only[ae,ad2]at hr;obtain⟨⟨rfl,rfl⟩,_⟩:=hr;exact⟨hd,hw.clean⟩
    ·rw[hh]at hr;simp at hr
   |some y=>
    rw[hc]at hr;dsimp only at hr;split at hr
    ·simp only[ae,ad2]at hr;obtain⟨⟨rfl,rfl⟩,_⟩:=hr;exact⟨alF,hw.clean⟩
    ·simp at hr
  cases v with
  |agg c=>
   have sG:((alM (.stuck "store: not the value of one cell") w:amB Unit),es)=(.halt h w1,ft):=hr;simp only[ae,ad2]at sG;obtain⟨⟨rfl,rfl⟩,_⟩:=sG;exact⟨alF,hw.clean⟩
  |tuple c=>
   have sG:((alM (.stuck "store: not the value of one cell") w:amB Unit),es)=(.halt h w1,ft):=hr;simp only[ae,ad2]at sG;obtain⟨⟨rfl,rfl⟩,_⟩:=sG;exact⟨alF,hw.clean⟩
  |_=>exact key _ _ hv bz bz hr
 intro w w' es es' hw x w1 ft hr;have key: ∀u u':aad,aA F f u u'→(∀c,u≠ .agg c)→(∀c,u≠ .tuple c)→(alG a u).runT P w es=(.ok x w1,ft)→
   ∃g akf mV xs,(alG a' u').runT P w' es'=(.ok akf mV,es'++xs)∧h_ P F C g w1 mV∧mO f g w' mV∧True∧∀e∈xs,vG g e:=by
  intro u u' hu n1 n2 hr;have e1: ∀ (w:aly) es,(alG a u).runT P w es=match w.cell? a with
    |some _=>if w.frozen? a then(.halt (.unsupported (.unsafePointer "a write to bytes that a string shares")) w,es)else(.ok () (w.setCell a u),es.push ⟨.cell a,true,false⟩)
    |none=>match w.farStore P a u false with
     | .ok (w,qV)=>(.ok () w,es++qV.toArray.map (⟨.cell ·,true,false⟩))
     | .error h=>(.halt h w,es):=by
   intro w es;cases u<;>first|rfl|exact absurd rfl (n1 _)|exact absurd rfl (n2 _)
  have m1:(∀c,u'≠ .agg c):=by intro c hc;subst hc;cases hu;exact n1 _ rfl
  have m2:(∀c,u'≠ .tuple c):=by intro c hc;subst hc;cases hu;exact n2 _ rfl
  have e2: ∀ (w:aly) es,(alG a' u').runT P w es=match w.cell? a' with
    |some _=>if w.frozen? a' then(.halt (.unsupported (.unsafePointer "a write to bytes that a string shares")) w,es)else(.ok () (w.setCell a' u'),es.push ⟨.cell a',true,false⟩)
    |none=>match w.farStore P a' u' false with
     | .ok (w,qV)=>(.ok () w,es++qV.toArray.map (⟨.cell ·,true,false⟩))
     | .error h=>(.halt h w,es):=by
   intro w es;cases u'<;>first|rfl|exact absurd rfl (m1 _)|exact absurd rfl (m2 _)
  rw[e1]at hr;rw[e2];cases hc:w.cell? a with
  |none=>
   rw[hc]at hr;have hn:w'.cell? a'=none:=hw.aaP ha hc;rw[hn];rcases hw.ab2 ha hu with⟨h2,hh,hd⟩|⟨w2,W9,Dg,uI,hh,hh',k1,k2,k3,d1,d2,hT⟩
   ·rw[hh]at hr;simp at hr
   ·rw[hh]at hr;rw[hh'];simp only[ae,aB]at hr;obtain⟨⟨_,rfl⟩,rfl⟩:=hr;exact⟨f,_,W9,_,rfl,k1,k2,trivial,Uy k3⟩
  |some y=>
   rw[hc]at hr;obtain⟨y',hy',_⟩:=hw.cell ha hc;rw[hy',hw.frozen ha];dsimp only at hr⊢;by_cases hz:w.frozen? a=true
   ·rw[if_pos hz]at hr;simp at hr
   ·rw[if_neg hz]at hr⊢;simp only[ae,aB]at hr;obtain⟨⟨_,rfl⟩,rfl⟩:=hr;obtain⟨b,hb,rfl⟩:=ha;obtain⟨o,o',h1,h2,h3⟩:=hw.heap _ _ hb;have ag: ∃c c' el fr,o= .cells c el fr∧o'= .cells c' el fr∧RelA F f c c':=by
     unfold alH at hc;rw[h1]at hc;cases h3 with
     |cells e fr h=>exact⟨_,_,_,_,rfl,rfl,h⟩
     |_=>simp at hc
    obtain⟨c,c',el,fr,rfl,rfl,hcc⟩:=ag;have s1:(w.setCell a u).heap=w.heap.setIfInBounds a.block (.cells (if a.spot.isSome then c else c.setIfInBounds a.off u) el fr):=by
     unfold amJ;dsimp only;rw[jH _ _ _ _ h1]
    have s2:(w'.setCell {a with block:=b} u').heap=w'.heap.setIfInBounds b (.cells (if a.spot.isSome then c' else c'.setIfInBounds a.off u') el fr):=by
     unfold amJ;dsimp only;rw[jH _ _ _ _ h2]
    have ho:jf P F C f (.cells (if a.spot.isSome then c else c.setIfInBounds a.off u) el fr) (.cells (if a.spot.isSome then c' else c'.setIfInBounds a.off u') el fr):=by
     refine .cells el fr ?_;split
     ·exact hcc
     ·exact hcc.set _ hu
    exact⟨f,(),_,#[⟨.cell {a with block:=b},true,false⟩],rfl,hw.put hb ho s1 s2 rfl rfl rfl rfl,mO.put hb s2 rfl rfl rfl,trivial,by
     intro e he;simp at he;subst he;exact⟨rfl,_,hb⟩⟩
 cases hv with
 |agg h=>
  have sG:((alM (.stuck "store: not the value of one cell") w:amB Unit),es)=(.ok x w1,ft):=hr;simp at sG
 |tuple h=>
  have sG:((alM (.stuck "store: not the value of one cell") w:amB Unit),es)=(.ok x w1,ft):=hr;simp at sG
 |bool b=>exact key _ _ (.bool b) bz bz hr
 |int k n=>exact key _ _ (.int k n) bz bz hr
 |string s=>exact key _ _ (.string s) bz bz hr
 |ptrN=>exact key _ _ .ptrN bz bz hr
 |ptr h=>exact key _ _ (.ptr h) bz bz hr
 |Kw n c=>exact key _ _ (.Kw n c) bz bz hr
 |sl n c h=>exact key _ _ (.sl n c h) bz bz hr
 |PO=>exact key _ _ .PO bz bz hr
 |map h=>exact key _ _ (.map h) bz bz hr
 |fn a b c=>exact key _ _ (.fn a b c) bz bz hr
 |yield h=>exact key _ _ (.yield h) bz bz hr
 |nilFunc=>exact key _ _ .nilFunc bz bz hr
 |iface t h=>exact key _ _ (.iface t h) bz bz hr
 |nilIface=>exact key _ _ .nilIface bz bz hr
theorem h_.lt(hw:h_ P F C f w w'){a b:Nat}(h:f a=some b):a<w.heap.size∧b<w'.heap.size:=by
 obtain⟨o,o',h1,h2,_⟩:=hw.heap a b h;exact⟨(ad3.1 h1).1,(ad3.1 h2).1⟩
theorem aH.newObj{o o':am2}(ho:jf P F C f o o'):aH P F C (λg r r'=>g r=some r') f (alZ o) (alZ o'):=by
 refine⟨?_,λw w' es hw=>⟨λh w1 ft hr=>by simp only[alZ,aab,ae,reduceCtorEq,false_and]at hr,λx w1 ft hr=>?_⟩⟩;rotate_left
 ·simp only[alZ,aab,ae,aB]at hr;obtain⟨⟨rfl,rfl⟩,rfl⟩:=hr;exact⟨agl _,rfl,λ_ _=>rfl⟩
 intro w w' es es' hw x w1 ft hr;simp only[alZ,aab,ae,aB]at hr;obtain⟨⟨rfl,rfl⟩,rfl⟩:=hr
 let g:Ren:=λx=>if x=w.heap.size then some w'.heap.size else f x
 have hle:f.le g:=λa b h=>by
  have:=(hw.lt h).1;show(if a=w.heap.size then _ else _)=_
  rw[if_neg aj];exact h
 have hg: ∀a b,g a=some b→(a=w.heap.size∧b=w'.heap.size)∨(a≠w.heap.size∧f a=some b):=by
  intro a b h;by_cases ha:a=w.heap.size
  ·have:g a=some w'.heap.size:=if_pos ha;rw[this]at h;exact .inl ⟨ha,(alN h).symm⟩
  ·have:g a=f a:=if_neg ha;rw[this]at h;exact .inr ⟨ha,h⟩
 refine⟨g,w'.heap.size,{w' with heap:=w'.heap.push o'},#[],by rw[amv];rfl,⟨λa b h=>?_,⟨hw.big.1.same λx hx=>by have:=hw.big.1.size;show(w.heap.push o)[x]? =_;rw[alD,if_neg aj],by have:=hw.big.2;simp only[Array.size_push];omega⟩,λa b h=>?_,λa a' b h h'=>?_,hw.tape⟩,⟨hle,rfl,rfl,rfl,by simp,λb hb hn=>?_,λa b h=>?_,λb h1 h2=>?_⟩,if_pos rfl,by simp⟩
 ·rcases hg a b h with⟨rfl,rfl⟩|⟨_,h⟩
  ·exact⟨hw.big.1.size,hw.big.2⟩
  ·exact hw.low _ _ h
 ·rcases hg a b h with⟨rfl,rfl⟩|⟨_,h⟩
  ·exact⟨o,o',by simp,by simp,ho.mono hle⟩
  ·obtain⟨p,p',i1,i2,i3⟩:=hw.heap a b h;have l1:=(hw.lt h).1;have l2:=(hw.lt h).2;exact⟨p,p',by rw[alD,if_neg aj];exact i1,by rw[alD,if_neg aj];exact i2,i3.mono hle⟩
 ·rcases hg a b h with⟨rfl,rfl⟩|⟨_,h⟩<;>rcases hg a' _ h' with⟨rfl,h2⟩|⟨_,h'⟩
  ·rfl
  ·exact absurd (hw.lt h').2 aj
  ·exact absurd (hw.lt h).2 aj
  ·exact hw.inj _ _ _ h h'
 ·rw[alD,if_neg aj]
 ·rcases hg a b h with⟨_,rfl⟩|⟨_,h⟩
  ·exact .inr (agl _)
  ·exact .inl h
 ·simp at h2;exact⟨w.heap.size,by rw[show b=w'.heap.size by omega];exact if_pos rfl⟩
theorem aH.getObj{r r':Nat}(hr0:f r=some r'):aH P F C (λg o o'=>jf P F C g o o'∧∀c e fr,o≠ .cells c e fr) f (alS r) (alS r'):=by
 refine⟨?_,λw w' es hw=>⟨λh w1 ft hr=>?_,λx w1 ft hr=>?_⟩⟩;rotate_left;rotate_left
 ·obtain⟨o,o',h1,h2,h3⟩:=hw.heap _ _ hr0;have e1: ∀T,(alS r).runT P {w with tape:=T} es=match w.heap[r]? with
    |some (.cells ..)=>(.halt (.stuck "getObj: a row of cells") {w with tape:=T},es)
    |some o=>(.ok o {w with tape:=T},es.push ⟨.obj r,false,o.isChan⟩)
    |none=>(.halt (.stuck "getObj: no such block") {w with tape:=T},es):=by
   intro T;simp only[alS,aab];cases w.heap[r]? with
   |none=>rfl
   |some o=>cases o<;>rfl
  have e2:=e1 w.tape;rw[h1]at e2;rw[show(alS r).runT P w es=_ from e2]at hr;cases h3 with
  |cells e fr h'=>simp at hr
  |_=>
   simp only[ae,aB]at hr;obtain⟨⟨rfl,rfl⟩,rfl⟩:=hr;exact⟨agl _,rfl,λT _=>by rw[e1,h1]⟩
 rotate_left
 ·obtain⟨o,o',h1,h2,h3⟩:=hw.heap _ _ hr0;simp only[alS,aab,h1]at hr;cases h3 with
  |cells e fr h'=>
   simp only[ae,ad2]at hr;obtain⟨⟨rfl,rfl⟩,_⟩:=hr;exact⟨alF,hw.clean⟩
  |_=>simp at hr
 have hr:=hr0;intro w w' es es' hw x w1 ft h;obtain⟨o,o',h1,h2,h3⟩:=hw.heap _ _ hr;simp only[alS,aab,h1,h2]at h⊢;have Fb: ∀e∈(#[⟨.obj r',false,false⟩]:Array amp),vG f e:=by intro e he;simp at he;subst he;exact⟨rfl,_,hr⟩
 cases h3 with
 |cells e fr h'=>simp at h
 |_=>
  simp only[ae,aB]at h;obtain⟨⟨rfl,rfl⟩,rfl⟩:=h;exact⟨f,_,w',#[⟨.obj r',false,false⟩],rfl,hw,.refl _ _,⟨by constructor<;>assumption,by simp⟩,Fb⟩
theorem aH.setObj{r r':Nat}(hr:f r=some r'){o o':am2}(ho:jf P F C f o o'):aH P F C (λ_ _ _=>True) f (alY r o) (alY r' o'):=by
 refine⟨?_,λw w' es hw=>⟨λh w1 ft h0=>?_,λx w1 ft h0=>?_⟩⟩;rotate_left;rotate_left
 ·obtain⟨p,p',h1,h2,h3⟩:=hw.heap _ _ hr;have e1: ∀T,(alY r o).runT P {w with tape:=T} es=match w.heap[r]? with
    |some (.cells ..)=>(.halt (.stuck "setObj: a row of cells") {w with tape:=T},es)
    |some _=>(.ok () {w with heap:=w.heap.setIfInBounds r o,tape:=T},es.push ⟨.obj r,true,o.isChan⟩)
    |none=>(.halt (.stuck "setObj: no such block") {w with tape:=T},es):=λ_=>rfl
  have e2:=e1 w.tape;rw[h1]at e2;rw[show(alY r o).runT P w es=_ from e2]at h0;cases h3 with
  |cells e fr h'=>simp at h0
  |_=>
   simp only[ae,aB]at h0;obtain⟨⟨_,rfl⟩,rfl⟩:=h0;exact⟨agl _,rfl,λT _=>by rw[e1,h1]⟩
 rotate_left
 ·obtain⟨p,p',h1,h2,h3⟩:=hw.heap _ _ hr;simp only[alY,aab,h1]at h0;cases h3 with
  |cells e fr h'=>
   simp only[ae,ad2]at h0;obtain⟨⟨rfl,rfl⟩,_⟩:=h0;exact⟨alF,hw.clean⟩
  |_=>simp at h0
 intro w w' es es' hw x w1 ft h;obtain⟨p,p',h1,h2,h3⟩:=hw.heap _ _ hr;simp only[alY,aab,h1,h2]at h⊢;have Fb: ∀e∈(#[⟨.obj r',true,false⟩]:Array amp),vG f e:=by intro e he;simp at he;subst he;exact⟨rfl,_,hr⟩
 cases h3 with
 |cells e fr h'=>simp at h
 |_=>
  simp only[ae,aB]at h;obtain⟨⟨_,rfl⟩,rfl⟩:=h;exact⟨f,(),{w' with heap:=w'.heap.setIfInBounds r' o'},#[⟨.obj r',true,false⟩],by simp[ho.Zb.2],hw.put hr ho rfl rfl rfl rfl rfl rfl,mO.put hr rfl rfl rfl rfl,trivial,Fb⟩
theorem aH.shape{r r':Nat}(hr:f r=some r'):aH P F C (λ_ a a'=>a=a') f (alX r) (alX r'):=by
 refine⟨?_,λw w' es hw=>⟨λh w1 ft hr=>by simp only[alX,aab,ae,reduceCtorEq,false_and]at hr,λx w1 ft hr=>?_⟩⟩;rotate_left
 ·simp only[alX,aab,ae,aB]at hr;obtain⟨⟨rfl,rfl⟩,rfl⟩:=hr;exact⟨agl _,rfl,λ_ _=>rfl⟩
 intro w w' es es' hw x w1 ft h;obtain⟨o,o',h1,h2,h3⟩:=hw.heap _ _ hr;simp only[alX,aab,ae,aB]at h;obtain⟨⟨rfl,rfl⟩,rfl⟩:=h;refine⟨f,w.shape? r,w',#[],?_,hw,.refl _ _,rfl,by simp⟩;simp only[alX,aab,World.shape?,h1,h2];cases h3<;>simp;rename_i h;exact h.size.symm
theorem aH.choose{q:am6}:aH P F C (λ_ a a'=>a=a') f (alI q) (alI q):=by
 refine⟨?_,λw w' es hw=>⟨λh w1 ft hr=>by simp only[alI,aab]at hr;split at hr<;>simp at hr,λx w1 ft hr=>?_⟩⟩;rotate_left
 ·simp only[alI,aab]at hr;split at hr
  ·rename_i hq;simp only[ae,aB]at hr;obtain⟨⟨rfl,rfl⟩,rfl⟩:=hr;exact⟨agl _,rfl,λ_ _=>by simp only[alI,aab,hq,if_true]⟩
  ·rename_i hq;simp only[ae,aB]at hr;obtain⟨⟨rfl,rfl⟩,rfl⟩:=hr;refine⟨Nat.le_succ _,rfl,λT hT=>?_⟩;simp only[alI,aab,if_neg hq];rw[hT w.drawn (agl _) (Nat.lt_succ_self _)]
 intro w w' es es' hw x w1 ft h;simp only[alI,aab]at h⊢;have ht:=hw.tape 0 q;simp only[Nat.add_zero]at ht;split at h
 ·rename_i hq;simp only[ae,aB]at h;obtain⟨⟨rfl,rfl⟩,rfl⟩:=h;exact⟨f,0,w',#[],by simp[hq],hw,.refl _ _,rfl,by simp⟩
 ·rename_i hq;simp only[ae,aB]at h;obtain⟨⟨rfl,rfl⟩,rfl⟩:=h;refine⟨f,_,{w' with drawn:=w'.drawn+1},#[],by rw[if_neg hq];simp;rfl,⟨hw.low,hw.big,hw.heap,hw.inj,λi p=>?_⟩,⟨f.le_refl,rfl,rfl,rfl,agl _,λ_ _ _=>rfl,λ_ _ h=> .inl h,λb h1 h2=>absurd h1 (by simp at h2;omega)⟩,by rw[ht],by simp⟩;have:=hw.tape (i+1) p;simpa[Nat.add_assoc,Nat.add_comm 1 i]using this
theorem aH.aav{m:Mark}(hm:vG f ⟨.mark m,false,true⟩):aH P F C (λ_ _ _=>True) f (amh m) (amh m):=by
 refine⟨?_,λw w' es hw=>⟨λh w1 ft hr=>by simp only[amh,aab,ae,reduceCtorEq,false_and]at hr,λx w1 ft hr=>?_⟩⟩;rotate_left
 ·simp only[amh,aab,ae,aB]at hr;obtain⟨⟨_,rfl⟩,rfl⟩:=hr;exact⟨agl _,rfl,λ_ _=>rfl⟩
 intro w w' es es' hw x w1 ft h;simp only[amh,aab,ae,aB]at h;obtain⟨⟨_,rfl⟩,rfl⟩:=h;exact⟨f,(),w',#[⟨.mark m,false,true⟩],rfl,hw,.refl _ _,trivial,by intro e he;simp at he;subst he;exact hm⟩
theorem aH.askRoom(n:Nat):aH P F C (λ_ _ _=>True) f (amF n) (amF n):=by
 unfold amF;split
 ·exact aH.aav trivial
 ·exact aH.pure' trivial
end
section
variable{α α' β β':Type}{P:alu}{F:alB→Bool}{C:amq→Bool}{f:Ren}{w w':aly}
def Grow(w w1:aly):Prop:=∀ (b:Nat) (o:am2),w.heap[b]? =some o→w1.heap[b]? =some o
theorem Grow.refl(w:aly):Grow w w:=λ_ _ h=>h
theorem Grow.trans{a b c:aly}(h:Grow a b)(i:Grow b c):Grow a c:=λx o ho=>i x o (h x o ho)
def ie(P:alu)(s:alP α):Prop:=∀w es,∃h w1 ft,s.runT P w es=(.halt h w1,ft)∧Ar h∧Grow w w1
def iq(P:alu)(s:alP α):Prop:=∀w es,∃a w1 ft,s.runT P w es=(.ok a w1,ft)∧Grow w w1
theorem ie.halt(h:Halt)(hd:Ar h:=by exact True.intro):ie P (amX h:alP α):=λw es=>⟨h,w,es,rfl,hd,.refl _⟩
theorem ie.bind{s:alP α}{k:α→alP β}(hs:iq P s)(hk: ∀a,ie P (k a)):ie P (s>>= k):=by
 intro w es;obtain⟨a,w1,ft,h1,g1⟩:=hs w es;obtain⟨h,w2,DY,h2,hd,g2⟩:=hk a w1 ft;exact⟨h,w2,DY,by rw[runT_bind',h1];exact h2,hd,g1.trans g2⟩
theorem ie.still{s:alP α}{k:α→alP β}(hs:Still P s)(hk: ∀a,ie P (k a)):ie P (s>>= k):=by
 obtain⟨r,hd,hr⟩:=hs;intro w es;cases r with
 |error h=>exact⟨h,w,es,by rw[runT_bind',hr],hd _ rfl,.refl _⟩
 |ok a=>
  obtain⟨h,w2,DY,h2,hd,hg⟩:=hk a w es;exact⟨h,w2,DY,by rw[runT_bind',hr];exact h2,hd,hg⟩
theorem ie.aO{s:alP α}{k:α→alP β}(h:ie P s):ie P (s>>= k):=by
 intro w es;obtain⟨h,w1,ft,h1,hd⟩:=h w es;exact⟨h,w1,ft,by rw[runT_bind',h1],hd⟩
theorem aH.never{A:Ren→α→α'→Prop}{s:alP α}{s':alP α'}(h:ie P s):aH P F C A f s s':=
 ⟨λw _ es _ _ a w1 ft hr=>by obtain⟨h,w2,DY,h1,_⟩:=h w es;rw[h1]at hr;simp at hr,
  λw _ es hw=>⟨λh' w1 ft hr=>by
    obtain⟨h,w2,DY,h1,hd,hg⟩:=h w es;rw[h1]at hr;simp only[ae,ad2]at hr;obtain⟨⟨rfl,rfl⟩,_⟩:=hr;refine⟨hd,λa b hab ds z_=>?_⟩;obtain⟨o,o',i1,i2,i3⟩:=hw.heap a b hab;rw[hg a o i1]at z_;cases z_;cases i3;rfl,
   λa w1 ft hr=>by obtain⟨h,w2,DY,h1,_⟩:=h w es;rw[h1]at hr;simp at hr⟩⟩
theorem iq.program:iq P alw:=λw es=>⟨P,w,es,rfl,.refl _⟩
theorem iq.pure(a:α):iq P (ads a:alP α):=λw es=>⟨a,w,es,rfl,.refl _⟩
theorem iq.newObj(o:am2):iq P (alZ o):=λw _=>⟨_,_,_,rfl,λb x hb=>by
 have:=(ad3.1 hb).1
 rw[alD,if_neg aj];exact hb⟩
theorem iq.bind{s:alP α}{k:α→alP β}(hs:iq P s)(hk: ∀a,iq P (k a)):iq P (s>>= k):=by
 intro w es;obtain⟨a,w1,ft,h1,g1⟩:=hs w es;obtain⟨b,w2,DY,h2,g2⟩:=hk a w1 ft;exact⟨b,w2,DY,by rw[runT_bind',h1];exact h2,g1.trans g2⟩
theorem iq.newVar(t:acs)(v:aad):iq P (amT t v):= .bind (.newObj _) λ_=> .pure _
theorem iq.choose(q:am6):iq P (alI q):=by
 intro w es;simp only[alI,aab];split
 ·exact⟨_,_,_,rfl,.refl _⟩
 ·exact⟨_,_,_,rfl,λ_ _ h=>h⟩
theorem iq.shape(r:Nat):iq P (alX r):=λ_ _=>⟨_,_,_,rfl,.refl _⟩
theorem iq.frozen(a:alA):iq P (Go.frozen a):=λ_ _=>⟨_,_,_,rfl,.refl _⟩
theorem iq.mark(m:Mark):iq P (amh m):=λ_ _=>⟨_,_,_,rfl,.refl _⟩
theorem iq.holdsCells(a:alA)(n:Nat):iq P (alV a n):=by
 unfold alV;refine .bind (.shape _) λs=>?_;split<;>exact .pure _
theorem iq.mayShare(size KO n:Nat)(base:Option alA)(x:aad):iq P (ams size KO n base x):=by
 unfold ams
 have tail: ∀b:Bool,iq P (if(!b)=true then(ads true:alP Bool)else match x with
   | .slice (some b) _ _=>do ads (!(←alV b (n*size))||base.any (·.block==b.block))
   |_=>ads false):=by
  intro b;split
  ·exact .pure _
  ·split
   ·exact .bind (.holdsCells _ _) λ_=> .pure _
   ·exact .pure _
 cases base with
 |none=>exact .bind (.pure _) λb=>tail b
 |some a=>exact .bind (.holdsCells _ _) λ_=> .bind (.frozen _) λ_=> .bind (.pure _) λb=>tail b
theorem JJ(v:aad):Still P (asInt v):=by
 unfold asInt asIntOf;refine .bind ?_ λ_=> .pure _;split
 ·exact .pure _
 ·exact .halt _
 ·exact .halt _
theorem xB(t:acs):Still P (elemOf t):=by
 unfold elemOf;refine .bind (dm t) λd=>?_;split
 ·exact .pure _
 ·exact .halt _
theorem aL(e:RuntimeError):ie P (runtimePanic e:alP α):=by
 unfold runtimePanic;refine .bind .program λp=>?_;cases e<;>first|exact ie.halt _|exact .still (xB _) λ_=> .bind (.newVar _ _) λ_=>ie.halt _
theorem gS(k:IntKind)(x y:Int)(c:BoundsCode):ie P (boundsPanic k x y c:alP α):=by
 unfold boundsPanic;dsimp only;split
 ·exact .bind (.bind (.choose _) λ_=> .pure _) λ_=>aL _
 ·exact .bind (.pure _) λ_=>aL _
theorem aH.loadCellsFrom{a a':alA}(ha:bE f a a'): ∀ (n i:Nat) {acc Yv:Array aad},RelA F f acc Yv→aH P F C (RelA F) f (amU a i n acc) (amU a' i n Yv):=by
 intro n
 induction n generalizing f with
 |zero=>intro i acc Yv h;exact .pure' h
 |succ n ih=>
  intro i acc Yv h;exact .bind (.load (ha.add i)) λg v v' hle hv=>ih (ha.mono hle) _ ((h.mono hle).push hv)
theorem aH.loadCells{a a':alA}(ha:bE f a a')(n:Nat):aH P F C (RelA F) f (am5 a n) (am5 a' n):= .loadCellsFrom ha n 0 .empty
theorem aH.storeCells: ∀ {l l':List aad} {f:Ren} {a a':alA} (_:bE f a a') (_:cz F f l l') (i:Nat),aH P F C (λ_ _ _=>True) f (am1 a l i) (am1 a' l' i)
 |_,_,_,_,_,_,.nil,_=> .pure' trivial
 |_,_,_,_,_,ha,.cons hv t,i=> .bind (.store (ha.add i) hv) λ_ _ _ hle _=>aH.storeCells (ha.mono hle) (t.mono hle) (i+1)
theorem aH.loadVar(t:acs){a a':alA}(ha:bE f a a'):aH P F C (aA F) f (amE t a) (amE t a'):=by
 unfold amE;refine .bind (.still (zI t)) λg b b' hle hb=>?_;subst hb;cases b with
 |false=>exact .load (ha.mono hle)
 |true=>
  refine .bind (.still (bO t)) λg2 n n' cC hn=>?_;subst hn;exact .bind (.loadCells ((ha.mono hle).mono cC) n) λg3 c c' _ hc=> .pure' (.agg hc)
theorem aH.storeVar(t:acs){a a':alA}(ha:bE f a a'){v v':aad}(hv:aA F f v v'):aH P F C (λ_ _ _=>True) f (amy t a v) (amy t a' v'):=by
 unfold amy;refine .bind (.still (bO t)) λg n n' hle hn=>?_;subst hn;rw[←hv.cells.size];split
 ·exact .never (.aO (.halt _))
 ·exact .storeCells (ha.mono hle) (hv.cells.mono hle) 0
theorem aH.newRow(e:acs){c c':Array aad}(h:RelA F f c c'):aH P F C bE f (al8 e c) (al8 e c'):=by
 unfold al8;exact .bind (.newObj (.cells e _ h)) λg r r' _ hr=> .pure' ⟨r',hr,rfl⟩
theorem aH.newVar(t:acs){v v':aad}(h:aA F f v v'):aH P F C bE f (amT t v) (amT t v'):= .newRow t h.cells
theorem aA.BB{a a':alA}(h:bE f a a'):aA F f (.pointer (some a)) (.pointer (some a')):=by
 obtain⟨b,hb,rfl⟩:=h;exact .ptr hb
theorem aA.lO{a a':alA}(h:bE f a a')(n c:Nat):aA F f (.slice (some a) n c) (.slice (some a') n c):=by
 obtain⟨b,hb,rfl⟩:=h;exact .sl n c hb
theorem aH.part(t:acs){c c':Array aad}(h:RelA F f c c')(off:Nat):aH P F C (aA F) f (am4 t c off) (am4 t c' off):=by
 unfold am4;refine .bind (.still (zI t)) λg b b' hle hb=>?_;subst hb;cases b with
 |false=>
  simp only[amA,if_false];cases hc:c[off]? with
  |none=>exact .halt
  |some v=>obtain⟨v',hv',hr⟩:=h.get off v hc;rw[hv'];exact .pure' (hr.mono hle)
 |true=>
  refine .bind (.still (bO t)) λg2 n n' cC hn=>?_;subst hn;exact .pure' (.agg (((h.mono hle).mono cC).extract _ _))
theorem aH.sureAddr{v v':aad}(h:aA F f v v'):aH P F C bE f (amH v) (amH v'):=by
 cases h<;>first|exact .halt|exact .pure' ⟨_,‹_›,rfl⟩
theorem aH.asAddr{v v':aad}(h:aA F f v v'):aH P F C bE f (ana v) (ana v'):=by
 cases h<;>first|exact .halt|exact .pure' ⟨_,‹_›,rfl⟩|exact .never (aL _)
theorem aH.asIntOf{v v':aad}(h:aA F f v v'):aH P F C (λ_ a a'=>a=a') f (am7 v) (am7 v'):=by
 cases h<;>first|exact .halt|exact .pure' rfl
theorem aH.asInt{v v':aad}(h:aA F f v v'):aH P F C (λ_ a a'=>a=a') f (anb v) (anb v'):=
 .bind (.asIntOf h) λ_ _ _ _ e=>by subst e;exact .pure' rfl
theorem aH.asBool{v v':aad}(h:aA F f v v'):aH P F C (λ_ a a'=>a=a') f (am9 v) (am9 v'):=by
 cases h<;>first|exact .halt|exact .pure' rfl
/-! ### the operations-/
theorem aH.loadAt(t:acs){v v':aad}(h:aA F f v v'):aH P F C (aA F) f (amZ t v) (amZ t v'):=
 .bind (.sureAddr h) λ_ _ _ _ ha=> .loadVar t ha
theorem aH.storeAt(t:acs){v v' x x':aad}(h:aA F f v v')(hx:aA F f x x'):aH P F C (λ_ _ _=>True) f (amO t v x) (amO t v' x'):=
 .bind (.sureAddr h) λ_ _ _ hle ha=> .storeVar t ha (hx.mono hle)
theorem aH.box(t:acs){v v':aad}(h:aA F f v v'):aH P F C (aA F) f (am3 t v) (am3 t v'):=
 .bind (.newVar t h) λ_ _ _ _ ha=> .pure' (.BB ha)
def Plain(F:alB→Bool)(v:aad):Prop:=∀f,aA F f v v
theorem aH.alloc(t:acs)(hz: ∀i,P.info? t=some i→∀v,i.zero=some v→Plain F v):aH P F C (aA F) f (amo t true (.tuple #[])) (amo t true (.tuple #[])):=by
 unfold amo;refine .bind (A:=λ_ a a'=>a=a'∧Plain F a) ?_ λg z z' _ hz'=>?_
 ·refine⟨?_,(aH.still (P:=P) (F:=F) (C:=C) (f:=f) (kg t)).2⟩;intro w w' es es' hw a w1 ft hr;have hp:Plain F a:=by
   unfold zeroValue typeInfo at hr;rw[runT_bind',runT_bind']at hr;simp only[alw,aab]at hr;cases hi:P.info? t with
   |none=>rw[hi]at hr;simp only[alO,aab]at hr;simp at hr
   |some i=>
    rw[hi]at hr;simp only[ads,aab]at hr;cases hv:i.zero with
    |none=>rw[hv]at hr;simp only[alW,aab]at hr;simp at hr
    |some v=>
     rw[hv]at hr;simp only[aab,ae,aB]at hr;obtain⟨⟨rfl,_⟩,_⟩:=hr;exact hz i hi _ hv
  obtain⟨g,a',mV,xs,h1,h2,h3,h4,h5⟩:=(aH.still (P:=P) (F:=F) (C:=C) (f:=f) (kg t)).1 w w' es es' hw a w1 ft hr;exact⟨g,a',mV,xs,h1,h2,h3,⟨h4,hp⟩,h5⟩
 ·obtain⟨rfl,hp⟩:=hz';exact .bind (.newVar t (hp g)) λ_ _ _ _ ha=> .pure' (.BB ha)
theorem RelA.parts{ps AG:List (Nat×aad)}(h1:ps.map (·.1)=AG.map (·.1))(h2:cz F f (ps.map (·.2)) (AG.map (·.2)))(place:Nat→Option (Nat×Nat)): ∀ {c c':Array aad},RelA F f c c'→
  (∃d d',alE place c ps=some d∧alE place c' AG=some d'∧RelA F f d d')∨(alE place c ps=al1∧alE place c' AG=al1):=by
 induction ps generalizing AG with
 |nil=>intro c c' h;cases AG with
  |nil=>exact .inl ⟨c,c',rfl,rfl,h⟩
  |cons _ _=>simp at h1
 |cons p ps ih=>
  intro c c' h;cases AG with
  |nil=>simp at h1
  |cons p' AG=>
   obtain⟨i,v⟩:=p;obtain⟨i',v'⟩:=p';simp only[amY,amr]at h1;obtain⟨rfl,h1⟩:=h1;cases h2 with
   |cons hv h2=>
    simp only at hv;unfold alE;cases place i with
    |none=>exact .inr ⟨rfl,rfl⟩
    |some os=>
     obtain⟨off,size⟩:=os;dsimp only;rw[←hv.cells.size,←h.size];split
     ·exact .inr ⟨rfl,rfl⟩
     ·refine ih h1 h2 ?_;have key: ∀ (l l':List (aad×Nat)) (c c':Array aad),l.map (·.2)=l'.map (·.2)→cz F f (l.map (·.1)) (l'.map (·.1))→RelA F f c c'→
        RelA F f (l.foldl (λcs x=>cs.setIfInBounds (off+x.2) x.1) c) (l'.foldl (λcs x=>cs.setIfInBounds (off+x.2) x.1) c'):=by
       intro l
       induction l with
       |nil=>intro l' c c' e _ hc;cases l' with
        |nil=>exact hc
        |cons _ _=>simp at e
       |cons x l ihl=>
        intro l' c c' e hl hc;cases l' with
        |nil=>simp at e
        |cons x' l'=>
         simp only[amY,amr]at e;cases hl with
         |cons hx hl=>exact ihl l' _ _ e.2 hl (by dsimp only;rw[e.1];exact hc.set _ hx)
      rw[←amu,←amu];refine key _ _ _ _ ?_ ?_ h
      ·simp[hv.cells.size]
      ·have:=hv.cells;unfold RelA at this;simpa using this
theorem aH.fill{ps AG:List (Nat×aad)}(h1:ps.map (·.1)=AG.map (·.1))(h2:cz F f (ps.map (·.2)) (AG.map (·.2)))(place:Nat→Option (Nat×Nat)){c c':Array aad}(h:RelA F f c c')(why:String)
  {A:Ren→α→α'→Prop} {k:Array aad→alP α} {k':Array aad→alP α'} (hk: ∀d d',RelA F f d d'→aH P F C A f (k d) (k' d')):
  aH P F C A f (match alE place c ps with|some cells=>k cells|_=>alO why) (match alE place c' AG with|some cells=>k' cells|_=>alO why):=by
 rcases RelA.parts h1 h2 place h with⟨d,d',e1,e2,hd⟩|⟨e1,e2⟩
 ·rw[e1,e2];exact hk d d' hd
 ·rw[e1,e2];exact .halt
end
section
variable{α α' β β':Type}{P:alu}{F:alB→Bool}{C:amq→Bool}{f:Ren}{w w':aly}
theorem Still.mapList{γ δ:Type}{g:γ→alP δ}(h: ∀x,Still P (g x)): ∀l:List γ,Still P (l.mapM g)
 | []=>by rw[List.mapM_nil];exact .pure _
 |x::l=>by rw[List.mapM_cons];exact .bind (h x) λ_=> .bind (Still.mapList h l) λ_=> .pure _
theorem Still.acO{γ δ:Type}{g:γ→alP δ}(h: ∀x,Still P (g x))(a:Array γ):Still P (a.mapM g):=by
 rw[Array.mapM_eq_mapM_toList];exact .bind (Still.mapList h a.toList) λ_=> .pure _
def pU(P:alu)(F:alB→Bool)(t:acs):Prop:=∀i,P.info? t=some i→∀v,i.zero=some v→Plain F v
theorem aH.zeroValue{t:acs}(hz:pU P F t):aH P F C (λ_ a a'=>a=a'∧Plain F a) f (alU t) (alU t):=by
 refine⟨?_,(aH.still (P:=P) (F:=F) (C:=C) (f:=f) (kg t)).2⟩;intro w w' es es' hw a w1 ft hr;have hp:Plain F a:=by
  unfold alU amb at hr;rw[runT_bind',runT_bind']at hr;simp only[alw,aab]at hr;cases hi:P.info? t with
  |none=>rw[hi]at hr;simp only[alO,aab]at hr;simp at hr
  |some i=>
   rw[hi]at hr;simp only[ads,aab]at hr;cases hv:i.zero with
   |none=>rw[hv]at hr;simp only[alW,aab]at hr;simp at hr
   |some v=>
    rw[hv]at hr;simp only[aab,ae,aB]at hr;obtain⟨⟨rfl,_⟩,_⟩:=hr;exact hz i hi _ hv
 obtain⟨g,a',mV,xs,h1,h2,h3,h4,h5⟩:=(aH.still (P:=P) (F:=F) (C:=C) (f:=f) (kg t)).1 w w' es es' hw a w1 ft hr;exact⟨g,a',mV,xs,h1,h2,h3,⟨h4,hp⟩,h5⟩
theorem Plain.cells{v:aad}(h:Plain F v)(f:Ren):RelA F f v.cells v.cells:=(h f).cells
theorem Plain.default:Plain F (default:aad):=λ_=> .bool false
theorem aH.build{t:acs}(hz:pU P F t){ps AG:Array (Nat×aad)}(h1:ps.toList.map (·.1)=AG.toList.map (·.1))(h2:cz F f (ps.toList.map (·.2)) (AG.toList.map (·.2))):
  aH P F C (aA F) f (amn t ps) (amn t AG):=by
 unfold amn;refine .bind (.zeroValue hz) λg z z' hle hzz=>?_;obtain⟨rfl,hp⟩:=hzz;dsimp only;refine .bind (.still (dm t)) λg2 d d' cC hd=>?_;subst hd;have Fl:=(h2.mono hle).mono cC;cases d with
 |struct fields=>
  dsimp only;refine .bind (.still (.acO (λx=> .bind (bO _) λ_=> .pure _) _)) λg3 pl pl' eQ hpl=>?_;subst hpl;exact .fill h1 (Fl.mono eQ) _ (hp.cells _) _ λd d' hd=> .pure' (.agg hd)
 |array n e=>
  dsimp only;refine .bind (.still (bO e)) λg3 pl pl' eQ hpl=>?_;subst hpl;exact .fill h1 (Fl.mono eQ) _ (hp.cells _) _ λd d' hd=> .pure' (.agg hd)
 |_=>exact .halt
theorem pE{z z':Array aad}(hz:RelA F f z z')(n:Nat):RelA F f ((al7 n).map λi=>z[i % z.size]!) ((al7 n).map λi=>z'[i % z'.size]!):=by
 unfold RelA;refine cz.lV bz λi v v' h1 h2=>?_;simp only[Array.toList_map,List.getElem?_map,Array.toList_range,Option.map_eq_some_iff]at h1 h2;obtain⟨j,hj,rfl⟩:=h1;obtain⟨j',hj',rfl⟩:=h2;rw[hj]at hj';cases hj';rw[←hz.size,amj,amj];exact hz.getD _ (Plain.default f)
theorem aH.buildSlice{t:acs}(hz: ∀e,P.underlying t=some (.slice e)→pU P F e)(len:Nat){ps AG:Array (Nat×aad)}(h1:ps.toList.map (·.1)=AG.toList.map (·.1))(h2:cz F f (ps.toList.map (·.2)) (AG.toList.map (·.2))):
  aH P F C (aA F) f (al4 t len ps) (al4 t len AG):=by
 unfold al4;refine .bind (A:=λ_ a a'=>a=a'∧P.underlying t=some a) ?_ λg d d' hle hd=>?_
 ·refine⟨?_,(aH.still (P:=P) (F:=F) (C:=C) (f:=f) (dm t)).2⟩;intro w w' es es' hw a w1 ft hr;obtain⟨g,a',mV,xs,i1,i2,i3,i4,i5⟩:=(aH.still (P:=P) (F:=F) (C:=C) (f:=f) (dm t)).1 w w' es es' hw a w1 ft hr;refine⟨g,a',mV,xs,i1,i2,i3,⟨i4,?_⟩,i5⟩;unfold alJ at hr;rw[runT_bind']at hr;simp only[alw,aab]at hr;cases hu:P.underlying t with
  |none=>rw[hu]at hr;simp only[alO,aab]at hr;simp at hr
  |some d=>rw[hu]at hr;simp only[ads,aab,ae,aB]at hr;rw[hr.1.1]
 obtain⟨rfl,hu⟩:=hd;cases d with
 |slice e=>
  dsimp only;refine .bind (.still (bO e)) λg2 n n' cC hn=>?_;subst hn;have Fl:=(h2.mono hle).mono cC;have go: ∀g3 (z z':Array aad),g2.le g3→RelA F g3 z z'→aH P F C (aA F) g3
    (match alE (λi=>some (i*n,n)) ((al7 (len*n)).map (z[· % z.size]!)) ps.toList with|some cells=>(do ads (am0 (some (←al8 e cells)) len len))|_=>alO "buildSlice: a part of the wrong size")
    (match alE (λi=>some (i*n,n)) ((al7 (len*n)).map (z'[· % z'.size]!)) AG.toList with|some cells=>(do ads (am0 (some (←al8 e cells)) len len))|_=>alO "buildSlice: a part of the wrong size"):=by
   intro g3 z z' eQ hz;exact .fill h1 (Fl.mono eQ) _ (pE hz _) _ λd d' hd=> .bind (.newRow e hd) λ_ _ _ _ ha=> .pure' (.lO ha _ _)
  split
  ·exact .never (.aO (.halt _))
  ·split
   ·exact .bind (.pure' (A:=λg a a'=>RelA F g a a') .empty) λg3 z z' eQ hz=>go g3 z z' eQ hz
   ·refine .bind (.zeroValue (hz e hu)) λg4 z z' mP hzz=>?_;obtain⟨rfl,hp⟩:=hzz;exact .bind (.pure' (A:=λg a a'=>RelA F g a a') (hp.cells _)) λg3 z z' eQ hz=>go g3 z z' (Ren.le_trans mP eQ) hz
 |_=>exact .halt
def Pp(P:alu)(s:acs)(k:Nat):Prop:=∀fs,P.underlying s=some (.struct fs)→∀x,fs[k]? =some x→∀i,P.info? x.type=some i→i.size≠0
theorem aH.underlying(t:acs):aH P F C (λ_ a a'=>a=a'∧P.underlying t=some a) f (alJ t) (alJ t):=by
 refine⟨?_,(aH.still (P:=P) (F:=F) (C:=C) (f:=f) (dm t)).2⟩;intro w w' es es' hw a w1 ft hr;obtain⟨g,a',mV,xs,i1,i2,i3,i4,i5⟩:=(aH.still (P:=P) (F:=F) (C:=C) (f:=f) (dm t)).1 w w' es es' hw a w1 ft hr;refine⟨g,a',mV,xs,i1,i2,i3,⟨i4,?_⟩,i5⟩;unfold alJ at hr;rw[runT_bind']at hr;simp only[alw,aab]at hr;cases hu:P.underlying t with
 |none=>rw[hu]at hr;simp only[alO,aab]at hr;simp at hr
 |some d=>rw[hu]at hr;simp only[ads,aab,ae,aB]at hr;rw[hr.1.1]
theorem aH.typeInfo(t:acs):aH P F C (λ_ a a'=>a=a'∧P.info? t=some a) f (amb t) (amb t):=by
 refine⟨?_,(aH.still (P:=P) (F:=F) (C:=C) (f:=f) (ll t)).2⟩;intro w w' es es' hw a w1 ft hr;obtain⟨g,a',mV,xs,i1,i2,i3,i4,i5⟩:=(aH.still (P:=P) (F:=F) (C:=C) (f:=f) (ll t)).1 w w' es es' hw a w1 ft hr;refine⟨g,a',mV,xs,i1,i2,i3,⟨i4,?_⟩,i5⟩;unfold amb at hr;rw[runT_bind']at hr;simp only[alw,aab]at hr;cases hu:P.info? t with
 |none=>rw[hu]at hr;simp only[alO,aab]at hr;simp at hr
 |some d=>rw[hu]at hr;simp only[ads,aab,ae,aB]at hr;rw[hr.1.1]
theorem aH.fieldAt{s:acs}{k:Nat}(hk:Pp P s k){v v':aad}(h:aA F f v v'):aH P F C (aA F) f (amg s v k) (amg s v' k):=by
 unfold amg;refine .bind (.underlying s) λg d d' hle hd=>?_;obtain⟨rfl,hu⟩:=hd;cases d with
 |struct fs=>
  dsimp only;cases hx:fs[k]? with
  |none=>exact .halt
  |some x=>
   dsimp only;refine .bind (.sureAddr (h.mono hle)) λg2 a a' cC ha=>?_;refine .bind (A:=bE) ?_ λg3 b b' _ hb=> .pure' (.BB hb);unfold Go.fieldPlace amR;refine .bind (.bind (.typeInfo x.type) λg3 i i' _ hi=> .pure' (A:=λ_ n n'=>n=n'∧n≠0) ⟨by rw[hi.1],hk fs hu x hx i hi.2⟩) λg3 n n' eQ hn=>?_;obtain⟨rfl,hn⟩:=hn;rw[if_neg hn,if_neg hn];exact .pure' ((ha.mono eQ).add _)
 |_=>exact .halt
theorem aH.indexAt(t:acs){v v' x x':aad}(h:aA F f v v')(hx:aA F f x x'):aH P F C (aA F) f (amf t v x) (amf t v' x'):=by
 unfold amf;refine .bind (.asIntOf hx) λg ki ki' hle hki=>?_;subst hki;obtain⟨k,i⟩:=ki;dsimp only;refine .bind (.underlying t) λg2 d d' cC hd=>?_;obtain⟨rfl,hu⟩:=hd;have hv:=(h.mono hle).mono cC;have go: ∀g3 (b b':Option alA) (len:Nat) (elem:acs),(match b,b' with|some a,some a'=>bE g3 a a'|none,none=>True|_,_=>False)→
   aH P F C (aA F) g3 (do
    let aa3:=len≤1&&(match←alJ t with| .array .. =>true|_=>false)
    match b with
    |some a=>
     if 0≤i∧i<len then ads (amM (some (a.add (i.toNat*(←amR elem)))))
     else if aa3 then alW (.noEntry "op/indexAddr.an index out of range at an array of length 0 or 1 (ledger 616)")
     else boundsPanic k i len .index
    |none=>boundsPanic k i 0 .index) (do
    let aa3:=len≤1&&(match←alJ t with| .array .. =>true|_=>false)
    match b' with
    |some a=>
     if 0≤i∧i<len then ads (amM (some (a.add (i.toNat*(←amR elem)))))
     else if aa3 then alW (.noEntry "op/indexAddr.an index out of range at an array of length 0 or 1 (ledger 616)")
     else boundsPanic k i len .index
    |none=>boundsPanic k i 0 .index):=by
  intro g3 b b' len elem hb;refine .bind (.still (dm t)) λg4 d d' mP hd=>?_;subst hd;dsimp only;cases b with
  |none=>exact .never (gS _ _ _ _)
  |some a=>
   cases b' with
   |none=>exact hb.elim
   |some a'=>
    dsimp only;by_cases dC:0≤i∧i<len
    ·simp only[if_pos dC];refine .bind (.still (bO elem)) λg5 n n' pO hn=>?_;subst hn;exact .pure' (.BB (((bE.mono mP hb).mono pO).add _))
    ·simp only[if_neg dC];refine .never ?_
     repeat' split
     all_goals first|exact ie.halt _|exact gS _ _ _ _
 cases d with
 |array len elem=>
  dsimp only;refine .bind (.sureAddr hv) λg4 a a' mP ha=>?_;refine .bind (A:=λg x x'=>x=(some a,len,elem)∧x'=(some a',len,elem)∧bE g a a') (.pure' ⟨rfl,rfl,ha⟩) λg3 x x' eQ hx=>?_;obtain⟨rfl,rfl,hb⟩:=hx;exact go g3 (some a) (some a') len elem hb
 |slice elem=>
  cases hv<;>first|exact .halt|skip
  ·rename_i n c;exact .bind (.pure' (A:=λ_ a a'=>a=(none,n,elem)∧a'=(none,n,elem)) ⟨rfl,rfl⟩) λg3 a a' eQ ha=>by
    obtain⟨rfl,rfl⟩:=ha;exact go g3 none none n elem trivial
  ·rename_i a b n c hb;exact .bind (.pure' (A:=λg x x'=>x=(some a,n,elem)∧x'=(some {a with block:=b},n,elem)∧g a.block=some b) ⟨rfl,rfl,hb⟩) λg3 x x' eQ hx=>by
    obtain⟨rfl,rfl,hb⟩:=hx;exact go g3 (some a) (some _) n elem ⟨b,hb,rfl⟩
 |_=>exact .halt
end
section
variable{α α' β β':Type}{P:alu}{F:alB→Bool}{C:amq→Bool}{f:Ren}{w w':aly}
theorem aH.yR{γ σ:Type}{body zB:γ→σ→alP (ForInStep σ)}: ∀ (l:List γ) (f:Ren) (b:σ),(∀x,x∈l→∀b g,f.le g→aH P F C (λ_ a a'=>a=a') g (body x b) (zB x b))→
  aH P F C (λ_ a a'=>a=a') f (forIn l b body) (forIn l b zB)
 | [],f,b,_=>by simp only[List.forIn_nil];exact .pure' rfl
 |x::l,f,b,h=>by
  simp only[List.forIn_cons];refine .bind (h x bz b f f.le_refl) λg s s' hle hs=>?_;subst hs;cases s with
  |done b=>exact .pure' rfl
  |yield b=>exact aH.yR l g b λx hx b g2 h2=>h x (by simp[hx]) b g2 (Ren.le_trans hle h2)
theorem aH.Jg{γ σ:Type}{body zB:γ→σ→alP (ForInStep σ)}(l:Array γ)(f:Ren)(b:σ)(h: ∀x,x∈l→∀b g,f.le g→aH P F C (λ_ a a'=>a=a') g (body x b) (zB x b)):
  aH P F C (λ_ a a'=>a=a') f (forIn l b body) (forIn l b zB):=by
 rw[←amt,←amt];exact .yR _ _ _ λx hx=>h x (by simpa using hx)
theorem aH.CO{σ:Type}{body zB:Nat→σ→alP (ForInStep σ)}(n:Nat)(f:Ren)(b:σ)(h: ∀x b g,f.le g→aH P F C (λ_ a a'=>a=a') g (body x b) (zB x b)):
  aH P F C (λ_ a a'=>a=a') f (forIn [0:n] b body) (forIn [0:n] b zB):=by
 rw[alL,alL];exact .yR _ _ _ λx _=>h x
theorem aH.numberAt{r r':Nat}(hr:f r=some r'):aH P F C (λg a a'=>(a=none∧a'=none)∨∃x x' l,a=some (x,l)∧a'=some (x',l)∧bE g x x') f (amz r) (amz r'):=by
 unfold amz;refine .bind (.shape hr) λg s s' hle hs=>?_;subst hs;split
 ·exact .pure' (.inl ⟨rfl,rfl⟩)
 ·refine .bind (.getObj (hle _ _ hr)) λg2 o o' _ ho=>?_;cases ho.1 with
  |number h lost=>exact .pure' (.inr ⟨_,_,_,rfl,rfl,_,h,rfl⟩)
  |_=>exact .pure' (.inl ⟨rfl,rfl⟩)
theorem aH.viewAt{r r':Nat}(hr:f r=some r'):aH P F C (λg a a'=>(a=none∧a'=none)∨∃x x' u,a=some (x,u)∧a'=some (x',u)∧bE g x x') f (amQ r) (amQ r'):=by
 unfold amQ;refine .bind (.shape hr) λg s s' hle hs=>?_;subst hs;split
 ·exact .pure' (.inl ⟨rfl,rfl⟩)
 ·refine .bind (.getObj (hle _ _ hr)) λg2 o o' _ ho=>?_;cases ho.1 with
  |view h hu=>exact .pure' (.inr ⟨_,_,_,rfl,rfl,_,h,rfl⟩)
  |_=>exact .pure' (.inl ⟨rfl,rfl⟩)
theorem aH.behindNumber{a a':alA}(ha:bE f a a'):aH P F C (λg x x'=>∃y y' l,x=(y,l)∧x'=(y',l)∧bE g y y') f (amc a) (amc a'):=by
 unfold amc;obtain⟨b,hb,rfl⟩:=ha;refine .bind (.numberAt hb) λg s s' hle hs=>?_;rcases hs with⟨rfl,rfl⟩|⟨x,x',l,rfl,rfl,hx⟩
 ·exact .pure' ⟨_,_,_,rfl,rfl,b,hle _ _ hb,rfl⟩
 ·exact .pure' ⟨_,_,_,rfl,rfl,hx⟩
theorem aH.noView{a a':alA}(ha:bE f a a'):aH P F C (λ_ _ _=>True) f (amS a) (amS a'):=by
 unfold amS;obtain⟨b,hb,rfl⟩:=ha;refine .bind (.viewAt hb) λg s s' hle hs=>?_;rcases hs with⟨rfl,rfl⟩|⟨x,x',u,rfl,rfl,hx⟩
 ·exact .pure' trivial
 ·exact .halt
theorem aH.program:aH P F C (λ_ a a'=>P=a∧P=a') f alw alw:=by
 refine⟨?_,λw w' es hw=>⟨λh w1 ft hr=>by simp only[alw,aab,ae,reduceCtorEq,false_and]at hr,λx w1 ft hr=>?_⟩⟩;rotate_left
 ·simp only[alw,aab,ae,aB]at hr;obtain⟨⟨rfl,rfl⟩,rfl⟩:=hr;exact⟨agl _,rfl,λ_ _=>rfl⟩
 intro w w' es es' hw a w1 ft h;simp only[alw,aab,ae,aB]at h;obtain⟨⟨rfl,rfl⟩,rfl⟩:=h;exact⟨f,P,w',#[],by simp only[alw,aab,amv],hw,.refl _ _,⟨rfl,rfl⟩,by simp⟩
theorem aH.byteOf{a a':alA}(ha:bE f a a'):aH P F C (λ_ x x'=>x=x') f (amV a) (amV a'):=by
 unfold amV;obtain⟨b,hb,rfl⟩:=ha;obtain⟨blk,off,spot⟩:=a;dsimp only at hb⊢;cases spot with
 |some s=>exact .pure' rfl
 |none=>
  dsimp only;refine .bind .program λg p p' hle hp=>?_;obtain⟨rfl,rfl⟩:=hp;refine .bind (.noView ⟨b,hle _ _ hb,rfl⟩) λg2 _ _ cC _=>?_;refine .bind (.shape (cC _ _ (hle _ _ hb))) λg3 s s' _ hs=>?_;subst hs;cases s with
  |none=>exact .halt
  |some s=>
   obtain⟨e,n⟩:=s;dsimp only;split
   ·exact .pure' rfl
   ·cases byteOfCell _ _ e (off % _)with
    |none=>exact .halt
    |some b=>exact .pure' rfl
theorem bE.beq(hw:h_ P F C f w w'){a a' b b':alA}(ha:bE f a a')(hb:bE f b b'):(a'==b')=(a==b)∧(a'.block==b'.block)=(a.block==b.block):=by
 obtain⟨x,hx,rfl⟩:=ha;obtain⟨y,hy,rfl⟩:=hb;have key:x=y↔a.block=b.block:=⟨λe=>hw.inj _ _ _ hx (e▸hy),λe=>by rw[e,hy]at hx;exact(alN hx).symm⟩;refine⟨?_,?_⟩
 ·rw[alT];simp only[beq_iff_eq];cases a;cases b;simp only[amG]at*;rw[key]
 ·rw[alT];simp only[beq_iff_eq];exact key
theorem aH.Ic{A:Ren→α→α'→Prop}{s:alP α}{s':alP α'}(h:(∀a b,f a=some b→P.globals.size≤a∧P.globals.size≤b)→f.Inj→aH P F C A f s s'):aH P F C A f s s':=
 ⟨λw w' es es' hw=>(h hw.low hw.inj).1 w w' es es' hw,λw w' es hw=>(h hw.low hw.inj).2 w w' es hw⟩
theorem bE.beq'(hi:f.Inj){a a' b b':alA}(ha:bE f a a')(hb:bE f b b'):(a'==b')=(a==b)∧(a'.block==b'.block)=(a.block==b.block):=by
 obtain⟨x,hx,rfl⟩:=ha;obtain⟨y,hy,rfl⟩:=hb;have key:x=y↔a.block=b.block:=⟨λe=>hi _ _ _ hx (e▸hy),λe=>by rw[e,hy]at hx;exact(alN hx).symm⟩;refine⟨?_,?_⟩
 ·rw[alT];simp only[beq_iff_eq];cases a;cases b;simp only[amG]at*;rw[key]
 ·rw[alT];simp only[beq_iff_eq];exact key
def lT(P:alu):Nat→acs→Bool
 |0,_=>true
 |d+1,t=>match P.underlying t with
  |some .bool|some (.int _)|some .string|some (.slice _)|some (.map _ _)=>true
  |some (.struct fs)=>fs.all λx=>lT P d x.type
  |some (.array _ e)=>lT P d e
  |_=>false
theorem aH.equalIn: ∀ (d:Nat) (t:acs) (f:Ren) {x x' y y':aad},lT P d t=true→aA F f x x'→aA F f y y'→aH P F C (λ_ a a'=>a=a') f (amD d t x y) (amD d t x' y')
 |0,_,_,_,_,_,_,_,_,_=> .halt
 |d+1,t,f,x,x',y,y',ht,hx,hy=>by
  unfold amD;refine .bind (.underlying t) λg u u' hle hu=>?_;obtain⟨rfl,hu⟩:=hu;replace hx:=hx.mono hle;replace hy:=hy.mono hle;simp only[lT,hu]at ht;cases u with
  |bool=>cases hx<;>cases hy<;>first|exact .halt|exact .pure' rfl
  |int k=>
   cases hx<;>cases hy<;>first
    |exact .halt
    |exact .pure' rfl
    |skip
   case int.int k1 n1 k2 n2=>dsimp only;split<;>first|exact .pure' rfl|exact .halt
   case int.ptr=>
    rename_i n _ _ _;rcases n with(_|m)|m<;>first|exact .pure' rfl|exact .halt
   case ptr.int=>
    rename_i n;rcases n with(_|m)|m<;>first|exact .pure' rfl|exact .halt
   case ptr.ptr=>
    rename_i a b ha c e hc;dsimp only;refine .bind (.behindNumber ⟨_,ha,rfl⟩) λg2 p p' cC hp=>?_;obtain⟨q,q',l,rfl,rfl,hq⟩:=hp;refine .bind (.behindNumber ⟨_,cC _ _ hc,rfl⟩) λg3 r r' eQ hr=>?_;obtain⟨s,s',l',rfl,rfl,hs⟩:=hr;refine .bind .program λg4 pp pp' mP hpp=>?_;obtain⟨rfl,rfl⟩:=hpp;refine .Ic λfD lJ=>?_;have hq':=(hq.mono eQ).mono mP;have hs':=hs.mono mP;obtain⟨e1,e2⟩:=bE.beq' lJ hq' hs';dsimp only;rw[e1,e2];have hno:decide (q.block<P.globals.size)=false∧decide (q'.block<P.globals.size)=false:=by
     obtain⟨z,hz,rfl⟩:=hq';have:=fD _ _ hz;simp;omega
    rw[hno.1,hno.2];simp only[Bool.and_false,amA,if_false];refine .bind (A:=λ_ i i'=>i=i') (.mono (.typeInfo t) λ_ _ _ _ h=>h.1) λg5 i i' pO hi=>?_;subst hi;refine .still ?_;split
    ·split
     ·exact .pure _
     ·exact .halt _
    ·exact .halt _
  |string=>cases hx<;>cases hy<;>first|exact .halt|exact .pure' rfl
  |slice e=>cases hx<;>cases hy<;>first|exact .halt|exact .pure' rfl
  |map a b=>cases hx<;>cases hy<;>first|exact .halt|exact .pure' rfl
  |struct fs=>
   cases hx<;>first|exact .halt|skip
   cases hy<;>first|exact .halt|skip
   rename_i xs xs' oY ys ys' mL;dsimp only;refine .bind .program λg2 pp pp' cC hpp=>?_;obtain⟨rfl,rfl⟩:=hpp;split
   ·exact .never (.aO (.halt _))
   ·refine .bind (.Jg fs g2 _ λx gJ b g3 eQ=>?_) λg3 r r' _ hr=>?_
    ·split
     ·refine .bind (.part x.type ((oY.mono cC).mono eQ) x.offset) λg4 a a' h4 ha=>?_;refine .bind (.part x.type (((mL.mono cC).mono eQ).mono h4) x.offset) λg5 b b' h5 hb=>?_;refine .bind (aH.equalIn d x.type g5 (by simp only[al0]at ht;exact ht x gJ) (ha.mono h5) hb) λg6 r r' _ hr=>?_;subst hr;split<;>exact .pure' rfl
     ·exact .pure' rfl
    ·subst hr;obtain⟨o,_⟩:=r;cases o<;>exact .pure' rfl
  |array n e=>
   cases hx<;>first|exact .halt|skip
   cases hy<;>first|exact .halt|skip
   rename_i xs xs' oY ys ys' mL;dsimp only;refine .bind (.still (bO e)) λg2 k k' cC hk=>?_;subst hk;refine .bind (.CO n g2 _ λx b g3 eQ=>?_) λg3 r r' _ hr=>?_
   ·refine .bind (.part e ((cz.mono cC oY).mono eQ) (x*k)) λg4 a a' h4 ha=>?_;refine .bind (.part e (((cz.mono cC mL).mono eQ).mono h4) (x*k)) λg5 b b' h5 hb=>?_;refine .bind (aH.equalIn d e g5 ht (ha.mono h5) hb) λg6 r r' _ hr=>?_;subst hr;split<;>exact .pure' rfl
   ·subst hr;obtain⟨o,_⟩:=r;cases o<;>exact .pure' rfl
  |_=>simp at ht
end
section
variable{α α' β β':Type}{P:alu}{F:alB→Bool}{C:amq→Bool}{f:Ren}{w w':aly}
theorem aH.checkKey(em:Bool): ∀ (d:Nat) (t:acs) (f:Ren) {x x':aad},lT P d t=true→aA F f x x'→aH P F C (λ_ _ _=>True) f (alK em d t x) (alK em d t x')
 |0,_,_,_,_,_,_=> .halt
 |d+1,t,f,x,x',ht,hx=>by
  unfold alK;refine .bind (.underlying t) λg u u' hle hu=>?_;obtain⟨rfl,hu⟩:=hu;replace hx:=hx.mono hle;simp only[lT,hu]at ht;cases u with
  |interface _=>simp at ht
  |struct fs=>
   cases hx<;>first|exact .halt|skip
   rename_i xs xs' oY;dsimp only;refine .bind (.Jg fs g _ λx gJ b g3 eQ=>?_) λ_ _ _ _ _=> .pure' trivial;split
   ·refine .bind (.part x.type (cz.mono eQ oY) x.offset) λg4 a a' h4 ha=>?_;refine .bind (aH.checkKey em d x.type g4 (by simp only[al0]at ht;exact ht x gJ) ha) λ_ _ _ _ _=>?_;exact .pure' rfl
   ·exact .pure' rfl
  |array n e=>
   cases hx<;>first|exact .halt|skip
   rename_i xs xs' oY;dsimp only;refine .bind (.CO n g _ λx b g3 eQ=>?_) λ_ _ _ _ _=> .pure' trivial;refine .bind (.still (bO e)) λg5 k k' h5 hk=>?_;subst hk;refine .bind (.part e (cz.mono h5 (cz.mono eQ oY)) (x*k)) λg4 a a' h4 ha=>?_;refine .bind (aH.checkKey em d e g4 ht ha) λ_ _ _ _ _=>?_;exact .pure' rfl
  |_=>cases hx<;>exact .pure' trivial
def acj(F:alB→Bool)(f:Ren)(a a':Option (Nat×aad)):Prop:=(a=none∧a'=none)∨∃i v v',a=some (i,v)∧a'=some (i,v')∧aA F f v v'
theorem aH.findAsking{t:acs}(ht:lT P amw t=true): ∀ {l l':List alz} {f:Ren} {k k':aad} (_:dT F f l l') (_:aA F f k k') (i:Nat),aH P F C (acj F) f (al3 t k l i) (al3 t k' l' i)
 |_,_,_,_,_,.nil,_,_=> .pure' (.inl ⟨rfl,rfl⟩)
 |_,_,_,_,_,.cons hk hv hb tl,h,i=>by
  unfold al3;refine .bind (.equalIn _ _ _ ht h hk) λg r r' hle hr=>?_;subst hr;split
  ·exact .pure' (.inr ⟨_,_,_,rfl,rfl,hv.mono hle⟩)
  ·exact aH.findAsking ht (tl.mono hle) (h.mono hle) (i+1)
theorem JN{d:TypeDesc}{k k' x x':aad}(hk:aA F f k k')(hx:aA F f x x'):amP d k' x'=amP d k x:=by
 cases d<;>first
  |(cases hk<;>cases hx<;>rfl)
  |rfl
theorem zR{d:TypeDesc}: ∀ {l l':List alz} {k k':aad} (_:dT F f l l') (_:aA F f k k') (i:Nat),
  (alQ d k l i=none∧alQ d k' l' i=none)∨∃a a',alQ d k l i=some a∧alQ d k' l' i=some a'∧acj F f a a'
 |_,_,_,_,.nil,_,_=> .inr ⟨none,none,rfl,rfl,.inl ⟨rfl,rfl⟩⟩
 |_,_,_,_,.cons hk hv hb tl,h,i=>by
  unfold alQ;rw[JN h hk];split
  ·exact .inr ⟨_,_,rfl,rfl,.inr ⟨_,_,_,rfl,rfl,hv⟩⟩
  ·exact zR tl h (i+1)
  ·exact .inl ⟨rfl,rfl⟩
theorem aH.findKey{t:acs}(ht:lT P amw t=true){l l':List alz}{k k':aad}(hl:dT F f l l')(hk:aA F f k k'):aH P F C (acj F) f (alR t k l) (alR t k' l'):=by
 unfold alR;refine .bind (.underlying t) λg u u' hle hu=>?_;obtain⟨rfl,hu⟩:=hu;rcases zR (d:=u) (hl.mono hle) (hk.mono hle) 0 with⟨h1,h2⟩|⟨a,a',h1,h2,h3⟩
 ·rw[h1,h2];exact .findAsking ht (hl.mono hle) (hk.mono hle) 0
 ·rw[h1,h2];exact .pure' h3
theorem Cs{p q:aad×aad→Bool}(h: ∀a a' b b',aA F f a a'→aA F f b b'→q (a',b')=p (a,b)): ∀ {l l' m m':List aad},cz F f l l'→cz F f m m'→(l'.zip m').all q=(l.zip m).all p
 |_,_,_,_,.nil,_=>by simp
 |_,_,_,_,.cons _ _,.nil=>by simp
 |_,_,_,_,.cons h1 t1,.cons h2 t2=>by
  simp only[List.zip_cons_cons,List.all_cons,h _ _ _ _ h1 h2,Cs h t1 t2]
theorem GG(hi:f.Inj)(n:Nat): ∀ {a a' b b':aad},aA F f a a'→aA F f b b'→alx n a' b'=alx n a b:=by
 have hp: ∀ (x:alA) (y:Nat) (x2:alA) (y2:Nat),f x.block=some y→f x2.block=some y2→((some ({x with block:=y}:alA))== (some ({x2 with block:=y2}:alA)))=((some x)== (some x2)):=by
  intro x y x2 y2 h1 h2;exact(bE.beq' hi ⟨y,h1,rfl⟩ ⟨y2,h2,rfl⟩).1
 induction n with
 |zero=>
  intro a a' b b' ha hb;cases ha<;>cases hb<;>first
   |rfl
   |(unfold alx;exact hp _ _ _ _ ‹_› ‹_›)
 |succ n ih=>
  intro a a' b b' ha hb;cases ha<;>cases hb<;>first
   |rfl
   |(unfold alx;exact hp _ _ _ _ ‹_› ‹_›)
   |(rename_i t v v' h1 t2 v2 v2' h2;unfold alx;rw[ih h1 h2])
   |(rename_i c c' h1 c2 c2' h2
     unfold alx;rw[(show c'.size=c.size from(RelA.size h1).symm),(show c2'.size=c2.size from(RelA.size h2).symm)]
     rw[Cs (p:=λx=>alx n x.1 x.2) (q:=λx=>alx n x.1 x.2) (λ_ _ _ _ x y=>ih x y) h1 h2])
theorem aH.lookup{t:acs}(ht: ∀k e,P.underlying t=some (.map k e)→lT P amw k=true∧pU P F e){m m' k k':aad}(hm:aA F f m m')(hk:aA F f k k')(ok:Bool):
  aH P F C (aA F) f (ami t m k ok) (ami t m' k' ok):=by
 unfold ami;refine .bind (.underlying t) λg u u' hle hu=>?_;obtain⟨rfl,hu⟩:=hu;replace hm:=hm.mono hle;replace hk:=hk.mono hle;cases u with
 |map kt et=>
  dsimp only;obtain⟨KD,het⟩:=ht _ _ hu;have go: ∀g2 (es es':Array alz),g.le g2→dT F g2 es.toList es'.toList→aH P F C (aA F) g2
    (do alK es.isEmpty 10000 kt k
        let(v,b) ←match←alR kt k es.toList with
          |some (_,v)=>ads (v,true)
          |none=>ads (←alU et,false)
        ads (if ok then al5 #[v,.bool b]else v))
    (do alK es'.isEmpty 10000 kt k'
        let(v,b) ←match←alR kt k' es'.toList with
          |some (_,v)=>ads (v,true)
          |none=>ads (←alU et,false)
        ads (if ok then al5 #[v,.bool b]else v)):=by
   intro g2 es es' cC hes;have P2:es'.isEmpty=es.isEmpty:=by
    have:=hes.length;simp only[Array.length_toList]at this;simp only[Array.isEmpty,this]
   rw[P2];refine .bind (.checkKey _ 10000 kt g2 KD (hk.mono cC)) λg3 _ _ h3 _=>?_;refine .bind (.findKey KD (hes.mono h3) ((hk.mono cC).mono h3)) λg4 r r' h4 hr=>?_;have fin: ∀g5 (v v':aad) (b:Bool),aA F g5 v v'→aA F g5 (if ok then al5 #[v,.bool b]else v) (if ok then al5 #[v',.bool b]else v'):=by
    intro g5 v v' b hv;cases ok
    ·exact hv
    ·exact .tuple (.cons hv (.cons (.bool b) .nil))
   rcases hr with⟨rfl,rfl⟩|⟨i,v,v',rfl,rfl,hv⟩
   ·dsimp only;refine .bind (.zeroValue het) λg5 z z' h5 hz=>?_;obtain⟨rfl,hp⟩:=hz;exact .bind (.pure' (A:=λg a a'=>a=(z,false)∧a'=(z,false)) ⟨rfl,rfl⟩) λg6 a a' h6 ha=>by
     obtain⟨rfl,rfl⟩:=ha;exact .pure' (fin _ _ _ _ (hp _))
   ·dsimp only;exact .bind (.pure' (A:=λg a a'=>a=(v,true)∧a'=(v',true)∧aA F g v v') ⟨rfl,rfl,hv⟩) λg6 a a' h6 ha=>by
     obtain⟨rfl,rfl,hv⟩:=ha;exact .pure' (fin _ _ _ _ hv)
  cases hm<;>first|exact .halt|skip
  ·exact .bind (.pure' (A:=λg a a'=>dT F g a.toList a'.toList) .nil) λg2 a a' h2 ha=>go g2 a a' h2 ha
  ·rename_i r r' hr;refine .bind (.getObj hr) λg2 o o' h2 ho=>?_;cases ho.1 with
   |map c h=>exact .bind (.pure' (A:=λg a a'=>dT F g a.toList a'.toList) h) λg3 a a' h3 ha=>go g3 a a' (Ren.le_trans h2 h3) ha
   |_=>first|exact .halt|exact .never (.aO (.halt _))
 |_=>exact .halt
end
end Go.Upr
