import Derived.Test.YtkdljbnllgpfhaaGreatA7
import Derived.Test.YtkdljbnllgpfhaaGreatB1
import Derived.Test.YtkdljbnllgpfhaaGreatB8
import Derived.Test.YtkdljbnllgpfhaaGreatB9
import Derived.Orders
import Derived.Great.Frames
import Derived.Conc.CompanyDraw
import Derived.Shelf.SlIter.Collect
import Derived.Shelf.SlSortCmp.InsertionK
import Derived.Shelf.SlSortCmp.KitK
set_option maxRecDepth 100000
set_option maxHeartbeats 8000000
open Go.Act renaming eval_put_ne→awL,eval_put_same→awM
open List renaming length_map→auB,mem_singleton→atQ,mem_of_getElem?→ann,getElem?_eq_getElem→arn,getElem?_map→anr,map_cons→amY,map_map→au0,mem_cons_self→ao3,mem_map→amk
open Array renaming size_setIfInBounds→asp,replicate→aps
open Go renaming lt_of_block→atm,cell_of_row→aqF,World→aly,heap_alloc_new→atp,Value→aad,Calls→asP,Frame→aoz,Addr→alA,Operand→ang,DataW→awW,Question→am6,Lit→aw1,callsIn_wide→av7
open Go.Region renaming ready→asi
open Go.Code renaming region→apN,ret→asJ,skip→aqy,cond→aqA
open Go.Operand renaming tmp→apH,func→arp
open Go.Value renaming string→at5
open Prod renaming fst→aug,snd→auw
open Go.Ground renaming data→apI
open Go.Region.linearise renaming go→asl
open Nat renaming le_refl→agl,zero_le→arQ,le_trans→al2,add_assoc→at7,add_zero→at6,mul_le_mul_right→avd
open Go.Sort renaming insertionSort→awD,HoldsK→awR,ahead→awF,grow→awY
open Bool renaming and_eq_true→anh,false_or→awV
open Go.WideMaps renaming keyOf_string_mk→auz
open Go.Fence renaming wide→avM
open Go.Shelf renaming Ren→asR
open Go.DataW renaming insert→awN
open Option.some renaming inj→alN
open List.cons renaming injEq→amr
open Go.WideElems renaming rg→awO,rd→awP
open Go.Region.linearise.go renaming eq_def→awQ
open Go.Lib renaming compareBytes→awS
open Go.Proofs.SlLaysZ renaming n8→awT,n7→awU
open Go.Callee renaming value→aro
open Go.Conc renaming stepG_region_end→apQ
open Go.Value.string renaming injEq→awX
open Go.Op renaming move→ap1
open Go.Maps renaming size→awZ
open Go.Value.bool renaming injEq→aw0
open Go.Value.int renaming injEq→aw2
open Go.Value.agg renaming injEq→aw3
open Go.ByteArray renaming toList_eq→asT
open Go.Proofs.SlLaysF0 renaming n20→aw4
open Function renaming comp_def→awz
open Array.mk renaming injEq→apG
section
namespace Go.Upr
open Go.Conc
section
variable{P:Program}{F:FuncId→Bool}{Q:bF→aoz→List aoz→Prop}{f g:Ren}{v:aly}{e s:Nat→Option Obj}{b:aoz}{a0 a:Act}{k k1:List Item}{cs:List aoz}{ops:Array Oper}
theorem Mv{v v1:aly}{T T':Nat→am6→Nat}(h:ax v1 T=ax v T')(ht:v1.tape=v.tape):v1=v:=by
 have h2:ax (ax v1 T) v1.tape=ax (ax v T') v.tape:=by rw[h,ht]
 exact h2
theorem piece{l:List Oper}{i:Nat}(h:(ops.toList.drop i).take l.length=l): ∀j,j<l.length→l[j]? =ops[i+j]? :=by
 intro j hj;rw[←h,List.getElem?_take,if_pos hj,List.getElem?_drop,Array.getElem?_toList]
theorem az.draw{id:Nat}(hm:P.follows .mixedOrders=true)(hs: ∀t,az P F Q f v e s b a0 (.inRegion ops (Region.linearise .any ops t)::k) cs):az P F Q f v e s b a0 (.code (.region id ops true)::k) cs:=by
 intro g a h1 h2 h3;refine(Go.Upr.Comes.RN (Q:=λr fr cs=>Go.Upr.Comes P F r fr cs Q) ?_).bind λ_ _ _ h=>h;refine .step λw hf=>⟨_,cs,{w with drawn:=w.drawn+1},#[],_,stepG_region_draw,hf.other (λ_ _=>rfl) (agl _),⟨rfl,rfl,rfl,agl _,λ_ _ _=>rfl,λ_ h=> .inl h,λ_ _ h=>h⟩,by simp,?_⟩;simp only[Region.schedule,hm,Bool.true_or,if_true];exact .stop (hs _ g a h1 h2 h3)
end
end Go.Upr
namespace Go.Proofs.YtkdljbnllgpfhaaGreat
open Go Go.RowKit Go.Upr Go.Conc
noncomputable abbrev afq:Array Oper:=rg Tryz.f39 0
noncomputable abbrev afp:Array Oper:=rg Tryz.f39 1
noncomputable abbrev afo:Array Oper:=rg Tryz.f39 2
noncomputable abbrev afn:Array Oper:=rg Tryz.f39 3
abbrev eG:Array Oper:= #[{dst:=some 20,op:=ap1 (apH 5),type:=31,pos:= "upshot.go:36",after:= #[],guard:=none},{dst:=some 21,op:=Op.nilCheck (apH 20),type:=0,pos:= "upshot.go:36",after:= #[{on:=0,ground:=apI}],guard:=none},{dst:=some 22,op:=Op.fieldAddr 102 (apH 21) 2,type:=0,pos:= "upshot.go:36",after:= #[{on:=1,ground:=apI}],guard:=none},{dst:=some 23,op:=Op.load 100 (apH 22),type:=100,pos:= "upshot.go:36",after:= #[{on:=2,ground:=apI}],guard:=none},{dst:=some 24,op:=ap1 (apH 5),type:=31,pos:= "upshot.go:36",after:= #[],guard:=none},{dst:=some 25,op:=ap1 (apH 0),type:=88,pos:= "upshot.go:36",after:= #[],guard:=none},{dst:=some 26,op:=Op.call {callee:=aro (arp 80),args:= #[apH 24,apH 25],argTypes:= #[31,88]},type:=93,pos:= "upshot.go:36",after:= #[{on:=4,ground:=apI},{on:=5,ground:=apI}],guard:=none},{dst:=some 27,op:=Op.call {callee:=aro (arp 79),args:= #[apH 23,apH 26],argTypes:= #[100,93]},type:=0,pos:= "upshot.go:36",after:= #[{on:=3,ground:=apI},{on:=6,ground:=apI},{on:=6,ground:=Ground.chain}],guard:=none}]
noncomputable abbrev afm:Array Oper:=rg Tryz.f39 5
noncomputable abbrev ade:Code:=((apN 0 afq false).seq ((apN 1 afp false).seq ((apN 2 afo false).seq ((apN 3 afn false).seq ((apN 4 eG true).seq ((apN 5 afm false).seq asJ))))))
def UH(v:aly)(fn:xU)(Ls:List Lay)(R:Nat→aN→Prop)(u:aad)(v':aly):Prop:=
 ∃eb nb sb pb mb bs F la lc ps K N,u= .pointer (some ⟨eb,0,none⟩)∧v.heap.size≤eb∧v.heap.size≤N∧qN v' eb nb sb pb mb fn bs F la lc ps K N∧ps.map auw=Ls∧(fn.map aug).Perm (bs.map aug)∧(∀p∈ps,p.1.1=p.2.jV)∧R Ls.length F
section
variable{f:Ren}{v:aly}{e s:Nat→Option Obj}{h:Hp}{ad:Option alA}{l c:Nat}{cs:List cS}{R:Nat→aN→Prop}
structure A4(ad:Option alA)(l c eb pb:Nat)(d0 d1 d2 d3 d4 d5:Bool)(a:Act):Prop where
 df:a.defers= []
 size:a.tmps.size=29
 e0:a.eval (.tmp 0)= .slice ad l c
 e5:a.eval (.tmp 5)= .pointer (some ⟨eb,0,none⟩)
 e20:d0=true→a.eval (.tmp 20)= .pointer (some ⟨eb,0,none⟩)
 e21:d1=true→a.eval (.tmp 21)= .pointer (some ⟨eb,0,none⟩)
 XK:d2=true→a.eval (.tmp 22)= .pointer (some ⟨eb,2,none⟩)
 e23:d3=true→a.eval (.tmp 23)= .pointer (some ⟨pb,0,none⟩)
 e24:d4=true→a.eval (.tmp 24)= .pointer (some ⟨eb,0,none⟩)
 e25:d5=true→a.eval (.tmp 25)= .slice ad l c
structure S4(ad:Option alA)(l c:Nat)(cs:List cS)(eb nb sb pb mb:Nat)(fn:xU)(bs:dB)(la:Option alA)(lc:Nat)(ps:List (LB×Lay))(K h:Hp)(N:Nat)(d0 d1 d2 d3 d4 d5 d6:Bool)(a:Act)(w:aly):Prop extends A4 ad l c eb pb d0 d1 d2 d3 d4 d5 a where
 xY:qN w eb nb sb pb mb fn bs (if d6 then(jc (λ_=> []) cs).1 else λ_=> []) la lc ps K N
 kn:h.In w
 e26:d6=true→∃M,lL w M 156 5 dH h (a.eval (.tmp 26)) (jc (λ_=> []) cs).2
def Bu(d0 d1 d2 d3 d4 d5 d6 d7:Bool)(i:Nat):Bool:=(i==0&& !d0)||(i==1&& !d1&&d0)||(i==2&& !d2&&d1)||(i==3&& !d3&&d2)||(i==4&& !d4)||(i==5&& !d5)||(i==6&& !d6&&d4&&d5)||(i==7&& !d7&&d0&&d1&&d2&&d3&&d4&&d5&&d6)
noncomputable def ab7(d0 d1 d2 d3 d4 d5 d6 d7:Bool):Bool:=(!(asi .any eG #[d0,d1,d2,d3,d4,d5,d6,d7]).isEmpty||(d0&&d1&&d2&&d3&&d4&&d5&&d6&&d7))&&(asi .any eG #[d0,d1,d2,d3,d4,d5,d6,d7]).all (Bu d0 d1 d2 d3 d4 d5 d6 d7)
theorem EN: ∀d0 d1 d2 d3 d4 d5 d6 d7:Bool,(d3&& !d2||d2&& !d1||d1&& !d0||d6&& !d4||d6&& !d5||d7&& !d6||d7&& !d3||ab7 d0 d1 d2 d3 d4 d5 d6 d7)=true:=by decide+kernel
section
variable{ad:Option alA}{l c eb nb sb pb mb:Nat}{d0 d1 d2 d3 d4 d5 d6 d7:Bool}{a:Act}{w w':aly}{cs:List cS}{fn:xU}{bs:dB}{F F':aN}{la:Option alA}{lc:Nat}{ps:List (LB×Lay)}{K h:Hp}{N:Nat}{Q:bF→aoz→List aoz→Prop}{f:Ren}{e s:Nat→Option Obj}{k:List Item}{cs1:List aoz}
theorem A4.p0(A:A4 ad l c eb pb d0 d1 d2 d3 d4 d5 a):A4 ad l c eb pb true d1 d2 d3 d4 d5 (a.put (some 20) (.pointer (some ⟨eb,0,none⟩))):=⟨A.df,(asp ..).trans A.size,(awL _ _ _ _ aI).trans A.e0,(awL _ _ _ _ aI).trans A.e5,λ_=>awM _ _ _ (by rw[A.size];decide),λh=>(awL _ _ _ _ aI).trans (A.e21 h),λh=>(awL _ _ _ _ aI).trans (A.XK h),λh=>(awL _ _ _ _ aI).trans (A.e23 h),λh=>(awL _ _ _ _ aI).trans (A.e24 h),λh=>(awL _ _ _ _ aI).trans (A.e25 h)⟩
theorem A4.p1(A:A4 ad l c eb pb d0 d1 d2 d3 d4 d5 a):A4 ad l c eb pb d0 true d2 d3 d4 d5 (a.put (some 21) (.pointer (some ⟨eb,0,none⟩))):=⟨A.df,(asp ..).trans A.size,(awL _ _ _ _ aI).trans A.e0,(awL _ _ _ _ aI).trans A.e5,λh=>(awL _ _ _ _ aI).trans (A.e20 h),λ_=>awM _ _ _ (by rw[A.size];decide),λh=>(awL _ _ _ _ aI).trans (A.XK h),λh=>(awL _ _ _ _ aI).trans (A.e23 h),λh=>(awL _ _ _ _ aI).trans (A.e24 h),λh=>(awL _ _ _ _ aI).trans (A.e25 h)⟩
theorem A4.p2(A:A4 ad l c eb pb d0 d1 d2 d3 d4 d5 a):A4 ad l c eb pb d0 d1 true d3 d4 d5 (a.put (some 22) (.pointer (some ⟨eb,2,none⟩))):=⟨A.df,(asp ..).trans A.size,(awL _ _ _ _ aI).trans A.e0,(awL _ _ _ _ aI).trans A.e5,λh=>(awL _ _ _ _ aI).trans (A.e20 h),λh=>(awL _ _ _ _ aI).trans (A.e21 h),λ_=>awM _ _ _ (by rw[A.size];decide),λh=>(awL _ _ _ _ aI).trans (A.e23 h),λh=>(awL _ _ _ _ aI).trans (A.e24 h),λh=>(awL _ _ _ _ aI).trans (A.e25 h)⟩
theorem A4.p3(A:A4 ad l c eb pb d0 d1 d2 d3 d4 d5 a):A4 ad l c eb pb d0 d1 d2 true d4 d5 (a.put (some 23) (.pointer (some ⟨pb,0,none⟩))):=⟨A.df,(asp ..).trans A.size,(awL _ _ _ _ aI).trans A.e0,(awL _ _ _ _ aI).trans A.e5,λh=>(awL _ _ _ _ aI).trans (A.e20 h),λh=>(awL _ _ _ _ aI).trans (A.e21 h),λh=>(awL _ _ _ _ aI).trans (A.XK h),λ_=>awM _ _ _ (by rw[A.size];decide),λh=>(awL _ _ _ _ aI).trans (A.e24 h),λh=>(awL _ _ _ _ aI).trans (A.e25 h)⟩
theorem A4.p4(A:A4 ad l c eb pb d0 d1 d2 d3 d4 d5 a):A4 ad l c eb pb d0 d1 d2 d3 true d5 (a.put (some 24) (.pointer (some ⟨eb,0,none⟩))):=⟨A.df,(asp ..).trans A.size,(awL _ _ _ _ aI).trans A.e0,(awL _ _ _ _ aI).trans A.e5,λh=>(awL _ _ _ _ aI).trans (A.e20 h),λh=>(awL _ _ _ _ aI).trans (A.e21 h),λh=>(awL _ _ _ _ aI).trans (A.XK h),λh=>(awL _ _ _ _ aI).trans (A.e23 h),λ_=>awM _ _ _ (by rw[A.size];decide),λh=>(awL _ _ _ _ aI).trans (A.e25 h)⟩
theorem A4.p5(A:A4 ad l c eb pb d0 d1 d2 d3 d4 d5 a):A4 ad l c eb pb d0 d1 d2 d3 d4 true (a.put (some 25) (.slice ad l c)):=⟨A.df,(asp ..).trans A.size,(awL _ _ _ _ aI).trans A.e0,(awL _ _ _ _ aI).trans A.e5,λh=>(awL _ _ _ _ aI).trans (A.e20 h),λh=>(awL _ _ _ _ aI).trans (A.e21 h),λh=>(awL _ _ _ _ aI).trans (A.XK h),λh=>(awL _ _ _ _ aI).trans (A.e23 h),λh=>(awL _ _ _ _ aI).trans (A.e24 h),λ_=>awM _ _ _ (by rw[A.size];decide)⟩
theorem A4.p6(u:aad)(A:A4 ad l c eb pb d0 d1 d2 d3 d4 d5 a):A4 ad l c eb pb d0 d1 d2 d3 d4 d5 (a.put (some 26) (u)):=⟨A.df,(asp ..).trans A.size,(awL _ _ _ _ aI).trans A.e0,(awL _ _ _ _ aI).trans A.e5,λh=>(awL _ _ _ _ aI).trans (A.e20 h),λh=>(awL _ _ _ _ aI).trans (A.e21 h),λh=>(awL _ _ _ _ aI).trans (A.XK h),λh=>(awL _ _ _ _ aI).trans (A.e23 h),λh=>(awL _ _ _ _ aI).trans (A.e24 h),λh=>(awL _ _ _ _ aI).trans (A.e25 h)⟩
theorem S4.p0(A:S4 ad l c cs eb nb sb pb mb fn bs la lc ps K h N d0 d1 d2 d3 d4 d5 d6 a w):S4 ad l c cs eb nb sb pb mb fn bs la lc ps K h N true d1 d2 d3 d4 d5 d6 (a.put (some 20) (.pointer (some ⟨eb,0,none⟩))) w:=⟨A.toA4.p0,A.xY,A.kn,λhd=>by rw[awL _ _ _ _ aI];exact A.e26 hd⟩
theorem S4.p1(A:S4 ad l c cs eb nb sb pb mb fn bs la lc ps K h N d0 d1 d2 d3 d4 d5 d6 a w):S4 ad l c cs eb nb sb pb mb fn bs la lc ps K h N d0 true d2 d3 d4 d5 d6 (a.put (some 21) (.pointer (some ⟨eb,0,none⟩))) w:=⟨A.toA4.p1,A.xY,A.kn,λhd=>by rw[awL _ _ _ _ aI];exact A.e26 hd⟩
theorem S4.p2(A:S4 ad l c cs eb nb sb pb mb fn bs la lc ps K h N d0 d1 d2 d3 d4 d5 d6 a w):S4 ad l c cs eb nb sb pb mb fn bs la lc ps K h N d0 d1 true d3 d4 d5 d6 (a.put (some 22) (.pointer (some ⟨eb,2,none⟩))) w:=⟨A.toA4.p2,A.xY,A.kn,λhd=>by rw[awL _ _ _ _ aI];exact A.e26 hd⟩
theorem S4.p3(A:S4 ad l c cs eb nb sb pb mb fn bs la lc ps K h N d0 d1 d2 d3 d4 d5 d6 a w):S4 ad l c cs eb nb sb pb mb fn bs la lc ps K h N d0 d1 d2 true d4 d5 d6 (a.put (some 23) (.pointer (some ⟨pb,0,none⟩))) w:=⟨A.toA4.p3,A.xY,A.kn,λhd=>by rw[awL _ _ _ _ aI];exact A.e26 hd⟩
theorem S4.p4(A:S4 ad l c cs eb nb sb pb mb fn bs la lc ps K h N d0 d1 d2 d3 d4 d5 d6 a w):S4 ad l c cs eb nb sb pb mb fn bs la lc ps K h N d0 d1 d2 d3 true d5 d6 (a.put (some 24) (.pointer (some ⟨eb,0,none⟩))) w:=⟨A.toA4.p4,A.xY,A.kn,λhd=>by rw[awL _ _ _ _ aI];exact A.e26 hd⟩
theorem S4.p5(A:S4 ad l c cs eb nb sb pb mb fn bs la lc ps K h N d0 d1 d2 d3 d4 d5 d6 a w):S4 ad l c cs eb nb sb pb mb fn bs la lc ps K h N d0 d1 d2 d3 d4 true d6 (a.put (some 25) (.slice ad l c)) w:=⟨A.toA4.p5,A.xY,A.kn,λhd=>by rw[awL _ _ _ _ aI];exact A.e26 hd⟩
theorem Zi{i:Nat}(hb:(d3&& !d2||d2&& !d1||d1&& !d0||d6&& !d4||d6&& !d5||d7&& !d6||d7&& !d3)=false)(hi:i∈asi .any eG #[d0,d1,d2,d3,d4,d5,d6,d7]):Bu d0 d1 d2 d3 d4 d5 d6 d7 i=true:=by
 have h:=EN d0 d1 d2 d3 d4 d5 d6 d7;rw[hb,awV]at h;unfold ab7 at h;rw[anh]at h;exact List.all_eq_true.1 h.2 i hi
theorem ZQ(hb:(d3&& !d2||d2&& !d1||d1&& !d0||d6&& !d4||d6&& !d5||d7&& !d6||d7&& !d3)=false)(hi:asi .any eG #[d0,d1,d2,d3,d4,d5,d6,d7]= []):d7=true:=by
 have h:=EN d0 d1 d2 d3 d4 d5 d6 d7;rw[hb,awV]at h;unfold ab7 at h;rw[anh,hi]at h;exact(by simpa using h.1:_∧d7=true).2
theorem _root_.Go.Upr.af.off{v v1:aly}{T T':Nat→am6→Nat}{D:Nat→Prop}(h:af D (ax v T) (ax v1 T'))(ht:v1.tape=v.tape):af D v v1:=⟨h.os,ht,h.output,h.size,h.block⟩
theorem qN.turn(E:qN w eb nb sb pb mb fn bs F la lc ps K N)(ht:af (λb=>∃p∈bs,p.2=b) w w')(hS:aq w' sb bs F'):qN w' eb nb sb pb mb fn bs F' la lc ps K N:=by
 have hc: ∀ {b cs t},w.heap[b]? =some (.cells cs t)→¬ ∃p∈bs,p.2=b:=by
  rintro b cs t hb ⟨p,hp,rfl⟩;obtain⟨es,cl,h1,_⟩:=E.store.dy p hp;rw[h1]at hb;cases hb
 have hN: ∀ {b},N≤b→¬ ∃p∈bs,p.2=b:=by
  rintro b hb ⟨p,hp,rfl⟩;have:=E.low.2 p hp;omega
 refine⟨ht.kept E.xY (hc E.xY),E.names.turn ht λh=>E.KR.2 (.inr h),hS,E.low,E.KR,E.KS,ht.kept E.pipe (hc E.pipe),λj p hp=>?_,E.byName.turn ht λh=>E.KS.2 (.inr h),λp hp=>⟨(E.lays p hp).1,(E.lays p hp).2.keep (E.lays p hp).1 λa o _ ha ho=>ht.kept ho (hN ha)⟩,E.known.turn ht λb o hb=>hN (E.news b o hb),E.new,E.news,E.KQ,E.S0⟩;obtain⟨al,lo,cur,h1,h2,h3,h4⟩:=E.list j p hp;exact⟨al,lo,cur,h1,ht.kept h2 (hc h2),h3,h4⟩
def FI(d0 d1 d2 d3 d4 d5 d6 d7:Bool):Nat:=(if d0 then 0 else 1)+(if d1 then 0 else 1)+(if d2 then 0 else 1)+(if d3 then 0 else 1)+(if d4 then 0 else 1)+(if d5 then 0 else 1)+(if d6 then 0 else 1)+(if d7 then 0 else 1)
theorem run_move{P:Program}{ρ:ang→aad}{o:Oper}{x:ang}(h:o.op= .move x)(w:aly):(execOp ρ o).run P w= .ok (.value (ρ x)) w:=by
 obtain⟨dst,op,ty,pos,after,guard⟩:=o;dsimp only at h;subst h;rfl
theorem afh(A:S4 ad l c cs eb nb sb pb mb fn bs la lc ps K h N d0 d1 d2 d3 d4 d5 d6 a w){rest:List Nat}(hs: ∀a',S4 ad l c cs eb nb sb pb mb fn bs la lc ps K h N true d1 d2 d3 d4 d5 d6 a' w→az Tryz.prog bG Q f w e s (base 39) a' (.inRegion eG rest::k) cs1):az Tryz.prog bG Q f w e s (base 39) a (.inRegion eG (0::rest)::k) cs1:=by
 refine az.one fC (.pointer (some ⟨eb,0,none⟩)) rfl rfl (base_kind _) mE (λT=>?_) (hs _ A.p0);exact(run_move rfl _).trans (by rw[A.e5])
theorem afg(A:S4 ad l c cs eb nb sb pb mb fn bs la lc ps K h N true d1 d2 d3 d4 d5 d6 a w){rest:List Nat}(hs: ∀a',S4 ad l c cs eb nb sb pb mb fn bs la lc ps K h N true true d2 d3 d4 d5 d6 a' w→az Tryz.prog bG Q f w e s (base 39) a' (.inRegion eG rest::k) cs1):az Tryz.prog bG Q f w e s (base 39) a (.inRegion eG (1::rest)::k) cs1:=by
 refine az.one fC (.pointer (some ⟨eb,0,none⟩)) rfl rfl (base_kind _) mE (λT=>?_) (hs _ A.p1);have e1:=A.e20 rfl;revert e1;generalize a.eval=ρ;intro e1;simp[go_sem,e1]
theorem aff(A:S4 ad l c cs eb nb sb pb mb fn bs la lc ps K h N d0 true d2 d3 d4 d5 d6 a w){rest:List Nat}(hs: ∀a',S4 ad l c cs eb nb sb pb mb fn bs la lc ps K h N d0 true true d3 d4 d5 d6 a' w→az Tryz.prog bG Q f w e s (base 39) a' (.inRegion eG rest::k) cs1):az Tryz.prog bG Q f w e s (base 39) a (.inRegion eG (2::rest)::k) cs1:=by
 refine az.one fC (.pointer (some ⟨eb,2,none⟩)) rfl rfl (base_kind _) mE (λT=>?_) (hs _ A.p2);have e1:=A.e21 rfl;revert e1;generalize a.eval=ρ;intro e1;simp[go_sem,e1]
theorem afe(A:S4 ad l c cs eb nb sb pb mb fn bs la lc ps K h N d0 d1 true d3 d4 d5 d6 a w){rest:List Nat}(hs: ∀a',S4 ad l c cs eb nb sb pb mb fn bs la lc ps K h N d0 d1 true true d4 d5 d6 a' w→az Tryz.prog bG Q f w e s (base 39) a' (.inRegion eG rest::k) cs1):az Tryz.prog bG Q f w e s (base 39) a (.inRegion eG (3::rest)::k) cs1:=by
 refine az.one fC (.pointer (some ⟨pb,0,none⟩)) rfl rfl (base_kind _) mE (λT=>?_) (hs _ A.p3);have e1:=A.XK rfl;revert e1;generalize a.eval=ρ;intro e1;obtain⟨_,_,l2,_⟩:=bI (w:=ax w T) A.xY.xY;simp[go_sem,e1,l2]
theorem afd(A:S4 ad l c cs eb nb sb pb mb fn bs la lc ps K h N d0 d1 d2 d3 d4 d5 d6 a w){rest:List Nat}(hs: ∀a',S4 ad l c cs eb nb sb pb mb fn bs la lc ps K h N d0 d1 d2 d3 true d5 d6 a' w→az Tryz.prog bG Q f w e s (base 39) a' (.inRegion eG rest::k) cs1):az Tryz.prog bG Q f w e s (base 39) a (.inRegion eG (4::rest)::k) cs1:=by
 refine az.one fC (.pointer (some ⟨eb,0,none⟩)) rfl rfl (base_kind _) mE (λT=>?_) (hs _ A.p4);exact(run_move rfl _).trans (by rw[A.e5])
theorem afc(A:S4 ad l c cs eb nb sb pb mb fn bs la lc ps K h N d0 d1 d2 d3 d4 d5 d6 a w){rest:List Nat}(hs: ∀a',S4 ad l c cs eb nb sb pb mb fn bs la lc ps K h N d0 d1 d2 d3 d4 true d6 a' w→az Tryz.prog bG Q f w e s (base 39) a' (.inRegion eG rest::k) cs1):az Tryz.prog bG Q f w e s (base 39) a (.inRegion eG (5::rest)::k) cs1:=by
 refine az.one fC (.slice ad l c) rfl rfl (base_kind _) mE (λT=>?_) (hs _ A.p5);exact(run_move rfl _).trans (by rw[A.e0])
theorem _root_.Go.Upr.aw.adq{α:Type}{v:aly}{T:Nat→am6→Nat}{M ee sz:Nat}{R:Hp→List aad→α→Prop}{k:Hp}{u:aad}{xs:List α}(h:aw (ax v T) M ee sz R k u xs):aw v M ee sz R k u xs:=by
 obtain⟨a1,a2,dS,h1,h2,h3,h4,h5⟩:=h;exact⟨λb o hb=>a1 b o hb,a2,dS,h1,h2,h3,h4,h5⟩
def Ga(bs:dB)(c:cS):Prop:=c.head.ts.length≤3∧bZ c.head.n∧(au bs c.head.n).isSome=true
theorem afb(hcs:h.list 3 cW (.slice ad l c) cs)(hn:cs.length≤1048576)(hsm: ∀c∈cs,Ga bs c)(qg: ∀p∈bs,h p.2=none)(A:S4 ad l c cs eb nb sb pb mb fn bs la lc ps K h N d0 d1 d2 d3 true true false a w){rest:List Nat}
  (hs: ∀a' w',S4 ad l c cs eb nb sb pb mb fn bs la lc ps K h N d0 d1 d2 d3 true true true a' w'→az Tryz.prog bG Q f w' e s (base 39) a' (.inRegion eG rest::k) cs1):az Tryz.prog bG Q f w e s (base 39) a (.inRegion eG (6::rest)::k) cs1:=by
 have ha:(#[.tmp 24,.tmp 25]:Array ang).map a.eval= #[.pointer (some ⟨eb,0,none⟩),.slice ad l c]:=by
  have h1:=A.e24 rfl;have h2:=A.e25 rfl;revert h1 h2;generalize a.eval=ρ;intro h1 h2;simp[h1,h2]
 have E:=A.xY;rw[if_neg aI]at E;have E0:qN w eb nb sb pb mb fn bs (λ_=> []) la lc ps K N:=E;refine az.call fC rfl rfl (base_kind _) rfl Tryz.func80 rfl rfl mE mE (args:= #[.pointer (some ⟨eb,0,none⟩),.slice ad l c]) ha
  (Post:=λw u w'=>af (λb=>∃p∈bs,p.2=b) w w'∧aq w' sb bs (jc (λ_=> []) cs).1∧aw w' w.heap.size 156 5 dH h u (jc (λ_=> []) cs).2∧mG w' u (Flat ·=true)) (λT=>?_) λT T' u v1 ht hp=>?_
 ·refine(c80 (h:=h) (w:=ax w T) A.kn E0.xY (E0.store.keep λ_ _ _ _ h=>h) qg hcs hn hsm).mono ?_;rintro ex w' ⟨v,rfl,h1⟩;exact⟨v,rfl,h1⟩
 ·obtain⟨h1,h2,h3,h4⟩:=hp;have jh:=h1.off ht;have Fl:aq v1 sb bs (jc (λ_=> []) cs).1:=h2.keep λ_ _ _ _ h=>h;refine hs _ _ ⟨A.toA4.p6 u,by rw[if_pos rfl];exact E0.turn jh Fl,A.kn.turn jh ?_,λ_=>⟨w.heap.size,?_⟩⟩
  ·rintro b o hb ⟨p,hp,rfl⟩;rw[qg p hp]at hb;cases hb
  ·show lL v1 w.heap.size 156 5 dH h ((a.put (some 26) u).eval (.tmp 26)) (jc (λ_=> []) cs).2;rw[awM _ _ _ (by rw[A.size];decide)];exact⟨h3.adq,λg hg=>h4 g hg⟩
theorem ake(hcs:h.list 3 cW (.slice ad l c) cs)(hn:cs.length≤1048576)(hsm: ∀c∈cs,Ga bs c)(qg: ∀p∈bs,h p.2=none)
  (hs: ∀a' w',S4 ad l c cs eb nb sb pb mb fn bs la lc ps K h N true true true true true true true a' w'→az Tryz.prog bG Q f w' e s (base 39) a' (.inRegion eG [7]::k) cs1):
  ∀ (fuel t:Nat) (d0 d1 d2 d3 d4 d5 d6:Bool) (a:Act) (w:aly),FI d0 d1 d2 d3 d4 d5 d6 false=fuel+1→(d3&& !d2||d2&& !d1||d1&& !d0||d6&& !d4||d6&& !d5||false&& !d6||false&& !d3)=false→S4 ad l c cs eb nb sb pb mb fn bs la lc ps K h N d0 d1 d2 d3 d4 d5 d6 a w→
   az Tryz.prog bG Q f w e s (base 39) a (.inRegion eG (asl .any eG (fuel+1) t #[d0,d1,d2,d3,d4,d5,d6,false] [])::k) cs1:=by
 intro fuel
 induction fuel with
 |zero=>
  intro t d0 d1 d2 d3 d4 d5 d6 a w hc hb h;obtain⟨rfl,rfl,rfl,rfl,rfl,rfl,rfl⟩:d0=true∧d1=true∧d2=true∧d3=true∧d4=true∧d5=true∧d6=true:=by
   clear h;cases d0<;>cases d1<;>cases d2<;>cases d3<;>cases d4<;>cases d5<;>cases d6<;>first|exact⟨rfl,rfl,rfl,rfl,rfl,rfl,rfl⟩|exact absurd hb aI|exact absurd hc aI
  have hr:asi .any eG #[true,true,true,true,true,true,true,false]= [7]:=by decide+kernel
  simp only[asl]
  change az Tryz.prog bG Q f w e s (base 39) a (.inRegion eG (match(asi .any eG #[true,true,true,true,true,true,true,false])[t % (asi .any eG #[true,true,true,true,true,true,true,false]).length]? with
   |some i=> [i].reverse
   |none=> [].reverse)::k) cs1
  rw[hr];simp only[List.length_singleton,Nat.mod_one,List.getElem?_cons_zero];exact hs _ _ h
 |succ fuel ih=>
  intro t d0 d1 d2 d3 d4 d5 d6 a w hc hb h;rw[awQ];dsimp only
  change az Tryz.prog bG Q f w e s (base 39) a (.inRegion eG (match(asi .any eG #[d0,d1,d2,d3,d4,d5,d6,false])[t % (asi .any eG #[d0,d1,d2,d3,d4,d5,d6,false]).length]? with
   |some i=>asl .any eG (fuel+1) (t/ (asi .any eG #[d0,d1,d2,d3,d4,d5,d6,false]).length) ((#[d0,d1,d2,d3,d4,d5,d6,false]:Array Bool).setIfInBounds i true) [i]
   |none=> [].reverse)::k) cs1
  cases hi:(asi .any eG #[d0,d1,d2,d3,d4,d5,d6,false])[t % (asi .any eG #[d0,d1,d2,d3,d4,d5,d6,false]).length]? with
  |none=>
   exfalso;have hnil:asi .any eG #[d0,d1,d2,d3,d4,d5,d6,false]= []:=by
    cases hr:asi .any eG #[d0,d1,d2,d3,d4,d5,d6,false]with
    |nil=>rfl
    |cons x xs=>
     rw[hr]at hi;have hlt:t % (x::xs).length<(x::xs).length:=Nat.mod_lt _ bz;simp at hi;simp at hlt;omega
   have:=ZQ hb hnil;cases this
  |some i=>
   have hm:=Zi hb (ann hi);simp only[];rw[linearise_go_acc,List.reverse_singleton,List.singleton_append];have h6:i=0∨i=1∨i=2∨i=3∨i=4∨i=5∨i=6∨i=7:=by
    simp only[Bu,Bool.or_eq_true,anh,beq_iff_eq]at hm;omega
   rcases h6 with rfl|rfl|rfl|rfl|rfl|rfl|rfl|rfl
   ·obtain rfl:d0=false:=by simpa[Bu,and_assoc]using hm
    exact afh h λa' h'=>ih _ true d1 d2 d3 d4 d5 d6 a' w (by simp[FI]at hc⊢;omega) (by revert hb;clear h' hi hm h ih hc;revert d1 d2 d3 d4 d5 d6;decide) h'
   ·obtain⟨rfl,rfl⟩:d1=false∧d0=true:=by simpa[Bu,and_assoc]using hm
    exact afg h λa' h'=>ih _ true true d2 d3 d4 d5 d6 a' w (by simp[FI]at hc⊢;omega) (by revert hb;clear h' hi hm h ih hc;revert d2 d3 d4 d5 d6;decide) h'
   ·obtain⟨rfl,rfl⟩:d2=false∧d1=true:=by simpa[Bu,and_assoc]using hm
    exact aff h λa' h'=>ih _ d0 true true d3 d4 d5 d6 a' w (by simp[FI]at hc⊢;omega) (by revert hb;clear h' hi hm h ih hc;revert d0 d3 d4 d5 d6;decide) h'
   ·obtain⟨rfl,rfl⟩:d3=false∧d2=true:=by simpa[Bu,and_assoc]using hm
    exact afe h λa' h'=>ih _ d0 d1 true true d4 d5 d6 a' w (by simp[FI]at hc⊢;omega) (by revert hb;clear h' hi hm h ih hc;revert d0 d1 d4 d5 d6;decide) h'
   ·obtain rfl:d4=false:=by simpa[Bu,and_assoc]using hm
    exact afd h λa' h'=>ih _ d0 d1 d2 d3 true d5 d6 a' w (by simp[FI]at hc⊢;omega) (by revert hb;clear h' hi hm h ih hc;revert d0 d1 d2 d3 d5 d6;decide) h'
   ·obtain rfl:d5=false:=by simpa[Bu,and_assoc]using hm
    exact afc h λa' h'=>ih _ d0 d1 d2 d3 d4 true d6 a' w (by simp[FI]at hc⊢;omega) (by revert hb;clear h' hi hm h ih hc;revert d0 d1 d2 d3 d4 d6;decide) h'
   ·obtain⟨rfl,rfl,rfl⟩:d6=false∧d4=true∧d5=true:=by simpa[Bu,and_assoc]using hm
    exact afb hcs hn hsm qg h λa' w' h'=>ih _ d0 d1 d2 d3 true true true a' w' (by simp[FI]at hc⊢;omega) (by revert hb;clear h' hi hm h ih hc;revert d0 d1 d2 d3;decide) h'
   ·exfalso;obtain⟨rfl,rfl,rfl,rfl,rfl,rfl,rfl⟩:d0=true∧d1=true∧d2=true∧d3=true∧d4=true∧d5=true∧d6=true:=by simpa[Bu,and_assoc]using hm
    simp[FI]at hc
theorem YY(hcs:h.list 3 cW (.slice ad l c) cs)(hn:cs.length≤1048576)(hsm: ∀c∈cs,Ga bs c)(qg: ∀p∈bs,h p.2=none)(A:A4 ad l c eb pb false false false false false false a)(E:qN w eb nb sb pb mb fn bs (λ_=> []) la lc ps K N)(hk:h.In w)
  (hs: ∀a' w',S4 ad l c cs eb nb sb pb mb fn bs la lc ps K h N true true true true true true true a' w'→az Tryz.prog bG Q f w' e s (base 39) a' (.inRegion eG [7]::k) cs1):az Tryz.prog bG Q f w e s (base 39) a (.code (.region 4 eG true)::k) cs1:=
 az.draw mixed λt=>ake hcs hn hsm qg hs 7 t false false false false false false false a w rfl rfl ⟨A,E,hk,λh=>nomatch h⟩
end
end
end Go.Proofs.YtkdljbnllgpfhaaGreat
end
section
namespace Go.Proofs
open Go.Shelf
def Tryz.CL:asR:=⟨λ|7=>76|10=>135|n=>n,λ|23=>97|26=>9|3=>107|28=>149|0=>0|27=>148|33=>28|4=>4|n=>n,λ|n=>n⟩
theorem Tryz.Ur:awU Tryz.prog Tryz.CL:={
 mixed:=by kernel_rfl
 f7:=⟨Tryz.f76.name,by decide,Tryz.func76.trans (congrArg some ar)⟩
 f10:=⟨Tryz.f135.name,by decide,Tryz.func135.trans (congrArg some ar)⟩
 t0:=Tryz.underlying0
 a0:=Tryz.isAgg0
 z0:=Tryz.sizeOf0
 v0:=Tryz.zeroValue0
 t4:=Tryz.underlying4
 a4:=Tryz.isAgg4
 z4:=Tryz.sizeOf4
 v4:=Tryz.zeroValue4
 t23:=Tryz.underlying97
 a23:=Tryz.isAgg97
 z23:=Tryz.sizeOf97
 v23:=Tryz.zeroValue97
 t26:=Tryz.underlying9
 a26:=Tryz.isAgg9
 z26:=Tryz.sizeOf9
 v26:=Tryz.zeroValue9
 t27:=Tryz.underlying148
 a27:=Tryz.isAgg148
 z27:=Tryz.sizeOf148
 v27:=Tryz.zeroValue148
 t28:=Tryz.underlying149
 a28:=Tryz.isAgg149
 z28:=Tryz.sizeOf149
 v28:=Tryz.zeroValue149
 t33:=Tryz.underlying28
 a33:=Tryz.isAgg28
 z33:=Tryz.sizeOf28
 v33:=Tryz.zeroValue28}
def Tryz.DG:asR:=⟨λ|8=>75|11=>134|n=>n,λ|26=>9|28=>149|24=>23|0=>0|33=>28|4=>4|n=>n,λ|n=>n⟩
theorem Tryz.EK:awT Tryz.prog Tryz.DG:={
 mixed:=by kernel_rfl
 f8:=⟨Tryz.f75.name,by decide,Tryz.func75.trans (congrArg some ar)⟩
 f11:=⟨Tryz.f134.name,by decide,Tryz.func134.trans (congrArg some ar)⟩
 t0:=Tryz.underlying0
 a0:=Tryz.isAgg0
 z0:=Tryz.sizeOf0
 v0:=Tryz.zeroValue0
 t24:=Tryz.underlying23
 a24:=Tryz.isAgg23
 z24:=Tryz.sizeOf23
 v24:=Tryz.zeroValue23
 t26:=Tryz.underlying9
 a26:=Tryz.isAgg9
 z26:=Tryz.sizeOf9
 v26:=Tryz.zeroValue9
 t28:=Tryz.underlying149
 a28:=Tryz.isAgg149
 z28:=Tryz.sizeOf149
 v28:=Tryz.zeroValue149
 i26:=by kernel_rfl}
end Go.Proofs
namespace Go.Proofs.YtkdljbnllgpfhaaGreat
open Go Go.RowKit Go.Upr Go.Sort Go.Maps
abbrev aeW:aad→Option (awW Unit×List MemPlace):=λ_=>some (.nil,[])
theorem zN{H:Type}(x:aw1×awW H): ∀l:List (aw1×awW H),(awN x l).Perm (x::l)
 | []=> .refl _
 |y::r=>by
  unfold awN;split
  ·exact .refl _
  ·exact((zN x r).cons y).trans (.swap x y r)
theorem tM{H:Type}: ∀l:List (aw1×awW H),(l.foldr awN []).Perm l
 | []=> .refl _
 |x::r=>(zN x _).trans ((tM r).cons x)
theorem CI{ν:Type}{enc:ν→aad}{w:aly}{b:Nat}{f:List (ByteArray×ν)}(h:av w bZ at5 enc b f)(hn:f.length≤maxLen):
  ∃D:awW Unit,w.ownsMap Tryz.prog 9 aeW b f.length D∧awZ D=f.length∧(strKeys D).Perm (f.map λp=>p.1.data.toList):=by
 obtain⟨es,clock,hb,hf⟩:=h;have hk: ∀e∈es.toList,∃y:ByteArray,keyOf Tryz.prog 9 e.key=some (.string y.data.toList):=λe he=>by
  obtain⟨y,hy,h1⟩:=hf.keys e he;exact⟨y,by rw[h1];exact auz Tryz.underlying9 hy⟩
 have hr:es.toList.map (awO Tryz.prog 9 aeW)=f.map λp=>(Go.Lit.string p.1.data.toList,(DataW.nil:awW Unit)):=by
  refine List.ext_getElem? λj=>?_;have h1:=hf.at j;rw[anr,anr];cases he:es.toList[j]? with
  |none=>
   rw[he]at h1;cases hp:f[j]? with
   |none=>rfl
   |some p=>rw[hp]at h1;cases h1
  |some e=>
   rw[he]at h1;cases hp:f[j]? with
   |none=>rw[hp]at h1;cases h1
   |some p=>
    rw[hp]at h1;have h2:e.key= .string p.1:=(Prod.ext_iff.1 (alN h1)).1;have h3:bZ p.1:=hf.good p (ann hp);show some _=some _;unfold awO awP;rw[h2,auz Tryz.underlying9 h3];rfl
 refine⟨_,⟨es,clock,hb,⟨by rw[hf.size];exact hn,?_,?_⟩,by rw[hf.size];exact agl _,rfl⟩,?_,?_⟩
 ·refine⟨hf.before,hf.stamps,?_⟩;have h1:es.toList.map (·.key)=(f.map aug).map at5:=by
   have:=congrArg (List.map aug) hf.rows;simpa[au0,awz]using this
  rw[h1];exact(List.pairwise_map.2 (hf.once.imp λh e=>h (by injection e)))
 ·intro x hx;obtain⟨y,hy⟩:=hk x hx;exact⟨_,by unfold awP;rw[hy];rfl⟩
 ·rw[hr];show List.length _=_;rw[(tM _).length_eq,auB]
 ·rw[hr];refine((tM _).map _).trans ?_;rw[au0];exact .refl _
theorem c76(mb:Option Nat)(w:aly):asP Tryz.prog 76 #[.map mb] w λe w'=>e= .returned (.func (.func 135) #[] #[.pointer (some ⟨w.heap.size,0,none⟩)])∧w'=w.alloc (.cells #[.map mb] 97):=
 (av7 (n:=5)).1 (AnyZ.keys_in Tryz.Ur avM 5 trivial rfl mb w)
theorem Ro: ∀args w,(callFunc 135 args).run Tryz.prog w= .ok (.enter 135 args) w:=enters_of Tryz.func135 ar rfl
theorem c75{ν:Type}{enc:ν→aad}{w:aly}{b bm:Nat}{f:List (ByteArray×ν)}(h:av w bZ at5 enc b f)(hn:f.length≤1099511627776)(hc:w.cell? ⟨bm,0,none⟩=some (.map (some b))):
  asP Tryz.prog 75 #[.func (.func 135) #[] #[.pointer (some ⟨bm,0,none⟩)]] w λe w'=>∃ad l c ns,e= .returned (.slice ad l c)∧af (λ_=>False) w w'∧ns.Perm (f.map aug)∧
   ∃k:Hp,k.In w'∧(∀b o,k b=some o→w.heap.size≤b)∧k.list 1 gX (.slice ad l c) ns:=by
 obtain⟨D,hD,hs,hp⟩:=CI h (by unfold maxLen;omega);have hbm:=World.block_lt_of_cell? w _ hc;have hseq:SeqGives avM 4 Tryz.prog 135 #[.pointer (some ⟨bm,0,none⟩)] encStr (λss=>ss.Perm (strKeys D)) (awZ D) w:=
  AnyZ.keys_gives (ρ:=Tryz.CL) {Tryz.Ur with} avM _ trivial rfl aj bm b _ D w hbm hc hD
 have abG:=(av7 (n:=6)).1 (AnyZ.collect_in Tryz.EK avM 6 trivial trivial rfl aj 135 _ trivial Ro _ _ (by rw[hs];unfold maxLen;omega) (by rw[hs];omega) w hseq);refine abG.mono ?_;rintro e w' ⟨v,ss,rfl,hS,hrow,-,hbl⟩;have hrow':w'.ownsRow w.heap.size 9 1 v (ss.map λx=>(⟨x.toArray⟩:ByteArray)).length (ss.map λx=> [at5 ⟨x.toArray⟩]).flatten:=by
  have e1:(ss.map λx=> [at5 ⟨x.toArray⟩]).flatten=ss.map encStr:=by
   clear hS hrow
   induction ss with
   |nil=>rfl
   |cons x l ih=>rw[amY,List.flatten_cons,ih];rfl
  rw[e1,auB];exact hrow
 obtain⟨k,h1,-,h3,h4⟩:=rL (k0:=λ_=>none) (R:=gX) (λ_ _ h=>nomatch h) hrow' bz bz (λk _ i c x hc hx=>by
  rw[anr]at hc hx;cases hy:ss[i]? with
  |none=>rw[hy]at hc;cases hc
  |some y=>rw[hy]at hc hx;cases hc;cases hx;rfl)
 obtain⟨ad,cp,rfl⟩:=h4.shape;refine⟨ad,_,cp,_,rfl,af.ue hbl,?_,k,h1,λb o hb=>?_,h4⟩
 ·have h5:=(hS.trans hp).map λx=>(⟨x.toArray⟩:ByteArray);rw[au0]at h5;exact h5
 ·rcases h3 b o hb with h6|h6
  ·cases h6
  ·exact(hrow.lt b h6).1
end Go.Proofs.YtkdljbnllgpfhaaGreat
end
section
namespace Go.Proofs.YtkdljbnllgpfhaaGreat
open Go Go.RowKit Go.Upr Go.Conc
structure Ld(cs:List cS)(Ls:List Lay)(R:Nat→aN→Prop):Prop where
 len:cs.length≤1048576
 small: ∀cl∈cs,Small 1099511627776 cl
 body: ∀k,(a_ (cs.take k)).length≤1099511627776
 layers: ∃hN: ∀x∈a_ cs,bZ x,Ls=(qc (dz cs) cs (a_ cs) (iz (dz cs) (a_ cs) hN)).2
 ne:a_ cs≠ []
 few:(a_ cs).length<20
 adt:(cJ cs).length≤1048576
 lays:Ls.length≤100
 rules: ∀L∈Ls,L.rules.length≤1048576∧∀c∈L.rules,yD c∧bZ c.head.n
 heads: ∀c∈cs,c.head.ts.length≤3∧bZ c.head.n∧c.head.n∈(cJ cs).map aug
 base:(jc (λ_=> []) cs).2.length≤1048576
 start:R 0 (jc (λ_=> []) cs).1
 step: ∀sb bs ps K N,((cJ cs).map aug).Perm (bs.map aug)→ps.map auw=Ls→(∀p∈ps,p.1.1=p.2.jV)→(sb<N∧∀p∈bs,p.2<N)→dX N K→(∀b o,K b=some o→N≤b)→(∀p∈ps,N≤p.1.2)→tJ sb bs ps K N R
section
variable{f:Ren}{v:aly}{e s:Nat→Option Obj}{h:Hp}{ad:Option alA}{l c:Nat}{cs:List cS}{Ls:List Lay}{R:Nat→aN→Prop}
theorem ZG(hw:h.In v)(hcs:h.list 3 cW (.slice ad l c) cs)(D:Ld cs Ls R):Goes Tryz.prog bG 39 #[.slice ad l c] f v e s (UH v (cJ cs) Ls R):=by
 refine Goes.of Tryz.func39 (c:=ade) rfl λg c0 cs1 hg=>?_;have ha:(#[.slice ad l c]:Array aad)++aps (Tryz.f39.ntmps-(#[.slice ad l c]:Array aad).size) undef= #[.slice ad l c,undef,undef,undef,undef,undef,undef,undef,undef,undef,undef,undef,undef,undef,undef,undef,undef,undef,undef,undef,undef,undef,undef,undef,undef,undef,undef,undef,undef]:=by kernel_rfl
 rw[ha];clear ha;refine fR 60 rfl ?_;walk_nrm;refine acl Tryz.func73 (#[.slice ad l c])
  (Post:=λw u w'=>∃nb,u= .map (some nb)∧w.heap.size≤nb∧af (λ_=>False) w w'∧av w' bZ at5 Kg nb (cJ cs)) (λT=>?_) λT T' u v1 jh zY=>?_
 ·refine(c73 (h:=h) (w:=ax v T) hw hcs (by have:=D.len;omega) D.small).mono ?_;rintro ex w' ⟨nb,rfl,h1⟩;exact⟨_,rfl,nb,rfl,h1⟩
 obtain⟨nb,rfl,AL,je,uQ⟩:=zY;replace je:=je.off jh;replace uQ:av v1 bZ at5 Kg nb (cJ cs):=uQ;replace AL:v.heap.size≤nb:=AL;walk_nrm;refine fR 60 rfl ?_;walk_nrm;refine acl Tryz.func76 (#[.map (some nb)])
  (Post:=λw u w'=>u= .func (.func 135) #[] #[.pointer (some ⟨w.heap.size,0,none⟩)]∧w'=w.alloc (.cells #[.map (some nb)] 97)) (λT=>?_) λT2 T2' u v2 aF zX=>?_
 ·refine(c76 (some nb) (ax v1 T)).mono ?_;rintro ex w' ⟨rfl,rfl⟩;exact⟨_,rfl,rfl,rfl⟩
 obtain⟨rfl,hv2⟩:=zX;have dK:af (λ_=>False) v1 v2:=(show af (λ_=>False) (ax v1 T2) (ax v2 T2') by rw[hv2];exact(af.refl _ _).alloc _).off aF;have hC2:v2.cell? ⟨v1.heap.size,0,none⟩=some (.map (some nb)):=by
  show(ax v2 T2').cell? _=_
  rw[hv2];exact(aqF _ _ 0 _ _ (0,0) (atp (ax v1 T2) _)).trans rfl
 clear hv2;replace uQ:=uQ.turn dK id;walk_nrm;refine acl (hv:=(by simp[go_sem,ax])) Tryz.func75 (#[.func (.func 135) #[] #[.pointer (some ⟨v1.heap.size,0,none⟩)]])
  (Post:=λw u w'=>∃ad l c ns,u= .slice ad l c∧af (λ_=>False) w w'∧ns.Perm ((cJ cs).map aug)∧∃k:Hp,k.In w'∧(∀b o,k b=some o→w.heap.size≤b)∧k.list 1 gX (.slice ad l c) ns) (λT=>?_) λT3 T3' u v3 bX hp3=>?_
 ·refine(c75 (w:=ax v2 T) uQ (by have:=D.adt;omega) hC2).mono ?_;rintro ex w' ⟨a,b,c,d,rfl,h1⟩;exact⟨_,rfl,a,b,c,d,rfl,h1⟩
 obtain⟨na,nl,nc,ns,rfl,eN,AK,k3,hk3,-,WO⟩:=hp3;replace eN:=eN.off bX;replace hk3:k3.In v3:=hk3;have TP: ∀x∈ns,bZ x:=by
  obtain⟨es,cl,-,hH⟩:=uQ;intro x hx;obtain⟨p,hp,rfl⟩:=amk.1 (AK.mem_iff.1 hx);exact hH.good p hp
 have G7:ns.Nodup:=by
  obtain⟨es,cl,-,hH⟩:=uQ;exact AK.nodup_iff.2 hH.once
 replace uQ:=uQ.turn eN id;have hsz:v.heap.size≤v3.heap.size:=al2 je.size (al2 dK.size eN.size);replace hw:h.In v3:=((hw.turn je λ_ _ _=>id).turn dK λ_ _ _=>id).turn eN λ_ _ _=>id;walk_nrm;refine acl Tryz.func74 (#[.slice na nl nc])
  (Post:=λw u w'=>∃sb bs,u= .map (some sb)∧w.heap.size≤sb∧af (λ_=>False) w w'∧aq w' sb bs (λ_=> [])∧bs.map aug=ns∧∀p∈bs,w.heap.size≤p.2) (λT=>?_) λT4 T4' u v4 ck hp4=>?_
 ·refine(c74 (h:=k3) (w:=ax v3 T) hk3 WO (by have:=AK.length_eq;have:=D.adt;rw[auB]at*;omega) G7 TP).mono ?_;rintro ex w' ⟨a,b,rfl,h1⟩;exact⟨_,rfl,a,b,rfl,h1⟩
 obtain⟨sb,bs,rfl,hsb,xX,NF,DT,hbl⟩:=hp4;replace xX:=xX.off ck;replace NF:aq v4 sb bs (λ_=> []):=NF.keep λ_ _ _ _ h=>h;replace hsb:v3.heap.size≤sb:=hsb;replace hbl: ∀p∈bs,v3.heap.size≤p.2:=hbl;have akR:=uQ.lt;have akN:=NF.top.lt;replace uQ:=uQ.turn xX id;have qg: ∀p∈bs,h p.2=none:=by
  intro p hp;cases hh:h p.2 with
  |none=>rfl
  |some o=>
   have h1:=atm (hw _ _ hh);have h2:=hbl p hp;omega
 replace hw:h.In v4:=hw.turn xX λ_ _ _=>id;have akK:v3.heap.size≤v4.heap.size:=xX.size;clear je dK eN xX hC2 WO hk3;walk_nrm;refine fR 60 rfl ?_;walk_nrm;obtain⟨hN,hLs⟩:=D.layers;refine acl Tryz.func78 (#[.slice ad l c])
  (Post:=λw u w'=>∃la lc K,u= .slice la Ls.length lc∧af (λ_=>False) w w'∧K.In w'∧Hp.Ext w.heap.size h K∧K.list 2 rZ (.slice la Ls.length lc) Ls) (λT=>?_) λT5 T5' u v5 bA hp5=>?_
 ·refine(c78 (h:=h) (w:=ax v4 T) hw hcs (by have:=D.len;omega) D.small D.body hN D.ne D.few).mono ?_;rw[←hLs];rintro ex w' ⟨a,b,d,rfl,h1⟩;exact⟨_,rfl,a,b,d,rfl,h1⟩
 obtain⟨la5,lc5,K5,rfl,iW,WX,hX5,Sz⟩:=hp5;replace iW:=iW.off bA;replace WX:K5.In v5:=WX;replace uQ:=uQ.turn iW id;replace NF:=NF.turn iW id λ_ _=>id;replace hw:h.In v5:=hw.turn iW λ_ _ _=>id;have akJ:v4.heap.size≤v5.heap.size:=iW.size;clear iW;walk_nrm;refine fR 60 rfl ?_;walk_nrm;refine acl Tryz.func77 (#[.slice la5 Ls.length lc5,.map (some sb)])
  (Post:=λw u w'=>∃pb mb la lc,∃ (ps:List (LB×Lay)) (K:Hp),u= .pointer (some ⟨pb,0,none⟩)∧af (λ_=>False) w w'∧(w.heap.size≤pb∧pb<w.heap.size+2∧w.heap.size≤mb∧mb<w.heap.size+2)∧K.In w'∧
   w'.heap[pb]? =some (.cells #[.slice la Ls.length lc,.map (some mb)] 185)∧av w' bZ at5 wJ mb (Ks ps)∧K.list 1 Yw (.slice la Ls.length lc) ps∧ps.map auw=Ls∧∃K0:Hp,K0.le K∧K0 pb=none∧dX (w.heap.size+2) K0∧(∀g o,la=some ⟨g,o,none⟩→K0 g=none∧w.heap.size≤g∧∃cur,w'.heap[g]? =some (.cells cur 171))∧∀p∈ps,p.1.1=p.2.jV∧w.heap.size+2≤p.1.2∧fW w' K0 (w.heap.size+2) p.1.1 p.1.2 sb (p.2.rules.map cq)) (λT=>?_) λT6 T6' u v6 bH hp6=>?_
 ·refine(c77 (h:=K5) (w:=ax v5 T) WX Sz (by have:=D.lays;omega) D.rules sb).mono ?_;rintro ex w' ⟨pb,mb,la,lc,ps,K,rfl,q1,q2,q3,-,-,q4,q5,q6,q7,K0,q8,-,q9⟩;exact⟨_,rfl,pb,mb,la,lc,ps,K,rfl,q1,q2,q3,q4,q5,q6,q7,K0,q8,q9⟩
 obtain⟨pb,mb,la,lc,ps,K,rfl,uO,⟨b1,b2,b3,b4⟩,hK,hp,oZ,hl,qJ,K0,hle,hKp,se,qK,mi⟩:=hp6;replace uO:=uO.off bH;obtain⟨eb,heb⟩: ∃x,x=v6.heap.size:=⟨_,rfl⟩;obtain⟨N,hNN⟩: ∃x,x=v5.heap.size+2:=⟨_,rfl⟩;replace b1:v5.heap.size≤pb:=b1;replace b2:pb<N:=by rw[hNN];exact b2
 replace b3:v5.heap.size≤mb:=b3;replace b4:mb<N:=by rw[hNN];exact b4
 have akM:sb<v5.heap.size:=NF.top.lt;have hsN:sb<N:=by omega
 have hbN: ∀p∈bs,p.2<v5.heap.size:=λp hp=>(NF.dy p hp).lt;have hnN:nb<N:=by have:=uQ.lt;omega
 replace uQ:=uQ.turn uO id;replace NF:=NF.turn uO id λ_ _=>id;replace hw:h.In v6:=hw.turn uO λ_ _ _=>id;replace hK:K.In v6:=hK;replace hp:v6.heap[pb]? =some (.cells #[.slice la Ls.length lc,.map (some mb)] 185):=hp;have akI:v5.heap.size≤v6.heap.size:=uO.size;clear uO;replace se:dX N K0:=by rw[hNN];exact se
 replace mi: ∀p∈ps,p.1.1=p.2.jV∧N≤p.1.2∧fW v6 K0 N p.1.1 p.1.2 sb (p.2.rules.map cq):=λq hq=>by
  obtain⟨g1,g2,g3⟩:=mi q hq;rw[hNN];exact⟨g1,g2,g3.keep g2 λ_ _ _ _ h=>h⟩
 walk_nrm;refine fR 60 rfl ?_;refine cQ (.agg #[.map (some nb),.map (some sb),.pointer (some ⟨pb,0,none⟩)]) ?_;walk_nrm;refine fR 60 rfl ?_;refine agr (.pointer (some ⟨eb,0,none⟩)) (.cells #[.map (some nb),.map (some sb),.pointer (some ⟨pb,0,none⟩)] 102) ?_ (hl:=λT=>by rw[heb];simp[go_sem,ax];rfl);walk_nrm;refine fR 60 rfl ?_;walk_nrm;have gI:af (λ_=>False) v6 (v6.alloc (.cells #[.map (some nb),.map (some sb),.pointer (some ⟨pb,0,none⟩)] 102)):=(af.refl _ _).alloc _;have hE:(v6.alloc (.cells #[.map (some nb),.map (some sb),.pointer (some ⟨pb,0,none⟩)] 102)).heap[eb]? =some (.cells #[.map (some nb),.map (some sb),.pointer (some ⟨pb,0,none⟩)] 102):=by rw[heb];exact atp _ _
 generalize v6.alloc (.cells #[.map (some nb),.map (some sb),.pointer (some ⟨pb,0,none⟩)] 102)=v7 at gI hE⊢;have Kl: ∀ {a o},v6.heap[a]? =some o→v7.heap[a]? =some o:=λho=>gI.kept ho id;have hpl:ps.length=Ls.length:=by rw[←qJ,auB]
 have E:qN v7 eb nb sb pb mb (cJ cs) bs (λ_=> []) la lc ps (uF N K0) N:=by
  refine⟨hE,uQ.turn gI id,NF.turn gI id λ_ _=>id,⟨hsN,λp hp=>by have:=hbN p hp;omega⟩,⟨hnN,?_⟩,⟨b4,?_⟩,by rw[hpl];exact Kl hp,λj p hj=>?_,?_,λp hp=>?_,λb o hb=>Kl (hK b o (hle _ _ (Ze _ _ _ _ hb))),se.new,λb o hb=>(xh hb).1,?_,?_⟩
  ·rintro(rfl|⟨q,hq,rfl⟩)
   ·omega
   ·have:=hbl q hq;omega
  ·rintro(rfl|⟨q,hq,rfl⟩)
   ·omega
   ·have:=hbN q hq;omega
  ·obtain⟨lu,cap',e1,hat⟩:=hl.at hK;obtain⟨g',o',c',e2,e3,e4,e5⟩:=hat j p hj;obtain⟨rfl,-,rfl⟩:la=lu∧Ls.length=ps.length∧lc=cap':=by simpa using e1
   obtain⟨f1,f2,cur,f3⟩:=qK g' o' e2;refine⟨g',o',cur,e2,Kl f3,?_,?_⟩
   ·have e6:=e5 0 aI;rw[e4]at e6;rw[aqF v6 g' _ cur 171 (0,0) f3]at e6;simpa using e6
   ·cases hh:uF N K0 g' with
    |none=>rfl
    |some o=>have:=(xh hh).2;rw[f1]at this;cases this
  ·have ahS:av v6 bZ at5 wJ mb (Ks ps):=oZ;exact ahS.turn gI id
  ·obtain⟨g1,g2,g3⟩:=mi p hp;exact⟨g2,(fW.new se g3).keep g2 λa o _ _ ho=>Kl ho⟩
  ·cases hh:uF N K0 pb with
   |none=>rfl
   |some o=>have:=(xh hh).2;rw[hKp]at this;cases this
  ·cases hh:uF N K0 eb with
   |none=>rfl
   |some o=>
    have:=atm (hK _ _ (hle _ _ (xh hh).2));omega
 refine fR 60 rfl ?_;have hlk: ∀c∈cs,Ga bs c:=λc hc=>⟨(D.heads c hc).1,(D.heads c hc).2.1,fL.2 (by rw[DT];exact AK.mem_iff.2 (D.heads c hc).2.2)⟩;refine YY (h:=h) hcs D.len hlk qg ⟨rfl,rfl,rfl,rfl,(λh=>nomatch h),(λh=>nomatch h),(λh=>nomatch h),(λh=>nomatch h),(λh=>nomatch h),(λh=>nomatch h)⟩ E (hw.turn gI λ_ _ _=>id) λa8 v8 S=>?_;obtain⟨M,hm⟩:=S.e26 rfl;have E8:=S.xY;rw[if_pos rfl]at E8;generalize hu:a8.eval (.tmp 26)=u8 at hm;have qm:(#[.tmp 23,.tmp 26]:Array ang).map a8.eval= #[.pointer (some ⟨pb,0,none⟩),u8]:=by
  have h1:=S.e23 rfl;revert h1 hu;generalize a8.eval=ρ;intro hu h1;simp[h1,hu]
 have uZ:((cJ cs).map aug).Perm (bs.map aug):=by rw[DT];exact AK.symm
 refine az.goes rfl rfl (base_kind _) rfl Tryz.func79 rfl rfl mE qm (E8.fill (D.step sb bs ps (uF N K0) N uZ qJ (λp hp=>(mi p hp).1) E.low E.new E.news λp hp=>(E.lays p hp).1) D.start (by rw[hpl];exact D.lays) hm D.base) λu9 v9 hp9=>?_;obtain⟨rfl,F9,hR9,E9⟩:=hp9;refine fR 3 rfl ?_;have e5:(a8.put (some 27) (.tuple #[])).eval (.tmp 5)= .pointer (some ⟨eb,0,none⟩):=(awL _ _ _ _ aI).trans S.e5;have ez:(a8.put (some 27) (.tuple #[])).tmps.size=29:=(asp ..).trans S.size;have ed:(a8.put (some 27) (.tuple #[])).defers= []:=S.df;show az _ _ _ _ _ _ _ _ (a8.put (some 27) (.tuple #[])) _ _;generalize a8.put (some 27) (.tuple #[])=a9 at e5 ez ed⊢;refine cQ (.pointer (some ⟨eb,0,none⟩)) ?_ (hl:=λT=>(run_move rfl _).trans (by rw[e5]));have e28:(a9.put (some 28) (.pointer (some ⟨eb,0,none⟩))).eval (.tmp 28)= .pointer (some ⟨eb,0,none⟩):=awM _ _ _ (by rw[ez];decide);have ez:(a9.put (some 28) (.pointer (some ⟨eb,0,none⟩))).tmps.size=29:=(asp ..).trans ez;have ed:(a9.put (some 28) (.pointer (some ⟨eb,0,none⟩))).defers= []:=ed;show az _ _ _ _ _ _ _ _ (a9.put (some 28) (.pointer (some ⟨eb,0,none⟩))) _ _;generalize a9.put (some 28) (.pointer (some ⟨eb,0,none⟩))=Bq at e28 ez ed⊢;refine cQ (.pointer (some ⟨eb,0,none⟩)) ?_ (hl:=λT=>(show(execOp Bq.eval _).run Tryz.prog _= .ok (.value (Bq.eval (.tmp 28))) _ from rfl).trans (by rw[e28]));refine az.ctl (λa w=>apQ) (az.leave Tryz.func39 (u:= .pointer (some ⟨eb,0,none⟩)) ed (λw=>?_) ⟨eb,nb,sb,pb,mb,bs,F9,la,lc,ps,_,N,rfl,by omega,by omega,E9,qJ,uZ,λp hp=>(mi p hp).1,by rw[←hpl];exact hR9⟩ (Ren.le_refl _));simp[results,go_sem,Tryz.f39,ez]
end
end Go.Proofs.YtkdljbnllgpfhaaGreat
end
section
namespace Go.Proofs.YtkdljbnllgpfhaaGreat
open Go Go.RowKit Go.Upr Go.Conc
noncomputable abbrev afN:Array Oper:=rg Tryz.f17 0
noncomputable abbrev afM:Array Oper:=rg Tryz.f17 1
noncomputable abbrev aan:Array Oper:=rg Tryz.f17 2
noncomputable abbrev aam:Array Oper:=rg Tryz.f17 3
noncomputable abbrev aal:Array Oper:=rg Tryz.f17 4
noncomputable abbrev LX:Code:=((apN 0 afN false).seq ((apN 1 afM false).seq (((apN 2 aan false).seq (aqA (apH 15) ((apN 3 aam false).seq asJ) aqy)).seq ((apN 4 aal false).seq asJ))))
section
variable{f:Ren}{v:aly}{e s:Nat→Option Obj}{tx:ByteArray}
theorem Ew{c0:aoz}{cs1:List aoz}{Q:bF→aoz→List aoz→Prop}{g:Ren}(hs:tx.size≤1099511627776)
  (h: ∀ad l c v1,af (λ_=>False) v v1→(∀cs,(eE tx).1=some cs→∃k:Hp,k.In v1∧k.list 3 cW (.slice ad l c) cs)→az Tryz.prog bG Q g v1 e s (base 17) ⟨#[.string tx,undef,.pointer none,.int .i64 0,.int .i64 0,.slice ad l c,.int .i64 (eE tx).2.1,.int .i64 (eE tx).2.2,.tuple #[.slice ad l c,.int .i64 (eE tx).2.1,.int .i64 (eE tx).2.2],.string tx,.tuple #[.slice ad l c,.int .i64 (eE tx).2.1,.int .i64 (eE tx).2.2],.slice ad l c,.int .i64 (eE tx).2.1,.int .i64 (eE tx).2.2,undef,undef,undef,undef,undef,undef],[]⟩
   [.code (((apN 2 aan false).seq (aqA (apH 15) ((apN 3 aam false).seq asJ) aqy)).seq ((apN 4 aal false).seq asJ))] (c0::cs1)):
  az Tryz.prog bG Q g v e s (base 17) ⟨(#[.string tx]:Array aad)++aps (Tryz.f17.ntmps-(#[.string tx]:Array aad).size) undef,[]⟩ [.code LX] (c0::cs1):=by
 have ha:(#[.string tx]:Array aad)++aps (Tryz.f17.ntmps-(#[.string tx]:Array aad).size) undef= #[.string tx,undef,undef,undef,undef,undef,undef,undef,undef,undef,undef,undef,undef,undef,undef,undef,undef,undef,undef,undef]:=by kernel_rfl
 rw[ha];clear ha;refine fR 9 rfl ?_;walk_nrm;refine acl Tryz.func38 (#[.string tx])
  (Post:=λw u w'=>∃ad l c,u= .tuple #[.slice ad l c,.int .i64 (eE tx).2.1,.int .i64 (eE tx).2.2]∧af (λ_=>False) w w'∧∀cs,(eE tx).1=some cs→∃k:Hp,k.In w'∧k.list 3 cW (.slice ad l c) cs) (λT=>?_) λT T' u v1 jh zY=>?_
 ·refine(c38 tx (ax v T) hs).mono ?_;rintro ex w' ⟨ad,l,c,rfl,h1,h2⟩;refine⟨_,rfl,ad,l,c,rfl,h1,λcs hc=>?_⟩;obtain⟨k,k1,-,k2⟩:=h2 cs hc;exact⟨k,k1,k2⟩
 obtain⟨ad,l,c,rfl,je,hk⟩:=zY;replace je:=je.off jh;walk_nrm;have hh:=h ad l c v1 je hk;generalize(eE tx).2.1=q1 at hh⊢;generalize(eE tx).2.2=q2 at hh⊢;clear h hk;refine fR 7 rfl ?_;walk_nrm;exact az.ctl (λa w=>apQ) hh
theorem zP(hs:tx.size≤1099511627776){q1 q2:Nat}(hr:eE tx=(none,(q1:Int),(q2:Int)))(h1:q1≠0):Goes Tryz.prog bG 17 #[.string tx] f v e s λu v'=>u= .tuple #[.pointer none,.int .i64 q1,.int .i64 q2]∧af (λ_=>False) v v':=by
 refine Goes.of Tryz.func17 (c:=LX) rfl λg c0 cs1 hg=>Ew hs λad l c v1 hT hk=>?_;rw[hr];dsimp only;refine fR 15 rfl ?_;walk_nrm;refine cQ (.bool true) ?_ (hl:=λT=>by simp[go_sem];omega);walk_nrm;refine fR 10 rfl ?_;walk_nrm;refine az.leave Tryz.func17 (u:= .tuple #[.pointer none,.int .i64 q1,.int .i64 q2]) rfl (λw=>by simp[results,go_sem,Tryz.f17]) ⟨rfl,hT⟩ (Ren.le_refl _)
theorem Gp(hs:tx.size≤1099511627776){cs:List cS}(hr:eE tx=(some cs,0,0)){Ls:List Lay}{R:Nat→aN→Prop}(D:Ld cs Ls R):Goes Tryz.prog bG 17 #[.string tx] f v e s λu v'=>∃u0,u= .tuple #[u0,.int .i64 0,.int .i64 0]∧UH v (cJ cs) Ls R u0 v':=by
 refine Goes.of Tryz.func17 (c:=LX) rfl λg c0 cs1 hg=>Ew hs λad l c v1 hT hk=>?_;obtain⟨k,k1,k2⟩:=hk cs (by rw[hr]);clear hk;rw[hr];dsimp only;refine fR 11 rfl ?_;walk_nrm;refine cQ (.bool false) ?_;walk_nrm;refine fR 6 rfl ?_;walk_nrm;refine XQ Tryz.func39 (#[.slice ad l c]) (ZG k1 k2 D) λu v2 hp=>?_;obtain⟨eb,nb,sb,pb,mb,bs,F,la,lc,ps,K,N,rfl,z1,z2,hE⟩:=hp;walk_nrm;refine fR 3 rfl ?_;walk_nrm;have:=hT.size;refine fR 1 rfl ?_;refine az.leave Tryz.func17 (u:= .tuple #[.pointer (some ⟨eb,0,none⟩),.int .i64 0,.int .i64 0]) rfl (λw=>by simp[results,go_sem,Tryz.f17]) ⟨_,rfl,eb,nb,sb,pb,mb,bs,F,la,lc,ps,K,N,rfl,by omega,by omega,hE⟩ (Ren.le_refl _)
end
end Go.Proofs.YtkdljbnllgpfhaaGreat
end
section
namespace Go.Proofs.YtkdljbnllgpfhaaGreat
open Go Go.RowKit Go.Upr Go.Conc
theorem Wh:uj 320 324:=Jr Tryz.func324 rfl rfl VB QU
theorem Wf:uj 323 385:=Jr Tryz.func385 rfl rfl VC QV
theorem ZZ(b:Bool):uj (if b=true then 320 else 323) (if b=true then 324 else 385):=by
 cases b
 ·exact Wf
 ·exact Wh
theorem dU.val_inj{x y:dU}(h:x.val=y.val):x=y:=by
 obtain⟨a,b,c,d,e⟩:=x;obtain⟨a',b',c',d',e'⟩:=y;simp only[dU.val,aw3,apG,amr,awX,aw2,aw0,true_and,and_true]at h;obtain⟨rfl,rfl,rfl,rfl,rfl⟩:=h;rfl
theorem B5: ∀ {xs ys:List dU},xs.map dU.val=ys.map dU.val→xs=ys
 | [],[],_=>rfl
 | [],_::_,h=>nomatch h
 |_::_,[],h=>nomatch h
 |x::xs,y::ys,h=>by
  simp only[amY,amr]at h;rw[dU.val_inj h.1,B5 h.2]
theorem zS(xs:List Cg):(xs.map xb).flatMap dU.cells=(xs.map Cg.cells).flatten:=by
 induction xs with
 |nil=>rfl
 |cons x xs ih=>rw[amY,List.flatMap_cons,ih];rfl
theorem CJ{w:aly}{s:aad}{xs:List Cg}{N:Nat}(h:wH w s (xs.map xb))(hN: ∀ad n cp,s= .slice (some ad) n cp→N≤ad.block):aw w N 156 5 dH ko s xs:=by
 refine⟨mR _,(λ_ _ h=>nomatch h),xs.map Cg.cells,auB ..,λc hc=>?_,λi c x hc hx=>?_,?_⟩
 ·obtain⟨x,-,rfl⟩:=amk.1 hc;rfl
 ·rw[anr,hx]at hc;exact(alN hc).symm
 ·rcases h with⟨h1,rfl⟩|⟨g,cap,cur,rfl,h2,h3,h4,h5,h6,-⟩
  ·have:xs= []:=by simpa using h1
   subst this;exact World.ownsRow_nil _ _ _ _
  ·rw[auB]at h3 h6⊢;refine⟨?_,.inr ⟨g,cap,cur,rfl,hN _ _ _ rfl,h2,h3,h4,h5,?_⟩⟩
   ·rw[←zS,rh,auB]
   ·rw[h6,zS]
theorem J0{w:aly}{s:aad}{xs:List Cg}(h:wH w s (xs.map xb)): ∃ (hh:Hp) (ad:Option alA) (c:Nat),s= .slice ad xs.length c∧hh.In w∧hh.list 5 dH s xs:=by
 obtain⟨k,k1,-,-,k2⟩:=(CJ (N:=0) h λ_ _ _ _=>arQ _).done λ_ _ _ _ h=>h;obtain⟨ad,c,hs⟩:=k2.shape;exact⟨k,ad,c,hs,k1,k2⟩
def qF(sb:Nat)(bs:dB)(ps:List (LB×Lay))(K:Hp)(N:Nat)(R:Nat→List Cg→aN→Prop):Prop:=
 ∀j p,ps[j]? =some p→∀w F (h:Hp) ad c (xs:List Cg),K.In w→fW w K N p.1.1 p.1.2 sb (p.2.rules.map cq)→aq w sb bs F→h.In w→h.list 5 dH (.slice ad xs.length c) xs→xs.length≤1099511627776→R j xs F→
  asP Tryz.prog (if p.1.1 then 324 else 385) #[.pointer (some ⟨p.1.2,0,none⟩),.slice ad xs.length c] w λe w'=>∃u ys F',e= .returned u∧af (dt sb bs) w w'∧aq w' sb bs F'∧R (j+1) (xs++ys) F'∧aw w' w.heap.size 156 5 dH ko u ys∧ys.length≤2147483648
def MC(D:Nat→Bool)(n0 sb:Nat)(bs:dB)(ps:List (LB×Lay))(K:Hp)(N:Nat)(R:Nat→List Cg→aN→Prop)(i:Nat)(l:List aad)(w:aly):Prop:=
 ∃xs:List Cg,l=(xs.map xb).map dU.val∧MP D n0 sb bs ps K N (λi F=>R i xs F) i l w
section
variable{v:aly}{eb nb sb pb mb:Nat}{fn:xU}{bs:dB}{F:aN}{la:Option alA}{lc:Nat}{ps:List (LB×Lay)}{K:Hp}{N:Nat}{R:Nat→List Cg→aN→Prop}{e s:Nat→Option Obj}{f g:Ren}
theorem qN.carried(E:qN v eb nb sb pb mb fn bs F la lc ps K N)(hst:qF sb bs ps K N R)(hn:ps.length≤100){M:Nat}{k:Hp}{u:aad}{xs:List Cg}(hm:lL v M 156 5 dH k u xs):
  Gy bG (DS v sb bs ps K u.ownBlock) g v pb ps.length (MC (DS v sb bs ps K u.ownBlock) v.heap.size sb bs ps K N R):=by
 have hl:=λb (hb:u.ownBlock=some b)=>BQ hm.toaw hb;refine⟨fC,λa b o o' hf hD ho hr=>E.closed hm.flat hD ho _ _ _ hr,λi l w w' ⟨xs,hx,h⟩ hg=>⟨xs,hx,h.1,λa ha hd=>hg _ _ (h.2.1 a ha hd),h.2.2.keep E.news E.new (λp hp=>(E.lays p hp).1) λa o _ _ ho=>hg a o ho⟩,by omega,E.out hl E.pipe aI E.KQ,_,_,_,la,lc,E.pipe,rfl,λj hj=>?_⟩;obtain⟨p,hp⟩: ∃p,ps[j]? =some p:=⟨_,arn hj⟩;have jQ:=ann hp;obtain⟨al,lo,cur,h1,h2,h3,h4⟩:=E.list j p hp;refine⟨al,lo,171,_,.pointer (some ⟨p.1.2,0,none⟩),cur,(0,0),_,h1,E.out hl h2 aI h4,h2,h3,ZZ p.1.1,by cases p.1.1<;>decide,λx'=>fO.ptr (F:=bG) (DS.lay jQ) _ _,?_⟩;intro l v0 v1 s0 ⟨Si,hx1,hM⟩ hz Nu hg hG jg T;obtain rfl:=B5 hx1;obtain⟨m1,m2,m3⟩:=hM;have mi: ∀p∈ps,N≤p.1.2:=λp hp=>(E.lays p hp).1;have hSB: ∀b,dt sb bs b→b<N:=λb hb=>by
  rcases hb with rfl|⟨q,hq,rfl⟩
  ·exact E.low.1
  ·exact E.low.2 q hq
 obtain⟨q1,q2,G,q3,q4⟩:=m3.keep (w':=v1) E.news E.new mi λa o _ _ ho=>hg a o ho;obtain⟨r1,r2,G0,r3,_⟩:=m3;have WU: ∀b,dt sb bs b→b<v0.heap.size:=λb hb=>by
  rcases hb with rfl|⟨q,hq,rfl⟩
  ·exact r3.top.lt
  ·exact(r3.dy q hq).lt
 obtain⟨hh,ad,cc,rfl,hh1,hh2⟩:=J0 hG;have Sp:Si.length≤1099511627776:=by
  rw[auB,auB]at m1;have:(j+1)*4294967296≤101*4294967296:=avd _ aj;omega
 refine(hst j p hp (ax v1 T) G hh ad cc Si q1 (q2 p jQ) (q3.keep λ_ _ _ _ h=>h) hh1 hh2 Sp q4).mono ?_;rintro ex w ⟨u',ys,F',rfl,ht,fN,Xy,z6,Xe⟩;have hsz:v1.heap.size≤w.heap.size:=ht.size;have wZ: ∀a o,¬dt sb bs a→v1.heap[a]? =some o→w.heap[a]? =some o:=λa o ha ho=>ht.kept (w:=ax v1 T) ho ha;have ahx:v0.heap.size≤v1.heap.size:=nT hg;have hnS: ∀a,a<v.heap.size→DS v sb bs ps K u.ownBlock a=false→¬dt sb bs a:=λa _ hd hS=>by rw[DS.st hS]at hd;cases hd
 have hpw: ∀a,a<v.heap.size→DS v sb bs ps K u.ownBlock a=false→w.heap[a]? =some jo:=λa ha hd=>wZ a _ (hnS a ha hd) (hg _ _ (Nu a ha hd));refine⟨u',rfl,ys.map xb,uy z6,?_,⟨by omega,hpw⟩,λa o ha ho=>wZ a o (λhS=>by have:=WU a hS;omega) ho,λw' hw'=>⟨Si++ys,by simp only[List.map_append],?_,λa ha hd=>hw' a _ (hpw a ha hd) (.inl aj),?_⟩⟩
 ·rw[auB,auB]at m1⊢;have:(j+1)*4294967296≤101*4294967296:=avd _ aj;omega
 ·rw[auB,auB]at m1;rw[auB,List.length_append,auB,auB,Nat.succ_mul (j+1)];omega
 ·have hold: ∀a o,¬dt sb bs a→v0.heap[a]? =some o→w'.heap[a]? =some o:=λa o ha ho=>hw' a o (wZ a o ha (hg a o ho)) (.inl (Array.getElem?_eq_some_iff.1 ho).1);refine⟨λb o hb=>hold b o (λhS=>by have:=hSB b hS;have:=E.news b o hb;omega) (r1 b o hb),λp hp=>(r2 p hp).keep (mi p hp) λa o _ ha ho=>hold a o (λhS=>by have:=hSB a hS;omega) ho,F',fN.keep λa o _ ha ho=>hw' a o ho (.inl (WU a ha)),Xy⟩
theorem qN.carry(E:qN v eb nb sb pb mb fn bs F la lc ps K N)(hst:qF sb bs ps K N R)(hn:ps.length≤100){M:Nat}{k:Hp}{u:aad}{xs:List Cg}(hm:lL v M 156 5 dH k u xs)(hx:xs.length≤1048576)(h0:R 0 xs F):
  Goes Tryz.prog bG 46 #[.pointer (some ⟨pb,0,none⟩),u] f v e s λu' v'=>∃F' zs,R ps.length zs F'∧qN v' eb nb sb pb mb fn bs F' la lc ps K N∧aw v' v.heap.size 156 5 dH ko u' zs:=by
 intro g args' c cs hle hr;obtain⟨p',base',rfl,hp,hb⟩:=OD hr;have hl:=λb (hb:u.ownBlock=some b)=>BQ hm.toaw hb;refine(Kc (E.carried hst hn hm) hp (xs:=xs.map xb) (by rw[auB];omega) ⟨xs,rfl,?_,λa ha hd=>tH hd ha,E.start (R:=λi F=>R i xs F) _ h0⟩ (EC (uy hm.toaw) λb hb=>DS.lst hb) (Cu hm.toaw _ _ hb)).mono ?_
 ·rw[auB,auB];omega
 ·rintro _ _ _ ⟨f2,v',ys,r0,r1,q1,⟨zs,hz,q2⟩,q3,q4,q5,q6,rfl,rfl,rfl⟩;obtain rfl:=B5 hz;obtain⟨F',hR,hE⟩:=E.whole hl q3 q2;exact⟨f2,_,r0,r1,q1,q6,⟨F',zs,hR,hE,CJ q4 q5⟩,rfl,rfl,rfl⟩
end
end Go.Proofs.YtkdljbnllgpfhaaGreat
end
section
namespace Go.Proofs.YtkdljbnllgpfhaaGreat
open Go Go.RowKit Go.Upr
theorem c51(n:Nat)(hn:n<9223372036854775808)(w:aly):asP Tryz.prog 51 #[cU n] w λe w'=>e= .returned (.int .i64 (n:Nat))∧af (λ_=>False) w w':=by
 unfold cU;rw[Nat.div_eq_of_lt aj,Nat.mod_eq_of_lt aj];have h1:decide ((n:Int) >9223372036854775807)=false:=by rw[decide_eq_false_iff_not];omega
 have h2:IntKind.i64.wrap (n:Int)=n:=by rw[IntKind.wrap_i64];omega
 go_enter Tryz.func51,Tryz.ntmps51;go_wp2_with (rw[h1];clear h1)
 all_goals go_ret
 all_goals exact⟨by simp,(af.refl _ w).alloc _⟩
structure zF(s:ByteArray):Prop where
 pos:0<s.size
 small:s.size≤8
 all: ∀j (h:j<s.size),pN s[j]=true
 kind:wS s=2∨wS s=3
theorem aha{s:ByteArray}(h:zF s)(w:aly):asP Tryz.prog 163 #[.string s] w λe w'=>e= .returned (.bool true)∧w'=w:=by
 obtain⟨h0,h8,ha,hkd⟩:=h;have hne:(s.toList== ([]:List UInt8))=false:=by
  rw[asT];cases hh:s.data.toList with
  |nil=>
   have h2:s.data.toList.length=s.size:=Array.length_toList;rw[hh,List.length_nil]at h2;omega
  |cons _ _=>rfl
 have hno: ∀k,T1 pN s k→¬k<s.size:=λk hk hlt=>by
  have h1:=hk.2.2 hlt;rw[ha k hlt]at h1;cases h1
 have hv:((wS s==2)||(wS s==3))=true:=by rcases hkd with h|h<;>rw[h]<;>rfl
 replace hkd:Hid _:=hkd;go_enter Tryz.func163,Tryz.ntmps163;go_wp2_with (first|(go_at_call 224;refine(aeP s _ (by unfold maxLen;omega)).mono ?_;rintro e w' ⟨k,rfl,rfl,hk⟩)|(go_at_call 225;refine(aeO s _ h0 (by unfold maxLen;omega)).mono ?_;rintro e w' ⟨rfl,rfl⟩))
 all_goals first
  |(rename_i hlt;exact absurd hlt (hno _ hk))
  |(go_ret;exact⟨rfl,rfl⟩)
  |(go_ret;exact⟨by rw[hv],rfl⟩)
theorem aiU{s:ByteArray}(h:zF s)(w:aly):asP Tryz.prog 97 #[.string s] w λe w'=>e= .returned (.bool true)∧w'=w:=by
 have h1:decide ((s.size:Int)≤8)=true:=by rw[decide_eq_true_eq];have:=h.small;omega
 have h8:=h.small;go_enter Tryz.func97,Tryz.ntmps97;go_wp2_with (first|(rw[h1];clear h1)|(go_at_call 163;refine(aha h _).mono ?_;rintro e w' ⟨rfl,rfl⟩))
 all_goals go_ret
 all_goals exact⟨rfl,rfl⟩
theorem aev{h:Hp}{w:aly}(hw:h.In w){ad:Option alA}{l c:Nat}{ss:List ByteArray}(hcs:h.list 1 gX (.slice ad l c) ss)(hn:ss.length≤1048576)(hc: ∀s∈ss,zF s):
  asP Tryz.prog 48 #[.slice ad l c] w λe w'=>e= .returned (.bool true)∧w'=w:=by
 obtain⟨q7,q8,hv3,hat⟩:=hcs.at hw;obtain⟨rfl,rfl,rfl⟩:ad=q7∧l=ss.length∧c=q8:=by simpa using hv3
 clear hv3;go_enter Tryz.func48,Tryz.ntmps48;go_wp2
 go_loopw [7] (λi wr=>∃k,k≤ss.length∧i= .int .i64 (k:Nat)∧wr=w) (λi _=>ss.length-(intOf i).toNat)
 case atStart=>exact⟨0,arQ _,rfl,rfl⟩
 case round=>
  obtain⟨k,hk,rfl,rfl⟩:=hrel;by_cases hlt:k<ss.length
  ·obtain⟨s,hs⟩: ∃y,ss[k]? =some y:=⟨_,arn hlt⟩;obtain⟨g,o,cc,rfl,bW,rfl,ag⟩:=hat k s hs;have e0:=ag 0 aI;simp only[at6,Nat.mul_one]at e0;have h97:=λw=>aiU (hc s (ann hs)) w;clear hs ag bW;go_wp2_with (go_at_call 97;refine(h97 _).mono ?_;rintro e w' ⟨rfl,rfl⟩);go_roundw
   case rel=>exact⟨k+1,by omega,by go_num,trivial⟩
   case measure=>simp[intOf];omega
  ·go_wp2;go_ret;exact⟨rfl,rfl⟩
end Go.Proofs.YtkdljbnllgpfhaaGreat
end
section
namespace Go.Proofs.YtkdljbnllgpfhaaGreat
open Go Go.RowKit Go.Upr
theorem ai0{h:Hp}{w:aly}(hw:h.In w){eb nb:Nat}{y z:aad}{f:xU}(hE:w.heap[eb]? =some (.cells #[.map (some nb),y,z] 102))(hN:av w bZ at5 Kg nb f){n:ByteArray}(hn:bZ n){ad:Option alA}{l c:Nat}{ss:List ByteArray}(hcs:h.list 1 gX (.slice ad l c) ss)(pZ:ss.length≤1048576)(hc: ∀s∈ss,zF s)(gone:Bool)(hl:au f n=some (ss.length,false)):
  asP Tryz.prog 40 #[.pointer (some ⟨eb,0,none⟩),.agg #[.string n,.slice ad l c,.bool gone]] w λe w'=>e= .returned (.int .i64 0)∧af (λ_=>False) w w':=by
 obtain⟨q7,q8,hv3⟩:=hcs.shape;obtain⟨rfl,rfl,rfl⟩:ad=q7∧l=ss.length∧c=q8:=by simpa using hv3
 clear hv3;obtain⟨W,hW⟩: ∃W,W=w.alloc (.cells #[.string n,.slice ad ss.length c,.bool gone] 42):=⟨_,rfl⟩;obtain⟨B,hB⟩: ∃x,x=w.heap.size:=⟨_,rfl⟩;have bM:af (λ_=>False) w W:=by rw[hW];exact(af.refl _ w).alloc _
 have lH:W.heap[B]? =some (.cells #[.string n,.slice ad ss.length c,.bool gone] 42):=by rw[hW,hB];exact atp _ _
 obtain⟨b0,b1,b2,-⟩:=bI lH;have hbl:=atm lH;have hEW:=bM.kept hE id;obtain⟨e0,e1,e2,-⟩:=bI hEW;have NB:=atm hEW;have hNW:=hN.turn bM id;have Db:=hNW.lt;have k1:=λw' (ht:af (λ_=>False) w w')=>aev (hw.turn ht λ_ _ _=>id) hcs pZ hc;go_enter Tryz.func40,Tryz.ntmps40;go_wp2_with (rw[←hW,←hB];clear hW hB);refine aG (λi=>i==10||i==11||i==12) ar ar ?_;intro S' gg fN gc gf gh gb;iterate 6 (refine ak ar aC aC λK hK=>?_;go_big_quiet_op;refine hK _ ?_;clear hK K)
 have hmx: ∀x,Hp.map (λb=>(gg x).heap[b]?) bZ at5 Kg (.map (some nb)) f:=λx=>by
  obtain⟨es,cl,h1,h2⟩:=hNW;exact .inr ⟨nb,es,cl,rfl,(gh x _ Db).trans h1,h2⟩
 refine zQ (f:=f) (enc:=Kg) cI Tryz.underlying97 Gc ar aC (.tmp 11) (.tmp 13) true rfl rfl (λw' ⟨x,e⟩=>by rw[e];exact hmx x) rfl hn ?_;rw[if_pos rfl,hl];dsimp only[Option.elim,Option.isSome,Kg];go_frame;iterate 3 (refine ak ar aC aC λK hK=>?_;go_big_quiet_op;refine hK _ ?_;clear hK K)
 refine ai ar aC λQ' hQ=>?_;go_wp2;have h1:af (λ_=>False) W (W.drew.alloc (.cells #[.int .i64 0,.bool false] 107)):=(af.refl _ _).drew.alloc _;have h2:af (λ_=>False) W (W.alloc (.cells #[.int .i64 (ss.length:Nat),.bool false] 107)).drew:=((af.refl _ _).alloc _).drew;refine hQ _ _ ar (λ_=>gb _ h1.below) ?_;clear hQ Q';refine ai ar aC λQ' hQ=>?_;go_wp2;refine hQ _ _ ar (λ_=>gb _ h2.below) ?_;clear hQ Q';refine ai ar aC λQ' hQ=>?_;go_wp2;refine hQ _ _ ar (λ_=>gb _ h2.below) ?_;clear hQ Q';refine aQ ?_;clear gc gf gh gb fN hmx gg S';obtain⟨P,hP⟩: ∃x,x=W.heap.size:=⟨_,rfl⟩;obtain⟨w3,hw3⟩: ∃x,x=(W.alloc (.cells #[.int .i64 (ss.length:Nat),.bool false] 107)).drew:=⟨_,rfl⟩;have hPn:w3.heap[P]? =some (.cells #[.int .i64 (ss.length:Nat),.bool false] 107):=by rw[hP,hw3];exact atp _ _
 rw[←hw3]at h2⊢;rw[←hP];clear hP hw3 h1;obtain⟨c0,c1,-,-⟩:=b9 hPn;have bW:=atm hPn;obtain⟨b0,b1,b2,-⟩:=bI (h2.kept lH id);have hbl:=atm (h2.kept lH id);have eN:=bM.trans h2;clear hl;go_wp2_with (go_at_call 48;refine(k1 _ eN).mono ?_;rintro e w5 ⟨rfl,rfl⟩);go_ret;exact⟨rfl,eN⟩
end Go.Proofs.YtkdljbnllgpfhaaGreat
end
section
namespace Go.Proofs.YtkdljbnllgpfhaaGreat
open Go Go.RowKit Go.Upr
theorem c85{w:aly}{pb eb sb:Nat}{x z:aad}{bs:dB}{F:aN}(hp:w.heap[pb]? =some (.cells #[.pointer (some ⟨eb,0,none⟩)] 31))(hE:w.heap[eb]? =some (.cells #[x,.map (some sb),z] 102))(hS:aq w sb bs F){n:ByteArray}(hn:bZ n)(a b c:Nat)(ht:fq (a,b,c))(gone:Bool):
  asP Tryz.prog 85 #[.agg #[.string n,.int .u64 a,.int .u64 b,.int .u64 c,.bool gone],.pointer (some ⟨pb,0,none⟩)] w λe w'=>e= .returned (.bool (gP (iF bs F n) (a,b,c) != gone))∧af (λ_=>False) w w':=by
 obtain⟨W,hW⟩: ∃W,W=w.alloc (.cells #[.string n,.int .u64 a,.int .u64 b,.int .u64 c,.bool gone] 156):=⟨_,rfl⟩;obtain⟨B,hB⟩: ∃x,x=w.heap.size:=⟨_,rfl⟩;have bM:af (λ_=>False) w W:=by rw[hW];exact(af.refl _ w).alloc _
 have lH:W.heap[B]? =some (.cells #[.string n,.int .u64 a,.int .u64 b,.int .u64 c,.bool gone] 156):=by rw[hW,hB];exact atp _ _
 have q0:W.cell? ⟨B,0,none⟩=some (.string n):=(aqF W B 0 _ 156 (0,0) lH).trans rfl;have q1:W.cell? ⟨B,1,none⟩=some (.int .u64 a):=(aqF W B 1 _ 156 (0,0) lH).trans rfl;have q2:W.cell? ⟨B,2,none⟩=some (.int .u64 b):=(aqF W B 2 _ 156 (0,0) lH).trans rfl;have q3:W.cell? ⟨B,3,none⟩=some (.int .u64 c):=(aqF W B 3 _ 156 (0,0) lH).trans rfl;have q4:W.cell? ⟨B,4,none⟩=some (.bool gone):=(aqF W B 4 _ 156 (0,0) lH).trans rfl;have hbl:=atm lH;have hpW:=bM.kept hp id;have p0:W.cell? ⟨pb,0,none⟩=some (.pointer (some ⟨eb,0,none⟩)):=(aqF W pb 0 _ 31 (0,0) hpW).trans rfl;have hpl:=atm hpW;obtain⟨e0,e1,e2,-⟩:=bI (bM.kept hE id);have NB:=atm (bM.kept hE id);have k1:=λw' (Kj:af (λ_=>False) W w')=>ab8 (.inr ⟨sb,rfl,hS.still (bM.trans Kj) λ_ _=>id⟩) hn a b c ht;go_enter Tryz.func85,Tryz.ntmps85;go_wp2_with (rw[←hW,←hB];clear hW hB);refine aG (λi=>i==8) ar ar ?_;intro S' gg fN gc gf gh gb;iterate 8 (refine ak ar aC aC λK hK=>?_;go_big_quiet_op;refine hK _ ?_;clear hK K)
 refine ai ar aC λQ' hQ=>?_;go_wp2_with (go_at_call 86;refine(k1 _ (af.refl _ _).drew).mono ?_;clear k1;rintro e w2 ⟨rfl,aF⟩);have h2:af (λ_=>False) W w2:=(af.refl _ _).drew.trans aF;refine hQ _ _ ar (λ_=>gb _ h2.below) ?_;clear hQ Q';iterate 4 (refine ak ar aC aC λK hK=>?_;go_big_quiet_op;refine hK _ ?_;clear hK K)
 refine aQ ?_;clear gc gf gh gb fN gg S';go_wp2;go_ret;exact⟨rfl,bM.trans h2⟩
theorem ahb{h:Hp}{w:aly}(hw:h.In w){ad:Option alA}{l c:Nat}{xs:List Cg}(hcs:h.list 5 dH (.slice ad l c) xs)(KA:xs.length≤1048576)(gH: ∀x∈xs,bZ x.n∧fq x.t){pb eb sb:Nat}{x z:aad}{bs:dB}{F:aN}(hp:w.heap[pb]? =some (.cells #[.pointer (some ⟨eb,0,none⟩)] 31))(hE:w.heap[eb]? =some (.cells #[x,.map (some sb),z] 102))(hS:aq w sb bs F)(hno: ∀x∈xs,gP (iF bs F x.n) x.t=x.gone):
  asP Tryz.prog 143 #[.slice ad l c,.func (.func 85) #[] #[.pointer (some ⟨pb,0,none⟩)]] w λe w'=>e= .returned (.int .i64 (-1))∧af (λ_=>False) w w':=by
 obtain⟨q7,q8,hv3,hat⟩:=hcs.at hw;obtain⟨rfl,rfl,rfl⟩:ad=q7∧l=xs.length∧c=q8:=by simpa using hv3
 clear hv3;have eg: ∀args w,(callFunc 85 args).run Tryz.prog w= .ok (.enter 85 args) w:=λargs w=>by kernel_rfl
 go_enter Tryz.func143,Tryz.ntmps143;go_wp2
 go_loopw [8] (λi wr=>∃k,k≤xs.length∧i= .int .i64 (k:Nat)∧af (λ_=>False) w wr) (λi _=>xs.length-(intOf i).toNat)
 case atStart=>exact⟨0,arQ _,rfl,af.refl _ _⟩
 case round=>
  obtain⟨k,hk,rfl,hT⟩:=hrel;by_cases hlt:k<xs.length
  ·obtain⟨y,hy⟩: ∃y,xs[k]? =some y:=⟨_,arn hlt⟩;obtain⟨g,o,cc,rfl,bW,hR,ag⟩:=hat k y hy;have hym:=ann hy;obtain⟨n,⟨a,b,c⟩,gone⟩:=y;unfold dH Cg.cells at hR;subst hR;have c0:=hT.cell (ag 0 aI) id;have c1:=hT.cell (ag 1 aI) id;have c2:=hT.cell (ag 2 aI) id;have c3:=hT.cell (ag 3 aI) id;have c4:=hT.cell (ag 4 aI) id;simp only[at6,←at7]at c0 c1 c2 c3 c4;have E1:=hno _ hym;obtain⟨o1,o2⟩:=gH _ hym;have k5:=c85 (hT.kept hp id) (hT.kept hE id) (hS.still hT λ_ _=>id) o1 a b c o2 gone;dsimp only at E1 k5;rw[E1,bne_self_eq_false]at k5;clear hy ag bW hym;go_wp2_with (go_at_call 85;refine k5.mono ?_;clear k5;rintro e w2 ⟨rfl,aF⟩);go_roundw
   case rel=>exact⟨k+1,by omega,by go_num,hT.trans aF⟩
   case measure=>simp[intOf];omega
  ·go_wp2;go_ret;exact⟨rfl,hT⟩
theorem aiY{h:Hp}{w:aly}(hw:h.In w){ad:Option alA}{l c:Nat}{xs:List Cg}(hcs:h.list 5 dH (.slice ad l c) xs)(KA:xs.length≤1048576)(gH: ∀x∈xs,bZ x.n∧fq x.t){pb eb sb:Nat}{x z:aad}{bs:dB}{F:aN}(hp:w.heap[pb]? =some (.cells #[.pointer (some ⟨eb,0,none⟩)] 31))(hE:w.heap[eb]? =some (.cells #[x,.map (some sb),z] 102))(hS:aq w sb bs F)(hno: ∀x∈xs,gP (iF bs F x.n) x.t=x.gone):
  asP Tryz.prog 83 #[.slice ad l c,.func (.func 85) #[] #[.pointer (some ⟨pb,0,none⟩)]] w λe w'=>e= .returned (.slice ad l c)∧af (λ_=>False) w w':=by
 have k1:=ahb hw hcs KA gH hp hE hS hno;go_enter Tryz.func83,Tryz.ntmps83;go_wp2_with (go_at_call 143;refine k1.mono ?_;clear k1;rintro e w2 ⟨rfl,aF⟩);go_ret;exact⟨rfl,aF⟩
end Go.Proofs.YtkdljbnllgpfhaaGreat
end
section
namespace Go.Proofs.YtkdljbnllgpfhaaGreat
open Go Go.RowKit Go.Upr
structure Ac where
 n:ByteArray
 ss:List ByteArray
 gone:Bool
def acm(h:Hp)(c:List aad)(x:Ac):Prop:=∃ad cp,c= [.string x.n,.slice ad x.ss.length cp,.bool x.gone]∧h.list 1 gX (.slice ad x.ss.length cp) x.ss
def Ac.cg(x:Ac):Cg:=⟨x.n,gC x.ss,x.gone⟩
theorem ir.one{c:Cg}{ys:List Cg}(h:ir (λx=>x=c) ys):ys= [c]:=by
 obtain⟨h1,h2⟩:=h
 match ys,h1,h2 with
 | [],h1,_=>exact nomatch (h1 c).2 rfl
 | [y],h1,_=>rw[(h1 y).1 (ao3 ..)]
 |y::z::l,h1,h2=>
  have e1:=(h1 y).1 bz;have e2:=(h1 z).1 bz;rw[e1,e2,List.nodup_cons]at h2;exact absurd (ao3 ..) h2.1
theorem c41{h:Hp}{w:aly}(hw:h.In w){ad:Option alA}{l c:Nat}{a:Ac}(hcs:h.list 3 acm (.slice ad l c) [a])(hg:a.gone=true)(gH:a.n.size≤281474976710656)(hss:a.ss.length≤3){eb sb:Nat}{x z:aad}{bs:dB}{F:aN}(hE:w.heap[eb]? =some (.cells #[x,.map (some sb),z] 102))(hS:aq w sb bs F)(dC:gP (iF bs F a.n) (gC a.ss)=true):
  asP Tryz.prog 41 #[.pointer (some ⟨eb,0,none⟩),.slice ad l c] w λe w'=>∃v,e= .returned v∧af (λ_=>False) w w'∧lL w' w.heap.size 156 5 dH ko v [a.cg]:=by
 obtain⟨Hq,has⟩: ∃Hq,Hq= [a]:=⟨_,rfl⟩;rw[←has]at hcs;have qK:Hq.length≤1:=by rw[has];exact agl _
 have hall: ∀y∈Hq,y.n.size≤281474976710656∧y.ss.length≤3:=λy hy=>by rw[has]at hy;obtain rfl:=atQ.1 hy;exact⟨gH,hss⟩
 replace has:Hid _:=has;obtain⟨q7,q8,hv3,hat⟩:=hcs.at hw;obtain⟨rfl,rfl,rfl⟩:ad=q7∧l=Hq.length∧c=q8:=by simpa using hv3
 clear hv3;obtain⟨W,hW⟩: ∃W,W=w.alloc (.cells #[.pointer (some ⟨eb,0,none⟩)] 31):=⟨_,rfl⟩;obtain⟨pb,G4⟩: ∃x,x=w.heap.size:=⟨_,rfl⟩;have bM:af (λ_=>False) w W:=by rw[hW];exact(af.refl _ w).alloc _
 have Sw:W.heap[pb]? =some (.cells #[.pointer (some ⟨eb,0,none⟩)] 31):=by rw[hW,G4];exact atp _ _
 have hWz:W.heap.size=w.heap.size+1:=by rw[hW];simp
 have lr:aw W W.heap.size 156 5 dH ko (.slice none 0 0) ((Hq.take 0).map Ac.cg):= .nil (mR _);go_enter Tryz.func41,Tryz.ntmps41;go_wp2_with (rw[←hW,←G4];clear hW);clear G4
 go_loopw [5,12] (λv i wr=>∃k,k≤Hq.length∧i= .int .i64 (k:Nat)∧af (λ_=>False) W wr∧aw wr W.heap.size 156 5 dH ko v ((Hq.take k).map Ac.cg)) (λ_ i _=>Hq.length-(intOf i).toNat)
 case atStart=>exact⟨0,arQ _,rfl,af.refl _ _,lr⟩
 case round=>
  clear lr;obtain⟨k,hk,rfl,hT,hm⟩:=hrel;by_cases hlt:k<Hq.length
  ·obtain⟨y,hy⟩: ∃y,Hq[k]? =some y:=⟨_,arn hlt⟩;obtain⟨g,o,cc,rfl,bW,hR,ag⟩:=hat k y hy;obtain⟨yo,yl⟩:=hall y (ann hy);obtain⟨ya,yc,rfl,hRs⟩:=hR;have c0:=(bM.trans hT).cell (ag 0 aI) id;have c1:=(bM.trans hT).cell (ag 1 aI) id;have c2:=(bM.trans hT).cell (ag 2 aI) id;simp only[at6,←at7]at c0 c1 c2;have HS:Hid ((Hq.take (k+1)).map Ac.cg=(Hq.take k).map Ac.cg++ [y.cg]):=by show _=_;rw[List.take_add_one,hy];simp
   have jy:((Hq.take k).map Ac.cg).length≤1:=by rw[auB,List.length_take];omega
   clear hy ag bW;generalize(Hq.take k).map Ac.cg=xs at hm HS jy;obtain⟨wa,gY⟩: ∃x,x=wr.alloc (.cells #[.string y.n,.slice ya y.ss.length yc,.bool y.gone] 42):=⟨_,rfl⟩;obtain⟨P,zw⟩: ∃x,x=wr.heap.size:=⟨_,rfl⟩;have tA:af (λ_=>False) wr wa:=by rw[gY];exact(af.refl _ _).alloc _
   have o9:wa.heap[P]? =some (.cells #[.string y.n,.slice ya y.ss.length yc,.bool y.gone] 42):=by rw[gY,zw];exact atp _ _
   obtain⟨a0,a1,a2,-⟩:=bI o9;have hpl:=atm o9;go_wp2_with (first|(rw[←gY,←zw];clear gY zw)|(go_at_call 71;refine(c71 y.n _ yo).mono ?_;rintro e w2 ⟨rfl,aF⟩));have t2:=tA.trans aF;obtain⟨a0,a1,a2,-⟩:=bI (aF.kept o9 id);have hpl:=atm (aF.kept o9 id);have il:=hm.turn t2 (λ_ _=>id) λ_ _ _=>id;have k5:=λw' (Kj:af (λ_=>False) w w')=>c50 (hw.turn Kj λ_ _ _=>id) hRs yl;have dK:=(bM.trans hT).trans t2;refine aG (λi=>i==4||i==8||i==9||i==10) ar ar ?_;intro S' gg fN gc gf gh gb;iterate 4 (refine ak ar aC aC λK hK=>?_;go_big_quiet_op;refine hK _ ?_;clear hK K)
   refine ai ar aC λQ' hQ=>?_;go_wp2_with (go_at_call 50;refine(k5 _ (dK.trans (af.refl _ _).drew)).mono ?_;clear k5;rintro e w4 ⟨rfl,ck⟩);have h4:af (λ_=>False) w2 w4:=(af.refl _ _).drew.trans ck;refine hQ _ _ ar (λ_=>gb _ h4.below) ?_;clear hQ Q';have htk:fq (gC y.ss):=xo _;have HC:Hid (y.cg=⟨y.n,gC y.ss,y.gone⟩):=rfl;generalize gC y.ss=t at htk HC;obtain⟨t1,t2',t3⟩:=t;unfold br;iterate 3 (refine ak ar aC aC λK hK=>?_;go_big_quiet_op;refine hK _ ?_;clear hK K)
   refine ai ar aC λQ' hQ=>?_;go_wp2;refine hQ _ _ ar (λ_=>gb _ (h4.alloc _).below) ?_;clear hQ Q';have lB:=il.turn h4 (λ_ _=>id) λ_ _ _=>id;have wx:=(hT.trans (t2.trans h4)).size;refine ai ar aC λQ' hQ=>?_;refine bK A7 rfl (.tmp 19) (.tmp 27) rfl lB rfl ⟨y.n,(t1,t2',t3),y.gone⟩ #[.string y.n,.int .u64 t1,.int .u64 t2',.int .u64 t3,.bool y.gone] rfl rfl (by simp[Value.oneCell']) rfl rfl aj aj aj ?_;intro g6 Am w6 gQ bH _;go_wp2;refine hQ _ _ ar (aX ar) ?_;clear hQ Q';refine ai ar aC λQ' hQ=>?_;go_wp2;refine hQ _ _ ar (aX ar) ?_;clear hQ Q';refine aQ ?_;clear gc gf gh gb fN gg S';go_wp2;go_roundw
   case rel=>exact⟨k+1,by omega,by go_num,(hT.trans (t2.trans h4)).bL bH λb hb=> .inl (lB.own b hb).1,by rw[HS.out,HC.out];exact gQ⟩
   case measure=>simp[intOf];omega
  ·have iQ:Hq.take k=Hq:=List.take_of_length_le aj;rw[iQ,has.out]at hm;clear hat hcs hall;obtain⟨va,vc,rfl⟩:=hm.shape;obtain⟨K5,q1,q2,q3,q4⟩:=hm.done (λk' hk c x h=>h);have k7:=c81 q1 q4 bz (λy hy=>by obtain rfl:=atQ.1 hy;exact⟨al2 gH aI,xo _⟩);go_wp2_with (go_at_call 81;refine k7.mono ?_;clear k7;rintro e w7 ⟨cb,gb,bc,bg,Fc,Fg,rfl,eC,hC7,SL,Ko,Dd,hGc,hGg⟩);obtain rfl:=hGc.none λn t ⟨y,hy,h1,_⟩=>by
    obtain rfl:=atQ.1 hy;rw[show(Ac.cg a).gone=a.gone from rfl,hg]at h1;cases h1
   have hgB:=(hGg.only).1;have ad4:=(hGg.only).2;obtain⟨B,hB⟩: ∃x,x=w7.heap.size:=⟨_,rfl⟩;obtain⟨wB,hwB⟩: ∃x,x=w7.alloc (.cells #[.map (some cb),.map (some gb)] 158):=⟨_,rfl⟩;have tB:af (λ_=>False) w7 wB:=by rw[hwB];exact(af.refl _ _).alloc _
   have hBB:wB.heap[B]? =some (.cells #[.map (some cb),.map (some gb)] 158):=by rw[hwB,hB];exact atp _ _
   rw[←hwB,←hB];clear hwB hB;have hTB:=((bM.trans hT).trans eC).trans tB;have C_:W.heap.size≤wr.heap.size:=hT.size;have hCB:=hC7.still tB λ_ _=>id;have hGB:=SL.still tB λ_ _=>id;have k8:=c82 hGB hCB (λb hb=>(Ko b hb).2) (λ_ h=>nomatch h);go_wp2_with (go_at_call 82;refine k8.mono ?_;clear k8;rintro e w8 ⟨F8,rfl,jJ,hG8,PF⟩;have hB8:=jJ.kept hBB (λh=>hGB.cd h hBB rfl);obtain⟨b0,b1,-,-⟩:=b9 hB8;have hbl:=atm hB8);have hC8:=hCB.still jJ λb hb=>(Ko b hb).2;have zv:af (λ_=>False) w w8:=hTB.bL jJ λb hb=> .inl (by have:=Dd b hb;omega)
   have RU:=hG8.short (L:= [(Ac.cg a).t]) (n:=a.n) (λm t h=>by
    obtain⟨y,hy,_,h2,h3⟩:=(hgB m t).1 ((PF m t).1 h).1;obtain rfl:=atQ.1 hy
    exact⟨h2.symm,by rw[←h3];simp⟩) (λp hp=>by
    obtain⟨t,ht⟩:=ad4 p hp
    exact⟨t,(PF _ _).2 ⟨ht,λh=>nomatch h.1⟩⟩)
   have S_: ∀y:Cg,(mW true (eI bg F8) [] Fc y∨mW false (eI [] Fc) bg F8 y)↔y=a.cg:=λy=>by
    unfold mW;rw[PF,hgB];constructor
    ·rintro(⟨h1,⟨⟨u,hu,_,h2,h3⟩,_⟩,_⟩|⟨_,h2,_⟩)
     ·obtain rfl:=atQ.1 hu;obtain⟨yn,yt,yg⟩:=y;dsimp only at h1 h2 h3;rw[h1,←h2,←h3];show _=Cg.mk a.n (gC a.ss) a.gone;rw[hg];rfl
     ·exact nomatch h2.1
    ·rintro rfl;exact .inl ⟨hg,⟨⟨a.cg,by simp,hg,rfl,rfl⟩,λh=>nomatch h.1⟩,λh=>nomatch h.1⟩
   have k9:=c84 (w:=w8) (cm:=some cb) (gm:=some gb) (.inr ⟨cb,rfl,hC8⟩) (.inr ⟨gb,rfl,hG8⟩) bz aj (λ_ h=>nomatch h) (λp hp=>by have:=RU.2 p hp;simp at this;omega);go_wp2_with (go_at_call 84;refine k9.mono ?_;clear k9;rintro e w9 ⟨v9,ys,rfl,Bf,hm9,hl9,hA9⟩;obtain rfl:=(hA9.congr (B:=λy=>y=a.cg) S_).one;obtain⟨vb,vd,rfl⟩:=hm9.shape;obtain⟨K9,r1,r2,r3,r4⟩:=hm9.done (λk' hk c x h=>h);have hT9:=zv.trans Bf;have k10:=aiY r1 r4 bz (λy hy=>by obtain rfl:=atQ.1 hy;exact⟨al2 gH aI,xo _⟩) ((jJ.kept (((hT.trans eC).trans tB).kept Sw id) (λh=>by have:=Dd _ h;have:=atm Sw;omega)) |>λh=>Bf.kept h id) (hT9.kept hE id) (hS.still hT9 λ_ _=>id) (λy hy=>by obtain rfl:=atQ.1 hy;exact dC.trans hg.symm));go_wp2_with (go_at_call 83;refine k10.mono ?_;clear k10;rintro e WB ⟨rfl,vB⟩);go_ret;have Xd:=zv.size;exact⟨_,rfl,hT9.trans vB,(hm9.turn vB (λ_ _=>id) λ_ _ _=>id).lower Xd⟩
end Go.Proofs.YtkdljbnllgpfhaaGreat
end
section
namespace Go.Proofs.YtkdljbnllgpfhaaGreat
open Go Go.RowKit Go.Upr
def qQ(a b:Nat):Int:=if a<b then-1 else if b<a then 1 else 0
theorem ajA(a:Nat)(w:aly):asP Tryz.prog 279 #[.int .u64 (a:Nat)] w λe w'=>e= .returned (.bool false)∧w'=w:=by
 go_enter Tryz.func279,Tryz.ntmps279;go_wp2;go_ret;exact⟨by simp,rfl⟩
theorem acf(a b:Nat)(w:aly):asP Tryz.prog 234 #[.int .u64 (a:Nat),.int .u64 (b:Nat)] w λe w'=>e= .returned (.int .i64 (qQ a b))∧w'=w:=by
 have k1:=λa w=>ajA a w;go_enter Tryz.func234,Tryz.ntmps234;go_wp2_with (go_at_call 279;refine(k1 _ _).mono ?_;rintro e w2 ⟨rfl,rfl⟩)
 all_goals go_ret
 all_goals(refine⟨?_,rfl⟩;simp_all [qQ]<;>(split<;>first|omega|(split<;>omega)))
def sN(t u:aS):Int:=if qQ t.1 u.1≠0 then qQ t.1 u.1 else if qQ t.2.1 u.2.1≠0 then qQ t.2.1 u.2.1 else qQ t.2.2 u.2.2
theorem ajW{w:aly}{p q a b c x y z:Nat}(hp:w.heap[p]? =some (.cells #[.int .u64 a,.int .u64 b,.int .u64 c] 116))(hq:w.heap[q]? =some (.cells #[.int .u64 x,.int .u64 y,.int .u64 z] 116)):
  asP Tryz.prog 165 #[.slice (some ⟨p,0,none⟩) 3 3,.slice (some ⟨q,0,none⟩) 3 3] w λe w'=>e= .returned (.int .i64 (sN (a,b,c) (x,y,z)))∧w'=w:=by
 obtain⟨p0,p1,p2,-⟩:=bI hp;obtain⟨q0,q1,q2,-⟩:=bI hq;have hpl:=atm hp;have KC:=atm hq;have k0:=λw=>acf a x w;have k1:=λw=>acf b y w;have k2:=λw=>acf c z w;have hT:Hid (sN (a,b,c) (x,y,z)=if qQ a x≠0 then qQ a x else if qQ b y≠0 then qQ b y else qQ c z):=rfl;generalize sN (a,b,c) (x,y,z)=r at hT;generalize qQ a x=r0 at k0 hT;generalize qQ b y=r1 at k1 hT;generalize qQ c z=r2 at k2 hT;go_enter Tryz.func165,Tryz.ntmps165;go_wp2
 go_loopw [11] (λi wr=>∃k,k≤3∧i= .int .i64 (k:Nat)∧wr=w∧Hid ((1≤k→r0=0)∧(2≤k→r1=0)∧(3≤k→r2=0))) (λi _=>3-(intOf i).toNat)
 case atStart=>exact⟨0,by omega,rfl,rfl,⟨by omega,by omega,by omega⟩⟩
 case round=>
  obtain⟨k,hk,rfl,rfl,hI⟩:=hrel;obtain rfl|rfl|rfl|rfl:k=0∨k=1∨k=2∨k=3:=by omega
  ·go_wp2_with (go_at_call 234;refine(k0 _).mono ?_;rintro e w2 ⟨rfl,rfl⟩)
   ·rename_i hne;have PW:r0≠0:=by simpa using hne
    go_ret;exact⟨by rw[hT.out,if_pos PW];rfl,rfl⟩
   ·rename_i heq;have FC:r0=0:=by simpa using heq
    go_roundw
    case rel=>exact⟨1,by omega,by go_num,trivial,⟨λ_=>FC,by omega,by omega⟩⟩
    case measure=>first|decide|(simp[intOf];omega)|simp[intOf]
  ·go_wp2_with (go_at_call 234;refine(k1 _).mono ?_;rintro e w2 ⟨rfl,rfl⟩)
   ·rename_i hne;have PW:r1≠0:=by simpa using hne
    go_ret;exact⟨by rw[hT.out,if_neg (not_not_intro (hI.out.1 aj)),if_pos PW];rfl,rfl⟩
   ·rename_i heq;have FC:r1=0:=by simpa using heq
    go_roundw
    case rel=>exact⟨2,by omega,by go_num,trivial,⟨λ_=>hI.out.1 aj,λ_=>FC,by omega⟩⟩
    case measure=>first|decide|(simp[intOf];omega)|simp[intOf]
  ·go_wp2_with (go_at_call 234;refine(k2 _).mono ?_;rintro e w2 ⟨rfl,rfl⟩)
   ·rename_i hne;have PW:r2≠0:=by simpa using hne
    go_ret;exact⟨by rw[hT.out,if_neg (not_not_intro (hI.out.1 aj)),if_neg (not_not_intro (hI.out.2.1 aj))];rfl,rfl⟩
   ·rename_i heq;have FC:r2=0:=by simpa using heq
    go_roundw
    case rel=>exact⟨3,by omega,by go_num,trivial,⟨λ_=>hI.out.1 aj,λ_=>hI.out.2.1 aj,λ_=>FC⟩⟩
    case measure=>first|decide|(simp[intOf];omega)|simp[intOf]
  ·go_wp2;go_ret;exact⟨by rw[hT.out,if_neg (not_not_intro (hI.out.1 aj)),if_neg (not_not_intro (hI.out.2.1 aj)),hI.out.2.2 aj];rfl,rfl⟩
end Go.Proofs.YtkdljbnllgpfhaaGreat
end
section
namespace Go.Proofs.YtkdljbnllgpfhaaGreat
open Go Go.RowKit Go.Upr
def Gr(w w':aly):Prop:=∃q os',w'=awY (w.drewN q) os'
theorem Gr.refl(w:aly):Gr w w:=⟨0,#[],(Sort.grow_empty _).symm⟩
theorem Gr.alloc{w w':aly}(h:Gr w w')(o:Obj):Gr w (w'.alloc o):=by
 obtain⟨q,os,rfl⟩:=h;exact⟨q,_,by rw[Sort.alloc_eq_grow,Sort.grow_grow]⟩
theorem Gr.drew{w w':aly}(h:Gr w w'):Gr w w'.drew:=by
 obtain⟨q,os,rfl⟩:=h;exact⟨q+1,os,rfl⟩
theorem Gr.trans{a b c:aly}(h:Gr a b)(k:Gr b c):Gr a c:=by
 obtain⟨q,os,rfl⟩:=h;obtain⟨q',os',rfl⟩:=k;exact⟨q+q',os++os',by unfold awY World.drewN;simp[at7,Array.append_assoc]⟩
theorem Gr.turn{a b:aly}(h:Gr a b):af (λ_=>False) a b:=by
 obtain⟨q,os,rfl⟩:=h;exact⟨rfl,rfl,rfl,by rw[Sort.size_grow];exact Nat.le_add_right _ _,λk hk _=>Sort.heap_grow_old _ _ hk⟩
theorem aaS{w:aly}{a b c x y z:Nat}:
  asP Tryz.prog 101 #[br (a,b,c),br (x,y,z)] w λe w'=>e= .returned (.int .i64 (sN (a,b,c) (x,y,z)))∧Gr w w':=by
 obtain⟨W,hW⟩: ∃W,W=(w.alloc (.cells #[.int .u64 a,.int .u64 b,.int .u64 c] 116)).alloc (.cells #[.int .u64 x,.int .u64 y,.int .u64 z] 116):=⟨_,rfl⟩;have bM:Gr w W:=by rw[hW];exact((Gr.refl w).alloc _).alloc _
 have hA:W.heap[w.heap.size]? =some (.cells #[.int .u64 a,.int .u64 b,.int .u64 c] 116):=by rw[hW];exact bq _ _ _
 have hB:W.heap[w.heap.size+1]? =some (.cells #[.int .u64 x,.int .u64 y,.int .u64 z] 116):=by rw[hW];exact aR _ _ _
 have tD:af (λ_=>False) W W.drew:=(af.refl _ _).drew;have k1:=ajW (tD.kept hA id) (tD.kept hB id);unfold br;go_enter Tryz.func101,Tryz.ntmps101;go_wp2_with (rw[←hW];clear hW);refine aG (λi=>i==2) ar ar ?_;intro S' gg fN gc gf gh gb;iterate 2 (refine ak ar aC aC λK hK=>?_;go_big_quiet_op;refine hK _ ?_;clear hK K)
 refine ai ar aC λQ' hQ=>?_;go_wp2_with (go_at_call 165;refine k1.mono ?_;clear k1;rintro e w2 ⟨rfl,rfl⟩);refine hQ _ _ ar (λ_=>gb _ tD.below) ?_;clear hQ Q';refine ak ar aC aC λK hK=>?_;go_big_quiet_op;refine hK _ ?_;clear hK K;refine aQ ?_;clear gc gf gh gb fN gg S';go_wp2;go_ret;exact⟨rfl,bM.drew⟩
def orI(a b:Int):Int:=if a≠0 then a else b
theorem ajZ{w:aly}{p:Nat}{r0 r1:Int}{t:TypeId}(hp:w.heap[p]? =some (.cells #[.int .i64 r0,.int .i64 r1] t)):
  asP Tryz.prog 147 #[.slice (some ⟨p,0,none⟩) 2 2] w λe w'=>e= .returned (.int .i64 (orI r0 r1))∧w'=w:=by
 obtain⟨p0,p1,-,-⟩:=b9 hp;have hpl:=atm hp;have hT:Hid (orI r0 r1=if r0≠0 then r0 else r1):=rfl;generalize orI r0 r1=r at hT;go_enter Tryz.func147,Tryz.ntmps147;go_wp2
 go_loopw [8] (λi wr=>∃k,k≤2∧i= .int .i64 (k:Nat)∧wr=w∧Hid ((1≤k→r0=0)∧(2≤k→r1=0))) (λi _=>2-(intOf i).toNat)
 case atStart=>exact⟨0,by omega,rfl,rfl,⟨by omega,by omega⟩⟩
 case round=>
  obtain⟨k,hk,rfl,rfl,hI⟩:=hrel;obtain rfl|rfl|rfl:k=0∨k=1∨k=2:=by omega
  ·go_wp2
   ·rename_i hne;have PW:r0≠0:=by simpa using hne
    go_ret;exact⟨by rw[hT.out,if_pos PW];rfl,rfl⟩
   ·rename_i heq;have FC:r0=0:=by simpa using heq
    go_roundw
    case rel=>exact⟨1,by omega,by go_num,trivial,⟨λ_=>FC,by omega⟩⟩
    case measure=>first|decide|(simp[intOf];omega)|simp[intOf]
  ·go_wp2
   ·rename_i hne;go_ret;exact⟨by rw[hT.out,if_neg (not_not_intro (hI.out.1 aj))];rfl,rfl⟩
   ·rename_i heq;have FC:r1=0:=by simpa using heq
    go_roundw
    case rel=>exact⟨2,by omega,by go_num,trivial,⟨λ_=>hI.out.1 aj,λ_=>FC⟩⟩
    case measure=>first|decide|(simp[intOf];omega)|simp[intOf]
  ·go_wp2;go_ret;exact⟨by rw[hT.out,if_neg (not_not_intro (hI.out.1 aj)),hI.out.2 aj];rfl,rfl⟩
end Go.Proofs.YtkdljbnllgpfhaaGreat
end
section
namespace Go.Proofs.YtkdljbnllgpfhaaGreat
open Go Go.RowKit Go.Upr
def XO(x y:Cg):Int:=orI (awS x.n.data.toList y.n.data.toList) (sN x.t y.t)
theorem c89{w:aly}(n m:ByteArray)(a b c x y z:Nat)(g1 g2:Bool):
  asP Tryz.prog 89 #[.agg #[.string n,.int .u64 a,.int .u64 b,.int .u64 c,.bool g1],.agg #[.string m,.int .u64 x,.int .u64 y,.int .u64 z,.bool g2]] w λe w'=>e= .returned (.int .i64 (XO ⟨n,(a,b,c),g1⟩ ⟨m,(x,y,z),g2⟩))∧Gr w w':=by
 unfold XO;dsimp only;have k1:=λw=>Tryz.strings_Compare n m w;have k2:=λw=>aaS (w:=w) (a:=a) (b:=b) (c:=c) (x:=x) (y:=y) (z:=z);unfold br at k2;generalize awS n.data.toList m.data.toList=r0 at k1⊢;generalize sN (a,b,c) (x,y,z)=r1 at k2⊢;obtain⟨W,hW⟩: ∃W,W=(w.alloc (.cells #[.string n,.int .u64 a,.int .u64 b,.int .u64 c,.bool g1] 156)).alloc (.cells #[.string m,.int .u64 x,.int .u64 y,.int .u64 z,.bool g2] 156):=⟨_,rfl⟩;obtain⟨A,hAe⟩: ∃x,x=w.heap.size:=⟨_,rfl⟩;obtain⟨B,hBe⟩: ∃x,x=w.heap.size+1:=⟨_,rfl⟩;have bM:Gr w W:=by rw[hW];exact((Gr.refl w).alloc _).alloc _
 have hA:W.heap[A]? =some (.cells #[.string n,.int .u64 a,.int .u64 b,.int .u64 c,.bool g1] 156):=by rw[hW,hAe];exact bq _ _ _
 have hB:W.heap[B]? =some (.cells #[.string m,.int .u64 x,.int .u64 y,.int .u64 z,.bool g2] 156):=by rw[hW,hBe];exact aR _ _ _
 have p0:W.cell? ⟨A,0,none⟩=some (.string n):=(aqF W A 0 _ 156 (0,0) hA).trans rfl;have p1:W.cell? ⟨A,1,none⟩=some (.int .u64 a):=(aqF W A 1 _ 156 (0,0) hA).trans rfl;have p2:W.cell? ⟨A,2,none⟩=some (.int .u64 b):=(aqF W A 2 _ 156 (0,0) hA).trans rfl;have p3:W.cell? ⟨A,3,none⟩=some (.int .u64 c):=(aqF W A 3 _ 156 (0,0) hA).trans rfl;have q0:W.cell? ⟨B,0,none⟩=some (.string m):=(aqF W B 0 _ 156 (0,0) hB).trans rfl;have q1:W.cell? ⟨B,1,none⟩=some (.int .u64 x):=(aqF W B 1 _ 156 (0,0) hB).trans rfl;have q2:W.cell? ⟨B,2,none⟩=some (.int .u64 y):=(aqF W B 2 _ 156 (0,0) hB).trans rfl;have q3:W.cell? ⟨B,3,none⟩=some (.int .u64 z):=(aqF W B 3 _ 156 (0,0) hB).trans rfl;have qK:=atm hA;have hbl:=atm hB;go_enter Tryz.func89,Tryz.ntmps89;go_wp2;rw[←hW,←hBe,←hAe];clear hW hAe hBe;refine aG (λi=>i==4||i==9||i==10||i==11) ar ar ?_;intro S' gg fN gc gf gh gb;iterate 4 (refine ak ar aC aC λK hK=>?_;go_big_quiet_op;refine hK _ ?_;clear hK K)
 refine ai ar aC λQ' hQ=>?_;go_wp2_with (go_at_call 148;refine(k1 _).mono ?_;clear k1;rintro e w2 ⟨rfl,rfl⟩);have h2:Gr W W.drew:=(Gr.refl _).drew;refine hQ _ _ ar (λ_=>gb _ h2.turn.below) ?_;clear hQ Q';iterate 4 (refine ak ar aC aC λK hK=>?_;go_big_quiet_op;refine hK _ ?_;clear hK K)
 refine ai ar aC λQ' hQ=>?_;go_wp2_with (go_at_call 101;refine(k2 _).mono ?_;clear k2;rintro e w3 ⟨rfl,h3⟩);have h3:=h2.trans h3;refine hQ _ _ ar (λ_=>gb _ h3.turn.below) ?_;clear hQ Q';refine ai ar aC λQ' hQ=>?_;go_wp2;have h4:Gr W (w3.alloc (.cells #[.int .i64 r0,.int .i64 r1] 3)):=h3.alloc _;refine hQ _ _ ar (λ_=>gb _ h4.turn.below) ?_;clear hQ Q';have k5:=ajZ (atp w3 (.cells #[.int .i64 r0,.int .i64 r1] 3));refine ai ar aC λQ' hQ=>?_;go_wp2_with (go_at_call 147;refine k5.mono ?_;clear k5;rintro e w5 ⟨rfl,rfl⟩);refine hQ _ _ ar (λ_=>gb _ h4.turn.below) ?_;clear hQ Q';refine ak ar aC aC λK hK=>?_;go_big_quiet_op;refine hK _ ?_;clear hK K;refine aQ ?_;clear gc gf gh gb fN gg S';go_wp2;go_ret;exact⟨rfl,bM.trans h4⟩
end Go.Proofs.YtkdljbnllgpfhaaGreat
end
section
namespace Go.Proofs
open Go.Shelf
def Tryz.Qu:asR:=⟨λ|20=>190|n=>n,λ|0=>0|3=>3|4=>4|22=>93|24=>156|25=>166|n=>n,λ|n=>n⟩
theorem Tryz.afj:aw4 Tryz.prog Tryz.Qu:={
 mixed:=by kernel_rfl
 f20:=⟨Tryz.f190.name,by decide,Tryz.func190.trans (congrArg some ar)⟩
 t0:=Tryz.underlying0
 a0:=Tryz.isAgg0
 z0:=Tryz.sizeOf0
 v0:=Tryz.zeroValue0
 t3:=Tryz.underlying3
 a3:=Tryz.isAgg3
 z3:=Tryz.sizeOf3
 v3:=Tryz.zeroValue3
 t4:=Tryz.underlying4
 a4:=Tryz.isAgg4
 z4:=Tryz.sizeOf4
 v4:=Tryz.zeroValue4
 t22:=Tryz.underlying93
 a22:=Tryz.isAgg93
 z22:=Tryz.sizeOf93
 v22:=Tryz.zeroValue93
 t25:=Tryz.underlying166
 a25:=Tryz.isAgg166
 z25:=Tryz.sizeOf166
 v25:=Tryz.zeroValue166}
end Go.Proofs
namespace Go.Proofs.YtkdljbnllgpfhaaGreat
open Go Go.RowKit Go.Upr Go.Lib Go.Sort
instance:Inhabited Cg:=⟨⟨⟨#[]⟩,(0,0,0),false⟩⟩
theorem rI{α:Type}[Inhabited α](enc:α→aad)(w:aly)(g o m:Nat)(dk:Array α)(os:Array Obj):af (·=g) w (sortWorld enc w g o m dk os):=by
 refine⟨rfl,rfl,rfl,?_,λk hk hne=>?_⟩
 ·unfold sortWorld grow;simp[Go.Sort.size_putRow,awF]
 ·unfold sortWorld grow putRow mapBlock awF;simp only[Array.getElem?_append,Array.size_modify,hk,if_true];rw[Array.getElem?_modify,if_neg λe=>hne e.symm]
theorem OA{α:Type}[Inhabited α]{R:α→Prop}{d:Array α}(h: ∀i:Nat,R d[i]!){i:Nat}{x:α}(hx:R x): ∀k:Nat,R (d.setIfInBounds i x)[k]! :=λk=>by
 have h1:=h k;rw[getElem!_def]at h1⊢;rw[Array.getElem?_setIfInBounds];by_cases hik:i=k
 ·by_cases his:i<d.size
  ·rw[if_pos hik,if_pos his];exact hx
  ·rw[if_pos hik,if_neg his];rw[Array.getElem?_eq_none aj]at h1;exact h1
 ·rw[if_neg hik];exact h1
theorem YK{α:Type}[Inhabited α]{R:α→Prop}{d:Array α}(h: ∀i:Nat,R d[i]!)(i j:Nat): ∀k:Nat,R (swp d i j)[k]! :=OA (OA h (h j)) (h i)
theorem EB{α:Type}[Inhabited α]{R:α→Prop}(lt:α→α→Bool)(a:Nat): ∀ (j:Nat) (d:Array α),(∀i:Nat,R d[i]!)→(∀i:Nat,R (insInner lt a j d)[i]!)∧(insInner lt a j d).size=d.size
 |0,d,h=>⟨h,rfl⟩
 |j+1,d,h=>by
  unfold insInner;split
  ·have:=EB lt a j _ (YK h (j+1) j);exact⟨this.1,this.2.trans (size_swp ..)⟩
  ·exact⟨h,rfl⟩
theorem Es{α:Type}[Inhabited α]{R:α→Prop}(lt:α→α→Bool)(a b:Nat): ∀ (n i:Nat) (d:Array α),b- i≤n→(∀i:Nat,R d[i]!)→(∀k:Nat,R (insOuter lt a b i d)[k]!)∧(insOuter lt a b i d).size=d.size
 |0,i,d,hn,h=>by
  rw[insOuter,if_neg aj];exact⟨h,rfl⟩
 |n+1,i,d,hn,h=>by
  rw[insOuter];split
  ·have h1:=EB lt a i d h;have h2:=Es lt a b n (i+1) _ aj h1.1;exact⟨h2.1,h2.2.trans h1.2⟩
  ·exact⟨h,rfl⟩
theorem A0{α:Type}[Inhabited α]{R:α→Prop}(lt:α→α→Bool)(a b:Nat)(d:Array α)(h: ∀i:Nat,R d[i]!):(∀k:Nat,R (insertionSort lt d a b)[k]!)∧(insertionSort lt d a b).size=d.size:=Es lt a b _ _ d (agl _) h
theorem ada(blk off size:Nat)(w:aly):CmpLays Tryz.prog 89 #[] Cg.cells 5 XO blk off size w:=λm os dk _ x y=>by
 obtain⟨n,⟨a,b,c⟩,g1⟩:=x;obtain⟨n2,⟨a2,b2,c2⟩,g2⟩:=y;exact c89 n n2 a b c a2 b2 c2 g1 g2
theorem ajN{w:aly}{g o cap:Nat}{d:Array Cg}(hH:awR Cg.cells 5 w g o d)(o8:g<w.heap.size)(hsz:d.size<4611686018427387904):
  asP Tryz.prog 190 #[.slice (some ⟨g,o,none⟩) d.size cap,.int .i64 0,.int .i64 d.size,.func (.func 89) #[] #[]] w λe w'=>e= .returned (.tuple #[])∧af (·=g) w w'∧awR Cg.cells 5 w' g o (awD (ltOf XO) d 0 d.size):=by
 have eg: ∀args w,(callFunc 89 args).run Tryz.prog w= .ok (.enter 89 args) w:=λargs w=>by kernel_rfl
 refine(AnyQ.insertionSortCmpFunc Tryz.afj 5 Tryz.isAgg156 sizeOf156 Cg.cells (λ_=>rfl) (λx v hv=>by simp[Cg.cells]at hv;rcases hv with rfl|rfl|rfl|rfl|rfl<;>rfl) XO 89 #[] g o cap 0 d.size d w eg (ada g o d.size w) hH o8 (arQ _) (agl _) hsz).mono ?_;rintro e w' ⟨rfl,n,os,rfl⟩;exact⟨rfl,rI id w g o n _ os,holdsK_sortWorldK Cg.cells 5 w g o n d _ os o8 hH (A0 (R:=λ_=>True) _ _ _ d λ_=>trivial).2⟩
theorem aj0{w:aly}{g o cap:Nat}{d:Array Cg}(hH:awR Cg.cells 5 w g o d)(o8:g<w.heap.size)(hsz:d.size≤12)(lim:Int):
  asP Tryz.prog 145 #[.slice (some ⟨g,o,none⟩) d.size cap,.int .i64 0,.int .i64 d.size,.int .i64 lim,.func (.func 89) #[] #[]] w λe w'=>e= .returned (.tuple #[])∧af (·=g) w w'∧awR Cg.cells 5 w' g o (awD (ltOf XO) d 0 d.size):=by
 have k1:=ajN (cap:=cap) hH o8 aj;go_enter Tryz.func145,Tryz.ntmps145;go_wp2;refine wp_loop_rounds 1 ?_;rw[rounds_succ];go_wp2_with (go_at_call 190;refine k1.mono ?_;clear k1;rintro e w2 ⟨rfl,aF,XB⟩)
 (try simp only[Exit.inBlock,Exit.then])
 refine bodyPost_ret (results_none rfl _ _ _) rfl ?_;exact⟨rfl,aF,XB⟩
theorem c88{w:aly}{g o cap:Nat}{d:Array Cg}(hH:awR Cg.cells 5 w g o d)(o8:g<w.heap.size)(hsz:d.size≤12):
  asP Tryz.prog 88 #[.slice (some ⟨g,o,none⟩) d.size cap,.func (.func 89) #[] #[]] w λe w'=>e= .returned (.tuple #[])∧af (·=g) w w'∧awR Cg.cells 5 w' g o (awD (ltOf XO) d 0 d.size):=by
 have k1:=λlim=>aj0 (cap:=cap) hH o8 hsz lim;have k2:=λw=>Tryz.bits_Len (d.size:Int) w aj aj;go_enter Tryz.func88,Tryz.ntmps88;go_wp2_with (first|(go_at_call 146;refine(k2 _).mono ?_;clear k2;rintro e w2 ⟨rfl,rfl⟩)|(go_at_call 145;refine(k1 _).mono ?_;clear k1;rintro e w3 ⟨rfl,bX,hH3⟩));go_end0;exact⟨rfl,bX,hH3⟩
end Go.Proofs.YtkdljbnllgpfhaaGreat
end
