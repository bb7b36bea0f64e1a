import Derived.Test.YtkdljbnllgpfhaaGreatA7
import Derived.Conc.Own5
import Derived.Tactics
import Derived.WalkKit
import Derived.Shelf.Small.Strs
import Derived.Shelf.Strings.Search1
import Derived.Shelf.Strings.Search2
import Derived.Shelf.Strings.Search3
import Derived.Shelf.LaysM
import Derived.Shelf.Strings.Shaped
import Derived.Shelf.Bits.Mul64
import Derived.Test.YtkdljbnllgpfhaaGreatProg
import Derived.WalkLawsBesides
import Derived.WalkSpells
import Derived.Deep.Light
set_option maxRecDepth 100000
set_option maxHeartbeats 8000000
open Array renaming getElem?_eq_some_iff→ad3,getElem?_eq_getElem→arZ,getElem?_mapIdx→asO,getD_eq_getD_getElem?→al9,replicate→aps
open Go renaming World→aly,Value→aad,FuncId→alB,Frame→aoz,Calls→asP,TypeId→acs,cell_of_row→aqF,Program→alu,Operand→ang,Question→am6,Oper→apy,Obj→am2,Next→atc,Func→atd,bodyPost_ret→atg,Code→amq
open Option.some renaming injEq→apx,inj→alN
open Go.Region renaming wanted→apY
open Go.Frame renaming enter→ao7
open Go.Operand renaming tmp→apH,func→arp,const→apX
open Prod.mk renaming injEq→ae
open List renaming getElem?_eq_getElem→arn,isPrefixOf_iff_prefix→asQ,getElem?_eq_some_iff→apT,mem_of_getElem?→ann,getElem_of_mem→asW,flatten_cons→asZ,length_take→as1,length_cons→as2,drop_zero→as3,range'→ata
open Go.Value renaming ownBlock→asN,slice→am0
open Nat renaming le_refl→agl,le_trans→al2,lt_of_lt_of_le→amC,succ_mul→asU,lt_or_ge→asV,zero_le→arQ,eq_zero_or_pos→arG,add_sub_cancel→asY,succ_pos→ary
open Go.Ground renaming data→apI,phase→apK,chain→arD
open Go.Result.ok renaming injEq→aB
open Pure renaming pure→ads
open Go.Code renaming region→apN,ret→asJ
open Go.Conc renaming stepG_region_end→apQ,stepG_region→apR,mem_listed→ap4,stepG_seq→apU,stepG_ret'→aqR,events_call_body→as8,run_call_body→ate,stepG_leave→atj,stepG_enter→atk
open Option renaming ne_none_iff_exists'→apO,bind_some→asX
open Go.Shelf renaming Ren→asR
open Go.Sem renaming runT_fst→apP,run→aqG,events→aqx
open Go.Act renaming eval→aqV
open ByteArray renaming size_extract→asS,getElem_eq_getElem_data→ath,empty→ati
open Go.ByteArray renaming toList_eq→asT
open Go.Op renaming assign→aqb,move→ap1,call→aqw
open Go.Deferred renaming ofValue→aox
open Bool renaming false_eq_true→amA
open Go.Ending renaming returned→as0
open Go.World renaming setCell→amJ
open Go.Callee renaming value→aro
open Go.Lib renaming indexByte→as4
open Go.Proofs.Lays renaming n264→as5,n144→as6,n106→as7
open Go.Trace renaming act?→as9
open Go.RowKit.Below renaming refl→atb
open Go.Next renaming value→anO,skip→aou
open Go.Next.value renaming inj→atf
open Go.ConcN renaming noRace_nil→atl
namespace Go.Upr
open Go.Conc
def cut(D:Nat→Bool)(f:Ren):Ren:=λa=>if D a then f a else none
def pd(D:Nat→Bool)(v:aly):World:={v with heap:=v.heap.mapIdx λa o=>if D a then o else jo}
def kW(D:Nat→Bool)(n:Nat)(f g:Ren):Ren:=λa=>if a<n∧D a=false then f a else g a
def dJ(D:Nat→Bool)(v u:aly):World:={u with heap:=u.heap.mapIdx λa o=>if a<v.heap.size∧D a=false then(v.heap[a]?).getD o else o}
open Classical in
noncomputable def po(D:Nat→Bool)(f:Ren)(e:Nat→Option am2)(w:aly):Nat→Option Obj:=λx=>if(∃a,f a=some x∧D a=false)then w.heap[x]? else e x
section
variable{P:alu}{F:alB→Bool}{D:Nat→Bool}{f g:Ren}{v u w w1:aly}{e s e1 s1:Nat→Option am2}
theorem mC{a b:Nat}(h:cut D f a=some b):D a=true∧f a=some b:=by
 unfold cut at h;split at h
 ·exact⟨by assumption,h⟩
 ·cases h
theorem uA:(pd D v).heap.size=v.heap.size:=by simp[pd]
theorem A5{a:Nat}(h:D a=true):(pd D v).heap[a]? =v.heap[a]? :=by
 simp only[pd,asO,h,if_true];cases v.heap[a]? <;>rfl
theorem tH{a:Nat}(h:D a=false)(ha:a<v.heap.size):(pd D v).heap[a]? =some jo:=by
 simp[pd,asO,h,arZ ha]
theorem Rc{n:Nat}(h:vH n v):vH n (pd D v):=by
 intro b hb;have hl:b<v.heap.size:=(ad3.1 (h b hb)).1;cases hd:D b with
 |true=>rw[A5 hd];exact h b hb
 |false=>exact tH hd hl
theorem mY{a x:Nat}(h:f a=some x)(hD:D a=false):po D f e w x=w.heap[x]? :=if_pos ⟨a,h,hD⟩
theorem IZ{x:Nat}(h: ∀a,f a=some x→D a=true):po D f e w x=e x:=if_neg λ⟨a,h1,h2⟩=>by rw[h a h1]at h2;cases h2
theorem bF.split(h:(⟨some (f,v),e,s⟩:bF).Fits P F w)(hD: ∀a b o o',f a=some b→D a=true→v.heap[a]? =some o→jf P F (bD P F) f o o'→jf P F (bD P F) (cut D f) o o'):
  (⟨some (cut D f,pd D v),po D f e w,s⟩:bF).Fits P F w∧∀b,(⟨some (cut D f,pd D v),po D f e w,s⟩:bF).Own b→(⟨some (f,v),e,s⟩:bF).Own b:=by
 have ht:=h.tok f v rfl;refine⟨⟨?_,?_,h.s,?_,?_⟩,?_⟩
 ·intro f' v' he;simp only[apx,ae]at he;obtain⟨rfl,rfl⟩:=he;refine⟨λa b hab=>ht.low a b (mC hab).2,⟨Rc ht.big.1,ht.big.2⟩,λa b hab=>?_,λa a' b hab ye=>ht.inj a a' b (mC hab).2 (mC ye).2⟩;obtain⟨h1,h2⟩:=mC hab;obtain⟨o,o',i1,i2,i3⟩:=ht.heap a b h2;exact⟨o,o',by rw[A5 h1];exact i1,i2,hD a b o o' h2 h1 i1 i3⟩
 ·intro b o hb;by_cases hx: ∃a,f a=some b∧D a=false
  ·obtain⟨a,h1,h2⟩:=hx;rw[show(⟨some (cut D f,pd D v),po D f e w,s⟩:bF).e b=_ from mY h1 h2]at hb;exact hb
  ·rw[show(⟨some (cut D f,pd D v),po D f e w,s⟩:bF).e b=e b from if_neg hx]at hb;exact h.e b o hb
 ·intro f' v' he a b hab;simp only[apx,ae]at he;obtain⟨rfl,rfl⟩:=he;obtain⟨h1,h2⟩:=mC hab;obtain⟨i1,i2⟩:=h.apart f v rfl a b h2;refine⟨?_,i2⟩;show po D f e w b=none;rw[IZ λa' h'=>by rw[ht.inj a' a b h' h2];exact h1];exact i1
 ·intro b o hb;by_cases hx: ∃a,f a=some b∧D a=false
  ·obtain⟨a,h1,h2⟩:=hx;exact(h.apart f v rfl a b h1).2
  ·rw[show(⟨some (cut D f,pd D v),po D f e w,s⟩:bF).e b=e b from if_neg hx]at hb;exact h.alone b o hb
 ·rintro b (hb|⟨f',v',a,he,hab⟩)
  ·by_cases hx: ∃a,f a=some b∧D a=false
   ·obtain⟨a,h1,_⟩:=hx;exact .inr ⟨f,v,a,rfl,h1⟩
   ·rw[show(⟨some (cut D f,pd D v),po D f e w,s⟩:bF).e b=e b from if_neg hx]at hb;exact .inl hb
  ·simp only[apx,ae]at he;obtain⟨rfl,rfl⟩:=he;exact .inr ⟨f,v,a,rfl,(mC hab).2⟩
theorem yJ{a:Nat}{o:am2}(h:D a=false)(hv:v.heap[a]? =some o)(hu:a<u.heap.size):(dJ D v u).heap[a]? =some o:=by
 obtain⟨hl,ho⟩:=ad3.1 hv;simp[dJ,asO,h,hl,ho,arZ hu]
theorem xn{a:Nat}(h: ¬(a<v.heap.size∧D a=false)):(dJ D v u).heap[a]? =u.heap[a]? :=by
 simp only[dJ,asO,if_neg h];cases u.heap[a]? <;>rfl
theorem L3{n:Nat}(h:vH n v)(h1:vH n u):vH n (dJ D v u):=by
 intro b hb;by_cases hx:b<v.heap.size∧D b=false
 ·exact yJ hx.2 (h b hb) (ad3.1 (h1 b hb)).1
 ·rw[xn hx];exact h1 b hb
theorem bF.merge(h:(⟨some (f,v),e,s⟩:bF).Fits P F w)(h1:(⟨some (g,u),e1,s1⟩:bF).Fits P F w1)(hle:(cut D f).le g)(hu: ∀a,a<v.heap.size→D a=false→u.heap[a]? =some jo)
  (he: ∀x o,po D f e w x=some o→e1 x=some o) (hs: ∀x o,s x=some o→s1 x=some o):
  (⟨some (kW D v.heap.size f g,dJ D v u),e,s⟩:bF).Fits P F w1∧f.le (kW D v.heap.size f g)∧(∀b,(⟨some (kW D v.heap.size f g,dJ D v u),e,s⟩:bF).Own b→(⟨some (g,u),e1,s1⟩:bF).Own b)∧g.le (kW D v.heap.size f g):=by
 have ht:=h.tok f v rfl;have jh:=h1.tok g u rfl;have flt: ∀a b,f a=some b→a<v.heap.size:=λa b hab=>by
  obtain⟨o,_,i1,_⟩:=ht.heap a b hab;exact(ad3.1 i1).1
 have gno: ∀a b,g a=some b→¬(a<v.heap.size∧D a=false):=by
  rintro a b hab ⟨h2,h3⟩;obtain⟨o,o',i1,_,i3⟩:=jh.heap a b hab;rw[hu a h2 h3]at i1;cases i1;cases i3
 have cas: ∀a b,kW D v.heap.size f g a=some b→(D a=false∧f a=some b)∨(¬(a<v.heap.size∧D a=false)∧g a=some b):=by
  intro a b hab;by_cases hx:a<v.heap.size∧D a=false
  ·rw[show kW D v.heap.size f g a=f a from if_pos hx]at hab;exact .inl ⟨hx.2,hab⟩
  ·rw[show kW D v.heap.size f g a=g a from if_neg hx]at hab;exact .inr ⟨hx,hab⟩
 have fle:f.le (kW D v.heap.size f g):=by
  intro a b hab;cases hd:D a with
  |false=>exact(if_pos ⟨flt a b hab,hd⟩).trans hab
  |true=>
   have:g a=some b:=hle a b (by unfold cut;rw[hd];exact hab);exact(if_neg (by simp[hd])).trans this
 have gle:g.le (kW D v.heap.size f g):=λa b hab=>(if_neg (gno a b hab)).trans hab;have Yn: ∀a b,f a=some b→D a=false→∃o,w.heap[b]? =some o∧e1 b=some o:=by
  intro a b hab hd;obtain⟨o,o',_,i2,_⟩:=ht.heap a b hab;exact⟨o',i2,he b o' (by rw[mY hab hd];exact i2)⟩
 have ein: ∀x o,e x=some o→e1 x=some o:=λx o hx=>he x o (by
  rw[IZ λa ha=>?_]
  ·exact hx
  ·have:=(h.apart f v rfl a x ha).1
   rw[show(⟨some (f,v),e,s⟩:bF).e x=e x from rfl,hx]at this;cases this)
 refine⟨⟨?_,λb o hb=>h1.e b o (ein b o hb),λb o hb=>h1.s b o (hs b o hb),?_,h.alone⟩,fle,?_,gle⟩
 ·intro f' v' hx;simp only[apx,ae]at hx;obtain⟨rfl,rfl⟩:=hx;refine⟨λa b hab=>(cas a b hab).elim (λx=>ht.low a b x.2) λx=>jh.low a b x.2,⟨L3 ht.big.1 jh.big.1,jh.big.2⟩,λa b hab=>?_,λa a' b hab ye=>?_⟩
  ·rcases cas a b hab with⟨hd,ye⟩|⟨hx,ye⟩
   ·obtain⟨o,o',i1,i2,i3⟩:=ht.heap a b ye;obtain⟨o2,j1,j2⟩:=Yn a b ye hd;obtain rfl:o'=o2:=alN (i2.symm.trans j1);have hul:a<u.heap.size:=(ad3.1 (hu a (flt a b ye) hd)).1;exact⟨o,o',yJ hd i1 hul,h1.e b o' j2,i3.mono fle⟩
   ·obtain⟨o,o',i1,i2,i3⟩:=jh.heap a b ye;exact⟨o,o',by rw[xn hx];exact i1,i2,i3.mono gle⟩
  ·rcases cas a b hab with⟨hd,k1⟩|⟨hx,k1⟩<;>rcases cas a' b ye with⟨mf,k2⟩|⟨kx,k2⟩
   ·exact ht.inj a a' b k1 k2
   ·obtain⟨o,_,j2⟩:=Yn a b k1 hd;have:=(h1.apart g u rfl a' b k2).1;rw[show(⟨some (g,u),e1,s1⟩:bF).e b=e1 b from rfl,j2]at this;cases this
   ·obtain⟨o,_,j2⟩:=Yn a' b k2 mf;have:=(h1.apart g u rfl a b k1).1;rw[show(⟨some (g,u),e1,s1⟩:bF).e b=e1 b from rfl,j2]at this;cases this
   ·exact jh.inj a a' b k1 k2
 ·intro f' v' hx a b hab;simp only[apx,ae]at hx;obtain⟨rfl,rfl⟩:=hx;rcases cas a b hab with⟨hd,k1⟩|⟨hx,k1⟩
  ·exact h.apart f v rfl a b k1
  ·obtain⟨i1,i2⟩:=h1.apart g u rfl a b k1;refine⟨?_,?_⟩
   ·cases hb:e b with
    |none=>exact hb
    |some o=>rw[show(⟨some (g,u),e1,s1⟩:bF).e b=e1 b from rfl,ein b o hb]at i1;cases i1
   ·cases hb:s b with
    |none=>exact hb
    |some o=>rw[show(⟨some (g,u),e1,s1⟩:bF).s b=s1 b from rfl,hs b o hb]at i2;cases i2
 ·rintro b (hb|⟨f',v',a,hx,hab⟩)
  ·obtain⟨o,ho⟩:=apO.1 hb;exact .inl (by rw[show(⟨some (g,u),e1,s1⟩:bF).e b=e1 b from rfl,ein b o ho];simp)
  ·simp only[apx,ae]at hx;obtain⟨rfl,rfl⟩:=hx;rcases cas a b hab with⟨hd,k1⟩|⟨_,k1⟩
   ·obtain⟨o,_,j2⟩:=Yn a b k1 hd;exact .inl (by rw[show(⟨some (g,u),e1,s1⟩:bF).e b=e1 b from rfl,j2];simp)
   ·exact .inr ⟨g,u,a,rfl,k1⟩
end
end Go.Upr
namespace Go.Proofs.YtkdljbnllgpfhaaGreat
open Go.Upr Go.Conc
abbrev Jj:Array Oper:= #[{dst:=some 4,op:=aqb (apX (am0 none 0 0)),type:=93,pos:= "pipe.go:35",after:= #[],guard:=none}]
abbrev ug:Array Oper:= #[{dst:=some 5,op:=ap1 (apH 0),type:=171,pos:= "pipe.go:35",after:= #[],guard:=none},
 {dst:=some 6,op:=aqw {callee:=Callee.invoke (apH 5) "upshot/layers.fill",args:= #[],argTypes:= #[]},type:=93,pos:= "pipe.go:35",after:= #[{on:=0,ground:=apI}],guard:=none},
 {dst:=some 4,op:=aqb (apH 6),type:=93,pos:= "pipe.go:35",after:= #[{on:=1,ground:=apI},{on:=1,ground:=arD},{on:=0,ground:=apK},{on:=1,ground:=apK}],guard:=none}]
theorem Pg:Tryz.f141.body=some ((apN 0 Jj false).seq ((apN 1 ug false).seq asJ)):=rfl
theorem Zj(x:aad)(w:aly):(method 622 320 x "upshot/layers.fill").run Tryz.prog w= .ok (325,x) w:=by kernel_rfl
theorem Zk(x:aad)(w:aly):(method 622 323 x "upshot/layers.fill").run Tryz.prog w= .ok (386,x) w:=by kernel_rfl
theorem Vy(x:aad)(w:aly):(method 622 320 x "upshot/layers.fill").events Tryz.prog w #[]= #[]:=by kernel_rfl
theorem Vz(x:aad)(w:aly):(method 622 323 x "upshot/layers.fill").events Tryz.prog w #[]= #[]:=by kernel_rfl
structure yG(ty:acs)(fn:alB):Prop where
 run: ∀ (ρ:ang→aad) (w:aly) (x:aad),ρ (.tmp 5)= .iface ty x→(execOp ρ ug[1]).run Tryz.prog w= .ok (.enter fn #[x]) w
 events: ∀ (ρ:ang→aad) (w:aly) (x:aad),ρ (.tmp 5)= .iface ty x→(execOp ρ ug[1]).events Tryz.prog w #[]= #[]
theorem O3{ty:acs}{fn:alB}{XH:atd}{c:amq}(hf:Tryz.prog.funcs[fn]? =some XH)(hname:(XH.name== "runtime.NumGoroutine")=false)(hb:XH.body=some c)
  (h1: ∀x w,(method 622 ty x "upshot/layers.fill").run Tryz.prog w= .ok (fn,x) w) (h2: ∀x w,(method 622 ty x "upshot/layers.fill").events Tryz.prog w #[]= #[]):yG ty fn:=by
 have BR: ¬XH.name= "runtime.NumGoroutine" :=by simpa using hname
 refine⟨fun ρ w x h=>?_,fun ρ w x h=>?_⟩
 ·unfold execOp;simp[go_sem,h,resolve,invoke,h1,callFunc,hf,BR,hb]
 ·unfold execOp;simp[go_sem,h,resolve,invoke,h1,h2,callFunc,hf,BR,hb]
def FL(D:Nat→Bool)(f:Ren)(N:Nat)(M:Nat→List aad→aly→Prop)(i:Nat)(xs:List aad)(f':Ren)(v':aly):Prop:=
 (cut D f).le f'∧PH f' v'∧N≤v'.heap.size∧(∀a,a<N→D a=false→v'.heap[a]? =some jo)∧M i xs v'
theorem nT{v v1:aly}(h:Grown v v1):v.heap.size≤v1.heap.size:=by
 rcases asV v1.heap.size v.heap.size with hl|hg
 ·have:=h (v.heap.size- 1) _ (arZ aj);have:=(ad3.1 this).1;omega
 ·exact hg
theorem nV{P:alu}{F:alB→Bool}{f:Ren}{v w:aly}(h:Fit P F f v w):PH f v:=λa x hx=>by
 obtain⟨o,_,h1,_⟩:=h.heap a x hx;exact(ad3.1 h1).1
theorem FL.grow{D:Nat→Bool}{f:Ren}{N:Nat}{M:Nat→List aad→aly→Prop}{F:alB→Bool}(hM: ∀i xs v v',M i xs v→Grown v v'→M i xs v')(i:Nat)(xs:List aad)(f1 f2:Ren)(v1 v2:aly)
  (h:FL D f N M i xs f1 v1) (hle:f1.le f2) (hg:Grown v1 v2) (hw: ∃w,Fit Tryz.prog F f2 v2 w):FL D f N M i xs f2 v2:=by
 obtain⟨h1,h2,h3,h4,h5⟩:=h;obtain⟨w,hw⟩:=hw;exact⟨Ren.le_trans h1 hle,nV hw,al2 h3 (nT hg),λa ha hd=>hg _ _ (h4 a ha hd),hM _ _ _ _ h5 hg⟩
def Ea(D:Nat→Bool)(N:Nat)(M:Nat→List aad→aly→Prop)(j:Nat)(xs:List dU)(v0 v:aly)(u:aad)(w:aly):Prop:=
 ∃ys:List dU,gN w u ys∧xs.length+ys.length≤1099511627776∧(N≤w.heap.size∧∀a,a<N→D a=false→w.heap[a]? =some jo)∧(∀ (a:Nat) (o:am2),v0.heap.size≤a→v.heap[a]? =some o→w.heap[a]? =some o)∧
  ∀w':aly,(∀ (a:Nat) (o:am2),w.heap[a]? =some o→(a<v0.heap.size∨v.heap.size≤a)→w'.heap[a]? =some o)→M (j+1) ((xs++ys).map dU.val) w'
theorem Rl{F:alB→Bool}(H:Held Tryz.prog F){D:Nat→Bool}{f:Ren}{N:Nat}{M:Nat→List aad→aly→Prop}{j:Nat}{ty:acs}{fn:alB}{x x':aad}(hfn:yG ty fn)(hF:F fn=true)(hx:aA F (cut D f) x x')
  (hc: ∀ (xs:List dU) (v0 v:aly),M j (xs.map dU.val) v0→N≤v0.heap.size→(∀a,a<N→D a=false→v0.heap[a]? =some jo)→Grown v0 v→∀T,asP Tryz.prog fn #[x] (ax v T) λex w=>∃u,ex= .returned u∧Ea D N M j xs v0 v u w)
  (e s:Nat→Option am2):nR F (FL D f N M) (j+1) (.iface ty x') (.func (.func 141) #[] #[]) e s:=by
 intro Stop a k cs f0 f1 v0 v s0 s' xs nj hle hg hd hG hr jg AU KI G_ hs;obtain⟨p1,p2,p3,p4,p5⟩:=nj;rw[asY]at p5;have WE:a.tmps[13]?.getD undef= .func (.func 141) #[] #[]:=by simpa[aqV,al9]using AU
 have q14:a.tmps[14]?.getD undef= .iface ty x':=by simpa[aqV,al9]using KI
 have q15:a.tmps[15]?.getD undef=s':=by simpa[aqV,al9]using G_
 have hname: ¬Tryz.f141.name= "runtime.NumGoroutine" :=by decide+kernel
 refine uq (f:=141) (args:= #[.iface ty x',s']) rfl rfl (base_kind _) (λw=>?_) (λw=>?_) ?_
 ·simp[execOp,resolve,aox,invoke,callFunc,aqV,WE,q14,q15,Tryz.func141,hname,Pg]
 ·simp[execOp,resolve,aox,invoke,callFunc,aqV,WE,q14,q15,Tryz.func141,hname,Pg]
 have e1:ao7 Tryz.prog 141 #[.iface ty x',s'] .normal=(base 141).at ⟨#[.iface ty x',s',undef,undef,undef,undef,undef],[]⟩ [.code ((apN 0 Jj false).seq ((apN 1 ug false).seq asJ))]:=by
  unfold ao7;rw[Tryz.func141];rfl
 rw[e1];refine aK.ctl (λw=>apU) ?_;refine aK.ctl (λw=>apR) ?_;refine aK.pure (.slice none 0 0) rfl rfl (base_kind _) (λw=>by simp[go_sem]) (λw=>by simp[go_sem]) ?_;walk_nrm;refine aK.ctl (λw=>apQ) ?_;refine aK.ctl (λw=>apU) ?_;refine aK.ctl (λw=>apR) ?_;refine aK.pure (.iface ty x') rfl rfl (base_kind _) (λw=>by simp[go_sem]) (λw=>by simp[go_sem]) ?_;walk_nrm;refine uq (f:=fn) (args:= #[x']) rfl rfl (base_kind _) (λw=>hfn.run _ w x' rfl) (λw=>hfn.events _ w x' rfl) ?_;refine qs λ⟨ww,Sq⟩=>?_;refine aK.call H hF (f0:=f1) (v0:=v) (args:= #[x]) (args':= #[x']) ?_ ⟨ww,Sq.tok _ _ rfl⟩ (R:=Ea D N M j xs v0 v) (λu w T h=>h) (hc xs v0 v p5 p3 p4 hg) λf2 u u' v2 cC hu ⟨ys,r1,r2,⟨r3n,r3⟩,r4,r5⟩=>?_
 ·exact .cons (hx.mono (Ren.le_trans p1 hle)) .nil
 have e2:((base 141).at ⟨#[.iface ty x',s',undef,undef,.slice none 0 0,.iface ty x',undef],[]⟩ [.inRegion ug [1,2],.code asJ]).finish u'=(base 141).at ⟨#[.iface ty x',s',undef,undef,.slice none 0 0,.iface ty x',u'],[]⟩ [.inRegion ug [2],.code asJ]:=rfl;rw[e2];refine aK.pure u' rfl rfl (base_kind _) (λw=>by simp[go_sem]) (λw=>by simp[go_sem]) ?_;walk_nrm;refine aK.ctl (λw=>apQ) ?_;refine aK.ctl (λw=>aqR) ?_;refine aK.ctl (λw=>atj rfl rfl Tryz.func141 (v:=u') (by simp[go_sem,results]) (by simp[go_sem,results])) ?_;rw[Frame.iE (o:=jz[5]) rfl];have hGk:wH v2 s0 xs:=by
  rcases hG with h|⟨g,cap,cur,i1,i2,i3⟩
  ·exact .inl h
  ·exact .inr ⟨g,cap,cur,i1,r4 g _ (jg _ _ _ i1) i2,i3⟩
 refine hs f2 v2 u u' ys cC hGk r1 hu r2 λf3 v3 eQ hk ⟨w3,hw3⟩=>?_;have Lk: ∀a,a<v0.heap.size→some a≠s0.ownBlock:=by
  intro a ha e';rcases hG with⟨_,h⟩|⟨g,cap,cur,i1,_⟩
  ·rw[h]at e';simp[asN]at e'
  ·have:=jg _ _ _ i1;rw[i1]at e';simp[asN]at e';dsimp only at this;omega
 have gin: ∀a,v.heap.size≤a→some a≠s0.ownBlock:=by
  intro a ha e';rcases hG with⟨_,h⟩|⟨g,cap,cur,i1,i2,_⟩
  ·rw[h]at e';simp[asN]at e'
  ·have:=(ad3.1 i2).1;rw[i1]at e';simp[asN]at e';omega
 refine⟨Ren.le_trans p1 (Ren.le_trans hle (Ren.le_trans cC eQ)),nV hw3,?_,λa ha hda=>hk a _ (r3 a ha hda) (Lk a aj),r5 v3 λa o ho h=>hk a o ho (h.elim (Lk a) (gin a))⟩;rcases arG N with h0|h0
 ·omega
 ·have:=hk (N- 1) _ (arZ (show N- 1<v2.heap.size by omega)) (Lk _ aj);have:=(ad3.1 this).1;omega
abbrev LU:Array Oper:= #[{dst:=some 4,op:=ap1 (apH 0),type:=100,pos:= "pipe.go:35",after:= #[],guard:=none},
 {dst:=some 5,op:=ap1 (apH 1),type:=93,pos:= "pipe.go:35",after:= #[],guard:=none},
 {dst:=some 6,op:=aqw {callee:=aro (arp 90),args:= #[apH 4,apH 5,arp 141],argTypes:= #[100,93,169]},type:=93,pos:= "pipe.go:35",after:= #[{on:=0,ground:=apI},{on:=1,ground:=apI}],guard:=none}]
structure LZ(F:alB→Bool)(D:Nat→Bool)(f:Ren)(v:aly)(ap:Nat)(n:Nat)(M:Nat→List aad→aly→Prop):Prop where
 held:Held Tryz.prog F
 closed: ∀a b o o',f a=some b→D a=true→v.heap[a]? =some o→jf Tryz.prog F (bD Tryz.prog F) f o o'→jf Tryz.prog F (bD Tryz.prog F) (cut D f) o o'
 mono: ∀i xs v v',M i xs v→Grown v v'→M i xs v'
 small:n+1<2147483647
 pipe:D ap=false∧∃ (pc:Array aad) (tp:acs) (fz:Nat×Nat) (p_:Option Addr) (cp:Nat),v.heap[ap]? =some (.cells pc tp fz)∧pc[0]? =some (.slice p_ n cp)∧
  ∀j,j<n→∃ (al lo tl ty:Nat) (x:aad) (lc:Array aad) (Sh:Nat×Nat) (fn:alB),p_=some ⟨al,lo,none⟩∧D al=false∧v.heap[al]? =some (.cells lc tl Sh)∧lc[lo+j]? =some (.iface ty x)∧yG ty fn∧F fn=true∧
   (∀x',aA F f x x'→aA F (cut D f) x x')∧
   ∀ (xs:List dU) (v0 v1:aly),M j (xs.map dU.val) v0→v.heap.size≤v0.heap.size→(∀a,a<v.heap.size→D a=false→v0.heap[a]? =some jo)→Grown v0 v1→∀T,asP Tryz.prog fn #[x] (ax v1 T) λex w=>∃u,ex= .returned u∧Ea D v.heap.size M j xs v0 v1 u w
theorem rB{P:alu}{F:alB→Bool}{C:amq→Bool}{f:Ren}{c:Array aad}{e:acs}{fr:Nat×Nat}{o:am2}(h:jf P F C f (.cells c e fr) o): ∃c',o= .cells c' e fr∧RelA F f c c':=by
 cases h with
 |cells _ _ h=>exact⟨_,rfl,h⟩
section
variable{F:alB→Bool}{D:Nat→Bool}{f:Ren}{v w:aly}{e s:Nat→Option am2}{ap n:Nat}{M:Nat→List aad→aly→Prop}
theorem DD(h:LZ F D f v ap n M)(hw:(⟨some (f,v),e,s⟩:bF).Fits Tryz.prog F w){bp:Nat}(R3:f ap=some bp):
  ∃ (pc:Array aad) (tp:acs) (fz:Nat×Nat) (p_:Option Addr) (cp:Nat),po D f e w bp=some (.cells pc tp fz)∧pc[0]? =some (.slice p_ n cp)∧vR F (FL D f v.heap.size M) (po D f e w) (.func (.func 141) #[] #[]) p_ n:=by
 obtain⟨hd,pc,tp,fz,p_,cp,h1,h2,h3⟩:=h.pipe;have ht:=hw.tok f v rfl;obtain⟨o,o',i1,i2,i3⟩:=ht.heap ap bp R3;rw[h1]at i1;obtain rfl:=alN i1;obtain⟨pc',rfl,i4⟩:=rB i3;obtain⟨lv,j1,j2⟩:=i4.get 0 _ h2;have key: ∃Fy,lv= .slice Fy n cp∧∀al lo,p_=some ⟨al,lo,none⟩→∃bl,Fy=some ⟨bl,lo,none⟩∧f al=some bl:=by
  cases j2 with
  |Kw=>exact⟨_,rfl,λ_ _ h=>by cases h⟩
  |sl _ _ hb=>exact⟨_,rfl,λal lo h=>by cases h;exact⟨_,rfl,hb⟩⟩
 obtain⟨Fy,rfl,P0⟩:=key;refine⟨pc',tp,fz,Fy,cp,by rw[mY R3 hd];exact i2,j1,h.held,FL.grow h.mono,λi xs f' v' hp=>hp.2.1,h.small,λj hj=>?_⟩;obtain⟨al,lo,tl,ty,x,lc,Sh,fn,k1,k2,k3,k4,k5,k6,k7,k8⟩:=h3 j hj;obtain⟨bl,l1,l2⟩:=P0 al lo k1;obtain⟨p,p',m1,m2,m3⟩:=ht.heap al bl l2;rw[k3]at m1;obtain rfl:=alN m1;obtain⟨lc',rfl,m4⟩:=rB m3;obtain⟨y,n1,n2⟩:=m4.get (lo+j) _ k4;cases n2 with
 |iface _ hx=>
  rename_i x';exact⟨bl,lo,tl,ty,x',lc',Sh,l1,by rw[mY l2 k2];exact m2,n1,λe s=>Rl h.held k5 k6 (k7 x' hx) k8 e s⟩
theorem M5(h:LZ F D f v ap n M){p' base' bs:aad}{xs:List dU}{c:aoz}{cs:List aoz}(hp:aA F f (.pointer (some ⟨ap,0,none⟩)) p')(hn:xs.length≤1099511627776)(hM:M 0 (xs.map dU.val) (pd D v))(hL:gN (pd D v) bs xs)(hr:aA F (cut D f) bs base'):
  Go.Upr.Comes Tryz.prog F (⟨some (f,v),e,s⟩:bF) (ao7 Tryz.prog 79 #[p',base'] .normal) (c::cs) λr' fr' cs'=>
   ∃ (f2:Ren) (v':aly) (ys:List dU),f.le f2∧M n (ys.map dU.val) v'∧v.heap.size≤v'.heap.size∧r'=⟨some (f2,dJ D v v'),e,s⟩∧fr'=c.finish (.tuple #[])∧cs'=cs:=by
 cases hp with
 |ptr hb=>
 rename_i bp;dsimp only at hb⊢;obtain⟨bad,m,bc,hbase⟩: ∃bad m bc,base'= .slice bad m bc:=by
  rcases hL with⟨rfl,ad,cp,rfl⟩|⟨b,o,cp,cc,ee,fr,rfl,_,_⟩
  ·cases hr
   ·exact⟨_,_,_,rfl⟩
   ·exact⟨_,_,_,rfl⟩
  ·cases hr;exact⟨_,_,_,rfl⟩
 have e1:ao7 Tryz.prog 79 #[.pointer (some ⟨bp,0,none⟩),base'] .normal=(base 79).at ⟨#[.pointer (some ⟨bp,0,none⟩),base',undef,undef,undef,undef,undef],[]⟩ [.code (apN 0 LU false)]:=by
  unfold ao7;rw[Tryz.func79];rfl
 rw[e1];refine(Go.Upr.Comes.RN (Q:=λr fr cs1=>r=⟨some (f,v),e,s⟩∧fr=ao7 Tryz.prog 90 #[.pointer (some ⟨bp,0,none⟩),base',.func (.func 141) #[] #[]] .normal∧cs1=(base 79).at ⟨#[.pointer (some ⟨bp,0,none⟩),base',undef,undef,.pointer (some ⟨bp,0,none⟩),base',undef],[]⟩ [.inRegion LU [2]]::c::cs) ?_).bind ?_
 ·refine aK.ctl (λw=>apR) ?_;refine aK.pure (.pointer (some ⟨bp,0,none⟩)) rfl rfl (base_kind _) (λw=>by simp[go_sem]) (λw=>by simp[go_sem]) ?_;walk_nrm;refine aK.pure base' rfl rfl (base_kind _) (λw=>by simp[go_sem]) (λw=>by simp[go_sem]) ?_;walk_nrm;refine kX (f:=90) (vals:= #[.pointer (some ⟨bp,0,none⟩),base',.func (.func 141) #[] #[]]) rfl rfl (base_kind _) rfl Tryz.func90 rfl rfl (by simp[aqV]) ?_;exact .stop ⟨rfl,rfl,rfl⟩
 rintro _ _ _ ⟨rfl,rfl,rfl⟩;refine Go.Upr.Comes.shift λw hw=>?_;obtain⟨hs1,hs2⟩:=bF.split hw h.closed;obtain⟨pc,tp,fz,p_,cp,q1,q2,hl⟩:=DD h hw hb;refine⟨_,hs1,hs2,λb hb=> .inr hb,?_⟩;have abF:PH (cut D f) (pd D v):=λa x hx=>by rw[uA];exact nV (hw.tok f v rfl) a x (mC hx).2
 refine(EJ hl rfl hbase q1 q2 hn ⟨Ren.le_refl _,abF,by rw[uA];exact agl _,λa ha hd=>tH hd ha,hM⟩ hL hr).bind ?_;rintro _ _ _ ⟨e1,s1,f0,f',v0,v',r0,r1,ys,k1,k2,k3,k4,k5,k6,-,k7,rfl,rfl,rfl⟩;refine Go.Upr.Comes.shift λw1 ik=>?_;obtain⟨m1,m2,m3,m4⟩:=bF.merge hw ik (Ren.le_trans k2.1 k3) (λa ha hd=>k4 _ _ (k2.2.2.2.1 a ha hd)) k1.1 k1.2;refine⟨_,m1,m3,λb hb=> .inr (λe'=>?_),?_⟩
 ·obtain⟨o,ho⟩:=apO.1 hb;rw[show(⟨some (f',v'),e1,s1⟩:bF).s b=s1 b from rfl,k1.2 b o ho]at e';cases e'
 refine Go.Upr.Comes.RN ?_;rw[Frame.iE (o:=LU[2]) rfl];walk_nrm;refine aK.ctl (λw=>apQ) ?_;refine xp Tryz.func79 rfl ?_;exact .stop ⟨_,v',ys,m2,h.mono _ _ _ _ k2.2.2.2.2 k4,al2 k2.2.2.1 (nT k4),rfl,rfl,rfl⟩
end
theorem VB(x:aad)(w:aly):(method 622 320 x "upshot/layers.carry").run Tryz.prog w= .ok (324,x) w:=by kernel_rfl
theorem VC(x:aad)(w:aly):(method 622 323 x "upshot/layers.carry").run Tryz.prog w= .ok (385,x) w:=by kernel_rfl
theorem QU(x:aad)(w:aly):(method 622 320 x "upshot/layers.carry").events Tryz.prog w #[]= #[]:=by kernel_rfl
theorem QV(x:aad)(w:aly):(method 622 323 x "upshot/layers.carry").events Tryz.prog w #[]= #[]:=by kernel_rfl
abbrev th:Value:= .func (.methodOf 171 "upshot/layers.carry") #[] #[]
structure uj(ty:acs)(fn:alB):Prop where
 run: ∀ (ρ:ang→aad) (w:aly) (x s:aad),ρ (.tmp 13)=th→ρ (.tmp 14)= .iface ty x→ρ (.tmp 15)=s→(execOp ρ jz[5]).run Tryz.prog w= .ok (.enter fn #[x,s]) w
 events: ∀ (ρ:ang→aad) (w:aly) (x s:aad),ρ (.tmp 13)=th→ρ (.tmp 14)= .iface ty x→ρ (.tmp 15)=s→(execOp ρ jz[5]).events Tryz.prog w #[]= #[]
theorem Jr{ty:acs}{fn:alB}{XH:atd}{c:amq}(hf:Tryz.prog.funcs[fn]? =some XH)(hname:(XH.name== "runtime.NumGoroutine")=false)(hb:XH.body=some c)
  (h1: ∀x w,(method 622 ty x "upshot/layers.carry").run Tryz.prog w= .ok (fn,x) w) (h2: ∀x w,(method 622 ty x "upshot/layers.carry").events Tryz.prog w #[]= #[]):uj ty fn:=by
 have BR: ¬XH.name= "runtime.NumGoroutine" :=by simpa using hname
 refine⟨fun ρ w x s AU KI G_=>?_,fun ρ w x s AU KI G_=>?_⟩
 ·unfold execOp;simp[go_sem,AU,KI,G_,resolve,invoke,h1,callFunc,hf,BR,hb]
 ·unfold execOp;simp[go_sem,AU,KI,G_,resolve,invoke,h1,h2,callFunc,hf,BR,hb]
theorem M9{F:alB→Bool}(H:Held Tryz.prog F){D:Nat→Bool}{f:Ren}{N:Nat}{M:Nat→List aad→aly→Prop}{j:Nat}{ty:acs}{fn:alB}{x x':aad}(hfn:uj ty fn)(hF:F fn=true)(hx:aA F (cut D f) x x')
  (hc: ∀ (xs:List dU) (v0 v:aly) (s0:aad),M j (xs.map dU.val) v0→N≤v0.heap.size→(∀a,a<N→D a=false→v0.heap[a]? =some jo)→Grown v0 v→wH v s0 xs→(∀ad n cp,s0= .slice (some ad) n cp→v0.heap.size≤ad.block)→
   ∀T,asP Tryz.prog fn #[x,s0] (ax v T) λex w=>∃u,ex= .returned u∧Ea D N M j xs v0 v u w)
  (e s:Nat→Option am2):nR F (FL D f N M) (j+1) (.iface ty x') th e s:=by
 intro Stop a k cs f0 f1 v0 v s0 s' xs nj hle hg hd hG hr jg AU KI G_ hs;obtain⟨p1,p2,p3,p4,p5⟩:=nj;rw[asY]at p5;refine uq (f:=fn) (args:= #[x',s']) rfl rfl (base_kind _) (λw=>hfn.run _ w x' s' AU KI G_) (λw=>hfn.events _ w x' s' AU KI G_) ?_;refine qs λ⟨ww,Sq⟩=>?_;refine aK.call H hF (f0:=f1) (v0:=v) (args:= #[x,s0]) (args':= #[x',s']) ?_ ⟨ww,Sq.tok _ _ rfl⟩ (R:=Ea D N M j xs v0 v) (λu w T h=>h) (hc xs v0 v s0 p5 p3 p4 hg hG jg) λf2 u u' v2 cC hu ⟨ys,r1,r2,⟨r3n,r3⟩,r4,r5⟩=>?_
 ·exact .cons (hx.mono (Ren.le_trans p1 hle)) (.cons hr .nil)
 rw[Frame.iE (o:=jz[5]) rfl];have hGk:wH v2 s0 xs:=by
  rcases hG with h|⟨g,cap,cur,i1,i2,i3⟩
  ·exact .inl h
  ·exact .inr ⟨g,cap,cur,i1,r4 g _ (jg _ _ _ i1) i2,i3⟩
 refine hs f2 v2 u u' ys cC hGk r1 hu r2 λf3 v3 eQ hk ⟨w3,hw3⟩=>?_;have Lk: ∀a,a<v0.heap.size→some a≠s0.ownBlock:=by
  intro a ha e';rcases hG with⟨_,h⟩|⟨g,cap,cur,i1,_⟩
  ·rw[h]at e';simp[asN]at e'
  ·have:=jg _ _ _ i1;rw[i1]at e';simp[asN]at e';dsimp only at this;omega
 have gin: ∀a,v.heap.size≤a→some a≠s0.ownBlock:=by
  intro a ha e';rcases hG with⟨_,h⟩|⟨g,cap,cur,i1,i2,_⟩
  ·rw[h]at e';simp[asN]at e'
  ·have:=(ad3.1 i2).1;rw[i1]at e';simp[asN]at e';omega
 refine⟨Ren.le_trans p1 (Ren.le_trans hle (Ren.le_trans cC eQ)),nV hw3,?_,λa ha hda=>hk a _ (r3 a ha hda) (Lk a aj),r5 v3 λa o ho h=>hk a o ho (h.elim (Lk a) (gin a))⟩;rcases arG N with h0|h0
 ·omega
 ·have:=hk (N- 1) _ (arZ (show N- 1<v2.heap.size by omega)) (Lk _ aj);have:=(ad3.1 this).1;omega
abbrev ahc:Array Oper:= #[{dst:=some 4,op:=aqb (apX (am0 none 0 0)),type:=93,pos:= "pipe.go:40",after:= #[],guard:=none}]
abbrev TY:Array Oper:= #[{dst:=some 5,op:=ap1 (apH 0),type:=100,pos:= "pipe.go:40",after:= #[],guard:=none},
 {dst:=some 6,op:=ap1 (apH 1),type:=93,pos:= "pipe.go:40",after:= #[],guard:=none},
 {dst:=some 7,op:=Op.makeFunc (Fn.methodOf 171 "upshot/layers.carry") #[] #[],type:=169,pos:= "pipe.go:40",after:= #[],guard:=none},
 {dst:=some 8,op:=aqw {callee:=aro (arp 90),args:= #[apH 5,apH 6,apH 7],argTypes:= #[100,93,169]},type:=93,pos:= "pipe.go:40",after:= #[{on:=0,ground:=apI},{on:=1,ground:=apI},{on:=2,ground:=apI}],guard:=none},
 {dst:=some 4,op:=aqb (apH 8),type:=93,pos:= "pipe.go:40",after:= #[{on:=3,ground:=apI},{on:=3,ground:=arD},{on:=0,ground:=apK},{on:=1,ground:=apK},{on:=2,ground:=apK},{on:=3,ground:=apK}],guard:=none}]
structure Gy(F:alB→Bool)(D:Nat→Bool)(f:Ren)(v:aly)(ap:Nat)(n:Nat)(M:Nat→List aad→aly→Prop):Prop where
 held:Held Tryz.prog F
 closed: ∀a b o o',f a=some b→D a=true→v.heap[a]? =some o→jf Tryz.prog F (bD Tryz.prog F) f o o'→jf Tryz.prog F (bD Tryz.prog F) (cut D f) o o'
 mono: ∀i xs v v',M i xs v→Grown v v'→M i xs v'
 small:n+1<2147483647
 pipe:D ap=false∧∃ (pc:Array aad) (tp:acs) (fz:Nat×Nat) (p_:Option Addr) (cp:Nat),v.heap[ap]? =some (.cells pc tp fz)∧pc[0]? =some (.slice p_ n cp)∧
  ∀j,j<n→∃ (al lo tl ty:Nat) (x:aad) (lc:Array aad) (Sh:Nat×Nat) (fn:alB),p_=some ⟨al,lo,none⟩∧D al=false∧v.heap[al]? =some (.cells lc tl Sh)∧lc[lo+j]? =some (.iface ty x)∧uj ty fn∧F fn=true∧
   (∀x',aA F f x x'→aA F (cut D f) x x')∧
   ∀ (xs:List dU) (v0 v1:aly) (s0:aad),M j (xs.map dU.val) v0→v.heap.size≤v0.heap.size→(∀a,a<v.heap.size→D a=false→v0.heap[a]? =some jo)→Grown v0 v1→wH v1 s0 xs→(∀ad n cp,s0= .slice (some ad) n cp→v0.heap.size≤ad.block)→
    ∀T,asP Tryz.prog fn #[x,s0] (ax v1 T) λex w=>∃u,ex= .returned u∧Ea D v.heap.size M j xs v0 v1 u w
section
variable{F:alB→Bool}{D:Nat→Bool}{f:Ren}{v w:aly}{e s:Nat→Option am2}{ap n:Nat}{M:Nat→List aad→aly→Prop}
theorem C1(h:Gy F D f v ap n M)(hw:(⟨some (f,v),e,s⟩:bF).Fits Tryz.prog F w){bp:Nat}(R3:f ap=some bp):
  ∃ (pc:Array aad) (tp:acs) (fz:Nat×Nat) (p_:Option Addr) (cp:Nat),po D f e w bp=some (.cells pc tp fz)∧pc[0]? =some (.slice p_ n cp)∧vR F (FL D f v.heap.size M) (po D f e w) th p_ n:=by
 obtain⟨hd,pc,tp,fz,p_,cp,h1,h2,h3⟩:=h.pipe;have ht:=hw.tok f v rfl;obtain⟨o,o',i1,i2,i3⟩:=ht.heap ap bp R3;rw[h1]at i1;obtain rfl:=alN i1;obtain⟨pc',rfl,i4⟩:=rB i3;obtain⟨lv,j1,j2⟩:=i4.get 0 _ h2;have key: ∃Fy,lv= .slice Fy n cp∧∀al lo,p_=some ⟨al,lo,none⟩→∃bl,Fy=some ⟨bl,lo,none⟩∧f al=some bl:=by
  cases j2 with
  |Kw=>exact⟨_,rfl,λ_ _ h=>by cases h⟩
  |sl _ _ hb=>exact⟨_,rfl,λal lo h=>by cases h;exact⟨_,rfl,hb⟩⟩
 obtain⟨Fy,rfl,P0⟩:=key;refine⟨pc',tp,fz,Fy,cp,by rw[mY R3 hd];exact i2,j1,h.held,FL.grow h.mono,λi xs f' v' hp=>hp.2.1,h.small,λj hj=>?_⟩;obtain⟨al,lo,tl,ty,x,lc,Sh,fn,k1,k2,k3,k4,k5,k6,k7,k8⟩:=h3 j hj;obtain⟨bl,l1,l2⟩:=P0 al lo k1;obtain⟨p,p',m1,m2,m3⟩:=ht.heap al bl l2;rw[k3]at m1;obtain rfl:=alN m1;obtain⟨lc',rfl,m4⟩:=rB m3;obtain⟨y,n1,n2⟩:=m4.get (lo+j) _ k4;cases n2 with
 |iface _ hx=>
  rename_i x';exact⟨bl,lo,tl,ty,x',lc',Sh,l1,by rw[mY l2 k2];exact m2,n1,λe s=>M9 h.held k5 k6 (k7 x' hx) k8 e s⟩
theorem Kc(h:Gy F D f v ap n M){p' base' bs:aad}{xs:List dU}{c:aoz}{cs:List aoz}(hp:aA F f (.pointer (some ⟨ap,0,none⟩)) p')(hn:xs.length≤1099511627776)(hM:M 0 (xs.map dU.val) (pd D v))(hL:gN (pd D v) bs xs)(hr:aA F (cut D f) bs base'):
  Go.Upr.Comes Tryz.prog F (⟨some (f,v),e,s⟩:bF) (ao7 Tryz.prog 46 #[p',base'] .normal) (c::cs) λr' fr' cs'=>
   ∃ (f2:Ren) (v':aly) (ys:List dU) (r0 r1:aad),f.le f2∧M n (ys.map dU.val) v'∧v.heap.size≤v'.heap.size∧wH (dJ D v v') r0 ys∧(∀ad n cp,r0= .slice (some ad) n cp→v.heap.size≤ad.block)∧aA F f2 r0 r1∧r'=⟨some (f2,dJ D v v'),e,s⟩∧fr'=c.finish r1∧cs'=cs:=by
 cases hp with
 |ptr hb=>
 rename_i bp;dsimp only at hb⊢;obtain⟨bad,m,bc,hbase⟩: ∃bad m bc,base'= .slice bad m bc:=by
  rcases hL with⟨rfl,ad,cp,rfl⟩|⟨b,o,cp,cc,ee,fr,rfl,_,_⟩
  ·cases hr
   ·exact⟨_,_,_,rfl⟩
   ·exact⟨_,_,_,rfl⟩
  ·cases hr;exact⟨_,_,_,rfl⟩
 have e1:ao7 Tryz.prog 46 #[.pointer (some ⟨bp,0,none⟩),base'] .normal=(base 46).at ⟨#[.pointer (some ⟨bp,0,none⟩),base',undef,undef,undef,undef,undef,undef,undef],[]⟩ [.code ((apN 0 ahc false).seq ((apN 1 TY false).seq asJ))]:=by
  unfold ao7;rw[Tryz.func46];rfl
 rw[e1];refine(Go.Upr.Comes.RN (Q:=λr fr cs1=>r=⟨some (f,v),e,s⟩∧fr=ao7 Tryz.prog 90 #[.pointer (some ⟨bp,0,none⟩),base',th] .normal∧cs1=(base 46).at ⟨#[.pointer (some ⟨bp,0,none⟩),base',undef,undef,.slice none 0 0,.pointer (some ⟨bp,0,none⟩),base',th,undef],[]⟩ [.inRegion TY [3,4],.code asJ]::c::cs) ?_).bind ?_
 ·refine aK.ctl (λw=>apU) ?_;refine aK.ctl (λw=>apR) ?_;refine aK.pure (.slice none 0 0) rfl rfl (base_kind _) (λw=>by simp[go_sem]) (λw=>by simp[go_sem]) ?_;walk_nrm;refine aK.ctl (λw=>apQ) ?_;refine aK.ctl (λw=>apU) ?_;refine aK.ctl (λw=>apR) ?_;refine aK.pure (.pointer (some ⟨bp,0,none⟩)) rfl rfl (base_kind _) (λw=>by simp[go_sem]) (λw=>by simp[go_sem]) ?_;walk_nrm;refine aK.pure base' rfl rfl (base_kind _) (λw=>by simp[go_sem]) (λw=>by simp[go_sem]) ?_;walk_nrm;refine aK.pure th rfl rfl (base_kind _) (λw=>by simp[go_sem]) (λw=>by simp[go_sem]) ?_;walk_nrm;refine kX (f:=90) (vals:= #[.pointer (some ⟨bp,0,none⟩),base',th]) rfl rfl (base_kind _) rfl Tryz.func90 rfl rfl (by simp[aqV]) ?_;exact .stop ⟨rfl,rfl,rfl⟩
 rintro _ _ _ ⟨rfl,rfl,rfl⟩;refine Go.Upr.Comes.shift λw hw=>?_;obtain⟨hs1,hs2⟩:=bF.split hw h.closed;obtain⟨pc,tp,fz,p_,cp,q1,q2,hl⟩:=C1 h hw hb;refine⟨_,hs1,hs2,λb hb=> .inr hb,?_⟩;have abF:PH (cut D f) (pd D v):=λa x hx=>by rw[uA];exact nV (hw.tok f v rfl) a x (mC hx).2
 refine(EJ hl rfl hbase q1 q2 hn ⟨Ren.le_refl _,abF,by rw[uA];exact agl _,λa ha hd=>tH hd ha,hM⟩ hL hr).bind ?_;rintro _ _ _ ⟨e1,s1,f0,f',v0,v',r0,r1,ys,k1,k2,k3,k4,k5,k6,k8,k7,rfl,rfl,rfl⟩;refine Go.Upr.Comes.shift λw1 ik=>?_;have aaC: ∀a,a<v.heap.size→D a=false→v'.heap[a]? =some jo:=λa ha hd=>k4 _ _ (k2.2.2.2.1 a ha hd);obtain⟨m1,m2,m3,m4⟩:=bF.merge hw ik (Ren.le_trans k2.1 k3) aaC k1.1 k1.2;refine⟨_,m1,m3,λb hb=> .inr (λe'=>?_),?_⟩
 ·obtain⟨o,ho⟩:=apO.1 hb;rw[show(⟨some (f',v'),e1,s1⟩:bF).s b=s1 b from rfl,k1.2 b o ho]at e';cases e'
 have hGw:wH (dJ D v v') r0 ys:=by
  rcases k6 with h|⟨g,cap,cur,i1,i2,i3⟩
  ·exact .inl h
  ·refine .inr ⟨g,cap,cur,i1,?_,i3⟩;rw[xn λhh=>?_]
   ·exact i2
   ·have:=aaC g hh.1 hh.2;rw[i2]at this;cases this
 refine Go.Upr.Comes.RN ?_;rw[Frame.iE (o:=TY[3]) rfl];walk_nrm;refine aK.pure r1 rfl rfl (base_kind _) (λw=>by simp[go_sem]) (λw=>by simp[go_sem]) ?_;walk_nrm;refine aK.ctl (λw=>apQ) ?_;refine aK.ctl (λw=>aqR) ?_;refine aK.ctl (λw=>atj rfl rfl Tryz.func46 (v:=r1) (by simp[go_sem,results]) (by simp[go_sem,results])) ?_;exact .stop ⟨_,v',ys,r0,r1,m2,h.mono _ _ _ _ k2.2.2.2.2 k4,al2 k2.2.2.1 (nT k4),hGw,λad n cp h=>al2 k2.2.2.1 (k8 ad n cp h),k7.mono m4,rfl,rfl,rfl⟩
end
end Go.Proofs.YtkdljbnllgpfhaaGreat
namespace Go.Upr
open Go.Conc
section
variable{P:alu}{F:alB→Bool}{fr:aoz}{W:aly}
def aci(n:Nat)(W:aly):World:={W with heap:=W.heap.mapIdx λa o=>if a<n then jo else o}
def yr(n:Nat)(W:aly):bF:=⟨some (λ_=>none,aci n W),λ_=>none,λb=>W.heap[b]?⟩
theorem Rw{n:Nat}{W:aly}(h:n≤W.heap.size):vH n (aci n W):=by
 intro b hb;have hl:b<W.heap.size:=by omega
 simp[aci,asO,arZ hl,hb]
theorem JK(hg:P.globals.size≤W.heap.size):(yr P.globals.size W).Fits P F W:=by
 refine⟨λf v he=>?_,λb o hb=>(by cases hb),λb o hb=>hb,λf v he a b hab=>?_,λb o hb=>(by cases hb)⟩
 ·simp only[yr,apx,ae]at he;obtain⟨rfl,rfl⟩:=he;exact⟨λa b h=>by simp at h,⟨Rw hg,hg⟩,λa b h=>by simp at h,λa a' b h=>by simp at h⟩
 ·simp only[yr,apx,ae]at he;obtain⟨rfl,rfl⟩:=he;simp at hab
theorem Fm.start(hg:P.globals.size≤W.heap.size):Fm P F (yr P.globals.size W) #[G fr []] W #[] (λ_=>0) where
 pos:=by simp
 old:=λi g h0 hi=>by
  have:=(ad3.1 hi).1;simp at this;omega
 gsb:=λop hop=>by simp at hop
 fits:=JK hg
 clean:=λsaid=>atl said
 own:=λb hb=>by
  rcases hb with hb|⟨f,v,a,he,hab⟩
  ·exact absurd rfl hb
  ·simp only[yr,apx,ae]at he;obtain⟨rfl,rfl⟩:=he;simp at hab
 read:=λb _ j x hx _=>by simp[touchAt,as9]at hx
 Hx:=λj x hx=>by simp[touchAt,as9]at hx
 low:=λop hop=>by simp at hop
 norel:=λop hop=>by simp at hop
 over:=λi g hi=>by simp[Trace.g?]at hi
 d0:=rfl
theorem DC{Q:bF→aoz→List aoz→Prop}{Post:aad→aly→Prop}(hg:P.globals.size≤W.heap.size)(h:Comes P F (yr P.globals.size W) fr [] Q)
  (hend: ∀r' fr' cs',Q r' fr' cs'→∀w1,r'.Fits P F w1→w1.tape=W.tape→w1.os=W.os→w1.output=W.output→∃v es,stepG P true (G fr' cs') w1= .ended (.done v) w1 es∧(∀e∈es,Ku r' e)∧Post v w1):
  ∃M last o w' t',runNT P (M+1) (solo (G fr []) W) #[]=(.ended o w',t')∧runN P M (solo (G fr []) W)= .next last∧step P last= .ended o w'∧Go.Conc.Good P Post last o w' t':=
 h.ends (sl:=none) hend (.start hg) rfl
end
section
variable{P:alu}{F:alB→Bool}{Q:bF→aoz→List aoz→Prop}{f g:Ren}{v:aly}{e s:Nat→Option am2}{b:aoz}{a0 a:Act}{k k1:List Item}{cs:List aoz}{ops:Array apy}
def az(P:alu)(F:alB→Bool)(Q:bF→aoz→List aoz→Prop)(f:Ren)(v:aly)(e s:Nat→Option am2)(b:aoz)(a0:Act)(k:List Item)(cs:List aoz):Prop:=
 ∀g a,f.le g→RelA F g a0.tmps a.tmps→a.defers=a0.defers→Go.Upr.Comes P F ⟨some (g,v),e,s⟩ (b.at a k) cs Q
theorem Comes.ctl{r:bF}{fr fr1:aoz}{cs1:List aoz}(h: ∀w,stepG P true (G fr cs) w= .go (G fr1 cs1) w)(hs:Go.Upr.Comes P F r fr1 cs1 Q):Go.Upr.Comes P F r fr cs Q:=
 (Go.Upr.Comes.RN (Q:=λr' fr' cs'=>r'=r∧fr'=fr1∧cs'=cs1) (.ctl h (.stop ⟨rfl,rfl,rfl⟩))).bind (by rintro _ _ _ ⟨rfl,rfl,rfl⟩;exact hs)
theorem Rj{w:aly}(T:Nat→am6→Nat)(h:(⟨some (g,v),e,s⟩:bF).Fits P F w):(⟨some (g,ax v T),e,s⟩:bF).Fits P F w:=
 ⟨λf' v' he=>by cases he;exact(h.tok g v rfl).on T,h.e,h.s,λf' v' he a b hab=>by cases he;exact h.apart g v rfl a b hab,h.alone⟩
theorem Comes.yu{fr:aoz}(T:Nat→am6→Nat)(h:Go.Upr.Comes P F ⟨some (g,ax v T),e,s⟩ fr cs Q):Go.Upr.Comes P F ⟨some (g,v),e,s⟩ fr cs Q:=
 Go.Upr.Comes.shift λw hw=>⟨_,Rj T hw,λb hb=>hb.imp id λ⟨f',v',a,he,hab⟩=>by cases he;exact⟨_,_,a,rfl,hab⟩,λb hb=> .inr hb,h⟩
theorem az.yu(T:Nat→am6→Nat)(h:az P F Q f (ax v T) e s b a0 k cs):az P F Q f v e s b a0 k cs:=λg a h1 h2 h3=>(h g a h1 h2 h3).yu T
theorem az.ctl(h: ∀a w,stepG P true (G (b.at a k) cs) w= .go (G (b.at a k1) cs) w)(hs:az P F Q f v e s b a0 k1 cs):az P F Q f v e s b a0 k cs:=
 λg a h1 h2 h3=>Comes.ctl (h a) (hs g a h1 h2 h3)
theorem AZ(hr:RelA F g a0.tmps a.tmps):zC F g a0.eval a.eval:=by
 intro x hx;cases x with
 |tmp t=>exact hr.getD t .undef
 |const v=>exact ln hx g
 |global g=>simp[bP]at hx
 |func g=>exact .fn hx .nil .nil
theorem az.cond{t:Nat}{c1 c2:amq}{x:Bool}(hx:a0.eval (.tmp t)= .bool x)(hs:az P F Q f v e s b a0 (.code (if x then c1 else c2)::k) cs):az P F Q f v e s b a0 (.code (.cond (.tmp t) c1 c2)::k) cs:=by
 intro g a h1 h2 h3;have hr:=AZ h2 (.tmp t) rfl;rw[hx]at hr;have kx:a.eval (.tmp t)= .bool x:=by
  generalize a.eval (.tmp t)=y at hr;cases hr;rfl
 exact Comes.ctl (λw=>stepG_cond kx) (hs g a h1 h2 h3)
theorem AY(hr:RelA F g a0.tmps a.tmps){d:Option Tmp}{u u':aad}(hu:aA F g u u'):RelA F g (a0.put d u).tmps (a.put d u').tmps:=by
 cases d with
 |none=>exact hr
 |some d=>exact hr.set d hu
theorem ry(hr:RelA F g a0.tmps a.tmps)(o:apy):apY o (yielded ops a.tmps)=apY o (yielded ops a0.tmps):=by
 have h: ∀j,yielded ops a.tmps j=yielded ops a0.tmps j:=by
  intro j;unfold yielded;cases(ops[j]?).bind (·.dst)with
  |none=>rfl
  |some d=>
   simp only[asX];cases h0:a0.tmps[d]? with
   |none=>rw[hr.none d h0]
   |some x=>
    obtain⟨x',h1,h2⟩:=hr.get d x h0;rw[h1];cases h2<;>rfl
 unfold apY;cases o.guard with
 |none=>rfl
 |some q=>simp only[h]
def BJ(w:aly)(T:Nat→am6→Nat):Prop:=∀j,j<w.drawn→T j=w.tape j
theorem az.op(H:Held P F){i:Nat}{rest:List Nat}{o:apy}(ho:ops[i]? =some o)(hw:apY o (yielded ops a0.tmps)=true)(hk:b.kind≠ .early)(gH:mM P F o=true){Y:aad→aly→Prop}
  (hl: ∀T,BJ v T→∃n u v1,(execOp a0.eval o).run P (ax v T)= .ok n v1∧(n= .value u∨(n= .skip∧u=undef))∧Y u v1)
  (hs: ∀u v1,(∀T,BJ v1 T→Y u (ax v1 T))→az P F Q f v1 e s b (a0.put o.dst u) (.inRegion ops rest::k) cs):az P F Q f v e s b a0 (.inRegion ops (i::rest)::k) cs:=by
 intro g a h1 h2 h3;have hw':apY o (yielded ops a.tmps)=true:=by rw[ry h2];exact hw
 refine(Go.Upr.Comes.RN (Q:=λr fr cs=>Go.Upr.Comes P F r fr cs Q) ?_).bind λ_ _ _ h=>h;refine .step λw hf=>?_;have pg:=hf.tok g v rfl
 let T0:Nat→am6→Nat:=λj=>if j<v.drawn then v.tape j else w.tape (w.drawn+(j- v.drawn))
 have bM:BJ v T0:=λj hj=>if_pos hj
 have hrel:h_ P F (bD P F) g (ax v T0) w:=⟨pg.low,pg.big,pg.heap,pg.inj,λi q=>by
  show T0 (v.drawn+i) q=_
  rw[show T0 (v.drawn+i)=w.tape (w.drawn+(v.drawn+i- v.drawn))from if_neg aj,Nat.add_sub_cancel_left]⟩
 have sim:=aH.O4 H.fits gH (AZ h2) λ_=>rfl;obtain⟨n,u,v1,e1,e2,e3⟩:=hl T0 bM;generalize hq:(execOp a0.eval o).runT P (ax v T0) #[]=q;have hq1:q.1= .ok n v1:=by rw[←hq,apP,e1]
 obtain⟨q,es⟩:=q;dsimp only at hq1;subst hq1;obtain⟨g',n',w1,xs,i1,i2,i3,i4,i5⟩:=sim.1 _ w #[] #[] hrel n v1 es hq;obtain⟨l1,l2,l3⟩:=(sim.2 _ w #[] hrel).2 n v1 es hq;have Fb: ∀x∈(execOp a.eval o).events P w #[],vG g' x:=by
  intro x hx;unfold aqx at hx;rw[i1]at hx;simp only[Array.empty_append]at hx;exact i5 x hx
 have hrun:(execOp a.eval o).run P w= .ok n' w1:=by rw[←apP P _ w #[],i1]
 have key: ∃u',(n'= .value u'∨(n'= .skip∧u'=undef))∧aA F g' u u':=by
  rcases e2 with rfl|⟨rfl,rfl⟩
  ·cases i4 with
   |value h=>exact⟨_,.inl rfl,h⟩
  ·cases i4 with
   |skip=>exact⟨_,.inr ⟨rfl,rfl⟩,.undef⟩
 obtain⟨u',k1,k2⟩:=key;have hY: ∀T,BJ v1 T→Y u (ax v1 T):=by
  intro T hT;have R8:BJ v T:=λj hj=>by
   have h4:=hT j (amC hj l1);rw[h4,l2];exact bM j hj
  obtain⟨n2,u2,v2,q1,q2,q3⟩:=hl T R8;have:=l3 T λj _ hj=>by rw[hT j hj,l2]
  have h5:(execOp a0.eval o).run P (ax v T)= .ok n (ax v1 T):=by rw[←apP P _ _ #[]];exact congrArg Prod.fst this
  rw[h5]at q1;obtain⟨rfl,rfl⟩:n=n2∧ax v1 T=v2:=by simpa using q1
  have:u=u2:=by
   rcases e2 with rfl|⟨rfl,rfl⟩<;>rcases q2 with q2|⟨q2,rfl⟩
   ·exact atf q2
   ·cases q2
   ·cases q2
   ·rfl
  rw[this];exact q3
 have hstep:yC P true F g (b.at a (.inRegion ops (i::rest)::k)) cs w λg2 v2 fr' cs'=>g2=g'∧v2=v1∧fr'=b.at (a.put o.dst u') (.inRegion ops rest::k)∧cs'=cs:=by
  rcases k1 with rfl|⟨rfl,rfl⟩
  ·exact⟨_,cs,w1,_,g',v1,stepG_value ho hw' hk hrun,.lN i2,i3,λx hx=>Fb x (ap4 hx),rfl,rfl,rfl,rfl⟩
  ·exact⟨_,cs,w1,_,g',v1,stepG_none ho hw' hk hrun,.lN i2,i3,λx hx=>Fb x (ap4 hx),rfl,rfl,rfl,rfl⟩
 refine Aq.ur hf hstep λg2 v2 fr' cs' hle hx=>?_;obtain⟨rfl,rfl,rfl,rfl⟩:=hx;refine .stop (hs u v2 hY g2 _ (Ren.le_trans h1 hle) (AY (h2.mono hle) k2) ?_);cases o.dst<;>exact h3
theorem az.skip{i:Nat}{rest:List Nat}{o:apy}(ho:ops[i]? =some o)(hw:apY o (yielded ops a0.tmps)=false)(hs:az P F Q f v e s b (a0.put o.dst undef) (.inRegion ops rest::k) cs):az P F Q f v e s b a0 (.inRegion ops (i::rest)::k) cs:=by
 intro g a h1 h2 h3;have hw':apY o (yielded ops a.tmps)=false:=by rw[ry h2];exact hw
 refine Comes.ctl (λw=>stepG_unwanted ho hw') (hs g _ h1 (AY h2 .undef) ?_);cases o.dst<;>exact h3
def calm(o:apy):Bool:=
 match o.op with
 | .call {callee:= .value _,..}| .call {callee:= .invoke ..,..}=>false
 | .call {callee:= .builtin b,..}=>(match b with| .append| .cap| .clear| .copy| .delete| .len| .max| .unsafeString| .unsafeSliceData=>true|_=>false)
 | .move _| .assign _| .pick .. | .box .. | .load .. | .store .. | .makeMap .. | .makeSlice .. | .slice .. | .indexAddr .. | .index .. | .entryStore .. | .next .. | .entry _| .extract .. | .makeFunc .. | .alloc _| .build .. | .buildSlice .. | .makeInterface .. | .field .. | .binOp .. | .unOp .. | .convert .. | .fieldAddr .. | .lookup .. | .mapUpdate .. | .insert .. | .mapEntry .. | .range .. =>true
 |_=>false
theorem Vj{s:Sem aad}{w w1:aly}{n:atc}(h:(do ads (anO (←s)):Sem atc).run P w= .ok n w1): ∃u,n= .value u:=by
 rw[run_bind]at h;cases hs:s.run P w with
 |ok x w2=>rw[hs]at h;simp only[ads,aqG,aB]at h;exact⟨_,h.1.symm⟩
 |halt q w2=>rw[hs]at h;cases h
theorem Y9{s:Sem Unit}{w w1:aly}{n:atc}(h:(do s;ads aou:Sem atc).run P w= .ok n w1):n= .skip:=by
 rw[run_bind]at h;cases hs:s.run P w with
 |ok x w2=>rw[hs]at h;simp only[ads,aqG,aB]at h;exact h.1.symm
 |halt q w2=>rw[hs]at h;cases h
theorem Wi{o:apy}(hc:calm o=true){ρ:ang→aad}{w w1:aly}{n:atc}(h:(execOp ρ o).run P w= .ok n w1): ∃u,n= .value u∨(n= .skip∧u=undef):=by
 have hv: ∀ {s:Sem aad},(do ads (anO (←s)):Sem atc).run P w= .ok n w1→∃u,n= .value u∨(n= .skip∧u=undef):=λh=>(Vj h).imp λ_ h=> .inl h;have hu: ∀ {s:Sem Unit},(do s;ads aou:Sem atc).run P w= .ok n w1→∃u,n= .value u∨(n= .skip∧u=undef):=λh=>⟨_,.inr ⟨Y9 h,rfl⟩⟩;obtain⟨dst,op,ty,pos,after,guard⟩:=o;unfold calm at hc;dsimp only at hc;unfold execOp at h;dsimp only at h;cases op<;>first|(cases hc;done)|exact hv h|exact hu h|skip
 ·simp only[ads,aqG,aB]at h;exact⟨_,.inl h.1.symm⟩
 ·simp only[ads,aqG,aB]at h;exact⟨_,.inl h.1.symm⟩
 ·rename_i c x y;dsimp only at h;rw[run_bind]at h;cases hq:(asBool (ρ c)).run P w with
  |ok t w2=>rw[hq]at h;simp only[ads,aqG,aB]at h;exact⟨_,.inl h.1.symm⟩
  |halt q w2=>rw[hq]at h;cases h
 ·rename_i c;obtain⟨callee,args,ats⟩:=c;cases callee with
  |value x=>cases hc
  |invoke x y=>cases hc
  |builtin bi=>
   have h':(Go.builtin bi ats ty (args.map λ| .const _=>true|_=>false) (args.map ρ)).run P w= .ok n w1:=h;cases bi<;>first|(cases hc;done)|exact hv h'
theorem az.aa9(H:Held P F)(hk:b.kind≠ .early){X:Act→aly→Prop}{rest:List Nat}(hs: ∀a1 v1,(∀T,BJ v1 T→X a1 (ax v1 T))→az P F Q f v1 e s b a1 (.inRegion ops rest::k) cs):
  ∀ (l:List Nat) (a0:Act) (v:aly),(∀i∈l,∃o,ops[i]? =some o∧mM P F o=true∧calm o=true)→(∀T,BJ v T→wpOps P ops (λe a w=>e= .normal∧X a w) l a0 (ax v T))→az P F Q f v e s b a0 (.inRegion ops (l++rest)::k) cs
 | [],a0,v,_,h=>hs a0 v λT hT=>(h T hT).2
 |i::l,a0,v,hl,h=>by
  obtain⟨o,h1,h2,h3⟩:=hl i (List.mem_cons_self ..);have hl': ∀i∈l,∃o,ops[i]? =some o∧mM P F o=true∧calm o=true:=λi hi=>hl i (List.mem_cons_of_mem _ hi);simp only[wpOps,h1]at h;show az P F Q f v e s b a0 (.inRegion ops (i::(l++rest))::k) cs;cases hw:apY o (yielded ops a0.tmps)with
  |false=>
   simp only[hw,amA,if_false]at h;exact .skip h1 hw (az.aa9 H hk hs l _ v hl' h)
  |true=>
   simp only[hw,if_true]at h;refine .op H h1 hw hk h2 (Y:=λu w=>wpOps P ops (λe a w=>e= .normal∧X a w) l (a0.put o.dst u) w) (λT hT=>?_) λu v1 hY=>az.aa9 H hk hs l _ v1 hl' hY;rcases h T hT with h4|⟨_,a,w,h5,_⟩
   ·unfold Oper.wp at h4;cases hr:(execOp a0.eval o).run P (ax v T)with
    |ok n w1=>
     rw[hr]at h4;obtain⟨u,h5⟩:=Wi h3 hr;refine⟨n,u,w1,rfl,h5,?_⟩;rcases h5 with rfl|⟨rfl,rfl⟩<;>exact h4
    |halt q w1=>
     rw[hr]at h4;cases q<;>first|exact h4.elim|(cases h4.1)
   ·cases h5
theorem Ct{Qx:Exit→Act→aly→Prop}: ∀ (l:List apy) (i:Nat),(∀j,j<l.length→l[j]? =ops[i+j]?)→wpOps P ops Qx (ata i l.length)=wpList P ops Qx l
 | [],_,_=>by funext a w;simp[wpOps,wpList]
 |o::l,i,h=>by
  have h0:ops[i]? =some o:=by simpa using(h 0 bz).symm
  have ih:=Ct (Qx:=Qx) l (i+1) λj hj=>by have:=h (j+1) (by simpa using hj);simpa[Nat.add_assoc,Nat.add_comm 1 j]using this
  funext a w;simp only[as2,List.range'_succ,wpOps,h0,wpList,ih]
theorem az.list(H:Held P F)(hk:b.kind≠ .early)(l:List apy)(i:Nat)(rest:List Nat){X:Act→aly→Prop}(hl: ∀j,j<l.length→l[j]? =ops[i+j]?)(gH:l.all (λo=>mM P F o&&calm o)=true)
  (h: ∀T,wpList P ops (λe a w=>e= .normal∧X a w) l a0 (ax v T)) (hs: ∀a1 v1 T,v1.tape=v.tape→X a1 (ax v1 T)→az P F Q f v1 e s b a1 (.inRegion ops rest::k) cs):
  az P F Q f v e s b a0 (.inRegion ops (ata i l.length++rest)::k) cs:=by
 refine az.aa9 H hk (X:=X) (λa1 v1 hX=>?_) _ a0 v (λj hj=>?_) λT _=>by rw[Ct l i hl];exact h T
 ·exact(hs a1 (ax v1 v.tape) v1.tape rfl (hX v1.tape λ_ _=>rfl)).yu v.tape
 ·simp only[List.mem_range'_1]at hj;obtain⟨j',rfl⟩: ∃j',j=i+j':=⟨j- i,by omega⟩;have h1:=hl j' aj;have hlt:j'<l.length:=by omega
  rw[arn hlt]at h1;have:=List.all_eq_true.1 gH _ (List.getElem_mem hlt);simp only[Bool.and_eq_true]at this;exact⟨_,h1.symm,this.1,this.2⟩
theorem az.call(H:Held P F){i:Nat}{rest:List Nat}{o:apy}(ho:ops[i]? =some o)(hw:apY o (yielded ops a0.tmps)=true)(hk:b.kind≠ .early){fn:alB}{oas:Array ang}{ats:Array acs}(hop:o.op= .call {callee:= .value (.func fn),args:=oas,argTypes:=ats})
  {x:atd} (hf:P.funcs[fn]? =some x) (hname:(x.name== "runtime.NumGoroutine")=false) (hb:x.body.isNone=false) (hF:F fn=true) (has:oas.all (bP F)=true) {args:Array aad} (hv:oas.map a0.eval=args) {Post:aly→aad→aly→Prop}
  (hc: ∀T,asP P fn args (ax v T) λe w'=>∃u,e= .returned u∧Post (ax v T) u w') (hs: ∀T T' u v1,v1.tape=v.tape→Post (ax v T) u (ax v1 T')→az P F Q f v1 e s b (a0.put o.dst u) (.inRegion ops rest::k) cs):
  az P F Q f v e s b a0 (.inRegion ops (i::rest)::k) cs:=by
 subst hv;intro g a h1 h2 h3;have hw':apY o (yielded ops a.tmps)=true:=by rw[ry h2];exact hw
 refine Go.Upr.Comes.shift λw pg=>⟨_,pg,λ_ h=>h,λ_ h=> .inr h,?_⟩;refine(Go.Upr.Comes.RN (Q:=λr fr cs=>Go.Upr.Comes P F r fr cs Q) ?_).bind λ_ _ _ h=>h;refine .still (λw _=>⟨_,atk ho hw' hk (ate hop hf hname hb),λx hx=>?_⟩) ?_
 ·have:=ap4 hx;rw[as8 hop hf hname hb _]at this;simp at this
 refine aK.call H hF (qB (AZ h2) has) ⟨w,pg.tok g v rfl⟩ (R:=λu w'=>∃T T',Post (ax v T) u (ax w' T')) (λu w' T2 ⟨T,T',hp⟩=>⟨T,T',hp⟩) (λT=>(hc T).mono λe w' ⟨u,he,hp⟩=>⟨u,he,T,w'.tape,hp⟩) ?_;rintro g' u u' v1 hle hu ⟨T,T',hp⟩;rw[Frame.iE ho];refine .stop (Comes.yu v.tape (hs T T' u (ax v1 v.tape) rfl hp g' _ (Ren.le_trans h1 hle) (AY (h2.mono hle) hu) ?_));cases o.dst<;>exact h3
def Goes(P:alu)(F:alB→Bool)(fn:alB)(args:Array aad)(f:Ren)(v:aly)(e s:Nat→Option am2)(Post:aad→aly→Prop):Prop:=
 ∀g args' c cs,f.le g→RelA F g args args'→Go.Upr.Comes P F ⟨some (g,v),e,s⟩ (ao7 P fn args' .normal) (c::cs) λr' fr' cs'=>∃g2 v2 u u',g.le g2∧aA F g2 u u'∧Post u v2∧r'=⟨some (g2,v2),e,s⟩∧fr'=c.finish u'∧cs'=cs
theorem az.goes{i:Nat}{rest:List Nat}{o:apy}(ho:ops[i]? =some o)(hw:apY o (yielded ops a0.tmps)=true)(hk:b.kind≠ .early){fn:alB}{oas:Array ang}{ats:Array acs}(hop:o.op= .call {callee:= .value (.func fn),args:=oas,argTypes:=ats})
  {x:atd} (hf:P.funcs[fn]? =some x) (hname:(x.name== "runtime.NumGoroutine")=false) (hb:x.body.isNone=false) (has:oas.all (bP F)=true) {args:Array aad} (hv:oas.map a0.eval=args) {Post:aad→aly→Prop}
  (hc:Goes P F fn args f v e s Post) (hs: ∀u v1,Post u v1→az P F Q f v1 e s b (a0.put o.dst u) (.inRegion ops rest::k) cs):
  az P F Q f v e s b a0 (.inRegion ops (i::rest)::k) cs:=by
 subst hv;intro g a h1 h2 h3;have hw':apY o (yielded ops a.tmps)=true:=by rw[ry h2];exact hw
 refine(Go.Upr.Comes.RN (Q:=λr fr cs1=>r=⟨some (g,v),e,s⟩∧fr=ao7 P fn (oas.map a.eval) .normal∧cs1=b.at a (.inRegion ops (i::rest)::k)::cs) ?_).bind ?_
 ·refine .still (λw _=>⟨_,atk ho hw' hk (ate hop hf hname hb),λx hx=>?_⟩) (.stop ⟨rfl,rfl,rfl⟩);have:=ap4 hx;rw[as8 hop hf hname hb _]at this;simp at this
 rintro _ _ _ ⟨rfl,rfl,rfl⟩;refine(hc g _ _ _ h1 (qB (AZ h2) has)).bind ?_;rintro _ _ _ ⟨g2,v2,u,u',q1,q2,q3,rfl,rfl,rfl⟩;rw[Frame.iE ho];refine hs u v2 q3 g2 _ (Ren.le_trans h1 q1) (AY (h2.mono q1) q2) ?_;cases o.dst<;>exact h3
theorem enter_at{fn:alB}{x:atd}{c:amq}(hx:P.funcs[fn]? =some x)(hb:x.body=some c)(args:Array aad):ao7 P fn args .normal=(base fn).at ⟨args++aps (x.ntmps- args.size) undef,[]⟩ [.code c]:=by
 unfold ao7;rw[hx];dsimp only[Option.map_some,Option.getD_some,asX];rw[hb];rfl
def acr(F:alB→Bool)(g:Ren)(e s:Nat→Option am2)(Post:aad→aly→Prop)(c:aoz)(cs:List aoz)(r':bF)(fr':aoz)(cs':List aoz):Prop:=
 ∃g2 v2 u u',g.le g2∧aA F g2 u u'∧Post u v2∧r'=⟨some (g2,v2),e,s⟩∧fr'=c.finish u'∧cs'=cs
theorem Goes.of{fn:alB}{x:atd}{c:amq}(hx:P.funcs[fn]? =some x)(hb:x.body=some c){args:Array aad}{Post:aad→aly→Prop}
  (h: ∀g c0 cs,f.le g→az P F (acr F g e s Post c0 cs) g v e s (base fn) ⟨args++aps (x.ntmps- args.size) undef,[]⟩ [.code c] (c0::cs)):Goes P F fn args f v e s Post:=by
 intro g args' c0 cs h1 h2;rw[enter_at hx hb,←h2.size];refine h g c0 cs h1 g _ (Ren.le_refl _) (RelA.append h2 ?_) rfl;unfold RelA;rw[Array.toList_replicate];exact cz.replicate _ .undef
theorem az.leave{g0:Ren}{fn:alB}{x:atd}(hx:P.funcs[fn]? =some x){Post:aad→aly→Prop}{c:aoz}{u:aad}(hd:a0.defers= [])(hu: ∀w,(results x a0.tmps).run P w= .ok u w)(hp:Post u v)(hle:g0.le f):
  az P F (acr F g0 e s Post c cs) f v e s (base fn) a0 (.code .ret::k) (c::cs):=by
 intro g a h1 h2 h3;refine Comes.ctl (λw=>aqR) ?_;refine(Go.Upr.Comes.RN (Q:=λr fr cs1=>Go.Upr.Comes P F r fr cs1 (acr F g0 e s Post c cs)) ?_).bind λ_ _ _ h=>h;refine .step λw hf=>?_;have pg:=hf.tok g v rfl;have hrun: ∃es,(results x a0.tmps).runT P (ax v λj=>w.tape (w.drawn+(j- v.drawn))) #[]=(.ok u (ax v λj=>w.tape (w.drawn+(j- v.drawn))),es):=by
  have:=hu (ax v λj=>w.tape (w.drawn+(j- v.drawn)));rw[←apP P _ _ #[]]at this;exact⟨_,Prod.ext this rfl⟩
 obtain⟨es,hrun⟩:=hrun;obtain⟨g',u',w1,xs,i1,i2,i3,i4,i5⟩:=(aH.results (C:=bD P F) x h2).1 _ w #[] #[] pg.rel u _ es hrun;have hstep:yC P true F g { (base fn).at a (.code .ret::k)with mode:= .returning} (c::cs) w λg2 v2 fr' cs'=>g2=g'∧v2=v∧fr'=c.finish u'∧cs'=cs:=by
  refine⟨c.finish u',cs,w1,seen P fn xs++ #[],g',v,?_,(Fit.lN i2).off,i3,?_,rfl,rfl,rfl,rfl⟩
  ·have z_:a.defers= []:=h3.trans hd;have hr2:(results x a.tmps).run P w= .ok u' w1:=by rw[←apP P _ w #[],i1]
   have Fb:(results x a.tmps).events P w #[]=xs:=by unfold aqx;rw[i1];simp
   simp[stepG,unwind,doReturn,Frame.at,base,z_,hx,hr2,Fb,GStep.after]
  ·intro e he;rcases Array.mem_append.1 he with he|he
   ·exact i5 e (B_ _ _ _ _ he)
   ·simp at he
 refine Aq.ur hf hstep λg2 v2 fr' cs' cC hx2=>?_;obtain⟨rfl,rfl,rfl,rfl⟩:=hx2;exact .stop (Go.Upr.Comes.here ⟨g2,v2,u,u',Ren.le_trans hle (Ren.le_trans h1 cC),i4,hp,rfl,rfl,rfl⟩)
end
end Go.Upr
section
namespace Go.Upr
open Go.RowKit
abbrev Hp:=Nat→Option am2
def Hp.In(h:Hp)(w:aly):Prop:=∀b o,h b=some o→w.heap[b]? =some o
def Hp.le(h k:Hp):Prop:=∀b o,h b=some o→k b=some o
structure Hp.Ext(n:Nat)(h k:Hp):Prop where
 le:h.le k
 new: ∀b o,k b=some o→h b=some o∨n≤b
theorem Hp.le_refl(h:Hp):h.le h:=λ_ _ e=>e
theorem Hp.le.trans{a b c:Hp}(h:a.le b)(k:b.le c):a.le c:=λx o e=>k x o (h x o e)
theorem Hp.Ext.refl(n:Nat)(h:Hp):Hp.Ext n h h:=⟨h.le_refl,λ_ _ e=> .inl e⟩
theorem Hp.Ext.trans{n m:Nat}{a b c:Hp}(h:Hp.Ext n a b)(k:Hp.Ext m b c)(hm:n≤m):Hp.Ext n a c:=
 ⟨h.le.trans k.le,λx o e=>by
  rcases k.new x o e with e1|e1
  ·exact h.new x o e1
  ·exact .inr (al2 hm e1)⟩
theorem Hp.In.lt{h:Hp}{w:aly}(H:h.In w){b:Nat}{o:am2}(e:h b=some o):b<w.heap.size:=(ad3.1 (H b o e)).1
structure af(D:Nat→Prop)(w w':aly):Prop where
 os:w'.os=w.os
 tape:w'.tape=w.tape
 output:w'.output=w.output
 size:w.heap.size≤w'.heap.size
 block: ∀k,k<w.heap.size→¬D k→w'.heap[k]? =w.heap[k]?
theorem af.refl(D:Nat→Prop)(w:aly):af D w w:=⟨rfl,rfl,rfl,agl _,λ_ _ _=>rfl⟩
theorem af.trans{D:Nat→Prop}{a b c:aly}(h:af D a b)(k:af D b c):af D a c:=
 ⟨k.os.trans h.os,k.tape.trans h.tape,k.output.trans h.output,al2 h.size k.size,λi hi hd=>(k.block i (amC hi h.size) hd).trans (h.block i hi hd)⟩
theorem af.mono{D E:Nat→Prop}{a b:aly}(h:af D a b)(hd: ∀k,k<a.heap.size→D k→E k):af E a b:=
 ⟨h.os,h.tape,h.output,h.size,λi hi he=>h.block i hi λd=>he (hd i hi d)⟩
theorem af.drew{D:Nat→Prop}{a w:aly}(h:af D a w):af D a w.drew:=⟨h.os,h.tape,h.output,h.size,h.block⟩
theorem af.alloc{D:Nat→Prop}{a w:aly}(h:af D a w)(o:am2):af D a (w.alloc o):=
 h.trans ⟨rfl,rfl,rfl,by simp,λk hk _=>Below.heap_alloc _ _ _ hk⟩
theorem af.setCell{D:Nat→Prop}{a w:aly}(h:af D a w){p:Addr}(hp:a.heap.size≤p.block∨D p.block)(u:aad):af D a (w.setCell p u):=
 ⟨h.os,h.tape,h.output,by simpa[amJ]using h.size,λk hk hd=>by
  rw[Below.heap_setCell]
  ·exact h.block k hk hd
  ·rintro rfl;rcases hp with hp|hp
   ·omega
   ·exact hd hp⟩
theorem af.grown{D:Nat→Prop}{a w w':aly}{row:Option Nat}(h:af D a w)(hg:w.grownBy w' row)(hr: ∀k,row=some k→a.heap.size≤k∨D k):af D a w':=
 ⟨hg.os.trans h.os,hg.tape.trans h.tape,hg.output.trans h.output,al2 h.size hg.size,λk hk hd=>by
  rw[hg.block k (amC hk h.size)]
  ·exact h.block k hk hd
  ·rintro e;rcases hr k e.symm with e1|e1
   ·omega
   ·exact hd e1⟩
theorem af.below{w w':aly}(h:af (λ_=>False) w w'):Below w.heap.size w w':=⟨h.os,h.tape,h.output,h.size,λk hk=>h.block k hk id⟩
theorem af.ue{w w':aly}(h:Below w.heap.size w w'):af (λ_=>False) w w':=⟨h.os,h.tape,h.output,h.size,λk hk _=>h.block k hk⟩
theorem Hp.In.turn{h:Hp}{D:Nat→Prop}{w w':aly}(H:h.In w)(ht:af D w w')(hd: ∀b o,h b=some o→¬D b):h.In w':=
 λb o e=>(ht.block b (H.lt e) (hd b o e)).trans (H b o e)
def Hp.row(h:Hp)(sz:Nat)(v:aad)(n:Nat)(cs:List aad):Prop:=
 cs.length=n*sz∧((v= .slice none 0 0∧n=0)∨∃g o cap cur e fz,v= .slice (some ⟨g,o,none⟩) n cap∧h g=some (.cells cur e fz)∧∀k:Nat,k<n*sz→cur[o+k]? =cs[k]?)
theorem Hp.row.mono{h k:Hp}{sz n:Nat}{v:aad}{cs:List aad}(H:h.row sz v n cs)(e:h.le k):k.row sz v n cs:=by
 refine⟨H.1,H.2.imp id ?_⟩;rintro⟨g,o,cap,cur,e1,fz,h1,h2,h3⟩;exact⟨g,o,cap,cur,e1,fz,h1,e _ _ h2,h3⟩
def Hp.list{α:Type}(h:Hp)(sz:Nat)(R:Hp→List aad→α→Prop)(v:aad)(xs:List α):Prop:=
 ∃dS:List (List aad),dS.length=xs.length∧(∀c∈dS,c.length=sz)∧(∀ (i:Nat) c x,dS[i]? =some c→xs[i]? =some x→R h c x)∧h.row sz v xs.length dS.flatten
theorem Hp.list.mono{α:Type}{h k:Hp}{sz:Nat}{R:Hp→List aad→α→Prop}{v:aad}{xs:List α}(hR: ∀c x,R h c x→R k c x)(H:h.list sz R v xs)(e:h.le k):k.list sz R v xs:=by
 obtain⟨dS,h1,h2,h3,h4⟩:=H;exact⟨dS,h1,h2,λi c x hc hx=>hR _ _ (h3 i c x hc hx),h4.mono e⟩
theorem rF{dS:List (List aad)}{sz:Nat}(h: ∀c∈dS,c.length=sz)(i j:Nat)(hj:j<sz){c:List aad}(hc:dS[i]? =some c):dS.flatten[i*sz+j]? =c[j]? :=by
 induction dS generalizing i with
 |nil=>simp at hc
 |cons d ds ih=>
  have hd:d.length=sz:=h d bz;cases i with
  |zero=>
   simp at hc;subst hc;simp only[asZ,Nat.zero_mul,Nat.zero_add];rw[List.getElem?_append_left aj]
  |succ i=>
   simp at hc;rw[asZ,List.getElem?_append_right (by rw[hd,asU];omega),hd];have:(i+1)*sz+j- sz=i*sz+j:=by rw[asU];omega
   rw[this];exact ih (λc hc=>h c (by simp[hc])) i hc
theorem Hp.list.at{α:Type}{h:Hp}{sz:Nat}{R:Hp→List aad→α→Prop}{v:aad}{xs:List α}(H:h.list sz R v xs){w:aly}(hw:h.In w):
  ∃ad cap,v= .slice ad xs.length cap∧∀ (i:Nat) x,xs[i]? =some x→∃g o c,ad=some ⟨g,o,none⟩∧c.length=sz∧R h c x∧∀j,j<sz→w.cell? ⟨g,o+(i*sz+j),none⟩=c[j]? :=by
 obtain⟨dS,h1,h2,h3,h4,h5⟩:=H;rcases h5 with⟨rfl,hn⟩|⟨g,o,cap,cur,e,fz,rfl,hg,pQ⟩
 ·exact⟨none,0,by rw[hn],λi x hx=>by have:=(apT.1 hx).1;omega⟩
 ·refine⟨_,cap,rfl,λi x hx=>?_⟩;have hi:=(apT.1 hx).1;obtain⟨c,hc⟩: ∃c,dS[i]? =some c:=⟨_,arn aj⟩;have bW:=h2 c (ann hc);refine⟨g,o,c,rfl,bW,h3 i c x hc hx,λj hj=>?_⟩;have hlt:i*sz+j<xs.length*sz:=by
   have:(i+1)*sz≤xs.length*sz:=Nat.mul_le_mul_right _ hi;rw[asU]at this;omega
  unfold World.cell?;rw[hw g _ hg];simp only[Option.isSome_none,amA,if_false];rw[pQ _ hlt,rF h2 i j hj hc]
theorem eY{w:aly}{g j:Nat}{cs:Array aad}{t:acs}(h:w.heap[g]? =some (.cells cs t)):w.frozen? ⟨g,j,none⟩=false:=by
 simp[World.frozen?,h]
theorem cR{w:aly}{b o:Nat}{c:Array aad}{e:acs}{fz:Nat×Nat}(h:w.heap[b]? =some (.cells c e fz))(v:aad):(w.setCell ⟨b,o,none⟩ v).heap[b]? =some (.cells (c.setIfInBounds o v) e fz):=by
 simp[amJ,Array.getElem?_modify,h]
theorem b9{w:aly}{b:Nat}{x y:aad}{e:acs}(h:w.heap[b]? =some (.cells #[x,y] e)):w.cell? ⟨b,0,none⟩=some x∧w.cell? ⟨b,1,none⟩=some y∧w.frozen? ⟨b,0,none⟩=false∧w.frozen? ⟨b,1,none⟩=false:=
 ⟨(aqF w b 0 _ e (0,0) h).trans rfl,(aqF w b 1 _ e (0,0) h).trans rfl,eY h,eY h⟩
theorem bI{w:aly}{b:Nat}{x y z:aad}{e:acs}(h:w.heap[b]? =some (.cells #[x,y,z] e)):w.cell? ⟨b,0,none⟩=some x∧w.cell? ⟨b,1,none⟩=some y∧w.cell? ⟨b,2,none⟩=some z∧w.frozen? ⟨b,0,none⟩=false∧w.frozen? ⟨b,1,none⟩=false∧w.frozen? ⟨b,2,none⟩=false:=
 ⟨(aqF w b 0 _ e (0,0) h).trans rfl,(aqF w b 1 _ e (0,0) h).trans rfl,(aqF w b 2 _ e (0,0) h).trans rfl,eY h,eY h,eY h⟩
theorem af.kept{D:Nat→Prop}{w w':aly}(h:af D w w'){b:Nat}{o:am2}(hb:w.heap[b]? =some o)(hd: ¬D b):w'.heap[b]? =some o:=(h.block b (ad3.1 hb).1 hd).trans hb
theorem af.made{D:Nat→Prop}{w w':aly}{o:am2}(h:af D (w.alloc o) w')(hd: ¬D w.heap.size):w'.heap[w.heap.size]? =some o:=h.kept (heap_alloc_new w o) hd
theorem af.bL{D E:Nat→Prop}{w a b:aly}(h:af D w a)(k:af E a b)(he: ∀x,E x→w.heap.size≤x∨D x):af D w b:=
 ⟨k.os.trans h.os,k.tape.trans h.tape,k.output.trans h.output,al2 h.size k.size,λi hi hd=>(k.block i (amC hi h.size) λhx=>(he i hx).elim (λh1=>by omega) hd).trans (h.block i hi hd)⟩
theorem af.wider{D:Nat→Prop}{w w':aly}(h:af (λ_=>False) w w'):af D w w':=h.mono λ_ _ h=>h.elim
end Go.Upr
end
namespace Go.Proofs
open Go.Shelf
def Tryz.aa2:asR:=⟨λ|213=>200|265=>254|n=>n,λ|9=>9|3=>3|n=>n,λ|n=>n⟩
def Tryz.J6:asR:=⟨λ|106=>148|213=>200|265=>254|n=>n,λ|9=>9|3=>3|n=>n,λ|n=>n⟩
theorem Tryz.Zu:as7 Tryz.prog Tryz.J6:={
 mixed:=by kernel_rfl
 f106:=Tryz.func148.trans (congrArg some ar)
 f213:=Tryz.func200.trans (congrArg some ar)
 f265:=Tryz.func254.trans (congrArg some ar)
 t3:=Tryz.underlying3
 a3:=Tryz.isAgg3
 z3:=Tryz.sizeOf3
 v3:=Tryz.zeroValue3
 t9:=Tryz.underlying9
 a9:=Tryz.isAgg9
 z9:=Tryz.sizeOf9
 v9:=Tryz.zeroValue9}
open Go.RowKit in
theorem Tryz.strings_Compare(a b:ByteArray)(w:aly):
  asP Tryz.prog 148 #[.string a,.string b] w λe w'=>e= .returned (.int .i64 (Lib.compareBytes a.data.toList b.data.toList))∧w'=w:=Any.strings_Compare Tryz.Zu a b w
def Tryz.aa1:asR:=⟨λ|219=>298|217=>300|225=>301|224=>302|267=>303|266=>304|314=>305|n=>n,λ|9=>9|3=>3|4=>4|5=>5|46=>262|146=>425|51=>270|n=>n,λ|1=>0|n=>n⟩
def Tryz.J3:asR:=⟨λ|144=>274|143=>294|219=>298|217=>300|225=>301|224=>302|267=>303|266=>304|314=>305|n=>n,λ|9=>9|4=>4|3=>3|5=>5|46=>262|146=>425|51=>270|n=>n,λ|1=>0|n=>n⟩
theorem Tryz.Zr:as6 Tryz.prog Tryz.J3:={
 mixed:=by kernel_rfl
 f143:=Tryz.func294.trans (congrArg some ar)
 f144:=Tryz.func274.trans (congrArg some ar)
 f217:=Tryz.func300.trans (congrArg some ar)
 f219:=Tryz.func298.trans (congrArg some ar)
 f224:=Tryz.func302.trans (congrArg some ar)
 f225:=Tryz.func301.trans (congrArg some ar)
 f266:=Tryz.func304.trans (congrArg some ar)
 f267:=Tryz.func303.trans (congrArg some ar)
 f314:=Tryz.func305.trans (congrArg some ar)
 t3:=Tryz.underlying3
 a3:=Tryz.isAgg3
 z3:=Tryz.sizeOf3
 v3:=Tryz.zeroValue3
 t4:=Tryz.underlying4
 a4:=Tryz.isAgg4
 z4:=Tryz.sizeOf4
 v4:=Tryz.zeroValue4
 t5:=Tryz.underlying5
 a5:=Tryz.isAgg5
 z5:=Tryz.sizeOf5
 v5:=Tryz.zeroValue5
 t9:=Tryz.underlying9
 a9:=Tryz.isAgg9
 z9:=Tryz.sizeOf9
 v9:=Tryz.zeroValue9
 t46:=Tryz.underlying262
 a46:=Tryz.isAgg262
 z46:=Tryz.sizeOf262
 v46:=Tryz.zeroValue262
 t51:=Tryz.underlying270
 a51:=Tryz.isAgg270
 z51:=Tryz.sizeOf270
 v51:=Tryz.zeroValue270
 t146:=Tryz.underlying425
 a146:=Tryz.isAgg425
 z146:=Tryz.sizeOf425
 v146:=Tryz.zeroValue425
 g1:=by kernel_rfl}
open Go.RowKit Go.Lib in
theorem Tryz.strings_Contains_one(s:ByteArray)(c:UInt8)(w:aly):
  asP Tryz.prog 274 #[.string s,.string ⟨#[c]⟩] w λe w'=>e= .returned (.bool (decide (0≤as4 s.data.toList c)))∧w'=w:=Any.strings_Contains_one Tryz.Zr s c w
def Tryz.J1:asR:=⟨λ|264=>382|n=>n,λ|53=>110|46=>262|n=>n,λ|n=>n⟩
theorem Tryz.Zo:as5 Tryz.prog Tryz.J1:={
 mixed:=by kernel_rfl
 f264:=Tryz.func382.trans (congrArg some ar)
 t46:=Tryz.underlying262
 a46:=Tryz.isAgg262
 z46:=Tryz.sizeOf262
 v46:=Tryz.zeroValue262
 t53:=Tryz.underlying110
 a53:=Tryz.isAgg110
 z53:=Tryz.sizeOf110
 v53:=Tryz.zeroValue110}
open Go.RowKit Go.Lib in
theorem Tryz.bits_Mul64(x y:Nat)(hx:x<18446744073709551616)(hy:y<18446744073709551616)(w:aly):
  asP Tryz.prog 382 #[.int .u64 x,.int .u64 y] w λe w'=>e= .returned (.tuple #[.int .u64 ((x*y/18446744073709551616:Nat):Int),.int .u64 ((x*y % 18446744073709551616:Nat):Int)])∧w'=w:=Any.bits_Mul64 Tryz.Zo x y hx hy w
end Go.Proofs
section
namespace Go.Proofs.YtkdljbnllgpfhaaGreat
open Go Go.RowKit
theorem pn{a b:Int}(h:a=b):as0 (.int .i64 a)= .returned (.int .i64 b):=by rw[h]
theorem jS{a b:Bool}(h:a=b):as0 (.bool a)= .returned (.bool b):=by rw[h]
def abb(b:UInt8):Bool:=decide (97≤b.toNat)&&decide (b.toNat≤122)
def sZ(b:UInt8):Bool:=decide (65≤b.toNat)&&decide (b.toNat≤90)
def Iu(b:UInt8):Bool:=decide (48≤b.toNat)&&decide (b.toNat≤57)
def pN(b:UInt8):Bool:=abb b||sZ b||Iu b||decide (b.toNat=95)
theorem ajD(b:UInt8)(w:aly):asP Tryz.prog 271 #[.int .u8 b.toNat] w λe w'=>e= .returned (.bool (abb b))∧w=w':=by
 by_cases h1:(97:Int)≤b.toNat<;>by_cases h2:(b.toNat:Int)≤122
 all_goals
  go_enter Tryz.func271,Tryz.ntmps271;go_wp2;go_ret;exact⟨jS (by unfold abb;simp;omega),rfl⟩
theorem ace(b:UInt8)(w:aly):asP Tryz.prog 272 #[.int .u8 b.toNat] w λe w'=>e= .returned (.bool (sZ b))∧w=w':=by
 by_cases h1:(65:Int)≤b.toNat<;>by_cases h2:(b.toNat:Int)≤90
 all_goals
  go_enter Tryz.func272,Tryz.ntmps272;go_wp2;go_ret;exact⟨jS (by unfold sZ;simp;omega),rfl⟩
theorem aeL(b:UInt8)(w:aly):asP Tryz.prog 273 #[.int .u8 b.toNat] w λe w'=>e= .returned (.bool (Iu b))∧w=w':=by
 by_cases h1:(48:Int)≤b.toNat<;>by_cases h2:(b.toNat:Int)≤57
 all_goals
  go_enter Tryz.func273,Tryz.ntmps273;go_wp2;go_ret;exact⟨jS (by unfold Iu;simp;omega),rfl⟩
def T1(p:UInt8→Bool)(s:ByteArray)(k:Nat):Prop:=k≤s.size∧(∀j (h:j<s.size),j<k→p s[j]=true)∧∀h:k<s.size,p s[k]=false
theorem CP{p:UInt8→Bool}{s:ByteArray}{k:Nat}(h:k<s.size)(hp:p s[k]=true)(hall: ∀j (h:j<s.size),j<k→p s[j]=true): ∀j (h:j<s.size),j<k+1→p s[j]=true:=by
 intro j hj hk;rcases asV j k with h1|h1
 ·exact hall j hj h1
 ·obtain rfl:j=k:=by omega
  exact hp
theorem aeP(s:ByteArray)(w:aly)(hs:s.size≤maxLen):asP Tryz.prog 224 #[.string s] w λe w'=>∃k:Nat,e= .returned (.int .i64 k)∧w=w'∧T1 pN s k:=by
 unfold maxLen at hs;go_enter Tryz.func224,Tryz.ntmps224;go_wp2
 go_loop [7,3,4] (λi _ _=>∃k:Nat,k≤s.size∧i= .int .i64 k∧∀j (h:j<s.size),j<k→pN s[j]=true) (λi _ _=>s.size-(intOf i).toNat)
 case atStart=>exact⟨0,arQ _,rfl,by omega⟩
 case round=>
  obtain⟨k,hk,rfl,hall⟩:=hrel;by_cases hlt:k<s.size
  ·have H:Hid (∀j (h:j<s.size),j<k→pN s[j]=true):=hall;clear hall;go_wp2_with (first|(go_at_call 271;refine(ajD _ _).mono ?_;rintro e w' ⟨rfl,rfl⟩)|(go_at_call 272;refine(ace _ _).mono ?_;rintro e w' ⟨rfl,rfl⟩)|(go_at_call 273;refine(aeL _ _).mono ?_;rintro e w' ⟨rfl,rfl⟩))
   all_goals first
    |(go_round
      case rel=>exact⟨k+1,by omega,by go_num,CP hlt (by unfold pN;simp_all;try omega) H.out⟩
      case measure=>simp[intOf];omega)
    |(go_ret;exact⟨k,rfl,rfl,hk,H.out,λh=>by unfold pN;simp_all;try omega⟩)
  ·go_wp2;go_ret;exact⟨s.size,rfl,rfl,agl _,λj h _=>hall j h aj,λh=>by omega⟩
def bl(s:ByteArray):List UInt8:=s.data.toList
theorem dx(s:ByteArray):(bl s).length=s.size:=by simp[bl]
theorem FY(s:ByteArray)(k:Nat)(h:k<s.size):(bl s)[k]? =some s[k]:=by
 unfold bl;rw[ath,Array.getElem?_toList,arZ (by exact h)]
theorem xm(s:ByteArray)(k:Nat)(h:k<s.size):(bl s).drop k=s[k]::(bl s).drop (k+1):=by
 have h1:k<(bl s).length:=by rw[dx];exact h
 rw[List.drop_eq_getElem_cons h1];have:=FY s k h;rw[arn h1]at this;rw[alN this]
theorem zT(s:ByteArray)(k:Nat)(h: ¬k<s.size):(bl s).drop k= []:=List.drop_of_length_le (by rw[dx];omega)
def vN(s:ByteArray):Bool:=(bl s).any sZ
theorem MT{s:ByteArray}{k:Nat}(h:k<s.size)(hp:sZ s[k]=true):true=vN s:=by
 unfold vN;exact(List.any_eq_true.2 ⟨_,ann (FY s k h),hp⟩).symm
theorem Re{s:ByteArray}{k:Nat}(hk: ¬k<s.size)(hall: ∀j (h:j<s.size),j<k→(!sZ s[j])=true):false=vN s:=by
 unfold vN
 symm
 rw[List.any_eq_false];intro b hb;obtain⟨j,hj,rfl⟩:=asW hb;have hj':j<s.size:=by rw[←dx];exact hj
 have h1:=FY s j hj';rw[arn hj]at h1;have:=hall j hj' aj;rw[alN h1];simpa using this
theorem ajB(s:ByteArray)(w:aly)(hs:s.size≤maxLen):asP Tryz.prog 275 #[.string s] w λe w'=>e= .returned (.bool (vN s))∧w=w':=by
 unfold maxLen at hs;go_enter Tryz.func275,Tryz.ntmps275;go_wp2
 go_loop [6,3] (λi _=>∃k:Nat,k≤s.size∧i= .int .i64 k∧∀j (h:j<s.size),j<k→(!sZ s[j])=true) (λi _=>s.size-(intOf i).toNat)
 case atStart=>exact⟨0,arQ _,rfl,by omega⟩
 case round=>
  obtain⟨k,hk,rfl,hall⟩:=hrel;have H:Hid (∀j (h:j<s.size),j<k→(!sZ s[j])=true):=hall;clear hall;by_cases hlt:k<s.size
  ·go_wp2_with (go_at_call 272;refine(ace _ _).mono ?_;rintro e w' ⟨rfl,rfl⟩)
   all_goals first
    |(go_round
      case rel=>exact⟨k+1,by omega,by go_num,CP (p:=λb=> !sZ b) hlt (by simp_all) H.out⟩
      case measure=>simp[intOf];omega)
    |(go_ret;exact⟨jS (MT hlt (by assumption)),rfl⟩)
  ·go_wp2;go_ret;exact⟨jS (Re hlt H.out),rfl⟩
def uY(t s:ByteArray):Bool:=(bl t).isPrefixOf (bl s)
theorem Rb{s t:ByteArray}(_h:t.size≤s.size):((s.extract 0 t.size).toList==t.toList)=uY t s:=by
 have e1:(s.extract 0 t.size).toList=(bl s).take t.size:=by
  rw[asT];simp[bl]
 have e2:t.toList=bl t:=by rw[asT];rfl
 rw[e1,e2];unfold uY;rw[Bool.eq_iff_iff,asQ,beq_iff_eq,List.prefix_iff_eq_take,dx];exact eq_comm
theorem VT{s t:ByteArray}(h: ¬t.size≤s.size):false=uY t s:=by
 unfold uY
 symm
 rw[Bool.eq_false_iff];intro hc;have:=(asQ.1 hc).length_le;rw[dx,dx]at this;omega
theorem ajz(s t:ByteArray)(w:aly)(_hs:s.size≤maxLen)(_ht:t.size≤maxLen):asP Tryz.prog 286 #[.string s,.string t] w λe w'=>e= .returned (.bool (uY t s))∧w=w':=by
 unfold maxLen at _hs _ht;by_cases hlt:t.size≤s.size
 ·go_enter Tryz.func286,Tryz.ntmps286;go_wp2;go_ret;exact⟨jS (Rb hlt),rfl⟩
 ·go_enter Tryz.func286,Tryz.ntmps286;go_wp2;go_ret;exact⟨jS (VT hlt),rfl⟩
theorem ajK(s t:ByteArray)(w:aly)(hs:s.size≤maxLen)(ht:t.size≤maxLen):asP Tryz.prog 240 #[.string s,.string t] w λe w'=>e= .returned (.bool (uY t s))∧w=w':=by
 go_enter Tryz.func240,Tryz.ntmps240;go_wp2_with (go_at_call 286;refine(ajz _ _ _ hs ht).mono ?_;rintro e w' ⟨rfl,rfl⟩);go_ret;exact⟨rfl,rfl⟩
def FO(b:UInt8):Int:=if(b.toNat:Int)=40 then 5 else if(b.toNat:Int)=41 then 6 else if(b.toNat:Int)=44 then 7 else if(b.toNat:Int)=46 then 8 else if(b.toNat:Int)=33 then 9 else 1
theorem ajJ(b:UInt8)(w:aly):asP Tryz.prog 241 #[.int .u8 b.toNat] w λe w'=>e= .returned (.int .i64 (FO b))∧w=w':=by
 go_enter Tryz.func241,Tryz.ntmps241;go_wp2
 all_goals
  go_ret;exact⟨pn (by unfold FO;simp_all;try omega),rfl⟩
def blank:Bool→List UInt8→Nat
 |_,[]=>0
 |c,b::l=>if b.toNat=10 then blank false l+1 else if b.toNat=37 then blank true l+1 else if b.toNat≠32∧c=false then 0 else blank c l+1
theorem Wl(c:Bool)(l:List UInt8):blank c l≤l.length:=by
 induction l generalizing c with
 |nil=>simp[blank]
 |cons b l ih=>
  have h1:=ih true;have h2:=ih false;have h3:=ih c;unfold blank;simp only[as2];split
  ·omega
  ·split
   ·omega
   ·split<;>omega
theorem Wm{s:ByteArray}{k X:Nat}{b b':Bool}(hlt:k<s.size)(h:k+blank b ((bl s).drop k)=X)
  (hb:(s[k].toNat=10∧b'=false)∨(s[k].toNat≠10∧s[k].toNat=37∧b'=true)∨(s[k].toNat≠10∧s[k].toNat≠37∧(s[k].toNat=32∨b=true)∧b'=b)):k+1+blank b' ((bl s).drop (k+1))=X:=by
 rw[←h,xm s k hlt,blank];rcases hb with⟨h1,rfl⟩|⟨h1,h2,rfl⟩|⟨h1,h2,h3,rfl⟩
 ·rw[if_pos h1];omega
 ·rw[if_neg h1,if_pos h2];omega
 ·rw[if_neg h1,if_neg h2,if_neg (by rintro⟨a1,a2⟩;rcases h3 with h3|h3<;>simp_all)];omega
theorem Nb{s:ByteArray}{k X:Nat}{b:Bool}(hlt:k<s.size)(h:k+blank b ((bl s).drop k)=X)
  (hb:s[k].toNat≠10∧s[k].toNat≠37∧s[k].toNat≠32∧b=false):k=X:=by
 rw[←h,xm s k hlt,blank,if_neg hb.1,if_neg hb.2.1,if_pos ⟨hb.2.2.1,hb.2.2.2⟩];omega
theorem ajV(s:ByteArray)(w:aly)(hs:s.size≤maxLen):asP Tryz.prog 177 #[.string s] w λe w'=>e= .returned (.int .i64 (blank false (bl s)))∧w=w':=by
 unfold maxLen at hs;go_enter Tryz.func177,Tryz.ntmps177;go_wp2
 go_loop [7,3,4] (λi c _=>∃ (k:Nat) (b:Bool),k≤s.size∧i= .int .i64 k∧c= .bool b∧k+blank b ((bl s).drop k)=blank false (bl s)) (λi _ _=>s.size-(intOf i).toNat)
 case atStart=>exact⟨0,false,arQ _,rfl,rfl,by simp⟩
 case round=>
  obtain⟨k,b,hk,rfl,rfl,hall⟩:=hrel;have H:Hid (k+blank b ((bl s).drop k)=blank false (bl s)):=hall;clear hall;by_cases hlt:k<s.size
  ·cases b
   all_goals
    go_wp2
    all_goals first
     |(go_round
       case rel=>exact⟨k+1,_,by omega,by go_num,rfl,Wm hlt H.out (by simp_all;try omega)⟩
       case measure=>simp[intOf];omega)
     |(go_ret;exact⟨pn (congrArg Int.ofNat (Nb hlt H.out (by simp_all;try omega))),rfl⟩)
  ·go_wp2;go_ret;refine⟨pn ?_,rfl⟩;rw[←H.out,zT s k hlt];simp[blank];omega
end Go.Proofs.YtkdljbnllgpfhaaGreat
end
section
namespace Go.Proofs.YtkdljbnllgpfhaaGreat
open Go Go.RowKit Go.Upr
def LQ(s:ByteArray):Bool:=decide (0≤as4 (bl s) 95)
def wS(s:ByteArray):Int:=
 match bl s with
 | []=>0
 |b::_=>if sZ b then(if LQ s then 1 else 4)else if(b.toNat:Int)=95∨vN s=true then 1 else if Iu b then 3 else 2
theorem UJ{s:ByteArray}(h:0<s.size):wS s=if sZ s[0]then(if LQ s then(1:Int)else 4)else if(s[0].toNat:Int)=95∨vN s=true then 1 else if Iu s[0]then 3 else 2:=by
 have:=xm s 0 h;rw[as3]at this;unfold wS;rw[this]
theorem ajC(s:ByteArray)(w:aly):asP Tryz.prog 274 #[.string s,.string ⟨#[95]⟩] w λe w'=>e= .returned (.bool (LQ s))∧w=w':=
 (Tryz.strings_Contains_one s 95 w).mono λ_ _ h=>⟨h.1,h.2.symm⟩
theorem aeO(s:ByteArray)(w:aly)(h0:0<s.size)(hs:s.size≤maxLen):asP Tryz.prog 225 #[.string s] w λe w'=>e= .returned (.int .i64 (wS s))∧w=w':=by
 go_enter Tryz.func225,Tryz.ntmps225;go_wp2_with (first|(go_at_call 272;refine(ace _ _).mono ?_;rintro e w' ⟨rfl,rfl⟩)|(go_at_call 273;refine(aeL _ _).mono ?_;rintro e w' ⟨rfl,rfl⟩)|(go_at_call 274;refine(ajC _ _).mono ?_;rintro e w' ⟨rfl,rfl⟩)|(go_at_call 275;refine(ajB _ _ hs).mono ?_;rintro e w' ⟨rfl,rfl⟩))
 all_goals
  go_ret;refine⟨pn ?_,rfl⟩;rw[UJ h0];simp_all
  try omega
def Dj(s:ByteArray):Nat:=((bl s).takeWhile pN).length
theorem YB{s:ByteArray}{k:Nat}(h:T1 pN s k):k=Dj s:=by
 obtain⟨h1,h2,h3⟩:=h;have e:bl s=(bl s).take k++(bl s).drop k:=(List.take_append_drop k _).symm;have hall: ∀b∈(bl s).take k,pN b=true:=by
  intro b hb;obtain⟨j,hj,rfl⟩:=asW hb;rw[as1,dx]at hj;have h4:=FY s j aj;rw[List.getElem_take];rw[arn (by rw[dx];omega)]at h4;rw[alN h4];exact h2 j aj aj
 unfold Dj;rw[e,List.takeWhile_append_of_pos hall];have:((bl s).drop k).takeWhile pN= []:=by
  rcases asV k s.size with hk|hk
  ·rw[xm s k hk,List.takeWhile_cons,if_neg (by rw[h3 hk];simp)]
  ·rw[zT s k aj];rfl
 rw[this,List.append_nil,as1,dx];omega
theorem Ow(s:ByteArray):Dj s≤s.size:=by
 rw[←dx];exact(List.takeWhile_sublist _).length_le
def NP:ByteArray:=⟨#[58,45]⟩
def meas(s:ByteArray):Int×Nat:=
 if 0<Dj s then(wS (s.extract 0 (Dj s)),Dj s)else if uY NP s then(10,2)else(FO ((bl s).headD 0),1)
theorem V0{s:ByteArray}(h:0<s.size):(bl s).headD 0=s[0]:=by
 have:=xm s 0 h;rw[as3]at this;rw[this];rfl
theorem extract_size(s:ByteArray)(a b:Nat)(h:b≤s.size):(s.extract a b).size=b- a:=by
 rw[asS];omega
theorem Y0{s:ByteArray}(h:0<Dj s):0<(s.extract 0 (Dj s)).size:=by rw[extract_size _ _ _ (Ow s)];omega
theorem LF{s:ByteArray}(h:s.size≤maxLen)(a b:Nat):(s.extract a b).size≤maxLen:=by rw[asS];omega
theorem ajU(s:ByteArray)(w:aly)(h0:0<s.size)(hs:s.size≤maxLen):asP Tryz.prog 178 #[.string s] w λe w'=>e= .returned (.tuple #[.int .i64 (meas s).1,.int .i64 (meas s).2])∧w=w':=by
 have hw:NP.size≤maxLen:=by decide
 have hh:=V0 h0;have HH:Hid ((bl s).headD 0=s[0]):=hh;clear hh;go_enter Tryz.func178,Tryz.ntmps178;go_wp2_with (first|(go_at_call 224;refine(aeP _ _ hs).mono ?_;rintro e w' ⟨k,rfl,rfl,hk⟩;have vx:=hk.1;obtain rfl:=YB hk)|(go_at_call 225;refine(aeO _ _ (Y0 (by assumption)) (LF hs _ _)).mono ?_;rintro e w' ⟨rfl,rfl⟩)|(go_at_call 240;refine(ajK _ NP _ hs hw).mono ?_;rintro e w' ⟨rfl,rfl⟩)|(go_at_call 241;refine(ajJ _ _).mono ?_;rintro e w' ⟨rfl,rfl⟩))
 all_goals
  go_ret2
  refine⟨?_,rfl⟩;unfold meas
  first|(rw[if_pos (by assumption)];rfl)|(rw[if_neg (by assumption),if_pos (by assumption)];rfl)|(rw[if_neg (by assumption),if_neg (by simp[*]),HH.out];rfl)
structure Pc where
 k:Int
 t:ByteArray
 a:Nat
def Pc.val(p:Pc):Value:= .agg #[.int .i64 p.k,.string p.t,.int .i64 p.a]
def Df(s:ByteArray)(a:Nat):Nat:=blank false (bl (s.extract a s.size))
theorem LR(s:ByteArray){a:Nat}(h:a≤s.size):a+Df s a≤s.size:=by
 unfold Df;have:=Wl false (bl (s.extract a s.size));rw[dx,extract_size _ _ _ (agl _)]at this;omega
def s9(s:ByteArray)(a:Nat):Int×Nat:=meas (s.extract a s.size)
theorem Zg{s:ByteArray}(h:0<s.size):0<(meas s).2∧(meas s).2≤s.size:=by
 unfold meas;split
 ·exact⟨by assumption,Ow s⟩
 ·split
  ·rename_i h1;unfold uY at h1;have:=(asQ.1 h1).length_le;rw[dx,dx]at this;exact⟨ary _,this⟩
  ·exact⟨ary _,h⟩
theorem Ev{s:ByteArray}{a:Nat}(h:a<s.size):0<(s9 s a).2∧a+(s9 s a).2≤s.size:=by
 have h1:=extract_size s a s.size (agl _);have:=Zg (s:=s.extract a s.size) aj;unfold s9;omega
def aT(s:ByteArray)(a:Nat):Pc:=
 if a+Df s a=s.size then⟨0,ati,a+Df s a⟩else⟨(s9 s (a+Df s a)).1,s.extract (a+Df s a) (a+Df s a+(s9 s (a+Df s a)).2),a+Df s a⟩
theorem aeU(s:ByteArray)(a:Nat)(w:aly)(ha:a≤s.size)(hs:s.size≤maxLen):asP Tryz.prog 124 #[.string s,.int .i64 a] w λe w'=>e= .returned (aT s a).val∧Below w.heap.size w w':=by
 have hs':=hs;unfold maxLen at hs';have hg:=LR s ha;have c1: ∀w,asP Tryz.prog 177 #[.string (s.extract a s.size)] w λe w'=>e= .returned (.int .i64 (Df s a))∧w=w':=λw=>ajV (s.extract a s.size) w (LF hs _ _);by_cases he:a+Df s a=s.size
 ·go_enter Tryz.func124,Tryz.ntmps124;go_wp2_with (go_at_call 177;refine(c1 _).mono ?_;rintro e w' ⟨rfl,rfl⟩);refine atg (v:=(aT s a).val) ?_ rfl ⟨rfl,?_⟩
  ·unfold aT;rw[if_pos he];simp[results,Tryz.results124,go_sem,Pc.val];rfl
  ·exact(atb _ _).alloc (agl _) _
 ·have hm:=Ev (s:=s) (a:=a+Df s a) aj;have c2: ∀w,asP Tryz.prog 178 #[.string (s.extract (a+Df s a) s.size)] w λe w'=>e= .returned (.tuple #[.int .i64 (s9 s (a+Df s a)).1,.int .i64 (s9 s (a+Df s a)).2])∧w=w':=
   λw=>ajU _ w (by rw[extract_size _ _ _ (agl _)];omega) (LF hs _ _)
  go_enter Tryz.func124,Tryz.ntmps124;go_wp2_with (first|(go_at_call 177;refine(c1 _).mono ?_;rintro e w' ⟨rfl,rfl⟩)|(go_at_call 178;refine(c2 _).mono ?_;rintro e w' ⟨rfl,rfl⟩));refine atg (v:=(aT s a).val) ?_ rfl ⟨rfl,?_⟩
  ·unfold aT;rw[if_neg he];simp[results,Tryz.results124,go_sem,Pc.val]
  ·exact(atb _ _).alloc (agl _) _
end Go.Proofs.YtkdljbnllgpfhaaGreat
end
