import Derived.Test.YtkdljbnllgpfhaaGreatA8
import Derived.WalkKit
import Derived.BigQuiet
import Derived.Maps.AppendAt
import Derived.Deep.LoopGhost
set_option maxRecDepth 100000
set_option maxHeartbeats 8000000
open Go renaming World→aly,Value→aad,bodyPost_ret→atg,lt_of_block→atm,cell_of_row→aqF,Oper→apy,Program→alu,heap_alloc_new→atp,mem_ready→att,Act→atu,wanted_put→atx,getD_set_ne→aty,ready_mono→atA,execOp_put→atF,Calls→asP,Exit→atY,TypeId→acs,Ending→at1,getD_set_true→at2,Operand→ang
open Go.Region renaming wanted→apY,ready→asi,Mode→ato,binds→atq,noSelect_spec→atI,free_spec→atP,noSelect→atT
open Nat renaming le_refl→agl,le_trans→al2,zero_le→arQ,lt_succ_self→atG,lt_or_ge→asV,le_succ→atZ
open Option.some renaming inj→alN
open ByteArray renaming empty→ati
open Array renaming getElem?_eq_some_iff→ad3,setIfInBounds_eq_of_size_le→atD,replicate→aps,getD_eq_getD_getElem?→al9,setIfInBounds_comm→atH,getElem?_eq_none→aqa
open List renaming length_append→ap2,flatten_append→atB,mem_singleton→atQ,map_append→atW,mem_range→atX,range→at0
open Go.RowKit.Below renaming heap_alloc→atn,heap_setCell→atC,refl→atb
open Option renaming none→al1
open Go.RowKit renaming ownsRow_setCell_below→atr,Below→atE,Hid→at3
open Go.Value renaming oneCell'→atv
open Go.Oper renaming upon→atw,quietUpon→atz,wp→atJ,quietAt→atK,apart_spec→atV
open Ne renaming symm→arz
open Bool renaming and_eq_true→anh
open Go.World renaming cell?_of_block→atL,ownsRow_nil→atO,size_alloc→atS
open Go.Act renaming put_comm→atM,put→asn
open Go.Code renaming region→apN
open Go.Calls renaming mono→atN
open Go.Rows renaming mono→atU
open Go.Addr renaming add→aqt
section
namespace Go.Upr
open Go
def SY:Op→Bool
 | .call c=>match c.callee with
  | .builtin .len| .builtin .cap| .builtin .max=>true
  |_=>false
 | .go _| .defer _| .send _ _| .recv _ _ _| .select _ _| .panic _=>false
 |_=>true
def jd(P:alu)(s:Sem Next):Prop:=∀w f args w',s.run P w≠ .ok (.enter f args) w'
theorem jd.bind{α:Type}{P:alu}{s:Sem α}{k:α→Sem Next}(h: ∀a,jd P (k a)):jd P (s>>= k):=by
 intro w f args w' e;rw[Sem.run_bind]at e;generalize s.run P w=r at e;cases r with
 |ok a w1=>rw[Result.andThen_ok]at e;exact h a _ _ _ _ e
 |halt x w1=>cases e
theorem jd.value{P:alu}(v:aad):jd P (pure (.value v)):=by intro w f args w' e;cases e
theorem jd.skip{P:alu}:jd P (pure .skip):=by intro w f args w' e;cases e
theorem jd.halt{P:alu}(h:Halt):jd P (Sem.halt h):=by intro w f args w' e;cases e
theorem jd.v{P:alu}(s:Sem aad):jd P (do pure (Next.value (←s))):= .bind λ_=> .value _
theorem jd.u{P:alu}(s:Sem Unit):jd P (do s;pure Next.skip):= .bind λ_=> .skip
theorem IM{P:alu}{o:apy}{ρ:ang→aad}(ht:SY o.op=true):jd P (execOp ρ o):=by
 unfold execOp;generalize o.op=op at ht;cases op<;>dsimp only<;>first|exact .v _|exact .u _|exact .value _|(cases ht;done)|skip
 case pick c a b=>exact .bind λ_=> .value _
 case nilCheck x=>
  split
  ·exact .bind λ_=> .halt _
  ·exact .bind λ_=> .halt _
  ·exact .bind λ_=> .halt _
  ·split
   ·exact .bind λ_=> .halt _
   ·refine .bind λ_=> .bind λ_=>?_;split
    ·exact .bind λ_=> .value _
    ·exact .value _
   ·exact .value _
  ·exact .value _
 case call c=>
  unfold SY at ht;dsimp only at ht;unfold resolve;split at ht
  ·rename_i h;rw[h];exact .v _
  ·rename_i h;rw[h];exact .v _
  ·rename_i h;rw[h];exact .v _
  ·cases ht
variable{P:alu}{ops:Array apy}{md:ato}{C:aly→Prop}{fx:Nat→Bool}
def Oper.does(P:alu)(o:apy)(a:atu)(w:aly)(R:aad→aly→Prop):Prop:=o.wp P a w (λa' w'=>∃v,a'=a.put o.dst v∧R v w') (λ_ _ _=>False)
theorem Ve{a b:atu}{d:Option Tmp}{u v:aad}(hz:b.tmps.size=a.tmps.size)(h:a.put d u=a.put d v):b.put d u=b.put d v:=by
 cases d with
 |none=>rfl
 |some d=>
  have h1:a.tmps.setIfInBounds d u=a.tmps.setIfInBounds d v:=congrArg Act.tmps h;unfold asn;dsimp only
  congr 1
  by_cases hd:d<a.tmps.size
  ·have h2:=congrArg (λt:Array aad=>t[d]?) h1;simp only[Array.getElem?_setIfInBounds_self_of_lt hd]at h2;rw[alN h2]
  ·have hle:b.tmps.size≤d:=by rw[hz];exact Nat.le_of_not_lt hd
   rw[atD hle,atD hle]
theorem Oper.kF{o:apy}{a:atu}{w:aly}{R R':aad→aly→Prop}(h: ∀v w,R v w→R' v w)(hh:Oper.does P o a w R):Oper.does P o a w R':=
 Oper.wp_mono (λ_ _ ⟨v,e,r⟩=>⟨v,e,h _ _ r⟩) hh
theorem I4(a:atu)(d:Option Tmp)(v:aad):(a.put d v).tmps.size=a.tmps.size:=by
 cases d<;>simp[asn]
theorem Oper.Pe{o:apy}{a b:atu}{w:aly}{R:aad→aly→Prop}(he:execOp b.eval o=execOp a.eval o)(hz:b.tmps.size=a.tmps.size)(hh:Oper.does P o a w R):Oper.does P o b w R:=by
 unfold Oper.does atJ at*;rw[he];generalize(execOp a.eval o).run P w=r at*;have key: ∀u w',(∃v,a.put o.dst u=a.put o.dst v∧R v w')→∃v,b.put o.dst u=b.put o.dst v∧R v w':=λu w' ⟨v,e,r⟩=>⟨v,Ve hz e,r⟩;have kd: ∀d u w',¬ ∃v,({a with defers:=d::a.defers}:atu).put o.dst u=a.put o.dst v∧R v w':=by
  rintro d u w' ⟨v,e,_⟩;have:=congrArg Act.defers e;cases hd:o.dst<;>simp[asn,hd]at this
 cases r with
 |ok n w'=>
  cases n<;>simp only[atw]at hh⊢ <;>
   first
    |exact key _ _ hh
    |exact atN hh (λe w'' he=>by cases e<;>first|exact key _ _ he|exact he)
    |exact atU hh (λ_ _ he=>key _ _ he)
    |exact absurd hh (kd _ _ _)
 |halt x w'=>cases x<;>simp only[atw]at hh⊢
theorem Oper.EG{o:apy}{a:atu}{w:aly}{R:aad→aly→Prop}(hh:Oper.does P o a w R): ∃v w',R v w':=by
 unfold Oper.does atJ at hh;generalize(execOp a.eval o).run P w=r at*;cases r with
 |ok n w'=>
  cases n<;>simp only[atw]at hh
  case value=>obtain⟨v,_,h⟩:=hh;exact⟨v,_,h⟩
  case skip=>obtain⟨v,_,h⟩:=hh;exact⟨v,_,h⟩
  case defer=>obtain⟨v,_,h⟩:=hh;exact⟨v,_,h⟩
  case row=>obtain⟨u,w',⟨v,_,h⟩,_⟩:=hh default [];exact⟨v,_,h⟩
  case enter=>
   obtain⟨e,w',fr,h,_⟩:=hh [];cases e with
   |returned u=>obtain⟨v,_,h⟩:=h;exact⟨v,_,h⟩
   |panicked c=>exact h.elim
   |outgrown=>obtain⟨_,_,h⟩:=h;exact h.elim
 |halt x w'=>cases x<;>simp only[atw]at hh
def gZ(P:alu)(ops:Array apy)(C:aly→Prop)(o:apy)(v:aad)(a:atu):Prop:=
 (apY o (yielded ops a.tmps)=true∧SY o.op=true∧∀w,C w→o.quietAt P a C w v)∨(apY o (yielded ops a.tmps)=false∧v=undef)
def reach(md:ato)(ops:Array apy):Nat→Nat→Nat→Bool
 |0,_,_=>false
 |n+1,i,j=>match ops[i]? with
  |some o=>o.after.any λe=>atq md e&&(e.on==j||reach md ops n e.on j)
  |none=>false
def Shut(md:ato)(ops:Array apy)(listed:Array Bool):Prop:=∀i o,ops[i]? =some o→listed.getD i false=true→∀e∈o.after,atq md e=true→listed.getD e.on false=true
theorem Shut.reach{listed:Array Bool}(h:Shut md ops listed): ∀ (n i j:Nat) (o:apy),ops[i]? =some o→(∀e∈o.after,atq md e=true→listed.getD e.on false=true)→reach md ops n i j=true→listed.getD j false=true:=by
 intro n
 induction n with
 |zero=>intro i j o _ _ hr;cases hr
 |succ n ih=>
  intro i j o ho hall hr;unfold Upr.reach at hr;rw[ho]at hr;obtain⟨e,he,hb⟩:=Array.any_eq_true'.1 hr;simp only[anh,Bool.or_eq_true,beq_iff_eq]at hb;have h1:=hall e he hb.1;rcases hb.2 with rfl|h2
  ·exact h1
  ·cases m_:ops[e.on]? with
   |none=>
    cases n with
    |zero=>cases h2
    |succ n=>unfold Upr.reach at h2;rw[m_]at h2;cases h2
   |some o'=>exact ih e.on j o' m_ (h e.on o' m_ h1) h2
theorem Shut.set{listed:Array Bool}(h:Shut md ops listed){i:Nat}(hi:i∈asi md ops listed):Shut md ops (listed.setIfInBounds i true):=by
 obtain⟨_,o,ho,hall⟩:=att.1 hi;intro j oj hj hl e he hb;by_cases tX:i=j
 ·subst tX;obtain rfl:=alN (ho.symm.trans hj);exact at2 (hall e he hb)
 ·rw[aty false tX]at hl;exact at2 (h j oj hj hl e he hb)
theorem OZ{listed:Array Bool}{j:Nat}(h:listed.getD j false=true):listed.getD j true=true:=by
 rw[al9]at h⊢;cases hl:listed[j]? with
 |none=>rfl
 |some b=>rw[hl]at h;exact h
def need(md:ato)(ops:Array apy)(fx:Nat→Bool)(k:Nat):Bool:=
 (at0 ops.size).any λj=> !fx j&&j != k&& !reach md ops 5 k j
def AV(P:alu)(md:ato)(ops:Array apy)(C:aly→Prop)(fx:Nat→Bool)(i:Nat)(o:apy)(K:atu→aly→Prop)(a:atu)(w:aly):Prop:=
 if fx i=true∧apY o (yielded ops a.tmps)=true then Oper.does P o a w (λv w'=>(need md ops fx i=true→C w')∧K (a.put o.dst v) w')
 else ∃v,gZ P ops C o v a∧K (a.put o.dst v) w
def iw(P:alu)(md:ato)(ops:Array apy)(C:aly→Prop)(fx:Nat→Bool)(Q:atu→aly→Prop):Nat→Array Bool→atu→aly→Prop
 |0,listed,a,w=>asi md ops listed= []∧Q a w
 |fuel+1,listed,a,w=>
  (asi md ops listed= []→Q a w)∧
  ∀i∈asi md ops listed,∀o,ops[i]? =some o→AV P md ops C fx i o (iw P md ops C fx Q fuel (listed.setIfInBounds i true)) a w
theorem Cq{i:Nat}{o:apy}{a:atu}{w:aly}{K K':atu→aly→Prop}(h: ∀a w,K a w→K' a w)(hh:AV P md ops C fx i o K a w):AV P md ops C fx i o K' a w:=by
 unfold AV at*;split
 ·rename_i hw;rw[if_pos hw]at hh;exact Oper.kF (λv w ⟨x,y⟩=>⟨x,h _ _ y⟩) hh
 ·rename_i hw;rw[if_neg hw]at hh;obtain⟨v,h1,h2⟩:=hh;exact⟨v,h1,h _ _ h2⟩
def Inv(md:ato)(ops:Array apy)(C:aly→Prop)(fx:Nat→Bool)(listed:Array Bool)(w:aly):Prop:=Shut md ops listed∧(C w∨∀j,j<ops.size→fx j=false→listed.getD j true=true)
theorem gZ.at{o:apy}{v:aad}{a a':atu}(hy:gZ P ops C o v a)(he:execOp a'.eval o=execOp a.eval o)
  (hw:apY o (yielded ops a'.tmps)=apY o (yielded ops a.tmps)):gZ P ops C o v a':=by
 unfold gZ atK at*;rw[he,hw];exact hy
theorem gZ.one{o:apy}{u v:aad}{a:atu}(h1:gZ P ops C o u a)(h2:gZ P ops C o v a){w:aly}(hw:C w):u=v:=by
 rcases h1 with⟨a1,t,b1⟩|⟨a1,b1⟩<;>rcases h2 with⟨a2,_,b2⟩|⟨a2,b2⟩
 ·have c1:=b1 w hw;have c2:=b2 w hw;have hn:=IM (P:=P) (ρ:=a.eval) t w;unfold atK at c1 c2;generalize(execOp a.eval o).run P w=r at c1 c2 hn;cases r with
  |ok n w'=>
   cases n<;>simp only[atz]at c1 c2
   case value x=>exact c1.2.symm.trans c2.2
   case skip=>exact c1.2.trans c2.2.symm
   case enter f args=>exact absurd rfl (hn _ _ _)
  |halt x w'=>simp only[atz]at c1
 ·rw[a1]at a2;cases a2
 ·rw[a1]at a2;cases a2
 ·rw[b1,b2]
theorem gZ.wp{o:apy}{v:aad}{a:atu}{w:aly}(h:gZ P ops C o v a)(hw:apY o (yielded ops a.tmps)=true)(hC:C w){K:atu→aly→Prop}{Q:atY→atu→aly→Prop}(hK:K (a.put o.dst v) w):o.wp P a w K Q:=by
 rcases h with⟨_,t,b1⟩|⟨a1,_⟩
 ·have c1:=b1 w hC;have hn:=IM (P:=P) (ρ:=a.eval) t w;unfold atK at c1;unfold atJ;generalize(execOp a.eval o).run P w=r at c1 hn;cases r with
  |ok n w'=>
   cases n<;>simp only[atz]at c1
   case value x=>obtain⟨rfl,rfl⟩:=c1;exact hK
   case skip=>obtain⟨rfl,rfl⟩:=c1;exact hK
   case enter f args=>exact absurd rfl (hn _ _ _)
  |halt x w'=>simp only[atz]at c1
 ·rw[a1]at hw;cases hw
theorem JU{i j:Nat}{listed:Array Bool}(hs:Shut md ops listed)(hi:i∈asi md ops listed)(hn: ¬need md ops fx i=true)(hj:j<ops.size)(DR:fx j=false)(tX:i≠j):listed.getD j true=true:=by
 obtain⟨_,o,ho,hall⟩:=att.1 hi;unfold need at hn;rw[List.any_eq_true]at hn;cases hr:reach md ops 5 i j with
 |true=>exact OZ (hs.reach 5 i j o ho hall hr)
 |false=>
  refine absurd ⟨j,atX.2 hj,?_⟩ hn;simp only[hr,DR,Bool.not_false,Bool.and_true,Bool.true_and,bne_iff_ne,ne_eq];exact arz tX
theorem Inv.fix{i:Nat}{listed:Array Bool}{w w':aly}(hI:Inv md ops C fx listed w)(hi:i∈asi md ops listed)(hf:fx i=true)(hC:need md ops fx i=true→C w'):Inv md ops C fx (listed.setIfInBounds i true) w':=by
 refine⟨hI.1.set hi,?_⟩;by_cases hn:need md ops fx i=true
 ·exact .inl (hC hn)
 ·refine .inr λj hj DR=>?_;have tX:i≠j:=by
   rintro rfl;rw[hf]at DR;cases DR
  rw[aty true tX];exact JU hI.1 hi hn hj DR tX
theorem Inv.float{i:Nat}{listed:Array Bool}{w:aly}(hI:Inv md ops C fx listed w)(hi:i∈asi md ops listed):Inv md ops C fx (listed.setIfInBounds i true) w:=by
 have GX:=(att.1 hi).1;refine⟨hI.1.set hi,hI.2.imp id λh j hj DR=>?_⟩;by_cases tX:i=j
 ·subst tX;rw[h i hj DR]at GX;cases GX
 ·rw[aty true tX];exact h j hj DR
theorem ZW{o:apy}{a:atu}{w:aly}{K:atu→aly→Prop}{Q:atY→atu→aly→Prop}(hh:Oper.does P o a w λv w'=>K (a.put o.dst v) w'):o.wp P a w K Q:=by
 unfold Oper.does atJ at*;generalize(execOp a.eval o).run P w=r at*;have key: ∀a' w',(∃v,a'=a.put o.dst v∧K (a.put o.dst v) w')→K a' w':=by rintro _ _ ⟨v,rfl,h⟩;exact h
 cases r with
 |ok n w'=>
  cases n<;>simp only[atw]at hh⊢ <;>
   first
    |exact key _ _ hh
    |exact atN hh (λe w'' he=>by cases e<;>first|exact key _ _ he|exact he.elim|exact(by obtain⟨_,_,h⟩:=he;exact h.elim))
    |exact atU hh (λ_ _ he=>key _ _ he)
 |halt x w'=>cases x<;>simp only[atw]at hh
theorem gu{Q:atu→aly→Prop}{Q':atY→atu→aly→Prop}(hQ: ∀a w,Q a w→Q' .normal a w): ∀ (fuel:Nat) (listed:Array Bool) (a:atu) (w:aly),Inv md ops C fx listed w→
  iw P md ops C fx Q fuel listed a w→wpAny P md ops Q' fuel listed a w
 |0,_,_,_,_,h=>⟨h.1,hQ _ _ h.2⟩
 |fuel+1,listed,a,w,hI,h=>by
  refine⟨λh0=>hQ _ _ (h.1 h0),λi hi=>?_⟩;obtain⟨GX,o,ho,hall⟩:=att.1 hi;have h1:=h.2 i hi o ho;have hlt:i<ops.size:=(ad3.1 ho).1;unfold AV at h1;unfold wpOp;simp only[ho];split at h1
  ·rename_i hf;rw[if_pos hf.2];refine .inl (ZW (Oper.kF (λv w' hk=>?_) h1));exact gu hQ fuel _ _ _ (hI.fix hi hf.1 hk.1) hk.2
  ·rename_i hf;obtain⟨v,hv,hk⟩:=h1;have hI':=hI.float hi;by_cases hw:apY o (yielded ops a.tmps)=true
   ·rw[if_pos hw];have vy:fx i=false:=by
     cases hfx:fx i with
     |false=>rfl
     |true=>exact absurd ⟨hfx,hw⟩ hf
    have hC:C w:=hI.2.resolve_right λh=>by rw[h i hlt vy]at GX;cases GX
    exact .inl (hv.wp hw hC (gu hQ fuel _ _ _ hI' hk))
   ·rw[if_neg hw];rcases hv with⟨a1,_⟩|⟨_,rfl⟩
    ·exact absurd a1 hw
    ·exact gu hQ fuel _ _ _ hI' hk
theorem ZN{j:Nat}{oi oj:apy}{v:aad}{w:aly}(hap:oi.apart ops oj=true)
  (hsi: ∀cs b,oi.op≠ .select cs b) (hsj: ∀cs b,oj.op≠ .select cs b) {K:atu→aly→Prop} {a:atu}
  (hy:gZ P ops C oi v a) (h:AV P md ops C fx j oj K (a.put oi.dst v) w):
  AV P md ops C fx j oj (λa' w'=>apY oi (yielded ops a'.tmps)=apY oi (yielded ops a.tmps)∧gZ P ops C oi v a'∧K (a'.put oi.dst v) w') a w:=by
 obtain⟨h1,h2,h3⟩:=atV hap;have keep: ∀u,gZ P ops C oi v (a.put oj.dst u):=λu=>hy.at (atF oi hsi a oj.dst u h3) (atx oi a oj.dst u h3);unfold AV at*;rw[atx oj a oi.dst v h1]at h;split
 ·rename_i hw;rw[if_pos hw]at h;have h4:=Oper.Pe (atF oj hsj a oi.dst v h1).symm (I4 a oi.dst v).symm h;refine Oper.kF (λu w' hk=>⟨hk.1,atx oi a oj.dst u h3,keep u,?_⟩) h4;rw[←atM a v u h2];exact hk.2
 ·rename_i hw;rw[if_neg hw]at h;obtain⟨u,hu,hn⟩:=h;refine⟨u,hu.at (atF oj hsj a oi.dst v h1).symm (atx oj a oi.dst v h1).symm,atx oi a oj.dst u h3,keep u,?_⟩;rw[←atM a v u h2];exact hn
theorem Cp{i:Nat}{o:apy}{v:aad}{a:atu}{w:aly}(hf: ¬(fx i=true∧apY o (yielded ops a.tmps)=true))(hy:gZ P ops C o v a){K:atu→aly→Prop}(h:K (a.put o.dst v) w):AV P md ops C fx i o K a w:=by
 unfold AV;rw[if_neg hf];exact⟨v,hy,h⟩
theorem xy{Q:atu→aly→Prop}{i:Nat}{oi:apy}{v:aad}(hi:ops[i]? =some oi)(HX: ∀ (j:Nat) (o:apy) cs b,ops[j]? =some o→o.op≠ .select cs b):
  ∀ (fuel:Nat) (listed:Array Bool) (a:atu) (w:aly),
   (∀j oj,ops[j]? =some oj→j≠i→listed.getD j true=false→(∀e∈oj.after,atq md e=true→e.on≠i)→oi.apart ops oj=true)→
   i∈asi md ops listed→(fx i=false∨apY oi (yielded ops a.tmps)=false)→gZ P ops C oi v a→
   iw P md ops C fx Q fuel (listed.setIfInBounds i true) (a.put oi.dst v) w→iw P md ops C fx Q (fuel+1) listed a w:=by
 intro fuel;have vD: ∀a:atu,(fx i=false∨apY oi (yielded ops a.tmps)=false)→¬(fx i=true∧apY oi (yielded ops a.tmps)=true):=by
  rintro a (h|h) ⟨h1,h2⟩
  ·rw[h]at h1;cases h1
  ·rw[h]at h2;cases h2
 induction fuel with
 |zero=>
  intro listed a w _ hr vy hy H;refine⟨λh=>(by rw[h]at hr;cases hr),λj hj oj G6=>?_⟩;by_cases ma:j=i
  ·subst ma;obtain rfl:=alN (hi.symm.trans G6);exact Cp (vD a vy) hy H
  ·have:=atA hj ma;rw[H.1]at this;cases this
 |succ fuel ih=>
  intro listed a w Iy hr vy hy H;refine⟨λh=>(by rw[h]at hr;cases hr),λj hj oj G6=>?_⟩;by_cases ma:j=i
  ·subst ma;obtain rfl:=alN (hi.symm.trans G6);exact Cp (vD a vy) hy H
  ·have h1:=H.2 j (atA hj ma) oj G6;obtain⟨Fz,oj',abp,hall⟩:=att.1 hj;obtain rfl:=alN (G6.symm.trans abp);have abr: ∀e∈oj.after,atq md e=true→e.on≠i:=λe he hb heq=>by
    have h1:=hall e he hb;have h0:=(att.1 hr).1;rw[heq]at h1;rcases asV i listed.size with h'|h'
    ·simp[h']at h0 h1;rw[h0]at h1;cases h1
    ·simp[aqa h']at h1
   have hap:=Iy j oj G6 ma Fz abr;have h2:=ZN hap (λcs b=>HX i oi cs b hi) (λcs b=>HX j oj cs b G6) hy h1;have ac3: ∀k ok,ops[k]? =some ok→k≠i→(listed.setIfInBounds j true).getD k true=false→
     (∀e∈ok.after,atq md e=true→e.on≠i)→oi.apart ops ok=true:=λk ok hk hki GX hno=>by
    refine Iy k ok hk hki ?_ hno;by_cases hjk:j=k
    ·subst hjk;exact Fz
    ·rw[aty true hjk]at GX;exact GX
   refine Cq (λa' w' h3=>ih (listed.setIfInBounds j true) a' w' ac3 (atA hr (arz ma)) ?_ h3.2.1 ?_) h2
   ·rw[h3.1];exact vy
   ·rw[atH _ _ ma];exact h3.2.2
theorem xx{Q:atu→aly→Prop}{i:Nat}{oi:apy}{w:aly}(hi:ops[i]? =some oi)(hf:fx i=true)(HX: ∀ (j:Nat) (o:apy) cs b,ops[j]? =some o→o.op≠ .select cs b):
  ∀ (fuel:Nat) (listed:Array Bool) (a:atu),Inv md ops C fx listed w→
   (∀j oj,ops[j]? =some oj→j≠i→listed.getD j true=false→(∀e∈oj.after,atq md e=true→e.on≠i)→oi.apart ops oj=true)→
   (∀j oj,ops[j]? =some oj→j≠i→listed.getD j true=false→fx j=true→reach md ops 5 j i=true)→
   i∈asi md ops listed→apY oi (yielded ops a.tmps)=true→
   Oper.does P oi a w (λv w'=>(need md ops fx i=true→C w')∧iw P md ops C fx Q fuel (listed.setIfInBounds i true) (a.put oi.dst v) w')→iw P md ops C fx Q (fuel+1) listed a w:=by
 have self: ∀ {fuel:Nat} {listed:Array Bool} {a:atu},apY oi (yielded ops a.tmps)=true→Oper.does P oi a w (λv w'=>(need md ops fx i=true→C w')∧iw P md ops C fx Q fuel (listed.setIfInBounds i true) (a.put oi.dst v) w')→
   AV P md ops C fx i oi (iw P md ops C fx Q fuel (listed.setIfInBounds i true)) a w:=by
  intro fuel listed a hw h;unfold AV;rw[if_pos ⟨hf,hw⟩];exact h
 intro fuel
 induction fuel with
 |zero=>
  intro listed a _ _ _ hr hw H;refine⟨λh=>(by rw[h]at hr;cases hr),λj hj oj G6=>?_⟩;by_cases ma:j=i
  ·subst ma;obtain rfl:=alN (hi.symm.trans G6);exact self hw H
  ·have:=atA hj ma;obtain⟨v,w',_,h⟩:=Oper.EG H;rw[h.1]at this;cases this
 |succ fuel ih=>
  intro listed a hI Iy Uu hr hw H;refine⟨λh=>(by rw[h]at hr;cases hr),λj hj oj G6=>?_⟩;by_cases ma:j=i
  ·subst ma;obtain rfl:=alN (hi.symm.trans G6);exact self hw H
  ·obtain⟨Fz,oj',abp,hall⟩:=att.1 hj;obtain rfl:=alN (G6.symm.trans abp);have abr: ∀e∈oj.after,atq md e=true→e.on≠i:=λe he hb heq=>by
    have h1:=hall e he hb;have h0:=(att.1 hr).1;rw[heq]at h1;rcases asV i listed.size with h'|h'
    ·simp[h']at h0 h1;rw[h0]at h1;cases h1
    ·simp[aqa h']at h1
   have hap:=Iy j oj G6 ma Fz abr;have DR:fx j=false:=by
    cases hfx:fx j with
    |false=>rfl
    |true=>
     have h1:=OZ (hI.1.reach 5 j i oj G6 hall (Uu j oj G6 ma Fz hfx));rw[(att.1 hr).1]at h1;cases h1
   obtain⟨h1,h2,h3⟩:=atV hap;have ah2:j<ops.size:=(ad3.1 G6).1;have hC:C w:=hI.2.resolve_right λh=>by rw[h j ah2 DR]at Fz;cases Fz
   have hsi:=λcs b=>HX i oi cs b hi;have hsj:=λcs b=>HX j oj cs b G6;have fl: ∀ {v w'},iw P md ops C fx Q (fuel+1) (listed.setIfInBounds i true) (a.put oi.dst v) w'→∃u,gZ P ops C oj u a∧iw P md ops C fx Q fuel ((listed.setIfInBounds i true).setIfInBounds j true) ((a.put oi.dst v).put oj.dst u) w':=by
    intro v w' h;have h4:=h.2 j (atA hj ma) oj G6;unfold AV at h4;rw[if_neg (by rintro⟨h5,_⟩;rw[DR]at h5;cases h5)]at h4;obtain⟨u,hu,hk⟩:=h4;exact⟨u,hu.at (atF oj hsj a oi.dst v h1).symm (atx oj a oi.dst v h1).symm,hk⟩
   obtain⟨v0,w0,_,h0⟩:=Oper.EG H;obtain⟨u,hu,_⟩:=fl h0;refine Cp (by rintro⟨h5,_⟩;rw[DR]at h5;cases h5) hu ?_;refine ih (listed.setIfInBounds j true) (a.put oj.dst u) (hI.float hj) ?_ ?_ (atA hr (arz ma)) ?_ ?_
   ·intro k ok hk hki GX hno;refine Iy k ok hk hki ?_ hno;by_cases hjk:j=k
    ·subst hjk;exact Fz
    ·rw[aty true hjk]at GX;exact GX
   ·intro k ok hk hki GX Xv;refine Uu k ok hk hki ?_ Xv;by_cases hjk:j=k
    ·subst hjk;exact Fz
    ·rw[aty true hjk]at GX;exact GX
   ·rw[atx oi a oj.dst u h3];exact hw
   ·refine Oper.Pe (atF oi hsi a oj.dst u h3) (I4 a oj.dst u) (Oper.kF (λv w' hk=>⟨hk.1,?_⟩) H);obtain⟨u',hu',hk'⟩:=fl hk.2;obtain rfl:=hu.one hu' hC;rw[atH _ _ ma,←atM a v u h2];exact hk'
/-! ### the lexical order-/
def XT(md:ato)(ops:Array apy)(fx:Nat→Bool)(listed:Array Bool)(i:Nat):Bool:=
 !fx i||(at0 ops.size).all λj=>j==i||listed.getD j true|| !fx j||reach md ops 5 j i
def tI(md:ato)(ops:Array apy)(fx:Nat→Bool):Nat→Nat→Array Bool→Bool
 |0,_,listed=>(asi md ops listed).isEmpty
 |fuel+1,k,listed=>(asi md ops listed).contains k&&Region.free md ops listed k&&XT md ops fx listed k&&tI md ops fx fuel (k+1) (listed.setIfInBounds k true)
def BF(md:ato)(ops:Array apy)(fx:Nat→Bool):Bool:=atT ops&&tI md ops fx ops.size 0 (aps ops.size false)
def eX(P:alu)(ops:Array apy)(C:aly→Prop)(fx:Nat→Bool)(Q:atu→aly→Prop):Nat→List apy→atu→aly→Prop
 |_,[],a,w=>Q a w
 |k,o::rest,a,w=>AV P .any ops C fx k o (eX P ops C fx Q (k+1) rest) a w
theorem rq{Q:atu→aly→Prop}(hs:atT ops=true): ∀ (l:List apy) (k:Nat) (listed:Array Bool) (a:atu) (w:aly),(∀j,l[j]? =ops[k+j]?)→
  tI .any ops fx l.length k listed=true→Inv .any ops C fx listed w→eX P ops C fx Q k l a w→iw P .any ops C fx Q l.length listed a w
 | [],_,_,_,_,_,hB,_,h=>⟨by simpa[tI]using hB,h⟩
 |o::l,k,listed,a,w,hl,hB,hI,h=>by
  have h0:ops[k]? =some o:=by simpa using(hl 0).symm
  simp only[List.length_cons,tI,anh]at hB;obtain⟨⟨⟨hr,hf⟩,Bg⟩,hB'⟩:=hB;have hl': ∀j,l[j]? =ops[k+1+j]? :=λj=>by have:=hl (j+1);simpa[Nat.add_assoc,Nat.add_comm 1 j]using this
  have sG:k∈asi .any ops listed:=by simpa using hr
  unfold eX AV at h;split at h
  ·rename_i hw;refine xx h0 hw.1 (atI hs) l.length listed a hI (atP h0 hf) ?_ sG hw.2 (Oper.kF (λv w' hk=>⟨hk.1,rq hs l (k+1) _ _ _ hl' hB' (hI.fix sG hw.1 hk.1) hk.2⟩) h);intro j oj hj hne hu DR;unfold XT at Bg;rw[hw.1,Bool.not_true,Bool.false_or,List.all_eq_true]at Bg;have:=Bg j (atX.2 (ad3.1 hj).1);simpa[hne,hu,DR]using this
  ·rename_i hf';obtain⟨v,hv,hk⟩:=h;refine xy h0 (atI hs) l.length listed a w (atP h0 hf) sG ?_ hv (rq hs l (k+1) _ _ _ hl' hB' (hI.float sG) hk)
   ·cases hfx:fx k with
    |false=>exact .inl rfl
    |true=>
     refine .inr ?_;cases Sq:apY o (yielded ops a.tmps)with
     |false=>rfl
     |true=>exact absurd ⟨hfx,Sq⟩ hf'
theorem tQ{id:Nat}{Q:atY→atu→aly→Prop}{a:atu}{w:aly}{l:List apy}(C:aly→Prop)(fx:Nat→Bool)(hm:P.follows .mixedOrders=true)(hB:BF .any l.toArray fx=true)(hC:C w.drew)
  (h:eX P l.toArray C fx (λa' w'=>Q .normal a' w') 0 l a w.drew):(apN id l.toArray true).wp P Q a w:=by
 simp only[BF,anh]at hB;have qj:Shut .any l.toArray (aps l.toArray.size false):=λi o _ h=>by simp only[al9,Array.getElem?_replicate]at h;split at h<;>cases h
 refine wp_region_any hm (gu (fx:=fx) (Q:=λa' w'=>Q .normal a' w') (λ_ _ h=>h) _ _ _ _ ⟨qj,.inl hC⟩ ?_);exact rq (C:=C) hB.1 l 0 (aps l.toArray.size false) a _ bz (by simpa using hB.2) ⟨qj,.inl hC⟩ h
/-! ### the steps-/
theorem aX{b:Bool}{p:Prop}(h:b=false)(k:b=true):p:=by rw[h]at k;cases k
section
variable{k:Nat}{o:apy}{rest:List apy}{a:atu}{w:aly}{Q:atu→aly→Prop}
theorem ak(hf:fx k=false)(ht:SY o.op=true)(hw:apY o (yielded ops a.tmps)=true)
  (h: ∀K:atu→Prop,(∀a,eX P ops C fx Q (k+1) rest a w→K a)→o.quiet P a C K):eX P ops C fx Q k (o::rest) a w:=by
 obtain⟨v,h1,h2⟩:=h (λa=>eX P ops C fx Q (k+1) rest a w) (λ_ h=>h);unfold eX AV;rw[if_neg (by rw[hf];rintro⟨h,_⟩;cases h)];exact⟨v,.inl ⟨hw,ht,h1⟩,h2⟩
def Act.got(a:atu):Option Tmp→aad
 |some d=>a.tmps.getD d undef
 |none=>undef
theorem ai(hf:fx k=true)(hw:apY o (yielded ops a.tmps)=true)
  (h: ∀Q':atY→atu→aly→Prop,(∀a' w',a'=a.put o.dst (Act.got a' o.dst)→(need .any ops fx k=true→C w')→eX P ops C fx Q (k+1) rest a' w'→Q' .normal a' w')→wpList P ops Q' [o] a w):eX P ops C fx Q k (o::rest) a w:=by
 have h1:=h (λex a' w'=>match ex with
  | .normal=>∃v,a'=a.put o.dst v∧((need .any ops fx k=true→C w')∧eX P ops C fx Q (k+1) rest (a.put o.dst v) w')
  |_=>False) (λa' w' h1 h2 h3=>⟨_,h1,h2,by rw[←h1];exact h3⟩)
 unfold wpList at h1;rw[if_pos hw]at h1;rcases h1 with h1|⟨_,_,_,h1⟩
 ·unfold eX AV;rw[if_pos ⟨hf,hw⟩];unfold Oper.does;unfold atJ at h1⊢;generalize(execOp a.eval o).run P w=r at*;cases r with
  |ok n w'=>
   cases n<;>simp only[atw,wpList]at h1⊢ <;>
    first
     |exact h1
     |exact atN h1 (λe w'' he=>by cases e<;>first|exact he|exact(by obtain⟨_,_,h⟩:=he;exact h.elim))
     |exact atU h1 (λ_ _ he=>he)
  |halt x w'=>cases x<;>simp only[atw]at h1⊢
 ·exact h1.elim
end
theorem aQ{k:Nat}{a:atu}{w:aly}{Q:atu→aly→Prop}(h:Q a w):eX P ops C fx Q k [] a w:=h
theorem aG{id:Nat}{Q:atY→atu→aly→Prop}{a:atu}{w:aly}{l:List apy}(fx:Nat→Bool)(hm:P.follows .mixedOrders=true)(hB:BF .any l.toArray fx=true)
  (h: ∀ (S:Type) (g:S→aly),Nonempty S→(∀x b o,b<w.heap.size→(g x).cell? ⟨b,o,none⟩=w.cell? ⟨b,o,none⟩)→(∀x b o,b<w.heap.size→(g x).frozen? ⟨b,o,none⟩=w.frozen? ⟨b,o,none⟩)→
   (∀x b,b<w.heap.size→(g x).heap[b]? =w.heap[b]?)→(∀w',atE w.heap.size w w'→∃x,w'=g x)→
   eX P l.toArray (λw'=>∃x,w'=g x) fx (λa' w'=>Q .normal a' w') 0 l a w.drew):(apN id l.toArray true).wp P Q a w:=by
 have h0:atE w.heap.size w w.drew:=(atb _ _).drew;have:=h {w'//atE w.heap.size w w'} (λx=>x.1) ⟨⟨_,h0⟩⟩ (λx b o hb=>x.2.cell (p:=⟨b,o,none⟩) hb) (λx b o hb=>x.2.frozen (p:=⟨b,o,none⟩) hb) (λx b hb=>x.2.block b hb) (λw' hw=>⟨⟨w',hw⟩,rfl⟩);exact tQ _ fx hm hB ⟨⟨_,h0⟩,rfl⟩ this
theorem fM{id:Nat}{Q:atY→atu→aly→Prop}{a:atu}{w:aly}{l:List apy}(D:Nat→Prop)(fx:Nat→Bool)(hm:P.follows .mixedOrders=true)(hB:BF .any l.toArray fx=true)
  (h: ∀ (S:Type) (g:S→aly),Nonempty S→(∀x b o,b<w.heap.size→¬D b→(g x).cell? ⟨b,o,none⟩=w.cell? ⟨b,o,none⟩)→
   (∀x b,b<w.heap.size→¬D b→(g x).heap[b]? =w.heap[b]?)→(∀w',af D w w'→∃x,w'=g x)→
   eX P l.toArray (λw'=>∃x,w'=g x) fx (λa' w'=>Q .normal a' w') 0 l a w.drew):(apN id l.toArray true).wp P Q a w:=by
 have h0:af D w w.drew:=(af.refl _ _).drew;have:=h {w'//af D w w'} (λx=>x.1) ⟨⟨_,h0⟩⟩ (λx b o hb hd=>atL (a:=⟨b,o,none⟩) (x.2.block b hb hd)) (λx b hb hd=>x.2.block b hb hd) (λw' hw=>⟨⟨w',hw⟩,rfl⟩);exact tQ _ fx hm hB ⟨⟨_,h0⟩,rfl⟩ this
end Go.Upr
end
section
namespace Go.Upr
open Go Go.RowKit
structure eL(P:alu)(t e:acs)(size bytes:Nat):Prop where
 slice:P.underlying t=some (.slice e)
 info: ∃i z,P.info? e=some i∧i.zero=some z∧i.size=size∧i.bytes=bytes∧z.cells.size=size
 pos:0<size
theorem eL.mk'{P:alu}{t e:acs}{size bytes:Nat}{z:aad}(h:P.underlying t=some (.slice e))(hi:(P.info? e).map (λi=>(i.zero,i.size,i.bytes))=some (some z,size,bytes))(hz:z.cells.size=size)(hp:0<size):eL P t e size bytes:=by
 obtain⟨i,h1,h2,h3,h4⟩:=info_parts hi;exact⟨h,⟨i,z,h1,h2,h3,h4,hz⟩,hp⟩
theorem vg{P:alu}{ops:Array apy}{rest:List apy}{o:apy}{a:atu}{Q:atY→atu→aly→Prop}{w0:aly}{t e:acs}{size bytes:Nat}(E:eL P t e size bytes)(hgd:o.guard=none)(s x:ang)
  (ho:o.op= .call {callee:= .builtin .append,args:= #[s,x],argTypes:= #[t,t]}) (base:Nat) (v:aad) (n:Nat) (xs:List aad) (hs:a.eval s=v) (hown:w0.ownsRow base e size v n xs)
  (c:Array aad) (hc:c.size=size) (h1: ∀u∈c.toList,u.oneCell'=true) {nb:Nat} (hx:a.eval x= .slice (some ⟨nb,0,none⟩) 1 1) (AL:w0.heap.size=nb) (hb:(n+1)*bytes≤140737488355328) (hn:n<140737488355328) (hbase:base≤w0.heap.size)
  (h: ∀g cap w',w'.ownsRow base e size (.slice (some ⟨g,0,none⟩) (n+1) cap) (n+1) (xs++c.toList)→(w0.alloc (.cells c e)).grownBy w' v.ownBlock→wpList P ops Q rest (a.put o.dst (.slice (some ⟨g,0,none⟩) (n+1) cap)) w'):wpList P ops Q (o::rest) a (w0.alloc (.cells c e)):=by
 subst AL;obtain⟨ht,⟨i,z,hi,hz,hsize,hby,hzs⟩,hsz⟩:=E;refine wpList_append_own _ hgd s x t ho base e i z size bytes ht hi hz hsize hby hzs hsz v n xs hs (hown.alloc _) ⟨w0.heap.size,0,none⟩ 1 1 c.toList hx (by simp[hc]) ?_ h1 (by unfold maxLen;omega) hb lq ?_
 ·intro j u hu;have:(⟨w0.heap.size,0,none⟩:Addr).add j=⟨w0.heap.size,j,none⟩:=by unfold aqt;split<;>simp_all
  rw[this,aqF _ w0.heap.size j c e (0,0) (atp w0 _)];simpa using hu
 ·intro v' w' h2 h3 h4;rcases h2.2 with⟨rfl,h5⟩|⟨g,cap,cur,rfl,_⟩
  ·have:=(h4.1 rfl).2;cases this
  ·exact h g cap w' h2 h3
theorem World.ownsRow.turn{D:Nat→Prop}{w w':aly}{base e sz n:Nat}{v:aad}{xs:List aad}(h:w.ownsRow base e sz v n xs)(ht:af D w w')(hd: ∀k,base≤k→¬D k):w'.ownsRow base e sz v n xs:=by
 refine⟨h.1,h.2.imp id ?_⟩;rintro⟨g,cap,cur,e1,hb,hg,rest⟩;exact⟨g,cap,cur,e1,hb,ht.kept hg (hd g hb),rest⟩
theorem nU{w w':aly}{base e sz n:Nat}{v:aad}{xs:List aad}(hg:w.grownBy w' v.ownBlock)(hown:w.ownsRow base e sz v n xs){b:Nat}{o:Obj}(hb:w.heap[b]? =some o)(hlt:b<base):w'.heap[b]? =some o:=by
 rw[hg.block b (atm hb) (λh=>by have:=(hown.lt b h.symm).1;omega)];exact hb
theorem af.append{D:Nat→Prop}{w0 w w':aly}{base e sz n:Nat}{v:aad}{xs:List aad}(h:af D w0 w)(hg:w.grownBy w' v.ownBlock)(hown:w.ownsRow base e sz v n xs)(hb:w0.heap.size≤base):af D w0 w':=
 h.grown hg λk hk=> .inl (al2 hb (hown.lt k hk).1)
theorem X1{w:aly}{o1 o2 o:Obj}{b:Nat}(h:w.heap[b]? =some o):((w.alloc o1).alloc o2).heap[b]? =some o:=by
 have:=atm h;rw[atn _ _ _ lq,atn _ _ _ this];exact h
theorem bq(w:aly)(o1 o2:Obj):((w.alloc o1).alloc o2).heap[w.heap.size]? =some o1:=(atn (w.alloc o1) o2 _ bz).trans (atp w o1)
theorem aR(w:aly)(o1 o2:Obj):((w.alloc o1).alloc o2).heap[w.heap.size+1]? =some o2:=by
 have:=atp (w.alloc o1) o2
 rwa [show(w.alloc o1).heap.size=w.heap.size+1 by simp]at this
theorem World.ownsRow.row{w:aly}{base e sz n:Nat}{v:aad}{cs:List aad}(h:w.ownsRow base e sz v n cs)(hp:Hp)(hh: ∀b,v.ownBlock=some b→hp b=w.heap[b]?):hp.row sz v n cs:=by
 refine⟨h.1,h.2.imp id ?_⟩;rintro⟨g,cap,cur,rfl,_,hg,_,_,hs,ht⟩;refine⟨g,0,cap,cur,e,(0,0),rfl,(hh g rfl).trans hg,λk hk=>?_⟩;rw[←ht,Nat.zero_add,List.getElem?_take,if_pos hk];simp
theorem rL{α:Type}{w:aly}{base e sz:Nat}{v:aad}{xs:List α}{dS:List (List aad)}{k0:Hp}{R:Hp→List aad→α→Prop}(hk:k0.In w)(h:w.ownsRow base e sz v xs.length dS.flatten)
  (hl:dS.length=xs.length) (hs: ∀c∈dS,c.length=sz) (hR: ∀k:Hp,k0.le k→∀ (i:Nat) c x,dS[i]? =some c→xs[i]? =some x→R k c x):
  ∃k:Hp,k.In w∧k0.le k∧(∀b o,k b=some o→k0 b=some o∨v.ownBlock=some b)∧k.list sz R v xs:=by
 let k:Hp:=λb=>if v.ownBlock=some b then w.heap[b]? else k0 b
 have dC:k.In w:=by
  intro b o hb;by_cases hv:v.ownBlock=some b
  ·have:k b=w.heap[b]? :=if_pos hv;rw[←this];exact hb
  ·have:k b=k0 b:=if_neg hv;exact hk b o (this▸hb)
 have hle:k0.le k:=by
  intro b o hb;by_cases hv:v.ownBlock=some b
  ·have:k b=w.heap[b]? :=if_pos hv;rw[this];exact hk b o hb
  ·have:k b=k0 b:=if_neg hv;rw[this];exact hb
 refine⟨k,dC,hle,?_,dS,hl,hs,hR k hle,World.ownsRow.row h k λb hb=>if_pos hb⟩;intro b o hb;by_cases hv:v.ownBlock=some b
 ·exact .inr hv
 ·have:k b=k0 b:=if_neg hv;exact .inl (this▸hb)
structure aw{α:Type}(w:aly)(N e sz:Nat)(R:Hp→List aad→α→Prop)(k:Hp)(v:aad)(xs:List α):Prop where
 known:k.In w
 apart: ∀b o,k b=some o→v.ownBlock≠some b
 rows: ∃dS:List (List aad),dS.length=xs.length∧(∀c∈dS,c.length=sz)∧(∀ (i:Nat) c x,dS[i]? =some c→xs[i]? =some x→R k c x)∧w.ownsRow N e sz v xs.length dS.flatten
theorem aw.nil{α:Type}{w:aly}{N e sz:Nat}{R:Hp→List aad→α→Prop}{k:Hp}(h:k.In w):aw w N e sz R k (.slice none 0 0) []:=
 ⟨h,λ_ _ _ h=>(nomatch h),[],rfl,λ_ h=>(nomatch h),λ_ _ _ h=>(nomatch h),atO _ _ _ _⟩
theorem aw.own{α:Type}{w:aly}{N e sz:Nat}{R:Hp→List aad→α→Prop}{k:Hp}{v:aad}{xs:List α}(h:aw w N e sz R k v xs): ∀b,v.ownBlock=some b→N≤b∧b<w.heap.size:=by
 obtain⟨_,_,dS,_,_,_,h4⟩:=h;exact h4.lt
theorem aw.one{α:Type}{w:aly}{N e sz:Nat}{R:Hp→List aad→α→Prop}{k:Hp}(hk:k.In w)(c:Array aad)(hc:c.size=sz){y:α}(hR:R k c.toList y)(hN:N≤w.heap.size):aw (w.alloc (.cells c e)) N e sz R k (.slice (some ⟨w.heap.size,0,none⟩) 1 1) [y]:=by
 refine⟨hk.turn ((af.refl (λ_=>False) w).alloc _) (λ_ _ _ h=>h),λb o hb h=>?_,[c.toList],rfl,?_,?_,?_⟩
 ·have:=hk.lt hb;have h2:w.heap.size=b:=alN h;omega
 ·intro d hd;rw[atQ.1 hd];simpa using hc
 ·intro i d x hd hx;cases i with
  |zero=>simp at hd hx;subst hd hx;exact hR
  |succ i=>simp at hd
 ·refine⟨by simp[hc],.inr ⟨w.heap.size,1,c,rfl,hN,atp w _,agl _,by decide,by simp[hc],?_⟩⟩;show List.take (1*sz) c.toList= [c.toList].flatten;rw[Nat.one_mul,←hc,List.take_of_length_le bz];simp
theorem aw.shape{α:Type}{w:aly}{N e sz:Nat}{R:Hp→List aad→α→Prop}{k:Hp}{v:aad}{xs:List α}(h:aw w N e sz R k v xs): ∃ad c,v= .slice ad xs.length c:=by
 obtain⟨_,_,dS,_,_,_,h4⟩:=h;rcases h4.2 with⟨rfl,h5⟩|⟨g,cap,cur,rfl,_⟩
 ·exact⟨none,0,by rw[h5]⟩
 ·exact⟨_,_,rfl⟩
theorem aw.turn{α:Type}{w w':aly}{N e sz:Nat}{R:Hp→List aad→α→Prop}{k:Hp}{v:aad}{xs:List α}{D:Nat→Prop}(h:aw w N e sz R k v xs)(ht:af D w w')(hd: ∀b,N≤b→¬D b)(hk: ∀b o,k b=some o→¬D b):aw w' N e sz R k v xs:=by
 obtain⟨h1,h2,dS,h3,h4,h5,h6⟩:=h;exact⟨h1.turn ht hk,h2,dS,h3,h4,h5,World.ownsRow.turn h6 ht hd⟩
theorem aw.wider{α:Type}{w:aly}{N e sz:Nat}{R:Hp→List aad→α→Prop}{k k':Hp}{v:aad}{xs:List α}(h:aw w N e sz R k v xs)(hR: ∀c x,R k c x→R k' c x)(hk:k'.In w)(ha: ∀b o,k' b=some o→v.ownBlock≠some b):aw w N e sz R k' v xs:=by
 obtain⟨_,_,dS,h3,h4,h5,h6⟩:=h;exact⟨hk,ha,dS,h3,h4,λi c x hc hx=>hR _ _ (h5 i c x hc hx),h6⟩
theorem aw.done{α:Type}{w:aly}{N e sz:Nat}{R:Hp→List aad→α→Prop}{k:Hp}{v:aad}{xs:List α}(h:aw w N e sz R k v xs)(hR: ∀k':Hp,k.le k'→∀c x,R k c x→R k' c x):
  ∃k':Hp,k'.In w∧k.le k'∧(∀b o,k' b=some o→k b=some o∨v.ownBlock=some b)∧k'.list sz R v xs:=by
 obtain⟨h1,_,dS,h3,h4,h5,h6⟩:=h;exact rL h1 h6 h3 h4 λk' hk i c x hc hx=>hR k' hk _ _ (h5 i c x hc hx)
theorem Hp.Cl{α:Type}(h:Hp)(sz:Nat)(R:Hp→List aad→α→Prop):h.list sz R (.slice none 0 0) []:=
 ⟨[],rfl,λ_ h=>(nomatch h),λ_ _ _ h=>(nomatch h),by simp,.inl ⟨rfl,rfl⟩⟩
theorem Hp.list.shape{α:Type}{h:Hp}{sz:Nat}{R:Hp→List aad→α→Prop}{v:aad}{xs:List α}(H:h.list sz R v xs): ∃ad c,v= .slice ad xs.length c:=by
 obtain⟨dS,_,_,_,_,h5⟩:=H;rcases h5 with⟨rfl,h6⟩|⟨g,o,cap,cur,e,fz,rfl,_⟩
 ·exact⟨al1,0,by rw[h6]⟩
 ·exact⟨_,_,rfl⟩
theorem Hp.list.block{α:Type}{h:Hp}{sz:Nat}{R:Hp→List aad→α→Prop}{g o n c:Nat}{xs:List α}(H:h.list sz R (.slice (some ⟨g,o,al1⟩) n c) xs): ∃ob,h g=some ob:=by
 obtain⟨dS,_,_,_,_,h5⟩:=H;rcases h5 with⟨h6,_⟩|⟨g',o',cap,cur,e,fz,h6,h7,_⟩
 ·cases h6
 ·injection h6 with h8
  injection h8 with h9
  injection h9 with h10
  exact⟨_,h10▸h7⟩
theorem Hp.list.cell{α:Type}{h:Hp}{sz:Nat}{R:Hp→List aad→α→Prop}{ad:Option Addr}{n c:Nat}{xs:List α}(H:h.list sz R (.slice ad n c) xs){w:aly}(hw:h.In w){i:Nat}{x:α}(hx:xs[i]? =some x):
  ∃g o cc,ad=some ⟨g,o,al1⟩∧cc.length=sz∧R h cc x∧∀j,j<sz→w.cell? ⟨g,o+(i*sz+j),al1⟩=cc[j]? :=by
 obtain⟨lu,c',hv,hat⟩:=H.at hw;obtain⟨g,o,cc,h1,h2,h3,h4⟩:=hat i x hx;injection hv with xP
 exact⟨g,o,cc,xP.trans h1,h2,h3,h4⟩
theorem af.cell{D:Nat→Prop}{w w':aly}(h:af D w w'){b o:Nat}{v:aad}(hv:w.cell? ⟨b,o,al1⟩=some v)(hd: ¬D b):w'.cell? ⟨b,o,al1⟩=some v:=
 (atL (a:=⟨b,o,al1⟩) (h.block b (World.block_lt_of_cell? w _ hv) hd)).trans hv
def Hp.or(h k:Hp):Hp:=λb=>(h b).or (k b)
theorem Hp.TC{h k:Hp}{w:aly}(a:h.In w)(b:k.In w):(h.or k).In w:=by
 intro x o e;unfold Hp.or at e;cases hx:h x with
 |some y=>rw[hx]at e;exact a x o (by rw[hx];exact e)
 |none=>rw[hx]at e;exact b x o e
theorem Hp.lW(h k:Hp):h.le (h.or k):=λx o e=>by unfold Hp.or;rw[e];rfl
theorem Hp.gR{h k:Hp}{w:aly}(a:h.In w)(b:k.In w):k.le (h.or k):=λx o e=>by
 unfold Hp.or;cases hx:h x with
 |none=>exact e
 |some y=>
  have:=(a x y hx).symm.trans (b x o e);rw[alN this];rfl
theorem Hp.nP{h k:Hp}{b:Nat}{o:Obj}(e:(h.or k) b=some o):h b=some o∨k b=some o:=by
 unfold Hp.or at e;cases hx:h b with
 |some y=>rw[hx]at e;exact .inl e
 |none=>rw[hx]at e;exact .inr e
theorem aw.join{α:Type}{w:aly}{N e sz:Nat}{R:Hp→List aad→α→Prop}{k k3:Hp}{v:aad}{xs:List α}(h:aw w N e sz R k v xs)(hk:k3.In w)(ha: ∀b o,k3 b=some o→v.ownBlock≠some b)(hR: ∀k':Hp,k.le k'→∀c x,R k c x→R k' c x):aw w N e sz R (k.or k3) v xs:=
 h.wider (hR _ (Hp.lW _ _)) (Hp.TC h.known hk) λb o e=>(Hp.nP e).elim (h.apart b o) (ha b o)
theorem di{α:Type}{P:alu}{ops:Array apy}{rest:List apy}{o:apy}{a:atu}{Q:atY→atu→aly→Prop}{w0:aly}{t e:acs}{size bytes:Nat}(E:eL P t e size bytes)(hgd:o.guard=none)(s x:ang)
  (ho:o.op= .call {callee:= .builtin .append,args:= #[s,x],argTypes:= #[t,t]}) {N:Nat} {R:Hp→List aad→α→Prop} {k:Hp} {v:aad} {xs:List α} (hm:aw w0 N e size R k v xs) (hs:a.eval s=v) (y:α)
  (c:Array aad) (hR:R k c.toList y) (hc:c.size=size) (h1: ∀u∈c.toList,u.oneCell'=true) {nb:Nat} (hx:a.eval x= .slice (some ⟨nb,0,none⟩) 1 1) (AL:w0.heap.size=nb) (hb:(xs.length+1)*bytes≤140737488355328) (hn:xs.length<140737488355328) (hbase:N≤w0.heap.size)
  (h: ∀g cap w',aw w' N e size R k (.slice (some ⟨g,0,none⟩) (xs.length+1) cap) (xs++ [y])→af (λb=>v.ownBlock=some b) w0 w'→wpList P ops Q rest (a.put o.dst (.slice (some ⟨g,0,none⟩) (xs.length+1) cap)) w'):wpList P ops Q (o::rest) a (w0.alloc (.cells c e)):=by
 subst AL;obtain⟨ht,⟨i,z,hi,hz,hsize,hby,hzs⟩,hsz⟩:=E;obtain⟨m1,m2,dS,m3,m4,m5,m6⟩:=hm;refine wpList_append_own_at _ hgd s x t ho N e i z size bytes ht hi hz hsize hby hzs hsz v xs.length _ hs (m6.alloc _) ⟨w0.heap.size,0,none⟩ 1 1 c.toList hx (by simp[hc]) ?_ h1 (by unfold maxLen;omega) hb lq ?_
 ·intro j u hu;have:(⟨w0.heap.size,0,none⟩:Addr).add j=⟨w0.heap.size,j,none⟩:=by unfold aqt;split<;>simp_all
  rw[this,aqF _ w0.heap.size j c e (0,0) (atp w0 _)];simpa using hu
 ·intro v' w' h2 h3 h4 h5;rcases h2.2 with⟨rfl,_⟩|⟨g,cap,cur,rfl,_⟩
  ·have:=(h4.1 rfl).2;cases this
  ·have hT:af (λb=>v.ownBlock=some b) w0 w':=((af.refl _ w0).alloc _).grown h3 λk hk=> .inr hk;refine h g cap w' ⟨m1.turn hT λb o hb=>m2 b o hb,λb o hb=>?_,dS++ [c.toList],by simp[m3],?_,?_,?_⟩ hT
   ·rcases h5 with h5|h5
    ·rw[h5];exact m2 b o hb
    ·rw[h5];intro he;have:=alN he;have hl:=m1.lt hb;simp at this;omega
   ·intro d hd;rcases List.mem_append.1 hd with h|h
    ·exact m4 d h
    ·rw[atQ.1 h];simpa using hc
   ·intro i d u hd hu;rcases asV i xs.length with hi|hi
    ·rw[List.getElem?_append_left aj]at hd hu;exact m5 i d u hd hu
    ·rw[List.getElem?_append_right aj]at hd hu;rw[m3]at hd;cases hj:i- xs.length with
     |zero=>
      rw[hj]at hd hu;simp at hd hu;subst hd hu;exact hR
     |succ j=>rw[hj]at hd;simp at hd
   ·rw[atB,ap2];simpa using h2
def Hp.none:Hp:=λ_=>al1
theorem Hp.Gh(w:aly):Hp.none.In w:=λ_ _ h=>by cases h
end Go.Upr
end
section
namespace Go.Proofs.YtkdljbnllgpfhaaGreat
open Go Go.RowKit Go.Upr
def lI(w:aly)(pb:Nat)(s:ByteArray)(p:Pc):Prop:=∃e,w.heap[pb]? =some (.cells #[.string s,.int .i64 p.k,.string p.t,.int .i64 p.a] e)
def bw(s:ByteArray)(p:Pc)(k:Int):Bool×Pc:=if p.k=k then(true,aT s (p.a+p.t.size))else(false,p)
def uE(s:ByteArray)(p:Pc):Prop:=p.a+p.t.size≤s.size∧(p.k≠0→0<p.t.size)
theorem fj{s:ByteArray}{a:Nat}(h:a≤s.size):uE s (aT s a):=by
 have:=LR s h;unfold aT uE;split
 ·exact⟨by show _+0≤_;omega,λh=>absurd rfl h⟩
 ·have:=Ev (s:=s) (a:=a+Df s a) aj;dsimp only;rw[extract_size _ _ _ aj];exact⟨by omega,λ_=>by omega⟩
theorem jv(s:ByteArray)(a:Nat):a≤(aT s a).a:=by
 unfold aT;split<;>exact Nat.le_add_right _ _
theorem iN{s:ByteArray}{p:Pc}{pb:Nat}{w:aly}(k:Int)(hk:p.k=k)(hw:lI w pb s p)(hp:uE s p)(hs:s.size≤maxLen):
  asP Tryz.prog 180 #[.pointer (some ⟨pb,0,none⟩),.int .i64 k] w λe w'=>e= .returned (.bool true)∧lI w' pb s (aT s (p.a+p.t.size))∧af (·=pb) w w':=by
 obtain⟨e,he⟩:=hw;replace hp:=hp.1;have hs':=hs;unfold maxLen at hs';have c0:w.cell? ⟨pb,0,none⟩=some (.string s):=(aqF w pb 0 _ e (0,0) he).trans rfl;have c1:w.cell? ⟨pb,1,none⟩=some (.int .i64 p.k):=(aqF w pb 1 _ e (0,0) he).trans rfl;have c2:w.cell? ⟨pb,2,none⟩=some (.string p.t):=(aqF w pb 2 _ e (0,0) he).trans rfl;have c3:w.cell? ⟨pb,3,none⟩=some (.int .i64 p.a):=(aqF w pb 3 _ e (0,0) he).trans rfl;subst hk;have hc: ∀w,asP Tryz.prog 124 #[.string s,.int .i64 ((p.a:Int)+(p.t.size:Int))] w λe w'=>e= .returned (aT s (p.a+p.t.size)).val∧Below w.heap.size w w':=by
  intro w;rw[←Int.natCast_add];exact aeU s (p.a+p.t.size) w hp hs
 have hlt:=(ad3.1 he).1;obtain⟨q,hq⟩: ∃q,q=aT s (p.a+p.t.size):=⟨_,rfl⟩;rw[←hq]at hc;have HQ:at3 (q=aT s (p.a+p.t.size)):=hq;clear hq;unfold Pc.val at hc;go_enter Tryz.func180,Tryz.ntmps180;go_wp2;refine aG (λi=>i==17||i==20) ar ar ?_;intro S g hS gc gf gh gb;iterate 17 (refine ak ar aC aC λK hK=>?_;go_big_quiet_op;refine hK _ ?_;clear hK K)
 refine ai ar aC λQ' hQ=>?_;go_wp2_with (go_at_call 124;refine(hc _).mono ?_;rintro e w' ⟨rfl,hb⟩);have G4:=(hb.block pb hlt).trans he;refine hQ _ _ ar (λ_=>gb _ ((Below.refl _ _).drew.trans (hb.mono bz))) ?_;clear hQ Q';iterate 2 (refine ak ar aC aC λK hK=>?_;go_big_quiet_op;refine hK _ ?_;clear hK K)
 refine ai ar aC λQ' hQ=>?_;have d1:w'.cell? ⟨pb,1,none⟩=some (.int .i64 p.k):=(aqF w' pb 1 _ e (0,0) G4).trans rfl;have d2:w'.cell? ⟨pb,2,none⟩=some (.string p.t):=(aqF w' pb 2 _ e (0,0) G4).trans rfl;have d3:w'.cell? ⟨pb,3,none⟩=some (.int .i64 p.a):=(aqF w' pb 3 _ e (0,0) G4).trans rfl;have f1:w'.frozen? ⟨pb,1,none⟩=false:=eY G4;have f2:w'.frozen? ⟨pb,2,none⟩=false:=eY G4;have f3:w'.frozen? ⟨pb,3,none⟩=false:=eY G4;go_wp2;refine hQ _ _ ar (aX ar) ?_;clear hQ Q';refine aQ ?_;go_wp2;go_ret;rw[←HQ.out];refine⟨rfl,⟨e,?_⟩,?_⟩
 ·exact cR (cR (cR G4 _) _) _
 ·have h0:af (·=pb) w w':=(af.refl _ w).drew.trans (af.ue hb).wider;exact((h0.setCell (p:=⟨pb,1,none⟩) (.inr rfl) _).setCell (p:=⟨pb,2,none⟩) (.inr rfl) _).setCell (p:=⟨pb,3,none⟩) (.inr rfl) _
theorem jA{s:ByteArray}{p:Pc}{pb:Nat}{w:aly}(k:Int)(hk: ¬p.k=k)(hw:lI w pb s p):asP Tryz.prog 180 #[.pointer (some ⟨pb,0,none⟩),.int .i64 k] w λe w'=>e= .returned (.bool false)∧w=w':=by
 obtain⟨e,he⟩:=hw;have c1:w.cell? ⟨pb,1,none⟩=some (.int .i64 p.k):=(aqF w pb 1 _ e (0,0) he).trans rfl;go_enter Tryz.func180,Tryz.ntmps180;go_wp2;go_ret;exact⟨rfl,rfl⟩
theorem eZ{s:ByteArray}{p:Pc}{k:Int}(hp:uE s p):uE s (bw s p k).2:=by
 unfold bw;split
 ·exact fj hp.1
 ·exact hp
structure Tm where
 t:ByteArray
 v:Bool
def Tm.cells(x:Tm):List Value:= [.string x.t,.bool x.v]
def cY(s:ByteArray)(p:Pc):Tm×Bool×Pc:=
 if(bw s p 4).1 then(⟨p.t,true⟩,true,(bw s p 4).2)
 else if(bw s p 2).1 then(⟨p.t,false⟩,true,(bw s p 2).2)
 else(⟨p.t,false⟩,bw s p 3)
theorem lI.alloc{w:aly}{pb:Nat}{s:ByteArray}{p:Pc}(h:lI w pb s p)(o:Obj):lI (w.alloc o) pb s p:=by
 obtain⟨e,he⟩:=h;exact⟨e,(atn w o pb (ad3.1 he).1).trans he⟩
theorem lI.set{w:aly}{pb:Nat}{s:ByteArray}{p:Pc}(h:lI w pb s p){a:Addr}(ha:pb≠a.block){x:aad}:lI (w.setCell a x) pb s p:=by
 obtain⟨e,he⟩:=h;exact⟨e,(atC w a x pb ha).trans he⟩
theorem lI.grown{w w':aly}{pb:Nat}{s:ByteArray}{p:Pc}(h:lI w pb s p){base e sz n:Nat}{v:aad}{xs:List aad}(hg:w.grownBy w' v.ownBlock)(hown:w.ownsRow base e sz v n xs)(hlt:pb<base):lI w' pb s p:=by
 obtain⟨e,he⟩:=h;exact⟨e,nU hg hown he hlt⟩
theorem lI.drew{w:aly}{pb:Nat}{s:ByteArray}{p:Pc}(h:lI w pb s p):lI w.drew pb s p:=h
theorem lI.turn{w w':aly}{pb:Nat}{s:ByteArray}{p:Pc}{D:Nat→Prop}(h:lI w pb s p)(ht:af D w w')(hd: ¬D pb):lI w' pb s p:=by
 obtain⟨e,he⟩:=h;exact⟨e,ht.kept he hd⟩
theorem lI.PN{w:aly}{pb b:Nat}{s:ByteArray}{p:Pc}(h:lI w pb s p)(hb: ¬b=pb){x y z:aad}:lI (((w.setCell ⟨b,0,none⟩ x).setCell ⟨b,1,none⟩ y).setCell ⟨b,2,none⟩ z) pb s p:=
 ((h.set (arz hb)).set (arz hb)).set (arz hb)
theorem uk{D:Nat→Prop}{w w':aly}(h:af D w w'){x y z:aad}:af D w (((w'.setCell ⟨w.heap.size,0,none⟩ x).setCell ⟨w.heap.size,1,none⟩ y).setCell ⟨w.heap.size,2,none⟩ z):=
 ((h.setCell (p:=⟨w.heap.size,0,none⟩) (.inl (agl _)) _).setCell (p:=⟨w.heap.size,1,none⟩) (.inl (agl _)) _).setCell (p:=⟨w.heap.size,2,none⟩) (.inl (agl _)) _
theorem lI.kind{w:aly}{pb:Nat}{s:ByteArray}{p:Pc}(h:lI w pb s p):w.cell? ⟨pb,1,none⟩=some (.int .i64 p.k):=by
 obtain⟨e,he⟩:=h;exact(aqF w pb 1 _ e (0,0) he).trans rfl
theorem lI.place{w:aly}{pb:Nat}{s:ByteArray}{p:Pc}(h:lI w pb s p):w.cell? ⟨pb,3,none⟩=some (.int .i64 p.a):=by
 obtain⟨e,he⟩:=h;exact(aqF w pb 3 _ e (0,0) he).trans rfl
theorem lI.lt{w:aly}{pb:Nat}{s:ByteArray}{p:Pc}(h:lI w pb s p):pb<w.heap.size:=by
 obtain⟨e,he⟩:=h;exact(ad3.1 he).1
theorem lI.text{w:aly}{pb:Nat}{s:ByteArray}{p:Pc}(h:lI w pb s p):w.cell? ⟨pb,2,none⟩=some (.string p.t):=by
 obtain⟨e,he⟩:=h;exact(aqF w pb 2 _ e (0,0) he).trans rfl
theorem ajI{s:ByteArray}{p:Pc}{pb:Nat}{w:aly}(hw:lI w pb s p)(hp:uE s p)(hs:s.size≤maxLen):
  asP Tryz.prog 242 #[.pointer (some ⟨pb,0,none⟩)] w λe w'=>e= .returned (.tuple #[.agg #[.string (cY s p).1.t,.bool (cY s p).1.v],.bool (cY s p).2.1])∧lI w' pb s (cY s p).2.2∧af (·=pb) w w':=by
 have c2:=hw.text;have hlt:=hw.lt;have HN:at3 (¬w.heap.size=pb):=by show ¬_;omega
 have fin: ∀ {w2:aly} {x y:aad} {o:Obj},lI w2 pb s (aT s (p.a+p.t.size))→af (·=pb) (w.alloc o) w2→
   lI ((w2.setCell ⟨w.heap.size,0,none⟩ x).setCell ⟨w.heap.size,1,none⟩ y) pb s (aT s (p.a+p.t.size))∧af (·=pb) w ((w2.setCell ⟨w.heap.size,0,none⟩ x).setCell ⟨w.heap.size,1,none⟩ y):=by
  intro w2 x y o h1 h2;exact⟨(h1.set (arz HN.out)).set (arz HN.out),((((af.refl _ w).alloc o).trans h2).setCell (p:=⟨w.heap.size,0,none⟩) (.inl (agl _)) _).setCell (p:=⟨w.heap.size,1,none⟩) (.inl (agl _)) _⟩
 by_cases h4:p.k=4
 ·have e1:cY s p=(⟨p.t,true⟩,true,aT s (p.a+p.t.size)):=by simp[cY,bw,h4]
  rw[e1];go_enter Tryz.func242,Tryz.ntmps242;go_wp2_with (go_at_call 180;refine(iN 4 h4 (hw.alloc _) hp hs).mono ?_;rintro e w2 ⟨rfl,zX,aF⟩;obtain⟨r0,r1,r2,r3⟩:=b9 (aF.made HN.out));refine atg (v:= .tuple #[.agg #[.string p.t,.bool true],.bool true]) (by simp[results,Tryz.results242,go_sem,r0,r1]) rfl ⟨rfl,fin zX aF⟩
 ·by_cases h2:p.k=2
  ·have e1:cY s p=(⟨p.t,false⟩,true,aT s (p.a+p.t.size)):=by simp[cY,bw,h2]
   rw[e1];go_enter Tryz.func242,Tryz.ntmps242;go_wp2_with (first|(go_at_call_of 180 (4:Int);refine(jA 4 h4 (hw.alloc _)).mono ?_;rintro e w2 ⟨rfl,rfl⟩)|(go_at_call_of 180 (2:Int);refine(iN 2 h2 (hw.alloc _) hp hs).mono ?_;rintro e w2 ⟨rfl,zX,aF⟩;obtain⟨r0,r1,r2,r3⟩:=b9 (aF.made HN.out)));refine atg (v:= .tuple #[.agg #[.string p.t,.bool false],.bool true]) (by simp[results,Tryz.results242,go_sem,r0,r1]) rfl ⟨rfl,fin zX aF⟩
  ·by_cases h3:p.k=3
   ·have e1:cY s p=(⟨p.t,false⟩,true,aT s (p.a+p.t.size)):=by simp[cY,bw,h3]
    rw[e1];go_enter Tryz.func242,Tryz.ntmps242;go_wp2_with (first|(go_at_call_of 180 (4:Int);refine(jA 4 h4 (hw.alloc _)).mono ?_;rintro e w2 ⟨rfl,rfl⟩)|(go_at_call_of 180 (2:Int);refine(jA 2 h2 (hw.alloc _)).mono ?_;rintro e w2 ⟨rfl,rfl⟩)|(go_at_call_of 180 (3:Int);refine(iN 3 h3 (hw.alloc _) hp hs).mono ?_;rintro e w2 ⟨rfl,zX,aF⟩;obtain⟨r0,r1,r2,r3⟩:=b9 (aF.made HN.out)));refine atg (v:= .tuple #[.agg #[.string p.t,.bool false],.bool true]) (by simp[results,Tryz.results242,go_sem,r0,r1]) rfl ⟨rfl,fin zX aF⟩
   ·have e1:cY s p=(⟨p.t,false⟩,false,p):=by simp[cY,bw,h2,h3,h4]
    rw[e1];go_enter Tryz.func242,Tryz.ntmps242;go_wp2_with (first|(go_at_call_of 180 (4:Int);refine(jA 4 h4 (hw.alloc _)).mono ?_;rintro e w2 ⟨rfl,rfl⟩)|(go_at_call_of 180 (2:Int);refine(jA 2 h2 (hw.alloc _)).mono ?_;rintro e w2 ⟨rfl,rfl⟩)|(go_at_call_of 180 (3:Int);refine(jA 3 h3 (hw.alloc _)).mono ?_;rintro e w2 ⟨rfl,rfl⟩));refine atg (v:= .tuple #[.agg #[.string p.t,.bool false],.bool false]) (by simp[results,Tryz.results242,go_sem]) rfl ⟨rfl,hw.alloc _,(af.refl _ _).alloc _⟩
end Go.Proofs.YtkdljbnllgpfhaaGreat
end
section
namespace Go.Proofs.YtkdljbnllgpfhaaGreat
open Go Go.RowKit Go.Upr
theorem O8:eL Tryz.prog 231 331 2 24:= .mk' Tryz.underlying231 (z:= .agg #[.string ati,.bool false]) ar rfl aI
structure qI where
 n:ByteArray
 ts:List Tm
def ack(_:Hp)(c:List aad)(x:Tm):Prop:=c=x.cells
def kQ(h:Hp)(c:List aad)(x:qI):Prop:=∃v,c= [.string x.n,v]∧h.list 2 ack v x.ts
theorem kQ.mono{h k:Hp}(e:h.le k){c:List aad}{x:qI}(H:kQ h c x):kQ k c x:=by
 obtain⟨v,h1,h2⟩:=H;exact⟨v,h1,h2.mono (h:=h) (k:=k) (λ_ _ h=>h) e⟩
def eJ(s:ByteArray):Nat→List Tm→Pc→List Tm×Bool×Pc
 |0,ts,p=>(ts,false,p)
 |n+1,ts,p=>
  if(cY s p).2.1 then
   (if(bw s (cY s p).2.2 7).1 then eJ s n (ts++ [(cY s p).1]) (bw s (cY s p).2.2 7).2
    else(ts++ [(cY s p).1],bw s (cY s p).2.2 6))
  else(ts,(cY s p).2)
def dG(s:ByteArray)(n:Nat)(p:Pc):qI×Bool×Pc:=
 if(bw s p 2).1 then
  (if(bw s (bw s p 2).2 5).1 then(⟨p.t,(eJ s n [] (bw s (bw s p 2).2 5).2).1⟩,(eJ s n [] (bw s (bw s p 2).2 5).2).2)
   else(⟨p.t,[]⟩,bw s (bw s p 2).2 5))
 else(⟨p.t,[]⟩,bw s p 2)
theorem B7{s:ByteArray}{p:Pc}(h:uE s p):uE s (cY s p).2.2∧((cY s p).2.1=true→p.a+1≤(cY s p).2.2.a):=by
 have h0:=fj h.1;have h1:=jv s (p.a+p.t.size);have h2:=h.2;unfold cY bw;by_cases a:p.k=4
 ·rw[a]at h2;simp only[a,if_true];exact⟨h0,λ_=>by have:=h2 aI;omega⟩
 ·by_cases b:p.k=2
  ·rw[b]at h2;simp[b];exact⟨h0,by have:=h2 aI;omega⟩
  ·by_cases c:p.k=3
   ·rw[c]at h2;simp[c];exact⟨h0,by have:=h2 aI;omega⟩
   ·simp[a,b,c];exact h
theorem JH{s:ByteArray}{n:Nat}{ts:List Tm}{q q2:Pc}{x:Tm}(h:(x,true,q2)=cY s q)(h7:q2.k=7):eJ s (n+1) ts q=eJ s n (ts++ [x]) (aT s (q2.a+q2.t.size)):=by
 rw[eJ,←h];simp[bw,h7]
theorem JI{s:ByteArray}{n:Nat}{ts:List Tm}{q q2:Pc}{x:Tm}(h:(x,true,q2)=cY s q)(h7: ¬q2.k=7):eJ s (n+1) ts q=(ts++ [x],bw s q2 6):=by
 rw[eJ,←h];simp[bw,h7]
theorem Md{s:ByteArray}{n:Nat}{ts:List Tm}{q q2:Pc}{x:Tm}(h:(x,false,q2)=cY s q):eJ s (n+1) ts q=(ts,false,q2):=by
 rw[eJ,←h];simp
theorem Ju{s:ByteArray}{n:Nat}{p:Pc}(h2:p.k=2)(h5:(aT s (p.a+p.t.size)).k=5):dG s n p=(⟨p.t,(eJ s n [] (aT s ((aT s (p.a+p.t.size)).a+(aT s (p.a+p.t.size)).t.size))).1⟩,(eJ s n [] (aT s ((aT s (p.a+p.t.size)).a+(aT s (p.a+p.t.size)).t.size))).2):=by
 simp[dG,bw,h2,h5]
theorem Rz{s:ByteArray}{n:Nat}{p:Pc}(h2:p.k=2)(h5: ¬(aT s (p.a+p.t.size)).k=5):dG s n p=(⟨p.t,[]⟩,false,aT s (p.a+p.t.size)):=by
 simp[dG,bw,h2,h5]
theorem RA{s:ByteArray}{n:Nat}{p:Pc}(h2: ¬p.k=2):dG s n p=(⟨p.t,[]⟩,false,p):=by
 simp[dG,bw,h2]
def Pq(w:aly)(pb:Nat)(s:ByteArray)(r:qI×Bool×Pc)(e:at1)(w':aly):Prop:=
 ∃x ad l c,e= .returned (.tuple #[.agg #[.string x,.slice ad l c],.bool r.2.1])∧lI w' pb s r.2.2∧af (·=pb) w w'∧
  (r.2.1=true→∃k:Hp,k.In w'∧(∀b o,k b=some o→w.heap.size≤b)∧kQ k [.string x,.slice ad l c] r.1)
theorem aeR{s:ByteArray}{p:Pc}{pb:Nat}{w:aly}(n:Nat)(hn:s.size+1≤n+p.a)(hw:lI w pb s p)(hp:uE s p)(hs:s.size≤1099511627776):
  asP Tryz.prog 179 #[.pointer (some ⟨pb,0,none⟩)] w (Pq w pb s (dG s n p)):=by
 have hs':s.size≤maxLen:=by unfold maxLen;omega
 have c2:=hw.text;have hlt:=hw.lt;have hD: ∀k,w.heap.size+2≤k→¬k=pb:=by intro k hk h;omega
 have HN:at3 (¬w.heap.size=pb∧¬w.heap.size+1=pb):=⟨by omega,by omega⟩;by_cases h2:p.k=2
 ·by_cases h5:(aT s (p.a+p.t.size)).k=5
  ·go_enter Tryz.func179,Tryz.ntmps179;go_wp2_with (first|(go_at_call_of 180 (2:Int);refine(iN 2 h2 ((hw.alloc _).alloc _) hp hs').mono ?_;rintro e w2 ⟨rfl,zX,aF⟩)|(go_at_call_of 180 (5:Int);refine(iN 5 h5 zX (fj hp.1) hs').mono ?_;rintro e w3 ⟨rfl,hp3,bX⟩));have hA:=bX.kept (aF.kept (bq w _ _) HN.out.1) HN.out.1;have hB:=bX.kept (aF.kept (aR w _ _) HN.out.2) HN.out.2;have hT:af (·=pb) w w3:=((((af.refl _ w).alloc _).alloc _).trans aF).trans bX;clear aF bX zX c2
   go_loopg [6] n (λgk _ wr=>∃ (ts:List Tm) (q:Pc) (v:aad),lI wr pb s q∧uE s q∧s.size+1≤gk+q.a∧ts.length≤q.a∧eJ s gk ts q=eJ s n [] (aT s ((aT s (p.a+p.t.size)).a+(aT s (p.a+p.t.size)).t.size))∧af (·=pb) w wr∧
    wr.heap[w.heap.size]? =some (.cells #[.string ati,.slice none 0 0] 233)∧wr.heap[w.heap.size+1]? =some (.cells #[.string p.t,v] 233)∧wr.ownsRow (w.heap.size+2) 331 2 v ts.length (ts.map Tm.cells).flatten)
   case atStart=>
    have h0:=fj (s:=s) hp.1;have h1:=jv s (p.a+p.t.size);have h2:=jv s ((aT s (p.a+p.t.size)).a+(aT s (p.a+p.t.size)).t.size);exact⟨[],_,_,hp3,fj h0.1,by omega,arQ _,rfl,hT,hA,hB,atO _ _ _ _⟩
   case round=>
    obtain⟨ts,q,v,hq,Ns,Py,htl,hsp,hT,hA,hB,hown⟩:=hrel;have HS:at3 (eJ s gk ts q=eJ s n [] (aT s ((aT s (p.a+p.t.size)).a+(aT s (p.a+p.t.size)).t.size))):=hsp;clear hsp hp3;obtain⟨m,rfl⟩: ∃m,gk=m+1:=⟨gk- 1,by have:=Ns.1;omega⟩;have WK:ts.length≤1099511627776:=by have:=Ns.1;omega
    have Da:=B7 Ns;have hc:=ajI hq Ns hs';obtain⟨r,hr⟩: ∃r,r=cY s q:=⟨_,rfl⟩;rw[←hr]at Da hc;have HR:at3 (r=cY s q):=hr;clear hr;obtain⟨x,ok,q2⟩:=r;cases ok
    ·go_wp2_with (go_at_call 242;refine hc.mono ?_;rintro e w2 ⟨rfl,pj,aF⟩;have hz:=atm (aF.kept hA HN.out.1);obtain⟨a0,a1,f0,f1⟩:=b9 (aF.kept hA HN.out.1));refine atg (v:= .tuple #[.agg #[.string ati,.slice none 0 0],.bool false]) (by simp[results,Tryz.results179,go_sem,a0,a1,hz];rfl) rfl ?_;rw[Ju h2 h5,←HS.out,Md HR.out];exact⟨_,_,_,_,rfl,((pj.set lq).set lq).alloc _,(((hT.trans aF).setCell (p:=⟨w.heap.size,0,none⟩) (.inl (agl _)) _).setCell (p:=⟨w.heap.size,1,none⟩) (.inl (agl _)) _).alloc _,λh=>by cases h⟩
    ·have h1:=Da.2 rfl;by_cases h7:q2.k=7
     ·go_wp2_with (first|(go_at_call 242;refine hc.mono ?_;rintro e w2 ⟨rfl,pj,aF⟩;have uD:=aF.kept hB HN.out.2;have lC:=aF.kept hA HN.out.1;have hz:=atm uD;obtain⟨b0,b1,f0,f1⟩:=b9 uD)|(at_builtin;go_loud (refine vg O8 rfl (.tmp 31) (.tmp 33) rfl (w.heap.size+2) v ts.length _ rfl ((World.ownsRow.turn hown aF hD).alloc _) #[.string x.t,.bool x.v] rfl (by simp[atv]) rfl bz aj aj lq ?_;intro g3 yj w3 N5 hg3;have hown2:=((World.ownsRow.turn hown aF hD).alloc (.cells #[.string x.t,.bool x.v] 331)).alloc (.cells #[.string x.t,.bool x.v] 331);have Bn:=nU hg3 hown2 (X1 uD) aj;have De:=nU hg3 hown2 (X1 lC) aj;obtain⟨b0',b1',f0',f1'⟩:=b9 Bn))|(go_at_call_of 180 (7:Int);refine(iN 7 h7 (lI.set ((pj.alloc _).alloc _|>.grown hg3 hown2 aj) lq) Da.1 hs').mono ?_;rintro e w4 ⟨rfl,Pv,ck⟩))
      go_roundg m
      case measure=>exact atG m
      case rel=>
       have h2:=jv s (q2.a+q2.t.size);refine⟨ts++ [x],_,.slice (some ⟨g3,0,none⟩) (ts.length+1) yj,Pv,fj Da.1.1,by omega,by rw[ap2];simp;omega,(JH HR.out h7).symm.trans HS.out,?_,?_,?_,?_⟩
       ·exact((((((hT.trans aF).alloc _).alloc _).append hg3 hown2 aj).setCell (p:=⟨w.heap.size+1,1,none⟩) (.inl (atZ _)) _)).trans ck
       ·exact ck.kept ((atC _ ⟨w.heap.size+1,1,none⟩ _ _ bz).trans De) HN.out.1
       ·exact ck.kept (cR Bn _) HN.out.2
       ·rw[ap2,atW,atB];exact World.ownsRow.turn (World.ownsRow.turn N5 ((af.refl (·=w.heap.size+1) w3).setCell (p:=⟨w.heap.size+1,1,none⟩) (.inr rfl) _) (λk hk h=>by omega)) ck hD
     ·go_wp2_with (first|(go_at_call 242;refine hc.mono ?_;rintro e w2 ⟨rfl,pj,aF⟩;have uD:=aF.kept hB HN.out.2;have lC:=aF.kept hA HN.out.1;have hz:=atm uD;obtain⟨b0,b1,f0,f1⟩:=b9 uD)|(at_builtin;go_loud (refine vg O8 rfl (.tmp 31) (.tmp 33) rfl (w.heap.size+2) v ts.length _ rfl ((World.ownsRow.turn hown aF hD).alloc _) #[.string x.t,.bool x.v] rfl (by simp[atv]) rfl bz aj aj lq ?_;intro g3 yj w3 N5 hg3;have hown2:=((World.ownsRow.turn hown aF hD).alloc (.cells #[.string x.t,.bool x.v] 331)).alloc (.cells #[.string x.t,.bool x.v] 331);have Bn:=nU hg3 hown2 (X1 uD) aj;have De:=nU hg3 hown2 (X1 lC) aj;obtain⟨b0',b1',f0',f1'⟩:=b9 Bn))|(go_at_call_of 180 (7:Int);refine(jA 7 h7 (lI.set ((pj.alloc _).alloc _|>.grown hg3 hown2 aj) lq)).mono ?_;rintro e w4 ⟨rfl,rfl⟩));have eN:af (·=pb) w (w3.setCell ⟨w.heap.size+1,1,none⟩ (.slice (some ⟨g3,0,none⟩) (ts.length+1) yj)):=((((hT.trans aF).alloc _).alloc _).append hg3 hown2 aj).setCell (p:=⟨w.heap.size+1,1,none⟩) (.inl (atZ _)) _;have GZ:lI (w3.setCell ⟨w.heap.size+1,1,none⟩ (.slice (some ⟨g3,0,none⟩) (ts.length+1) yj)) pb s q2:=lI.set ((pj.alloc _).alloc _|>.grown hg3 hown2 aj) lq;have hz3:=atm Bn;have xS:=(atC _ ⟨w.heap.size+1,1,none⟩ (.slice (some ⟨g3,0,none⟩) (ts.length+1) yj) w.heap.size bz).trans De;have aaD:(w3.setCell ⟨w.heap.size+1,1,none⟩ (.slice (some ⟨g3,0,none⟩) (ts.length+1) yj)).ownsRow (w.heap.size+2) 331 2 (.slice (some ⟨g3,0,none⟩) (ts++ [x]).length yj) (ts++ [x]).length ((ts++ [x]).map Tm.cells).flatten:=by
       rw[ap2,atW,atB];exact World.ownsRow.turn N5 ((af.refl (·=w.heap.size+1) w3).setCell (p:=⟨w.heap.size+1,1,none⟩) (.inr rfl) _) (λk hk h=>by omega)
      have fin: ∀ (w5:aly) (b:Bool) (q5:Pc),bw s q2 6=(b,q5)→lI w5 pb s q5→af (·=pb) w w5→w5.ownsRow (w.heap.size+2) 331 2 (.slice (some ⟨g3,0,none⟩) (ts++ [x]).length yj) (ts++ [x]).length ((ts++ [x]).map Tm.cells).flatten→
        Pq w pb s (dG s n p) (.returned (.tuple #[.agg #[.string p.t,.slice (some ⟨g3,0,none⟩) (ts.length+1) yj],.bool b])) w5:=by
       intro w5 b q5 h6 Xm iW D7;rw[Ju h2 h5,←HS.out,JI HR.out h7,h6];refine⟨_,_,_,_,rfl,Xm,iW,λ_=>?_⟩
       obtain⟨k,vx,_,hk3,hk4⟩:=rL (α:=Tm) (xs:=ts++ [x]) (R:=ack) (Hp.Gh w5) D7 bz (by intro c hc;obtain⟨t,_,rfl⟩:=List.mem_map.1 hc;rfl) (by
        intro k _ i c t hc ht;rw[List.getElem?_map,ht]at hc
        exact(alN hc).symm)
       refine⟨k,vx,λb' o hb=>?_,_,rfl,?_⟩
       ·rcases hk3 b' o hb with h|h
        ·cases h
        ·exact al2 aj (D7.lt b' h).1
       ·rw[ap2]at hk4;exact hk4
      clear hown hown2 N5 hg3 hT hq hB hA pj aF uD lC b0 b1 f0 f1;by_cases h6:q2.k=6
      all_goals
       have hne: ¬w.heap.size+1=pb:=HN.out.2;refine fM (·=pb) (λi=>i==2||i==3||i==4) ar ar ?_;intro S g hS gc gh gb;iterate 2 (refine ak ar aC aC λK hK=>?_;go_big_quiet_op;refine hK _ ?_;clear hK K)
       refine ai ar aC λQ' hQ=>?_
      ·go_wp2_with (go_at_call 180;refine(iN 6 h6 GZ.drew Da.1 hs').mono ?_;rintro e w5 ⟨rfl,Xm,bA⟩);have Bo:=bA.kept xS HN.out.1;have zt:=atm Bo;obtain⟨a0,a1,f0,f1⟩:=b9 Bo;have h0:af (·=pb) (w3.setCell ⟨w.heap.size+1,1,none⟩ (.slice (some ⟨g3,0,none⟩) (ts.length+1) yj)) w5:=(af.refl _ _).drew.trans bA;refine hQ _ _ ar (λ_=>gb _ h0) ?_;clear hQ Q';refine ai ar aC λQ' hQ=>?_;go_wp2;refine hQ _ _ ar (aX ar) ?_;clear hQ Q';refine ai ar aC λQ' hQ=>?_;go_wp2;refine hQ _ _ ar (aX ar) ?_;clear hQ Q';refine aQ ?_;go_wp2;refine atg (v:= .tuple #[.agg #[.string p.t,.slice (some ⟨g3,0,none⟩) (ts.length+1) yj],.bool true]) (by simp[results,Tryz.results179,go_sem,a0,a1]) rfl ?_;exact fin _ _ _ (by simp[bw,h6]) ((Xm.set lq).set lq) ((((eN.trans h0)).setCell (p:=⟨w.heap.size,0,none⟩) (.inl (agl _)) _).setCell (p:=⟨w.heap.size,1,none⟩) (.inl (agl _)) _) (atr (atr (World.ownsRow.turn aaD h0 hD) bz _) bz _)
      ·go_wp2_with (go_at_call 180;refine(jA 6 h6 GZ.drew).mono ?_;rintro e w5 ⟨rfl,rfl⟩);obtain⟨a0,a1,f0,f1⟩:=b9 xS;have zt:=atm xS;have h0:af (·=pb) (w3.setCell ⟨w.heap.size+1,1,none⟩ (.slice (some ⟨g3,0,none⟩) (ts.length+1) yj)) _:=(af.refl _ _).drew;refine hQ _ _ ar (λ_=>gb _ h0) ?_;clear hQ Q';refine ai ar aC λQ' hQ=>?_;go_wp2;refine hQ _ _ ar (aX ar) ?_;clear hQ Q';refine ai ar aC λQ' hQ=>?_;go_wp2;refine hQ _ _ ar (aX ar) ?_;clear hQ Q';refine aQ ?_;go_wp2;refine atg (v:= .tuple #[.agg #[.string p.t,.slice (some ⟨g3,0,none⟩) (ts.length+1) yj],.bool false]) (by simp[results,Tryz.results179,go_sem,a0,a1]) rfl ?_;exact fin _ _ _ (by simp[bw,h6]) ((GZ.set lq).set lq).drew ((eN.setCell (p:=⟨w.heap.size,0,none⟩) (.inl (agl _)) _).setCell (p:=⟨w.heap.size,1,none⟩) (.inl (agl _)) _).drew (atr (atr aaD bz _) bz _).drew
  ·go_enter Tryz.func179,Tryz.ntmps179;go_wp2_with (first|(go_at_call_of 180 (2:Int);refine(iN 2 h2 ((hw.alloc _).alloc _) hp hs').mono ?_;rintro e w2 ⟨rfl,zX,aF⟩;obtain⟨a0,a1,f0,f1⟩:=b9 (aF.kept (bq w _ _) HN.out.1))|(go_at_call_of 180 (5:Int);refine(jA 5 h5 zX).mono ?_;rintro e w3 ⟨rfl,rfl⟩));refine atg (v:= .tuple #[.agg #[.string ati,.slice none 0 0],.bool false]) (by simp[results,Tryz.results179,go_sem,a0,a1];rfl) rfl ?_;rw[Rz h2 h5];exact⟨_,_,_,_,rfl,(zX.set lq).set lq,(((((af.refl _ w).alloc _).alloc _).trans aF).setCell (p:=⟨w.heap.size,0,none⟩) (.inl (agl _)) _).setCell (p:=⟨w.heap.size,1,none⟩) (.inl (agl _)) _,λh=>by cases h⟩
 ·go_enter Tryz.func179,Tryz.ntmps179;go_wp2_with (go_at_call_of 180 (2:Int);refine(jA 2 h2 ((hw.alloc _).alloc _)).mono ?_;rintro e w2 ⟨rfl,rfl⟩);refine atg (v:= .tuple #[.agg #[.string ati,.slice none 0 0],.bool false]) (by simp[results,Tryz.results179,go_sem];rfl) rfl ?_;rw[RA h2];exact⟨_,_,_,_,rfl,(hw.alloc _).alloc _,((af.refl _ w).alloc _).alloc _,λh=>by cases h⟩
end Go.Proofs.YtkdljbnllgpfhaaGreat
end
section
namespace Go.Proofs.YtkdljbnllgpfhaaGreat
open Go Go.RowKit Go.Upr
theorem O9:eL Tryz.prog 234 309 3 48:= .mk' Tryz.underlying234 (z:= .agg #[.string ati,.slice none 0 0,.bool false]) ar rfl aI
structure sK where
 a:qI
 neg:Bool
def mr(h:Hp)(c:List aad)(x:sK):Prop:=∃d,kQ h d x.a∧c=d++ [.bool x.neg]
theorem mr.mono{h k:Hp}(e:h.le k){c:List aad}{x:sK}(H:mr h c x):mr k c x:=by
 obtain⟨d,h1,h2⟩:=H;exact⟨d,h1.mono e,h2⟩
theorem mr.of{h:Hp}{x y:aad}{a:qI}{b:Bool}(H:kQ h [x,y] a):mr h #[x,y,.bool b].toList ⟨a,b⟩:=⟨[x,y],H,rfl⟩
def gF(s:ByteArray)(N:Nat):Nat→List sK→Pc→List sK×Bool×Pc
 |0,ls,p=>(ls,false,p)
 |n+1,ls,p=>
  let g:=bw s p 9
  let r:=dG s N g.2
  if r.2.1 then
   (if(bw s r.2.2 7).1 then gF s N n (ls++ [⟨r.1,g.1⟩]) (bw s r.2.2 7).2 else(ls++ [⟨r.1,g.1⟩],true,r.2.2))
  else(ls,false,r.2.2)
theorem MG{s:ByteArray}{N m:Nat}{ls:List sK}{q rp:Pc}{g:Bool×Pc}{ra:qI}(h:g=bw s q 9∧(ra,true,rp)=dG s N g.2)(h7:rp.k=7):gF s N (m+1) ls q=gF s N m (ls++ [⟨ra,g.1⟩]) (aT s (rp.a+rp.t.size)):=by
 rw[gF];simp only[←h.1,←h.2];simp[bw,h7]
theorem MH{s:ByteArray}{N m:Nat}{ls:List sK}{q rp:Pc}{g:Bool×Pc}{ra:qI}(h:g=bw s q 9∧(ra,true,rp)=dG s N g.2)(h7: ¬rp.k=7):gF s N (m+1) ls q=(ls++ [⟨ra,g.1⟩],true,rp):=by
 rw[gF];simp only[←h.1,←h.2];simp[bw,h7]
theorem Q0{s:ByteArray}{N m:Nat}{ls:List sK}{q rp:Pc}{g:Bool×Pc}{ra:qI}(h:g=bw s q 9∧(ra,false,rp)=dG s N g.2):gF s N (m+1) ls q=(ls,false,rp):=by
 rw[gF];simp only[←h.1,←h.2];simp
theorem Ef{s:ByteArray}: ∀ (n:Nat) (ts:List Tm) (p:Pc),uE s p→uE s (eJ s n ts p).2.2∧p.a≤(eJ s n ts p).2.2.a:=by
 intro n
 induction n with
 |zero=>intro ts p h;exact⟨h,agl _⟩
 |succ n ih=>
  intro ts p h;have h1:=B7 h;have hm:p.a≤(cY s p).2.2.a:=by
   cases hb:(cY s p).2.1 with
   |true=>have:=h1.2 hb;omega
   |false=>
    revert hb;unfold cY bw;split<;>simp_all;split<;>simp_all;split<;>simp_all
  have tk: ∀k,uE s (bw s (cY s p).2.2 k).2∧(cY s p).2.2.a≤(bw s (cY s p).2.2 k).2.a:=by
   intro k;refine⟨eZ h1.1,?_⟩;unfold bw;split
   ·have:=jv s ((cY s p).2.2.a+(cY s p).2.2.t.size);simp only;omega
   ·exact agl _
  rw[eJ];split
  ·split
   ·have:=ih (ts++ [(cY s p).1]) _ (tk 7).1;exact⟨this.1,al2 hm (al2 (tk 7).2 this.2)⟩
   ·exact⟨(tk 6).1,al2 hm (tk 6).2⟩
  ·exact⟨h1.1,hm⟩
theorem cK{s:ByteArray}{p:Pc}(k:Int):p.a≤(bw s p k).2.a:=by
 unfold bw;split
 ·have:=jv s (p.a+p.t.size);simp only;omega
 ·exact agl _
theorem UU{s:ByteArray}{p:Pc}{k:Int}(hk:k≠0)(hp:uE s p)(h:(bw s p k).1=true):p.a+1≤(bw s p k).2.a:=by
 unfold bw at*;split at h
 ·rename_i he;rw[if_pos he];have:=jv s (p.a+p.t.size);have:=hp.2 (by rw[he];exact hk);simp only;omega
 ·cases h
theorem qz{s:ByteArray}{n:Nat}{p:Pc}(h:uE s p):uE s (dG s n p).2.2∧((dG s n p).2.1=true→p.a+1≤(dG s n p).2.2.a):=by
 unfold dG;split
 ·rename_i h2;have a1:=UU aI h h2;have a2:=eZ (k:=2) h;split
  ·have b1:=cK (s:=s) (p:=(bw s p 2).2) 5;have b2:=Ef (s:=s) n [] _ (eZ (k:=5) a2);exact⟨b2.1,λ_=>by have:=b2.2;simp only;omega⟩
  ·exact⟨eZ a2,λ_=>by have:=cK (s:=s) (p:=(bw s p 2).2) 5;simp only;omega⟩
 ·rename_i h2;exact⟨eZ h,λh3=>absurd h3 h2⟩
def Gz(w:aly)(pb:Nat)(s:ByteArray)(r:List sK×Bool×Pc)(e:at1)(w':aly):Prop:=
 ∃ad l c,e= .returned (.tuple #[.slice ad l c,.bool r.2.1])∧lI w' pb s r.2.2∧af (·=pb) w w'∧
  (r.2.1=true→∃k:Hp,k.In w'∧(∀b o,k b=some o→w.heap.size≤b)∧k.list 3 mr (.slice ad l c) r.1)
theorem acg{s:ByteArray}{p:Pc}{pb:Nat}{w:aly}(k:Int)(hw:lI w pb s p)(hp:uE s p)(hs:s.size≤maxLen):
  asP Tryz.prog 180 #[.pointer (some ⟨pb,0,none⟩),.int .i64 k] w λe w'=>e= .returned (.bool (bw s p k).1)∧lI w' pb s (bw s p k).2∧af (·=pb) w w':=by
 unfold bw;split
 ·exact iN k (by assumption) hw hp hs
 ·exact(jA k (by assumption) hw).mono λe w' ⟨h1,h2⟩=>⟨h1,h2▸hw,h2▸af.refl _ _⟩
theorem ajT{s:ByteArray}{p:Pc}{pb:Nat}{w:aly}(n N:Nat)(hN:s.size+1≤N)(hn:s.size+1≤n+p.a)(hw:lI w pb s p)(hp:uE s p)(hs:s.size≤1099511627776):
  asP Tryz.prog 181 #[.pointer (some ⟨pb,0,none⟩)] w (Gz w pb s (gF s N n [] p)):=by
 have hs':s.size≤maxLen:=by unfold maxLen;omega
 have hlt:=hw.lt;have hD: ∀k,w.heap.size≤k→¬k=pb:=by intro k hk h;omega
 go_enter Tryz.func181,Tryz.ntmps181;go_wp2
 go_loopg [4] n (λgk v wr=>∃ (ls:List sK) (q:Pc) (k:Hp),lI wr pb s q∧uE s q∧s.size+1≤gk+q.a∧ls.length≤q.a∧gF s N gk ls q=gF s N n [] p∧af (·=pb) w wr∧
  (∀b o,k b=some o→w.heap.size≤b)∧aw wr w.heap.size 309 3 mr k v ls)
 case atStart=>exact⟨[],p,Hp.none,hw,hp,hn,arQ _,rfl,af.refl _ _,λ_ _ h=>(nomatch h),.nil (Hp.Gh _)⟩
 case round=>
  obtain⟨ls,q,k,hq,Ns,Py,jy,hsp,hT,hk,hm⟩:=hrel;have HS:at3 (gF s N gk ls q=gF s N n [] p):=hsp;clear hsp;obtain⟨m,rfl⟩: ∃m,gk=m+1:=⟨gk- 1,by have:=Ns.1;omega⟩;have Hl:ls.length≤1099511627776:=by have:=Ns.1;omega
  obtain⟨g,hg⟩: ∃g,g=bw s q 9:=⟨_,rfl⟩;have hc1:=acg 9 hq Ns hs';have hg1:=eZ (k:=9) Ns;have hg2:=cK (s:=s) (p:=q) 9;rw[←hg]at hc1 hg1 hg2;obtain⟨r,hr⟩: ∃r,r=dG s N g.2:=⟨_,rfl⟩;have hr1:=qz (n:=N) hg1;have hc2:=λ{w} (h:lI w pb s g.2)=>aeR (w:=w) N aj h hg1 hs;rw[←hr]at hr1 hc2;have HG:at3 (g=bw s q 9∧r=dG s N g.2):=⟨hg,hr⟩;clear hg hr;obtain⟨ra,rok,rp⟩:=r;have Kl: ∀b o,k b=some o→¬b=pb:=λb o h=>hD b (hk b o h);have hsz:wr.heap.size≥w.heap.size:=hT.size;cases rok
  ·go_wp2_with (first|(go_at_call_of 180 (9:Int);refine hc1.mono ?_;rintro e w2 ⟨rfl,pj,aF⟩)|(go_at_call 179;refine(hc2 pj).mono ?_;rintro e w3 ⟨x,ad,l,c,rfl,GZ,bX,-⟩))
   go_ret2
   unfold Gz;rw[←HS.out,Q0 HG.out];exact⟨_,_,_,rfl,GZ.alloc _,((hT.trans aF).trans bX).alloc _,λh=>by cases h⟩
  ·have hr2:=hr1.2 rfl;have hk3: ∀ {w2 w3:aly} {k3:Hp},af (·=pb) wr w2→(∀b o,k3 b=some o→w2.heap.size≤b)→∀b o,(k.or k3) b=some o→w.heap.size≤b:=by
    intro w2 w3 k3 h2 h b o hb;have:=h2.size;rcases Hp.nP hb with h'|h'
    ·exact hk b o h'
    ·have:=h b o h';omega
   by_cases h7:rp.k=7
   ·go_wp2_with (first|(go_at_call_of 180 (9:Int);refine hc1.mono ?_;rintro e w2 ⟨rfl,pj,aF⟩)|(go_at_call 179;refine(hc2 pj).mono ?_;rintro e w3 ⟨x,ad,l,c,rfl,GZ,bX,hres⟩;obtain⟨k3,H9,H8,Xx⟩:=hres rfl;have hz2:=aF.size;have hz3:=bX.size;have rR:=(((hm.turn aF hD Kl).turn bX hD Kl).join H9 (λb o h h'=>by have:=H8 b o h;have:=(hm.own b h').2;omega) (λk' hk c x=>mr.mono hk)).turn ((af.refl (λ_=>False) w3).alloc (.cells #[.string x,.slice ad l c] 233)) (λ_ _ h=>h) (λ_ _ _ h=>h))|(at_builtin;refine di O9 rfl (.tmp 17) (.tmp 21) rfl rR rfl ⟨ra,g.1⟩ #[.string x,.slice ad l c,.bool g.1] (mr.of (Xx.mono (Hp.gR ((hm.turn aF hD Kl).turn bX hD Kl).known H9))) rfl (by simp[atv]) rfl bz aj aj lq ?_;intro g4 lK w4 lB ck;have Pv:=lI.turn (GZ.alloc _) ck (λh=>by have:=(hm.own pb h).1;omega))|(go_at_call_of 180 (7:Int);refine(iN 7 h7 Pv hr1.1 hs').mono ?_;rintro e w5 ⟨rfl,Xm,bA⟩))
    go_roundg m
    case measure=>exact atG m
    case rel=>
     have hp3:=jv s (rp.a+rp.t.size);have z7:=hk3 (w3:=w3) aF H8
     exact⟨ls++ [⟨ra,g.1⟩],_,k.or k3,Xm,fj hr1.1.1,by omega,by rw[ap2];simp;omega,(MG HG.out h7).symm.trans HS.out,
      ((((hT.trans aF).trans bX).alloc _).bL ck λb hb=> .inl (hm.own b hb).1).trans bA,z7,lB.turn bA hD λb o hb=>hD b (z7 b o hb)⟩
   ·go_wp2_with (first|(go_at_call_of 180 (9:Int);refine hc1.mono ?_;rintro e w2 ⟨rfl,pj,aF⟩)|(go_at_call 179;refine(hc2 pj).mono ?_;rintro e w3 ⟨x,ad,l,c,rfl,GZ,bX,hres⟩;obtain⟨k3,H9,H8,Xx⟩:=hres rfl;have hz2:=aF.size;have hz3:=bX.size;have rR:=(((hm.turn aF hD Kl).turn bX hD Kl).join H9 (λb o h h'=>by have:=H8 b o h;have:=(hm.own b h').2;omega) (λk' hk c x=>mr.mono hk)).turn ((af.refl (λ_=>False) w3).alloc (.cells #[.string x,.slice ad l c] 233)) (λ_ _ h=>h) (λ_ _ _ h=>h))|(at_builtin;refine di O9 rfl (.tmp 17) (.tmp 21) rfl rR rfl ⟨ra,g.1⟩ #[.string x,.slice ad l c,.bool g.1] (mr.of (Xx.mono (Hp.gR ((hm.turn aF hD Kl).turn bX hD Kl).known H9))) rfl (by simp[atv]) rfl bz aj aj lq ?_;intro g4 lK w4 lB ck;have Pv:=lI.turn (GZ.alloc _) ck (λh=>by have:=(hm.own pb h).1;omega))|(go_at_call_of 180 (7:Int);refine(jA 7 h7 Pv).mono ?_;rintro e w5 ⟨rfl,rfl⟩))
    go_ret2
    unfold Gz;rw[←HS.out,MH HG.out h7];have z7:=hk3 (w3:=w3) aF H8;refine⟨_,_,_,rfl,Pv,(((hT.trans aF).trans bX).alloc _).bL ck λb hb=> .inl (hm.own b hb).1,λ_=>?_⟩;obtain⟨k',d1,_,d3,d4⟩:=lB.done λk' hk c x=>mr.mono hk;exact⟨k',d1,λb o hb=>(d3 b o hb).elim (z7 b o) λh=>(lB.own b h).1,by simpa using d4⟩
end Go.Proofs.YtkdljbnllgpfhaaGreat
end
section
namespace Go.Proofs.YtkdljbnllgpfhaaGreat
open Go Go.RowKit Go.Upr
structure cS where
 head:qI
 body:List sK
def cW(h:Hp)(c:List aad)(x:cS):Prop:=∃d v,kQ h d x.head∧c=d++ [v]∧h.list 3 mr v x.body
theorem cW.mono{h k:Hp}(e:h.le k){c:List aad}{x:cS}(H:cW h c x):cW k c x:=by
 obtain⟨d,v,h1,h2,h3⟩:=H;exact⟨d,v,h1.mono e,h2,h3.mono (h:=h) (k:=k) (λ_ _=>mr.mono e) e⟩
def cL(s:ByteArray)(N:Nat)(p:Pc):cS×Bool×Pc:=
 let a:=dG s N p
 if a.2.1 then
  (let t:=bw s a.2.2 10
   if t.1 then(let b:=gF s N N [] t.2
    if b.2.1 then(⟨a.1,b.1⟩,bw s b.2.2 8)else(⟨a.1,[]⟩,false,b.2.2))
   else(⟨a.1,[]⟩,bw s t.2 8))
 else(⟨a.1,[]⟩,false,a.2.2)
theorem Ja{s:ByteArray}{N:Nat}: ∀ (n:Nat) (ls:List sK) (p:Pc),uE s p→uE s (gF s N n ls p).2.2:=by
 intro n
 induction n with
 |zero=>intro ls p h;exact h
 |succ n ih=>
  intro ls p h;have h1:=(qz (n:=N) (eZ (k:=9) h)).1;rw[gF];split
  ·split
   ·exact ih _ _ (eZ h1)
   ·exact h1
  ·exact h1
def qE(w:aly)(pb:Nat)(s:ByteArray)(r:cS×Bool×Pc)(e:at1)(w':aly):Prop:=
 ∃x ad l c mh l2 c2,e= .returned (.tuple #[.agg #[.string x,.slice ad l c,.slice mh l2 c2],.bool r.2.1])∧lI w' pb s r.2.2∧af (·=pb) w w'∧
  (r.2.1=true→∃k:Hp,k.In w'∧(∀b o,k b=some o→w.heap.size≤b)∧cW k [.string x,.slice ad l c,.slice mh l2 c2] r.1)
theorem Kd{s:ByteArray}{N:Nat}{p ap:Pc}{aa:qI}(h:(aa,false,ap)=dG s N p):cL s N p=(⟨aa,[]⟩,false,ap):=by
 unfold cL;rw[←h];simp
theorem GS{s:ByteArray}{N:Nat}{p ap:Pc}{aa:qI}(h:(aa,true,ap)=dG s N p)(h10: ¬ap.k=10):cL s N p=(⟨aa,[]⟩,bw s ap 8):=by
 unfold cL;rw[←h];simp[bw,h10]
theorem GU{s:ByteArray}{N:Nat}{p ap bp:Pc}{aa:qI}{bl:List sK}(h:(aa,true,ap)=dG s N p)(h10:ap.k=10)(hb:(bl,false,bp)=gF s N N [] (aT s (ap.a+ap.t.size))):cL s N p=(⟨aa,[]⟩,false,bp):=by
 unfold cL;rw[←h];simp[bw,h10,←hb]
theorem GR{s:ByteArray}{N:Nat}{p ap bp:Pc}{aa:qI}{bl:List sK}(h:(aa,true,ap)=dG s N p)(h10:ap.k=10)(hb:(bl,true,bp)=gF s N N [] (aT s (ap.a+ap.t.size))):cL s N p=(⟨aa,bl⟩,bw s bp 8):=by
 unfold cL;rw[←h];simp[bw,h10,←hb]
theorem Gd{k:Hp}{w:aly}{b:Nat}(h:k.In w)(hb: ∀c o,k c=some o→¬c=b)(x y z:aad):k.In (((w.setCell ⟨b,0,none⟩ x).setCell ⟨b,1,none⟩ y).setCell ⟨b,2,none⟩ z):=
 h.turn (D:=(·=b)) ((((af.refl (·=b) w).setCell (p:=⟨b,0,none⟩) (.inr rfl) x).setCell (p:=⟨b,1,none⟩) (.inr rfl) y).setCell (p:=⟨b,2,none⟩) (.inr rfl) z) hb
theorem akb{s:ByteArray}{p:Pc}{pb:Nat}{w:aly}(N:Nat)(hN:s.size+1≤N)(hw:lI w pb s p)(hp:uE s p)(hs:s.size≤1099511627776):
  asP Tryz.prog 125 #[.pointer (some ⟨pb,0,none⟩)] w (qE w pb s (cL s N p)):=by
 have hs':s.size≤maxLen:=by unfold maxLen;omega
 have hlt:=hw.lt;have HN:at3 (¬w.heap.size=pb):=by show ¬_;omega
 have ha1:=qz (n:=N) hp;have hc1:=λ{w} (h:lI w pb s p)=>aeR (w:=w) N aj h hp hs;obtain⟨a,ha⟩: ∃a,a=dG s N p:=⟨_,rfl⟩;rw[←ha]at ha1 hc1;have HA:at3 (a=dG s N p):=ha;clear ha;obtain⟨aa,aok,ap⟩:=a;cases aok
 ·go_enter Tryz.func125,Tryz.ntmps125;go_wp2_with (go_at_call 179;refine(hc1 (hw.alloc _)).mono ?_;rintro e w2 ⟨x,ad,l,c,rfl,pj,aF,-⟩;have lC:=aF.made HN.out;have hz:=atm lC;obtain⟨a0,a1,a2,f0,f1,f2⟩:=bI lC);refine atg (v:= .tuple #[.agg #[.string ati,.slice none 0 0,.slice none 0 0],.bool false]) (by simp[results,Tryz.results125,go_sem,a0,a1,a2,hz];rfl) rfl ?_;unfold qE;rw[Kd HA.out];exact⟨_,_,_,_,_,_,_,rfl,(pj.PN HN.out).alloc _,(uk (((af.refl _ w).alloc _).trans aF)).alloc _,λh=>by cases h⟩
 ·have akH:=ha1.2 rfl;by_cases h10:ap.k=10
  ·have hb1:=Ja (s:=s) (N:=N) N [] _ (fj ha1.1.1);have hc2:=λ{w} (h:lI w pb s (aT s (ap.a+ap.t.size)))=>ajT (w:=w) N N hN aj h (fj ha1.1.1) hs;obtain⟨b,hb⟩: ∃b,b=gF s N N [] (aT s (ap.a+ap.t.size)):=⟨_,rfl⟩;rw[←hb]at hb1 hc2;have HB:at3 (b=gF s N N [] (aT s (ap.a+ap.t.size))):=hb;clear hb;obtain⟨bl,bok,bp⟩:=b;cases bok
   ·go_enter Tryz.func125,Tryz.ntmps125;go_wp2_with (first|(go_at_call 179;refine(hc1 (hw.alloc _)).mono ?_;rintro e w2 ⟨x,ad,l,c,rfl,pj,aF,-⟩;have lC:=aF.made HN.out;have hz:=atm lC)|(go_at_call 180;refine(iN 10 h10 (pj.alloc _) ha1.1 hs').mono ?_;rintro e w3 ⟨rfl,GZ,bX⟩)|(go_at_call 181;refine(hc2 GZ).mono ?_;rintro e w4 ⟨mh,l2,c2,rfl,Pv,ck,-⟩;have xS:=ck.kept (bX.kept ((atn _ _ _ hz).trans lC) HN.out) HN.out;obtain⟨a0,a1,a2,f0,f1,f2⟩:=bI xS));refine atg (v:= .tuple #[.agg #[.string ati,.slice none 0 0,.slice none 0 0],.bool false]) (by simp[results,Tryz.results125,go_sem,a0,a1,a2];rfl) rfl ?_;unfold qE;rw[GU HA.out h10 HB.out];exact⟨_,_,_,_,_,_,_,rfl,Pv.PN HN.out,uk ((((((af.refl _ w).alloc _).trans aF).alloc _).trans bX).trans ck),λh=>by cases h⟩
   ·go_enter Tryz.func125,Tryz.ntmps125;go_wp2_with (first|(go_at_call 179;refine(hc1 (hw.alloc _)).mono ?_;rintro e w2 ⟨x,ad,l,c,rfl,pj,aF,hk2⟩;have lC:=aF.made HN.out;have hz:=atm lC)|(go_at_call 180;refine(iN 10 h10 (pj.alloc _) ha1.1 hs').mono ?_;rintro e w3 ⟨rfl,GZ,bX⟩)|(go_at_call 181;refine(hc2 GZ).mono ?_;rintro e w4 ⟨mh,l2,c2,rfl,Pv,ck,hk4⟩));have hTX:af (·=pb) w w4:=(((((af.refl _ w).alloc _).trans aF).alloc _).trans bX).trans ck;have hH:w4.heap[w2.heap.size]? =some (.cells #[.string x,.slice ad l c] 233):=ck.kept (bX.kept (atp w2 _) (by have:=pj.lt;show ¬_;omega)) (by have:=pj.lt;show ¬_;omega);have hAX:w4.heap[w.heap.size]? =some (.cells #[.string ati,.slice none 0 0,.slice none 0 0] 236):=ck.kept (bX.kept ((atn _ _ _ hz).trans lC) HN.out) HN.out;have hne: ¬w2.heap.size=pb:=by have:=pj.lt;omega
    have hlh:=atm hH;obtain⟨u0,u1,_,_⟩:=b9 hH;refine fM (·=pb) (λi=>i==4||i==5||i==6) ar ar ?_;intro S g hS gc gh gb;iterate 4 (refine ak ar aC aC λK hK=>?_;go_big_quiet_op;refine hK _ ?_;clear hK K)
    refine ai ar aC λQ' hQ=>?_;go_wp2_with (go_at_call 180;refine(acg 8 (Pv).drew hb1 hs').mono ?_;rintro e w5 ⟨rfl,Xm,bA⟩);have Bo:=bA.kept hAX HN.out;obtain⟨a0,a1,a2,f0,f1,f2⟩:=bI Bo;have h0:af (·=pb) w4 w5:=(af.refl _ _).drew.trans bA;refine hQ _ _ ar (λ_=>gb _ h0) ?_;clear hQ Q';iterate 2 (refine ai ar aC λQ' hQ=>?_;go_wp2;refine hQ _ _ ar (aX ar) ?_;clear hQ Q')
    refine aQ ?_;go_wp2;refine atg (v:= .tuple #[.agg #[.string x,.slice ad l c,.slice mh l2 c2],.bool (bw s bp 8).1]) (by simp[results,Tryz.results125,go_sem,a0,a1,a2]) rfl ?_;unfold qE;rw[GR HA.out h10 HB.out];refine⟨_,_,_,_,_,_,_,rfl,Xm.PN HN.out,uk (hTX.trans h0),λ_=>?_⟩;obtain⟨k1,m1,m2,m3⟩:=hk2 trivial;obtain⟨k2,n1,n2,n3⟩:=hk4 trivial;have hz2:=aF.size;have hz3:=bX.size;have wx:=ck.size;simp only[atS]at m2 n2 hz2 hz3 wx;have e4:=Gd (b:=w.heap.size) (n1.turn h0 λb o h=>by have:=n2 b o h;omega) λb o h=>by have:=n2 b o h;omega
    have e1:=Gd (b:=w.heap.size) (((((m1.turn ((af.refl (·=pb) w2).alloc _) λb o h=>by have:=m2 b o h;omega).turn bX λb o h=>by have:=m2 b o h;omega).turn ck λb o h=>by have:=m2 b o h;omega)).turn h0 λb o h=>by have:=m2 b o h;omega) λb o h=>by have:=m2 b o h;omega
    exact⟨k1.or k2,Hp.TC (e1 _ _ _) (e4 _ _ _),λb o h=>(Hp.nP h).elim (λh=>by have:=m2 b o h;omega) (λh=>by have:=n2 b o h;omega),_,_,m3.mono (Hp.lW _ _),rfl,n3.mono (λ_ _=>mr.mono (Hp.gR (e1 undef undef undef) (e4 undef undef undef))) (Hp.gR (e1 undef undef undef) (e4 undef undef undef))⟩
  ·go_enter Tryz.func125,Tryz.ntmps125;go_wp2_with (first|(go_at_call 179;refine(hc1 (hw.alloc _)).mono ?_;rintro e w2 ⟨x,ad,l,c,rfl,pj,aF,hk2⟩;have lC:=aF.made HN.out;have hz:=atm lC)|(go_at_call 180;refine(jA 10 h10 (pj.alloc _)).mono ?_;rintro e w3 ⟨rfl,rfl⟩));have hTX:af (·=pb) w (w2.alloc (.cells #[.string x,.slice ad l c] 233)):=(((af.refl _ w).alloc _).trans aF).alloc _;have hH:(w2.alloc (.cells #[.string x,.slice ad l c] 233)).heap[w2.heap.size]? =some (.cells #[.string x,.slice ad l c] 233):=atp w2 _;have hAX:(w2.alloc (.cells #[.string x,.slice ad l c] 233)).heap[w.heap.size]? =some (.cells #[.string ati,.slice none 0 0,.slice none 0 0] 236):=(atn _ _ _ hz).trans lC;have hne: ¬w2.heap.size=pb:=by have:=pj.lt;omega
   have hlh:=atm hH;obtain⟨u0,u1,_,_⟩:=b9 hH;refine fM (·=pb) (λi=>i==4||i==5||i==6) ar ar ?_;intro S g hS gc gh gb;iterate 4 (refine ak ar aC aC λK hK=>?_;go_big_quiet_op;refine hK _ ?_;clear hK K)
   refine ai ar aC λQ' hQ=>?_;go_wp2_with (go_at_call 180;refine(acg 8 (pj.alloc _).drew ha1.1 hs').mono ?_;rintro e w5 ⟨rfl,Xm,bA⟩);have Bo:=bA.kept hAX HN.out;obtain⟨a0,a1,a2,f0,f1,f2⟩:=bI Bo;have h0:af (·=pb) (w2.alloc (.cells #[.string x,.slice ad l c] 233)) w5:=(af.refl _ _).drew.trans bA;refine hQ _ _ ar (λ_=>gb _ h0) ?_;clear hQ Q';iterate 2 (refine ai ar aC λQ' hQ=>?_;go_wp2;refine hQ _ _ ar (aX ar) ?_;clear hQ Q')
   refine aQ ?_;go_wp2;refine atg (v:= .tuple #[.agg #[.string x,.slice ad l c,.slice none 0 0],.bool (bw s ap 8).1]) (by simp[results,Tryz.results125,go_sem,a0,a1,a2]) rfl ?_;unfold qE;rw[GS HA.out h10];refine⟨_,_,_,_,_,_,_,rfl,Xm.PN HN.out,uk (hTX.trans h0),λ_=>?_⟩;obtain⟨k1,m1,m2,m3⟩:=hk2 trivial;simp only[atS]at m2;have e1:=Gd (b:=w.heap.size) ((m1.turn ((af.refl (·=pb) w2).alloc _) λb o h=>by have:=m2 b o h;omega).turn h0 λb o h=>by have:=m2 b o h;omega) λb o h=>by have:=m2 b o h;omega
   exact⟨k1,e1 _ _ _,λb o h=>by have:=m2 b o h;omega,_,_,m3,rfl,Hp.Cl _ _ _⟩
end Go.Proofs.YtkdljbnllgpfhaaGreat
end
section
namespace Go.Proofs.YtkdljbnllgpfhaaGreat
open Go Go.RowKit Go.Upr
theorem Pa:eL Tryz.prog 88 236 3 64:= .mk' Tryz.underlying88 (z:= .agg #[.string ati,.slice none 0 0,.slice none 0 0]) ar rfl aI
theorem IL{s:ByteArray}{p:Pc}:p.a≤(cY s p).2.2.a:=by
 unfold cY;split
 ·exact cK 4
 ·split
  ·exact cK 2
  ·exact cK 3
theorem Qj{s:ByteArray}: ∀ (n:Nat) (ts:List Tm) (p:Pc),p.a≤(eJ s n ts p).2.2.a:=by
 intro n
 induction n with
 |zero=>intro ts p;exact agl _
 |succ n ih=>
  intro ts p;have h1:=IL (s:=s) (p:=p);rw[eJ];split
  ·split
   ·exact al2 h1 (al2 (cK 7) (ih _ _))
   ·exact al2 h1 (cK 6)
  ·exact h1
theorem Jv{s:ByteArray}{N:Nat}{p:Pc}:p.a≤(dG s N p).2.2.a:=by
 unfold dG;split
 ·split
  ·exact al2 (cK 2) (al2 (cK 5) (Qj _ _ _))
  ·exact al2 (cK 2) (cK 5)
 ·exact cK 2
theorem VH{s:ByteArray}{N:Nat}: ∀ (n:Nat) (ls:List sK) (p:Pc),p.a≤(gF s N n ls p).2.2.a:=by
 intro n
 induction n with
 |zero=>intro ls p;exact agl _
 |succ n ih=>
  intro ls p;have h1:p.a≤(dG s N (bw s p 9).2).2.2.a:=al2 (cK 9) Jv;rw[gF];split
  ·split
   ·exact al2 h1 (al2 (cK 7) (ih _ _))
   ·exact h1
  ·exact h1
theorem CR{s:ByteArray}{N:Nat}{p:Pc}(h:uE s p):uE s (cL s N p).2.2∧((cL s N p).2.1=true→p.a+1≤(cL s N p).2.2.a):=by
 have h1:=qz (n:=N) h;unfold cL;dsimp only;split
 ·rename_i gH;have h2:=h1.2 gH;have h3:=eZ (k:=10) h1.1;have h4:=cK (s:=s) (p:=(dG s N p).2.2) 10;split
  ·have h5:=Ja (s:=s) (N:=N) N [] _ h3;have h6:=VH (s:=s) (N:=N) N [] (bw s (dG s N p).2.2 10).2;split
   ·have h7:=cK (s:=s) (p:=(gF s N N [] (bw s (dG s N p).2.2 10).2).2.2) 8;exact⟨eZ h5,λ_=>by dsimp only;omega⟩
   ·exact⟨h5,λh=>by cases h⟩
  ·have h7:=cK (s:=s) (p:=(bw s (dG s N p).2.2 10).2) 8;exact⟨eZ h3,λ_=>by dsimp only;omega⟩
 ·exact⟨h1.1,λh=>by cases h⟩
def kq(s:ByteArray)(N:Nat):Nat→List cS→Pc→Option (List cS)×Nat
 |0,_,p=>(none,p.a)
 |n+1,cs,p=>
  if p.k=0 then(some cs,0)
  else if(cL s N p).2.1 then kq s N n (cs++ [(cL s N p).1]) (cL s N p).2.2 else(none,(cL s N p).2.2.a)
def parse(s:ByteArray):Option (List cS)×Nat:=kq s (s.size+1) (s.size+1) [] (aT s 0)
theorem Mq{s:ByteArray}{N m:Nat}{cs:List cS}{q:Pc}(h:q.k=0):kq s N (m+1) cs q=(some cs,0):=by rw[kq,if_pos h]
theorem JP{s:ByteArray}{N m:Nat}{cs:List cS}{q rp:Pc}{rc:cS}(h: ¬q.k=0)(hr:(rc,true,rp)=cL s N q):kq s N (m+1) cs q=kq s N m (cs++ [rc]) rp:=by
 rw[kq,if_neg h,←hr];simp
theorem Mr{s:ByteArray}{N m:Nat}{cs:List cS}{q rp:Pc}{rc:cS}(h: ¬q.k=0)(hr:(rc,false,rp)=cL s N q):kq s N (m+1) cs q=(none,rp.a):=by
 rw[kq,if_neg h,←hr];simp
def Cr(w:aly)(r:Option (List cS)×Nat)(e:at1)(w':aly):Prop:=
 ∃ad l c,e= .returned (.tuple #[.slice ad l c,.int .i64 r.2,.bool r.1.isSome])∧af (λ_=>False) w w'∧
  ∀cs,r.1=some cs→∃k:Hp,k.In w'∧(∀b o,k b=some o→w.heap.size≤b)∧k.list 3 cW (.slice ad l c) cs
theorem c70{s:ByteArray}{w:aly}(hs:s.size≤1099511627776):asP Tryz.prog 70 #[.string s] w (Cr w (parse s)):=by
 have hs':s.size≤maxLen:=by unfold maxLen;omega
 have hc1: ∀w,asP Tryz.prog 124 #[.string s,.int .i64 0] w λe w'=>e= .returned (.agg #[.int .i64 (aT s 0).k,.string (aT s 0).t,.int .i64 (aT s 0).a])∧Below w.heap.size w w':=λw=>aeU s 0 w (arQ _) hs';go_enter Tryz.func70,Tryz.ntmps70;go_wp2_with (go_at_call 124;refine(hc1 _).mono ?_;rintro e w2 ⟨rfl,hb⟩);have dK:af (λ_=>False) w w2:=af.ue hb;have hz:=dK.size;obtain⟨pb,G4⟩: ∃pb,pb=w2.heap.size:=⟨_,rfl⟩;have hq0:lI (w2.alloc (.cells #[.string s,.int .i64 (aT s 0).k,.string (aT s 0).t,.int .i64 (aT s 0).a] 230)) pb s (aT s 0):=⟨230,by rw[G4];exact atp w2 _⟩;have hzz:pb+1=(w2.alloc (.cells #[.string s,.int .i64 (aT s 0).k,.string (aT s 0).t,.int .i64 (aT s 0).a] 230)).heap.size:=by simp[G4]
 have bM:=dK.alloc (.cells #[.string s,.int .i64 (aT s 0).k,.string (aT s 0).t,.int .i64 (aT s 0).a] 230);have hwp:w.heap.size≤pb:=by omega
 rw[←G4]
 go_loopg [6] (s.size+1) (λgk v wr=>∃ (cs:List cS) (q:Pc) (k:Hp),lI wr pb s q∧uE s q∧s.size+1≤gk+q.a∧cs.length≤q.a∧kq s (s.size+1) gk cs q=parse s∧af (λ_=>False) w wr∧
  (∀b o,k b=some o→pb+1≤b)∧aw wr (pb+1) 236 3 cW k v cs)
 case atStart=>exact⟨[],_,Hp.none,hq0,fj (arQ _),by omega,arQ _,rfl,bM,λ_ _ h=>(nomatch h),.nil (Hp.Gh _)⟩
 case round=>
  clear hq0 hzz bM G4 dK hb;obtain⟨cs,q,k,hq,Ns,Py,jy,hsp,hT,hk,hm⟩:=hrel;have HS:at3 (kq s (s.size+1) gk cs q=parse s):=hsp;clear hsp;obtain⟨m,rfl⟩: ∃m,gk=m+1:=⟨gk- 1,by have:=Ns.1;omega⟩;have Hl:cs.length≤1099511627776:=by have:=Ns.1;omega
  have akw:=hq.kind;by_cases h0:q.k=0
  ·obtain⟨ad,c,rfl⟩:=hm.shape;go_wp2;refine atg (v:= .tuple #[.slice ad cs.length c,.int .i64 0,.bool true]) (by simp[results,Tryz.results70,go_sem]) rfl ?_;unfold Cr;rw[←HS.out,Mq h0];refine⟨_,_,_,rfl,hT,λcs' h=>?_⟩;obtain rfl:=alN h;obtain⟨k',d1,_,d3,d4⟩:=hm.done λk' hk c x=>cW.mono hk;exact⟨k',d1,λb o hb=>(d3 b o hb).elim (λh=>by have:=hk b o h;omega) λh=>by have:=(hm.own b h).1;omega,d4⟩
  ·have hc2:=akb (s.size+1) (agl _) hq Ns hs;have hr1:=CR (N:=s.size+1) Ns;obtain⟨r,hr⟩: ∃r,r=cL s (s.size+1) q:=⟨_,rfl⟩;rw[←hr]at hc2 hr1;have HR:at3 (r=cL s (s.size+1) q):=hr;clear hr;obtain⟨rc,rok,rp⟩:=r;cases rok
   ·go_wp2_with (go_at_call 125;refine hc2.mono ?_;rintro e w3 ⟨x,ad,l,c,mh,l2,c2,rfl,GZ,bX,-⟩);have Pv:=GZ.alloc (.cells #[.string x,.slice ad l c,.slice mh l2 c2] 236);have hpl:=Pv.place;have hlt:=Pv.lt;refine aG (λ_=>false) ar ar ?_;intro S g hS gc gf gh gb;have xQ: ∀x,(g x).cell? ⟨pb,3,none⟩=some (.int .i64 rp.a):=λx=>(gc x pb 3 hlt).trans hpl;iterate 6 (refine ak ar aC aC λK hK=>?_;go_big_quiet_op;refine hK _ ?_;clear hK K)
    refine aQ ?_;go_wp2;refine atg (v:= .tuple #[.slice none 0 0,.int .i64 rp.a,.bool false]) (by simp[results,Tryz.results70,go_sem]) rfl ?_;unfold Cr;rw[←HS.out,Mr h0 HR.out];exact⟨_,_,_,rfl,((hT.bL bX λb (h:b=pb)=> .inl aj).alloc _).drew,λcs' h=>by cases h⟩
   ·have hr2:=hr1.2 rfl;have Kl: ∀b o,k b=some o→¬b=pb:=λb o h=>by have:=hk b o h;omega
    go_wp2_with (first|(go_at_call 125;refine hc2.mono ?_;rintro e w3 ⟨x,ad,l,c,mh,l2,c2,rfl,GZ,bX,hres⟩;obtain⟨k3,H9,H8,Xx⟩:=hres rfl;have hz3:=bX.size;have rR:=((hm.turn bX (λb hb h=>by omega) Kl).join H9 (λb o h h'=>by have:=H8 b o h;have:=(hm.own b h').2;omega) (λk' hk c x=>cW.mono hk)).turn ((af.refl (λ_=>False) w3).alloc (.cells #[.string x,.slice ad l c,.slice mh l2 c2] 236)) (λ_ _ h=>h) (λ_ _ _ h=>h))|(at_builtin;refine di Pa rfl (.tmp 26) (.tmp 28) rfl rR rfl rc #[.string x,.slice ad l c,.slice mh l2 c2] (Xx.mono (Hp.gR (hm.turn bX (λb hb h=>by omega) Kl).known H9)) rfl (by simp[atv]) rfl bz aj aj (by have:=GZ.lt;simp;omega) ?_;intro g4 lK w4 lB ck))
    go_roundg m
    case measure=>exact atG m
    case rel=>
     have z7: ∀b o,(k.or k3) b=some o→pb+1≤b:=λb o h=>(Hp.nP h).elim (hk b o) λh=>by have:=H8 b o h;have:=hq.lt;omega
     exact⟨cs++ [rc],rp,k.or k3,(GZ.alloc _).turn ck (λh=>by have:=(hm.own pb h).1;omega),hr1.1,by omega,by rw[ap2];simp;omega,(JP h0 HR.out).symm.trans HS.out,
      ((hT.bL bX λb (h:b=pb)=> .inl aj).alloc _).bL ck (λb hb=> .inl (by have:=(hm.own b hb).1;omega)),z7,lB⟩
end Go.Proofs.YtkdljbnllgpfhaaGreat
end
