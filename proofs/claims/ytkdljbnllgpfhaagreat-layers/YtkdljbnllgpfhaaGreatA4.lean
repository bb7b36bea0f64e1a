import Derived.Test.YtkdljbnllgpfhaaGreatA3
import Derived.Test.YtkdljbnllgpfhaaGreatChecked
import Derived.Conc.WgGenN3
import Derived.Conc.CrowdRun
set_option maxRecDepth 100000
set_option maxHeartbeats 8000000
open Go.Conc renaming stepG_region_end→apQ,stepG_seq→apU,mem_ofEvents→aqO,stepG_skip→aqQ,stepG_ret'→aqR,stepG_region→apR,stepG_markAt→aqU,stepG_mark0→aqW,again_running→aqY,stepG_load_atomic→aqZ,stepG_block→aqE,goes_go→aq5,getElem?_append_cases→aq6,Deaf_other→ara,Deaf→arf,stepG_inBlock→arh,stepG_inLoop→ari
open Go renaming Goroutine→aqi,World→aly,Frame→aoz,Program→alu,Value→aad,FuncId→alB,TypeId→acs,Event→amp,Trace→ap8
open Go.MemOp renaming ofEvents→ap6
open Go.Conc.Goes renaming rely→aqM,stop→aqN,running→aqP
open Option.some renaming injEq→apx
open Go.MemAct renaming ofEvent→apS,touch?→apZ
open Go.Frame renaming enter→ao7
open Option renaming map_eq_some_iff→ant,getD_some→aqT
open Go.Op renaming operands→anc
open Go.ConcN renaming Mode→aqS,Vc→aq0
open Array renaming getElem?_eq_some_iff→ad3,getElem?_push→alD,mem_append→aoi
open Go.Act renaming eval→aqV
open Nat renaming le_of_eq→aqX
open Prod.mk renaming injEq→ae
open Go.Goroutine renaming again→aq1
open Go.ConcR renaming Payload→aq2,loc_of_ofEvent→ark,again_blocked→arl
open Go.Code renaming region→apN
open Go.IntKind renaming wrap_u64→aq3,wrap_i32→aq4,u64→aq8,i32→aq9
open Go.Trace renaming g?→aq7
open Go.Conc.Lib renaming WgLink→arb,WgLib→arc
open Go.Extern.Race renaming none_→ard
open Classical renaming em→arj
namespace Go.Proofs.YtkdljbnllgpfhaaGreat
open Go.Upr Go.Conc
section
variable{mb:Bool}{F:alB→Bool}{Stop:bF→aoz→List aoz→Prop}{e s:Nat→Option Obj}{c:aoz}{cs:List aoz}
abbrev D2:List Item:= [.code O0,.inLoop aaw,.inBlock 0,.code aa8]
inductive tq(F:alB→Bool)(kk:Nat)(e s:Nat→Option Obj)(c:aoz)(cs:List aoz):List aad→bF→aoz→List aoz→Prop
 |mk (xs:List dU) (f:Ren) (u:aly) (s0 s' a1 a4 a6 a7 a8 a9 Bq DZ a12 tY:aad) (hn:xs.length≤1099511627776) (hG:wH u s0 xs) (hr:aA F f s0 s'):
  tq F kk e s c cs (xs.map dU.val) ⟨some (f,u),e,s⟩ ((base 155).at ⟨#[.chan (some kk),a1,.slice none 0 0,s',a4,.chan (some kk),a6,a7,a8,a9,Bq,DZ,a12,tY],[]⟩ (.inRegion lZ [0,1]::D2)) (c::cs)
theorem El{kk:Nat}{ys:List aad}{r:bF}{fr:aoz}{cs':List aoz}(h:tq F kk e s c cs ys r fr cs')(w:aly):stepG Tryz.prog mb (G fr cs') w= .comm (G fr cs') #[rcase kk FJ] true (.recv true) w #[]:=by
 cases h with
 |mk xs f u s0 s' a1 a4 a6 a7 a8 a9 Bq DZ a12 tY hn hG hr=>exact Z7 rfl w
theorem yL:qX Tryz.prog 93=true:=by decide+kernel
theorem xL:qU[3].op.operands= #[.tmp 9,.tmp 11]:=by kernel_rfl
theorem QJ:qd Tryz.prog F qU[3].op=true:=by
 unfold qd;rw[xL];simp[bP,iU,yL]
theorem I0(H:Held Tryz.prog F){kk:Nat}{ys:List aad}{r:bF}{fr:aoz}{cs':List aoz}{x:aad}(h:tq F kk e s c cs ys r fr cs')(hx:D_ ys.length x):
  aK Tryz.prog mb F (tq F kk e s c cs (ys++ [x])) r (fr.finish (.tuple #[x,.bool true])) cs':=by
 cases h with
 |mk xs f u s0 s' a1 a4 a6 a7 a8 a9 Bq DZ a12 tY hn hG hr=>
 obtain⟨hlt,x,rfl⟩:=hx;rw[List.length_map]at hlt;have FH:((base 155).at ⟨#[.chan (some kk),a1,.slice none 0 0,s',a4,.chan (some kk),a6,a7,a8,a9,Bq,DZ,a12,tY],[]⟩ (.inRegion lZ [0,1]::D2)).finish (.tuple #[x.val,.bool true])=
   (base 155).at ⟨#[.chan (some kk),a1,.slice none 0 0,s',a4,.chan (some kk),.tuple #[x.val,.bool true],a7,a8,a9,Bq,DZ,a12,tY],[]⟩ (.inRegion lZ [1]::D2):=rfl
 rw[FH];refine aK.pure (.bool true) rfl rfl (base_kind _) (λw=>by simp[go_sem]) (λw=>by simp[go_sem]) ?_;walk_nrm;refine aK.ctl (λw=>apQ) ?_;refine aK.ctl (λw=>apU) ?_;refine aK.ctl (λw=>stepG_cond (t:=true) rfl) ?_;simp only[if_true];refine aK.ctl (λw=>aqQ) ?_;refine aK.ctl (λw=>aqE) ?_;refine aK.ctl (λw=>apU) ?_;refine aK.ctl (λw=>apR) ?_;refine aK.pure x.val rfl rfl (base_kind _) (λw=>by simp[go_sem]) (λw=>by simp[go_sem]) ?_;walk_nrm;refine aK.ghost (o:=t_[1]) H rfl rfl (base_kind _) (by simp[qd,anc,Ot]) (ρ:=λ_=>undef)
  (Q:=λv u1=>v= .pointer (some ⟨u.heap.size,0,none⟩)∧u1.heap=u.heap.push (.cells #[.string ⟨#[]⟩,.int .u64 0,.int .u64 0,.int .u64 0,.bool false] 156)) ?_ (λT=>⟨_,_,_,MR _ (ax u T),.inl rfl,rfl,rfl⟩) ?_
 ·intro y hy;simp[anc]at hy
 rintro f1 v v1 u1 H4 xP ⟨rfl,Ss⟩;walk_nrm;have hb1: ∀T,(ax u1 T).heap[u.heap.size]? =some (.cells #[.string ⟨#[]⟩,.int .u64 0,.int .u64 0,.int .u64 0,.bool false] 156 (0,0)):=by
  intro T;show u1.heap[u.heap.size]? =_;rw[Ss];simp
 refine aK.ghost (o:=t_[2]) H rfl rfl (base_kind _) (by simp[qd,anc,bP]) (ρ:=λ| .tmp 4=> .pointer (some ⟨u.heap.size,0,none⟩)| .tmp 8=>x.val|_=>undef)
  (Q:=λ_ u2=>u2.heap=(u.heap.push (.cells #[.string ⟨#[]⟩,.int .u64 0,.int .u64 0,.int .u64 0,.bool false] 156)).setIfInBounds u.heap.size (.cells #[.string x.nm,.int .u64 x.p,.int .u64 x.q,.int .u64 x.r,.bool x.g] 156 (0,0))) ?_ (λT=>?_) ?_
 ·intro y hy;simp[anc]at hy;rcases hy with rfl|rfl
  ·exact xP
  ·exact x.rel
 ·obtain⟨w1,h1,h2⟩:=MO (λ| .tmp 4=> .pointer (some ⟨u.heap.size,0,none⟩)| .tmp 8=>x.val|_=>undef) (ax u1 T) u.heap.size x.nm x.p x.q x.r x.g _ _ _ _ _ (hb1 T) rfl rfl;exact⟨_,undef,w1,h1,.inr ⟨rfl,rfl⟩,by rw[h2];show u1.heap.setIfInBounds _ _=_;rw[Ss]⟩
 rintro f2 _ _ u2 cC _ KB;walk_nrm;have hg2:Grown u u2:=by
  intro b' o' hb';have:=(ad3.1 hb').1;rw[KB,Array.getElem?_setIfInBounds_ne aj,alD,if_neg aj];exact hb'
 have hb2:u2.heap[u.heap.size]? =some (.cells #[.string x.nm,.int .u64 x.p,.int .u64 x.q,.int .u64 x.r,.bool x.g] 156 (0,0)):=by
  rw[KB,Array.getElem?_setIfInBounds_self_of_lt bz]
 refine aK.ctl (λw=>apQ) ?_;refine aK.ctl (λw=>apR) ?_;refine aK.pure s' rfl rfl (base_kind _) (λw=>by simp[go_sem]) (λw=>by simp[go_sem]) ?_;walk_nrm;refine aK.ghost (o:=qU[1]) H rfl rfl (base_kind _) (by simp[qd,anc,bP]) (ρ:=λ| .tmp 4=> .pointer (some ⟨u.heap.size,0,none⟩)|_=>undef)
  (Q:=λv u3=>v=x.val∧u3.heap=u2.heap) ?_ (λT=>⟨_,x.val,ax u2 T,Q4 _ _ _ _ _ _ _ _ hb2 rfl,.inl rfl,rfl,rfl⟩) ?_
 ·intro y hy;simp[anc]at hy;subst hy;exact xP.mono cC
 rintro f3 v v3 u3 eQ hv3 ⟨rfl,Sr⟩;have e3:=dU.lN hv3;subst e3;walk_nrm;refine aK.ghost (o:=qU[2]) H rfl rfl (base_kind _) (by simp[qd,anc,bP,yL]) (ρ:=λ| .tmp 10=>x.val|_=>undef)
  (Q:=λv u4=>v= .slice (some ⟨u3.heap.size,0,none⟩) 1 1∧u4.heap=u3.heap.push (.cells x.cells.toArray 156)) ?_ (λT=>⟨_,_,_,Q5 _ (ax u3 T) x rfl,.inl rfl,rfl,rfl⟩) ?_
 ·intro y hy;simp[anc]at hy;subst hy;exact x.rel
 rintro f4 v v4 u4 mP hv4 ⟨rfl,hu4⟩;walk_nrm;have hg4:Grown u u4:=by
  intro b' o' hb';have h3:u3.heap[b']? =some o':=by rw[Sr];exact hg2 b' o' hb'
  have:=(ad3.1 h3).1;rw[hu4,alD,if_neg aj];exact h3
 have hG4:=hG.keep hg4;have hb4:u4.heap[u3.heap.size]? =some (.cells x.cells.toArray 156 (0,0)):=by rw[hu4];simp
 have hle:f.le f4:=Ren.le_trans H4 (Ren.le_trans cC (Ren.le_trans eQ mP));refine aK.ghost (o:=qU[3]) H rfl rfl (base_kind _) QJ (ρ:=λ| .tmp 9=>s0| .tmp 11=> .slice (some ⟨u3.heap.size,0,none⟩) 1 1|_=>undef)
  (Q:=λv u5=>wH u5 v (xs++ [x])) ?_ (λT=>?_) ?_
 ·intro y hy;rw[xL]at hy;simp at hy;rcases hy with rfl|rfl
  ·exact hr.mono hle
  ·exact hv4
 ·obtain⟨v',w',h1,h2⟩:=MQ (λ| .tmp 9=>s0| .tmp 11=> .slice (some ⟨u3.heap.size,0,none⟩) 1 1|_=>undef) (ax u4 T) s0 xs x u3.heap.size hG4 hlt hb4 rfl rfl;exact⟨_,v',w',h1,.inl rfl,h2⟩
 rintro f5 v5 v5' u5 pO RQ Fj;walk_nrm;refine aK.pure v5' rfl rfl (base_kind _) (λw=>by simp[go_sem]) (λw=>by simp[go_sem]) ?_;walk_nrm;refine aK.ctl (λw=>apQ) ?_;refine aK.ctl (λw=>arh) ?_;refine aK.ctl (λw=>ari) ?_;refine aK.ctl (λw=>apU) ?_;refine aK.ctl (λw=>apR) ?_;have el:xs.map dU.val++ [x.val]=(xs++ [x]).map dU.val:=by simp
 rw[el];exact .stop (.mk (xs++ [x]) f5 u5 v5 v5' _ _ _ _ _ _ _ _ _ _ lq Fj RQ)
theorem I1{r':bF}{kk:Nat}{s' a1 a4 a6 a7 a8 a9 Bq DZ a12 tY:aad}(h:aK Tryz.prog mb F Stop r' (c.finish s') cs):
  aK Tryz.prog mb F Stop r' (((base 155).at ⟨#[.chan (some kk),a1,.slice none 0 0,s',a4,.chan (some kk),a6,a7,a8,a9,Bq,DZ,a12,tY],[]⟩ (.inRegion lZ [0,1]::D2)).finish (.tuple #[FJ,.bool false])) (c::cs):=by
 have FH:((base 155).at ⟨#[.chan (some kk),a1,.slice none 0 0,s',a4,.chan (some kk),a6,a7,a8,a9,Bq,DZ,a12,tY],[]⟩ (.inRegion lZ [0,1]::D2)).finish (.tuple #[FJ,.bool false])=
   (base 155).at ⟨#[.chan (some kk),a1,.slice none 0 0,s',a4,.chan (some kk),.tuple #[FJ,.bool false],a7,a8,a9,Bq,DZ,a12,tY],[]⟩ (.inRegion lZ [1]::D2):=rfl
 rw[FH];refine aK.pure (.bool false) rfl rfl (base_kind _) (λw=>by simp[go_sem]) (λw=>by simp[go_sem]) ?_;walk_nrm;refine aK.ctl (λw=>apQ) ?_;refine aK.ctl (λw=>apU) ?_;refine aK.ctl (λw=>stepG_cond (t:=false) rfl) ?_;simp only[Bool.false_eq_true,if_false];refine aK.ctl (λw=>stepG_exit (k':= [.code aa8]) rfl) ?_;refine aK.ctl (λw=>apU) ?_;refine aK.ctl (λw=>apR) ?_;refine aK.pure s' rfl rfl (base_kind _) (λw=>by simp[go_sem]) (λw=>by simp[go_sem]) ?_;walk_nrm;refine aK.pure s' rfl rfl (base_kind _) (λw=>by simp[go_sem]) (λw=>by simp[go_sem]) ?_;walk_nrm;refine aK.ctl (λw=>apQ) ?_;refine aK.ctl (λw=>aqR) ?_;exact aK.ctl (λw=>stepG_leave rfl rfl Tryz.func155 (by simp[go_sem,results]) (by simp[go_sem,results])) h
end
section
variable{mb:Bool}{F:alB→Bool}{Stop:bF→aoz→List aoz→Prop}{e s:Nat→Option Obj}{c:aoz}{cs:List aoz}
theorem CB{kk:Nat}{f:Ren}{u:aly}:aK Tryz.prog mb F (tq F kk e s c cs []) ⟨some (f,u),e,s⟩ (ao7 Tryz.prog 155 #[.chan (some kk)] .normal) (c::cs):=by
 have e1:ao7 Tryz.prog 155 #[.chan (some kk)] .normal=(base 155).at ⟨#[.chan (some kk),undef,undef,undef,undef,undef,undef,undef,undef,undef,undef,undef,undef,undef],[]⟩ [.code ((apN 0 afU false).seq ((apN 1 afC false).seq (((apN 2 afB false).seq (Code.block 0 aaw.loop)).seq aa8)))]:=by
  unfold ao7;rw[Tryz.func155];rfl
 rw[e1];refine aK.ctl (λw=>apU) ?_;refine aK.ctl (λw=>apR) ?_;refine aK.pure (.slice none 0 0) rfl rfl (base_kind _) (λw=>by simp[go_sem]) (λw=>by simp[go_sem]) ?_;walk_nrm;refine aK.ctl (λw=>apQ) ?_;refine aK.ctl (λw=>apU) ?_;refine aK.ctl (λw=>apR) ?_;refine aK.pure (.slice none 0 0) rfl rfl (base_kind _) (λw=>by simp[go_sem]) (λw=>by simp[go_sem]) ?_;walk_nrm;refine aK.ctl (λw=>apQ) ?_;refine aK.ctl (λw=>apU) ?_;refine aK.ctl (λw=>apU) ?_;refine aK.ctl (λw=>apR) ?_;refine aK.pure (.chan (some kk)) rfl rfl (base_kind _) (λw=>by simp[go_sem]) (λw=>by simp[go_sem]) ?_;walk_nrm;refine aK.ctl (λw=>apQ) ?_;refine aK.ctl (λw=>aqE) ?_;refine aK.ctl (λw=>stepG_loop) ?_;refine aK.ctl (λw=>apU) ?_;refine aK.ctl (λw=>apR) ?_;exact .stop (.mk [] f u (.slice none 0 0) (.slice none 0 0) _ _ _ _ _ _ _ _ _ _ (Nat.zero_le _) (.inl ⟨rfl,rfl⟩) (.Kw 0 0))
def PH(f:Ren)(v:aly):Prop:=∀a x,f a=some x→a<v.heap.size
theorem I2{kk:Nat}{ys:List aad}{r:bF}{fr:aoz}{cs':List aoz}(h:tq F kk e s c cs ys r fr cs'){f:Ren}{v:aly}(hd:PH f v)
  (hs: ∀ (f':Ren) (v1:aly) (s0 s':aad) (xs:List dU),ys=xs.map dU.val→xs.length≤1099511627776→f.le f'→Grown v v1→PH f' v1→wH v1 s0 xs→aA F f' s0 s'→(∀ad n cp,s0= .slice (some ad) n cp→v.heap.size≤ad.block)→aK Tryz.prog mb F Stop ⟨some (f',v1),e,s⟩ (c.finish s') cs):
  ∃r',A8 Tryz.prog F r f v r'∧aK Tryz.prog mb F Stop r' (fr.finish (.tuple #[FJ,.bool false])) cs':=by
 cases h with
 |mk xs g u s0 s' a1 a4 a6 a7 a8 a9 Bq DZ a12 tY hn hG hr=>
 rcases hG with⟨rfl,rfl⟩|⟨a,cap,cur,rfl,ha,uN,hcm,hcs,nD,IA⟩
 ·cases hr
  refine⟨⟨some (f,v),e,s⟩,⟨λw hw hf hno=>⟨λf' v' he=>?_,hw.e,hw.s,λf' v' he y x hx=>?_,hw.alone⟩,λb hb=>?_,λ_ _ h=>h⟩,
   I1 (hs f v (.slice none 0 0) (.slice none 0 0) [] rfl hn (Ren.le_refl f) (λ_ _ h=>h) hd (.inl ⟨rfl,rfl⟩) (.Kw 0 0) (λ_ _ _ h=>by cases h))⟩
  ·simp only[apx,ae]at he;obtain⟨rfl,rfl⟩:=he;exact hf
  ·simp only[apx,ae]at he;obtain⟨rfl,rfl⟩:=he;have hn:=hno y x hx;refine⟨?_,?_⟩
   ·cases he:e x with
    |none=>exact he
    |some o=>exact absurd (.inl (.inl (by rw[show(⟨some (g,u),e,s⟩:bF).e x=some o from he];simp))) hn
   ·cases hs:s x with
    |none=>exact hs
    |some o=>exact absurd (.inr (by rw[show(⟨some (g,u),e,s⟩:bF).s x=some o from hs];simp)) hn
  ·rcases hb with hb|⟨f',v',y,he,hy⟩
   ·exact .inl (.inl hb)
   ·simp only[apx,ae]at he;obtain⟨rfl,rfl⟩:=he;exact .inr ⟨y,hy⟩
 ·cases hr with
  |sl n c' Py=>
  rename_i b;dsimp only at Py;have lt:f v.heap.size=none:=by
   cases hf:f v.heap.size with
   |none=>rfl
   |some x=>exact absurd (hd _ _ hf) (Nat.lt_irrefl _)
  have hle:f.le (f.put v.heap.size b):=λy x hx=>by
   show(if y=v.heap.size then _ else _)=_
   rw[if_neg (λe=>by rw[e,lt]at hx;cases hx)];exact hx
  refine⟨_,UT Py ha IA (v:=v) (v1:={v with heap:=v.heap.push (.cells cur 156 (0,0))}) rfl,I1 (hs _ _ (.slice (some ⟨v.heap.size,0,none⟩) xs.length cap) _ xs rfl hn hle ?_ ?_ ?_ ?_ (λ_ _ _ h=>by cases h;exact Nat.le_refl _))⟩
  ·intro y o hy;have:=(ad3.1 hy).1;show(v.heap.push _)[y]? =_
   rw[alD,if_neg aj];exact hy
  ·intro y x hx;show y<(v.heap.push _).size;rw[Array.size_push];by_cases hy:y=v.heap.size
   ·omega
   ·have:f.put v.heap.size b y=f y:=if_neg hy;rw[this]at hx;have:=hd y x hx;omega
  ·exact .inr ⟨v.heap.size,cap,cur,rfl,by show(v.heap.push _)[v.heap.size]? =_;simp,uN,hcm,hcs,nD,IA⟩
  ·exact .sl (a:=⟨v.heap.size,0,none⟩) _ _ (by show(if v.heap.size=v.heap.size then _ else _)=_;rw[if_pos rfl])
end
end Go.Proofs.YtkdljbnllgpfhaaGreat
namespace Go.Proofs.YtkdljbnllgpfhaaGreat
abbrev Ln:arb:={add:=149,done:=151,wait:=156,relMerge:=201,disable:=202,enable:=203,inBubble:=204,associate:=205,fatal:=206,uOr:=207,uAdd:=208,raceRead:=209,uLoad:=210,uStore:=211,disassociate:=212,semrelease:=213,acquire:=214,isAssociated:=215,uCas:=216,raceWrite:=217,semacquire:=218,orU64:=255,addU64:=256,loadU64:=257,storeU64:=258,casU64:=259,tWgP:=341,tUP:=343,tAssoc:=344,tWg:=272,tAU:=269,tU64:=110,tUint:=262,tU32:=270,tPU32:=348,tPAU:=390,tPU64:=392,tNoCopy:=265,tANoCopy:=266,tAlign64:=267}
theorem NQ:arc Tryz.prog Ln:=
 ⟨Tryz.func149,Tryz.func151,Tryz.func156,Tryz.func201,Tryz.func202,Tryz.func203,Tryz.func204,Tryz.func205,Tryz.func206,Tryz.func207,Tryz.func208,Tryz.func209,Tryz.func210,Tryz.func211,Tryz.func212,Tryz.func213,Tryz.func214,Tryz.func215,Tryz.func216,Tryz.func217,Tryz.func218,Tryz.func255,Tryz.func256,Tryz.func257,Tryz.func258,Tryz.func259,Tryz.underlying341,Tryz.runUnderlying341,Tryz.sizeOf341,Tryz.isAgg341,Tryz.zeroValue341,Tryz.underlying343,Tryz.runUnderlying343,Tryz.sizeOf343,Tryz.isAgg343,Tryz.zeroValue343,Tryz.underlying344,Tryz.runUnderlying344,Tryz.sizeOf344,Tryz.isAgg344,Tryz.zeroValue344,Tryz.underlying272,Tryz.runUnderlying272,Tryz.sizeOf272,Tryz.isAgg272,Tryz.zeroValue272,Tryz.underlying269,Tryz.runUnderlying269,Tryz.sizeOf269,Tryz.isAgg269,Tryz.zeroValue269,Tryz.underlying110,Tryz.runUnderlying110,Tryz.sizeOf110,Tryz.isAgg110,Tryz.zeroValue110,Tryz.underlying262,Tryz.runUnderlying262,Tryz.sizeOf262,Tryz.isAgg262,Tryz.zeroValue262,Tryz.underlying270,Tryz.runUnderlying270,Tryz.sizeOf270,Tryz.isAgg270,Tryz.zeroValue270,Tryz.underlying348,Tryz.runUnderlying348,Tryz.sizeOf348,Tryz.isAgg348,Tryz.zeroValue348,Tryz.underlying390,Tryz.runUnderlying390,Tryz.sizeOf390,Tryz.isAgg390,Tryz.zeroValue390,Tryz.underlying392,Tryz.runUnderlying392,Tryz.sizeOf392,Tryz.isAgg392,Tryz.zeroValue392,Tryz.underlying0,Tryz.runUnderlying0,Tryz.sizeOf0,Tryz.isAgg0,Tryz.zeroValue0,Tryz.underlying3,Tryz.runUnderlying3,Tryz.sizeOf3,Tryz.isAgg3,Tryz.zeroValue3,Tryz.underlying4,Tryz.runUnderlying4,Tryz.sizeOf4,Tryz.isAgg4,Tryz.zeroValue4,Tryz.underlying9,Tryz.runUnderlying9,Tryz.sizeOf9,Tryz.isAgg9,Tryz.zeroValue9,Tryz.underlying20,Tryz.runUnderlying20,Tryz.sizeOf20,Tryz.isAgg20,Tryz.zeroValue20,Tryz.underlying21,Tryz.runUnderlying21,Tryz.sizeOf21,Tryz.isAgg21,Tryz.zeroValue21,ar,ar⟩
end Go.Proofs.YtkdljbnllgpfhaaGreat
section
namespace Go.Upr
open Go.Conc Go.ConcN Go.RowKit Go.Conc.Lib Go.ConcR.Gen Go.ConcN.Gen
open Go.ConcR (KK wgBlock WgAt stA smA rd wr mk DC0)
section
variable(P:alu)(ty:acs)(Wg:Nat)(R:aly→aly→Prop)(T7 Stop:aqi→aly→Prop)
def aeX(g:aqi)(w:aly):Prop:=g.status= .running∧∃g',stepG P true g w= .go g' w #[mk (.acquire (stA Wg))]∧∃m,Goes P true R DC0 Stop m g' w
def WKe(g:aqi)(w:aly):Prop:=g.status= .running∧∃g',stepG P true g w= .go g' w #[mk .enable]∧∃m,Goes P true R DC0 (aeX P Wg R Stop) m g' w
def W4(g:aqi)(w:aly):Prop:=g.status= .running∧(WgAt ty Wg w 0 0→∃g',stepG P true g w= .go g' w #[rd (stA Wg)]∧∃m,Goes P true R DC0 (WKe P Wg R Stop) m g' w)
def W3(g:aqi)(w:aly):Prop:=
 g.status= .running∧g.offers=none∧((∃st,WgAt ty Wg w st 0)→stepG P true g w= .go {g with status:= .blocked} w #[])∧
  (WgAt ty Wg w 0 1→∃g',stepG P true g w= .go g' (w.setCell (smA Wg) (.int .u32 0)) (semEvents (smA Wg))∧∃m,Goes P true R DC0 (W4 P ty Wg R Stop) m g' (w.setCell (smA Wg) (.int .u32 0)))
def aaV(g:aqi)(w:aly):Prop:=g.status= .running∧∃g',stepG P true g w= .go g' w #[mk (.write (smA Wg))]∧∃m,Goes P true R DC0 (W3 P ty Wg R Stop) m g' w
def W2(vs:Nat)(g:aqi)(w:aly):Prop:=
 g.status= .running∧∀v:Nat,v<2147483648→WgAt ty Wg w (v*KK) 0→
  (v=vs→∃g',stepG P true g w= .go g' (w.setCell (stA Wg) (.int .u64 (v*KK+1))) #[rd (stA Wg),wr (stA Wg)]∧∃m,Goes P true R DC0 (aaV P ty Wg R Stop) m g' (w.setCell (stA Wg) (.int .u64 (v*KK+1))))∧
  (v≠vs→∃g',stepG P true g w= .go g' w #[rd (stA Wg)]∧∃m,Goes P true R DC0 T7 m g' w)
def W1(g:aqi)(w:aly):Prop:=
 g.status= .running∧∀v:Nat,v<2147483648→WgAt ty Wg w (v*KK) 0→∃g',stepG P true g w= .go g' w #[rd (stA Wg)]∧
  (v=0→∃m,Goes P true R DC0 (WKe P Wg R Stop) m g' w)∧(v≠0→∃m,Goes P true R DC0 (W2 P ty Wg R T7 Stop v) m g' w)
def WKd(g:aqi)(w:aly):Prop:=g.status= .running∧∃g',stepG P true g w= .go g' w #[mk .disable]∧∃m,Goes P true R DC0 T7 m g' w
end
def Oe(L:WgLink)(F:aly→Prop)(Wg:Nat)(c:aoz)(cs:List aoz)(g:aqi)(w:aly):Prop:=
 ∃T:Array aad,g=G ((base L.wait).at ⟨T,[]⟩ [.code (L7 L),.inLoop (L7 L),.inBlock 0]) (c::cs)∧T.size=84∧T[0]? =some (.pointer (some ⟨Wg,0,none⟩))∧F w∧WgLive L.tWg Wg w
section
variable{L:WgLink}{Wg:Nat}{F:aly→Prop}{R:aly→aly→Prop}{Stop:aqi→aly→Prop}
 {b₀:aoz} {a₀:Act} {ops₀:Array Oper} {i₀:Nat} {rest₀:List Nat} {k₀:List Item} {cs:List aoz} {mT:Nat}
theorem L9{P:alu}(H:WgLib P L)(hR: ∀ {w w₁},F w∧WgLive L.tWg Wg w→R w w₁→F w₁∧WgLive L.tWg Wg w₁)(hS: ∀w a v,a.block=Wg→F w→F (w.setCell a v))
  (hT: ∀w,F w→WgLive L.tWg Wg w→Goes P true R DC0 Stop mT (G (b₀.at (a₀.put ((ops₀[i₀]?).bind (·.dst)) (.tuple #[])) (.inRegion ops₀ rest₀::k₀)) cs) w)
  (g:aqi) (w:aly) (h:Oe L F Wg (b₀.at a₀ (.inRegion ops₀ (i₀::rest₀)::k₀)) cs g w):
  ∃m,Goes P true R DC0 (W1 P L.tWg Wg R (Oe L F Wg (b₀.at a₀ (.inRegion ops₀ (i₀::rest₀)::k₀)) cs) Stop) m g w:=by
 lib_facts
 obtain⟨T,rfl,hT84,t0,hF⟩:=h;obtain⟨v0,v1,v2,v3,v4,v5,v6,v7,v8,v9,v10,v11,v12,v13,v14,v15,v16,v17,v18,v19,v20,v21,v22,v23,v24,v25,v26,v27,v28,v29,v30,v31,v32,v33,v34,v35,v36,v37,v38,v39,v40,v41,v42,v43,v44,v45,v46,v47,v48,v49,v50,v51,v52,v53,v54,v55,v56,v57,v58,v59,v60,v61,v62,v63,v64,v65,v66,v67,v68,v69,v70,v71,v72,v73,v74,v75,v76,v77,v78,v79,v80,v81,v82,v83,rfl⟩:=array84 T hT84;simp only[List.getElem?_toArray,List.getElem?_cons_zero,apx]at t0;subst t0;refine⟨30,?_⟩;simp only[L7,body_wait,waitFn,aqT]
 u_c aqE hR hF
 u_c apU hR hF
 u_reg hR hF
 iterate 3 u_op hR hF
 u_call H.f_uLoad (nm_uLoad L) uLoadFn hR hF
 u_c apU hR hF
 u_reg hR hF
 u_op hR hF
 u_c apQ hR hF
 u_c apU hR hF
 u_reg hR hF
 iterate 3 u_op hR hF
 refine aqN (λw₁ h₁=>?_);replace hF:=hR hF h₁;clear h₁;refine⟨rfl,λv hv hw=>?_⟩;rcases Nat.eq_zero_or_pos v with rfl|hvp
 · -- none is counted:behind the join
  replace hw:WgAt L.tWg Wg w₁ 0 0:=by simpa using hw
  refine⟨_,aqZ (v:=0) rfl rfl (by k_ne) rfl H.f_loadU64 (x_loadU64_n L) (x_loadU64_b L) (x_loadU64_x L) .u64 (x_loadU64_f L) rfl hw.cellSt,λ_=>⟨50,?_⟩,λh=>absurd rfl h⟩;clear hw;walk_nrm
  u_op hR hF
  u_c apQ hR hF
  u_c aqR hR hF
  u_leave1 H.f_uLoad hR hF
  u_op hR hF
  u_c apQ hR hF
  iterate 2
   u_c apU hR hF
   u_reg hR hF
   iterate 4 u_op hR hF
   u_c apQ hR hF
  iterate 2 u_c apU hR hF
  u_reg hR hF
  iterate 2 u_op hR hF
  u_c apQ hR hF
  u_cond true hR hF
  u_c apU hR hF
  u_cond true hR hF
  u_c apU hR hF
  u_reg hR hF
  refine aqN (λw₅ h₅=>?_);replace hF:=hR hF h₅;clear h₅;refine⟨rfl,_,aqW .enable bz rfl rfl (by k_ne) rfl H.f_enable (x_enable_n L) (x_enable_b L) (x_enable_x L) (x_enable_f L),12,?_⟩;walk_nrm
  u_c apQ hR hF
  u_reg hR hF
  u_op hR hF
  u_conv H.underlying_tWgP H.room_tWg (WgLive.cell0 hF.2).choose_spec hR hF
  refine aqN (λw₆ h₆=>?_);replace hF:=hR hF h₆;clear h₆;refine⟨rfl,_,aqU .acquire bz rfl rfl (by k_ne) rfl H.f_acquire (x_acquire_n L) (x_acquire_b L) (x_acquire_x L) (x_acquire_f L) (by simp[aqV,stA]),⟨mT+20,?_⟩⟩;walk_nrm
  u_c apQ hR hF
  iterate 2 u_c apU hR hF
  u_reg hR hF
  iterate 8 u_op hR hF
  iterate 2 u_skip hR hF
  u_op hR hF
  u_c apQ hR hF
  u_cond false hR hF
  u_c aqQ hR hF
  u_c aqR hR hF
  u_leave0 H.f_wait hR hF
  exact hT _ hF.1 hF.2
 ·obtain⟨S,fN⟩: ∃S:Int,(v:Int)*KK=S:=⟨_,rfl⟩;have a1:S/4294967296=(v:Int):=by rw[←fN];simp only[KK];omega
  have b1:bits .and .u64 S 2147483648=0:=by rw[←fN];have:=st_flag v 0 aj aj;simpa[KK]using this
  have b2:bits .and .u64 S 2147483647=0:=by rw[←fN];have:=st_waiters v 0 aj aj;simpa[KK]using this
  have c1:aq9.wrap (v:Int)=(v:Int):=by rw[aq4];omega
  have w1:aq8.wrap (S+1)=S+1:=by rw[aq3,←fN];simp only[KK];omega
  have q3:decide ((v:Int)<0)=false:=decide_eq_false aj;have q4:decide (0<(v:Int))=true:=decide_eq_true aj;have q5:((v:Int)==0)=false:=by simp;omega
  have q6:decide ((v:Int)=0)=false:=decide_eq_false aj;rw[fN]at hw;refine⟨_,aqZ (v:=S) rfl rfl (by k_ne) rfl H.f_loadU64 (x_loadU64_n L) (x_loadU64_b L) (x_loadU64_x L) .u64 (x_loadU64_f L) rfl hw.cellSt,λh0=>absurd h0 aj,λ_=>⟨60,?_⟩⟩;clear hw;walk_nrm
  u_op hR hF
  u_c apQ hR hF
  u_c aqR hR hF
  u_leave1 H.f_uLoad hR hF
  u_op hR hF
  u_c apQ hR hF
  iterate 2
   u_c apU hR hF
   u_reg hR hF
   iterate 4 u_op hR hF
   u_c apQ hR hF
  iterate 2 u_c apU hR hF
  u_reg hR hF
  iterate 2 u_op hR hF
  u_c apQ hR hF
  u_cnd false hR hF
  u_c aqQ hR hF
  u_c apU hR hF
  u_reg hR hF
  iterate 6 u_op hR hF
  u_call H.f_uCas (nm_uCas L) uCasFn hR hF
  u_c apU hR hF
  u_reg hR hF
  u_op hR hF
  u_c apQ hR hF
  u_c apU hR hF
  u_reg hR hF
  iterate 5 u_op hR hF
  refine aqN (λw₂ h₂=>?_);replace hF:=hR hF h₂;clear h₂;refine⟨rfl,λv' hv' hw=>⟨λe=>?_,λe=>?_⟩⟩
  · -- registered
   subst e;rw[fN]at hw⊢;refine⟨_,(stepG_cas_hit (v:=S) (n:=S+1) rfl rfl (by k_ne) rfl H.f_casU64 (x_casU64_n L) (x_casU64_b L) (x_casU64_x L) .u64 (x_casU64_f L) rfl rfl rfl hw.cellSt (hw.thaw 0)).trans aC,70,?_⟩;replace hF:F (w₂.setCell (stA Wg) (.int .u64 (S+1)))∧WgLive L.tWg Wg (w₂.setCell (stA Wg) (.int .u64 (S+1))):=⟨hS _ _ _ rfl hF.1,⟨_,_,hw.setSt _⟩⟩;clear hw;walk_nrm
   u_op hR hF
   u_c apQ hR hF
   u_c aqR hR hF
   u_leave1 H.f_uCas hR hF
   u_c apQ hR hF
   u_cond true hR hF
   iterate 2 u_c apU hR hF
   u_reg hR hF
   iterate 4 u_op hR hF
   u_c apQ hR hF
   u_cond true hR hF
   u_reg hR hF
   iterate 3 u_op hR hF
   u_conv H.underlying_tPU32 H.room_tU32 (WgLive.cell1 hF.2).choose_spec hR hF
   refine aqN (λw₃ h₃=>?_);replace hF:=hR hF h₃;clear h₃;refine⟨rfl,_,aqU .write bz rfl rfl (by k_ne) rfl H.f_raceWrite (x_raceWrite_n L) (x_raceWrite_b L) (x_raceWrite_x L) (x_raceWrite_f L) (ad:=⟨Wg,1,none⟩) (by simp[aqV]<;>rfl),40,?_⟩;walk_nrm
   u_c apQ hR hF
   u_c apU hR hF
   u_reg hR hF
   u_op hR hF
   u_c apQ hR hF
   iterate 2 u_c apU hR hF
   u_reg hR hF
   iterate 4 u_op hR hF
   u_skip hR hF
   u_op hR hF
   u_c apQ hR hF
   u_cond false hR hF
   u_c aqQ hR hF
   u_c apU hR hF
   u_reg hR hF
   iterate 4 u_op hR hF
   refine aqN (λw₃ h₃=>?_);replace hF:=hR hF h₃;clear h₃;refine⟨rfl,rfl,λ⟨st,hw⟩=>stepG_semacquire_wait rfl rfl rfl H.f_semacquire (x_semacquire_n L) (x_semacquire_b L) (x_semacquire_x L) (x_semacquire_f L) (by simp[aqV,smA]) hw.cellSm,λhf=>?_⟩;refine⟨_,(stepG_semacquire (n:=1) rfl rfl (by k_ne) rfl H.f_semacquire (x_semacquire_n L) (x_semacquire_b L) (x_semacquire_x L) (x_semacquire_f L) (by simp[aqV,smA]) hf.cellSm (by k_ne) (hf.thaw 1)).trans aC,30,?_⟩;replace hF:F (w₃.setCell (smA Wg) (.int .u32 0))∧WgLive L.tWg Wg (w₃.setCell (smA Wg) (.int .u32 0)):=⟨hS _ _ _ rfl hF.1,⟨_,_,hf.setSm 0⟩⟩;clear hf;walk_nrm
   u_c apQ hR hF
   u_c apU hR hF
   u_reg hR hF
   iterate 3 u_op hR hF
   u_call H.f_uLoad (nm_uLoad L) uLoadFn hR hF
   u_c apU hR hF
   u_reg hR hF
   u_op hR hF
   u_c apQ hR hF
   u_c apU hR hF
   u_reg hR hF
   iterate 3 u_op hR hF
   refine aqN (λw₄ h₄=>?_);replace hF:=hR hF h₄;clear h₄;refine⟨rfl,λhw=>⟨_,aqZ (v:=0) rfl rfl (by k_ne) rfl H.f_loadU64 (x_loadU64_n L) (x_loadU64_b L) (x_loadU64_x L) .u64 (x_loadU64_f L) rfl hw.cellSt,30,?_⟩⟩;clear hw;walk_nrm
   u_op hR hF
   u_c apQ hR hF
   u_c aqR hR hF
   u_leave1 H.f_uLoad hR hF
   iterate 2 u_op hR hF
   u_c apQ hR hF
   u_c apU hR hF
   u_cond true hR hF
   u_c apU hR hF
   u_reg hR hF
   refine aqN (λw₅ h₅=>?_);replace hF:=hR hF h₅;clear h₅;refine⟨rfl,_,aqW .enable bz rfl rfl (by k_ne) rfl H.f_enable (x_enable_n L) (x_enable_b L) (x_enable_x L) (x_enable_f L),12,?_⟩;walk_nrm
   u_c apQ hR hF
   u_reg hR hF
   u_op hR hF
   u_conv H.underlying_tWgP H.room_tWg (WgLive.cell0 hF.2).choose_spec hR hF
   refine aqN (λw₆ h₆=>?_);replace hF:=hR hF h₆;clear h₆;refine⟨rfl,_,aqU .acquire bz rfl rfl (by k_ne) rfl H.f_acquire (x_acquire_n L) (x_acquire_b L) (x_acquire_x L) (x_acquire_f L) (by simp[aqV,stA]),⟨mT+10,?_⟩⟩;walk_nrm
   u_c apQ hR hF
   iterate 2 u_c apU hR hF
   u_reg hR hF
   u_op hR hF
   u_c apQ hR hF
   u_cond false hR hF
   u_c aqQ hR hF
   u_c aqR hR hF
   u_leave0 H.f_wait hR hF
   exact hT _ hF.1 hF.2
  · -- akj:around again
   refine⟨_,stepG_cas_miss (v:=(v':Int)*KK) (old:=S) (n:=S+1) rfl rfl (by k_ne) rfl H.f_casU64 (x_casU64_n L) (x_casU64_b L) (x_casU64_x L) .u64 (x_casU64_f L) rfl rfl rfl hw.cellSt (hw.thaw 0) (by rw[←fN];simp only[KK];omega),20,?_⟩;clear hw;walk_nrm
   u_op hR hF
   u_c apQ hR hF
   u_c aqR hR hF
   u_leave1 H.f_uCas hR hF
   u_c apQ hR hF
   u_cond false hR hF
   u_c aqQ hR hF
   u_c arh hR hF
   u_c ari hR hF
   refine aqN (λw₃ h₃=>?_);replace hF:=hR hF h₃;exact⟨_,rfl,by simp,by simp,hF⟩
theorem L8{P:alu}(H:WgLib P L)(hR: ∀ {w w₁},F w∧WgLive L.tWg Wg w→R w w₁→F w₁∧WgLive L.tWg Wg w₁)(w:aly)(hF:F w∧WgLive L.tWg Wg w):
  Goes P true R DC0 (WKd P R (Oe L F Wg (b₀.at a₀ (.inRegion ops₀ (i₀::rest₀)::k₀)) cs)) 3
   (G (ao7 P L.wait #[.pointer (some ⟨Wg,0,none⟩)] .normal) (b₀.at a₀ (.inRegion ops₀ (i₀::rest₀)::k₀)::cs)) w:=by
 have e:ao7 P L.wait #[.pointer (some ⟨Wg,0,none⟩)] .normal=(base L.wait).at ⟨#[.pointer (some ⟨Wg,0,none⟩)]++Array.replicate 83 undef,[]⟩ [.code (body_wait L)]:=by
  unfold ao7;rw[H.f_wait];rfl
 rw[e]
 lib_facts
 simp only[body_wait,waitFn,aqT]
 u_c apU hR hF
 u_cond true hR hF
 u_reg hR hF
 refine aqN (λw₁ h₁=>?_);replace hF:=hR hF h₁;clear h₁;refine⟨rfl,_,aqW .disable bz rfl rfl (by k_ne) rfl H.f_disable (x_disable_n L) (x_disable_b L) (x_disable_x L) (x_disable_f L),3,?_⟩;walk_nrm
 u_c apQ hR hF
 u_c aqE hR hF
 u_c stepG_loop hR hF
 exact aqN (λw₂ h₂=>⟨_,rfl,by simp,by simp,hR hF h₂⟩)
end
end Go.Upr
end
section
namespace Go.Upr
open Go.Conc Go.ConcN Go.RowKit Go.Conc.Lib Go.ConcR.Gen Go.ConcN.Gen
open Go.ConcR (KK wgBlock WgAt stA smA rd wr mk DC0)
section
variable(P:alu)(ty:acs)(Wg:Nat)(R:aly→aly→Prop)(d:Nat)(Stop:aqi→aly→Prop)
def AKe(g:aqi)(w:aly):Prop:=g.status= .running∧∃g',stepG P true g w= .go g' w #[mk .enable]∧∃m,Goes P true R DC0 Stop m g' w
def aa0(g:aqi)(w:aly):Prop:=g.status= .running∧∃g',stepG P true g w= .go g' w #[mk (.read (smA Wg))]∧∃m,Goes P true R DC0 (AKe P R Stop) m g' w
def aeZ(g:aqi)(w:aly):Prop:=
 g.status= .running∧(WgAt ty Wg w 0 0→∃g',stepG P true g w= .go g' (w.setCell (stA Wg) (.int .u64 (d*KK))) #[rd (stA Wg),wr (stA Wg)]∧∃m,Goes P true R DC0 (aa0 P Wg R Stop) m g' (w.setCell (stA Wg) (.int .u64 (d*KK))))
def AKd(g:aqi)(w:aly):Prop:=g.status= .running∧∃g',stepG P true g w= .go g' w #[mk .disable]∧∃m,Goes P true R DC0 (aeZ P ty Wg R d Stop) m g' w
end
section
variable{L:WgLink}{Wg d:Nat}{F:aly→Prop}{R:aly→aly→Prop}{Stop:aqi→aly→Prop}
 {b₀:aoz} {a₀:Act} {ops₀:Array Oper} {i₀:Nat} {rest₀:List Nat} {k₀:List Item} {cs:List aoz} {mT:Nat}
theorem Rp{P:alu}(H:WgLib P L):ao7 P L.add #[.pointer (some ⟨Wg,0,none⟩),.int .i64 d] .normal=(base L.add).at ⟨#[.pointer (some ⟨Wg,0,none⟩),.int .i64 d,undef,undef,undef,undef,undef,undef,undef,undef,undef,undef,undef,undef,undef,undef,undef,undef,undef,undef,undef,undef,undef,undef,undef,undef,undef,undef,undef,undef,undef,undef,undef,undef,undef,undef,undef,undef,undef,undef,undef,undef,undef,undef,undef,undef,undef,undef,undef,undef,undef,undef,undef,undef,undef,undef,undef,undef,undef,undef,undef,undef,undef,undef,undef,undef,undef,undef,undef,undef,undef,undef,undef,undef,undef,undef,undef,undef,undef,undef,undef,undef,undef,undef,undef,undef,undef,undef,undef,undef,undef,undef,undef,undef,undef,undef,undef,undef,undef,undef,undef,undef,undef,undef,undef,undef,undef,undef,undef,undef,undef,undef,undef,undef,undef,undef,undef],[]⟩ [.code (body_add L)]:=by
 unfold ao7;rw[H.f_add]
 kernel_rfl
theorem RG{P:alu}(H:WgLib P L)(hd:0<d)(Dd:d<2147483648)(hR: ∀ {w w₁},F w∧WgLive L.tWg Wg w→R w w₁→F w₁∧WgLive L.tWg Wg w₁)(hS: ∀w a v,a.block=Wg→F w→F (w.setCell a v))
  (hT: ∀w,F w→WgLive L.tWg Wg w→Goes P true R DC0 Stop mT (G (b₀.at (a₀.put ((ops₀[i₀]?).bind (·.dst)) (.tuple #[])) (.inRegion ops₀ rest₀::k₀)) cs) w)
  (w:aly) (hF:F w∧WgLive L.tWg Wg w):
  Goes P true R DC0 (AKd P L.tWg Wg R d Stop) 12
   (G (ao7 P L.add #[.pointer (some ⟨Wg,0,none⟩),.int .i64 d] .normal) (b₀.at a₀ (.inRegion ops₀ (i₀::rest₀)::k₀)::cs)) w:=by
 rw[Rp H]
 lib_facts
 have q1:decide ((d:Int)<0)=false:=decide_eq_false aj;have q2:decide (0<(d:Int))=true:=decide_eq_true aj;simp only[body_add,addFn,aqT]
 u_c apU hR hF
 u_cond true hR hF
 iterate 2 u_c apU hR hF
 u_reg hR hF
 iterate 2 u_op hR hF
 u_c apQ hR hF
 u_cnd false hR hF
 u_c aqQ hR hF
 u_c apU hR hF
 u_reg hR hF
 refine aqN (λw₁ h₁=>?_);replace hF:=hR hF h₁;clear h₁;refine⟨rfl,_,aqW .disable bz rfl rfl (by k_ne) rfl H.f_disable (x_disable_n L) (x_disable_b L) (x_disable_x L) (x_disable_f L),40,?_⟩;walk_nrm
 u_c apQ hR hF
 u_reg hR hF
 u_defer hR hF
 u_c apQ hR hF
 u_c apU hR hF
 u_reg hR hF
 u_op hR hF
 u_c apQ hR hF
 iterate 2 u_c apU hR hF
 u_reg hR hF
 u_bub hR hF
 u_c apQ hR hF
 u_cond false hR hF
 u_c aqQ hR hF
 u_c apU hR hF
 u_reg hR hF
 iterate 6 u_op hR hF
 u_call H.f_uAdd (nm_uAdd L) uAddFn hR hF
 u_c apU hR hF
 u_reg hR hF
 u_op hR hF
 u_c apQ hR hF
 u_c apU hR hF
 u_reg hR hF
 iterate 4 u_op hR hF
 refine aqN (λw₁ h₁=>?_);replace hF:=hR hF h₁;clear h₁;refine⟨rfl,λhw=>?_⟩;obtain⟨S,fN⟩: ∃S:Int,(d:Int)*KK=S:=⟨_,rfl⟩;have a1:S/4294967296=(d:Int):=by rw[←fN];simp only[KK];omega
 have b1:bits .and .u64 S 2147483648=0:=by rw[←fN];have:=st_flag d 0 aj aj;simpa[KK]using this
 have b2:bits .and .u64 S 2147483647=0:=by rw[←fN];have:=st_waiters d 0 aj aj;simpa[KK]using this
 have c1:aq9.wrap (d:Int)=(d:Int):=by rw[aq4];omega
 have w1:aq8.wrap (0+S)=S:=by rw[aq3,←fN];simp only[KK];omega
 have hs:(d:Int) % 18446744073709551616*4294967296 % 18446744073709551616=S:=by rw[←fN];simp only[KK];omega
 rw[fN,hs];refine⟨_,(stepG_add_atomic rfl rfl (by k_ne) rfl H.f_addU64 (x_addU64_n L) (x_addU64_b L) (x_addU64_x L) .u64 (x_addU64_f L) rfl rfl hw.cellSt (hw.thaw 0)).trans (by rw[w1];rfl),80,?_⟩;replace hF:F (w₁.setCell (stA Wg) (.int .u64 S))∧WgLive L.tWg Wg (w₁.setCell (stA Wg) (.int .u64 S)):=⟨hS _ _ _ rfl hF.1,⟨_,_,hw.setSt _⟩⟩;clear hw;walk_nrm
 u_op hR hF
 u_c apQ hR hF
 u_c aqR hR hF
 u_leave1 H.f_uAdd hR hF
 u_op hR hF
 u_c apQ hR hF
 iterate 2 u_c apU hR hF
 u_reg hR hF
 iterate 4 u_op hR hF
 iterate 2 u_skip hR hF
 u_op hR hF
 u_c apQ hR hF
 u_cond false hR hF
 u_c aqQ hR hF
 iterate 2
  u_c apU hR hF
  u_reg hR hF
  iterate 4 u_op hR hF
  u_c apQ hR hF
 iterate 2 u_c apU hR hF
 u_reg hR hF
 iterate 10 u_op hR hF
 u_c apQ hR hF
 u_cond true hR hF
 u_reg hR hF
 iterate 3 u_op hR hF
 u_conv H.underlying_tPU32 H.room_tU32 (WgLive.cell1 hF.2).choose_spec hR hF
 refine aqN (λw₃ h₃=>?_);replace hF:=hR hF h₃;clear h₃;refine⟨rfl,_,aqU .read bz rfl rfl (by k_ne) rfl H.f_raceRead (x_raceRead_n L) (x_raceRead_b L) (x_raceRead_x L) (x_raceRead_f L) (ad:=⟨Wg,1,none⟩) (by simp[aqV]),60,?_⟩;walk_nrm
 u_c apQ hR hF
 iterate 2 u_c apU hR hF
 u_reg hR hF
 iterate 2 u_op hR hF
 u_c apQ hR hF
 u_cnd false hR hF
 u_c aqQ hR hF
 iterate 2 u_c apU hR hF
 u_reg hR hF
 iterate 3 u_op hR hF
 iterate 2 u_skip hR hF
 iterate 2 u_op hR hF
 iterate 4 u_skip hR hF
 u_op hR hF
 u_c apQ hR hF
 u_cond false hR hF
 u_c aqQ hR hF
 iterate 2 u_c apU hR hF
 u_reg hR hF
 iterate 3 u_op hR hF
 iterate 2 u_skip hR hF
 u_op hR hF
 u_c apQ hR hF
 u_cond true hR hF
 u_c aqR hR hF
 refine aqN (λw₄ h₄=>?_);replace hF:=hR hF h₄;clear h₄;refine⟨rfl,_,stepG_unwind_entry (v:= .tuple #[]) (evs:= #[mk .enable]) rfl H.f_enable (x_enable_n L) (x_enable_b L) (x_enable_x L) (x_enable_f L) (by simp[ard]) (by simp[mk]) (by simp[mk]),mT+1,?_⟩
 u_leave0 H.f_add hR hF
 exact hT _ hF.1 hF.2
end
end Go.Upr
end
section
namespace Go.Upr
open Go.Conc
open Go.ConcN (upd upd_same upd_ne sumTo WD CTag WSit RW DWs AtR0 WgLive ShN RelBy Has)
open Go.ConcR (KK WgAt stA smA rd wr mk DC0 Bk)
def NoL:Nat→Loc→Prop:=λ_ _=>False
structure Pl where
 P:alu
 F:alB→Bool
 n:Nat
 ty:acs
 wg:Nat
 z:aad
 Pre:Nat→List aad→Ren→aly→Prop
 Item:Nat→aad→Prop
 A:Nat→Nat→Nat→List aad→bF→aoz→List aoz→Prop
 AM:Nat→List aad→bF→aoz→List aoz→Prop
 Fin:bF→aoz→List aoz→Prop
def RM(P:alu)(F:alB→Bool)(r:bF)(ty:acs)(wg:Nat)(w w₁:aly):Prop:=(r.Fits P F w→r.Fits P F w₁)∧(WgLive ty wg w→WgLive ty wg w₁)
section
variable(X:Pl)
def Lm(r:bF)(fr:aoz)(cs:List aoz):Prop:=
 ∃ (ety:acs) (C:Nat) (x:aad) (N:Nat),r.tok=none∧r.e C=some (.cells #[x] ety)∧
  ∀w,r.Fits X.P X.F w→WgLive X.ty X.wg w→Goes X.P false (@RW ⟨ety⟩ X.ty X.wg C 1 0 0) DC0 (@AtR0 ⟨ety⟩ X.P X.ty X.wg C 1 0 1 x) N (G fr cs) w
structure mS(r:bF)(d:WD)(g:aqi)(w:aly):Prop where
 it: ∃ (ety:acs) (C:Nat) (x:aad),r.tok=none∧r.e C=some (.cells #[x] ety)∧
  ((d.stage=7∧d.deaf=0∧Goes X.P false (@RW ⟨ety⟩ X.ty X.wg C 1 0 0) DC0 (@AtR0 ⟨ety⟩ X.P X.ty X.wg C 1 0 1 x) d.fuel g w)∨(d.stage≤6∧ @WSit ⟨ety⟩ X.P X.ty X.wg C 1 NoL NoL 0 1 x d.stage d.fuel d.deaf g w))
abbrev Snd(i b:Nat):bF→aoz→List aoz→Prop:=LY X.P X.F (λ_=>b) X.Pre X.Item (λ_=>Lm X) i
abbrev Tw(i b:Nat)(total rest:List aad):bF→aoz→List aoz→Prop:=Sends X.P X.F (λ_=>b) X.Pre X.Item (λ_=>Lm X) i total rest
inductive wG(i a b:Nat)(dR out:Ch)(r:bF)(w:aly):aqi→WD→Wt→Prop
 |recv {g:aqi} {fr:aoz} {cs:List aoz} {t:Tr} (hi:0<i) (hg:si g fr cs) (h:Walk X.P false X.F (X.A i a b (dR.aJ.take dR.rc)) t r fr cs) (ho:out.aJ= []∧out.cl=false)
   (hp:dR.cl=true→∃f v,dR.pend=some (f,v)∧X.Pre (i- 1) dR.aJ f v):wG i a b dR out r w g ⟨7,0,0⟩ (12,2*(dR.aJ.length- dR.rc)+1,t)
 |cf {fr:aoz} {cs:List aoz} (hi:0<i) (h:X.A i a b (dR.aJ.take dR.rc) r fr cs) (he:dR.rc=dR.aJ.length∧dR.cl=false) (ho:out.aJ= []∧out.cl=false):
   wG i a b dR out r w (parked (G fr cs) #[rcase a X.z] (.recv true)) ⟨7,0,0⟩ (12,0,.leaf)
 |work {g:aqi} {fr:aoz} {cs:List aoz} {t:Tr} (hg:si g fr cs) (h:Walk X.P false X.F (Snd X i b) t r fr cs) (ho:out.aJ= []∧out.cl=false):wG i a b dR out r w g ⟨7,0,0⟩ (11,0,t)
 |send {g:aqi} {fr:aoz} {cs:List aoz} {t:Tr} {rest:List aad} (hg:si g fr cs) (h:Walk X.P false X.F (Tw X i b (out.aJ++rest) rest) t r fr cs) (ho:out.cl=false):wG i a b dR out r w g ⟨7,0,0⟩ (10,2*rest.length+1,t)
 |dD {fr:aoz} {cs:List aoz} {x zz:aad} {rest:List aad} (hx:X.Item out.aJ.length x) (h:aK X.P false X.F (Tw X i b (out.aJ++x::rest) rest) r (fr.finish undef) cs) (ho:out.cl=false) (hf:room≤out.aJ.length- out.rc):
   wG i a b dR out r w (parked (G fr cs) #[scase b x zz] .send) ⟨7,0,0⟩ (10,2*rest.length+2,.leaf)
 |shut {fr:aoz} {cs:List aoz} {t:Tr} (h:Walk X.P false X.F (Lm X) t r fr cs) (ho:out.cl=true):wG i a b dR out r w (G fr cs) ⟨7,0,0⟩ (9,0,t)
 |tail {g:aqi} {d:WD} (h:mS X r d g w) (ho:out.cl=true):wG i a b dR out r w g d (d.stage,d.fuel,.leaf)
def Tr.ofNat:Nat→Tr
 |0=> .leaf
 |k+1=> .node λ_=>Tr.ofNat k
theorem Tr.ofNat_lt(k:Nat):Tr.Lt (Tr.ofNat k) (Tr.ofNat (k+1)):= .child (λ_=>Tr.ofNat k) default
def uS:Ch:=⟨[],0,false,false,none⟩
structure zD(r:bF)(b:Nat)(rc rm:bF):Prop where
 chan:r.e b=some uS.obj
 fits: ∀w,r.Fits X.P X.F w→rc.Fits X.P X.F w∧rm.Fits X.P X.F w
 aa7: ∀x,rc.Own x→r.Own x∧x≠b∧¬rm.Has x
 Fw: ∀x,rm.Own x→r.Own x∧x≠b∧¬rc.Has x
 sC: ∀x,rc.s x≠none→r.Has x∧x≠b
 sM: ∀x,rm.s x≠none→r.Has x∧x≠b
def jB:Nat→Nat→(Nat→Nat)→bF→aoz→List aoz→Prop
 |0,_,k,r,fr,cs=>X.AM (k X.n) [] r fr cs
 |q+1,j,k,r,fr,cs=>∃ (b:Nat) (fr':aoz) (cs':List aoz) (SP:aoz) (rc rm:bF),
   (∀w,r.Fits X.P X.F w→stepG X.P true (G fr cs) w= .spawn (G fr' cs') (G SP []) w #[])∧zD X r b rc rm∧
   (j=0→aK X.P false X.F (Snd X 0 b) rc SP [])∧(0<j→aK X.P false X.F (X.A j (k (j- 1)) b []) rc SP [])∧
   aK X.P true X.F (λr fr cs=>jB q (j+1) (upd k j b) r fr cs) rm fr' cs'
def ix(r:bF)(g:aqi)(_:aly):Prop:=∃fr cs,g=G fr cs∧X.Fin r fr cs
def BU(r:bF)(fr:aoz)(cs:List aoz):Prop:=
 ¬r.Has X.wg→∃ (eU:aqi→aly→Prop) (N:Nat),(∀w,r.Fits X.P X.F w→WgLive X.ty X.wg w→Goes X.P true (RM X.P X.F r X.ty X.wg) DC0 (WKd X.P (RM X.P X.F r X.ty X.wg) eU) N (G fr cs) w)∧
  ∀g w,eU g w→g.status= .running∧∃m,Goes X.P true (RM X.P X.F r X.ty X.wg) DC0 (W1 X.P X.ty X.wg (RM X.P X.F r X.ty X.wg) eU (ix X r)) m g w
def Ib(r:bF)(g:aqi)(_:aly):Prop:=∃fr cs,g=G fr cs∧∃k,aK X.P true X.F (jB X (X.n+1) 0 k) r fr cs
def IG(r:bF)(fr:aoz)(cs:List aoz):Prop:=
 ¬r.Has X.wg→∃N:Nat,∀w,r.Fits X.P X.F w→WgLive X.ty X.wg w→Goes X.P true (RM X.P X.F r X.ty X.wg) DC0 (AKd X.P X.ty X.wg (RM X.P X.F r X.ty X.wg) (X.n+1) (Ib X r)) N (G fr cs) w
inductive kC(v:Nat)(r:bF)(w:aly)(eU:aqi→aly→Prop):aqi→CTag→Nat→Nat×Nat→Prop
 |kd {g:aqi} {N:Nat} (h:Goes X.P true (RM X.P X.F r X.ty X.wg) DC0 (WKd X.P (RM X.P X.F r X.ty X.wg) eU) N g w):kC v r w eU g .kd 0 (8*X.n+30,N)
 |anch {g:aqi} {N:Nat} (h:Goes X.P true (RM X.P X.F r X.ty X.wg) DC0 eU N g w):kC v r w eU g .anch 1 (8*v+6,N)
 |w1 {g:aqi} {N:Nat} (h:Goes X.P true (RM X.P X.F r X.ty X.wg) DC0 (W1 X.P X.ty X.wg (RM X.P X.F r X.ty X.wg) eU (ix X r)) N g w):kC v r w eU g .w1 1 (8*v+5,N)
 |w2 {g:aqi} {N vs:Nat} (h:Goes X.P true (RM X.P X.F r X.ty X.wg) DC0 (W2 X.P X.ty X.wg (RM X.P X.F r X.ty X.wg) eU (ix X r) vs) N g w):kC v r w eU g (.w2 vs) 1 (8*vs+4,N)
 |said {g:aqi} {N:Nat} (h:Goes X.P true (RM X.P X.F r X.ty X.wg) DC0 (aaV X.P X.ty X.wg (RM X.P X.F r X.ty X.wg) (ix X r)) N g w):kC v r w eU g .w3 1 (7,N)
 |w3 {g:aqi} {N:Nat} (h:Goes X.P true (RM X.P X.F r X.ty X.wg) DC0 (W3 X.P X.ty X.wg (RM X.P X.F r X.ty X.wg) (ix X r)) N g w):kC v r w eU g .w3 1 (6,N)
 |blk {g:aqi} (h: ∀w₁,RM X.P X.F r X.ty X.wg w w₁→W3 X.P X.ty X.wg (RM X.P X.F r X.ty X.wg) (ix X r) g w₁):kC v r w eU {g with status:= .blocked} .blk 1 (5,0)
 |w4 {g:aqi} {N:Nat} (h:Goes X.P true (RM X.P X.F r X.ty X.wg) DC0 (W4 X.P X.ty X.wg (RM X.P X.F r X.ty X.wg) (ix X r)) N g w):kC v r w eU g .w4 1 (4,N)
 |ke {g:aqi} {N:Nat} (h:Goes X.P true (RM X.P X.F r X.ty X.wg) DC0 (WKe X.P X.wg (RM X.P X.F r X.ty X.wg) (ix X r)) N g w):kC v r w eU g .ke 1 (3,N)
 |acq {g:aqi} {N:Nat} (h:Goes X.P true (RM X.P X.F r X.ty X.wg) DC0 (aeX X.P X.wg (RM X.P X.F r X.ty X.wg) (ix X r)) N g w):kC v r w eU g .acq 0 (2,N)
 |fin {g:aqi} {N:Nat} (h:Goes X.P true (RM X.P X.F r X.ty X.wg) DC0 (ix X r) N g w):kC v r w eU g .ret 0 (1,N)
inductive iv(j v:Nat)(k:Nat→Nat)(dR:Ch)(r:bF)(w:aly):aqi→CTag→Bool→Nat→Wt→Wt→Prop
 |pre {fr:aoz} {cs:List aoz} {t:Tr} (hj:j=0) (h:Walk X.P true X.F (IG X) t r fr cs):iv j v k dR r w (G fr cs) .kd false 0 (2,9,t) (0,0,.leaf)
 |a1 {g:aqi} {N:Nat} (hj:j=0) (h:Goes X.P true (RM X.P X.F r X.ty X.wg) DC0 (AKd X.P X.ty X.wg (RM X.P X.F r X.ty X.wg) (X.n+1) (Ib X r)) N g w):iv j v k dR r w g .kd false 0 (2,8,.ofNat N) (0,0,.leaf)
 |a2 {g:aqi} {N:Nat} (hj:j=0) (h:Goes X.P true (RM X.P X.F r X.ty X.wg) DC0 (aeZ X.P X.ty X.wg (RM X.P X.F r X.ty X.wg) (X.n+1) (Ib X r)) N g w):iv j v k dR r w g .kd false 1 (2,7,.ofNat N) (0,0,.leaf)
 |a3 {g:aqi} {N:Nat} (hj:j=0) (h:Goes X.P true (RM X.P X.F r X.ty X.wg) DC0 (aa0 X.P X.wg (RM X.P X.F r X.ty X.wg) (Ib X r)) N g w):iv j v k dR r w g .kd true 1 (2,6,.ofNat N) (0,0,.leaf)
 |a4 {g:aqi} {N:Nat} (hj:j=0) (h:Goes X.P true (RM X.P X.F r X.ty X.wg) DC0 (AKe X.P (RM X.P X.F r X.ty X.wg) (Ib X r)) N g w):iv j v k dR r w g .kd true 1 (2,5,.ofNat N) (0,0,.leaf)
 |a5 {g:aqi} {N:Nat} (hj:j=0) (h:Goes X.P true (RM X.P X.F r X.ty X.wg) DC0 (Ib X r) N g w):iv j v k dR r w g .kd true 0 (2,4,.ofNat N) (0,0,.leaf)
 |spawn {g:aqi} {fr:aoz} {cs:List aoz} {t:Tr} {q:Nat} (hq:j+(q+1)=X.n+1) (hg:si g fr cs) (h:Walk X.P true X.F (jB X (q+1) j k) t r fr cs):iv j v k dR r w g .kd true 0 (1,q+1,t) (0,0,.leaf)
 |recv {g:aqi} {fr:aoz} {cs:List aoz} {t:Tr} (hj:j=X.n+1) (hg:si g fr cs) (h:Walk X.P true X.F (X.AM (k X.n) (dR.aJ.take dR.rc)) t r fr cs)
   (hp:dR.cl=true→∃f v,dR.pend=some (f,v)∧X.Pre X.n dR.aJ f v):iv j v k dR r w g .kd true 0 (0,0,.leaf) (12,2*(dR.aJ.length- dR.rc)+1,t)
 |cf {fr:aoz} {cs:List aoz} (hj:j=X.n+1) (h:X.AM (k X.n) (dR.aJ.take dR.rc) r fr cs) (he:dR.rc=dR.aJ.length∧dR.cl=false):
   iv j v k dR r w (parked (G fr cs) #[rcase (k X.n) X.z] (.recv true)) .kd true 0 (0,0,.leaf) (12,0,.leaf)
 |post {fr:aoz} {cs:List aoz} {t:Tr} (hj:j=X.n+1) (h:Walk X.P true X.F (BU X) t r fr cs):iv j v k dR r w (G fr cs) .kd true 0 (0,0,.leaf) (11,0,t)
 |wait {g:aqi} {tag:CTag} {dd:Nat} {μ:Nat×Nat} (eU:aqi→aly→Prop) (hj:j=X.n+1)
   (hA: ∀g w,eU g w→g.status= .running∧∃m,Goes X.P true (RM X.P X.F r X.ty X.wg) DC0 (W1 X.P X.ty X.wg (RM X.P X.F r X.ty X.wg) eU (ix X r)) m g w)
   (h:kC X v r w eU g tag dd μ):iv j v k dR r w g tag true dd (0,0,.leaf) (2,μ.1,.ofNat μ.2)
def AcqAll(m n wg:Nat)(t:ap8):Prop:=
 ∃q,t.act? q=some (.mark (.acquire (stA wg)))∧t.g? q=some 0∧t.heard q∧∀i,i<n+1→∃r,RelBy (stA wg) t (m+i) r∧r<q
def gid(m n i:Nat):Nat:=if i≤n then m+i else 0
def dR(c:o_)(i:Nat):Ch:=(c.ch (i- 1)).getD uS
def aW(c:o_)(i:Nat):Ch:=(c.ch i).getD uS
structure D1 where
 m:Nat
 tape:Nat→Question→Nat
 os:Os
 output:Array (Nat×ByteArray)
structure nY where
 c:o_
 k:Nat→Nat
 j:Nat
 D:Nat→WD
 q:Nat→Nat
 tag:CTag
 added:Bool
 dd:Nat
 μ:Nat→Wt
 μs:Wt
 μr:Wt
def nu(S:nY)(c:Nat):Wt:=if c+1≤X.n then S.μ (c+1)else S.μr
structure PI(W:D1)(S:nY)(gs:Array aqi)(w:aly)(t:ap8):Prop where
 m0:0<W.m
 size:gs.size=W.m+S.j
 Sm:S.j≤X.n+1
 main: ∃a,gs[0]? =some a∧iv X S.j (aq0 (X.n+1) S.D) S.k (dR S.c (X.n+1)) (S.c.r (X.n+1)) w a S.tag S.added S.dd S.μs S.μr
 old: ∀i g,0<i→i<W.m→gs[i]? =some g→QuitsD X.P (S.q i) (arf t i) g
 wk: ∀i,i<S.j→∃g,gs[W.m+i]? =some g∧wG X i (S.k (i- 1)) (S.k i) (dR S.c i) (aW S.c i) (S.c.r i) w g (S.D i) (S.μ i)
 off: ∀i,S.j≤i→i≠X.n+1→(∀b,¬(S.c.r i).Has b)∧(S.c.r i).tok=none
 stage: ∀i,S.j≤i→S.D i=⟨7,0,0⟩
 XM: ∀i,S.c.ch i≠none↔i<S.j
 dp:lM X.P X.F S.k X.wg S.c w
 told:Told (gid W.m X.n) S.c w t
 handed:Handed S.k S.c t
 XN: ∀i,i<S.j→NM t (W.m+i) (S.k i)
 items: ∀i,i<S.j→∀p x,(aW S.c i).aJ[p]? =some x→X.Item p x
 rT: ∀i,i+1=S.j→S.j≤X.n→(aW S.c i).rc=0∧((aW S.c i).cl=true→∃f v,(aW S.c i).pend=some (f,v)∧X.Pre i (aW S.c i).aJ f v)
 mI: ∀c,c<S.j→(c+1<S.j∨c=X.n)→(aW S.c c).cl=false→(nu X S c).1=12
 quiet:Quiet (ShN X.wg) t
 norel: ∀op∈t,∀a,op.act≠ .mark (.release a)
 low: ∀op∈t,op.act.low w.heap.size
 gs: ∀op∈t,op.g<W.m+S.j
 d0:arf t 0=S.dd
 dW: ∀i,i<S.j→arf t (W.m+i)=(S.D i).deaf
 rel: ∀i,i<S.j→(S.D i).stage≤6→∃r,RelBy (stA X.wg) t (W.m+i) r
 over: ∀x g,t.g? x=some g→g≠0→g<W.m→t.counts x→∃y,t.g? y=some 0∧HappensBefore t x y
 acq:S.tag= .ret→AcqAll W.m X.n X.wg t
 wI: ∃st sm,WgAt X.ty X.wg w st sm∧((S.added=false∧st=0∧sm=0)∨(S.added=true∧aqS (X.n+1) S.D S.tag st sm))
 tape:w.tape=W.tape
 os:w.os=W.os
 output:w.output=W.output
def nY.f(S:nY)(m n:Nat):Nat→Wt
 |0=>(0,sumTo m S.q,.leaf)
 |1=>S.μs
 |x+2=>if x≤n then S.μ x else S.μr
def nY.row(S:nY)(m n:Nat):Row (n+4):=Go.Upr.row (S.f m n) (n+4) 0
structure Pl.Ok:Prop where
 aai: ∀i a b,0<i→i≤X.n→Recvs X.P X.F (λ_=>a) X.Pre X.Item false (i- 1) X.z (X.A i a b) (Snd X i b)
 aaj: ∀a,Recvs X.P X.F (λ_=>a) X.Pre X.Item true X.n X.z (X.AM a) (BU X)
 small:X.n+1<2147483647
end
end Go.Upr
end
section
namespace Go.Upr
open Go.Conc
open Go.ConcN (upd upd_same upd_ne sumTo WD CTag WSit RW RW.trans RW.refl DWs AtR0 WgLive ShN RelBy Has)
open Go.ConcR (KK WgAt stA smA rd wr mk DC0 Bk)
theorem RM.refl{P:alu}{F:alB→Bool}{r:bF}{ty:acs}{wg:Nat}(w:aly):RM P F r ty wg w w:=⟨id,id⟩
theorem RM.trans{P:alu}{F:alB→Bool}{r:bF}{ty:acs}{wg:Nat}(a b c:aly)(h:RM P F r ty wg a b)(h':RM P F r ty wg b c):RM P F r ty wg a c:=⟨h'.1 ∘ h.1,h'.2 ∘ h.2⟩
section
variable{X:Pl}{r:bF}{w w':aly}
theorem UA{P:alu}{F:alB→Bool}{C:Nat}{y:aad}{ety:acs}(hf:r.Fits P F w)(h:r.e C=some (.cells #[y] ety)):w.heap[C]? =some (.cells #[y] ety)∧w.cell? ⟨C,0,none⟩=some y:=by
 have:=hf.e _ _ h;exact⟨this,by simp[World.cell?,this]⟩
theorem aah{C:Nat}{y:aad}{ety:acs}(h:r.e C=some (.cells #[y] ety))(hf:r.Fits X.P X.F w)(hf':r.Fits X.P X.F w')(hl:WgLive X.ty X.wg w→WgLive X.ty X.wg w'): @RW ⟨ety⟩ X.ty X.wg C 1 0 0 w w':=by
 obtain⟨h1,h2⟩:=UA hf h;obtain⟨h3,h4⟩:=UA hf' h;refine @RW.mk ⟨ety⟩ _ _ _ _ _ _ _ _ (λb hb _ _=>absurd hb (Nat.not_lt_zero b)) hl (λ_=>⟨#[y],h3,rfl⟩) (h4.trans h2.symm)
theorem mS.stay{d:WD}{g:aqi}(h:mS X r d g w)(hf:r.Fits X.P X.F w)(hf':r.Fits X.P X.F w')(hl:WgLive X.ty X.wg w→WgLive X.ty X.wg w'):mS X r d g w':=by
 obtain⟨ety,C,x,h0,h1,h2⟩:=h;refine⟨ety,C,x,h0,h1,?_⟩;rcases h2 with⟨a1,a2,a3⟩|⟨a1,a2⟩
 ·exact .inl ⟨a1,a2,aqM (R:= @RW ⟨ety⟩ X.ty X.wg C 1 0 0) (λa b c p q=> @RW.trans ⟨ety⟩ _ _ _ _ _ _ a b c p q) a3 (aah h1 hf hf' hl)⟩
 ·exact .inr ⟨a1,@WSit.rely ⟨ety⟩ _ _ _ _ _ _ _ _ _ _ _ _ _ _ _ _ a2 (aah h1 hf hf' hl)⟩
theorem mS.status{d:WD}{g:aqi}(h:mS X r d g w):g.status= .running∨g.status= .finished:=by
 obtain⟨ety,C,x,_,_,h2⟩:=h;rcases h2 with⟨_,_,a3⟩|⟨_,a2⟩
 ·exact .inl (aqP (λ_ _ x=>x.1) w (@RW.refl ⟨ety⟩ _ _ _ _ _ _ w) a3)
 ·exact @WSit.status ⟨ety⟩ _ _ _ _ _ _ _ _ _ _ _ _ _ _ _ a2
theorem my{P:alu}{g g' o:aqi}{w':aly}(h:o.again w'=o):woken P g g' w' o=o:=by
 unfold woken;split
 ·exact h
 ·rfl
theorem wo{h:aqi}{cc:CommCase}{sh:CommShape}{w:aly}{a cap s q:Nat}{buf:Array aad}{tm:Bool}(hk:cc.chan= .chan (some a))(hc:w.heap[a]? =some (.chan cap buf false s q tm)):(parked h #[cc] sh).again w=parked h #[cc] sh:=by
 simp[aq1,parked,hk,hc]
theorem Ng{h:aqi}{cc:CommCase}{sh:CommShape}{w:aly}{a cap s q:Nat}{buf:Array aad}{tm:Bool}(hk:cc.chan= .chan (some a))(hc:w.heap[a]? =some (.chan cap buf true s q tm)):(parked h #[cc] sh).again w={parked h #[cc] sh with status:= .running}:=by
 simp[aq1,parked,hk,hc]
theorem wG.stay{i a b:Nat}{dR out:Ch}{g:aqi}{d:WD}{μ:Wt}(h:wG X i a b dR out r w g d μ)(hf:r.Fits X.P X.F w)(hf':r.Fits X.P X.F w')(hl:WgLive X.ty X.wg w→WgLive X.ty X.wg w')
  (ha:(∃fr cs,g=parked (G fr cs) #[rcase a X.z] (.recv true))→0<i→w'.heap[a]? =some dR.obj) (hb:w'.heap[b]? =some out.obj∨out.cl=true∨∀fr cs v zz,g≠parked (G fr cs) #[scase b v zz] .send) (g1 g1':aqi):wG X i a b dR out r w' (woken X.P g1 g1' w' g) d μ:=by
 have run: ∀ {fr cs},si g fr cs→woken X.P g1 g1' w' g=g:=λhg=>my (aqY _ (.inl hg.2.2.1));cases h with
 |recv hi hg h ho hp=>rw[run hg];exact .recv hi hg h ho hp
 |cf hi h he ho=>
  rw[my (wo (a:=a) rfl (by rw[ha ⟨_,_,rfl⟩ hi];unfold Ch.obj;rw[he.2]))];exact .cf hi h he ho
 |work hg h ho=>rw[run hg];exact .work hg h ho
 |send hg h ho=>rw[run hg];exact .send hg h ho
 |dD hx h ho Fa=>
  rcases hb with hb|hb|hb
  ·rw[my (wo (a:=b) rfl (by rw[hb];unfold Ch.obj;rw[ho]))];exact .dD hx h ho Fa
  ·rw[ho]at hb;cases hb
  ·exact absurd rfl (hb _ _ _ _)
 |shut h ho=>rw[run (jm _ _)];exact .shut h ho
 |tail h ho=>
  rw[my (aqY _ h.status)];exact .tail (h.stay hf hf' hl) ho
theorem wG.awake{i a b:Nat}{dR out:Ch}{g:aqi}{d:WD}{μ:Wt}(h:wG X i a b dR out r w g d μ):awake g:=by
 intro tm;cases h with
 |recv hi hg h ho hp=>rw[hg.2.2.1];simp
 |cf hi h he ho=>simp[parked]
 |work hg h ho=>rw[hg.2.2.1];simp
 |send hg h ho=>rw[hg.2.2.1];simp
 |dD hx h ho Fa=>simp[parked]
 |shut h ho=>simp[G]
 |tail h ho=>rcases h.status with h|h<;>rw[h]<;>simp
/-! ### the starter-/
theorem kC.status{v:Nat}{eU:aqi→aly→Prop}(hA: ∀g w,eU g w→g.status= .running){g:aqi}{tag:CTag}{dd:Nat}{μ:Nat×Nat}(h:kC X v r w eU g tag dd μ):
  (g.status= .running∧tag≠ .blk)∨(g.status= .blocked∧tag= .blk):=by
 cases h with
 |kd h=>exact .inl ⟨aqP (λ_ _ x=>x.1) w (.refl w) h,by simp⟩
 |anch h=>exact .inl ⟨aqP hA w (.refl w) h,by simp⟩
 |w1 h=>exact .inl ⟨aqP (λ_ _ x=>x.1) w (.refl w) h,by simp⟩
 |w2 h=>exact .inl ⟨aqP (λ_ _ x=>x.1) w (.refl w) h,by simp⟩
 |said h=>exact .inl ⟨aqP (λ_ _ x=>x.1) w (.refl w) h,by simp⟩
 |w3 h=>exact .inl ⟨aqP (λ_ _ x=>x.1) w (.refl w) h,by simp⟩
 |blk h=>exact .inr ⟨rfl,rfl⟩
 |w4 h=>exact .inl ⟨aqP (λ_ _ x=>x.1) w (.refl w) h,by simp⟩
 |ke h=>exact .inl ⟨aqP (λ_ _ x=>x.1) w (.refl w) h,by simp⟩
 |acq h=>exact .inl ⟨aqP (λ_ _ x=>x.1) w (.refl w) h,by simp⟩
 |fin h=>exact .inl ⟨aqP (λ_ _ x=>by obtain⟨_,_,rfl,_⟩:=x;rfl) w (.refl w) h,by simp⟩
theorem kC.rely{v:Nat}(v':Nat){eU:aqi→aly→Prop}{g:aqi}{tag:CTag}{dd:Nat}{μ:Nat×Nat}(h:kC X v r w eU g tag dd μ)(hr:RM X.P X.F r X.ty X.wg w w'): ∃μ',kC X v' r w' eU g tag dd μ'∧(v'=v→μ'=μ):=by
 have tr:=λa b c=>RM.trans (P:=X.P) (F:=X.F) (r:=r) (ty:=X.ty) (wg:=X.wg) a b c;cases h with
 |kd h=>exact⟨_,.kd (aqM tr h hr),λ_=>rfl⟩
 |anch h=>exact⟨_,.anch (aqM tr h hr),λe=>by rw[e]⟩
 |w1 h=>exact⟨_,.w1 (aqM tr h hr),λe=>by rw[e]⟩
 |w2 h=>exact⟨_,.w2 (aqM tr h hr),λ_=>rfl⟩
 |said h=>exact⟨_,.said (aqM tr h hr),λ_=>rfl⟩
 |w3 h=>exact⟨_,.w3 (aqM tr h hr),λ_=>rfl⟩
 |blk h=>exact⟨_,.blk λw₁ h₁=>h w₁ (tr _ _ _ hr h₁),λ_=>rfl⟩
 |w4 h=>exact⟨_,.w4 (aqM tr h hr),λ_=>rfl⟩
 |ke h=>exact⟨_,.ke (aqM tr h hr),λ_=>rfl⟩
 |acq h=>exact⟨_,.acq (aqM tr h hr),λ_=>rfl⟩
 |fin h=>exact⟨_,.fin (aqM tr h hr),λ_=>rfl⟩
theorem b_{R:aly→aly→Prop}{D:aly→aly→Array amp→Prop}{Stop:aqi→aly→Prop}{mb:Bool}{N:Nat}{g:aqi}{P:alu}(hR: ∀w,R w w)(hS: ∀g w,Stop g w→g.status= .running)(h:Goes P mb R D Stop N g w):g.status= .running:=
 aqP hS w (hR w) h
theorem iv.status{j v:Nat}{k:Nat→Nat}{dR:Ch}{g:aqi}{tag:CTag}{ad:Bool}{dd:Nat}{μs μr:Wt}(h:iv X j v k dR r w g tag ad dd μs μr):
  g.status= .running∨(g.status= .blocked∧(tag= .blk∨∃fr cs,g=parked (G fr cs) #[rcase (k X.n) X.z] (.recv true)∧j=X.n+1∧dR.rc=dR.aJ.length∧dR.cl=false)):=by
 cases h with
 |pre _ _=>exact .inl rfl
 |a1 _ h=>exact .inl (b_ RM.refl (λ_ _ x=>x.1) h)
 |a2 _ h=>exact .inl (b_ RM.refl (λ_ _ x=>x.1) h)
 |a3 _ h=>exact .inl (b_ RM.refl (λ_ _ x=>x.1) h)
 |a4 _ h=>exact .inl (b_ RM.refl (λ_ _ x=>x.1) h)
 |a5 _ h=>exact .inl (b_ RM.refl (λ_ _ x=>by obtain⟨_,_,rfl,_⟩:=x;rfl) h)
 |spawn _ hg _=>exact .inl hg.2.2.1
 |recv _ hg _ _=>exact .inl hg.2.2.1
 |cf hj h he=>exact .inr ⟨rfl,.inr ⟨_,_,rfl,hj,he⟩⟩
 |post _ _=>exact .inl rfl
 |wait eU hj hA h=>exact(h.status λg w h=>(hA g w h).1).imp (λh=>h.1) λh=>⟨h.1,.inl h.2⟩
theorem iv.stay{j v:Nat}(v':Nat){k:Nat→Nat}{dR:Ch}{g:aqi}{tag:CTag}{ad:Bool}{dd:Nat}{μs μr:Wt}(h:iv X j v k dR r w g tag ad dd μs μr)(hf':r.Fits X.P X.F w')(hl:WgLive X.ty X.wg w→WgLive X.ty X.wg w')
  (ha:(∃fr cs,g=parked (G fr cs) #[rcase (k X.n) X.z] (.recv true))→j=X.n+1→w'.heap[k X.n]? =some dR.obj) (g1 g1':aqi):
  ∃cF μr',iv X j v' k dR r w' (woken X.P g1 g1' w' g) cF ad dd μs μr'∧(cF=tag∨(tag= .blk∧cF= .w3))∧(mayWake X.P g1=true→g1'.status= .running→cF≠ .blk)∧μr'.1=μr.1:=by
 have run:g.status= .running→woken X.P g1 g1' w' g=g:=λhg=>my (aqY _ (.inl hg));have hr:RM X.P X.F r X.ty X.wg w w':=⟨λ_=>hf',hl⟩;have tr:=λa b c=>RM.trans (P:=X.P) (F:=X.F) (r:=r) (ty:=X.ty) (wg:=X.wg) a b c;cases h with
 |pre hj h=>rw[run rfl];exact⟨_,_,.pre hj h,.inl rfl,λ_ _=>by simp,rfl⟩
 |a1 hj h=>rw[run (b_ RM.refl (λ_ _ x=>x.1) h)];exact⟨_,_,.a1 hj (aqM tr h hr),.inl rfl,λ_ _=>by simp,rfl⟩
 |a2 hj h=>rw[run (b_ RM.refl (λ_ _ x=>x.1) h)];exact⟨_,_,.a2 hj (aqM tr h hr),.inl rfl,λ_ _=>by simp,rfl⟩
 |a3 hj h=>rw[run (b_ RM.refl (λ_ _ x=>x.1) h)];exact⟨_,_,.a3 hj (aqM tr h hr),.inl rfl,λ_ _=>by simp,rfl⟩
 |a4 hj h=>rw[run (b_ RM.refl (λ_ _ x=>x.1) h)];exact⟨_,_,.a4 hj (aqM tr h hr),.inl rfl,λ_ _=>by simp,rfl⟩
 |a5 hj h=>rw[run (b_ RM.refl (λ_ _ x=>by obtain⟨_,_,rfl,_⟩:=x;rfl) h)];exact⟨_,_,.a5 hj (aqM tr h hr),.inl rfl,λ_ _=>by simp,rfl⟩
 |spawn hq hg h=>rw[run hg.2.2.1];exact⟨_,_,.spawn hq hg h,.inl rfl,λ_ _=>by simp,rfl⟩
 |recv hj hg h hp=>rw[run hg.2.2.1];exact⟨_,_,.recv hj hg h hp,.inl rfl,λ_ _=>by simp,rfl⟩
 |cf hj h he=>
  rw[my (wo (a:=k X.n) rfl (by rw[ha ⟨_,_,rfl⟩ hj];unfold Ch.obj;rw[he.2]))];exact⟨_,_,.cf hj h he,.inl rfl,λ_ _=>by simp,rfl⟩
 |post hj h=>rw[run rfl];exact⟨_,_,.post hj h,.inl rfl,λ_ _=>by simp,rfl⟩
 |wait eU hj hA h=>
  obtain⟨μ',h',_⟩:=h.rely v' hr;rcases h'.status (λg w h=>(hA g w h).1)with⟨hs,hne⟩|⟨hs,rfl⟩
  ·rw[run hs];exact⟨_,_,.wait eU hj hA h',.inl rfl,λ_ _=>hne,rfl⟩
  ·cases h' with
   |blk hb=>
    rename_i g0 _;have h3:=hb w' (.refl w');by_cases hc:(mayWake X.P g1&&g1'.status != .blocked&&g1'.status != .waiting)=true
    ·have:woken X.P g1 g1' w' {g0 with status:= .blocked}=g0:=by
      unfold woken;rw[if_pos hc];exact arl h3.1 h3.2.1 w'
     rw[this];exact⟨_,_,.wait eU hj hA (.w3 (N:=0) hb),.inr ⟨rfl,rfl⟩,λ_ _=>by simp,rfl⟩
    ·have:woken X.P g1 g1' w' {g0 with status:= .blocked}={g0 with status:= .blocked}:=by
      unfold woken;rw[if_neg hc]
     rw[this];exact⟨_,_,.wait eU hj hA (.blk hb),.inl rfl,λh1 h2=>absurd (by simp[h1,h2]) hc,rfl⟩
end
end Go.Upr
end
section
namespace Go.Upr
open Go.Conc
open Go.ConcN (upd upd_same upd_ne sumTo WD CTag WSit RW DWs AtR0 WgLive ShN RelBy Has)
open Go.ConcR (KK WgAt stA smA rd wr mk DC0 Bk)
theorem VF{wg b:Nat}{l:Loc}(h:ShN wg l)(hb:iK b l):b=wg:=by
 obtain⟨a,rfl,rfl⟩:=h;exact hb.symm
section
variable{gi:Nat→Nat}{c:o_}{w w1:aly}{t u:ap8}
theorem Told.aside(h:Told gi c w t)(hc: ∀said,¬Race said (t++u))(hu: ∀op∈u,∀x,op.act.touch?=some x→∀b,iK b x.loc→(∀i,¬(c.r i).Has b)∧b<w1.heap.size)(hs:w.heap.size≤w1.heap.size):Told gi c w1 (t++u):=
 ⟨hc,λi b hb=>(h.own i b hb).app λop hop x hx hl=>absurd (.inl hb) ((hu op hop x hx b hl).1 i),λi b hb=>(h.read i b hb).app λop hop x hx hl _=>absurd (.inr hb) ((hu op hop x hx b hl).1 i),(h.low.mono hs).app λop hop x hx b hl=>(hu op hop x hx b hl).2⟩
theorem xK{i:Nat}{op:MemOp}(h:t[i]? =some op)(hn:op.act.touch?=none): ¬t.counts i:=by
 rintro⟨x,hx,_⟩;have:(t.act? i).bind (·.touch?)=none:=by rw[act?_of h];exact hn
 rw[this]at hx;cases hx
theorem qA{a:Addr}{k r:Nat}(h:RelBy a t k r)(hu: ∀op∈u,op.g=k→op.act.touch?=none):RelBy a (t++u) k r:=by
 refine h.app λi hi hg=>?_;obtain⟨op,ho,Sx⟩:=ant.1 hg;rcases aq6 ho with⟨hlt,_⟩|⟨_,hou⟩
 ·omega
 ·exact xK ho (hu op hou Sx)
theorem AcqAll.app{m n wg:Nat}(h:AcqAll m n wg t)(hu: ∀op∈u,∀i,i<n+1→op.g=m+i→op.act.touch?=none):AcqAll m n wg (t++u):=by
 obtain⟨q,h1,h2,h3,h4⟩:=h;have hq:=lt_of_act? h1;exact⟨q,by rw[act?_old hq];exact h1,by rw[g?_old hq];exact h2,(heard_old hq).2 h3,λi hi=>let⟨r,hr,hrq⟩:=h4 i hi; ⟨r,qA hr λop hop e=>hu op hop i hi e,hrq⟩⟩
end
section
variable{X:Pl}{W:D1}{S S':nY}{gs gs':Array aqi}{w w':aly}{t u:ap8}
theorem PI.next(h:PI X W S gs w t)(ej:S'.j=S.j)(ek:S'.k=S.k)(eq:S'.q=S.q)(hsz:gs'.size=gs.size)(hold: ∀i g,0<i→i<W.m→gs'[i]? =some g→∃g0,gs[i]? =some g0∧(g.status= .running∨g.status= .finished→g=g0)∧(g0.status= .running∨g0.status= .finished→g=g0))
  (TL: ∃a,gs'[0]? =some a∧iv X S.j (aq0 (X.n+1) S'.D) S.k (dR S'.c (X.n+1)) (S'.c.r (X.n+1)) w' a S'.tag S'.added S'.dd S'.μs S'.μr)
  (hwk: ∀i,i<S.j→∃g,gs'[W.m+i]? =some g∧wG X i (S.k (i- 1)) (S.k i) (dR S'.c i) (aW S'.c i) (S'.c.r i) w' g (S'.D i) (S'.μ i))
  (hr: ∀i,S.j≤i→i≠X.n+1→S'.c.r i=S.c.r i) (hD: ∀i,S.j≤i→S'.D i=S.D i) (hch: ∀i,S'.c.ch i≠none↔S.c.ch i≠none)
  (hit: ∀i,i<S.j→∀p x,(Go.Upr.aW S'.c i).aJ[p]? =some x→X.Item p x) (hw0: ∀i,i+1=S.j→S.j≤X.n→(aW S'.c i).rc=0∧((aW S'.c i).cl=true→∃f v,(aW S'.c i).pend=some (f,v)∧X.Pre i (aW S'.c i).aJ f v)) (hg:lM X.P X.F S.k X.wg S'.c w') (ht:Told (gid W.m X.n) S'.c w' (t++u)) (hh:Handed S.k S'.c (t++u)) (hB:w.heap.size≤w'.heap.size) (ky: ∀c,c<S.j→(c+1<S.j∨c=X.n)→(Go.Upr.aW S'.c c).cl=false→(nu X S' c).1=12)
  (WJ: ∀op∈u,op.g=0∨∃i,i<S.j∧op.g=W.m+i) (hq: ∀op∈u,∀x,op.act.touch?=some x→ShN X.wg x.loc→x.kind≠ .plain∧(x.kind= .said→op.g=0))
  (hck: ∀op∈u,∀x,op.act.touch?=some x→x.write=true→∀i,i<S.j→¬iK (S.k i) x.loc)
  (hn: ∀op∈u,∀a,op.act≠ .mark (.release a)) (hl: ∀op∈u,op.act.low w'.heap.size) (hd0:arf (t++u) 0=S'.dd) (hdW: ∀i,i<S.j→arf (t++u) (W.m+i)=(S'.D i).deaf)
  (hdO: ∀i,0<i→i<W.m→arf (t++u) i=arf t i)
  (hrel: ∀i,i<S.j→(S'.D i).stage≤6→((S.D i).stage≤6∧∀op∈u,op.g=W.m+i→op.act.touch?=none)∨∃r,RelBy (stA X.wg) (t++u) (W.m+i) r)
  (vE:S'.tag= .ret→AcqAll W.m X.n X.wg (t++u))
  (ij: ∃st sm,WgAt X.ty X.wg w' st sm∧((S'.added=false∧st=0∧sm=0)∨(S'.added=true∧aqS (X.n+1) S'.D S'.tag st sm)))
  (Xi:w'.tape=w.tape) (Xq:w'.os=w.os) (hop:w'.output=w.output):PI X W S' gs' w' (t++u) where
 m0:=h.m0
 size:=by rw[hsz,ej];exact h.size
 Sm:=by rw[ej];exact h.Sm
 main:=by rw[ej,ek];exact TL
 old:=λi g h0 hm hi=>by
  obtain⟨g0,h1,h2,h3⟩:=hold i g h0 hm hi;have hq:=h.old i g0 h0 hm h1;rw[h3 hq.status,eq,hdO i h0 hm];exact hq
 wk:=by rw[ej,ek];exact hwk
 off:=λi h1 h2=>by rw[ej]at h1;rw[hr i h1 h2];exact h.off i h1 h2
 stage:=λi h1=>by rw[ej]at h1;rw[hD i h1];exact h.stage i h1
 XM:=λi=>by rw[ej,hch i];exact h.XM i
 dp:=by rw[ek];exact hg
 told:=ht
 handed:=by rw[ek];exact hh
 XN:=λi hi=>by
  rw[ej]at hi;rw[ek];exact(h.XN i hi).app λop hop x hx hlc hw=>absurd hlc (hck op hop x hx hw i hi)
 items:=λi hi=>by rw[ej]at hi;exact hit i hi
 rT:=λi h1 h2=>by rw[ej]at h1 h2;exact hw0 i h1 h2
 mI:=λc h1 h2 h3=>by rw[ej]at h1 h2;exact ky c h1 h2 h3
 quiet:=h.quiet.app hq
 norel:=λop hop=>(aoi.1 hop).elim (h.norel op) (hn op)
 low:=λop hop=>(aoi.1 hop).elim (λh1=>MemAct.low_mono hB (h.low op h1)) (hl op)
 gs:=λop hop=>by
  rw[ej];rcases aoi.1 hop with h1|h1
  ·exact h.gs op h1
  ·have:=h.m0;rcases WJ op h1 with h2|⟨i,h2,h3⟩<;>omega
 d0:=hd0
 dW:=λi hi=>by rw[ej]at hi;exact hdW i hi
 rel:=λi hi hs=>by
  rw[ej]at hi;rcases hrel i hi hs with⟨h1,h2⟩|h1
  ·obtain⟨r,hr⟩:=h.rel i hi h1;exact⟨r,qA hr h2⟩
  ·exact h1
 over:=λx g hxg hne hlt Dq=>by
  unfold aq7 at hxg;obtain⟨op,ho,Sx⟩:=ant.1 hxg;rcases aq6 ho with⟨hi,m_⟩|⟨_,hou⟩
  ·obtain⟨y,hy,hb⟩:=h.over x g (by simp[aq7,m_,Sx]) hne hlt ((counts_old hi).1 Dq);have Xe:y<t.size:=by
    unfold aq7 at hy;obtain⟨z,hz,_⟩:=ant.1 hy;exact lt_size_of_getElem? hz
   exact⟨y,by rw[g?_old Xe];exact hy,hb_app u hb⟩
  ·rcases WJ op hou with h2|⟨i,_,h3⟩<;>omega
 acq:=vE
 wI:=ij
 tape:=Xi.trans h.tape
 os:=Xq.trans h.os
 output:=hop.trans h.output
theorem PI.live(h:PI X W S gs w t):WgLive X.ty X.wg w:=let⟨st,sm,hw,_⟩:=h.wI; ⟨st,sm,hw⟩
theorem PI.eO(h:PI X W S gs w t){i:Nat}(hi:i<S.j):S.c.ch i=some (aW S.c i):=by
 have:=(h.XM i).2 hi;unfold Go.Upr.aW;cases hc:S.c.ch i with
 |none=>exact absurd hc this
 |some x=>rfl
theorem lR{c:o_}(i:Nat):dR c (i+1)=aW c i:=rfl
theorem uf{c:o_}(i:Nat):dR c i=aW c (i- 1):=rfl
theorem PI.LW(h:PI X W S gs w t){i:Nat}(hi:i<S.j):w.heap[S.k i]? =some (Go.Upr.aW S.c i).obj:=h.dp.chan i _ (h.eO hi)
end
end Go.Upr
end
section
namespace Go.Upr
open Go.Conc
open Go.ConcN (upd upd_same upd_ne sumTo WD CTag WSit RW DWs AtR0 WgLive ShN RelBy Has)
open Go.ConcR (KK WgAt stA smA rd wr mk DC0 Bk)
def Hu(wg:Nat)(mn:Bool)(e:amp):Prop:=
 (∃m,e.loc= .mark m∧(m= .disable∨m= .enable∨m= .acquire (stA wg)∨m= .releaseMerge (stA wg)∨(mn=true∧(m= .read (smA wg)∨m= .write (smA wg)))))∨∃a wr,e=⟨.cell a,wr,true⟩∧a.block=wg
section
variable{wg:Nat}{mn:Bool}{e:amp}
theorem yP{e:amp}{m:Mark}(h:e.loc= .mark m):apS e= .mark m:=by
 obtain⟨loc,wr,sy⟩:=e;dsimp only at h;subst h;cases wr<;>cases sy<;>rfl
theorem Hu.touch(h:Hu wg mn e){x:Touch}(hx:(apS e).touch?=some x):ShN wg x.loc∧x.kind≠ .plain∧(x.kind= .said→mn=true):=by
 rcases h with⟨m,he,hm⟩|⟨a,wr,rfl,ha⟩
 ·rw[yP he]at hx;rcases hm with rfl|rfl|rfl|rfl|⟨hn,rfl|rfl⟩
  ·simp[apZ]at hx
  ·simp[apZ]at hx
  ·simp[apZ]at hx
  ·simp[apZ]at hx
  ·simp only[apZ,apx]at hx;subst hx;exact⟨⟨_,rfl,rfl⟩,by simp,λ_=>hn⟩
  ·simp only[apZ,apx]at hx;subst hx;exact⟨⟨_,rfl,rfl⟩,by simp,λ_=>hn⟩
 ·simp only[apS,apZ,apx]at hx;subst hx;exact⟨⟨a,rfl,ha⟩,by simp,by simp⟩
theorem Hu.low(h:Hu wg mn e){B:Nat}(hB:wg<B):(apS e).low B:=by
 rcases h with⟨m,he,hm⟩|⟨a,wr,rfl,ha⟩
 ·rw[yP he];rcases hm with rfl|rfl|rfl|rfl|⟨_,rfl|rfl⟩<;>first|trivial|exact hB
 ·show a.block<B;omega
theorem Hu.norel(h:Hu wg mn e)(b:Addr):apS e≠ .mark (.release b):=by
 rcases h with⟨m,he,hm⟩|⟨a,wr,rfl,_⟩
 ·rw[yP he];rcases hm with rfl|rfl|rfl|rfl|⟨_,rfl|rfl⟩<;>simp
 ·simp[apS]
theorem Hu.Ij(h:Bk wg e):Hu wg mn e:=by
 rcases h with h|h|⟨a,w,he,ha⟩
 ·exact .inl ⟨_,h,.inl rfl⟩
 ·exact .inl ⟨_,h,.inr (.inl rfl)⟩
 ·exact .inr ⟨a,w,he,ha⟩
end
section
variable{P:alu}{F:alB→Bool}{k:Nat→Nat}{wg:Nat}{c:o_}{w w1:aly}
theorem lM.group(h:lM P F k wg c w)(hne: ∀b,b≠wg→w1.heap[b]? =w.heap[b]?)(hs:w1.heap.size=w.heap.size):lM P F k wg c w1:=by
 refine⟨λj=>(h.fits j).other (λb hb=>hne b λe=>h.jO j (e▸hb)) (aqX hs.symm),h.sep,λj x hx=>?_,h.Sj,h.free,h.inj,by rw[hs];exact h.Br,h.jO,h.Ab,λj x f v hx hp=>?_,h.f_⟩
 ·rw[hne _ (h.Ab j x hx)];exact h.chan j x hx
 ·exact(h.pend j x f v hx hp).other (λa b hab=>hne b λe=>(h.f_ j x f v a b hx hp hab).2.1 e) (aqX hs.symm)
end
section
variable{X:Pl}{W:D1}{S:nY}{gs:Array aqi}{w w':aly}{t:ap8}
theorem dE{G:Nat}: ∀ {op:MemOp} {fn:alB} {pos:String} {es:Array amp},op∈ap6 G fn pos es→op.g=G:=λhop=>by
 obtain⟨e,_,rfl⟩:=aqO hop;rfl
theorem PI.KJ(h:PI X W S gs w t){G:Nat}{mn:Bool}{fn:alB}{pos:String}{es:Array amp}(hes: ∀e∈es,Hu X.wg mn e)(DN:mn=true→G=0)(hne: ∀b,b≠X.wg→w'.heap[b]? =w.heap[b]?)(hs:w'.heap.size=w.heap.size):
  lM X.P X.F S.k X.wg S.c w'∧Told (gid W.m X.n) S.c w' (t++ap6 G fn pos es)∧Handed S.k S.c (t++ap6 G fn pos es)∧
  (∀op∈ap6 G fn pos es,∀x,op.act.touch?=some x→ShN X.wg x.loc→x.kind≠ .plain∧(x.kind= .said→op.g=0))∧
  (∀op∈ap6 G fn pos es,∀x,op.act.touch?=some x→x.write=true→∀i,i<S.j→¬iK (S.k i) x.loc)∧
  (∀op∈ap6 G fn pos es,∀a,op.act≠ .mark (.release a))∧(∀op∈ap6 G fn pos es,op.act.low w'.heap.size):=by
 have hg:=h.dp.group hne hs;have WC: ∀op∈ap6 G fn pos es,∀x,op.act.touch?=some x→ShN X.wg x.loc∧x.kind≠ .plain∧(x.kind= .said→op.g=0):=by
  intro op hop x hx;obtain⟨e,he,rfl⟩:=aqO hop;obtain⟨h1,h2,h3⟩:=(hes e he).touch hx;exact⟨h1,h2,λhk=>DN (h3 hk)⟩
 have blk: ∀op∈ap6 G fn pos es,∀x,op.act.touch?=some x→∀b,iK b x.loc→b=X.wg:=λop hop x hx b hb=>VF (WC op hop x hx).1 hb;refine⟨hg,?_,?_,λop hop x hx _=>(WC op hop x hx).2,λop hop x hx _ i hi hl=>?_,λop hop=>?_,λop hop=>?_⟩
 ·refine h.told.aside (λsaid=>noRace_append (h.told.clean said) (λop hop=>dE hop) λi a ha op hop b hb hc=>?_) (λop hop x hx b hb=>?_) (aqX hs.symm)
  ·obtain⟨h1,h2,h3⟩:=WC op hop b hb;exact h.quiet.known h1 h2 (λe=>(dE hop).symm.trans (h3 e)) i a ha hc
  ·rw[blk op hop x hx b hb];exact⟨h.dp.jO,by rw[hs];exact h.dp.Br⟩
 ·exact h.handed.app λi x f v a b hx hp hab op hop y hy hl=>(h.dp.f_ i x f v a b hx hp hab).2.1 (blk op hop y hy b hl)
 ·have:=blk op hop x hx _ hl;exact h.dp.Ab i _ (h.eO hi) this
 ·obtain⟨e,he,rfl⟩:=aqO hop;exact(hes e he).norel
 ·obtain⟨e,he,rfl⟩:=aqO hop;exact(hes e he).low hg.Br
theorem O5{r:bF}{e:amp}(h:Ku r e){B:Nat}(hB: ∀b,r.Has b→b<B):(apS e).low B:=by
 unfold Ku at h;split at h
 ·rename_i a wr s;obtain⟨rfl,h⟩:=h;have:r.Has a.block:=h.imp id λh=>h.2;cases wr<;>exact hB _ this
 ·rename_i o wr s;obtain⟨rfl,h⟩:=h;have:r.Has o:=h.imp id λh=>h.2;cases wr<;>exact hB _ this
 ·trivial
 ·trivial
 ·exact h.elim
theorem PI.own(h:PI X W S gs w t){p:Nat}{r1:bF}{fn:alB}{pos:String}{es:Array amp}(ho:Only (S.c.r p) r1 w w')(hf:r1.Fits X.P X.F w')(hes: ∀e∈es,Ku r1 e):
  lM X.P X.F S.k X.wg {S.c with r:=upd S.c.r p r1} w'∧Told (gid W.m X.n) {S.c with r:=upd S.c.r p r1} w' (t++ap6 (gid W.m X.n p) fn pos es)∧Handed S.k {S.c with r:=upd S.c.r p r1} (t++ap6 (gid W.m X.n p) fn pos es)∧
  (∀op∈ap6 (gid W.m X.n p) fn pos es,∀x,op.act.touch?=some x→ShN X.wg x.loc→x.kind≠ .plain∧(x.kind= .said→op.g=0))∧
  (∀op∈ap6 (gid W.m X.n p) fn pos es,∀x,op.act.touch?=some x→x.write=true→∀i,i<S.j→¬iK (S.k i) x.loc)∧
  (∀op∈ap6 (gid W.m X.n p) fn pos es,∀a,op.act≠ .mark (.release a))∧(∀op∈ap6 (gid W.m X.n p) fn pos es,op.act.low w'.heap.size)∧w'.heap[X.wg]? =w.heap[X.wg]? ∧∀d,deafBehind d es=d:=by
 have hg:=h.dp.own (i:=p) ho hf;have has: ∀op∈ap6 (gid W.m X.n p) fn pos es,∀x,op.act.touch?=some x→∀b,iK b x.loc→((upd S.c.r p r1) p).Has b:=by
  intro op hop x hx b hb;obtain⟨e,he,rfl⟩:=aqO hop;rw[upd_same];exact((um (hes e he) hx).2 b hb).imp id λh=>h.2
 refine⟨hg,h.told.step (i:=p) h.dp ho hf hes,?_,λop hop x hx RU=>?_,λop hop x hx _ i hi hl=>?_,λop hop=>?_,λop hop=>?_,?_,?_⟩
 ·exact Handed.app (c:={S.c with r:=upd S.c.r p r1}) h.handed λi x f v a b hx hp hab op hop y hy hl=>(hg.f_ i x f v a b hx hp hab).1 p (has op hop y hy b hl)
 ·obtain⟨ad,hl,hb⟩:=RU;have:=has op hop x hx X.wg (by rw[hl];exact hb);exact absurd this (hg.jO p)
 ·exact hg.free i _ p (h.eO hi) (has op hop x hx _ hl)
 ·obtain⟨e,he,rfl⟩:=aqO hop;intro a h1;have:=(qw (hes e he)).2.2 a;exact this (ark h1)
 ·obtain⟨e,he,rfl⟩:=aqO hop;exact O5 (hes e he) λb hb=>hf.lS hb
 ·exact ho.off _ h.dp.Br λhown=>h.dp.jO p (.inl hown)
 ·exact λd=>deafBehind_still (λe he=>⟨(qw (hes e he)).1,(qw (hes e he)).2.1⟩) d
end
end Go.Upr
end
section
namespace Go.Upr
open Go.Conc
open Go.ConcN (upd upd_same upd_ne sumTo WD CTag WSit RW DWs AtR0 WgLive ShN RelBy Has get_map_set get_map_set_same)
open Go.ConcR (KK WgAt stA smA rd wr mk DC0 Bk)
section
variable{X:Pl}{W:D1}{S:nY}{gs:Array aqi}{w w':aly}{t:ap8}{sl:Option (Nat×Nat)}
theorem Wt.Sk{a b:Nat}{s t:Tr}(h:Tr.Lt s t):Wt.Lt (a,b,s) (a,b,t):= .right _ (.right _ h)
theorem Wt.Kf{a b b':Nat}{s t:Tr}(h:b<b'):Wt.Lt (a,b,s) (a,b',t):= .right _ (.left _ _ h)
theorem Wt.Xb{a a' b b':Nat}{s t:Tr}(h:a<a'):Wt.Lt (a,b,s) (a',b',t):= .left _ _ h
theorem kv{S S':nY}{m n i:Nat}(hi:i≤n)(hq:S'.q=S.q)(hs:S'.μs=S.μs)(hμ: ∀x,x<i→S'.μ x=S.μ x)(hlt:Wt.Lt (S'.μ i) (S.μ i)):Row.Lt (n+4) (S'.row m n) (S.row m n):=by
 refine BN (k:=i+2) (by show Wt.Lt (if i≤n then _ else _) (if i≤n then _ else _);rw[if_pos hi,if_pos hi];exact hlt) (n+4) 0 aj aj λx _ hx=>?_
 match x with
 |0=>show((0,sumTo m S'.q,Tr.leaf):Wt)=(0,sumTo m S.q,Tr.leaf);rw[hq]
 |1=>exact hs
 |x+2=>
  show(if x≤n then S'.μ x else S'.μr)=if x≤n then S.μ x else S.μr
  rw[if_pos aj,if_pos aj,hμ x aj]
theorem Ek{S S':nY}{m n:Nat}(hq:S'.q=S.q)(hlt:Wt.Lt S'.μs S.μs):Row.Lt (n+4) (S'.row m n) (S.row m n):=by
 refine BN (k:=1) hlt (n+4) 0 aj aj λx _ hx=>?_;obtain rfl:x=0:=by omega
 show((0,sumTo m S'.q,Tr.leaf):Wt)=(0,sumTo m S.q,Tr.leaf);rw[hq]
theorem IY{S S':nY}{m n:Nat}(hq:S'.q=S.q)(hs:S'.μs=S.μs)(hμ: ∀x,x≤n→S'.μ x=S.μ x)(hlt:Wt.Lt S'.μr S.μr):Row.Lt (n+4) (S'.row m n) (S.row m n):=by
 refine BN (k:=n+3) (by show Wt.Lt (if n+1≤n then _ else _) (if n+1≤n then _ else _);rw[if_neg aj,if_neg aj];exact hlt) (n+4) 0 aj aj λx _ hx=>?_
 match x with
 |0=>show((0,sumTo m S'.q,Tr.leaf):Wt)=(0,sumTo m S.q,Tr.leaf);rw[hq]
 |1=>exact hs
 |x+2=>
  show(if x≤n then S'.μ x else S'.μr)=if x≤n then S.μ x else S.μr
  rw[if_pos aj,if_pos aj,hμ x aj]
theorem YV{S S':nY}{m n:Nat}(hq:sumTo m S'.q<sumTo m S.q):Row.Lt (n+4) (S'.row m n) (S.row m n):=
 BN (k:=0) (.right _ (.left _ _ hq)) (n+4) 0 aj aj λx _ hx=>by omega
theorem kN{m n i:Nat}(h:i≤n):gid m n i=m+i:=if_pos h
theorem u7{m n:Nat}:gid m n (n+1)=0:=if_neg aj
theorem PI.le(h:PI X W S gs w t){i:Nat}(hi:i<S.j):i≤X.n:=by have:=h.Sm;omega
theorem PI.olds(h:PI X W S gs w t){G:Nat}{g g':aqi}(hG:G=0∨W.m≤G): ∀i x,0<i→i<W.m→((gs.map (woken X.P g g' w')).setIfInBounds G g')[i]? =some x→
  ∃g0,gs[i]? =some g0∧(x.status= .running∨x.status= .finished→x=g0)∧(g0.status= .running∨g0.status= .finished→x=g0):=by
 intro i x h0 hm hx;have hne:G≠i:=by omega
 rw[get_map_set _ _ _ _ hne]at hx;obtain⟨y,hy,rfl⟩:=ant.1 hx;have:=my (P:=X.P) (g:=g) (g':=g') (aqY w' (h.old i y h0 hm hy).status);exact⟨y,hy,λ_=>this,λ_=>this⟩
theorem PI.stepW(h:PI X W S gs w t){i:Nat}(hi:i<S.j){g g':aqi}{es:Array amp}(wD:gs[W.m+i]? =some g)(hgo:stepG X.P false g w= .go g' w' es){r1:bF}{d':WD}{μ':Wt}
  (hG:lM X.P X.F S.k X.wg {S.c with r:=upd S.c.r i r1} w') (hT:Told (gid W.m X.n) {S.c with r:=upd S.c.r i r1} w' (t++ap6 (W.m+i) g.frame.fn g.frame.place es))
  (hH:Handed S.k {S.c with r:=upd S.c.r i r1} (t++ap6 (W.m+i) g.frame.fn g.frame.place es)) (hB:w.heap.size≤w'.heap.size)
  (hq: ∀op∈ap6 (W.m+i) g.frame.fn g.frame.place es,∀x,op.act.touch?=some x→ShN X.wg x.loc→x.kind≠ .plain∧(x.kind= .said→op.g=0))
  (hck: ∀op∈ap6 (W.m+i) g.frame.fn g.frame.place es,∀x,op.act.touch?=some x→x.write=true→∀i,i<S.j→¬iK (S.k i) x.loc)
  (hn: ∀op∈ap6 (W.m+i) g.frame.fn g.frame.place es,∀a,op.act≠ .mark (.release a)) (hl: ∀op∈ap6 (W.m+i) g.frame.fn g.frame.place es,op.act.low w'.heap.size)
  (sS:wG X i (S.k (i- 1)) (S.k i) (dR S.c i) (Go.Upr.aW S.c i) r1 w' g' d' μ') (WS:deafBehind (S.D i).deaf es=d'.deaf)
  (hrel:d'.stage≤6→∃r,RelBy (stA X.wg) (t++ap6 (W.m+i) g.frame.fn g.frame.place es) (W.m+i) r)
  (Xi:w'.tape=w.tape) (Xq:w'.os=w.os) (hop:w'.output=w.output) (jk:WgLive X.ty X.wg w')
  (ij: ∀cF,(cF=S.tag∨(S.tag= .blk∧cF= .w3))→(mayWake X.P g=true→g'.status= .running→cF≠ .blk)→
   ∃st sm,WgAt X.ty X.wg w' st sm∧((S.added=false∧st=0∧sm=0)∨(S.added=true∧aqS (X.n+1) (upd S.D i d') cF st sm)))
  (vE:S.tag= .ret→AcqAll W.m X.n X.wg (t++ap6 (W.m+i) g.frame.fn g.frame.place es)) (hlt:Wt.Lt μ' (S.μ i)) (ky:μ'.1=12∨(S.μ i).1≠12):
  ∃S' gs',runT X.P (crowd gs w sl) (W.m+i)=(.next (crowd gs' w' sl),ap6 (W.m+i) g.frame.fn g.frame.place es)∧
   PI X W S' gs' w' (t++ap6 (W.m+i) g.frame.fn g.frame.place es)∧Row.Lt (X.n+4) (S'.row W.m X.n) (S.row W.m X.n):=by
 have dC:=h.le hi;have hm:=h.m0;have Km:(W.m+i==0)=false:=by simp;omega
 have hrun:=runT_crowd_go (P:=X.P) (sl:=sl) (i:=W.m+i) wD (by rw[Km];exact hgo);obtain⟨a,ha,DL⟩:=h.main;have hr: ∀x,x≠i→upd S.c.r i r1 x=S.c.r x:=λx hx=>upd_ne _ _ hx;obtain⟨cF,μr',abu,iH,hwk,Dm⟩:=DL.stay (w':=w') (aq0 (X.n+1) (upd S.D i d')) (by have:=hG.fits (X.n+1);rw[show({S.c with r:=upd S.c.r i r1}:o_).r (X.n+1)=S.c.r (X.n+1)from hr _ aj]at this;exact this) (λ_=>jk)
  (λ_ hj=>hG.chan X.n _ (h.eO aj)) g g'
 refine⟨{S with c:={S.c with r:=upd S.c.r i r1},D:=upd S.D i d',tag:=cF,μ:=upd S.μ i μ',μr:=μr'},_,hrun,?_,?_⟩
 ·refine h.next rfl rfl rfl bz (h.olds (.inr aj)) ⟨_,by rw[get_map_set _ _ _ _ aj,ha];rfl,?_⟩ (λi' hi'=>?_) (λi' h1 _=>hr i' aj) (λi' h1=>upd_ne _ _ aj) (λ_=>Iff.rfl) h.items h.rT hG hT hH hB (λc h1 h2 h3=>?_)
   (λop hop=> .inr ⟨i,hi,dE hop⟩) hq hck hn hl ?_ (λi' hi'=>?_) (λi' h0 h1=>?_) (λi' hi' hs=>?_) ?_ ?_ Xi Xq hop
  ·dsimp only;rw[hr _ aj];exact abu
  ·by_cases e:i'=i
   ·subst e;exact⟨g',get_map_set_same _ _ _ (by rw[h.size];omega),by dsimp only;rw[upd_same,upd_same,upd_same];exact sS⟩
   ·obtain⟨x,hx,hs⟩:=h.wk i' hi';refine⟨_,by rw[get_map_set _ _ _ _ aj,hx];rfl,?_⟩;dsimp only;rw[hr _ e,upd_ne S.D _ e,upd_ne S.μ _ e];refine hs.stay (h.dp.fits i') (by have:=hG.fits i';rw[show({S.c with r:=upd S.c.r i r1}:o_).r i'=S.c.r i' from hr _ e]at this;exact this) (λ_=>jk) (λ_ h0=>?_) (.inl (hG.chan i' _ (h.eO hi'))) g g';rw[uf];exact hG.chan (i'- 1) _ (h.eO aj)
  ·have hold:=h.mI c h1 h2 h3;unfold nu at hold⊢;dsimp only;split
   ·rename_i hc;rw[if_pos hc]at hold;by_cases e:c+1=i
    ·subst e;rw[upd_same];exact ky.elim id λh=>absurd hold h
    ·rw[upd_ne _ _ e];exact hold
   ·rename_i hc;rw[if_neg hc]at hold;rw[Dm];exact hold
  ·rw[ara t (g':=W.m+i) aj _ λop hop=>dE hop];exact h.d0
  ·dsimp only;by_cases e:i'=i
   ·subst e;rw[Deaf_own,h.dW i' hi',upd_same];exact WS
   ·rw[ara t (g':=W.m+i) aj _ λop hop=>dE hop,h.dW i' hi',upd_ne _ _ e]
  ·exact ara t (g':=W.m+i) aj _ λop hop=>dE hop
  ·dsimp only at hs⊢;by_cases e:i'=i
   ·subst e;rw[upd_same]at hs;exact .inr (hrel hs)
   ·rw[upd_ne _ _ e]at hs;exact .inl ⟨hs,λop hop h1=>by have:=dE hop;omega⟩
  ·intro e;rcases iH with h1|⟨_,h1⟩
   ·exact vE (by rw[←h1];exact e)
   ·rw[show cF=CTag.ret from e]at h1;cases h1
  ·exact ij cF iH hwk
 ·exact kv dC rfl rfl (λx hx=>upd_ne _ _ aj) (by dsimp only;rw[upd_same];exact hlt)
end
end Go.Upr
end
section
namespace Go.Upr
open Go.Conc
open Go.ConcN (upd upd_same upd_ne sumTo WD CTag WSit RW DWs AtR0 WgLive ShN RelBy Has get_map_set get_map_set_same Mode.retag)
open Go.ConcR (KK WgAt stA smA rd wr mk DC0 Bk)
theorem B6{α:Type}(f:Nat→α)(i:Nat){x:α}(h:f i=x):upd f i x=f:=by
 funext a;by_cases e:a=i
 ·subst e;rw[upd_same];exact h.symm
 ·exact upd_ne _ _ e
section
variable{X:Pl}{W:D1}{S:nY}{gs:Array aqi}{w w':aly}{t:ap8}{sl:Option (Nat×Nat)}
def zy(X:Pl)(W:D1)(S:nY)(gs:Array aqi)(w:aly)(t:ap8)(sl:Option (Nat×Nat))(G:Nat):Prop:=
 ∃S' gs' w' ops,runT X.P (crowd gs w sl) G=(.next (crowd gs' w' sl),ops)∧PI X W S' gs' w' (t++ops)∧Row.Lt (X.n+4) (S'.row W.m X.n) (S.row W.m X.n)
theorem iv.acy{j v:Nat}{k:Nat→Nat}{dR:Ch}{r:bF}{g:aqi}{tag:CTag}{ad:Bool}{dd:Nat}{μs μr:Wt}(h:iv X j v k dR r w g tag ad dd μs μr)(ha:ad=false):tag= .kd:=by
 cases h<;>first|rfl|cases ha
theorem iv.added{j v:Nat}{k:Nat→Nat}{dR:Ch}{r:bF}{g:aqi}{tag:CTag}{ad:Bool}{dd:Nat}{μs μr:Wt}(h:iv X j v k dR r w g tag ad dd μs μr)(hj:0<j):ad=true:=by
 cases h<;>first|rfl|omega
theorem PI.LH(h:PI X W S gs w t){i:Nat}(hi:i≤X.n)(hs:(S.D i).stage≠1):S.tag≠ .ret:=by
 obtain⟨a,_,hm⟩:=h.main;obtain⟨st,sm,_,h1|h1⟩:=h.wI
 ·rw[hm.acy h1.1];simp
 ·exact h1.2.not_ret (Nat.lt_succ_of_le hi) hs
theorem PI.xf(h:PI X W S gs w t)(hw:w'.heap[X.wg]? =w.heap[X.wg]?){D':Nat→WD}(hD:D'=S.D){cF:CTag}(ht:cF=S.tag∨(S.tag= .blk∧cF= .w3)):
  ∃st sm,WgAt X.ty X.wg w' st sm∧((S.added=false∧st=0∧sm=0)∨(S.added=true∧aqS (X.n+1) D' cF st sm)):=by
 subst hD;obtain⟨st,sm,h1,h2⟩:=h.wI;exact⟨st,sm,hw.trans h1,h2.imp id λh2=>⟨h2.1,h2.2.retag ht⟩⟩
theorem PI.XX(h:PI X W S gs w t){i:Nat}(hi:i<S.j){g:aqi}(wD:gs[W.m+i]? =some g){fr:aoz}{cs:List aoz}{c:aly→Tr}{Stop:bF→aoz→List aoz→Prop}{p1 p2:Nat}(TJ:si g fr cs)
  (hw:Walk X.P false X.F Stop (.node c) (S.c.r i) fr cs) (hD:S.D i=⟨7,0,0⟩) (hμ:S.μ i=(p1,p2,.node c))
  (hmk: ∀fr1 cs1 r1 w1 t1,Walk X.P false X.F Stop t1 r1 fr1 cs1→wG X i (S.k (i- 1)) (S.k i) (dR S.c i) (Go.Upr.aW S.c i) r1 w1 (G fr1 cs1) ⟨7,0,0⟩ (p1,p2,t1)):zy X W S gs w t sl (W.m+i):=by
 obtain⟨fr1,cs1,w1,es,r1,h1,h2,h3,h4,h5⟩:=hw w (h.dp.fits i);have eg:gid W.m X.n i=W.m+i:=kN (h.le hi);obtain⟨q1,q2,q3,q4,q5,q6,q7,q8,q9⟩:=h.own (p:=i) (fn:=g.frame.fn) (pos:=g.frame.place) h3 h2 h4;rw[eg]at q2 q3 q4 q5 q6 q7;have hgo:stepG X.P false g w= .go {frame:=fr1,callers:=cs1,status:= .running,dying:=none} w1 es:=by rw[TJ.step];exact h1
 have jk:WgLive X.ty X.wg w1:=by
  obtain⟨st,sm,hw,_⟩:=h.wI;exact⟨st,sm,q8.trans hw⟩
 obtain⟨S',gs',hr,hp,hlt⟩:=h.stepW (sl:=sl) hi wD hgo q1 q2 q3 h3.size q4 q5 q6 q7 (hmk fr1 cs1 r1 w1 (c w) h5) (by rw[q9,hD]) (λhs=>by simp at hs) h3.tape h3.os h3.output jk
  (λcF ht _=>h.xf q8 (B6 _ _ hD) ht) (λe=>absurd e (h.LH (h.le hi) (by rw[hD];simp))) (by rw[hμ];exact Wt.Sk (.child c w)) (by rw[hμ];exact arj _)
 exact⟨S',gs',w1,_,hr,hp,hlt⟩
theorem PI.abZ(h:PI X W S gs w t){i:Nat}(hi:i<S.j){g g':aqi}{es:Array amp}(wD:gs[W.m+i]? =some g)(hgo:stepG X.P false g w= .go g' w' es)(hA:Aside X.wg w w'){bB C9:Int}(Bw:WgAt X.ty X.wg w' bB C9)
  (hes: ∀e∈es,Hu X.wg false e) {d':WD} (iu:mS X (S.c.r i) d' g' w') (bW:(Go.Upr.aW S.c i).cl=true) (WS:deafBehind (S.D i).deaf es=d'.deaf)
  (hrel:d'.stage≤6→∃r,RelBy (stA X.wg) (t++ap6 (W.m+i) g.frame.fn g.frame.place es) (W.m+i) r) (had:S.added=true)
  (dv: ∀cF,(cF=S.tag∨(S.tag= .blk∧cF= .w3))→(mayWake X.P g=true→g'.status= .running→cF≠ .blk)→aqS (X.n+1) (upd S.D i d') cF bB C9)
  (vE:S.tag= .ret→AcqAll W.m X.n X.wg (t++ap6 (W.m+i) g.frame.fn g.frame.place es)) (hlt:Wt.Lt (d'.stage,d'.fuel,.leaf) (S.μ i)) (ky:(S.μ i).1≠12):zy X W S gs w t sl (W.m+i):=by
 obtain⟨q1,q2,q3,q4,q5,q6,q7⟩:=h.KJ (G:=W.m+i) (fn:=g.frame.fn) (pos:=g.frame.place) hes bz hA.block hA.size;have er:upd S.c.r i (S.c.r i)=S.c.r:=B6 _ _ rfl;obtain⟨S',gs',hr,hp,hlt⟩:=h.stepW (sl:=sl) (r1:=S.c.r i) hi wD hgo (by rw[er];exact q1) (by rw[er];exact q2) (by rw[er];exact q3) (aqX hA.size.symm) q4 q5 q6 q7 (.tail iu bW) WS hrel hA.tape hA.os hA.output ⟨_,_,Bw⟩
  (λcF ht hk=>⟨bB,C9,Bw,.inr ⟨had,dv cF ht hk⟩⟩) vE hlt (.inr ky)
 exact⟨S',gs',w',_,hr,hp,hlt⟩
theorem PI.added(h:PI X W S gs w t){i:Nat}(hi:i<S.j):S.added=true:=by
 obtain⟨a,_,hm⟩:=h.main;exact hm.added aj
theorem PI.mode(h:PI X W S gs w t){i:Nat}(hi:i<S.j): ∃st sm,WgAt X.ty X.wg w st sm∧aqS (X.n+1) S.D S.tag st sm:=by
 obtain⟨st,sm,h1,h2⟩:=h.wI;rcases h2 with h2|h2
 ·rw[h.added hi]at h2;cases h2.1
 ·exact⟨st,sm,h1,h2.2⟩
end
end Go.Upr
end
section
namespace Go.Upr
open Go.Conc Go.ConcN Go.RowKit Go.Conc.Lib Go.ConcR.Gen Go.ConcN.Gen
open Go.ConcR (KK wgBlock WgAt stA smA rd wr mk DC0)
section
variable(P:alu)(Wg:Nat)(R:aly→aly→Prop)
def AtRel(g:aqi)(w:aly):Prop:=
 g.status= .running∧∃g1,stepG P false g w= .go g1 w #[mk (.releaseMerge (stA Wg))]∧∃m,Goes P false R DC0 (λg2 w=>g2.status= .running∧∃g3,stepG P false g2 w= .go g3 w #[mk .disable]) m g1 w
end
section
variable[aq2]{P:alu}{ty:acs}{Wg C n Low k:Nat}{Own Rd:Nat→Loc→Prop}{v:aad}
theorem JR: ∀ (m:Nat) {n2:Nat} {g:aqi} {w:aly},Goes P false (RW ty Wg C n Low (k- 1)) DC0 (λg2 w=>g2.status= .running∧∃g3,stepG P false g2 w= .go g3 w #[mk .disable]) m g w→
  Goes P false (RW ty Wg C n Low (k- 1)) (DWs Wg Own Rd C n k) (AtR0 P ty Wg C n Low k v) n2 g w→False:=by
 have key: ∀ {n2:Nat} {g:aqi} {w:aly},(∃g3,stepG P false g w= .go g3 w #[mk .disable])→Goes P false (RW ty Wg C n Low (k- 1)) (DWs Wg Own Rd C n k) (AtR0 P ty Wg C n Low k v) n2 g w→False:=by
  rintro n2 g w ⟨g3,h3⟩ h;have stop: ∀x,¬(AtR0 P ty Wg C n Low k v g w∧x=0):=by
   rintro x ⟨⟨_,_,g',h',_⟩,_⟩;rw[h3]at h';simp[mk]at h'
  cases n2 with
  |zero=>exact stop 0 ⟨h w (RW.refl w),rfl⟩
  |succ n2=>
   rcases h with h|⟨_,h⟩
   ·exact stop 0 ⟨h w (RW.refl w),rfl⟩
   ·have:=h w (RW.refl w);rw[h3,aq5]at this;exact(this.1.2 (mk .disable) bz).2.1 rfl
 intro m
 induction m with
 |zero=>intro n2 g w h h2;exact key (h w (RW.refl w)).2 h2
 |succ m ih=>
  intro n2 g w h h2;rcases h with h|⟨_,h⟩
  ·exact key (h w (RW.refl w)).2 h2
  ·obtain⟨g',w',es,hgo,⟨rfl,rfl⟩,hg⟩:=goes_elim (h w (RW.refl w));cases n2 with
   |zero=>
    obtain⟨_,_,g2,h',_⟩:=h2 w' (RW.refl w');rw[hgo]at h';simp[mk]at h'
   |succ n2=>
    rcases h2 with h2|⟨_,h2⟩
    ·obtain⟨_,_,g2,h',_⟩:=h2 w' (RW.refl w');rw[hgo]at h';simp[mk]at h'
    ·have:=h2 w' (RW.refl w');rw[hgo,aq5]at this;exact ih hg this.2
theorem UD{n2:Nat}{g:aqi}{w:aly}(h:AtRel P Wg (RW ty Wg C n Low (k- 1)) g w)(h2:Goes P false (RW ty Wg C n Low (k- 1)) (DWs Wg Own Rd C n k) (AtR0 P ty Wg C n Low k v) n2 g w):AtR0 P ty Wg C n Low k v g w:=by
 obtain⟨_,g1,h1,m,hm⟩:=h;cases n2 with
 |zero=>exact h2 w (RW.refl w)
 |succ n2=>
  rcases h2 with h2|⟨_,h2⟩
  ·exact h2 w (RW.refl w)
  ·have:=h2 w (RW.refl w);rw[h1,aq5]at this;exact(JR m hm this.2).elim
theorem Vd: ∀ (n1:Nat) {n2:Nat} {g:aqi} {w:aly},Goes P false (RW ty Wg C n Low (k- 1)) DC0 (AtRel P Wg (RW ty Wg C n Low (k- 1))) n1 g w→
  Goes P false (RW ty Wg C n Low (k- 1)) (DWs Wg Own Rd C n k) (AtR0 P ty Wg C n Low k v) n2 g w→Goes P false (RW ty Wg C n Low (k- 1)) DC0 (AtR0 P ty Wg C n Low k v) n1 g w:=by
 have tr: ∀a b c,RW ty Wg C n Low (k- 1) a b→RW ty Wg C n Low (k- 1) b c→RW ty Wg C n Low (k- 1) a c:=λ_ _ _ h1 h2=>h1.trans h2;intro n1
 induction n1 with
 |zero=>intro n2 g w h h2 w1 h1;exact UD (h w1 h1) (aqM tr h2 h1)
 |succ n1 ih=>
  intro n2 g w h h2;rcases h with h|⟨hs,h⟩
  ·exact .inl λw1 h1=>UD (h w1 h1) (aqM tr h2 h1)
  ·refine .inr ⟨hs,λw1 h1=>?_⟩;obtain⟨g',w',es,hgo,⟨rfl,rfl⟩,hg⟩:=goes_elim (h w1 h1);rw[hgo,aq5];refine⟨⟨rfl,rfl⟩,?_⟩;have h3:=aqM tr h2 h1;cases n2 with
   |zero=>
    obtain⟨_,_,g2,h',_⟩:=h3 w' (RW.refl w');rw[hgo]at h';simp[mk]at h'
   |succ n2=>
    rcases h3 with h3|⟨_,h3⟩
    ·obtain⟨_,_,g2,h',_⟩:=h3 w' (RW.refl w');rw[hgo]at h';simp[mk]at h'
    ·have:=h3 w' (RW.refl w');rw[hgo,aq5]at this;exact ih hg this.2
end
section
variable[aq2]{L:WgLink}{Wg C n Low k:Nat}{val:aad}{c:aoz}{cs:List aoz}{qt:Nat}
theorem M4{P:alu}(H:WgLib P L)(hcm:c.mode= .returning)(hT:QuitsD P qt 0 (G c cs))(w:aly)(hK:WgLive L.tWg Wg w∧Has C (k- 1) val w):
  Goes P false (RW L.tWg Wg C n Low (k- 1)) DC0 (AtR0 P L.tWg Wg C n Low k val) 23 (G ((baseD L.done).at ⟨#[.pointer (some ⟨Wg,0,none⟩),undef,undef,undef],[]⟩ [.code (body_done L)]) (c::cs)) w:=by
 refine Vd (Own:=λ_ _=>False) (Rd:=λ_ _=>False) 23 ?_ (doneN H hcm hT w hK)
 lib_facts
 simp only[body_done,doneFn,aqT]
 u_reg kn_rely hK
 u_op kn_rely hK
 u_in kn_rely hK
 refine goes_call rfl rfl (by k_ne) rfl H.f_add (nm_add L) rfl ⟨by u_nil,?_⟩
 walk_nrmf addFn
 u_c apU kn_rely hK
 u_cond true kn_rely hK
 iterate 2 u_c apU kn_rely hK
 u_reg kn_rely hK
 iterate 2 u_op kn_rely hK
 u_c apQ kn_rely hK
 u_cond true kn_rely hK
 u_reg kn_rely hK
 u_op kn_rely hK
 u_conv H.underlying_tWgP H.room_tWg (WgLive.cell0 hK.1).choose_spec kn_rely hK
 refine aqN (λw₁ h₁=>?_);replace hK:=kn_rely hK h₁;clear h₁;refine⟨rfl,_,aqU .releaseMerge bz rfl rfl (by k_ne) rfl H.f_relMerge (x_relMerge_n L) (x_relMerge_b L) (x_relMerge_x L) (x_relMerge_f L) (by simp[aqV,stA]),10,?_⟩;walk_nrm
 u_c apQ kn_rely hK
 u_c apU kn_rely hK
 u_reg kn_rely hK
 refine aqN (λw₁ h₁=>?_);exact⟨rfl,_,aqW .disable bz rfl rfl (by k_ne) rfl H.f_disable (x_disable_n L) (x_disable_b L) (x_disable_x L) (x_disable_f L)⟩
end
end Go.Upr
end
