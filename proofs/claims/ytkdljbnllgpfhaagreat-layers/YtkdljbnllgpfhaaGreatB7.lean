import Derived.Test.YtkdljbnllgpfhaaGreatB6
set_option maxRecDepth 100000
set_option maxHeartbeats 8000000
open Go renaming lt_of_block→atm,World→aly,heap_alloc_new→atp,cell_of_row→aqF,Calls→asP,Addr→alA,Value→aad
open Go.World renaming size_alloc→atS
open List renaming getElem?_eq_getElem→arn,mem_append→aqo,mem_singleton→atQ,mem_of_getElem?→ann,getElem?_eq_some_iff→apT,take_of_length_le→at4,take_add_one→at8,length_append→ap2,nodup_append→aus,mem_map→amk,mem_cons_self→ao3,nil_append→awx,map_append→atW,length_map→auB,map_cons→amY
open Nat renaming lt_succ_self→atG,zero_le→arQ,le_refl→agl,add_assoc→at7,add_zero→at6,le_trans→al2,lt_of_lt_of_le→amC,lt_or_ge→asV
open Go.Value renaming string→at5,oneCell'→atv
open Option renaming toList_some→avV,isSome_iff_exists→aww
open Go.RowKit renaming Hid→at3,run_makeMap→auj
open Prod renaming fst→aug,ext_iff→auD
open Option.some renaming inj→alN
open Go.Result renaming andThen→aua
open Go.Builtin renaming len_→anW
open ByteArray renaming empty→ati
open And renaming left→awy
open Function renaming comp_def→awz
section
namespace Go.Proofs.YtkdljbnllgpfhaaGreat
open Go Go.RowKit Go.Upr
def JnB(k:Hp)(jb gb:Nat)(st:List (Option (List aS)))(R:Nat→kP)(b:Nat):Prop:=b=jb∨b=gb∨(∃o,k b=some o)∨cv st R b
theorem fK.frame{V:Bool→ByteArray→Vw}{w w':aly}{N:Nat}{k:Hp}{gb:Nat}{steps:List r9}{st:List (Option (List aS))}{R:Nat→kP}{D:Nat→Prop}(h:fK V w N k gb steps st R)(ht:af D w w')(h1: ¬D gb)(h2: ∀b,cv st R b→¬D b):fK V w' N k gb steps st R:=by
 refine⟨h.len,h.low,h.free,λhs=>?_,λi s T hs hT=>?_,h.own,h.apart⟩
 ·obtain⟨cs,h3,h4⟩:=h.cells hs;exact⟨cs,ht.kept h3 h1,h4⟩
 ·exact(h.rows i s T hs hT).turn ht (h2 _ ⟨i,T,hT,.inl rfl⟩) λp hp=>h2 _ ⟨i,T,hT,.inr ⟨p,hp,rfl⟩⟩
theorem dZ.frame{V:Bool→ByteArray→Vw}{w w':aly}{N:Nat}{k:Hp}{jb gb:Nat}{J:Jn}{st:List (Option (List aS))}{R:Nat→kP}{D:Nat→Prop}(h:dZ V w N k jb gb J st R)(ht:af D w w')(hd: ∀b,JnB k jb gb st R b→¬D b):dZ V w' N k jb gb J st R:=by
 obtain⟨h1,h2,h3,h4,⟨ha,hc,fa,fc,sa,sc,ga,gc,h5,h6⟩,h7⟩:=h;exact⟨h1.turn ht λb o hb=>hd b (.inr (.inr (.inl ⟨o,hb⟩))),h2,h3,h4,⟨ha,hc,fa,fc,sa,sc,ga,gc,ht.kept h5 (hd _ (.inl rfl)),h6⟩,h7.frame ht (hd _ (.inr (.inl rfl))) λb hb=>hd b (.inr (.inr (.inr hb)))⟩
theorem aq.isMap{w:aly}{sb:Nat}{bs:dB}{F:aN}(h:aq w sb bs F){b:Nat}(hb:dt sb bs b): ∃es cl,w.heap[b]? =some (.map es cl):=by
 rcases hb with rfl|⟨p,hp,rfl⟩
 ·obtain⟨es,cl,h1,_⟩:=h.top;exact⟨es,cl,h1⟩
 ·obtain⟨es,cl,h1,_⟩:=h.dy p hp;exact⟨es,cl,h1⟩
theorem aq.cd{w:aly}{sb:Nat}{bs:dB}{F:aN}(h:aq w sb bs F){b g:Nat}(hb:dt sb bs b){cs:Array aad}{t:TypeId}(hg:w.heap[g]? =some (.cells cs t)):b≠g:=by
 rintro rfl;obtain⟨es,cl,h1⟩:=h.isMap hb;rw[hg]at h1;cases h1
def bR:aN:=λ_=> []
def eV(D:Bool→ByteArray→Seen)(J:Jn)(xs:List aS)(st:List (Option (List aS))):List (aS×Nat):=(km D (cD D J xs) (J.steps.zip st)).map λp=>(g_ J.head.ts p.1,p.2)
def uK(D:Bool→ByteArray→Seen)(J:Jn):Prop:=∀xs bB,bB.length=J.steps.length→∀p∈km D (cD D J xs) (J.steps.zip bB),∀q∈km D (cD D J xs) (J.steps.zip bB),g_ J.head.ts p.1=g_ J.head.ts q.1→p.1=q.1
theorem fK.BM{V:Bool→ByteArray→Vw}{w:aly}{N:Nat}{k:Hp}{gb:Nat}{steps:List r9}{st:List (Option (List aS))}{R:Nat→kP}(h:fK V w N k gb steps st R){b:Nat}(hb:cv st R b):b<w.heap.size:=by
 obtain⟨i,T,hi,hb⟩:=hb;have NA:i<steps.length:=by rw[←h.len];exact(apT.1 hi).1
 have h1:=h.rows i _ T (arn NA) hi;rcases hb with rfl|⟨p,hp,rfl⟩
 ·exact h1.top.lt
 ·exact(h1.dy p hp).lt
theorem cr.weak{w w':aly}{b b':dB}{F F':aN}{A:ByteArray→aS→Prop}(h:cr w' b b' F F' A)(hz:w.heap.size≤w'.heap.size):cr w b b' F F' A:=by
 obtain⟨l,e,h1⟩:=h.pre;exact⟨⟨l,e,λp hp=>⟨al2 hz (h1 p hp).1,(h1 p hp).2⟩⟩,h.ins⟩
theorem eF{sb b:Nat}(h:dt sb [] b):b=sb:=by
 rcases h with h|⟨_,h,_⟩
 ·exact h
 ·cases h
theorem aeH{V:Bool→ByteArray→Vw}{D:Bool→ByteArray→Seen}{w:aly}{N:Nat}{k:Hp}{jb gb:Nat}{J:Jn}{st:List (Option (List aS))}{R:Nat→kP}(hJ:dZ V w N k jb gb J st R)(hS:iC w N V D)(hNw:N≤w.heap.size)(ok:Dl J)(hne:J.steps≠ [])(lJ:uK D J)
  (zZ:bZ J.head.n) (Nx:bZ J.first.n) {g o cap:Nat} (KF:w.cell? ⟨g,o,none⟩=some (.pointer (some ⟨jb,0,none⟩))) {fb:Nat} {bf:dB} {H:aN} (hF:aq w fb bf H) {kb:Nat} {bk:dB} {Fk:aN} (hK:aq w kb bk Fk):
  asP Tryz.prog 339 #[.slice (some ⟨g,o,none⟩) 1 cap,.map (some fb),.map (some kb)] w λe w'=>∃nb bn Fn hs xs bB R',e= .returned (.map (some nb))∧aq w' nb bn Fn∧(∀b,dt nb bn b→w.heap.size≤b)∧cr w [] bn bR Fn (vF J.head.n hs bk Fk)∧bC (iF bf H J.first.n) xs∧
   dZ V w' N k jb gb J bB R'∧gV D J xs st bB∧hs.Perm (eV D J xs bB)∧af (·=gb) w w'∧∀b,(cv bB R' b→cv st R b∨w.heap.size≤b)∧(dt nb bn b→¬cv bB R' b):=by
 have tV:= @auj Tryz.prog;obtain⟨cs0,xQ,-⟩:=hJ.steps.cells hne;have o8:=atm xQ;obtain⟨W,hW⟩: ∃W,W=w.alloc (.map #[] 0):=⟨_,rfl⟩;have bM:af (λ_=>False) w W:=by rw[hW];exact(af.refl _ _).alloc _
 have hE0:aq W w.heap.size [] bR:=by rw[hW];exact⟨av.made,by simp,by simp,by simp⟩
 have hJ0:=hJ.turn bM;have WU:=hS.turn bM λ_ _ h=>h;have hF0:=hF.still bM λ_ _=>id;have hK0:=hK.still bM λ_ _=>id;have ak5:=bM.cell KF id;have ah9:=World.block_lt_of_cell? w _ KF;dsimp only at ah9;go_enter Tryz.func339,Tryz.ntmps339;go_wp2_with (rw[←hW]);clear hW
 go_loopw [9,13] (λ_ i wr=>(i= .int .i64 0∧wr=W)∨(i= .int .i64 1∧∃bn Fn hs xs bB R',aq wr w.heap.size bn Fn∧(∀b,dt w.heap.size bn b→w.heap.size≤b)∧cr w [] bn bR Fn (vF J.head.n hs bk Fk)∧bC (iF bf H J.first.n) xs∧
   dZ V wr N k jb gb J bB R'∧gV D J xs st bB∧hs.Perm (eV D J xs bB)∧af (·=gb) w wr∧∀b,(cv bB R' b→cv st R b∨w.heap.size≤b)∧(dt w.heap.size bn b→¬cv bB R' b))) (λ_ i _=>1-(intOf i).toNat)
 case atStart=>exact .inl ⟨rfl,rfl⟩
 case round=>
  rcases hrel with⟨rfl,rfl⟩|⟨rfl,bn,Fn,hs,xs,bB,R',a1,a2,a3,a4,a5,a6,a7,a8,a9⟩
  ·obtain⟨ha,hc,fa,fc,sa,sc,ga,gc,uG,-⟩:=hJ0.top;have k1:=ajj uG;have k2:=aji uG;have hlk:=hF0.look J.first.n;obtain⟨lo,xW⟩: ∃lo,au bf J.first.n=lo:=⟨_,rfl⟩;have WL:=iR lo;rw[xW,WL]at hlk;have ahJ:(au bf J.first.n).elim (.map none) ji= .map lo:=by rw[xW];exact WL
   clear WL;replace xW:at3 _:=xW;have k3:=Yt hJ0 WU (al2 hNw bM.size) ok hlk lJ;have z7: ∀b,dt kb bk b→¬dt w.heap.size [] b:=λb hb h=>by
    rw[eF h]at hb;have:=hK.low hb;omega
   have RZ: ¬w.heap.size=gb:=by omega
   have RP:=hE0.top.lt;have hgE: ∀b,dt w.heap.size [] b→¬b=gb:=λb hb=>by rw[eF hb];exact RZ
   have hhE: ∀b,wr.heap.size≤b→¬dt w.heap.size [] b:=λb hb h=>by rw[eF h]at hb;omega
   go_wp2_with (first|(go_at_call 353;refine k1.mono ?_;rintro e w4 ⟨rfl,hw4⟩;subst hw4)|(go_at_call 354;refine k2.mono ?_;rintro e w4 ⟨rfl,hw4⟩;subst hw4)|(at_lookup;refine bu cI Tryz.underlying99 gy rfl (.tmp 21) (.tmp 23) rfl rfl (aD _) hF0.top.hp rfl Nx ahJ ?_)|(go_at_call 345;refine k3.mono ?_;clear k3;rintro e w6 ⟨hb,hs,xs,bB,R',rfl,Xu,Hn,oY,SK,hbg,jQ,bH,jg⟩;have hE6:=hE0.still bH hgE)|(go_at_call 343;refine(acb hE6 zZ Hn (hhE hb Xu) (hK0.still bH λb hb=>(hK.cd hb xQ)) z7).mono ?_;rintro e w7 ⟨bn,Fn,rfl,eC,Xw,SL⟩));have Hh:=bH.size;have rS:=atm uG
   have Ho:=SK.frame eC (λb hb h=>by
    have e:=eF h;rcases hb with hb|hb|⟨o,hb⟩|hb
    ·obtain⟨_,_,_,_,_,_,_,_,h1,-⟩:=hJ.top;have:=atm h1;omega
    ·omega
    ·have:=hJ.known.lt hb;omega
    ·rcases jg b hb with h1|h1
     ·have:=hJ.steps.BM h1;omega
     ·omega)
   have C5:af (·=gb) w w7:=(bM.wider.trans bH).bL eC λb hb=> .inl (by rw[eF hb];exact agl _);go_roundw
   case rel=>
    refine .inr ⟨rfl,bn,Fn,hs,xs,bB,R',Xw,λb hb=>(SL.blocks hb).elim (λh=>by rw[eF h];exact agl _) λh=>by omega,SL.weak aj,oY,Ho,hbg,jQ,C5,λb=>⟨λhb=>(jg b hb).imp id λh=>by omega,λhb hr=>?_⟩⟩;have h1:=SK.steps.BM hr;rcases SL.blocks hb with h2|h2
    ·have h3:=eF h2;rcases jg b hr with h4|h4
     ·have:=hJ.steps.BM h4;omega
     ·omega
    ·omega
   case measure=>simp[intOf]
  ·go_wp2;go_ret;exact⟨_,bn,Fn,hs,xs,bB,R',rfl,a1,a2,a3,a4,a5,a6,a7,a8,a9⟩
end Go.Proofs.YtkdljbnllgpfhaaGreat
end
section
namespace Go.Proofs.YtkdljbnllgpfhaaGreat
open Go Go.RowKit Go.Upr
def jR(P:Nat→aS→Prop)(n:ByteArray)(i:Nat)(m:ByteArray)(t:aS):Prop:=m=n∧∃j<i,P j t
structure aco(J:Jn)(bs:dB)(F:aN)(m:Nat)(P:Nat→aS→Prop)(RS:List (Option (List aS))→Prop):Prop where
 some: ∀i<m,∃t,P i t
 last: ∀t,¬P m t
 init:RS (J.steps.map λ_=>none)
 take: ∀i<m,∀ (bf:dB) (H:aN) st bB,(∀n t,eI bf H n t↔n=J.head.n∧P i t)→RS st→(∀j,j<J.steps.length→yE bf H J.steps st bB j)→bB.length=J.steps.length→RS bB
 step: ∀i<m,∀ (F':aN) st bB xs,(∀n t,eI bs F' n t↔eI bs F n t∨jR P J.head.n (i+1) n t)→RS st→(∀t,t∈xs↔P i t)→xs.Nodup→gV (dV bs F') J xs st bB→bB.length=J.steps.length→
  RS bB∧∀t,P (i+1) t↔t∈(eV (dV bs F') J xs bB).map aug∧¬eI bs F' J.head.n t
 inj: ∀F',uK (dV bs F') J
theorem yU{P:Nat→aS→Prop}{n:ByteArray}{i:Nat}{m:ByteArray}{t:aS}:jR P n (i+1) m t↔jR P n i m t∨(m=n∧P i t):=by
 unfold jR;constructor
 ·rintro⟨h1,j,h2,h3⟩;rcases asV j i with h4|h4
  ·exact .inl ⟨h1,j,h4,h3⟩
  ·obtain rfl:j=i:=by omega
   exact .inr ⟨h1,h3⟩
 ·rintro(⟨h1,j,h2,h3⟩|⟨h1,h2⟩)
  ·exact⟨h1,j,by omega,h3⟩
  ·exact⟨h1,i,by omega,h2⟩
theorem Qw{w:aly}{sb N:Nat}{bs:dB}{F:aN}(hS:aq w sb bs F)(fD: ∀p∈bs,p.2<N):iC w N (pM (fX (some sb) bs) (fX (some sb) bs)) (dV bs F):=by
 have hA:mq w (fX (some sb) bs) F (λ_=> []) (λ_=> []):=⟨.inr ⟨sb,rfl,hS⟩,.inl ⟨rfl,rfl⟩,.inl ⟨rfl,rfl⟩⟩;have h:=tF hA hA;refine⟨h.now,h.came,h.gone,λs n b hb=>?_⟩;have: ∀b,au bs n=some b→b<N:=λb hb=>fD _ (cB hb);cases s<;>rcases hb with hb|hb|hb<;>first|exact this b hb|cases hb
theorem fK.YU{V:Bool→ByteArray→Vw}{w:aly}{N:Nat}{k:Hp}{gb:Nat}{steps:List r9}{st:List (Option (List aS))}{R:Nat→kP}(h:fK V w N k gb steps st R){b:Nat}(hb:cv st R b){cs:Array aad}{t:TypeId}:w.heap[b]? ≠some (.cells cs t):=by
 obtain⟨i,T,hi,hb⟩:=hb;have NA:i<steps.length:=by rw[←h.len];exact(apT.1 hi).1
 have h1:=h.rows i _ T (arn NA) hi;rcases hb with rfl|⟨p,hp,rfl⟩
 ·obtain⟨es,cl,h3,_⟩:=h1.top;intro e;rw[h3]at e;cases e
 ·obtain⟨es,cl,h3,_⟩:=h1.dy p hp;intro e;rw[h3]at e;cases e
theorem kV{bs:dB}{F:aN}{n:ByteArray}{t:aS}:t∈iF bs F n↔eI bs F n t:=by
 unfold iF eI;split
 ·rename_i h;simp[h]
 ·rename_i h;simp[h]
theorem dZ.store{V:Bool→ByteArray→Vw}{w w':aly}{N:Nat}{k:Hp}{jb gb:Nat}{J:Jn}{st:List (Option (List aS))}{R:Nat→kP}(h:dZ V w N k jb gb J st R)(hne:J.steps≠ []){sb:Nat}{bs:dB}{F:aN}(hS:aq w sb bs F)(ht:af (dt sb bs) w w')(hk: ∀b,dt sb bs b→k b=none)(hr: ∀b,cv st R b→¬dt sb bs b):dZ V w' N k jb gb J st R:=by
 refine h.frame ht λb hb hd=>?_;rcases hb with rfl|rfl|⟨o,hb⟩|hb
 ·obtain⟨_,_,_,_,_,_,_,_,h1,-⟩:=h.top;exact hS.cd hd h1 rfl
 ·obtain⟨cs,h1,-⟩:=h.steps.cells hne;exact hS.cd hd h1 rfl
 ·rw[hk b hd]at hb;cases hb
 ·exact hr b hb hd
theorem aw.adp{w:aly}{N:Nat}{k:Hp}{v:aad}{jb:Nat}{J:Jn}(h:aw w N 457 1 RdJ k v [(jb,J)]): ∃g cap cs,v= .slice (some ⟨g,0,none⟩) 1 cap∧N≤g∧w.heap[g]? =some (.cells cs 457)∧cs[0]? =some (.pointer (some ⟨jb,0,none⟩)):=by
 obtain⟨_,_,dS,h1,_,h3,h4⟩:=h;rcases h4.2 with⟨_,h5⟩|⟨g,cap,cur,rfl,h5,h6,_,_,_,h7⟩
 ·cases h5
 ·refine⟨g,cap,cur,rfl,h5,h6,?_⟩
  match dS,h1 with
  | [c],_=>
   have h8:=h3 0 c (jb,J) rfl rfl;unfold RdJ at h8;subst h8;have h9:=congrArg (λl=>l[0]?) h7;simpa using h9
structure aaZ(w0:aly)(N sb:Nat)(bs:dB)(F:aN)(Kh:Nat)(k:Hp)(jb gb:Nat)(J:Jn)(P:Nat→aS→Prop)(RS:List (Option (List aS))→Prop)(g o i fb:Nat)(w:aly):Prop where
 turn:af (dt sb bs) w0 w
 list: ∃cs,w.heap[g]? =some (.cells cs 457)∧cs[o]? =some (.pointer (some ⟨jb,0,none⟩))
 ex: ∃bf H F' bl G st R,aq w sb bs F'∧(∀n t,eI bs F' n t↔eI bs F n t∨jR P J.head.n i n t)∧aq w fb bf H∧(∀n t,eI bf H n t↔n=J.head.n∧P i t)∧(∀p∈bf,∃t,eI bf H p.1 t)∧
  aq w Kh bl G∧(∀n t,eI bl G n t↔jR P J.head.n i n t)∧(∀p∈bl,∃t,eI bl G p.1 t)∧dZ (pM (fX (some sb) bs) (fX (some sb) bs)) w N k jb gb J st R∧RS st∧
  (∀b,dt fb bf b→¬dt sb bs b∧¬dt Kh bl b)∧(∀b,dt Kh bl b→w0.heap.size≤b∧k b=none)∧∀b,cv st R b→w0.heap.size≤b∧¬dt Kh bl b∧¬dt fb bf b
theorem ajs{K:Hp}{w:aly}{lb sb:Nat}{rs:List bQ}{ra:Option alA}{rc:Nat}(hL:fB w K lb sb rs ra rc)(uB: ∀r∈rs,gW r)(hn:rs.length≤1048576){bs:dB}{F:aN}(hS:aq w sb bs F)(hKs: ∀b,dt sb bs b→K b=none)
  {fb:Nat} {bf:dB} {H:aN} (hH:aq w fb bf H) (hd: ∀b,dt fb bf b→¬dt sb bs b) (N7: ∀p∈bf,∃t,eI bf H p.1 t) {J:Jn} (hJ:kr (eK rs) rs= [J]) (hne:J.steps≠ []) (ok:Dl J) (zZ:bZ J.head.n) (vy:J.first.n=J.head.n) (FB:(au bs J.head.n).isSome=true)
  {m:Nat} {P:Nat→aS→Prop} {RS:List (Option (List aS))→Prop} (pl:aco J bs F m P RS) (h0: ∀n t,eI bf H n t↔n=J.head.n∧P 0 t):
  asP Tryz.prog 332 #[.pointer (some ⟨lb,0,none⟩),.map (some fb)] w λe w'=>∃nb bl G F',e= .returned (.map (some nb))∧af (dt sb bs) w w'∧aq w' sb bs F'∧(∀n t,eI bs F' n t↔eI bs F n t∨jR P J.head.n m n t)∧aq w' nb bl G∧(∀b,dt nb bl b→w.heap.size≤b)∧(∀n t,eI bl G n t↔jR P J.head.n m n t)∧∀p∈bl,∃t,eI bl G p.1 t:=by
 have tV:= @auj Tryz.prog;obtain⟨a0,a1,-,-⟩:=b9 hL.block;have jy:=atm hL.block;have k1:=λw'=>Tt (some sb) w';have k2:=λ(w':aly) (ht:af (λ_=>False) w w')=>acd (hL.still ht) uB hn (sc:=fX (some sb) bs) (F0:=F) (F1:=λ_=> []) (F2:=λ_=> []) ⟨.inr ⟨sb,rfl,hS.still ht λ_ _=>id⟩,.inl ⟨rfl,rfl⟩,.inl ⟨rfl,rfl⟩⟩;rw[hJ]at k2;dsimp only[fX]at k2;clear hJ;go_enter Tryz.func332,Tryz.ntmps332;go_wp2_with (first|(go_at_call 331;refine(k1 _).mono ?_;clear k1;rintro e w1 ⟨rfl,jh⟩)|(go_at_call 337;refine(k2 _ jh).mono ?_;clear k2;rintro e w2 ⟨v,k,js,rfl,aF,hx,hm,Nz,rS⟩));obtain⟨jb,rfl⟩: ∃jb,js= [(jb,J)]:=by
  match js,rS with
  | [(jb,_)],rfl=>exact⟨jb,rfl⟩
 obtain⟨g,cap,cs,rfl,hgN,hg,hg0⟩:=aw.adp hm;obtain⟨gb,hJ2⟩:=(Nz (jb,J) bz).run;dsimp only at hJ2;obtain⟨w3,hw3⟩: ∃x,x=w2.alloc (.map #[] 0):=⟨_,rfl⟩;obtain⟨Kh,H5⟩: ∃x,x=w2.heap.size:=⟨_,rfl⟩;rw[←hw3,←H5];have bX:af (λ_=>False) w2 w3:=by rw[hw3];exact(af.refl _ _).alloc _
 have SM:aq w3 Kh [] bR:=by rw[hw3,H5];exact⟨av.made,by simp,by simp,by simp⟩
 have eN:=(jh.trans aF).trans bX;have hz1:=jh.size;have hz2:=aF.size;have hkS: ∀b,dt sb bs b→k b=none:=λb hb=>by
  cases hkb:k b with
  |none=>rfl
  |some ob=>
   rcases hx.new b ob hkb with h1|h1
   ·rw[hKs b hb]at h1;cases h1
   ·have:=hS.low hb;omega
 have dC:aaZ w w1.heap.size sb bs F Kh k jb gb J P RS g 0 0 fb w3:=by
  refine⟨eN.wider,⟨cs,bX.kept hg id,hg0⟩,bf,H,F,[],bR,_,_,hS.still eN (λ_ _=>id),λn t=>?_,hH.still eN (λ_ _=>id),h0,N7,SM,λn t=>?_,(λ_ h=>nomatch h),hJ2.turn bX,pl.init,λb hb=>⟨hd b hb,λh=>?_⟩,λb hb=>?_,λb hb=>?_⟩
  ·unfold jR;simp
  ·unfold jR eI;simp[au]
  ·have h1:=hH.low hb;have h2:=eF h;omega
  ·have h2:=eF hb;exact⟨by omega,hJ2.known.free aj⟩
  ·obtain⟨i,T,hi,-⟩:=hb;rw[List.getElem?_map]at hi;cases hs:J.steps[i]? <;>rw[hs]at hi<;>cases hi
 have fD: ∀p∈bs,p.2<w1.heap.size:=λp hp=>by have:=(hS.dy p hp).lt;omega
 have hS1:w1.heap.size≤Kh:=by omega
 have hkz: ∀b,Kh≤b→k b=none:=λb hb=>hJ2.known.free aj;clear Nz rS hm hw3 H5 SM eN bX aF jh hg hg0 hJ2 hx h0 hd N7 hH hz2
 go_loopg [1,8] m (λgk v _ wr=>∃i XI,i+gk=m∧v= .map (some XI)∧aaZ w w1.heap.size sb bs F Kh k jb gb J P RS g 0 i XI wr)
 case atStart=>exact⟨0,fb,by omega,rfl,dC⟩
 case round=>
  clear dC;obtain⟨i,XI,him,rfl,hT,⟨cs,hg,hg0⟩,bf,H,F',bl,G,st,R,wE,hSi,WZ,Sc,hfu,W5,hGi,hGf,hJr,hRS,d1,d2,d3⟩:=hrel;by_cases hlt:i<m
  ·obtain⟨gk',rfl⟩: ∃x,gk=x+1:=⟨gk- 1,by omega⟩;have S8:0<bf.length:=by
    obtain⟨t,ht⟩:=pl.some i hlt;have h1:=((Sc _ t).2 ⟨rfl,ht⟩).1;cases bf with
    |nil=>cases h1
    |cons _ _=>simp
   have Sb:=hL.turn hT (λh=>hS.cd h hL.block rfl) (λb o hb h=>by rw[hKs b h]at hb;cases hb);obtain⟨l0,l1,-,-⟩:=b9 Sb.block;have ahU:=atm Sb.block;have c1:=Tu wE WZ (λb hb=>(d1 b hb).1);have hlS: ∀b,dt sb bs b→b<w.heap.size:=λb hb=>hS.low hb;go_wp2_with (first|(at_len;refine fQ Tryz.underlying99 rfl (.tmp 18) rfl rfl WZ.top ?_)|(go_at_call 329;refine c1.mono ?_;clear c1;rintro e w4 ⟨bs4,F4,rfl,ck,NF,hG4⟩;obtain rfl:=hG4.fix (av.once NF.top) (λm u h=>by rw[((Sc m u).1 h).1];exact FB);have abU:=WZ.still ck (λb hb=>(d1 b hb).1);have Ti:=W5.still ck (λb hb h=>by have:=(d2 b hb).1;have:=hlS b h;omega);have abT:=hJr.store hne wE ck hkS (λb hb h=>by have:=(d3 b hb).1;have:=hlS b h;omega);have hg4:=ck.kept hg (λh=>wE.cd h hg rfl);have c2:=Tu Ti abU (λb hb=>(d1 b hb).2))|(go_at_call 329;refine c2.mono ?_;clear c2;rintro e w5 ⟨PG,G5,rfl,bA,Fj,PE⟩));have DU:=NF.still bA (λb hb h=>by have:=(d2 b h).1;have:=hlS b hb;omega);have hH5:=abU.still bA (λb hb=>(d1 b hb).2);have hJ5:=abT.store hne Ti bA (λb hb=>(d2 b hb).2) (λb hb=>(d3 b hb).2.1);have E_:=bA.kept hg4 (λh=>Ti.cd h hg4 rfl);have iW:af (dt sb bs4) w w5:=(hT.trans ck).bL bA λb hb=> .inl (d2 b hb).1;have zt:=bA.size;have wx:=ck.size;have hzT:=hT.size;have ahw:w1.heap.size≤w5.heap.size:=by have:=W5.top.lt;omega
   have e0:w5.cell? ⟨g,0,none⟩=some (.pointer (some ⟨jb,0,none⟩)):=(aqF w5 g 0 _ 457 (0,0) E_).trans hg0;have adZ:=atm E_;have ahI: ∀b,cv st R b→b<w4.heap.size:=λb hb=>abT.steps.BM hb;have HG4:at3 (∀n t,eI bs4 F4 n t↔eI bs4 F n t∨jR P J.head.n (i+1) n t):=λn t=>by rw[hG4.ins,hSi,Sc,yU,or_assoc]
   have HGG:at3 (∀n t,eI PG G5 n t↔jR P J.head.n (i+1) n t):=λn t=>by rw[PE.ins,hGi,Sc,yU]
   have ak1:Kh<w4.heap.size:=Ti.top.lt;have HGf:at3 (∀p∈PG,∃t,eI PG G5 p.1 t):=λp hp=>by
    obtain⟨l,hl,h1⟩:=PE.pre;rw[hl]at hp;rcases aqo.1 hp with hp|hp
    ·obtain⟨t,ht⟩:=hGf p hp;exact⟨t,(PE.ins _ _).2 (.inl ht)⟩
    ·obtain⟨_,t,ht⟩:=h1 p hp;exact⟨t,(PE.ins _ _).2 (.inr ht)⟩
   clear l0 l1 ahU Sb Ti abU abT hg4 NF ck wE WZ hJr hg
   go_loopw [8,33] (λ_ i wr=>(i= .int .i64 0∧wr=w5)∨(i= .int .i64 1∧∃bB R',dZ (pM (fX (some sb) bs4) (fX (some sb) bs4)) wr w1.heap.size k jb gb J bB R'∧at3 (∀j,j<J.steps.length→yE bf H J.steps st bB j)∧af (cv st R) w5 wr∧at3 (∀b,cv bB R' b→cv st R b∨w5.heap.size≤b))) (λ_ i _=>1-(intOf i).toNat)
   case atStart=>exact .inl ⟨rfl,rfl⟩
   case round=>
    rcases hrel with⟨rfl,rfl⟩|⟨rfl,bB,R',SK,Hk,bH,jg⟩
    ·have c3:=ajl hJ5 ahw ok (lo:=some XI) (.inr ⟨XI,rfl,hH5⟩) (λb hb h=>(d3 b h).2.2 (.inl (alN hb).symm)) (λq hq h=>(d3 _ h).2.2 (.inr ⟨q,hq,rfl⟩)) (λq hq=>(hH5.dy q hq).lt);go_wp2_with (go_at_call 346;refine c3.mono ?_;clear c3;rintro e w6 ⟨bB,R',rfl,SK,Hk,bH,jg⟩);go_roundw
     case rel=>exact .inr ⟨rfl,bB,R',SK,Hk,bH,jg⟩
     case measure=>simp[intOf]
    ·have hno: ∀b cs t,w5.heap[b]? =some (.cells cs t)→¬cv st R b:=λb cs t hb h=>hJ5.steps.YU h hb;have ND:=DU.still bH (λb hb h=>by have:=(d3 b h).1;have:=hlS b hb;omega);have hH6:=hH5.still bH (λb hb h=>(d3 b h).2.2 hb);have Yg: ∀b,cv st R b→¬dt Kh PG b:=λb hb h=>(PE.blocks h).elim (d3 b hb).2.1 λh=>by have:=ahI b hb;omega
     have hG6:=Fj.still bH (λb hb h=>Yg b h hb);have E6:=bH.kept E_ (hno _ _ _ E_);have uO:af (dt sb bs4) w wr:=iW.bL bH λb hb=> .inl (d3 b hb).1;have hL6:=hL.turn uO (λh=>hS.cd h hL.block rfl) (λb o hb h=>by rw[hKs b h]at hb;cases hb);obtain⟨l0,l1,-,-⟩:=b9 hL6.block;have akW:=atm hL6.block;have Hh:=bH.size;have e6:wr.cell? ⟨g,0,none⟩=some (.pointer (some ⟨jb,0,none⟩)):=(aqF wr g 0 _ 457 (0,0) E6).trans hg0;obtain⟨cg,xQ,-⟩:=SK.steps.cells hne;have c4:=aeH SK (Qw ND fD) aj ok hne (pl.inj F4) zZ (by rw[vy];exact zZ) (cap:=cap) e6 hH6 ND;have aiD:=pl.take i hlt bf H st bB Sc hRS Hk.out SK.steps.len;have ak7:=atm E6;go_wp2_with (go_at_call 339;refine c4.mono ?_;clear c4;rintro e w7 ⟨nb,bn,Fn,hs,xs,st7,R7,rfl,hN7,hnN,hGN,oY,Ho,hbg,jQ,eC,P1⟩)
     obtain⟨abP,hP7⟩:=pl.step i hlt F4 bB st7 xs HG4.out aiD (λt=>by
      have h1:=Sc J.head.n t;have h2:= @kV bf H J.first.n t;rw[vy,h1]at h2;constructor
      ·exact λh=>(h2.1 (vy▸oY.2.1 t h)).2
      ·exact λh=>oY.1 t (by rw[vy];exact h2.2 ⟨rfl,h⟩)) oY.2.2 hbg Ho.steps.len
     have hNi: ∀n t,eI bn Fn n t↔n=J.head.n∧P (i+1) t:=λn t=>by
      rw[hGN.ins,hP7];unfold vF;rw[(jQ.map aug).mem_iff];constructor
      ·rintro(⟨h,_⟩|h)
       ·cases h
       ·exact h
      ·exact .inr
     have PY: ∀b,dt Kh PG b→b<w5.heap.size:=λb hb=>Fj.low hb
     go_roundg gk'
     case measure=>exact atG _
     case rel=>
      refine⟨i+1,nb,by omega,rfl,uO.bL eC (λb (hb:b=gb)=> .inl (by have:=SK.steps.low;omega)),⟨cs,eC.kept E6 (λe=>by rw[e,xQ]at E6;cases E6),hg0⟩,bn,Fn,F4,PG,G5,st7,R7,ND.still eC (λb hb=>ND.cd hb xQ),HG4.out,hN7,hNi,λp hp=>?_,hG6.still eC (λb hb=>hG6.cd hb xQ),HGG.out,HGf.out,Ho,abP,λb hb=>⟨λh=>?_,λh=>?_⟩,λb hb=>?_,λb hb=>?_⟩
      ·obtain⟨l,hl,h1⟩:=hGN.pre;rw[hl,awx]at hp;obtain⟨_,t,ht⟩:=h1 p hp;exact⟨t,(hGN.ins _ _).2 (.inr ht)⟩
      ·have:=hnN b hb;have:=hlS b h;omega
      ·have:=hnN b hb;have:=PY b h;omega
      ·rcases PE.blocks hb with h|h
       ·exact d2 b h
       ·exact⟨by have:=hT.size;omega,hkz b aj⟩
      ·rcases(P1 b).1 hb with h|h
       ·rcases jg.out b h with h2|h2
        ·exact⟨(d3 b h2).1,Yg b h2,λh3=>(P1 b).2 h3 hb⟩
        ·exact⟨by omega,λh3=>by have:=PY b h3;omega,λh3=>(P1 b).2 h3 hb⟩
       ·exact⟨by omega,λh3=>by have:=PY b h3;omega,λh3=>(P1 b).2 h3 hb⟩
  ·obtain rfl:i=m:=by omega
   have hb0:bf= []:=by
    cases bf with
    |nil=>rfl
    |cons p l=>
     obtain⟨t,ht⟩:=hfu p (ao3 ..);exact absurd ((Sc _ _).1 ht).2 (pl.last t)
   subst hb0;go_wp2_with (at_len;refine fQ Tryz.underlying99 rfl (.tmp 18) rfl rfl WZ.top ?_);go_ret;exact⟨_,bl,G,F',rfl,hT,wE,hSi,W5,λb hb=>(d2 b hb).1,hGi,hGf⟩
end Go.Proofs.YtkdljbnllgpfhaaGreat
end
section
namespace Go.Proofs.YtkdljbnllgpfhaaGreat
open Go Go.RowKit Go.Upr
theorem aaR{K:Hp}{w:aly}{lb sb:Nat}{rs:List bQ}{ra:Option alA}{rc:Nat}(hL:fB w K lb sb rs ra rc)(uB: ∀r∈rs,gW r)(hn:rs.length≤1048576){bs:dB}{F:aN}(hS:aq w sb bs F){fb:Nat}{H:aN}(hH:aq w fb [] H):
  asP Tryz.prog 332 #[.pointer (some ⟨lb,0,none⟩),.map (some fb)] w λe w'=>∃nb,e= .returned (.map (some nb))∧af (λ_=>False) w w'∧w.heap.size≤nb∧aq w' nb [] bR:=by
 have tV:= @auj Tryz.prog;obtain⟨a0,a1,-,-⟩:=b9 hL.block;have jy:=atm hL.block;have k1:=λw'=>Tt (some sb) w';have k2:=λ(w':aly) (ht:af (λ_=>False) w w')=>acd (hL.still ht) uB hn (sc:=fX (some sb) bs) (F0:=F) (F1:=λ_=> []) (F2:=λ_=> []) ⟨.inr ⟨sb,rfl,hS.still ht λ_ _=>id⟩,.inl ⟨rfl,rfl⟩,.inl ⟨rfl,rfl⟩⟩;dsimp only[fX]at k2;go_enter Tryz.func332,Tryz.ntmps332;go_wp2_with (first|(go_at_call 331;refine(k1 _).mono ?_;clear k1;rintro e w1 ⟨rfl,jh⟩)|(go_at_call 337;refine(k2 _ jh).mono ?_;clear k2;rintro e w2 ⟨v,k,js,rfl,aF,-⟩));have dK:=jh.trans aF;obtain⟨w3,hw3⟩: ∃x,x=w2.alloc (.map #[] 0):=⟨_,rfl⟩;obtain⟨Kh,H5⟩: ∃x,x=w2.heap.size:=⟨_,rfl⟩;rw[←hw3,←H5];have SM:aq w3 Kh [] bR:=by rw[hw3,H5];exact⟨av.made,by simp,by simp,by simp⟩
 have eN:af (λ_=>False) w w3:=by rw[hw3];exact dK.alloc _
 have hz:w.heap.size≤Kh:=by rw[H5];exact dK.size
 have hH3:=hH.still eN λ_ _=>id;clear hw3 H5
 go_loopg [1,8] 0 (λgk v _ wr=>gk=0∧v= .map (some fb)∧wr=w3)
 case atStart=>exact⟨rfl,rfl,rfl⟩
 case round=>
  obtain⟨rfl,rfl,rfl⟩:=hrel;go_wp2_with (at_len;refine fQ Tryz.underlying99 rfl (.tmp 18) rfl rfl hH3.top ?_);go_ret;exact⟨_,rfl,eN,hz,SM⟩
def Bx(rs:List bQ)(ns:List ByteArray)(Hd:bQ→aS→Prop)(bs:dB)(F:aN)(n:ByteArray)(t:aS):Prop:=∃r∈rs,dc ns r.body r.body.length= []∧r.head.n=n∧Hd r t∧¬eI bs F n t
theorem RI{rs:List bQ}{ns:List ByteArray}{Hd:bQ→aS→Prop}{bs:dB}{F:aN}{k:Nat}{y:bQ}(hy:rs[k]? =some y){n:ByteArray}{t:aS}:Bx (rs.take (k+1)) ns Hd bs F n t↔Bx (rs.take k) ns Hd bs F n t∨(dc ns y.body y.body.length= []∧y.head.n=n∧Hd y t∧¬eI bs F n t):=by
 unfold Bx;rw[at8,hy];simp only[avV,aqo,atQ];constructor
 ·rintro⟨r,h1|rfl,h2⟩
  ·exact .inl ⟨r,h1,h2⟩
  ·exact .inr h2
 ·rintro(⟨r,h1,h2⟩|h2)
  ·exact⟨r,.inl h1,h2⟩
  ·exact⟨y,.inr rfl,h2⟩
theorem aeJ{K:Hp}{w:aly}{lb sb:Nat}{rs:List bQ}{ra:Option alA}{rc:Nat}(hL:fB w K lb sb rs ra rc)(uB: ∀r∈rs,gW r)(hn:rs.length≤1048576){bs:dB}{F:aN}(hS:aq w sb bs F)(Hd:bQ→aS→Prop)
  (lJ: ∀r∈rs,dc (eK rs) r.body r.body.length= []→uK (dV bs F) (bJ r)) (Px: ∀r∈rs,dc (eK rs) r.body r.body.length= []→∀xs bB,bC [(0,0,0)] xs→gV (dV bs F) (bJ r) xs ((bJ r).steps.map λ_=>none) bB→∀t,t∈(eV (dV bs F) (bJ r) xs bB).map aug↔Hd r t):
  asP Tryz.prog 333 #[.pointer (some ⟨lb,0,none⟩)] w λe w'=>∃nb bn Fn,e= .returned (.map (some nb))∧af (λ_=>False) w w'∧aq w' nb bn Fn∧(∀b,dt nb bn b→w.heap.size≤b)∧cr w [] bn bR Fn (Bx rs (eK rs) Hd bs F):=by
 have tV:= @auj Tryz.prog;obtain⟨q1,q2,hv2,hat⟩:=hL.rules.at hL.known;obtain⟨rfl,rfl⟩:ra=q1∧rc=q2:=by simpa using hv2
 clear hv2;have k1:=aeF hL (λr hr=>(uB r hr).Iz) hn;generalize eK rs=ns at k1 lJ Px⊢;go_enter Tryz.func333,Tryz.ntmps333;go_wp2_with (go_at_call 347;refine k1.mono ?_;clear k1;rintro e w2 ⟨nsb,rfl,AL,aF,SI⟩;obtain⟨a0,a1,-,-⟩:=b9 (aF.kept hL.block id);have qK:=atm (aF.kept hL.block id));obtain⟨w3,hw3⟩: ∃x,x=w2.alloc (.map #[] 0):=⟨_,rfl⟩;obtain⟨nb,Tb⟩: ∃x,x=w2.heap.size:=⟨_,rfl⟩;rw[←hw3,←Tb];have bX:af (λ_=>False) w2 w3:=by rw[hw3];exact(af.refl _ _).alloc _
 have SM:aq w3 nb [] bR:=by rw[hw3,Tb];exact⟨av.made,by simp,by simp,by simp⟩
 have eN:=aF.trans bX;have hN3:=SI.turn bX id;have hnw:w.heap.size≤nb:=by rw[Tb];exact aF.size
 have hn3:nsb<nb:=by rw[Tb];exact SI.lt
 clear hw3 Tb a0 a1 qK
 go_loopw [16] (λi wr=>∃ (k:Nat) (bn:dB) (Fn:aN),k≤rs.length∧i= .int .i64 k∧af (λ_=>False) w wr∧av wr bZ at5 aY nsb (aU ns)∧aq wr nb bn Fn∧at3 (∀b,dt nb bn b→nb≤b)∧at3 (cr w [] bn bR Fn (Bx (rs.take k) ns Hd bs F))) (λi _=>rs.length-(intOf i).toNat)
 case atStart=>exact⟨0,[],bR,arQ _,rfl,eN,hN3,SM,λb hb=>by rw[eF hb];exact agl _,(cr.refl w [] bR).congr λm u=>by simp[Bx]⟩
 case round=>
  clear SM hN3 SI;obtain⟨k,bn,Fn,hk,rfl,hT,hN,hE,fD,hG⟩:=hrel;by_cases hlt:k<rs.length
  ·obtain⟨r,hr⟩: ∃y,rs[k]? =some y:=⟨_,arn hlt⟩;obtain⟨g,o,cc,rfl,bW,hR,ag⟩:=hat k r hr;have zu:=ann hr;have ro:=uB r zu;obtain⟨ha,hc,ba,bc,rfl,R_,DV,SB⟩:=hR;have e0:=hT.cell (ag 0 aI) id;have e1:=hT.cell (ag 1 aI) id;have e2:=hT.cell (ag 2 aI) id;simp only[at6,←at7]at e0 e1 e2;have HO:at3 (∀n t,Bx (rs.take (k+1)) ns Hd bs F n t↔Bx (rs.take k) ns Hd bs F n t∨(dc ns r.body r.body.length= []∧r.head.n=n∧Hd r t∧¬eI bs F n t)):=λn t=>RI hr;have h1:=lJ r zu;have h2:=Px r zu;clear hr ag bW;have tA:=(af.refl (λ_=>False) wr).alloc (.cells #[.string r.head.n,.slice ha r.head.ts.length hc,.slice ba r.body.length bc] 318);have k2:=aeE (r:=r) (ha:=ha) (hl:=r.head.ts.length) (hc:=hc) ((hL.known.turn hT λ_ _ _=>id).turn tA λ_ _ _=>id) DV (λl hl=>(ro.jl l hl).2.2) (by have:=ro.mo;omega) (hN.turn tA id);obtain⟨pl,hpl⟩: ∃pl,pl=dc ns r.body r.body.length:=⟨_,rfl⟩;have G3:pl.length≤4:=by rw[hpl];have:=pF ns r.body r.body.length;have:=ro.mo;omega
   rw[←hpl]at k2 h1 h2 HO;clear hpl;have Bo:=atp wr (.cells #[.string r.head.n,.slice ha r.head.ts.length hc,.slice ba r.body.length bc] 318);by_cases Sw:pl= []
   ·subst Sw;replace h1:at3 _:=h1 rfl;replace h2:at3 _:=h2 rfl;go_wp2_with (go_at_call 348;refine k2.mono ?_;clear k2;rintro e w5 ⟨v5,k5,rfl,bA,-,-,Sz⟩;obtain⟨pa,pc,rfl⟩:=Sz.shape);have nd:=tA.trans bA;have iW:af (λ_=>False) w w5:=hT.trans nd;have adA:=bA.kept Bo id;obtain⟨x0,x1,x2,-⟩:=bI adA;have qK:=atm (bA.kept Bo id);have hL5:=hL.still iW;obtain⟨l0,l1,-,-⟩:=b9 hL5.block;have jy:=atm hL5.block;have G9:=hE.still nd (λ_ _=>id);have Xz:=hN.turn nd id;have k3:=λw'=>Tv (n:=r.head.n) (a1:=ha) (a2:=ba) (l1:=r.head.ts.length) (l2:=r.body.length) (k1:=hc) (k2:=bc) w';have k4:=λ(w':aly) (ht:af (λ_=>False) w5 w')=>aca (hL.known.turn (iW.trans ht) λ_ _ _=>id) R_ DV ro (m:=some sb) (bs:=bs) (F:=F) (.inr ⟨sb,rfl,hS.still (iW.trans ht) λ_ _=>id⟩) h1.out;clear Bo tA bA nd;have Pu: ¬dt nb bn wr.heap.size:=λh=>G9.cd h adA rfl;have akX: ¬dt nb bn lb:=λh=>G9.cd h hL5.block rfl;refine fM (dt nb bn) (λi=>i==2||i==9||i==15) ar ar ?_;intro S gg fN gc gh gb;iterate 2 (refine ak ar aC aC λK hK=>?_;go_big_quiet_op;refine hK _ ?_;clear hK K)
    refine ai ar aC λQ' hQ=>?_;go_wp2_with (go_at_call 323;refine(k3 _).mono ?_;clear k3;rintro e w6 ⟨rfl,bH⟩);have h6:af (λ_=>False) w5 w6:=(af.refl _ _).drew.trans bH;refine hQ _ _ ar (λ_=>gb _ h6.wider) ?_;clear hQ Q';iterate 6 (refine ak ar aC aC λK hK=>?_;go_big_quiet_op;refine hK _ ?_;clear hK K)
    refine ai ar aC λQ' hQ=>?_;go_wp2_with (go_at_call 349;refine(k4 _ h6).mono ?_;clear k4;rintro e w7 ⟨hb,hs,xs,bB,rfl,Xu,Hn,oY,hbg,jQ,eC⟩);have h7:=h6.trans eC;refine hQ _ _ ar (λ_=>gb _ h7.wider) ?_;clear hQ Q';iterate 5 (refine ak ar aC aC λK hK=>?_;go_big_quiet_op;refine hK _ ?_;clear hK K)
    have Hh:=h6.size;have hE7:=G9.still h7 (λ_ _=>id);have c8:=acb hE7 ro.Iz Hn (λh=>by have:=G9.low h;omega) (hS.still (iW.trans h7) λ_ _=>id) (λb hb h=>by have:=hS.low hb;have:=fD.out b h;omega);refine ai ar aC λQ' hQ=>?_;go_wp2_with (go_at_call 343;refine c8.mono ?_;clear c8;rintro e w8 ⟨bn8,Fn8,rfl,jJ,hE8,hG8⟩);refine hQ _ _ ar (λ_=>gb _ (h7.wider.trans jJ)) ?_;clear hQ Q';refine aQ ?_;clear gc gh gb fN gg S;have akF:=h7.size;have Db:=G9.top.lt;have C_:=(iW.trans h7).size;have zv:af (λ_=>False) w w8:=(iW.trans h7).bL jJ λb hb=> .inl (by have:=fD.out b hb;omega);have hN8:=(Xz.turn h7 id).turn jJ λh=>by have:=fD.out _ h;omega
    have hG9:cr w [] bn8 bR Fn8 (Bx (rs.take (k+1)) ns Hd bs F):=(hG.out.trans hG8 C_).congr λn t=>by
     rw[HO.out];unfold vF;rw[(jQ.map aug).mem_iff];have h3:=h2.out xs bB oY hbg t;unfold eV at h3;constructor
     ·rintro(h|⟨rfl,h4,h5⟩)
      ·exact .inl h
      ·exact .inr ⟨by trivial,rfl,h3.1 h4,h5⟩
     ·rintro(h|⟨_,rfl,h4,h5⟩)
      ·exact .inl h
      ·exact .inr ⟨rfl,h3.2 h4,h5⟩
    go_wp2;go_roundw
    case rel=>exact⟨k+1,bn8,Fn8,by omega,by go_num,zv,hN8,hE8,λb hb=>(hG8.blocks hb).elim (fD.out b) λh=>by omega,hG9⟩
    case measure=>simp[intOf];omega
   ·have hq:0<pl.length:=by
     cases pl with
     |nil=>exact absurd rfl Sw
     |cons _ _=>simp
    have pj:((pl.length:Int)==0)=false:=by
     have: ¬(pl.length:Int)=0:=by omega
     simpa using this
    go_wp2_with (go_at_call 348;refine k2.mono ?_;clear k2;rintro e w5 ⟨v5,k5,rfl,bA,-,-,Sz⟩;obtain⟨pa,pc,rfl⟩:=Sz.shape);go_roundw
    case rel=>exact⟨k+1,bn,Fn,by omega,by go_num,(hT.trans tA).trans bA,hN.turn (tA.trans bA) id,hE.still (tA.trans bA) (λ_ _=>id),fD,hG.out.congr λn t=>by rw[HO.out];simp[Sw]⟩
    case measure=>simp[intOf];omega
  ·have iQ:rs.take k=rs:=at4 aj;rw[iQ]at hG;go_wp2;go_ret;exact⟨_,bn,Fn,rfl,hT,hE,λb hb=>al2 hnw (fD.out b hb),hG.out⟩
end Go.Proofs.YtkdljbnllgpfhaaGreat
end
section
namespace Go.Proofs.YtkdljbnllgpfhaaGreat
open Go Go.RowKit Go.Upr
theorem qa.still{w w':aly}{m:Option Nat}{bs:dB}{F:aN}(h:qa w m bs F)(ht:af (λ_=>False) w w'):qa w' m bs F:=h.turn ht (λ_ _=>id) λ_ _=>id
theorem ab8{w:aly}{m:Option Nat}{bs:dB}{F:aN}(hS:qa w m bs F){n:ByteArray}(hn:bZ n)(a b c:Nat)(ht:fq (a,b,c)):
  asP Tryz.prog 86 #[.map m,.string n,.agg #[.int .u64 a,.int .u64 b,.int .u64 c]] w λe w'=>e= .returned (.bool (gP (iF bs F n) (a,b,c)))∧af (λ_=>False) w w':=by
 have nX:=hS.still ((af.refl (λ_=>False) w).alloc (.cells #[.int .u64 a,.int .u64 b,.int .u64 c] 116));have hu:=iR (au bs n);have hc:=FK (aD _) (nX.look n) a b c ht;obtain⟨lo,xW⟩: ∃lo,au bs n=lo:=⟨_,rfl⟩;have KB:(au bs n).elim (.map none) ji= .map lo:=by rw[hu,xW]
 rw[xW]at hc;clear hu xW;go_enter Tryz.func86,Tryz.ntmps86;go_wp2_with (first|(at_lookup;refine bu cI Tryz.underlying99 gy rfl (.tmp 7) (.tmp 8) rfl rfl (aD _) nX.hp rfl hn KB ?_)|(go_at_call 144;refine hc.mono ?_;rintro e w2 ⟨rfl,aF⟩));go_ret;exact⟨rfl,((af.refl _ w).alloc _).trans aF⟩
def ir(A:Cg→Prop)(xs:List Cg):Prop:=(∀x,x∈xs↔A x)∧xs.Nodup
def mW(g:Bool)(N:ByteArray→aS→Prop)(bc:dB)(Fc:aN)(x:Cg):Prop:=x.gone=g∧N x.n x.t∧¬eI bc Fc x.n x.t
theorem ir.more{A:Cg→Prop}{g:Bool}{n:ByteArray}{S:aS→Prop}{bc:dB}{Fc:aN}{xs:List Cg}(h:ir (λx=>A x∨mW g (λm u=>m=n∧S u) bc Fc x) xs){t:aS}(h1: ¬A ⟨n,t,g⟩)(h2: ¬S t)(b:Bool)(hb:gP (iF bc Fc n) t=b):
  ir (λx=>A x∨mW g (λm u=>m=n∧(S u∨u=t)) bc Fc x) (if b then xs else xs++ [⟨n,t,g⟩]):=by
 cases b with
 |true=>
  refine⟨λx=>?_,h.2⟩;rw[if_pos rfl,h.1];unfold mW;constructor
  ·rintro(h3|⟨h3,⟨h4,h5⟩,h6⟩)
   ·exact .inl h3
   ·exact .inr ⟨h3,⟨h4,.inl h5⟩,h6⟩
  ·rintro(h3|⟨h3,⟨h4,h5|h5⟩,h6⟩)
   ·exact .inl h3
   ·exact .inr ⟨h3,⟨h4,h5⟩,h6⟩
   ·exact absurd (by rw[h4,h5];exact A3.1 hb) h6
 |false=>
  have hn: ¬eI bc Fc n t:=λh=>by rw[A3.2 h]at hb;cases hb
  rw[if_neg aI];refine⟨λx=>?_,?_⟩
  ·rw[aqo,atQ,h.1];unfold mW;constructor
   ·rintro((h3|⟨h3,⟨h4,h5⟩,h6⟩)|rfl)
    ·exact .inl h3
    ·exact .inr ⟨h3,⟨h4,.inl h5⟩,h6⟩
    ·exact .inr ⟨rfl,⟨rfl,.inr rfl⟩,hn⟩
   ·rintro(h3|⟨h3,⟨h4,h5|h5⟩,h6⟩)
    ·exact .inl (.inl h3)
    ·exact .inl (.inr ⟨h3,⟨h4,h5⟩,h6⟩)
    ·right;obtain⟨a,b,c⟩:=x;dsimp only at h3 h4 h5;rw[h3,h4,h5]
  ·rw[aus];refine⟨h.2,by simp,λx hx y hy Kz=>?_⟩;rw[atQ]at hy;rw[Kz,hy,h.1]at hx;rcases hx with hx|⟨_,⟨_,hx⟩,_⟩
   ·exact h1 hx
   ·exact h2 hx
def gA(came:dB)(Fo:aN)(n:ByteArray)(t:aS):Prop:=(∃p∈came,p.1=n)∧t∈Fo n
theorem tN{bo came:dB}{Fo:aN}(h1: ∀p∈came,p∈bo)(h2: ∀p∈bo,p∈came){n:ByteArray}{t:aS}:gA came Fo n t↔eI bo Fo n t:=by
 unfold gA eI;rw[fL,amk];constructor
 ·rintro⟨⟨p,hp,rfl⟩,hu⟩;exact⟨⟨p,h1 p hp,rfl⟩,hu⟩
 ·rintro⟨⟨p,hp,rfl⟩,hu⟩;exact⟨⟨p,h2 p hp,rfl⟩,hu⟩
theorem ir.congr{A B:Cg→Prop}{xs:List Cg}(h:ir A xs)(hAB: ∀x,A x↔B x):ir B xs:=⟨λx=>(h.1 x).trans (hAB x),h.2⟩
theorem xE{came:dB}{Fo:aN}{g:Bool}{A:Cg→Prop}{n:ByteArray}{rb:Nat}{dM:List (aS×Unit)}{bc:dB}{Fc:aN}(h1: ∀p∈dM,p∈aU (Fo n))(h2: ∀t∈Fo n,(t,())∈dM){x:Cg}:
  ((A x∨mW g (gA came Fo) bc Fc x)∨mW g (λm u=>m=n∧(u,())∈dM) bc Fc x)↔A x∨mW g (gA (came++ [(n,rb)]) Fo) bc Fc x:=by
 unfold mW gA;rw[or_assoc];refine or_congr_right ?_;constructor
 ·rintro(⟨a,⟨⟨p,hp,G3⟩,c⟩,d⟩|⟨a,⟨b,c⟩,d⟩)
  ·exact⟨a,⟨⟨p,aqo.2 (.inl hp),G3⟩,c⟩,d⟩
  ·exact⟨a,⟨⟨(n,rb),by simp,b.symm⟩,by rw[b];exact fe.1 (h1 _ c)⟩,d⟩
 ·rintro⟨a,⟨⟨p,hp,G3⟩,c⟩,d⟩;rcases aqo.1 hp with hp|hp
  ·exact .inl ⟨a,⟨⟨p,hp,G3⟩,c⟩,d⟩
  ·obtain rfl:=atQ.1 hp;exact .inr ⟨a,⟨G3.symm,h2 _ (by rw[show n=x.n from G3];exact c)⟩,d⟩
theorem qa.rel{w:aly}{m:Option Nat}{bs:dB}{F:aN}(h:qa w m bs F){n:ByteArray}{rb:Nat}(hp:(n,rb)∈bs):av w fq br aY rb (aU (F n)):=by
 rcases h with⟨_,rfl⟩|⟨sb,_,h3⟩
 ·cases hp
 ·exact h3.dy _ hp
theorem qa.X3{w:aly}{m:Option Nat}{bs:dB}{F:aN}(h:qa w m bs F){b:Nat}(hb:m=some b):b<w.heap.size:=by
 rcases h with⟨rfl,_⟩|⟨sb,rfl,h3⟩
 ·cases hb
 ·cases hb;exact h3.top.lt
abbrev ko:Hp:=λ_=>none
theorem mR(w:aly):ko.In w:=λ_ _ h=>nomatch h
theorem O2: ∀x∈(Value.agg #[.string ati,.int .u64 0,.int .u64 0,.int .u64 0,.bool false]).cells.toList,Flat x=true:=by simp[Value.cells,Flat]
theorem c84{w:aly}{cm gm:Option Nat}{bc bg:dB}{Fc Fg:aN}(hC:qa w cm bc Fc)(hG:qa w gm bg Fg)(SB:bc.length≤1024)(hbg:bg.length≤1024)(hFc: ∀p∈bc,(Fc p.1).length≤1048576)(hFg: ∀p∈bg,(Fg p.1).length≤1048576):
  asP Tryz.prog 84 #[.agg #[.map cm,.map gm]] w λe w'=>∃v xs,e= .returned v∧af (λ_=>False) w w'∧lL w' w.heap.size 156 5 dH ko v xs∧xs.length≤2147483648∧ir (λx=>mW true (eI bg Fg) bc Fc x∨mW false (eI bc Fc) bg Fg x) xs:=by
 obtain⟨W,hW⟩: ∃W,W=w.alloc (.cells #[.map cm,.map gm] 158):=⟨_,rfl⟩;have bM:af (λ_=>False) w W:=by rw[hW];exact(af.refl _ w).alloc _
 have zx:W.heap[w.heap.size]? =some (.cells #[.map cm,.map gm] 158):=by rw[hW];exact atp _ _
 obtain⟨p0,p1,-,-⟩:=b9 zx;have hpl:=atm zx;obtain⟨N,hN⟩: ∃N,N=w.heap.size+1:=⟨_,rfl⟩;have hNl:w.heap.size<N:=by omega
 have hNr:N≤w.heap.size+1:=by omega
 clear hN;go_enter Tryz.func84,Tryz.ntmps84;go_wp2_with (first|(rw[←hW];clear hW)|(at_range;refine kD Tryz.underlying99 rfl (.tmp 11) rfl rfl (hG.still bM).hp ?_;intro w1 jh hz1 uP));go_frame;have je:=bM.trans jh;have WW:=jh.kept zx id;obtain⟨Hg,Tf⟩: ∃x,x=W.heap.size:=⟨_,rfl⟩;rw[←Tf]at uP hpl⊢;have hit:N≤Hg:=by omega
 clear Tf hz1 jh zx bM p0 p1
 go_loopg [3,4,5] bg.length (λgk v _ _ wr=>∃ (came:dB) (xs:List Cg),came.length+gk=bg.length∧af (λ_=>False) w wr∧wr.heap[w.heap.size]? =some (.cells #[.map cm,.map gm] 158)∧fY wr bZ at5 ji (.map gm) Hg bg came∧lL wr N 156 5 dH ko v xs∧at3 (ir (λx=>False∨mW true (gA came Fg) bc Fc x) xs)∧at3 (xs.length≤0+came.length*1048576))
 case atStart=>exact⟨[],[],by simp,je,WW,uP,.nil (mR _),⟨by simp[mW,gA],.nil⟩,by show _≤_;simp⟩
 case round=>
  clear uP je WW;obtain⟨came,xs,bW,hT,hP,hR,hm,hA,Sp⟩:=hrel;obtain⟨_,_,_,_,sH⟩:=hR.book;go_wp2_with (at_next;refine mv cI rfl (.tmp 12) rfl rfl hR ?_ ?_)
  ·intro sB;have mf: ∀p∈bg,p∈came:=λ⟨x,y⟩ hp=>sB x y hp;clear sB;have lC:at3 (ir (λx=>False∨mW true (eI bg Fg) bc Fc x) xs):=hA.out.congr λx=>by
    unfold mW;rw[tN hR.sub.1 mf]
   have abH:=hR.sub.2.2.2;have S6:at3 (xs.length≤0+1073741824):=by show _≤_;have:=Sp.out;omega
   clear mf hA sH hR Sp abH;have WW:=hP;obtain⟨q0,q1,-,-⟩:=b9 hP;have abm:=atm hP;have hsz:=hT.size;go_wp2_with (at_range;refine kD Tryz.underlying99 rfl (.tmp 37) rfl rfl (hC.still hT).hp ?_;intro w4 ck wx C8);go_frame;have xX:=hT.trans ck;have SG:=ck.kept hP id;have lB:=hm.turn ck (λ_ _ h=>h) (λ_ _ _ h=>h);obtain⟨PU,adX⟩: ∃x,x=wr.heap.size:=⟨_,rfl⟩;rw[←adX]at C8 abm⊢;obtain⟨Si,oY⟩: ∃y,y=xs:=⟨_,rfl⟩;rw[←oY]at lC S6 lB;have ady:at3 (Si.length≤1073741824):=by show _≤_;have:=S6.out;omega
   have hA1:at3 (ir (λx=>mW true (eI bg Fg) bc Fc x∨mW false (gA [] Fc) bg Fg x) Si):=lC.out.congr λx=>by simp[mW,gA]
   clear oY adX lC S6 hm hT hP WW q0 q1 ck wx hit hsz
   go_loopg [3,7,8] bc.length (λgk v _ _ wr=>∃ (came:dB) (xs:List Cg),came.length+gk=bc.length∧af (λ_=>False) w wr∧wr.heap[w.heap.size]? =some (.cells #[.map cm,.map gm] 158)∧fY wr bZ at5 ji (.map cm) PU bc came∧lL wr N 156 5 dH ko v xs∧at3 (ir (λx=>mW true (eI bg Fg) bc Fc x∨mW false (gA came Fc) bg Fg x) xs)∧at3 (xs.length≤Si.length+came.length*1048576))
   case atStart=>exact⟨[],Si,by simp,xX,SG,C8,lB,hA1,by show _≤_;simp⟩
   case round=>
    clear C8 lB hA1 xX SG;obtain⟨came,xs,bW,hT,hP,hR,hm,hA,Sp⟩:=hrel;obtain⟨_,_,_,_,sH⟩:=hR.book;go_wp2_with (at_next;refine mv cI rfl (.tmp 38) rfl rfl hR ?_ ?_)
    ·intro sB;have mf: ∀p∈bc,p∈came:=λ⟨x,y⟩ hp=>sB x y hp;clear sB;have lC:at3 (ir (λx=>mW true (eI bg Fg) bc Fc x∨mW false (eI bc Fc) bg Fg x) xs):=hA.out.congr λx=>by
      unfold mW;rw[tN hR.sub.1 mf]
     have abH:=hR.sub.2.2.2;have S6:at3 (xs.length≤Si.length+1073741824):=by show _≤_;have:=Sp.out;omega
     clear mf hA sH hR Sp abH;go_wp2;go_ret;exact⟨_,xs,rfl,hT,hm.lower aj,by have:=S6.out;have:=ady.out;omega,lC.out⟩
    ·intro n rb w2 jQ uN hlt aF iG;obtain⟨m,rfl⟩: ∃m,gk=m+1:=⟨gk- 1,by omega⟩;have hno:bZ n:=iG.sub.2.2.1 (n,rb) bz;have se: ∀p∈came,p.1≠n:=λp hp e=>by
      have h1:=iG.sub.2.1;rw[atW,aus]at h1;exact h1.2.2 p.1 (amk.2 ⟨p,hp,rfl⟩) n bz e
     have dK:=hT.bL aF λb (hb:b=PU)=> .inl aj;have AJ:=(hC.still dK).rel jQ;have ahL:=(hC.rel jQ).lt;have il:=hm.gB aF (λb hb (e:b=PU)=>hm.kT (b:=PU) sH (λ_ e=>nomatch e) (e▸hb)) (λ_ _ h=>nomatch h);have hii:PU<w2.heap.size:=amC (atm sH) aF.size;have DW:=aF.kept hP aj;go_wp2_with (first|(refine kE rfl (.tmp 38) rfl rfl iG ?_)|(at_range;refine fZ Tryz.underlying123 rfl (.tmp 44) rfl rfl AJ ?_;intro w3 bX hz3 qM));obtain⟨Bd,wK⟩: ∃x,x=w2.heap.size:=⟨_,rfl⟩;have eN:=dK.trans bX;have hw2:=dK.size;rw[←wK]at qM hii hw2⊢;have hP3:=bX.kept DW id;have FE:=iG.turn bX (λ_ _=>id) id;have rR:=il.turn bX (λ_ _ h=>h) (λ_ _ _ h=>h);have De:ir (λx=>(mW true (eI bg Fg) bc Fc x∨mW false (gA came Fc) bg Fg x)∨mW false (λm u=>m=n∧(u,())∈([]:List (aS×Unit))) bg Fg x) xs:=hA.out.congr λx=>by simp[mW]
     have hlen:(aU (Fc n)).length=(Fc n).length:=by simp[aU]
     replace hlen:at3 _:=hlen;clear wK bX aF iG hz3 dK il DW AJ hR hT hP hm hA;go_frame
     go_loopg [3] (Fc n).length (λgk v wr=>∃ (dM:List (aS×Unit)) (xV:List Cg),dM.length+gk=(Fc n).length∧af (λ_=>False) w wr∧wr.heap[w.heap.size]? =some (.cells #[.map cm,.map gm] 158)∧fY wr bZ at5 ji (.map cm) PU bc (came++ [(n,rb)])∧cN wr fq br aY rb Bd (aU (Fc n)) dM∧lL wr N 156 5 dH ko v xV∧at3 (ir (λx=>(mW true (eI bg Fg) bc Fc x∨mW false (gA came Fc) bg Fg x)∨mW false (λm u=>m=n∧(u,())∈dM) bg Fg x) xV)∧at3 (xV.length≤xs.length+dM.length))
     case atStart=>exact⟨[],xs,by simp,eN,hP3,FE,qM,rR,De,by show _≤_;simp⟩
     case round=>
      clear qM FE rR De eN hP3;obtain⟨dM,xV,sU,C4,hP,PD,C6,Xs,XE,Xh⟩:=hrel;obtain⟨_,_,_,_,_,_,Lb,_⟩:=id C6;go_wp2_with (at_next;refine iy gL rfl (.tmp 45) rfl rfl C6 aj ?_ ?_)
      ·intro sB;have Dd: ∀t∈Fc n,(t,())∈dM:=λ⟨x,y,z⟩ ht=>sB x y z () (fe.2 ht);clear sB;have iX:=C6.sub.1;have hA9:at3 (ir (λx=>mW true (eI bg Fg) bc Fc x∨mW false (gA (came++ [(n,rb)]) Fc) bg Fg x) xV):=XE.out.congr λx=>xE (A:=λx=>mW true (eI bg Fg) bc Fc x) iX Dd;have hl9:at3 (xV.length≤Si.length+(came++ [(n,rb)]).length*1048576):=by
        show _≤_;have h1:=Xh.out;have h2:=Sp.out;have h3:(Fc n).length≤1048576:=hFc (n,rb) jQ;simp;omega
       clear XE Dd iX Lb C6;go_wp2
       go_roundg m
       case measure=>exact atG m
       case rel=>exact⟨came++ [(n,rb)],xV,by simp;omega,C4,hP,PD,Xs,hA9,hl9⟩
      ·intro x y z u w5 S9 PX xZ bA qH;obtain⟨m2,rfl⟩: ∃m,gk=m+1:=⟨gk- 1,by have:=hlen.out;omega⟩;have Da:fq (x,y,z):=qH.sub.2.2 ((x,y,z),u) bz;have tA:=(af.refl (λ_=>False) w5).alloc (.cells #[.int .u64 x,.int .u64 y,.int .u64 z] 116);have iW:=(C4.bL bA λb (hb:b=Bd)=> .inl aj).trans tA;have Lh:=(PD.turn bA (λb hb (e:b=Bd)=>by have:=hC.X3 (by simpa using hb);omega) aj).turn tA (λ_ _=>id) id;have Li:=qH.turn tA id id;have o0:=(Xs.gB bA (λb hb (e:b=Bd)=>Xs.kT (b:=Bd) Lb (λ_ e=>nomatch e) (e▸hb)) (λ_ _ h=>nomatch h)).turn tA (λ_ _ h=>h) (λ_ _ _ h=>h);have Bj:=tA.kept (bA.kept hP aj) id;have k6:=ab8 (hG.still iW) hno x y z Da;have vz:=atp w5 (.cells #[.int .u64 x,.int .u64 y,.int .u64 z] 116)
       have wY:at3 (∀b,gP (iF bg Fg n) (x,y,z)=b→ir (λq=>(mW true (eI bg Fg) bc Fc q∨mW false (gA came Fc) bg Fg q)∨mW false (λm v=>m=n∧(v,())∈dM++ [((x,y,z),u)]) bg Fg q) (if b then xV else xV++ [⟨n,(x,y,z),false⟩])):=λb hb=>(XE.out.more (λh=>by
        rcases h with h|⟨_,⟨⟨p,hp,G3⟩,_⟩,_⟩
        ·exact Bool.false_ne_true h.1
        ·exact se p hp G3) PX b hb).congr λq=>by simp[auD]
       obtain⟨b,hb⟩: ∃b,gP (iF bg Fg n) (x,y,z)=b:=⟨_,rfl⟩;have AR:=wY.out b hb;rw[hb]at k6;replace AR:at3 _:=AR;obtain⟨a0,a1,-,-⟩:=b9 Bj;have qK:=atm Bj;have hxb:xV.length≤2147483648+1048576:=by
        have h1:=Xh.out;have h2:=Sp.out;have h3:(Fc n).length≤1048576:=hFc (n,rb) jQ;have h4:=hlt;have h6:=ady.out;have h5:=C6.le;rw[hlen.out]at h5;omega
       have Sy:at3 (xV.length+1≤xs.length+(dM++ [((x,y,z),u)]).length):=by show _≤_;have:=Xh.out;simp;omega
       clear hb wY XE Lb PD C6 Xs C4 bA;cases b with
       |true=>
        go_wp2_with (first|(refine fI rfl (.tmp 45) rfl rfl qH ?_;dsimp only[br])|(go_at_call 86;refine k6.mono ?_;clear k6;rintro e w6 ⟨rfl,bH⟩))
        go_roundg m2
        case measure=>exact atG m2
        case rel=>exact⟨dM++ [((x,y,z),u)],xV,by simp;omega,iW.trans bH,bH.kept Bj id,Lh.turn bH (λ_ _=>id) id,Li.turn bH id id,o0.turn bH (λ_ _ h=>h) (λ_ _ _ h=>h),AR,by show _≤_;have:=Sy.out;omega⟩
       |false=>
        go_wp2_with (first|(refine fI rfl (.tmp 45) rfl rfl qH ?_;dsimp only[br])|(go_at_call 86;refine k6.mono ?_;clear k6;rintro e w6 ⟨rfl,bH⟩;obtain⟨y0,y1,y2,-⟩:=bI (bH.kept vz id);have gQ:=o0.turn bH (λ_ _ h=>h) (λ_ _ _ h=>h);have Hh:=(iW.trans bH).size;have hN6:=atm (bH.kept Bj id))|(at_builtin;refine tR A7 BZ O2 rfl (.tmp 56) (.tmp 60) rfl gQ rfl ⟨n,(x,y,z),false⟩ #[.string n,.int .u64 x,.int .u64 y,.int .u64 z,.bool false] rfl rfl (by simp[atv]) rfl rfl aj aj aj (by simp[Flat]) ?_;intro g8 Tq w8 Ny jJ _));obtain⟨_,_,_,_,abI⟩:=(Lh.turn bH (λ_ _=>id) id).book;obtain⟨_,_,_,_,_,_,abL,_⟩:=id (Li.turn bH id id);have Db:=λb hb=>awy (gQ.own b hb)
        go_roundg m2
        case measure=>exact atG m2
        case rel=>exact⟨dM++ [((x,y,z),u)],xV++ [⟨n,(x,y,z),false⟩],by simp;omega,(iW.trans bH).bL jJ (λb hb=> .inl (by have:=Db b hb;omega)),jJ.kept (bH.kept Bj id) (λhb=>by have:=Db _ hb;omega),(Lh.turn bH (λ_ _=>id) id).turn jJ (λb hb hb2=>by have:=Db b hb2;have:=hC.X3 (by simpa using hb);omega) (gQ.kT abI λ_ e=>nomatch e),(Li.turn bH id id).turn jJ (λhb2=>by have:=Db _ hb2;omega) (gQ.kT abL λ_ e=>nomatch e),Ny,AR,by show _≤_;rw[ap2];exact Sy.out⟩
  ·intro n rb w2 jQ uN hlt aF iG;obtain⟨m,rfl⟩: ∃m,gk=m+1:=⟨gk- 1,by omega⟩;have hno:bZ n:=iG.sub.2.2.1 (n,rb) bz;have se: ∀p∈came,p.1≠n:=λp hp e=>by
    have h1:=iG.sub.2.1;rw[atW,aus]at h1;exact h1.2.2 p.1 (amk.2 ⟨p,hp,rfl⟩) n bz e
   have dK:=hT.bL aF λb (hb:b=Hg)=> .inl aj;have AJ:=(hG.still dK).rel jQ;have ahL:=(hG.rel jQ).lt;have il:=hm.gB aF (λb hb (e:b=Hg)=>hm.kT (b:=Hg) sH (λ_ e=>nomatch e) (e▸hb)) (λ_ _ h=>nomatch h);have hii:Hg<w2.heap.size:=amC (atm sH) aF.size;have DW:=aF.kept hP aj;go_wp2_with (first|(refine kE rfl (.tmp 12) rfl rfl iG ?_)|(at_range;refine fZ Tryz.underlying123 rfl (.tmp 18) rfl rfl AJ ?_;intro w3 bX hz3 qM));obtain⟨Bd,wK⟩: ∃x,x=w2.heap.size:=⟨_,rfl⟩;have eN:=dK.trans bX;have hw2:=dK.size;rw[←wK]at qM hii hw2⊢;have hP3:=bX.kept DW id;have FE:=iG.turn bX (λ_ _=>id) id;have rR:=il.turn bX (λ_ _ h=>h) (λ_ _ _ h=>h);have De:ir (λx=>(False∨mW true (gA came Fg) bc Fc x)∨mW true (λm u=>m=n∧(u,())∈([]:List (aS×Unit))) bc Fc x) xs:=hA.out.congr λx=>by simp[mW]
   have hlen:(aU (Fg n)).length=(Fg n).length:=by simp[aU]
   replace hlen:at3 _:=hlen;clear wK bX aF iG hz3 dK il DW AJ hR hT hP hm hA;go_frame
   go_loopg [3] (Fg n).length (λgk v wr=>∃ (dM:List (aS×Unit)) (xV:List Cg),dM.length+gk=(Fg n).length∧af (λ_=>False) w wr∧wr.heap[w.heap.size]? =some (.cells #[.map cm,.map gm] 158)∧fY wr bZ at5 ji (.map gm) Hg bg (came++ [(n,rb)])∧cN wr fq br aY rb Bd (aU (Fg n)) dM∧lL wr N 156 5 dH ko v xV∧at3 (ir (λx=>(False∨mW true (gA came Fg) bc Fc x)∨mW true (λm u=>m=n∧(u,())∈dM) bc Fc x) xV)∧at3 (xV.length≤xs.length+dM.length))
   case atStart=>exact⟨[],xs,by simp,eN,hP3,FE,qM,rR,De,by show _≤_;simp⟩
   case round=>
    clear qM FE rR De eN hP3;obtain⟨dM,xV,sU,C4,hP,PD,C6,Xs,XE,Xh⟩:=hrel;obtain⟨_,_,_,_,_,_,Lb,_⟩:=id C6;go_wp2_with (at_next;refine iy gL rfl (.tmp 19) rfl rfl C6 aj ?_ ?_)
    ·intro sB;have Dd: ∀t∈Fg n,(t,())∈dM:=λ⟨x,y,z⟩ ht=>sB x y z () (fe.2 ht);clear sB;have iX:=C6.sub.1;have hA9:at3 (ir (λx=>False∨mW true (gA (came++ [(n,rb)]) Fg) bc Fc x) xV):=XE.out.congr λx=>xE (A:=λx=>False) iX Dd;have hl9:at3 (xV.length≤0+(came++ [(n,rb)]).length*1048576):=by
      show _≤_;have h1:=Xh.out;have h2:=Sp.out;have h3:(Fg n).length≤1048576:=hFg (n,rb) jQ;simp;omega
     clear XE Dd iX Lb C6;go_wp2
     go_roundg m
     case measure=>exact atG m
     case rel=>exact⟨came++ [(n,rb)],xV,by simp;omega,C4,hP,PD,Xs,hA9,hl9⟩
    ·intro x y z u w5 S9 PX xZ bA qH;obtain⟨m2,rfl⟩: ∃m,gk=m+1:=⟨gk- 1,by have:=hlen.out;omega⟩;have Da:fq (x,y,z):=qH.sub.2.2 ((x,y,z),u) bz;have tA:=(af.refl (λ_=>False) w5).alloc (.cells #[.int .u64 x,.int .u64 y,.int .u64 z] 116);have iW:=(C4.bL bA λb (hb:b=Bd)=> .inl aj).trans tA;have Lh:=(PD.turn bA (λb hb (e:b=Bd)=>by have:=hG.X3 (by simpa using hb);omega) aj).turn tA (λ_ _=>id) id;have Li:=qH.turn tA id id;have o0:=(Xs.gB bA (λb hb (e:b=Bd)=>Xs.kT (b:=Bd) Lb (λ_ e=>nomatch e) (e▸hb)) (λ_ _ h=>nomatch h)).turn tA (λ_ _ h=>h) (λ_ _ _ h=>h);have Bj:=tA.kept (bA.kept hP aj) id;have k6:=ab8 (hC.still iW) hno x y z Da;have vz:=atp w5 (.cells #[.int .u64 x,.int .u64 y,.int .u64 z] 116)
     have wY:at3 (∀b,gP (iF bc Fc n) (x,y,z)=b→ir (λq=>(False∨mW true (gA came Fg) bc Fc q)∨mW true (λm v=>m=n∧(v,())∈dM++ [((x,y,z),u)]) bc Fc q) (if b then xV else xV++ [⟨n,(x,y,z),true⟩])):=λb hb=>(XE.out.more (λh=>by
      rcases h with h|⟨_,⟨⟨p,hp,G3⟩,_⟩,_⟩
      ·exact h
      ·exact se p hp G3) PX b hb).congr λq=>by simp[auD]
     obtain⟨b,hb⟩: ∃b,gP (iF bc Fc n) (x,y,z)=b:=⟨_,rfl⟩;have AR:=wY.out b hb;rw[hb]at k6;replace AR:at3 _:=AR;obtain⟨a0,a1,-,-⟩:=b9 Bj;have qK:=atm Bj;have hxb:xV.length≤2147483648+1048576:=by
      have h1:=Xh.out;have h2:=Sp.out;have h3:(Fg n).length≤1048576:=hFg (n,rb) jQ;have h4:=hlt;have h6:=agl 0;have h5:=C6.le;rw[hlen.out]at h5;omega
     have Sy:at3 (xV.length+1≤xs.length+(dM++ [((x,y,z),u)]).length):=by show _≤_;have:=Xh.out;simp;omega
     clear hb wY XE Lb PD C6 Xs C4 bA;cases b with
     |true=>
      go_wp2_with (first|(refine fI rfl (.tmp 19) rfl rfl qH ?_;dsimp only[br])|(go_at_call 86;refine k6.mono ?_;clear k6;rintro e w6 ⟨rfl,bH⟩))
      go_roundg m2
      case measure=>exact atG m2
      case rel=>exact⟨dM++ [((x,y,z),u)],xV,by simp;omega,iW.trans bH,bH.kept Bj id,Lh.turn bH (λ_ _=>id) id,Li.turn bH id id,o0.turn bH (λ_ _ h=>h) (λ_ _ _ h=>h),AR,by show _≤_;have:=Sy.out;omega⟩
     |false=>
      go_wp2_with (first|(refine fI rfl (.tmp 19) rfl rfl qH ?_;dsimp only[br])|(go_at_call 86;refine k6.mono ?_;clear k6;rintro e w6 ⟨rfl,bH⟩;obtain⟨y0,y1,y2,-⟩:=bI (bH.kept vz id);have gQ:=o0.turn bH (λ_ _ h=>h) (λ_ _ _ h=>h);have Hh:=(iW.trans bH).size;have hN6:=atm (bH.kept Bj id))|(at_builtin;refine tR A7 BZ O2 rfl (.tmp 30) (.tmp 34) rfl gQ rfl ⟨n,(x,y,z),true⟩ #[.string n,.int .u64 x,.int .u64 y,.int .u64 z,.bool true] rfl rfl (by simp[atv]) rfl rfl aj aj aj (by simp[Flat]) ?_;intro g8 Tq w8 Ny jJ _));obtain⟨_,_,_,_,abI⟩:=(Lh.turn bH (λ_ _=>id) id).book;obtain⟨_,_,_,_,_,_,abL,_⟩:=id (Li.turn bH id id);have Db:=λb hb=>awy (gQ.own b hb)
      go_roundg m2
      case measure=>exact atG m2
      case rel=>exact⟨dM++ [((x,y,z),u)],xV++ [⟨n,(x,y,z),true⟩],by simp;omega,(iW.trans bH).bL jJ (λb hb=> .inl (by have:=Db b hb;omega)),jJ.kept (bH.kept Bj id) (λhb=>by have:=Db _ hb;omega),(Lh.turn bH (λ_ _=>id) id).turn jJ (λb hb hb2=>by have:=Db b hb2;have:=hG.X3 (by simpa using hb);omega) (gQ.kT abI λ_ e=>nomatch e),(Li.turn bH id id).turn jJ (λhb2=>by have:=Db _ hb2;omega) (gQ.kT abL λ_ e=>nomatch e),Ny,AR,by show _≤_;rw[ap2];exact Sy.out⟩
end Go.Proofs.YtkdljbnllgpfhaaGreat
end
section
namespace Go.Proofs.YtkdljbnllgpfhaaGreat
open Go Go.RowKit Go.Upr
theorem cr.only{w:aly}{bn:dB}{Fn:aN}{A:ByteArray→aS→Prop}(h:cr w [] bn bR Fn A):(∀n t,eI bn Fn n t↔A n t)∧∀p∈bn,∃t,eI bn Fn p.1 t:=by
 refine⟨λn t=>?_,λp hp=>?_⟩
 ·rw[h.ins];constructor
  ·rintro(⟨h,_⟩|h)
   ·cases h
   ·exact h
  ·exact .inr
 ·obtain⟨l,hl,h1⟩:=h.pre;rw[hl,awx]at hp;obtain⟨_,t,ht⟩:=h1 p hp;exact⟨t,(h.ins _ _).2 (.inr ht)⟩
theorem aq.short{w:aly}{sb:Nat}{bs:dB}{F:aN}(h:aq w sb bs F){L:List aS}{n:ByteArray}(hL: ∀m t,eI bs F m t→m=n∧t∈L)(hf: ∀p∈bs,∃t,eI bs F p.1 t):bs.length≤1∧∀p∈bs,(F p.1).length≤L.length:=by
 have h1: ∀p∈bs,p.1=n:=λp hp=>let⟨t,ht⟩:=hf p hp; (hL _ _ ht).1;refine⟨?_,λp hp=>?_⟩
 ·have h2:=av.once h.top
  match bs,h1,h2 with
  | [],_,_=>exact arQ _
  | [_],_,_=>exact agl _
  |a::b::l,h1,h2=>
   rw[amY,amY,List.nodup_cons]at h2;exact absurd (by rw[h1 a bz,h1 b bz];exact ao3 ..) h2.1
 ·have h2:=av.once (h.dy p hp);have h3:(aU (F p.1)).map aug=F p.1:=by simp[aU,awz]
  rw[h3]at h2;have hl:(au bs p.1).isSome=true:=fL.2 (amk.2 ⟨p,hp,rfl⟩);exact h2.length_le_of_subset λt ht=>(hL p.1 t ⟨hl,ht⟩).2
theorem ajw{K:Hp}{w:aly}{lb sb:Nat}{rs:List bQ}{ra:Option alA}{rc:Nat}(hL:fB w K lb sb rs ra rc)(uB: ∀r∈rs,gW r)(hn:rs.length≤1048576){bs:dB}{F:aN}(hS:aq w sb bs F)(hKs: ∀b,dt sb bs b→K b=none)(Hd:bQ→aS→Prop)
  (lJ: ∀r∈rs,dc (eK rs) r.body r.body.length= []→uK (dV bs F) (bJ r)) (Px: ∀r∈rs,dc (eK rs) r.body r.body.length= []→∀xs bB,bC [(0,0,0)] xs→gV (dV bs F) (bJ r) xs ((bJ r).steps.map λ_=>none) bB→∀t,t∈(eV (dV bs F) (bJ r) xs bB).map aug↔Hd r t)
  {J:Jn} (hJ:kr (eK rs) rs= [J]) (hne:J.steps≠ []) (ok:Dl J) (zZ:bZ J.head.n) (vy:J.first.n=J.head.n) (FB:(au bs J.head.n).isSome=true) {m:Nat} {P:Nat→aS→Prop} {RS:List (Option (List aS))→Prop} (pl:aco J bs F m P RS) (h0: ∀n t,Bx rs (eK rs) Hd bs F n t↔n=J.head.n∧P 0 t)
  {L:List aS} (hPL: ∀j<m,∀t,P j t→t∈L) (hLl:L.length≤1048576):
  asP Tryz.prog 325 #[.pointer (some ⟨lb,0,none⟩)] w λe w'=>∃v xs F',e= .returned v∧af (dt sb bs) w w'∧aq w' sb bs F'∧(∀n t,eI bs F' n t↔eI bs F n t∨jR P J.head.n m n t)∧aw w' w.heap.size 156 5 dH ko v xs∧xs.length≤2147483648∧ir (λx=>x.gone=false∧jR P J.head.n m x.n x.t) xs:=by
 have k1:=aeJ hL uB hn hS Hd lJ Px;go_enter Tryz.func325,Tryz.ntmps325;go_wp2_with (first|(go_at_call 333;refine k1.mono ?_;clear k1;rintro e w2 ⟨nb,bn,Fn,rfl,aF,SI,fD,hG⟩;have k2:=ajs (hL.still aF) uB hn (hS.still aF λ_ _=>id) hKs SI (λb hb h=>by have:=fD b hb;have:=hS.low h;omega) hG.only.2 hJ hne ok zZ vy FB pl (λn t=>(hG.only.1 n t).trans (h0 n t)))|(go_at_call 332;refine k2.mono ?_;clear k2;rintro e w3 ⟨lb3,bl,G,F',rfl,bX,Bh,hF3,Bn,aku,hG3,hGf⟩;have RU:=Bn.short (L:=L) (n:=J.head.n) (λm t h=>by obtain⟨h1,j,h2,h3⟩:=(hG3 m t).1 h;exact⟨h1,hPL j h2 t h3⟩) hGf;have k4:=c84 (w:=w3) (cm:=some lb3) (gm:=none) (.inr ⟨lb3,rfl,Bn⟩) (.inl ⟨rfl,rfl⟩) (Fg:=bR) aj bz (λp hp=>by have:=RU.2 p hp;omega) (λ_ h=>nomatch h))|(go_at_call 84;refine k4.mono ?_;clear k4;rintro e w4 ⟨v,xs,rfl,ck,lB,hl4,xS⟩));go_ret;have dK:af (dt sb bs) w w3:=(aF.wider.trans bX);have hz:=dK.size
 exact⟨v,xs,F',rfl,dK.bL ck (λ_ h=>h.elim),Bh.still ck (λ_ _=>id),hF3,lB.toaw.lower hz,hl4,xS.congr λx=>by
  unfold mW;rw[hG3]
  simp[eI,au]⟩
end Go.Proofs.YtkdljbnllgpfhaaGreat
end
section
namespace Go.Proofs.YtkdljbnllgpfhaaGreat
open Go Go.RowKit Go.Upr
def Fu(l:List aS)(t:aS):List aS:=l.filter λu=> !decide (u=t)
theorem IV(l:List aS)(t:aS):Ds (aU l) t=aU (Fu l t):=by
 unfold Ds aU Fu;rw[List.filter_map];rfl
def Im(F:aN)(x:Cg):aN:=vA F x.n (if x.gone then Fu (F x.n) x.t else ly (F x.n) x.t)
def rV(F:aN)(xs:List Cg):aN:=xs.foldl Im F
theorem MD{F:aN}{xs:List Cg}{k:Nat}{y:Cg}(hy:xs[k]? =some y):rV F (xs.take (k+1))=Im (rV F (xs.take k)) y:=by
 unfold rV;rw[at8,hy,avV,List.foldl_append];rfl
theorem c44{h:Hp}{w:aly}(hw:h.In w){sb:Nat}{bs:dB}{F:aN}(hS:aq w sb bs F)(qg: ∀p∈bs,h p.2=none){ad:Option alA}{l c:Nat}{xs:List Cg}(hcs:h.list 5 dH (.slice ad l c) xs)(hn:xs.length≤1099511627776)
  (gH: ∀x∈xs,bZ x.n∧fq x.t∧(au bs x.n).isSome=true):
  asP Tryz.prog 44 #[.map (some sb),.slice ad l c] w λe w'=>e= .returned (.tuple #[])∧af (λb=>∃p∈bs,p.2=b) w w'∧aq w' sb bs (rV F xs):=by
 obtain⟨q7,q8,hv3,hat⟩:=hcs.at hw;obtain⟨rfl,rfl,rfl⟩:ad=q7∧l=xs.length∧c=q8:=by simpa using hv3
 clear hv3;have hgn: ∀g o,ad=some ⟨g,o,none⟩→¬ ∃p∈bs,p.2=g:=by
  rintro g o rfl ⟨p,hp,rfl⟩;obtain⟨ob,pk⟩:=hcs.block;rw[qg p hp]at pk;cases pk
 go_enter Tryz.func44,Tryz.ntmps44;go_wp2
 go_loopw [8] (λi wr=>∃ (k:Nat),k≤xs.length∧i= .int .i64 k∧af (λb=>∃p∈bs,p.2=b) w wr∧aq wr sb bs (rV F (xs.take k))) (λi _=>xs.length-(intOf i).toNat)
 case atStart=>exact⟨0,arQ _,rfl,af.refl _ w,hS⟩
 case round=>
  obtain⟨k,hk,rfl,hT,wE⟩:=hrel;by_cases hlt:k<xs.length
  ·obtain⟨y,hy⟩: ∃y,xs[k]? =some y:=⟨_,arn hlt⟩;obtain⟨g,o,cc,rfl,bW,rfl,ag⟩:=hat k y hy;have hgb:=hgn g o rfl;have e0:=hT.cell (ag 0 aI) hgb;have e1:=hT.cell (ag 1 aI) hgb;have e2:=hT.cell (ag 2 aI) hgb;have e3:=hT.cell (ag 3 aI) hgb;have e4:=hT.cell (ag 4 aI) hgb;simp only[at6,←at7]at e0 e1 e2 e3 e4;have HS:at3 (rV F (xs.take (k+1))=Im (rV F (xs.take k)) y):=MD hy;obtain⟨y1,y2,y3⟩:=gH y (ann hy);clear hy ag bW;generalize rV F (xs.take k)=G at wE HS;obtain⟨yn,⟨ya,yb,yc⟩,yg⟩:=y;dsimp only at y1 y2 y3;obtain⟨rb,Kk⟩:=aww.1 y3;have zu: ∃p∈bs,p.2=rb:=⟨_,cB Kk,rfl⟩;have tA:=(af.refl (λ_=>False) wr).alloc (.cells #[.string yn,.int .u64 ya,.int .u64 yb,.int .u64 yc,.bool yg] 156);have hSa:=wE.turn tA id (λ_ _=>id);have gI:=hT.bL tA λ_ h=>h.elim;cases yg with
   |true=>
    have HM:at3 (Im G ⟨yn,(ya,yb,yc),true⟩=vA G yn (Fu (G yn) (ya,yb,yc))):=rfl;have xR:=hSa.dy _ (cB Kk);dsimp only at xR;have hl:(au bs yn).elim (.map none) ji= .map (some rb):=by rw[Kk];rfl
    have G7:=av.once hSa.top;go_wp2_with (first|(at_lookup;refine bu cI Tryz.underlying99 gy rfl (.tmp 14) (.tmp 16) rfl rfl (aD _) hSa.top.hp rfl y1 hl ?_)|(at_delete;refine Eb gL Tryz.underlying123 rfl (.tmp 17) (.tmp 19) 116 rfl rfl xR (x:=(ya,yb,yc)) rfl y2 ?_;intro w5 bA mg));rw[IV]at mg;go_roundw
    case rel=>exact⟨k+1,by omega,by go_num,gI.trans (bA.mono λb _ (hb:b=rb)=>hb▸zu),by rw[HS.out,HM.out];exact hSa.Ge Kk bA mg G7⟩
    case measure=>simp[intOf];omega
   |false=>
    have HM:at3 (Im G ⟨yn,(ya,yb,yc),false⟩=vA G yn (ly (G yn) (ya,yb,yc))):=rfl;have k5:=c87 hSa y1 Kk ya yb yc y2;go_wp2_with (go_at_call 87;refine k5.mono ?_;clear k5;rintro e w5 ⟨rfl,bA,DU⟩);go_roundw
    case rel=>exact⟨k+1,by omega,by go_num,gI.trans (bA.mono λb _ (hb:b=rb)=>hb▸zu),by rw[HS.out,HM.out];exact DU⟩
    case measure=>simp[intOf];omega
  ·have iQ:xs.take k=xs:=at4 aj;rw[iQ]at wE;go_wp2;go_end0;exact⟨rfl,hT,wE⟩
end Go.Proofs.YtkdljbnllgpfhaaGreat
end
section
namespace Go.Proofs.YtkdljbnllgpfhaaGreat
open Go Go.RowKit Go.Upr
theorem Vb{l:List aS}{t u:aS}:u∈Fu l t↔u∈l∧u≠t:=by
 unfold Fu;rw[List.mem_filter];simp
theorem c82{w:aly}{sb:Nat}{bs:dB}{F:aN}(hS:aq w sb bs F){so:Nat}{bo:dB}{Fo:aN}(hO:aq w so bo Fo)(hd: ∀b,dt so bo b→¬dt sb bs b)(dC: ∀p∈bo,(au bs p.1).isSome=true):
  asP Tryz.prog 82 #[.map (some sb),.map (some so)] w λe w'=>∃F',e= .returned (.tuple #[])∧af (dt sb bs) w w'∧aq w' sb bs F'∧∀m u,eI bs F' m u↔eI bs F m u∧¬eI bo Fo m u:=by
 have hol:=hO.top.lt;have hbo:=av.once hO.top;go_enter Tryz.func82,Tryz.ntmps82;go_wp2_with (at_range;refine fZ Tryz.underlying99 rfl (.tmp 7) rfl rfl hO.top ?_;intro w1 jh hz1 uP);go_frame
 go_loopg [4,5] bo.length (λgk _ _ wr=>∃ (came:dB) (F':aN),came.length+gk=bo.length∧af (dt sb bs) w wr∧w.heap.size<wr.heap.size∧aq wr sb bs F'∧at3 (∀m u,eI bs F' m u↔eI bs F m u∧¬((∃p∈came,p.1=m)∧u∈Fo m))∧cN wr bZ at5 ji so w.heap.size bo came)
 case atStart=>exact⟨[],F,by simp,jh.wider,by omega,hS.still jh (λ_ _=>id),λm u=>by simp,uP⟩
 case round=>
  clear uP hz1 jh;obtain⟨came,F1,bW,hT,WH,hS1,uR,hR⟩:=hrel;have hO1:=hO.still hT hd;go_wp2_with (at_next;refine iy cI rfl (.tmp 8) rfl rfl hR aj ?_ ?_)
  ·intro sB;have mf: ∀p∈bo,p∈came:=λ⟨x,y⟩ hp=>sB x y hp;clear sB;have iX:=hR.sub;have HG:at3 (∀m u,eI bs F1 m u↔eI bs F m u∧¬eI bo Fo m u):=λm u=>by
    rw[uR.out,←tN iX.1 mf];rfl
   clear uR mf iX;go_wp2;go_end0;exact⟨F1,rfl,hT,hS1,HG.out⟩
  ·intro n rb w2 jQ uN hlt aF iG;obtain⟨m,rfl⟩: ∃m,gk=m+1:=⟨gk- 1,by omega⟩;have hno:bZ n:=iG.sub.2.2 (n,rb) bz;have hit: ∀b,dt sb bs b→¬b=w.heap.size:=by
    rintro b hb rfl;obtain⟨es,cl,h1⟩: ∃es cl,wr.heap[w.heap.size]? =some (.map es cl):=by
     rcases hb with hb|⟨p,hp,hb⟩
     ·obtain⟨es,cl,h1,_⟩:=hS1.top;exact⟨es,cl,hb▸h1⟩
     ·obtain⟨es,cl,h1,_⟩:=hS1.dy p hp;exact⟨es,cl,hb▸h1⟩
    obtain⟨_,_,_,_,_,_,h2,_⟩:=hR;rw[h1]at h2;cases h2
   have dK:=hT.bL aF λb (hb:b=w.heap.size)=> .inl aj;have nX:=hS1.still aF λb hb=>hit b hb;have SH:=hO.still dK hd;have AJ:=(SH.dy _ jQ).lt;have hz2:=aF.size;dsimp only at AJ;go_wp2_with (first|(refine fI rfl (.tmp 8) rfl rfl iG ?_)|(at_range;refine fZ Tryz.underlying123 rfl (.tmp 14) rfl rfl (SH.dy _ jQ) ?_;intro w3 bX hz3 qM));have Bg:=hd;have hrn:=Bg rb (.inr ⟨_,jQ,rfl⟩);have GY:=Bg so (.inl rfl);have fD:=λb (hb:dt sb bs b)=>nX.low hb;obtain⟨it,wK⟩: ∃x,x=w2.heap.size:=⟨_,rfl⟩;rw[←wK]at qM hz3 hz2 fD⊢;have ah6: ¬dt sb bs it:=λh=>by have:=fD it h;omega
   have Bh:=nX.still bX (λ_ _=>id);have FE:=iG.turn bX id id;have eN:=dK.bL bX λ_ h=>h.elim;have hlen:(aU (Fo n)).length=(Fo n).length:=by simp[aU]
   have ahH:rb<w.heap.size:=hO.low (.inr ⟨_,jQ,rfl⟩);clear wK bX aF iG nX SH dK hR hT hS1 hO1 fD AJ
   go_loopg [] (Fo n).length (λgk wr=>∃ (dM:List (aS×Unit)) (F2:aN),dM.length+gk=(Fo n).length∧af (λb=>b=it∨dt sb bs b) w3 wr∧it<wr.heap.size∧aq wr sb bs F2∧at3 (∀m u,eI bs F2 m u↔eI bs F1 m u∧¬(m=n∧(u,())∈dM))∧cN wr fq br aY rb it (aU (Fo n)) dM)
   case atStart=>exact⟨[],F1,by simp,af.refl _ _,by omega,Bh,λm u=>by simp,qM⟩
   case round=>
    clear qM Bh;obtain⟨dM,F2,sU,C4,hzi,nX,Aa,C6⟩:=hrel;have hri: ¬rb=it:=by omega
    go_wp2_with (at_next;refine iy gL rfl (.tmp 15) rfl rfl C6 hri ?_ ?_)
    ·intro sB;have mf: ∀t∈Fo n,(t,())∈dM:=λ⟨x,y,z⟩ ht=>sB x y z () (fe.2 ht);clear sB;have iX:=C6.sub;have hG:at3 (∀m u,eI bs F2 m u↔eI bs F m u∧¬((∃p∈came++ [(n,rb)],p.1=m)∧u∈Fo m)):=λm u=>by
      rw[Aa.out,uR.out,and_assoc];refine and_congr_right λ_=>?_;rw[←not_or];refine not_congr ⟨?_,?_⟩
      ·rintro(⟨⟨p,hp,rfl⟩,hu⟩|⟨rfl,hu⟩)
       ·exact⟨⟨p,aqo.2 (.inl hp),rfl⟩,hu⟩
       ·exact⟨⟨(m,rb),by simp,rfl⟩,fe.1 (iX.1 _ hu)⟩
      ·rintro⟨⟨p,hp,rfl⟩,hu⟩;rcases aqo.1 hp with hp|hp
       ·exact .inl ⟨⟨p,hp,rfl⟩,hu⟩
       ·obtain rfl:=atQ.1 hp;exact .inr ⟨rfl,mf u hu⟩
     have PD:=FE.turn C4 (λh=>h.elim aj GY) (λh=>h.elim aj λh=>hit _ h rfl);have hTo:af (dt sb bs) w wr:=eN.bL C4 λb hb=>hb.elim (λe=> .inl aj) .inr;have hzo:w.heap.size<wr.heap.size:=by omega
     clear mf iX Aa C4;go_wp2
     go_roundg m
     case measure=>exact atG m
     case rel=>exact⟨came++ [(n,rb)],F2,by simp;omega,hTo,hzo,nX,hG,PD⟩
    ·intro x y z u w5 S9 PX xZ bA qH;obtain⟨m2,rfl⟩: ∃m,gk=m+1:=⟨gk- 1,by omega⟩;have Da:fq (x,y,z):=qH.sub.2.2 ((x,y,z),u) bz;have Tg: ¬dt sb bs it:=ah6;have tA:=(af.refl (λ_=>False) w5).alloc (.cells #[.int .u64 x,.int .u64 y,.int .u64 z] 116);have DU:=(nX.still bA λb hb (e:b=it)=>Tg (e▸hb)).still tA (λ_ _=>id);obtain⟨rs,Nr⟩:=aww.1 (dC _ jQ);dsimp only at Nr;have xR:=DU.dy _ (cB Nr);dsimp only at xR;have hl:(au bs n).elim (.map none) ji= .map (some rs):=by rw[Nr];rfl
     have G7:=av.once DU.top;have zu:dt sb bs rs:= .inr ⟨_,cB Nr,rfl⟩;go_wp2_with (first|(refine fI rfl (.tmp 15) rfl rfl qH ?_;dsimp only[br])|(at_lookup;refine bu cI Tryz.underlying99 gy rfl (.tmp 20) (.tmp 21) rfl rfl (aD _) DU.top.hp rfl hno hl ?_)|(at_delete;refine Eb gL Tryz.underlying123 rfl (.tmp 22) (.tmp 23) 116 rfl rfl xR (x:=(x,y,z)) rfl Da ?_;intro w7 eC hM7));rw[IV]at hM7;have Xw:=DU.Ge Nr eC hM7 G7;have C5:af (λb=>b=it∨dt sb bs b) w3 w7:=((C4.bL bA λb (hb:b=it)=> .inr (.inl hb)).trans tA.wider).bL eC λb (hb:b=rs)=> .inr (.inr (hb▸zu));have Bi:=(qH.turn tA id id).turn eC (λe=>hrn (e▸zu)) (λe=>Tg (e▸zu));have hG:at3 (∀m u,eI bs (vA F2 n (Fu (F2 n) (x,y,z))) m u↔eI bs F1 m u∧¬(m=n∧(u,())∈dM++ [((x,y,z),())])):=λm u=>by
      have h1:=Aa.out m u;unfold eI at h1⊢;by_cases DN:m=n
      ·subst DN;rw[lU,Vb,←and_assoc,h1,and_assoc];refine and_congr_right λ_=>?_;simp[auD]
      ·rw[ju _ DN,h1];simp[DN]
     have C_:it<w7.heap.size:=by have h8:=eC.size;have h9:=bA.size;rw[atS]at h8;omega
     clear Aa eC qH DU tA;go_wp2
     go_roundg m2
     case measure=>exact atG m2
     case rel=>exact⟨dM++ [((x,y,z),())],_,by simp;omega,C5,C_,Xw,hG,Bi⟩
end Go.Proofs.YtkdljbnllgpfhaaGreat
end
section
namespace Go.Proofs.YtkdljbnllgpfhaaGreat
open Go Go.RowKit Go.Upr
def lG(xs:List Cg)(g:Bool)(n:ByteArray)(t:aS):Prop:=∃x∈xs,x.gone=g∧x.n=n∧x.t=t
theorem Nj{xs:List Cg}{k:Nat}{y:Cg}(hy:xs[k]? =some y){g:Bool}{n:ByteArray}{t:aS}:lG (xs.take (k+1)) g n t↔lG (xs.take k) g n t∨(y.gone=g∧y.n=n∧y.t=t):=by
 unfold lG;rw[at8,hy];simp only[avV,aqo,atQ];constructor
 ·rintro⟨r,h1|rfl,h2⟩
  ·exact .inl ⟨r,h1,h2⟩
  ·exact .inr h2
 ·rintro(⟨r,h1,h2⟩|h2)
  ·exact⟨r,.inl h1,h2⟩
  ·exact⟨y,.inr rfl,h2⟩
theorem c81{h:Hp}{w:aly}(hw:h.In w){ad:Option alA}{l c:Nat}{xs:List Cg}(hcs:h.list 5 dH (.slice ad l c) xs)(hn:xs.length≤1099511627776)(gH: ∀x∈xs,bZ x.n∧fq x.t):
  asP Tryz.prog 81 #[.slice ad l c] w λe w'=>∃cb gb bc bg Fc Fg,e= .returned (.agg #[.map (some cb),.map (some gb)])∧af (λ_=>False) w w'∧aq w' cb bc Fc∧aq w' gb bg Fg∧(∀b,dt cb bc b→w.heap.size≤b∧¬dt gb bg b)∧(∀b,dt gb bg b→w.heap.size≤b)∧
   cr w [] bc bR Fc (lG xs false)∧cr w [] bg bR Fg (lG xs true):=by
 obtain⟨q7,q8,hv3,hat⟩:=hcs.at hw;obtain⟨rfl,rfl,rfl⟩:ad=q7∧l=xs.length∧c=q8:=by simpa using hv3
 clear hv3;have tV:= @auj Tryz.prog;obtain⟨W,hW⟩: ∃W,W=(((w.alloc (.cells #[.map none,.map none] 158)).alloc (.map #[] 0)).alloc (.map #[] 0)).alloc (.cells #[.map (some (w.heap.size+1)),.map (some (w.heap.size+1+1))] 158):=⟨_,rfl⟩;obtain⟨cb,hcb⟩: ∃x,x=w.heap.size+1:=⟨_,rfl⟩;obtain⟨gb,hgb⟩: ∃x,x=w.heap.size+1+1:=⟨_,rfl⟩;obtain⟨B,hB⟩: ∃x,x=w.heap.size+1+1+1:=⟨_,rfl⟩;have bM:af (λ_=>False) w W:=by rw[hW];exact((((af.refl _ w).alloc _).alloc _).alloc _).alloc _
 have hr0:W.heap[w.heap.size]? =some (.cells #[.map none,.map none] 158):=by
  rw[hW];exact(((af.refl (λ_=>False) _).alloc _).alloc _).kept (bq _ _ _) id
 have hc0:aq W cb [] bR:=by
  refine⟨?_,by simp,by simp,by simp⟩;rw[hW,hcb];have h1:=av.made (w:=w.alloc (.cells #[.map none,.map none] 158)) (ok:=bZ) (key:=at5) (enc:=ji);rw[atS]at h1;exact h1.turn (((af.refl (λ_=>False) _).alloc _).alloc _) id
 have hg0:aq W gb [] bR:=by
  refine⟨?_,by simp,by simp,by simp⟩;rw[hW,hgb];have h1:=av.made (w:=(w.alloc (.cells #[.map none,.map none] 158)).alloc (.map #[] 0)) (ok:=bZ) (key:=at5) (enc:=ji);rw[atS,atS]at h1;exact h1.turn ((af.refl (λ_=>False) _).alloc _) id
 have lH:W.heap[B]? =some (.cells #[.map (some cb),.map (some gb)] 158):=by
  rw[hW,hB,hcb,hgb];have h1:=atp (((w.alloc (.cells #[.map none,.map none] 158)).alloc (.map #[] 0)).alloc (.map #[] 0)) (.cells #[.map (some (w.heap.size+1)),.map (some (w.heap.size+1+1))] 158);rw[atS,atS,atS]at h1;exact h1
 go_enter Tryz.func81,Tryz.ntmps81;go_wp2;rw[←hW,←hB,←hgb,←hcb];have hc1:w.heap.size<cb:=by omega
 have hg1:cb<gb:=by omega
 have XD:gb<B:=by omega
 clear hW hB hgb hcb
 go_loopw [11] (λi wr=>∃ (k:Nat) (bc bg:dB) (Fc Fg:aN),k≤xs.length∧i= .int .i64 k∧af (λ_=>False) w wr∧wr.heap[w.heap.size]? =some (.cells #[.map none,.map none] 158)∧wr.heap[B]? =some (.cells #[.map (some cb),.map (some gb)] 158)∧aq wr cb bc Fc∧aq wr gb bg Fg∧
  at3 (∀b,dt cb bc b→w.heap.size≤b∧¬dt gb bg b)∧at3 (∀b,dt gb bg b→w.heap.size≤b)∧at3 (cr w [] bc bR Fc (lG (xs.take k) false))∧at3 (cr w [] bg bR Fg (lG (xs.take k) true))) (λi _=>xs.length-(intOf i).toNat)
 case atStart=>exact⟨0,[],[],bR,bR,arQ _,rfl,bM,hr0,lH,hc0,hg0,λb hb=>by have:=eF hb;exact⟨by omega,λh=>by have:=eF h;omega⟩,λb hb=>by have:=eF hb;omega,(cr.refl _ _ _).congr λm u=>by simp[lG],(cr.refl _ _ _).congr λm u=>by simp[lG]⟩
 case round=>
  clear bM hr0 lH hc0 hg0;obtain⟨k,bc,bg,Fc,Fg,hk,rfl,hT,hr,KH,hC,hG,d1,d2,g1,g2⟩:=hrel;by_cases hlt:k<xs.length
  ·obtain⟨y,hy⟩: ∃y,xs[k]? =some y:=⟨_,arn hlt⟩;obtain⟨g,o,cc,rfl,bW,rfl,ag⟩:=hat k y hy;have e0:=hT.cell (ag 0 aI) id;have e1:=hT.cell (ag 1 aI) id;have e2:=hT.cell (ag 2 aI) id;have e3:=hT.cell (ag 3 aI) id;have e4:=hT.cell (ag 4 aI) id;simp only[at6,←at7]at e0 e1 e2 e3 e4;have HS:at3 (∀g n t,lG (xs.take (k+1)) g n t↔lG (xs.take k) g n t∨(y.gone=g∧y.n=n∧y.t=t)):=λg n t=>Nj hy;obtain⟨y1,y2⟩:=gH y (ann hy);clear hy ag bW;obtain⟨yn,⟨ya,yb,yc⟩,yg⟩:=y;dsimp only at y1 y2;have tA:=(af.refl (λ_=>False) wr).alloc (.cells #[.string yn,.int .u64 ya,.int .u64 yb,.int .u64 yc,.bool yg] 156);have gI:=hT.trans tA;have sJ:=tA.kept KH id;have hra:=tA.kept hr id;obtain⟨b0,b1,-,-⟩:=b9 sJ;have hbl:=atm sJ;have hCa:=hC.still tA (λ_ _=>id);have hGa:=hG.still tA (λ_ _=>id);have hza:=gI.size;cases yg with
   |true=>
    have k5:=Yp hGa y1 ya yb yc y2;go_wp2_with (go_at_call 87;refine k5.mono ?_;clear k5;rintro e w5 ⟨bg5,Fg5,x,rfl,bA,Fj,E_⟩);go_roundw
    case rel=>exact⟨k+1,bc,bg5,Fc,Fg5,by omega,by go_num,gI.bL bA (λb hb=> .inl (d2.out b hb)),bA.kept hra (λh=>hGa.cd h hra rfl),bA.kept sJ (λh=>hGa.cd h sJ rfl),hCa.still bA (λb hb=>(d1.out b hb).2),Fj,λb hb=>⟨(d1.out b hb).1,λh=>(E_.blocks h).elim (d1.out b hb).2 λh=>by have:=hCa.low hb;omega⟩,λb hb=>(E_.blocks hb).elim (d2.out b) λh=>by omega,g1.out.congr λn t=>by rw[HS.out];simp,(g2.out.trans E_ hza).congr λn t=>by rw[HS.out];simp[eq_comm]⟩
    case measure=>simp[intOf];omega
   |false=>
    have k5:=Yp hCa y1 ya yb yc y2;go_wp2_with (go_at_call 87;refine k5.mono ?_;clear k5;rintro e w5 ⟨bc5,Fc5,x,rfl,bA,hC5,E_⟩);go_roundw
    case rel=>exact⟨k+1,bc5,bg,Fc5,Fg,by omega,by go_num,gI.bL bA (λb hb=> .inl (d1.out b hb).1),bA.kept hra (λh=>hCa.cd h hra rfl),bA.kept sJ (λh=>hCa.cd h sJ rfl),hC5,hGa.still bA (λb hb h=>(d1.out b h).2 hb),λb hb=>(E_.blocks hb).elim (d1.out b) λh=>⟨by omega,λh2=>by have:=hGa.low h2;omega⟩,d2.out,(g1.out.trans E_ hza).congr λn t=>by rw[HS.out];simp[eq_comm],g2.out.congr λn t=>by rw[HS.out];simp⟩
    case measure=>simp[intOf];omega
  ·have iQ:xs.take k=xs:=at4 aj;rw[iQ]at g1 g2;obtain⟨b0,b1,-,-⟩:=b9 KH;obtain⟨a0,a1,f0,f1⟩:=b9 hr;have hbl:=atm KH;go_wp2;refine bodyPost_ret (v:= .agg #[.map (some cb),.map (some gb)]) (by simp[results,Tryz.results81,go_sem,a0,a1]) rfl ?_;have hS:=((af.refl (·=w.heap.size) wr).setCell (p:=⟨w.heap.size,0,none⟩) (.inr rfl) (.map (some cb))).setCell (p:=⟨w.heap.size,1,none⟩) (.inr rfl) (.map (some gb));exact⟨cb,gb,bc,bg,Fc,Fg,rfl,hT.bL hS λb (hb:b=w.heap.size)=> .inl aj,hC.still hS (λb hb=>hC.cd hb hr),hG.still hS (λb hb=>hG.cd hb hr),d1.out,d2.out,g1.out,g2.out⟩
end Go.Proofs.YtkdljbnllgpfhaaGreat
end
section
namespace Go.Proofs.YtkdljbnllgpfhaaGreat
open Go Go.RowKit Go.Upr
def DJ(sc:Hs)(F0 F1 F2:aN):Bool→ByteArray→Seen:=λs n=>if s then Fs sc F0 F1 F2 n else Fs sc F0 F1 F2 n
def BH(D:Bool→ByteArray→Seen)(J:Jn)(ts:List aS)(S:aS→Prop):Prop:=∀xs bB,bC ts xs→gV D J xs (J.steps.map λ_=>none) bB→bB.length=J.steps.length→∀t,t∈(eV D J xs bB).map aug↔S t
theorem ajm{K:Hp}{w:aly}(hK:K.In w){r:bQ}{ha ba:Option alA}{hc bc:Nat}(hH:K.list 2 r_ (.slice ha r.head.ts.length hc) r.head.ts)(hB:K.list 3 xT (.slice ba r.body.length bc) r.body)(SB:r.body.length≤bc)(ok:gW r)(i:Nat){y:iY}(hy:r.body[i]? =some y)
  {sc:Hs} {F0 F1 F2:aN} (hS:mq w sc F0 F1 F2) {o:Option Nat} {ts:List aS} (iu:Hp.map (λb=>w.heap[b]?) fq br aY (.map o) (aU ts)) {fb:Nat} {bf:dB} {Ff:aN} (hF:aq w fb bf Ff) {kb:Nat} {bk:dB} {Fk:aN} (hKn:aq w kb bk Fk) (hd: ∀b,dt kb bk b→¬dt fb bf b)
  {x1 x2 x3:Nat} (h1:w.heap[x1]? =some (.cells #[.map (some fb)] 99)) (h2:w.heap[x2]? =some (.cells #[.map sc.m0,.map sc.m1,.map sc.m2] 444)) (h3:w.heap[x3]? =some (.cells #[.map (some kb)] 99))
  (lJ:uK (DJ sc F0 F1 F2) (ic r.head y.a (fE r i))) {S:aS→Prop} (hkey:BH (DJ sc F0 F1 F2) (ic r.head y.a (fE r i)) ts S):
  asP Tryz.prog 342 #[.agg #[.string r.head.n,.slice ha r.head.ts.length hc,.slice ba r.body.length bc],.int .i64 i,.map o,.pointer (some ⟨x1,0,none⟩),.pointer (some ⟨x2,0,none⟩),.pointer (some ⟨x3,0,none⟩)] w λe w'=>∃SQ SV,e= .returned (.tuple #[])∧af (dt fb bf) w w'∧aq w' fb SQ SV∧cr w bf SQ Ff SV λn t=>n=r.head.n∧S t∧¬eI bk Fk n t:=by
 obtain⟨W,hW⟩: ∃W,W=w.alloc (.cells #[.string r.head.n,.slice ha r.head.ts.length hc,.slice ba r.body.length bc] 318):=⟨_,rfl⟩;have bM:af (λ_=>False) w W:=by rw[hW];exact(af.refl _ _).alloc _
 have lY:W.heap[w.heap.size]? =some (.cells #[.string r.head.n,.slice ha r.head.ts.length hc,.slice ba r.body.length bc] 318):=by rw[hW];exact atp _ _
 obtain⟨a0,a1,a2,-⟩:=bI lY;have qK:=atm lY;have p1:W.cell? ⟨x1,0,none⟩=some (.map (some fb)):=(aqF W x1 0 _ 99 (0,0) (bM.kept h1 id)).trans rfl;have p3:W.cell? ⟨x3,0,none⟩=some (.map (some kb)):=(aqF W x3 0 _ 99 (0,0) (bM.kept h3 id)).trans rfl;obtain⟨s0,s1,s2,-⟩:=bI (bM.kept h2 id);have hx1:=atm (bM.kept h1 id);have hx2:=atm (bM.kept h2 id);have hx3:=atm (bM.kept h3 id);have k3:=λw'=>Tv (n:=r.head.n) (a1:=ha) (a2:=ba) (l1:=r.head.ts.length) (l2:=r.body.length) (k1:=hc) (k2:=bc) w';have k4:=λ(w':aly) (ht:af (λ_=>False) W w')=>aeG (hK.turn (bM.trans ht) λ_ _ _=>id) hH hB SB ok i hy (hS.turn (bM.trans ht)) (hS.turn (bM.trans ht));have Hi:=ok.jl y (ann hy);have Nu: ∀p∈fE r i,dP p:=λp hp=>(aqo.1 hp).elim (iT (λl hl=>ok.jl l (List.mem_of_mem_take hl)) p) (iT (λl hl=>ok.jl l (List.mem_of_mem_drop hl)) p);have hpl:(fE r i).length≤4:=by
  unfold fE;have:=ok.mo;have:=(apT.1 hy).1;rw[ap2,auB,auB,List.length_take,List.length_drop];omega
 have gH:=xt ok.nE ok.ml Hi.1 Hi.2.1 hpl Nu;have hhn:(ic r.head y.a (fE r i)).head.n=r.head.n:=rfl;generalize ic r.head y.a (fE r i)=J at k4 lJ hkey gH;go_enter Tryz.func342,Tryz.ntmps342;go_wp2_with (rw[←hW];clear hW);refine aG (λi=>i==2||i==7||i==9||i==11) ar ar ?_;intro S' gg fN gc gf gh gb;iterate 2 (refine ak ar aC aC λK hK=>?_;go_big_quiet_op;refine hK _ ?_;clear hK K)
 refine ai ar aC λQ' hQ=>?_;go_wp2_with (go_at_call 323;refine(k3 _).mono ?_;clear k3;rintro e w2 ⟨rfl,aF⟩);have h2:af (λ_=>False) W w2:=(af.refl _ _).drew.trans aF;refine hQ _ _ ar (λ_=>gb _ h2.below) ?_;clear hQ Q';iterate 4 (refine ak ar aC aC λK hK=>?_;go_big_quiet_op;refine hK _ ?_;clear hK K)
 refine ai ar aC λQ' hQ=>?_;go_wp2_with (go_at_call 344;refine(k4 _ h2).mono ?_;clear k4;rintro e w4 ⟨jb,k,rfl,ck,uC,hJ4⟩);have h4:=h2.trans ck;refine hQ _ _ ar (λ_=>gb _ h4.below) ?_;clear hQ Q';refine ak ar aC aC λK hK=>?_;go_big_quiet_op;refine hK _ ?_;clear hK K;obtain⟨g5,hrun⟩:=hJ4.run;have hz2:=(bM.trans h2).size;have KV:iC w4 w2.heap.size (pM sc sc) (DJ sc F0 F1 F2):=by
  have h5:=tF (hS.turn (bM.trans h2)) (hS.turn (bM.trans h2));exact h5.turn ck λ_ _=>id
 have k5:=Yt (D:=DJ sc F0 F1 F2) hrun KV ck.size gH (o:=o) (ts:=ts) (Hp.bY iu (bM.trans h4)) lJ;refine ai ar aC λQ' hQ=>?_;go_wp2_with (go_at_call 345;refine k5.mono ?_;clear k5;rintro e w6 ⟨hb,hs,xs,bB,R',rfl,Xu,Hn,oY,SK,hbg,jQ,bH,-⟩);have fD:=hrun.steps.low;have h6:af (λ_=>False) W w6:=h4.bL bH λq (hq:q=g5)=> .inl (by have:=h2.size;omega);refine hQ _ _ ar (λ_=>gb _ h6.below) ?_;clear hQ Q';refine ak ar aC aC λK hK=>?_;go_big_quiet_op;refine hK _ ?_;clear hK K;have sD:=bM.trans h6;have hF6:=hF.still sD (λ_ _=>id);have k7:=acb hF6 ok.Iz Hn (λh=>by have:=hF.low h;have:=h4.size;have:=bM.size;omega) (hKn.still sD λ_ _=>id) hd;refine ai ar aC λQ' hQ=>?_;go_wp2_with (go_at_call 343;refine k7.mono ?_;clear k7;rintro e w8 ⟨bf8,Ff8,rfl,jJ,PF,hG8⟩);refine hQ _ _ ar (aX ar) ?_;clear hQ Q';refine aQ ?_;clear gc gf gh gb fN gg S';go_wp2;go_end0;refine⟨bf8,Ff8,rfl,sD.wider.trans jJ,PF,(hG8.weak sD.size).congr λn t=>?_⟩;unfold vF;rw[(jQ.map aug).mem_iff];have h9:=hkey xs bB oY hbg SK.steps.len t;unfold eV at h9;constructor
 ·rintro⟨rfl,h4,h5⟩;exact⟨rfl,h9.1 h4,h5⟩
 ·rintro⟨rfl,h4,h5⟩;exact⟨rfl,h9.2 h4,h5⟩
end Go.Proofs.YtkdljbnllgpfhaaGreat
end
section
namespace Go.Upr
open Go Go.RowKit
section
variable{P:Program}{kt et t:TypeId}{κ ν:Type}{key:κ→aad}{ok:κ→Prop}{enc:ν→aad}
variable{ops:Array Oper}{rest:List Oper}{o:Oper}{a:Act}{Q:Exit→Act→aly→Prop}{w:aly}{f:List (κ×ν)}{v:aad}
theorem nS(ht:P.underlying t=some (.map kt et))(hg:Region.wanted o (yielded ops a.tmps)=true)(m:Operand)(hop:o.op= .call {callee:= .builtin .len,args:= #[m],argTypes:= #[t]})(hm:a.eval m=v)(H:Hp.map (λb=>w.heap[b]?) ok key enc v f)
  (hk:wpList P ops Q rest (a.put o.dst (.int .i64 f.length)) w):wpList P ops Q (o::rest) a w:=by
 rcases H with⟨rfl,rfl⟩|⟨b,es,clock,rfl,h1,h2⟩
 ·refine wpList_want hg λK' hK'=>?_;have h3:(anW #[t] o.type #[.map none]).run P w= .ok (.int .i64 0) w:=by
   simp[anW,run_underlying ht,aua,goInt]
  unfold Oper.wp;simp[execOp,hop,resolve,invoke,builtin,hm,h3,aua];exact hK' _ _ hk
 ·exact fQ ht hg m hop hm ⟨es,clock,h1,h2⟩ hk
end
end Go.Upr
namespace Go.Proofs.YtkdljbnllgpfhaaGreat
open Go Go.RowKit Go.Upr
def fV(b0:dB)(G0:aN)(b1:dB)(G1:aN)(y:iY):List aS:=iF (if y.neg then b1 else b0) (if y.neg then G1 else G0) y.a.n
def BI(g:iY→List aS)(Sg:bQ→Nat→aS→Prop)(bk:dB)(Fk:aN)(r:bQ)(i:Nat)(n:ByteArray)(t:aS):Prop:=∃y,r.body[i]? =some y∧g y≠ []∧n=r.head.n∧Sg r i t∧¬eI bk Fk n t
def pz(g:iY→List aS)(Sg:bQ→Nat→aS→Prop)(bk:dB)(Fk:aN)(rs:List bQ)(n:ByteArray)(t:aS):Prop:=∃r∈rs,∃i,BI g Sg bk Fk r i n t
theorem Nl{g:iY→List aS}{Sg:bQ→Nat→aS→Prop}{bk:dB}{Fk:aN}{rs:List bQ}{k:Nat}{y:bQ}(hy:rs[k]? =some y){n:ByteArray}{t:aS}:pz g Sg bk Fk (rs.take (k+1)) n t↔pz g Sg bk Fk (rs.take k) n t∨∃i<y.body.length,BI g Sg bk Fk y i n t:=by
 unfold pz;rw[at8,hy];simp only[avV,aqo,atQ];constructor
 ·rintro⟨r,h1|rfl,i,h2⟩
  ·exact .inl ⟨r,h1,i,h2⟩
  ·obtain⟨z,hz,_⟩:=id h2;exact .inr ⟨i,(apT.1 hz).1,h2⟩
 ·rintro(⟨r,h1,h2⟩|⟨i,_,h2⟩)
  ·exact⟨r,.inl h1,h2⟩
  ·exact⟨y,.inr rfl,i,h2⟩
theorem ajn{K:Hp}{w0 w:aly}(bM:af (λ_=>False) w0 w){lb sb:Nat}{rs:List bQ}{ra:Option alA}{rc:Nat}(hL:fB w0 K lb sb rs ra rc)(uB: ∀r∈rs,gW r)(hn:rs.length≤1048576)
  {p0 p1:Option Nat} {b0 b1:dB} {G0 G1:aN} (h0:qa w0 p0 b0 G0) (h1:qa w0 p1 b1 G1) {sc:Hs} {F0 F1 F2:aN} (hS:mq w0 sc F0 F1 F2) {kb:Nat} {bk:dB} {Fk:aN} (hKn:aq w0 kb bk Fk)
  {fb:Nat} {bf:dB} {Ff:aN} (hF:aq w fb bf Ff) (fD: ∀b,dt fb bf b→w0.heap.size≤b)
  {x1 x2 x3:Nat} (e1:w.heap[x1]? =some (.cells #[.map (some fb)] 99)) (e2:w.heap[x2]? =some (.cells #[.map sc.m0,.map sc.m1,.map sc.m2] 444)) (e3:w.heap[x3]? =some (.cells #[.map (some kb)] 99)) {Sg:bQ→Nat→aS→Prop}
  (hg: ∀r∈rs,∀i y,r.body[i]? =some y→fV b0 G0 b1 G1 y≠ []→uK (DJ sc F0 F1 F2) (ic r.head y.a (fE r i))∧BH (DJ sc F0 F1 F2) (ic r.head y.a (fE r i)) (fV b0 G0 b1 G1 y) (Sg r i)):
  asP Tryz.prog 341 #[.pointer (some ⟨lb,0,none⟩),.agg #[.map p0,.map p1],.func (.func 342) #[] #[.pointer (some ⟨x1,0,none⟩),.pointer (some ⟨x2,0,none⟩),.pointer (some ⟨x3,0,none⟩)]] w λe w'=>∃SQ SV,e= .returned (.tuple #[])∧af (dt fb bf) w w'∧aq w' fb SQ SV∧cr w bf SQ Ff SV (pz (fV b0 G0 b1 G1) Sg bk Fk rs):=by
 obtain⟨q1,q2,hv2,hat⟩:=hL.rules.at hL.known;obtain⟨rfl,rfl⟩:ra=q1∧rc=q2:=by simpa using hv2
 clear hv2;obtain⟨W,hW⟩: ∃W,W=w.alloc (.cells #[.map p0,.map p1] 158):=⟨_,rfl⟩;have qL:af (λ_=>False) w W:=by rw[hW];exact(af.refl _ _).alloc _
 have lH:W.heap[w.heap.size]? =some (.cells #[.map p0,.map p1] 158):=by rw[hW];exact atp _ _
 have hWz:W.heap.size≤w.heap.size+1:=by rw[hW];simp
 have XA:=(hL.still bM).still qL;obtain⟨l0,l1,-,-⟩:=b9 XA.block;have jy:=atm XA.block;have hFW:=hF.still qL (λ_ _=>id);have eg: ∀args w,(callFunc 342 args).run Tryz.prog w= .ok (.enter 342 args) w:=λargs w=>by kernel_rfl
 go_enter Tryz.func341,Tryz.ntmps341;go_wp2_with (rw[←hW];clear hW)
 go_loopw [15] (λi wr=>∃ (k:Nat) (SQ:dB) (SV:aN),k≤rs.length∧i= .int .i64 k∧af (dt fb bf) W wr∧aq wr fb SQ SV∧at3 (cr w bf SQ Ff SV (pz (fV b0 G0 b1 G1) Sg bk Fk (rs.take k)))) (λi _=>rs.length-(intOf i).toNat)
 case atStart=>exact⟨0,bf,Ff,arQ _,rfl,af.refl _ _,hFW,(cr.refl _ _ _).congr λn t=>by simp[pz]⟩
 case round=>
  obtain⟨k,bf1,Ff1,hk,rfl,hT,hF1,uR⟩:=hrel;have je:af (λ_=>False) w0 wr:=(bM.trans qL).bL hT λb hb=> .inl (fD b hb);by_cases hlt:k<rs.length
  ·obtain⟨r,hr⟩: ∃y,rs[k]? =some y:=⟨_,arn hlt⟩;obtain⟨g,o,cc,rfl,bW,hR,ag⟩:=hat k r hr;have zu:=ann hr;have ro:=uB r zu;obtain⟨ha,hc,ba,bc,rfl,R_,DV,SB⟩:=hR;have c0:=je.cell (ag 0 aI) id;have c1:=je.cell (ag 1 aI) id;have c2:=je.cell (ag 2 aI) id;simp only[at6,←at7]at c0 c1 c2;have HO:at3 (∀n t,pz (fV b0 G0 b1 G1) Sg bk Fk (rs.take (k+1)) n t↔pz (fV b0 G0 b1 G1) Sg bk Fk (rs.take k) n t∨∃i<r.body.length,BI (fV b0 G0 b1 G1) Sg bk Fk r i n t):=λn t=>Nl hr;have hgr:=hg r zu;clear hr ag bW;obtain⟨wa,gY⟩: ∃x,x=wr.alloc (.cells #[.string r.head.n,.slice ha r.head.ts.length hc,.slice ba r.body.length bc] 318):=⟨_,rfl⟩;have tA:af (λ_=>False) wr wa:=by rw[gY];exact(af.refl _ _).alloc _
   have o9:wa.heap[wr.heap.size]? =some (.cells #[.string r.head.n,.slice ha r.head.ts.length hc,.slice ba r.body.length bc] 318):=by rw[gY];exact atp _ _
   obtain⟨a0,a1,a2,-⟩:=bI o9;have qK:=atm o9;have k9:=λw'=>ajf (n:=r.head.n) (a1:=ha) (a2:=ba) (l1:=r.head.ts.length) (l2:=r.body.length) (k1:=hc) (k2:=bc) w';have hb4:=ro.mo;go_wp2_with (first|(rw[←gY];clear gY)|(go_at_call 359;refine(k9 _).mono ?_;clear k9;rintro e w2 ⟨rfl,aF⟩));have dK:af (dt fb bf) W w2:=(hT.bL tA λ_ h=>h.elim).bL aF λ_ h=>h.elim;have lC:=aF.kept o9 id;have hF2:=(hF1.still tA (λ_ _=>id)).still aF (λ_ _=>id);have Aa:at3 (cr w bf bf1 Ff Ff1 (λn t=>pz (fV b0 G0 b1 G1) Sg bk Fk (rs.take k) n t∨∃i<0,BI (fV b0 G0 b1 G1) Sg bk Fk r i n t)):=uR.out.congr λn t=>by simp
   clear hT hF1 uR tA aF o9 a0 a1 a2 qK je;obtain⟨rz,Xk⟩: ∃x,x=wr.heap.size:=⟨_,rfl⟩;rw[←Xk]at lC⊢;clear Xk
   go_loopw [8,9,21] (λ_ _ i wr=>∃ (j:Nat) (SQ:dB) (SV:aN),j≤r.body.length∧i= .int .i64 j∧af (dt fb bf) W wr∧wr.heap[rz]? =some (.cells #[.string r.head.n,.slice ha r.head.ts.length hc,.slice ba r.body.length bc] 318)∧aq wr fb SQ SV∧at3 (cr w bf SQ Ff SV (λn t=>pz (fV b0 G0 b1 G1) Sg bk Fk (rs.take k) n t∨∃i<j,BI (fV b0 G0 b1 G1) Sg bk Fk r i n t))) (λ_ _ i _=>r.body.length-(intOf i).toNat)
   case atStart=>exact⟨0,bf1,Ff1,arQ _,rfl,dK,lC,hF2,Aa⟩
   case round=>
    clear hF2 Aa dK lC;obtain⟨j,bf2,Ff2,hj,rfl,hT,hA,hF2,Aa⟩:=hrel;have je:af (λ_=>False) w0 wr:=(bM.trans qL).bL hT λb hb=> .inl (fD b hb);by_cases hlt:j<r.body.length
    ·obtain⟨y,hy⟩: ∃y,r.body[j]? =some y:=⟨_,arn hlt⟩;have Hi:=ro.jl y (ann hy);obtain⟨a0,a1,a2,-⟩:=bI hA;have qK:=atm hA;have KH:=hT.kept lH (λh=>hFW.cd h lH rfl);obtain⟨s0,s1,-,-⟩:=b9 KH;have hbl:=atm KH;have k0:=aje (ha:=ha) (hl:=r.head.ts.length) (hc:=hc) (hL.known.turn je λ_ _ _=>id) DV hy Hi.2.2 (h0.still je) (h1.still je);have HI:at3 (∀n t,(∃i<j+1,BI (fV b0 G0 b1 G1) Sg bk Fk r i n t)↔(∃i<j,BI (fV b0 G0 b1 G1) Sg bk Fk r i n t)∨(fV b0 G0 b1 G1 y≠ []∧n=r.head.n∧Sg r j t∧¬eI bk Fk n t)):=λn t=>by
      constructor
      ·rintro⟨i,h2,h3⟩;rcases asV i j with h4|h4
       ·exact .inl ⟨i,h4,h3⟩
       ·obtain rfl:i=j:=by omega
        obtain⟨z,hz,h5⟩:=h3;rw[hy]at hz;obtain rfl:=alN hz;exact .inr h5
      ·rintro(⟨i,h2,h3⟩|h3)
       ·exact⟨i,by omega,h3⟩
       ·exact⟨j,by omega,y,hy,h3⟩
     have hgy:=hgr j y hy;have hLk:qa wr (if y.neg then p1 else p0) (if y.neg then b1 else b0) (if y.neg then G1 else G0):=by
      cases y.neg
      ·exact h0.still je
      ·exact h1.still je
     have hlk:=hLk.look y.a.n;change Hp.map _ fq br aY _ (aU (fV b0 G0 b1 G1 y))at hlk;generalize au (if y.neg then b1 else b0) y.a.n=lo at k0 hlk;have pZ:(aU (fV b0 G0 b1 G1 y)).length=(fV b0 G0 b1 G1 y).length:=by simp[aU]
     obtain⟨gl,o8⟩: ∃gl,gl=fV b0 G0 b1 G1 y:=⟨_,rfl⟩;rw[←o8]at hlk hgy HI pZ;clear o8;by_cases hg0:gl= []
     ·subst hg0;go_wp2_with (first|(go_at_call 360;refine k0.mono ?_;clear k0;rintro e w3 ⟨rfl,bX⟩)|(at_len;refine nS Tryz.underlying123 rfl (.tmp 28) rfl rfl (Hp.bY hlk bX) ?_;rw[pZ]));go_roundw
      case rel=>exact⟨j+1,bf2,Ff2,by omega,by go_num,hT.bL bX (λ_ h=>h.elim),bX.kept hA id,hF2.still bX (λ_ _=>id),Aa.out.congr λn t=>by rw[HI.out];simp⟩
      case measure=>simp[intOf];omega
     ·have S8:0<gl.length:=by
       cases gl with
       |nil=>exact absurd rfl hg0
       |cons _ _=>simp
      obtain⟨dC,iQ⟩:=hgy hg0;have ad9: ∀b,dt fb bf2 b→dt fb bf b∨w.heap.size≤b:=λb hb=>Aa.out.blocks hb;have hzz:w0.heap.size≤w.heap.size:=bM.size
      have k2:=λ(w':aly) (ht:af (λ_=>False) wr w')=>ajm (hL.known.turn (je.trans ht) λ_ _ _=>id) R_ DV SB ro j hy (hS.turn (je.trans ht)) (Hp.bY hlk ht) (hF2.still ht λ_ _=>id) (hKn.still (je.trans ht) λ_ _=>id) (λb hb h=>by
       have h2:=hKn.low hb;rcases ad9 b h with h3|h3
       ·have:=fD b h3;omega
       ·omega) (ht.kept (hT.kept (qL.kept e1 id) (λh=>hF.cd h e1 rfl)) id) (ht.kept (hT.kept (qL.kept e2 id) (λh=>hF.cd h e2 rfl)) id) (ht.kept (hT.kept (qL.kept e3 id) (λh=>hF.cd h e3 rfl)) id) dC iQ
      go_wp2_with (first|(go_at_call 360;refine k0.mono ?_;clear k0;rintro e w3 ⟨rfl,bX⟩;obtain⟨a0,a1,a2,-⟩:=bI (bX.kept hA id);have qK:=atm (bX.kept hA id))|(at_len;refine nS Tryz.underlying123 rfl (.tmp 28) rfl rfl (Hp.bY hlk bX) ?_;rw[pZ])|(go_at_call 342;refine(k2 _ bX).mono ?_;clear k2;rintro e w5 ⟨bf5,Ff5,rfl,bA,hF5,Fj⟩));have hF3:=hF2.still bX (λ_ _=>id);have De:=bX.kept hA id;have hTz:w.heap.size≤w3.heap.size:=by have:=qL.size;have:=hT.size;have:=bX.size;omega
      go_roundw
      case rel=>exact⟨j+1,bf5,Ff5,by omega,by go_num,(hT.bL bX λ_ h=>h.elim).bL bA (λb hb=>(ad9 b hb).symm.imp (λh=>by have:=hF2.cd hb KH;omega) id),bA.kept De (λh=>hF3.cd h De rfl),hF5,(Aa.out.trans Fj hTz).congr λn t=>by rw[HI.out];simp[hg0,or_assoc]⟩
      case measure=>simp[intOf];omega
    ·obtain rfl:j=r.body.length:=by omega
     go_wp2;go_roundw
     case rel=>exact⟨k+1,bf2,Ff2,by omega,by go_num,hT,hF2,Aa.out.congr λn t=>(HO.out n t).symm⟩
     case measure=>simp[intOf];omega
  ·have iQ:rs.take k=rs:=at4 aj;rw[iQ]at uR;go_wp2;go_end0;exact⟨bf1,Ff1,rfl,qL.wider.trans hT,hF1,uR.out⟩
end Go.Proofs.YtkdljbnllgpfhaaGreat
end
section
namespace Go.Proofs.YtkdljbnllgpfhaaGreat
open Go Go.RowKit Go.Upr
theorem aeK{K:Hp}{w:aly}{lb sb:Nat}{rs:List bQ}{ra:Option alA}{rc:Nat}(hL:fB w K lb sb rs ra rc)(uB: ∀r∈rs,gW r)(hn:rs.length≤1048576)
  {p0 p1:Option Nat} {b0 b1:dB} {G0 G1:aN} (h0:qa w p0 b0 G0) (h1:qa w p1 b1 G1) {sc:Hs} {F0 F1 F2:aN} (hS:mq w sc F0 F1 F2) {kb:Nat} {bk:dB} {Fk:aN} (hKn:aq w kb bk Fk) {Sg:bQ→Nat→aS→Prop}
  (hg: ∀r∈rs,∀i y,r.body[i]? =some y→fV b0 G0 b1 G1 y≠ []→uK (DJ sc F0 F1 F2) (ic r.head y.a (fE r i))∧BH (DJ sc F0 F1 F2) (ic r.head y.a (fE r i)) (fV b0 G0 b1 G1 y) (Sg r i)):
  asP Tryz.prog 330 #[.pointer (some ⟨lb,0,none⟩),.agg #[.map p0,.map p1],.agg #[.map sc.m0,.map sc.m1,.map sc.m2],.map (some kb)] w λe w'=>∃nb bn Fn,e= .returned (.map (some nb))∧af (λ_=>False) w w'∧aq w' nb bn Fn∧(∀b,dt nb bn b→w.heap.size≤b)∧cr w [] bn bR Fn (pz (fV b0 G0 b1 G1) Sg bk Fk rs):=by
 have tV:= @auj Tryz.prog;obtain⟨W,hW⟩: ∃W,W=((((w.alloc (.cells #[.map p0,.map p1] 158)).alloc (.cells #[.map sc.m0,.map sc.m1,.map sc.m2] 444)).alloc (.cells #[.map (some kb)] 99)).alloc (.map #[] 0)).alloc (.cells #[.map (some (w.heap.size+1+1+1))] 99):=⟨_,rfl⟩;obtain⟨B3,Bn⟩: ∃x,x=w.heap.size+1+1+1+1:=⟨_,rfl⟩;obtain⟨fb,R1⟩: ∃x,x=w.heap.size+1+1+1:=⟨_,rfl⟩;obtain⟨B2,uD⟩: ∃x,x=w.heap.size+1+1:=⟨_,rfl⟩;obtain⟨B1,XD⟩: ∃x,x=w.heap.size+1:=⟨_,rfl⟩;have bM:af (λ_=>False) w W:=by rw[hW];exact(((((af.refl _ w).alloc _).alloc _).alloc _).alloc _).alloc _
 have f0:W.heap[w.heap.size]? =some (.cells #[.map p0,.map p1] 158):=by
  rw[hW];exact((((af.refl (λ_=>False) _).alloc _).alloc _).alloc _).kept (bq _ _ _) id
 have f1:W.heap[B1]? =some (.cells #[.map sc.m0,.map sc.m1,.map sc.m2] 444):=by
  rw[hW,XD];exact((((af.refl (λ_=>False) _).alloc _).alloc _).alloc _).kept (aR _ _ _) id
 have f2:W.heap[B2]? =some (.cells #[.map (some kb)] 99):=by
  rw[hW,uD];have h1:=atp ((w.alloc (.cells #[.map p0,.map p1] 158)).alloc (.cells #[.map sc.m0,.map sc.m1,.map sc.m2] 444)) (.cells #[.map (some kb)] 99);rw[atS,atS]at h1;exact(((af.refl (λ_=>False) _).alloc _).alloc _).kept h1 id
 have f3:aq W fb [] bR:=by
  refine⟨?_,by simp,by simp,by simp⟩;rw[hW,R1];have h1:=av.made (w:=((w.alloc (.cells #[.map p0,.map p1] 158)).alloc (.cells #[.map sc.m0,.map sc.m1,.map sc.m2] 444)).alloc (.cells #[.map (some kb)] 99)) (ok:=bZ) (key:=at5) (enc:=ji);rw[atS,atS,atS]at h1;exact h1.turn ((af.refl (λ_=>False) _).alloc _) id
 have f4:W.heap[B3]? =some (.cells #[.map (some fb)] 99):=by
  rw[hW,Bn,R1];have h1:=atp ((((w.alloc (.cells #[.map p0,.map p1] 158)).alloc (.cells #[.map sc.m0,.map sc.m1,.map sc.m2] 444)).alloc (.cells #[.map (some kb)] 99)).alloc (.map #[] 0)) (.cells #[.map (some (w.heap.size+1+1+1))] 99);rw[atS,atS,atS,atS]at h1;exact h1
 have Fa:w.heap.size<fb:=by omega
 obtain⟨s0,s1,-,-⟩:=b9 f0;have pZ:=atm f0;have XA:=hL.still bM;obtain⟨l0,l1,-,-⟩:=b9 XA.block;have jy:=atm XA.block;have k1:=λ(w':aly) (ht:af (λ_=>False) W w')=>ajn (bM.trans ht) hL uB hn h0 h1 hS hKn (f3.still ht λ_ _=>id) (λb hb=>by rw[eF hb];omega) (ht.kept f4 id) (ht.kept f1 id) (ht.kept f2 id) hg;go_enter Tryz.func330,Tryz.ntmps330;go_wp2;rw[←hW,←Bn,←R1,←uD,←XD];clear hW Bn R1 uD XD;refine aG (λi=>i==5) ar ar ?_;intro S' gg fN gc gf gh gb;iterate 5 (refine ak ar aC aC λK hK=>?_;go_big_quiet_op;refine hK _ ?_;clear hK K)
 refine ai ar aC λQ' hQ=>?_;go_wp2_with (go_at_call 341;refine(k1 _ (af.refl _ _).drew).mono ?_;clear k1;rintro e w2 ⟨bn,Fn,rfl,aF,SI,Aa⟩);refine hQ _ _ ar (aX ar) ?_;clear hQ Q';refine aQ ?_;have h2:af (dt fb []) W w2:=(af.refl _ _).drew.trans aF;have h4:=h2.kept f4 (λh=>f3.cd h f4 rfl);have c4:w2.cell? ⟨B3,0,none⟩=some (.map (some fb)):=(aqF w2 B3 0 _ 99 (0,0) h4).trans rfl;have hbl:=atm h4;have hz:=bM.size;go_wp2;go_ret
 exact⟨fb,bn,Fn,rfl,bM.bL h2 λb hb=> .inl (by rw[eF hb];omega),SI,λb hb=>(Aa.blocks hb).elim (λh=>by rw[eF h];omega) λh=>by
  have h5:W.drew.heap.size=W.heap.size:=rfl
  omega,Aa.weak hz⟩
end Go.Proofs.YtkdljbnllgpfhaaGreat
end
