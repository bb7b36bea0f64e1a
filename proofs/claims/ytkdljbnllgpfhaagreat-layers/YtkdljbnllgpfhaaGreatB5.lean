import Derived.Test.YtkdljbnllgpfhaaGreatA9
import Derived.Test.YtkdljbnllgpfhaaGreatB2
import Derived.Test.YtkdljbnllgpfhaaGreatB4
set_option maxRecDepth 100000
set_option maxHeartbeats 8000000
open List renaming getElem?_eq_getElem→arn,getElem?_eq_some_iff→apT,getElem?_set_ne→awg,getElem?_set_self→awh,mem_map→amk,mem_of_getElem?→ann,getD_eq_getElem?_getD→arB,take_zipWith→awi,mem_filter→auV,mem_append→aqo,length_filter_le→avN,foldl_append→at9,length_take→as1,map_append→atW,getElem?_zip_eq_some→awj,set_eq_of_length_le→awk,mem_cons→ap9,Perm→awm,take_of_length_le→at4,eraseIdx_sublist→auF,mem_of_mem_take→ava,take_add_one→at8,mem_nil_iff→avt,length_set→avA,mem_range→atX,take_set→awo,nil_perm→awp,zipWith→awr,map_map→au0,range→at0
open Go renaming lt_of_block→atm,cell_of_row→aqF,World→aly,Value→aad,heap_alloc_new→atp,Oper→apy,Program→alu,Act→atu,TypeId→acs,Operand→ang,Exit→atY,Addr→alA,Calls→asP
open Option.some renaming inj→alN
open Nat renaming le_trans→al2,le_refl→agl,lt_succ_self→atG,lt_succ_iff_lt_or_eq→awl,zero_add→arN,zero_le→arQ,lt_trans→aws,add_zero→at6
open Prod renaming fst→aug,mk→awt
open Go.Region renaming ready→asi,noSelect→atT,wanted→apY,noSelect_spec→atI,free_spec→atP
open Go.Value renaming string→at5,oneCell'→atv,cells→av2
open Ne renaming symm→arz
open Array renaming replicate→aps,getElem?_eq_some_iff→ad3,toList_append→ap0
open Option renaming toList_some→avV,map→awq
open Go.Builtin renaming zeroCells→anA
open Bool renaming and_eq_true→anh
open Go.RowKit renaming Hid→at3
open Prod.mk renaming inj→awn
open Go.Code renaming region→apN
section
namespace Go.Upr
open Go Go.RowKit
variable{P:alu}{ops:Array apy}{C:aly→Prop}{fx:Nat→Bool}
def cH(P:alu)(ops:Array apy)(C:aly→Prop)(fx:Nat→Bool)(Q:atu→aly→Prop):List Nat→atu→aly→Prop
 | [],a,w=>Q a w
 |k::rest,a,w=>match ops[k]? with
  |none=>False
  |some o=>AV P .any ops C fx k o (cH P ops C fx Q rest) a w
def qT(ops:Array apy)(fx:Nat→Bool):List Nat→Array Bool→Bool
 | [],_=>true
 |k::rest,listed=>(asi .any ops listed).contains k&&Region.free .any ops listed k&&XT .any ops fx listed k&&qT ops fx rest (listed.setIfInBounds k true)
def fg(l:List Nat)(listed:Array Bool):Array Bool:=l.foldl (λx k=>x.setIfInBounds k true) listed
theorem jG{Q:atu→aly→Prop}(hs:atT ops=true): ∀ (l:List Nat) (n:Nat) (listed:Array Bool) (a:atu) (w:aly),
  qT ops fx l listed=true→Inv .any ops C fx listed w→cH P ops C fx (λa w=>Inv .any ops C fx (fg l listed) w→iw P .any ops C fx Q n (fg l listed) a w) l a w→iw P .any ops C fx Q (l.length+n) listed a w
 | [],n,listed,a,w,_,hI,h=>by rw[List.length_nil,arN];exact h hI
 |k::l,n,listed,a,w,hB,hI,h=>by
  unfold cH at h;cases h0:ops[k]? with
  |none=>rw[h0]at h;exact h.elim
  |some o=>
   rw[h0]at h;dsimp only at h;simp only[qT,anh]at hB;obtain⟨⟨⟨hr,hf⟩,Bg⟩,hB'⟩:=hB;have sG:k∈asi .any ops listed:=by simpa using hr
   have e:(k::l).length+n=(l.length+n)+1:=by simp;omega
   rw[e];unfold AV at h;split at h
   ·rename_i hw;refine xx h0 hw.1 (atI hs) (l.length+n) listed a hI (atP h0 hf) ?_ sG hw.2 (Oper.kF (λv w' hk=>⟨hk.1,jG hs l n _ _ _ hB' (hI.fix sG hw.1 hk.1) hk.2⟩) h);intro j oj hj hne hu DR;unfold XT at Bg;rw[hw.1,Bool.not_true,Bool.false_or,List.all_eq_true]at Bg;have:=Bg j (atX.2 (ad3.1 hj).1);simpa[hne,hu,DR]using this
   ·rename_i hf';obtain⟨v,hv,hk⟩:=h;refine xy h0 (atI hs) (l.length+n) listed a w (atP h0 hf) sG ?_ hv (jG hs l n _ _ _ hB' (hI.float sG) hk);cases hfx:fx k with
    |false=>exact .inl rfl
    |true=>
     refine .inr ?_;cases Sq:apY o (yielded ops a.tmps)with
     |false=>rfl
     |true=>exact absurd ⟨hfx,Sq⟩ hf'
theorem lh{Q Q':atu→aly→Prop}(h: ∀a w,Q a w→Q' a w): ∀ (l:List Nat) (a:atu) (w:aly),cH P ops C fx Q l a w→cH P ops C fx Q' l a w
 | [],a,w,hh=>h a w hh
 |k::l,a,w,hh=>by
  unfold cH at hh⊢;cases h0:ops[k]? with
  |none=>rw[h0]at hh;exact hh.elim
  |some o=>rw[h0]at hh;exact Cq (λa w=>lh h l a w) hh
theorem branch{Q:atu→aly→Prop}(hs:atT ops=true){i:Nat}{r:List Nat}{listed:Array Bool}{a:atu}{w:aly}{o:apy}(ho:ops[i]? =some o)(hr:i∈asi .any ops listed)(hB:qT ops fx r (listed.setIfInBounds i true)=true)
  (hE:asi .any ops (fg r (listed.setIfInBounds i true))= []) (hI:Inv .any ops C fx listed w) (h:cH P ops C fx Q (i::r) a w):AV P .any ops C fx i o (iw P .any ops C fx Q r.length (listed.setIfInBounds i true)) a w:=by
 unfold cH at h;rw[ho]at h;dsimp only at h;have fin: ∀a w,Inv .any ops C fx (listed.setIfInBounds i true) w→cH P ops C fx Q r a w→iw P .any ops C fx Q r.length (listed.setIfInBounds i true) a w:=by
  intro a w hI' hh;have:=jG hs r 0 _ a w hB hI' (lh (Q':=λa w=>Inv .any ops C fx (fg r (listed.setIfInBounds i true)) w→iw P .any ops C fx Q 0 (fg r (listed.setIfInBounds i true)) a w) (λa w hq _=>⟨hE,hq⟩) r a w hh);exact this
 unfold AV at h⊢;split at h
 ·rename_i hw;rw[if_pos hw];exact Oper.kF (λv w' hk=>⟨hk.1,fin _ _ (hI.fix hr hw.1 hk.1) hk.2⟩) h
 ·rename_i hw;rw[if_neg hw];obtain⟨v,hv,hk⟩:=h;exact⟨v,hv,fin _ _ (hI.float hr) hk⟩
def TV(ops:Array apy)(fx:Nat→Bool)(pre:List Nat)(i:Nat)(r1:List Nat)(j:Nat)(r2:List Nat):Bool:=
 let L0:=aps ops.size false
 let L1:=fg pre L0
 atT ops&&qT ops fx pre L0&&(asi .any ops L1== [i,j])&&qT ops fx r1 (L1.setIfInBounds i true)&&(asi .any ops (fg r1 (L1.setIfInBounds i true))== [])&&
  qT ops fx r2 (L1.setIfInBounds j true)&&(asi .any ops (fg r2 (L1.setIfInBounds j true))== [])&&(pre.length+(r1.length+1)==ops.size)&&(r1.length==r2.length)
theorem Rh{id:Nat}{Q:atY→atu→aly→Prop}{a:atu}{w:aly}{l:List apy}(C:aly→Prop)(fx:Nat→Bool)(pre:List Nat)(i:Nat)(r1:List Nat)(j:Nat)(r2:List Nat)(hm:P.follows .mixedOrders=true)(hB:TV l.toArray fx pre i r1 j r2=true)(hC:C w.drew)
  (h:cH P l.toArray C fx (λa w=>cH P l.toArray C fx (λa' w'=>Q .normal a' w') (i::r1) a w∧cH P l.toArray C fx (λa' w'=>Q .normal a' w') (j::r2) a w) pre a w.drew):(apN id l.toArray true).wp P Q a w:=by
 simp only[TV,anh,beq_iff_eq]at hB;obtain⟨⟨⟨⟨⟨⟨⟨⟨hs,b1⟩,b2⟩,b3⟩,b4⟩,b5⟩,b6⟩,b7⟩,b8⟩:=hB;have qj:Shut .any l.toArray (aps l.toArray.size false):=λi o _ h=>by simp only[Array.getD_eq_getD_getElem?,Array.getElem?_replicate]at h;split at h<;>cases h
 refine wp_region_any hm (gu (fx:=fx) (Q:=λa' w'=>Q .normal a' w') (λ_ _ h=>h) _ _ _ _ ⟨qj,.inl hC⟩ ?_);generalize aps l.toArray.size false=L0 at b1 b2 b3 b4 b5 b6 qj⊢;rw[←b7];refine jG hs pre (r1.length+1) _ a _ b1 ⟨qj,.inl hC⟩ (lh (λa w hh hI=>?_) pre a _ h);refine⟨λhe=>?_,λx hx o ho=>?_⟩
 ·rw[b2]at he;cases he
 ·have kx:=hx;rw[b2]at kx;simp only[ap9,avt,or_false]at kx;rcases kx with rfl|rfl
  ·exact branch hs ho hx b3 b4 hI hh.1
  ·rw[b8];exact branch hs ho hx b5 b6 hI hh.2
theorem wh{id:Nat}{Q:atY→atu→aly→Prop}{a:atu}{w:aly}{l:List apy}(fx:Nat→Bool)(pre:List Nat)(i:Nat)(r1:List Nat)(j:Nat)(r2:List Nat)(hm:P.follows .mixedOrders=true)(hB:TV l.toArray fx pre i r1 j r2=true)
  (h: ∀ (S:Type) (g:S→aly),Nonempty S→(∀x b o,b<w.heap.size→(g x).cell? ⟨b,o,none⟩=w.cell? ⟨b,o,none⟩)→(∀x b,b<w.heap.size→(g x).heap[b]? =w.heap[b]?)→(∀w',af (λ_=>False) w w'→∃x,w'=g x)→
   cH P l.toArray (λw'=>∃x,w'=g x) fx (λa w=>cH P l.toArray (λw'=>∃x,w'=g x) fx (λa' w'=>Q .normal a' w') (i::r1) a w∧cH P l.toArray (λw'=>∃x,w'=g x) fx (λa' w'=>Q .normal a' w') (j::r2) a w) pre a w.drew):(apN id l.toArray true).wp P Q a w:=by
 have h0:af (λ_=>False) w w.drew:=(af.refl _ _).drew;have:=h {w'//af (λ_=>False) w w'} (λx=>x.1) ⟨⟨_,h0⟩⟩ (λx b o hb=>World.cell?_of_block (a:=⟨b,o,none⟩) (x.2.block b hb (λh=>h))) (λx b hb=>x.2.block b hb (λh=>h)) (λw' hw=>⟨⟨w',hw⟩,rfl⟩);exact Rh (λw'=>∃x:{w'//af (λ_=>False) w w'},w'=x.1) fx pre i r1 j r2 hm hB ⟨⟨w.drew,h0⟩,rfl⟩ this
section
variable{k:Nat}{o:apy}{rest:List Nat}{a:atu}{w:aly}{Q:atu→aly→Prop}
theorem fp(ho:ops[k]? =some o)(hf:fx k=false)(ht:SY o.op=true)(hw:apY o (yielded ops a.tmps)=true)
  (h: ∀K:atu→Prop,(∀a,cH P ops C fx Q rest a w→K a)→o.quiet P a C K):cH P ops C fx Q (k::rest) a w:=by
 obtain⟨v,h1,h2⟩:=h (λa=>cH P ops C fx Q rest a w) (λ_ h=>h);unfold cH;rw[ho];dsimp only;unfold AV;rw[if_neg (by rw[hf];rintro⟨h,_⟩;cases h)];exact⟨v,.inl ⟨hw,ht,h1⟩,h2⟩
theorem aV(ho:ops[k]? =some o)(hf:fx k=true)(hw:apY o (yielded ops a.tmps)=true)
  (h: ∀Q':atY→atu→aly→Prop,(∀a' w',a'=a.put o.dst (Act.got a' o.dst)→(need .any ops fx k=true→C w')→cH P ops C fx Q rest a' w'→Q' .normal a' w')→wpList P ops Q' [o] a w):cH P ops C fx Q (k::rest) a w:=by
 have h1:=ai (P:=P) (ops:=ops) (C:=C) (fx:=fx) (k:=k) (o:=o) (rest:= []) (a:=a) (w:=w) (Q:=λa' w'=>cH P ops C fx Q rest a' w') hf hw (λQ' hQ=>h Q' λa' w' e1 e2 e3=>hQ a' w' e1 e2 (aQ e3));unfold eX at h1;unfold cH;rw[ho];exact Cq (λa w hh=>hh) h1
theorem dw(h:Q a w):cH P ops C fx Q [] a w:=h
end
end Go.Upr
end
section
namespace Go.Proofs.YtkdljbnllgpfhaaGreat
open Go Go.RowKit Go.Upr
def Ux(J:Jn)(xs:List aS):List (eB×Nat):=xs.filterMap λt=>(cO J.first.ts (lx t)).map λb=>(b,1)
def cD(D:Bool→ByteArray→Seen)(J:Jn)(xs:List aS):List (eB×Nat):=nv gK (kL D J.start J.live (Ux J xs))
def ny(D:Bool→ByteArray→Seen)(s:r9)(F:Ht)(l:List (eB×Nat)):List (eB×Nat):=nv gK (kL D s.asks s.live (l.flatMap (mH s F)))
def km(D:Bool→ByteArray→Seen)(l:List (eB×Nat))(q:List (r9×Option (List aS))):List (eB×Nat):=q.foldl (λl p=>ny D p.1 (lD p.1 (p.2.getD [])) l) l
theorem Cw(D:Bool→ByteArray→Seen)(s:r9)(F:Ht){l l':List (eB×Nat)}(h:l.Perm l'):(ny D s F l).Perm (ny D s F l'):=ER gK (((h.flatMap_right _).filter _).map _)
theorem JL(D:Bool→ByteArray→Seen)(J:Jn)(xs:List aS)(t:aS):cD D J (xs++ [t])=match cO J.first.ts (lx t)with|none=>cD D J xs|some b=>Af D J.start J.live (cD D J xs) b 1:=by
 unfold cD Ux;rw[List.filterMap_append];cases h:cO J.first.ts (lx t)with
 |none=>simp[h]
 |some b=>
  have: [t].filterMap (λt=>(cO J.first.ts (lx t)).map λb=>(b,1))= [(b,1)]:=by simp[h]
  rw[this];exact CH _ _ _ _ _
structure Dl(J:Jn):Prop where
 nE:J.head.ts.length≤3
 ml: ∀t∈J.head.ts,qP t
 ac5:J.first.ts.length≤3
 firstT: ∀t∈J.first.ts,qP t
 YP:J.start.length≤16
 acD: ∀p∈J.start,dP p
 acP:J.live<4096
 count:J.steps.length≤16
 T_: ∀s∈J.steps,s.asks.length≤16∧(∀p∈s.asks,dP p)∧dP s.part∧s.live<4096∧s.known<65536∧s.fresh<65536
def Om(D:Bool→ByteArray→Seen)(steps:List r9)(st bB:List (Option (List aS))):Prop:=
 ∀ (i:Nat),bB[i]? =st[i]? ∨(st[i]? =some none∧∃s T,steps[i]? =some s∧bB[i]? =some (some T)∧tj (D s.part.side s.part.a.n).1 (D s.part.side s.part.a.n).2.1 (D s.part.side s.part.a.n).2.2 T)
def tu(D:Bool→ByteArray→Seen)(J:Jn)(xs:List aS)(bB:List (Option (List aS)))(q:Nat):Prop:=∀i,i<q→bB[i]? =some none→km D (cD D J xs) ((J.steps.zip bB).take i)= []
def gV(D:Bool→ByteArray→Seen)(J:Jn)(xs:List aS)(st bB:List (Option (List aS))):Prop:=Om D J.steps st bB∧tu D J xs bB J.steps.length
theorem tu.succ{D:Bool→ByteArray→Seen}{J:Jn}{xs:List aS}{bB:List (Option (List aS))}{q:Nat}(h:tu D J xs bB q)(h0:bB[q]? =some none→km D (cD D J xs) ((J.steps.zip bB).take q)= []):tu D J xs bB (q+1):=λi hi hn=>by
 rcases awl.1 hi with h1|rfl
 ·exact h i h1 hn
 ·exact h0 hn
theorem tu.set{D:Bool→ByteArray→Seen}{J:Jn}{xs:List aS}{bB:List (Option (List aS))}{q:Nat}{T:List aS}(h:tu D J xs bB q)(hq:q<bB.length):tu D J xs (bB.set q (some T)) (q+1):=λi hi hn=>by
 rcases awl.1 hi with h1|rfl
 ·rw[awg aj]at hn;have:=h i h1 hn;have e:(J.steps.zip (bB.set q (some T))).take i=(J.steps.zip bB).take i:=by
   unfold List.zip;rw[awi,awi,awo,awk (by rw[as1];omega)]
  rw[e];exact this
 ·rw[awh hq]at hn;cases hn
end Go.Proofs.YtkdljbnllgpfhaaGreat
end
section
namespace Go.Proofs.YtkdljbnllgpfhaaGreat
open Go Go.RowKit Go.Upr
theorem kG.other{cs:Array aad}{i j:Nat}(tX:j≠i){v:aad}{live:Nat}{x:ByteArray}{u:aad}{neg:Bool}{m:Vw}{known fresh:Nat}{rows:Option Nat}(h:kG cs (j*11) v live x u neg m known fresh rows)(r:aad):kG (cs.setIfInBounds (i*11+10) r) (j*11) v live x u neg m known fresh rows:=by
 obtain⟨h0,h1,h2,h3,h4,h5,h6,h7,h8,h9,h10⟩:=h;constructor
 all_goals
  rw[Array.getElem?_setIfInBounds_ne aj];assumption
theorem fK.begin{V:Bool→ByteArray→Vw}{w w':aly}{N:Nat}{k:Hp}{gb:Nat}{steps:List r9}{st:List (Option (List aS))}{R:Nat→kP}(h:fK V w N k gb steps st R)(hk:k.In w)(hN:N≤w.heap.size){cs:Array aad}(hcs:w.heap[gb]? =some (.cells cs 497))
  {i:Nat} {s:r9} (hs:steps[i]? =some s) (hi:st[i]? =some none) {mb:Nat} {kb:List (eB×Nat)} {T:List aS} (hR:fF w' mb kb (lD s T)) (hm:w.heap.size≤mb) (hkb: ∀p∈kb,w.heap.size≤p.2) (ht:af (·=gb) w w') (hg:w'.heap[gb]? =some (.cells (cs.setIfInBounds (i*11+10) (.map (some mb))) 497)):
  fK V w' N k gb steps (st.set i (some T)) λj=>if j=i then(mb,kb)else R j:=by
 have NA:=(apT.1 hi).1;have wM: ∀j t,(st.set i (some T))[j]? =some t→(j=i∧t=some T)∨(j≠i∧st[j]? =some t):=by
  intro j t hj;by_cases ma:j=i
  ·subst ma;rw[awh NA]at hj;exact .inl ⟨rfl,(alN hj).symm⟩
  ·rw[awg (arz ma)]at hj;exact .inr ⟨ma,hj⟩
 have hmap: ∀ {b:Nat} {f:List (eB×Nat)} {enc:Nat→aad},av w okB cZ enc b f→¬b=gb:=by
  rintro b f enc ⟨es,cl,h5,_⟩ rfl;rw[hcs]at h5;cases h5
 refine⟨by rw[avA];exact h.len,h.low,h.free,λhne=>⟨_,hg,λj s' t hj Kj=>?_⟩,λj s' U hj hU=>?_,λj U hU=>?_,λj l U U' hU hU' rS=>?_⟩
 ·obtain⟨cs0,h1,h2⟩:=h.cells hne;rw[hcs]at h1;cases h1;rcases wM j t Kj with⟨rfl,rfl⟩|⟨ma,pL⟩
  ·obtain⟨aa,al,ac,ta,tl,tc,h3,h4,h5⟩:=h2 j s' none hj hi;refine⟨aa,al,ac,ta,tl,tc,?_,h4,h5⟩;rw[if_pos rfl];exact h3.put (some mb)
  ·obtain⟨aa,al,ac,ta,tl,tc,h3,h4,h5⟩:=h2 j s' t hj pL;refine⟨aa,al,ac,ta,tl,tc,?_,h4,h5⟩;rw[if_neg ma];exact h3.other ma _
 ·rcases wM j _ hU with⟨rfl,hUT⟩|⟨ma,pL⟩
  ·rw[if_pos rfl];rw[hs]at hj;cases hj;cases hUT;exact hR
  ·rw[if_neg ma];have h1:=h.rows j s' U hj pL;exact h1.turn ht (hmap h1.top) λp hp=>hmap (h1.dy p hp)
 ·rcases wM j _ hU with⟨rfl,hUT⟩|⟨ma,pL⟩
  ·rw[if_pos rfl];exact⟨al2 hN hm,Hp.In.free hk hm,λp hp=>⟨al2 hN (hkb p hp),Hp.In.free hk (hkb p hp)⟩⟩
  ·rw[if_neg ma];exact h.own j U pL
 ·have hlt: ∀ (q:Nat) (W:List aS),st[q]? =some (some W)→(R q).1<w.heap.size∧∀p∈(R q).2,p.2<w.heap.size:=by
   intro q W hq;have KC:q<steps.length:=by rw[←h.len];exact(apT.1 hq).1
   have h1:=h.rows q _ W (arn KC) hq;exact⟨h1.top.lt,λp hp=>(h1.dy p hp).lt⟩
  rcases wM j _ hU with⟨rfl,_⟩|⟨ma,pL⟩<;>rcases wM l _ hU' with⟨rfl,_⟩|⟨hli,PZ⟩
  ·exact absurd rfl rS
  ·rw[if_pos rfl,if_neg hli];have h1:=hlt l _ PZ;exact⟨by have:=h1.1;omega,λp hp=>by have:=h1.2 p hp;omega,λp hp q hq=>by have:=hkb p hp;have:=h1.2 q hq;omega⟩
  ·rw[if_neg ma,if_pos rfl];have h1:=hlt j _ pL;exact⟨by have:=h1.1;omega,λp hp=>by have:=hkb p hp;have:=h1.1;omega,λp hp q hq=>by have:=h1.2 p hp;have:=hkb q hq;omega⟩
  ·rw[if_neg ma,if_neg hli];exact h.apart j l U U' pL PZ rS
theorem yM(D:Bool→ByteArray→Seen)(l:List (eB×Nat)){q:List (r9×Option (List aS))}{i:Nat}{p:r9×Option (List aS)}(h:q[i]? =some p):km D l (q.take (i+1))=ny D p.1 (lD p.1 (p.2.getD [])) (km D l (q.take i)):=by
 unfold km;rw[at8,h,avV,at9];rfl
end Go.Proofs.YtkdljbnllgpfhaaGreat
end
section
namespace Go.Proofs.YtkdljbnllgpfhaaGreat
open Go Go.RowKit Go.Upr
def cv(st:List (Option (List aS)))(R:Nat→kP)(b:Nat):Prop:=∃ (i:Nat) (T:List aS),st[i]? =some (some T)∧(b=(R i).1∨∃p∈(R i).2,p.2=b)
theorem Yt{V:Bool→ByteArray→Vw}{D:Bool→ByteArray→Seen}{w:aly}{N:Nat}{k:Hp}{jb gb:Nat}{J:Jn}{st:List (Option (List aS))}{R:Nat→kP}(hJ:dZ V w N k jb gb J st R)(hS:iC w N V D)(hNw:N≤w.heap.size)(ok:Dl J)
  {o:Option Nat} {ts:List aS} (iu:Hp.map (λb=>w.heap[b]?) fq br aY (.map o) (aU ts))
  (lJ: ∀xs bB,bB.length=J.steps.length→∀p∈km D (cD D J xs) (J.steps.zip bB),∀q∈km D (cD D J xs) (J.steps.zip bB),g_ J.head.ts p.1=g_ J.head.ts q.1→p.1=q.1):
  asP Tryz.prog 345 #[.pointer (some ⟨jb,0,none⟩),.map o] w λe w'=>∃hb hs xs bB R',e= .returned (.map (some hb))∧w.heap.size≤hb∧av w' fq br cU hb hs∧bC ts xs∧dZ V w' N k jb gb J bB R'∧gV D J xs st bB∧
   hs.Perm ((km D (cD D J xs) (J.steps.zip bB)).map λp=>(g_ J.head.ts p.1,p.2))∧af (·=gb) w w'∧∀b,cv bB R' b→cv st R b∨w.heap.size≤b:=by
 obtain⟨hk,rS,hjf,hjg,⟨ha,hc,fa,fc,sa,sc,ga,gc,uG,hH,hF,hSt,Py⟩,hst⟩:=hJ;have tV:= @run_makeMap Tryz.prog;have hlen:(aU ts).length=ts.length:=by simp[aU]
 obtain⟨W,hW⟩: ∃W,W=w.alloc (.map #[] 0):=⟨_,rfl⟩;have qL:af (λ_=>False) w W:=by rw[hW];exact(af.refl _ _).alloc _
 have zZ:av W okB cZ cU w.heap.size []:=by rw[hW];exact av.made
 have RP:at3 (W.heap.size=w.heap.size+1):=by show _=_;rw[hW];simp
 have ahD:=Hp.bY iu qL;have acV: ∀q,o=some q→q<w.heap.size:=by
  rintro q rfl;rcases iu with⟨h,_⟩|⟨b,es,cl,h,h',_⟩
  ·cases h
  ·cases h;exact atm h'
 have hjw:=atm uG;go_enter Tryz.func345,Tryz.ntmps345;go_wp2_with (at_range; (rw[←hW]);clear hW;refine kD (v:= .map o) Tryz.underlying123 rfl (.tmp 14) rfl rfl ahD ?_;intro w1 jh hz1 uP);go_frame;have Nx:=zZ.turn jh id;rw[RP.out]at uP hz1⊢;have je:=(qL.trans jh);have hs1:w.heap.size+1<w1.heap.size:=by omega
 clear hz1 jh
 go_loopg [] ts.length (λgk wr=>∃came:List (aS×Unit),came.length+gk=ts.length∧af (λ_=>False) w wr∧w.heap.size+1<wr.heap.size∧fY wr fq br aY (.map o) (w.heap.size+1) (aU ts) came∧av wr okB cZ cU w.heap.size (cD D J (came.map aug)))
 case atStart=>exact⟨[],by simp,je,hs1,uP,Nx⟩
 case round=>
  clear uP Nx zZ je hs1;obtain⟨came,bW,hT,WH,hRV,hMn⟩:=hrel;go_wp2_with (at_next;refine mv gL rfl (.tmp 15) rfl rfl hRV ?_ ?_)
  ·intro hd;have mf: ∀t∈ts,t∈came.map aug:=λt ht=>amk.2 ⟨(t,()),hd _ _ _ _ (fe.2 ht),rfl⟩;have iX:=hRV.sub
   have Bg:bC ts (came.map aug):=⟨mf,λt ht=>by
    obtain⟨p,hp,rfl⟩:=amk.1 ht
    exact fe.1 (iX.1 p hp),iX.2.1⟩
   generalize came.map aug=xs at Bg hMn;clear hd mf iX hRV bW;obtain⟨wa,rfl⟩: ∃x,x=wr:=⟨_,rfl⟩;have hk2:=hk.turn hT λ_ _ _ h=>h;have nX:=hS.turn hT λ_ _ h=>h;have adL:=hst.turn hT λ_ _ _ h=>h;have age:=hT.kept uG id;have j6:wa.cell? ⟨jb,6,none⟩=some (.slice ga J.steps.length gc):=(aqF wa jb 6 _ 479 (0,0) age).trans rfl;have hgo:=hst.free;have o8:=hst.low;have Uv:=ok.count;have aix:Om D J.steps st st:=λi=> .inl rfl;obtain⟨nst,adP⟩: ∃n,n=J.steps.length:=⟨_,rfl⟩;go_wp2
   go_loopw [5,9,43] (λv _ i wr2=>∃ (q:Nat) (fb:Nat) (f:List (eB×Nat)) (bB:List (Option (List aS))) (R':Nat→kP),q≤J.steps.length∧i= .int .i64 q∧v= .map (some fb)∧w.heap.size≤fb∧af (·=gb) wa wr2∧fK V wr2 N k gb J.steps bB R'∧(Om D J.steps st bB∧tu D J xs bB q)∧(∀j,q≤j→bB[j]? =st[j]?)∧(∀b,cv bB R' b→cv st R b∨w.heap.size≤b)∧av wr2 okB cZ cU fb f∧at3 (f.Perm (km D (cD D J xs) ((J.steps.zip bB).take q)))) (λ_ _ i _=>J.steps.length-(intOf i).toNat)
   case atStart=>exact⟨0,w.heap.size,_,st,R,arQ _,rfl,rfl,agl _,af.refl _ _,adL,⟨aix,λ_ h=>absurd h (Nat.not_lt_zero _)⟩,λ_ _=>rfl,λ_ h=> .inl h,hMn,by show awm _ _;rw[List.take_zero];exact .refl _⟩
   case round=>
    clear adL hMn;obtain⟨q,fb,f,bB,R',hq,rfl,rfl,R1,dK,sR,hbg,rW,jg,hMf,HP⟩:=hrel;have i6:=dK.cell j6 hjg;have ak2:jb<wr.heap.size:=by have:=dK.size;have:=hT.size;omega
    by_cases hlt:q<J.steps.length
    ·obtain⟨abC,aib⟩:=Py (λe=>by rw[e]at hlt;cases hlt);have hne:J.steps≠ []:=λe=>by rw[e]at hlt;cases hlt
     obtain⟨s,hs⟩: ∃s,J.steps[q]? =some s:=⟨_,arn hlt⟩;obtain⟨t,ht⟩: ∃t,bB[q]? =some t:=⟨_,arn (by rw[sR.len];exact hlt)⟩;obtain⟨cs,xQ,ag⟩:=sR.cells hne;obtain⟨aa,al,ac,ta,tl,tc,NC,aef,abe⟩:=ag q s t hs ht;obtain⟨o1,o2,o3,o4,o5,o6⟩:=ok.T_ s (ann hs);have hk3:=hk2.turn dK (λb ob hb (hbg:b=gb)=>by rw[hbg,hgo]at hb;cases hb);have Bh:=nX.turn dK (λb hb (hbg:b=gb)=>by omega);have hN3:N≤wr.heap.size:=by have:=dK.size;have:=hT.size;omega
     have HZ:at3 ((J.steps.zip bB)[q]? =some (s,t)):=by show _=_;rw[awj];exact⟨hs,ht⟩
     subst abC;by_cases hf:f= []
     ·subst hf;have hc:=ag6 (p:= .pointer (some ⟨gb,q*11,none⟩)) hMf;have HQ:at3 (([]:List (eB×Nat)).Perm (km D (cD D J xs) ((J.steps.zip bB).take (q+1)))):=by
       show awm _ _;rw[yM D _ HZ.out,awp.1 HP.out];exact .refl _
      have akg:at3 (km D (cD D J xs) ((J.steps.zip bB).take q)= []):=awp.1 HP.out;clear HP;go_wp2_with (go_at_call 365;refine hc.mono ?_;rintro e w5 ⟨rfl,bA,mg⟩);have Hz:=sR.turn bA λ_ _ _ h=>h;have zt:=dK.size;have Hh:=hT.size;go_roundw
      case rel=>exact⟨q+1,_,[],bB,R',by omega,by go_num,rfl,by omega,dK.bL bA λ_ h=>h.elim,Hz,⟨hbg.1,hbg.2.succ λ_=>akg.out⟩,λj hj=>rW j aj,jg,mg,HQ⟩
      case measure=>simp[intOf];omega
     ·have hc:=ajc hk3 Bh xQ NC aef abe o1 o2 o3 o4 o5 o6 hMf hf (kb:=(R' q).2) (F:=lD s (t.getD [])) (λmb oZ=>by
       cases t with
       |none=>cases oZ
       |some T=>
        cases oZ
        exact⟨sR.rows q s T hs ht,Va s T⟩) sR.free sR.low hN3
      go_wp2_with (go_at_call 365;refine hc.mono ?_;rintro e w5 ⟨fb5,f5,mb,sA,F',rfl,ald,mg,qH,Bj,TT⟩);have zt:=dK.size;have Hh:=hT.size;have hzt:((t.getD []).length=(t.getD []).length):=rfl;clear hzt;rcases TT with⟨hrv,hkb,hFF,bA⟩|⟨hrv,oZ,hkb',⟨T,hVT,hFF⟩,bA,E_⟩
      ·have Hz:=sR.turn bA λ_ _ _ h=>h;have HQ:at3 (f5.Perm (km D (cD D J xs) ((J.steps.zip bB).take (q+1)))):=by
        show awm _ _;rw[yM D _ HZ.out];rw[hFF]at Bj;exact Bj.trans (Cw D s _ HP.out)
       go_roundw
       case rel=>exact⟨q+1,fb5,f5,bB,R',by omega,by go_num,rfl,by omega,dK.bL bA λ_ h=>h.elim,Hz,⟨hbg.1,hbg.2.succ λhn=>(by rw[ht]at hn;cases hn;cases hrv)⟩,λj hj=>rW j aj,jg,mg,HQ⟩
       case measure=>simp[intOf];omega
      ·have RR:t=none:=by
        cases t with
        |none=>rfl
        |some T=>cases hrv
       rw[RR]at ht;have hRT:fF w5 mb sA (lD s T):=by rw[hFF]at qH;exact qH
       have Hz:=sR.begin hk3 hN3 xQ hs ht hRT oZ hkb' bA E_;have KC:=(apT.1 ht).1;have HQ:at3 (f5.Perm (km D (cD D J xs) ((J.steps.zip (bB.set q (some T))).take (q+1)))):=by
        show awm _ _;have hz:(J.steps.zip (bB.set q (some T)))[q]? =some (s,some T):=by
         rw[awj];exact⟨hs,awh KC⟩
        have htk:(J.steps.zip (bB.set q (some T))).take q=(J.steps.zip bB).take q:=by
         show(awr awt _ _).take q=(awr awt _ _).take q
         rw[awi,awi,awo,awk (by rw[as1];omega)]
        rw[yM D _ hz,htk];rw[hFF]at Bj;exact Bj.trans (Cw D s _ HP.out)
       have aiv:Om D J.steps st (bB.set q (some T)):=by
        intro j;by_cases hj:j=q
        ·subst hj;refine .inr ⟨?_,s,T,hs,awh KC,hVT⟩;rw[←rW _ (agl _)];exact ht
        ·rw[awg (arz hj)];exact hbg.1 j
       have aif: ∀b,cv (bB.set q (some T)) (λj=>if j=q then(mb,sA)else R' j) b→cv st R b∨w.heap.size≤b:=by
        rintro b ⟨i,T',hi,hb⟩;dsimp only at hb;by_cases hiq:i=q
        ·rw[if_pos hiq]at hb;rcases hb with rfl|⟨p,hp,rfl⟩
         ·exact .inr aj
         ·exact .inr (by have:=hkb' p hp;omega)
        ·rw[if_neg hiq]at hb;rw[awg (arz hiq)]at hi;exact jg b ⟨i,T',hi,hb⟩
       have acX: ∀j,q+1≤j→(bB.set q (some T))[j]? =st[j]? :=λj hj=>by
        rw[awg aj];exact rW j aj
       go_roundw
       case rel=>exact⟨q+1,fb5,f5,_,_,by omega,by go_num,rfl,by omega,dK.trans bA,Hz,⟨aiv,hbg.2.set KC⟩,acX,aif,mg,HQ⟩
       case measure=>simp[intOf];omega
    ·obtain rfl:q=J.steps.length:=by omega
     have hPf:f.Perm (km D (cD D J xs) (J.steps.zip bB)):=by
      have h1:=HP.out;rw[at4 (by rw[List.length_zip];exact Nat.min_le_left _ _)]at h1;exact h1
     have agw: ∀p∈f,∀p'∈f,g_ J.head.ts p.1=g_ J.head.ts p'.1→p.1=p'.1:=λp hp p' Nw e=>lJ xs bB sR.len p (hPf.mem_iff.1 hp) p' (hPf.mem_iff.1 Nw) e;replace hPf:at3 _:=hPf;obtain⟨we,rfl⟩: ∃x,x=wr:=⟨_,rfl⟩;obtain⟨wf,hwf⟩: ∃x,x=we.alloc (.map #[] 0):=⟨_,rfl⟩;have tf:af (λ_=>False) we wf:=by rw[hwf];exact(af.refl _ _).alloc _
     have hh0:av wf fq br cU we.heap.size []:=by rw[hwf];exact av.made
     have aep:=hMf.turn tf id;have Fa:=hMf.lt;have yf:af (·=gb) w we:=hT.wider.trans dK;have abi:=sR;clear HP hMf Uv;go_wp2_with (at_range; (rw[←hwf]);clear hwf;refine fZ Tryz.underlying487 rfl (.tmp 56) rfl rfl aep ?_;intro w7 eC C_ Bi);go_frame;have hwz:=hh0.lt;have hh7:=hh0.turn eC id;have C5:=tf.trans eC;have ah5:we.heap.size<wf.heap.size:=hwz;have hs7:wf.heap.size<w7.heap.size:=by omega
     obtain⟨it3,adY⟩: ∃x,x=wf.heap.size:=⟨_,rfl⟩;rw[←adY]at Bi hs7 ah5⊢;clear adY C_ eC hh0 tf aep hwz wf
     go_loopg [] f.length (λgk wr=>∃came:List (eB×Nat),came.length+gk=f.length∧af (λ_=>False) we wr∧it3<wr.heap.size∧cN wr okB cZ cU fb it3 f came∧av wr fq br cU we.heap.size (came.map λp=>(g_ J.head.ts p.1,p.2)))
     case atStart=>exact⟨[],by simp,C5,hs7,Bi,hh7⟩
     case round=>
      clear Bi hh7 C5 hs7;obtain⟨came,bW,KG,WH,wF,Hn⟩:=hrel;have vy:fb≠it3:=by omega
      go_wp2_with (at_next;refine iy mJ rfl (.tmp 57) rfl rfl wF vy ?_ ?_)
      ·intro hd;have mf:f.Perm came:=wF.perm λ⟨x,y⟩ hx=>hd x y hx;clear hd;go_wp2;go_ret;have hTf:af (·=gb) w wr:=yf.bL KG λ_ h=>h.elim;refine⟨we.heap.size,_,xs,bB,R',rfl,yf.size,Hn,Bg,⟨?_,rS,hjf,hjg,⟨ha,hc,fa,fc,sa,sc,ga,gc,hTf.kept uG hjg,hH,hF,hSt,Py⟩,abi.turn KG λ_ _ _ h=>h⟩,hbg,(mf.symm.trans hPf.out).map _,hTf,jg⟩;exact hk.turn hTf λb ob hb (hbg:b=gb)=>by rw[hbg,hgo]at hb;cases hb
      ·intro b n w6 jQ uN ahT bH C7;obtain⟨m,rfl⟩: ∃m,gk=m+1:=⟨gk- 1,by omega⟩;have hb:okB b:=C7.sub.2.2 (b,n) bz;have wN:(aM b).size=12:=by rw[cX];exact hb.1
       have se:g_ J.head.ts b∉ (came.map λp=>(g_ J.head.ts p.1,p.2)).map aug:=by
        intro gJ;rw[au0]at gJ;obtain⟨p,hp,Xn⟩:=amk.1 gJ;have h1:=agw p (wF.sub.1 p hp) (b,n) jQ Xn;have h2:=C7.sub.2.1;rw[atW,List.nodup_append]at h2;exact h2.2.2 p.1 (amk.2 ⟨p,hp,rfl⟩) b bz h1
       obtain⟨nh,nl,E1⟩: ∃nh nl:Nat,cU n= .agg #[.int .u64 nh,.int .u64 nl]:=⟨_,_,rfl⟩;have HN:at3 (cU n= .agg #[.int .u64 nh,.int .u64 nl]):=E1;clear E1;go_wp2_with (first|(refine fI rfl (.tmp 57) rfl rfl C7 ?_;rw[HN.out];dsimp only[cZ])|(refine bV rfl (.tmp 11) (.tmp 61) rfl rfl (bq _ _ _) rfl Tryz.sizeOf467 wN (eA b) ?_;intro w7 eC Hm)|(refine bV rfl (.tmp 12) (.tmp 62) rfl rfl (eC.kept (aR _ _ _) aj) rfl sizeOf112 rfl (by simp[atv]) ?_;intro w8 jJ Fe));go_frame;have T68:af (λ_=>False) w6 w8:=((((af.refl (λ_=>False) w6).alloc _).alloc _).bL eC (λq (hq:q=w6.heap.size)=> .inl aj)).bL jJ (λq (hq:q=w6.heap.size+1)=> .inl aj);have Fh:=jJ.kept Hm aj;have SD:=C7.turn T68 id id;have FD:af (·=it3) wr w8:=bH.bL T68 λ_ h=>h.elim;have zv:af (λ_=>False) we w8:=KG.bL FD λq (hq:q=it3)=> .inl aj;have aiH:=Hn.turn FD aj;have Xd:=FD.size;generalize w6.heap.size=b6 at Fh Fe⊢;clear eC jJ Hm T68 C7 FD bH w6 w7;have Ak:=atm Fh;have aei:af (·=gb) w w8:=yf.bL zv λ_ h=>h.elim;have TH:=aei.kept uG hjg;have j0:w8.cell? ⟨jb,0,none⟩=some (.string J.head.n):=(aqF w8 jb 0 _ 479 (0,0) TH).trans rfl;have j1:w8.cell? ⟨jb,1,none⟩=some (.slice ha J.head.ts.length hc):=(aqF w8 jb 1 _ 479 (0,0) TH).trans rfl;have ak3:=atm TH;have abJ:=atm Fe;obtain⟨y0,y1,_⟩:=b9 Fe;have hk8:=hk.turn aei λb ob hb (hbg:b=gb)=>by rw[hbg,hgo]at hb;cases hb
       have c6:=λ(w':aly) (ht:af (λ_=>False) w8 w')=>aeA (hk8.turn ht λ_ _ _ h=>h) (⟨.slice ha J.head.ts.length hc,rfl,hH⟩:NL k [.string J.head.n,.slice ha J.head.ts.length hc] J.head) ok.nE ok.ml hb;dsimp only[cZ]at c6;have Da:fq (g_ J.head.ts b):=Oy ok.ml hb;refine aG (λi=>i==6||i==8) ar ar ?_;intro S g fN gc' gf gh sF;iterate 5 (refine ak ar aC aC λK hK=>?_;go_big_quiet_op;refine hK _ ?_;clear hK K)
       refine dF ar aC (.tmp 11) rfl rfl (λw' ⟨x,e⟩=>by rw[e];exact(gh x _ Ak).trans Fh) Tryz.underlying467 rfl (by rw[wN];kernel_rfl) ?_;go_frame;refine ai ar aC λQ' hQ=>?_;go_wp2_with (go_at_call 366;refine(c6 _ (af.refl _ _).drew).mono ?_;rintro e w9 ⟨rfl,Bf⟩);have h9:af (λ_=>False) w8 w9:=(af.refl _ _).drew.trans Bf;refine hQ _ _ ar (λ_=>sF _ h9.below) ?_;clear hQ Q';refine ak ar aC aC λK hK=>?_;go_big_quiet_op;refine hK _ ?_;clear hK K;have aiG:=aiH.turn h9 id;refine ai ar aC λQ' hQ=>?_;go_wp2_with (at_mapUpdate;refine bj gL Tryz.underlying324 rfl (.tmp 63) (.tmp 69) (.tmp 70) rfl rfl aiG (x:=g_ J.head.ts b) rfl Da n (by exact HN.out.symm) ?_;intro WB vB P5);refine hQ _ _ ar (aX ar) ?_;clear hQ Q';refine aQ ?_;clear gc' gf gh sF fN g S;rw[tG se]at P5;have Yk:af (λ_=>False) we WB:=(zv.trans h9).bL vB λq (hq:q=we.heap.size)=> .inl aj;have Lj:=(SD.turn h9 id id).turn vB (by show ¬fb=we.heap.size;omega) (by show ¬it3=we.heap.size;omega);have hz9:=h9.size;have abc:=vB.size;clear c6 Bf h9 vB;go_wp2
       go_roundg m
       case measure=>exact atG m
       case rel=>exact⟨came++ [(b,n)],by simp;omega,Yk,by omega,Lj,by rw[atW];exact P5⟩
  ·intro x y z u w2 jQ uN hlt aF iG;obtain⟨m,rfl⟩: ∃m,gk=m+1:=⟨gk- 1,by omega⟩;have gH:fq (x,y,z):=iG.sub.2.2.1 ((x,y,z),u) bz;go_wp2_with (refine kE rfl (.tmp 15) rfl rfl iG ?_;dsimp only[br]);obtain⟨w3,hw3⟩: ∃w3,w3=w2.alloc (.cells #[.int .u64 x,.int .u64 y,.int .u64 z] 116):=⟨_,rfl⟩;rw[←hw3];have bX:af (λ_=>False) w2 w3:=by rw[hw3];exact(af.refl _ _).alloc _
   have X8:w3.heap[w2.heap.size]? =some (.cells #[.int .u64 x,.int .u64 y,.int .u64 z] 116):=by rw[hw3];exact atp _ _
   have nd:af (·=w.heap.size+1) wr w3:=aF.bL bX λ_ h=>h.elim;have eN:af (λ_=>False) w w3:=hT.bL nd λq (hq:q=w.heap.size+1)=> .inl aj;have qM:=iG.turn bX (λ_ _=>id) id;have aen:=hMn.turn nd aj;have ahv:=nd.size;generalize w2.heap.size=b6 at X8⊢;clear hw3 bX aF iG nd hT hMn w2;obtain⟨y0,y1,y2,-⟩:=bI X8;have D5:=eN.kept uG id;have j2:w3.cell? ⟨jb,2,none⟩=some (.string J.first.n):=(aqF w3 jb 2 _ 479 (0,0) D5).trans rfl;have j3:w3.cell? ⟨jb,3,none⟩=some (.slice fa J.first.ts.length fc):=(aqF w3 jb 3 _ 479 (0,0) D5).trans rfl;have j4:w3.cell? ⟨jb,4,none⟩=some (.slice sa J.start.length sc):=(aqF w3 jb 4 _ 479 (0,0) D5).trans rfl;have j5:w3.cell? ⟨jb,5,none⟩=some (.int .u16 J.live):=(aqF w3 jb 5 _ 479 (0,0) D5).trans rfl;have ah3:=atm D5;have hbl:=atm X8;have HS:at3 (cD D J ((came++ [((x,y,z),u)]).map aug)=match cO J.first.ts (lx (x,y,z))with|none=>cD D J (came.map aug)|some b=>Af D J.start J.live (cD D J (came.map aug)) b 1):=by
    show _=_;rw[atW];exact JL D J _ (x,y,z)
   have c1:=λ(w':aly) (ht:af (λ_=>False) w w')=>ab9 (hk.turn ht λ_ _ _ h=>h) (⟨.slice fa J.first.ts.length fc,rfl,hF⟩:NL k [.string J.first.n,.slice fa J.first.ts.length fc] J.first) ok.ac5 ok.firstT gH
   have Hk: ∀b,cO J.first.ts (lx (x,y,z))=some b→okB b:=λb hm=>uv (λu hu=>by
    simp only[lx,ap9,avt,or_false]at hu;rcases hu with rfl|rfl|rfl
    ·exact gH.1
    ·exact gH.2.1
    ·exact gH.2.2) hm
   dsimp only[br]at c1;obtain⟨om,hom⟩: ∃om,cO J.first.ts (lx (x,y,z))=om:=⟨_,rfl⟩;rw[hom]at c1 HS Hk;clear hom;obtain⟨b,hb,pk,R4⟩: ∃b,okB b∧cZ (om.getD dL)= .agg (aM b)∧(∀b',om=some b'→b'=b):=by
    cases om with
    |none=>exact⟨dL,BX,rfl,λ_ h=>nomatch h⟩
    |some b=>exact⟨b,Hk b rfl,rfl,λ_ h=>(alN h).symm⟩
   have wN:(aM b).size=12:=by rw[cX];exact hb.1
   unfold FU at c1;rw[pk]at c1;obtain⟨bs,DT⟩: ∃bs,om.isSome=bs:=⟨_,rfl⟩;rw[DT]at c1;clear pk Hk;replace DT:at3 _:=DT;replace R4:at3 _:=R4
   refine wp_mono (Q:=λe a' w5=>e= .normal∧∃b7,af (λ_=>False) w3 w5∧w5.heap[b7]? =some (.cells (aM b) 467)∧a'={tmps:= #[.pointer (some ⟨jb,0,none⟩),.map o,undef,undef,.map none,.map (some w.heap.size),.pointer (some ⟨b6,0,none⟩),.pointer (some ⟨b7,0,none⟩),.bool bs,undef,undef,undef,undef,.map (some w.heap.size),.map o,.pointer (some ⟨w.heap.size+1,0,none⟩),
    .tuple #[.bool true,.agg #[.int .u64 x,.int .u64 y,.int .u64 z],aY u],.bool true,.tuple #[.agg #[.int .u64 x,.int .u64 y,.int .u64 z],aY u],.agg #[.int .u64 x,.int .u64 y,.int .u64 z],.tuple #[.agg (aM b),.bool bs],.pointer (some ⟨jb,0,none⟩),.pointer (some ⟨jb,0,none⟩),.pointer (some ⟨jb,2,none⟩),.agg #[.string J.first.n,.slice fa J.first.ts.length fc],
    .agg #[.int .u64 x,.int .u64 y,.int .u64 z],.tuple #[.agg (aM b),.bool bs],.agg (aM b),.bool bs,u29,u30,u31,u32,u33,u34,u35,u36,u37,undef,undef,undef,undef,undef,undef,undef,undef,undef,undef,undef,undef,undef,undef,undef,undef,undef,undef,undef,undef,undef,undef,undef,undef,undef,undef,undef,undef,undef,undef,undef,undef,undef,undef],defers:= []}) ?_ ?_
   ·have hD:af (λ_=>False) w3 w3.drew:=(af.refl _ _).drew;have hDb: ∀ (q:Nat) (ob:Obj),w3.heap[q]? =some ob→w3.drew.heap[q]? =some ob:=λq ob h=>h;refine wh (λi=>i==5||i==9||i==10||i==11) [0,1,2,3,4] 5 [6,7,8,9,10,11] 9 [5,6,7,8,10,11] ar ar ?_;intro S g fN gc gh sF;iterate 5 (refine fp pK ar aC aC λK hK=>?_;go_big_quiet_op;refine hK _ ?_;clear hK K)
    refine dw ⟨?_,?_⟩
    ·refine aV pK ar aC λQ' hQ=>?_;go_wp2_with (go_at_call 351;refine(c1 _ eN.drew).mono ?_;rintro e w4 ⟨rfl,ck⟩);have h4:af (λ_=>False) w3 w4:=hD.trans ck;refine hQ _ _ ar (λ_=>sF _ h4) ?_;clear hQ Q';iterate 3 (refine fp pK ar aC aC λK hK=>?_;go_big_quiet_op;refine hK _ ?_;clear hK K)
     refine aV pK ar aC λQ' hQ=>?_;go_wp2;refine hQ _ _ ar (λ_=>sF _ (h4.alloc _)) ?_;clear hQ Q';refine aV pK ar aC λQ' hQ=>?_;go_wp2_with (refine bV rfl (.tmp 7) (.tmp 27) rfl rfl (atp _ _) rfl Tryz.sizeOf467 wN (eA b) ?_;intro w5 bA sI);have h5:af (λ_=>False) w3 w5:=(h4.alloc _).bL bA λq (hq:q=w4.heap.size)=> .inl (by have:=h4.size;omega);refine hQ _ _ ar (λ_=>sF _ h5) ?_;clear hQ Q';refine aV pK ar aC λQ' hQ=>?_;go_wp2;refine hQ _ _ ar (λ_=>sF _ h5) ?_;exact dw ⟨trivial,_,h5,sI,rfl⟩
    ·refine aV pK ar aC λQ' hQ=>?_;go_wp2;have hA:af (λ_=>False) w3 (w3.drew.alloc (.cells #[.int .u64 0,.int .u64 0,.int .u64 0,.int .u64 0,.int .u64 0,.int .u64 0,.int .u64 0,.int .u64 0,.int .u64 0,.int .u64 0,.int .u64 0,.int .u64 0] 467)):=hD.alloc _;refine hQ _ _ ar (λ_=>sF _ hA) ?_;clear hQ Q';refine aV pK ar aC λQ' hQ=>?_;go_wp2_with (go_at_call 351;refine(c1 _ (eN.trans hA)).mono ?_;rintro e w4 ⟨rfl,ck⟩);have h4:af (λ_=>False) w3 w4:=hA.trans ck;refine hQ _ _ ar (λ_=>sF _ h4) ?_;clear hQ Q';iterate 3 (refine fp pK ar aC aC λK hK=>?_;go_big_quiet_op;refine hK _ ?_;clear hK K)
     refine aV pK ar aC λQ' hQ=>?_;go_wp2_with (refine bV rfl (.tmp 7) (.tmp 27) rfl rfl (ck.kept (atp _ _) id) rfl Tryz.sizeOf467 wN (eA b) ?_;intro w5 bA sI);have h5:af (λ_=>False) w3 w5:=h4.bL bA λq (hq:q=w3.heap.size)=> .inl aj;refine hQ _ _ ar (λ_=>sF _ h5) ?_;clear hQ Q';refine aV pK ar aC λQ' hQ=>?_;go_wp2;refine hQ _ _ ar (λ_=>sF _ h5) ?_;exact dw ⟨trivial,_,h5,sI,rfl⟩
   ·rintro e a5 w5 ⟨rfl,b7,h5,sI,rfl⟩;dsimp only;have iW:=eN.trans h5;have qH:=qM.turn h5 (λ_ _=>id) id;have abR:=aen.turn h5 id;have zt:=h5.size;have j4':=h5.cell j4 id;have j5':=h5.cell j5 id;have ak4:jb<w5.heap.size:=by omega
    have abK:=atm sI;have akB:w.heap.size+1<w5.heap.size:=by omega
    clear ahv zt WH;clear h5 X8 y0 y1 y2 j2 j3 j4 j5 hbl ah3 qM aen c1 D5 eN w3;cases bs with
    |false=>
     have hom:om=none:=by
      have:=DT.out;cases om with
      |none=>rfl
      |some _=>cases this
     subst hom;go_wp2
     go_roundg m
     case measure=>exact atG m
     case rel=>exact⟨came++ [((x,y,z),u)],by simp;omega,iW,by omega,qH,by rw[HS.out];exact abR⟩
    |true=>
     have hom:om=some b:=by
      have:=DT.out;have h2:=R4.out;cases om with
      |none=>cases this
      |some b'=>rw[h2 b' rfl]
     subst hom;have c5:=λ(w':aly) (ht:af (λ_=>False) w5 w')=>aeB (hk.turn (iW.trans ht) λ_ _ _ h=>h) (hS.turn (iW.trans ht) λ_ _ h=>h) (abR.turn ht id) hSt ok.YP ok.acD J.live ok.acP hb 1;dsimp only[cZ]at c5;replace HS:at3 (cD D J ((came++ [((x,y,z),u)]).map aug)=Af D J.start J.live (cD D J (came.map aug)) b 1):=HS;generalize Af D J.start J.live (cD D J (came.map aug)) b 1=LL at c5 HS;go_wp2;refine aG (λi=>i==6||i==7) ar ar ?_;intro S g fN gc gf gh sF;iterate 5 (refine ak ar aC aC λK hK=>?_;go_big_quiet_op;refine hK _ ?_;clear hK K)
     refine dF ar aC (.tmp 7) rfl rfl (λw' ⟨x,e⟩=>by rw[e];exact(gh x _ abK).trans sI) Tryz.underlying467 rfl (by rw[wN];kernel_rfl) ?_;go_frame;refine ai ar aC λQ' hQ=>?_;go_wp2_with (go_at_call 364;refine(ajd 1 aI _).mono ?_;rintro e w6 ⟨rfl,bH⟩);have h6:af (λ_=>False) w5 w6:=(af.refl _ _).drew.trans bH;refine hQ _ _ ar (λ_=>sF _ h6.below) ?_;clear hQ Q';refine ai ar aC λQ' hQ=>?_;go_wp2_with (go_at_call 363;refine(c5 _ h6).mono ?_;rintro e w8 ⟨rfl,jJ,SJ⟩);refine hQ _ _ ar (aX ar) ?_;clear hQ Q';refine aQ ?_;clear gc gf gh sF fN g S;have zv:af (λ_=>False) w w8:=(iW.trans h6).bL jJ λq (hq:q=w.heap.size)=> .inl aj
     have SD:=(qH.turn h6 (λ_ _=>id) id).turn jJ (λq hq (Xl:q=w.heap.size)=>by
      have:=acV q (by simpa using hq)
      omega) aj
     have Xd:=jJ.size;have Hh:=h6.size;clear jJ bH h6 qH abR c5;go_wp2
     go_roundg m
     case measure=>exact atG m
     case rel=>exact⟨came++ [((x,y,z),u)],by simp;omega,zv,by omega,SD,by rw[HS.out];exact SJ⟩
end Go.Proofs.YtkdljbnllgpfhaaGreat
end
section
namespace Go.Proofs.YtkdljbnllgpfhaaGreat
open Go Go.RowKit Go.Upr
theorem Mi(s:r9)(T xs:List aS):xs.foldl (jL s.part.a.ts s.known s.fresh) (lD s T)=lD s (T++xs):=by
 unfold lD;rw[at9]
theorem fK.more{V:Bool→ByteArray→Vw}{w w':aly}{N:Nat}{k:Hp}{gb:Nat}{steps:List r9}{st:List (Option (List aS))}{R:Nat→kP}(h:fK V w N k gb steps st R)(hk:k.In w)(hN:N≤w.heap.size)
  {i:Nat} {s:r9} (hs:steps[i]? =some s) {T xs:List aS} (hi:st[i]? =some (some T)) {kb:List (eB×Nat)} (hR:fF w' (R i).1 kb (lD s (T++xs))) (hkb: ∀p∈kb,p∈(R i).2∨w.heap.size≤p.2) (ht:af (λb=>b=(R i).1∨∃p∈(R i).2,p.2=b) w w'):
  fK V w' N k gb steps (st.set i (some (T++xs))) λj=>if j=i then((R i).1,kb)else R j:=by
 have NA:=(apT.1 hi).1;have C6:=h.rows i s T hs hi;have wM: ∀j t,(st.set i (some (T++xs)))[j]? =some t→(j=i∧t=some (T++xs))∨(j≠i∧st[j]? =some t):=by
  intro j t hj;by_cases ma:j=i
  ·subst ma;rw[awh NA]at hj;exact .inl ⟨rfl,(alN hj).symm⟩
  ·rw[awg (arz ma)]at hj;exact .inr ⟨ma,hj⟩
 have hlt: ∀ (q:Nat) (W:List aS),st[q]? =some (some W)→(R q).1<w.heap.size∧∀p∈(R q).2,p.2<w.heap.size:=by
  intro q W hq;have KC:q<steps.length:=by rw[←h.len];exact(apT.1 hq).1
  have h1:=h.rows q _ W (arn KC) hq;exact⟨h1.top.lt,λp hp=>(h1.dy p hp).lt⟩
 have aaF: ∀ {b:Nat} {f:List (eB×Nat)} {enc:Nat→aad} {cs:Array aad},av w okB cZ enc b f→w.heap[gb]? =some (.cells cs 497)→¬gb=b:=by
  rintro b f enc cs ⟨es,cl,h5,_⟩ hg rfl;rw[hg]at h5;cases h5
 refine⟨by rw[avA];exact h.len,h.low,h.free,λhne=>?_,λj s' U hj hU=>?_,λj U hU=>?_,λj l U U' hU hU' rS=>?_⟩
 ·obtain⟨cs0,h1,h2⟩:=h.cells hne
  refine⟨cs0,ht.kept h1 (by
   rintro(e|⟨p,hp,e⟩)
   ·exact aaF C6.top h1 e
   ·exact aaF (C6.dy p hp) h1 e.symm),λj s' t hj Kj=>?_⟩
  rcases wM j t Kj with⟨rfl,rfl⟩|⟨ma,pL⟩
  ·obtain⟨aa,al,ac,ta,tl,tc,h3,h4,h5⟩:=h2 j s' _ hj hi;refine⟨aa,al,ac,ta,tl,tc,?_,h4,h5⟩;rw[if_pos rfl];exact h3
  ·obtain⟨aa,al,ac,ta,tl,tc,h3,h4,h5⟩:=h2 j s' t hj pL;refine⟨aa,al,ac,ta,tl,tc,?_,h4,h5⟩;rw[if_neg ma];exact h3
 ·rcases wM j _ hU with⟨rfl,hUT⟩|⟨ma,pL⟩
  ·rw[if_pos rfl];rw[hs]at hj;cases hj;cases hUT;exact hR
  ·rw[if_neg ma];have h1:=h.rows j s' U hj pL;obtain⟨a1,a2,a3⟩:=h.apart i j T U hi pL (arz ma);refine h1.turn ht ?_ λp hp=>?_
   ·rintro(e|⟨q,hq,e⟩)
    ·exact a1 e.symm
    ·obtain⟨_,b2,_⟩:=h.apart j i U T pL hi ma;exact b2 q hq e
   ·rintro(e|⟨q,hq,e⟩)
    ·exact a2 p hp e
    ·exact a3 q hq p hp e
 ·rcases wM j _ hU with⟨rfl,hUT⟩|⟨ma,pL⟩
  ·rw[if_pos rfl];have h1:=h.own j T hi;refine⟨h1.1,h1.2.1,λp hp=>?_⟩;rcases hkb p hp with h2|h2
   ·exact h1.2.2 p h2
   ·exact⟨al2 hN h2,Hp.In.free hk h2⟩
  ·rw[if_neg ma];exact h.own j U pL
 ·rcases wM j _ hU with⟨rfl,_⟩|⟨ma,pL⟩<;>rcases wM l _ hU' with⟨rfl,_⟩|⟨hli,PZ⟩
  ·exact absurd rfl rS
  ·rw[if_pos rfl,if_neg hli];have h1:=hlt l _ PZ;obtain⟨a1,a2,a3⟩:=h.apart j l T U' hi PZ rS;refine⟨a1,a2,λp hp q hq=>?_⟩;rcases hkb p hp with h2|h2
   ·exact a3 p h2 q hq
   ·have:=h1.2 q hq;omega
  ·rw[if_neg ma,if_pos rfl];have h1:=hlt j _ pL;obtain⟨a1,a2,a3⟩:=h.apart j l U T pL hi rS;refine⟨a1,λp hp=>?_,λp hp q hq=>?_⟩
   ·rcases hkb p hp with h2|h2
    ·exact a2 p h2
    ·have:=h1.1;omega
   ·rcases hkb q hq with h2|h2
    ·exact a3 p hp q h2
    ·have:=h1.2 p hp;omega
  ·rw[if_neg ma,if_neg hli];exact h.apart j l U U' pL PZ rS
end Go.Proofs.YtkdljbnllgpfhaaGreat
end
section
namespace Go.Proofs.YtkdljbnllgpfhaaGreat
open Go Go.RowKit Go.Upr
def yE(bs:List (ByteArray×Nat))(G:ByteArray→List aS)(steps:List r9)(st bB:List (Option (List aS)))(j:Nat):Prop:=
 (st[j]? =some none∧bB[j]? =some none)∨∃s T xs,steps[j]? =some s∧st[j]? =some (some T)∧bB[j]? =some (some (T++xs))∧bC (iF bs G s.part.a.n) xs
theorem ajl{V:Bool→ByteArray→Vw}{w:aly}{N:Nat}{k:Hp}{jb gb:Nat}{J:Jn}{st:List (Option (List aS))}{R:Nat→kP}(hJ:dZ V w N k jb gb J st R)(hNw:N≤w.heap.size)(ok:Dl J)
  {lo:Option Nat} {bs:List (ByteArray×Nat)} {G:ByteArray→List aS} (hL:qa w lo bs G) (xW: ∀b,lo=some b→¬cv st R b) (DT: ∀q∈bs,¬cv st R q.2) (hbl: ∀q∈bs,q.2<w.heap.size):
  asP Tryz.prog 346 #[.pointer (some ⟨jb,0,none⟩),.map lo] w λe w'=>∃bB R',e= .returned (.tuple #[])∧dZ V w' N k jb gb J bB R'∧(∀j,j<J.steps.length→yE bs G J.steps st bB j)∧af (cv st R) w w'∧∀b,cv bB R' b→cv st R b∨w.heap.size≤b:=by
 obtain⟨hk,rS,hjf,hjg,⟨ha,hc,fa,fc,sa,sc,ga,gc,uG,hH,hF,hSt,Py⟩,hst⟩:=hJ;have j6:w.cell? ⟨jb,6,none⟩=some (.slice ga J.steps.length gc):=(aqF w jb 6 _ 479 (0,0) uG).trans rfl;have hjw:=atm uG;have Uv:=ok.count;have hrow: ∀b,cv st R b→k b=none∧b<w.heap.size∧∃es cl,w.heap[b]? =some (.map es cl):=by
  rintro b ⟨i,T,hi,hb⟩;have NA:i<J.steps.length:=by rw[←hst.len];exact(apT.1 hi).1
  have h1:=hst.rows i _ T (arn NA) hi;have h2:=hst.own i T hi;rcases hb with rfl|⟨p,hp,rfl⟩
  ·obtain⟨es,cl,h3,_⟩:=h1.top;exact⟨h2.2.1,h1.top.lt,es,cl,h3⟩
  ·obtain⟨es,cl,h3,_⟩:=h1.dy p hp;exact⟨(h2.2.2 p hp).2,(h1.dy p hp).lt,es,cl,h3⟩
 have hjr: ¬cv st R jb:=λh=>by
  obtain⟨_,_,es,cl,h3⟩:=hrow _ h;rw[uG]at h3;cases h3
 obtain⟨nst,adP⟩: ∃n,n=J.steps.length:=⟨_,rfl⟩;clear adP nst;go_enter Tryz.func346,Tryz.ntmps346;go_wp2
 go_loopw [11] (λi wr=>∃ (q:Nat) (bB:List (Option (List aS))) (R':Nat→kP),q≤J.steps.length∧i= .int .i64 q∧af (cv st R) w wr∧fK V wr N k gb J.steps bB R'∧(∀j,q≤j→bB[j]? =st[j]? ∧R' j=R j)∧(∀j,j<q→yE bs G J.steps st bB j)∧∀b,cv bB R' b→cv st R b∨w.heap.size≤b) (λi _=>J.steps.length-(intOf i).toNat)
 case atStart=>exact⟨0,st,R,arQ _,rfl,af.refl _ _,hst,λ_ _=>⟨rfl,rfl⟩,λj hj=>by omega,λ_ h=> .inl h⟩
 case round=>
  obtain⟨q,bB,R',hq,rfl,hT,sR,rW,wY,jg⟩:=hrel;by_cases hlt:q<J.steps.length
  ·obtain⟨abC,aib⟩:=Py (λe=>by rw[e]at hlt;cases hlt);have hne:J.steps≠ []:=λe=>by rw[e]at hlt;cases hlt
   obtain⟨s,hs⟩: ∃s,J.steps[q]? =some s:=⟨_,arn hlt⟩;obtain⟨t,ht⟩: ∃t,bB[q]? =some t:=⟨_,arn (by rw[sR.len];exact hlt)⟩;obtain⟨cs,xQ,ag⟩:=sR.cells hne;obtain⟨aa,al,ac,ta,tl,tc,NC,aef,abe⟩:=ag q s t hs ht;obtain⟨o1,o2,o3,o4,o5,o6⟩:=ok.T_ s (ann hs);have hcell:=λi v hv=>(aqF wr gb (q*11+i) _ 497 (0,0) xQ).trans (hv:cs[q*11+i]? =some v);have x0:=hcell 0 _ NC.c0;have x1:=hcell 1 _ NC.c1;have x2:=hcell 2 _ NC.c2;have x3:=hcell 3 _ NC.c3;have x4:=hcell 4 _ NC.c4;have x5:=hcell 5 _ NC.c5;have x6:=hcell 6 _ NC.c6;have x7:=hcell 7 _ NC.c7;have x8:=hcell 8 _ NC.c8;have x9:=hcell 9 _ NC.c9;have rP:=hcell 10 _ NC.c10;rw[at6]at x0;have Dr: ∀j,j<11→q*11+j<cs.size:=λj hj=>by have:=(ad3.1 NC.c10).1;omega
   clear hcell;subst abC;cases t with
   |none=>
    dsimp only[awq]at rP;have pj: ∀w,(binOp .neq 495 (.map none) (.map none)).run Tryz.prog w= .ok (.bool false) w:=λw=>by kernel_rfl
    go_wp2;have tA:=(af.refl (λ_=>False) wr).alloc (.cells #[.slice aa al ac,.int .u16 s.live,.string s.part.a.n,.slice ta tl tc,.bool s.part.neg,.map (V s.part.side s.part.a.n).1,.map (V s.part.side s.part.a.n).2.1,.map (V s.part.side s.part.a.n).2.2,.int .u16 s.known,.int .u16 s.fresh,.map none] 497);go_roundw
    case rel=>
     refine⟨q+1,bB,R',by omega,by go_num,hT.alloc _,sR.turn tA λ_ _ _ h=>h,λj hj=>rW j aj,λj hj=>?_,jg⟩;by_cases hjq:j=q
     ·subst hjq;exact .inl ⟨by rw[←(rW _ (agl _)).1];exact ht,ht⟩
     ·exact wY j aj
    case measure=>simp[intOf];omega
   |some T=>
    have hRq:R' q=R q:=(rW _ (agl _)).2;have adK:st[q]? =some (some T):=by rw[←(rW _ (agl _)).1];exact ht
    dsimp only[awq]at rP;rw[hRq]at rP;have N3:=sR.rows q s T hs ht;rw[hRq]at N3;obtain⟨mb,oZ⟩: ∃m,m=(R q).1:=⟨_,rfl⟩;obtain⟨kb,hkb⟩: ∃m,m=(R q).2:=⟨_,rfl⟩;rw[←oZ]at rP N3;rw[←hkb]at N3;have hown: ∀b,b=mb∨(∃p∈kb,p.2=b)→cv st R b:=by
     rw[oZ,hkb];exact λb hb=>⟨q,T,adK,hb⟩
    have HMB:at3 (mb=(R q).1∧kb=(R q).2):=⟨oZ,hkb⟩;have HRQ:at3 (R' q=R q):=hRq;clear oZ hkb hRq;have pj: ∀w,(binOp .neq 495 (.map (some mb)) (.map none)).run Tryz.prog w= .ok (.bool true) w:=λw=>by kernel_rfl
    obtain⟨wb,Be⟩: ∃wb,wb=wr.alloc (.cells #[.slice aa al ac,.int .u16 s.live,.string s.part.a.n,.slice ta tl tc,.bool s.part.neg,.map (V s.part.side s.part.a.n).1,.map (V s.part.side s.part.a.n).2.1,.map (V s.part.side s.part.a.n).2.2,.int .u16 s.known,.int .u16 s.fresh,.map (some mb)] 497):=⟨_,rfl⟩;have tB:af (λ_=>False) wr wb:=by rw[Be];exact(af.refl _ _).alloc _
    have vz:wb.heap[wr.heap.size]? =some (.cells #[.slice aa al ac,.int .u16 s.live,.string s.part.a.n,.slice ta tl tc,.bool s.part.neg,.map (V s.part.side s.part.a.n).1,.map (V s.part.side s.part.a.n).2.1,.map (V s.part.side s.part.a.n).2.2,.int .u16 s.known,.int .u16 s.fresh,.map (some mb)] 497):=by rw[Be];exact atp _ _
    have v0:wb.cell? ⟨wr.heap.size,0,none⟩=some (.slice aa al ac):=(aqF wb wr.heap.size 0 _ 497 (0,0) vz).trans rfl;have v1:wb.cell? ⟨wr.heap.size,1,none⟩=some (.int .u16 s.live):=(aqF wb wr.heap.size 1 _ 497 (0,0) vz).trans rfl;have v2:wb.cell? ⟨wr.heap.size,2,none⟩=some (.string s.part.a.n):=(aqF wb wr.heap.size 2 _ 497 (0,0) vz).trans rfl;have v3:wb.cell? ⟨wr.heap.size,3,none⟩=some (.slice ta tl tc):=(aqF wb wr.heap.size 3 _ 497 (0,0) vz).trans rfl;have v4:wb.cell? ⟨wr.heap.size,4,none⟩=some (.bool s.part.neg):=(aqF wb wr.heap.size 4 _ 497 (0,0) vz).trans rfl;have v5:wb.cell? ⟨wr.heap.size,5,none⟩=some (.map (V s.part.side s.part.a.n).1):=(aqF wb wr.heap.size 5 _ 497 (0,0) vz).trans rfl;have v6:wb.cell? ⟨wr.heap.size,6,none⟩=some (.map (V s.part.side s.part.a.n).2.1):=(aqF wb wr.heap.size 6 _ 497 (0,0) vz).trans rfl;have v7:wb.cell? ⟨wr.heap.size,7,none⟩=some (.map (V s.part.side s.part.a.n).2.2):=(aqF wb wr.heap.size 7 _ 497 (0,0) vz).trans rfl;have v8:wb.cell? ⟨wr.heap.size,8,none⟩=some (.int .u16 s.known):=(aqF wb wr.heap.size 8 _ 497 (0,0) vz).trans rfl;have v9:wb.cell? ⟨wr.heap.size,9,none⟩=some (.int .u16 s.fresh):=(aqF wb wr.heap.size 9 _ 497 (0,0) vz).trans rfl;have v10:wb.cell? ⟨wr.heap.size,10,none⟩=some (.map (some mb)):=(aqF wb wr.heap.size 10 _ 497 (0,0) vz).trans rfl;have AQ:af (cv st R) w wb:=hT.bL tB λ_ h=>h.elim;have hLb:=hL.turn AQ xW DT;have hrel:=iR (au bs s.part.a.n);have agp:=hLb.look s.part.a.n;have hLh:=hLb.hp;have ahN:=o3.2.2;have hzw:=AQ.size;have adU:=hk.turn AQ λb ob hb hbr=>by rw[(hrow b hbr).1]at hb;cases hb
    have c2:=λw'=>aeS (au bs s.part.a.n) w';have Hl: ∀b,au bs s.part.a.n=some b→b<w.heap.size∧¬cv st R b:=λb hb=>⟨hbl _ (cB hb),DT _ (cB hb)⟩;have akU:mb<w.heap.size:=(hrow mb (hown mb (.inl rfl))).2.1;have agh:=N3.turn tB id (λ_ _=>id);go_wp2_with (rw[←Be];clear Be);have G7: ∀b,w.heap.size≤b→¬(b=mb∨∃p∈kb,p.2=b):=λb hb hd=>by have:=(hrow b (hown b hd)).2.1;omega
    have ahA:w.heap.size≤wr.heap.size:=hT.size;have ait:=atm vz;refine fM (λb=>b=mb∨∃p∈kb,p.2=b) (λi=>i==8||i==9) ar ar ?_;intro S g fN gc0 gh sF;have gc': ∀x o,(g x).cell? ⟨wr.heap.size,o,none⟩=wb.cell? ⟨wr.heap.size,o,none⟩:=λx o=>gc0 x wr.heap.size o ait (G7 _ ahA);have hlx: ∀x,Hp.map (λb=>(g x).heap[b]?) bZ at5 ji (.map lo) bs:=λx=>by
     rcases hLh with h|⟨b,es,cl,h1,h2,h3⟩
     ·exact .inl h
     ·exact .inr ⟨b,es,cl,h1,(gh x b (atm h2) λhd=>xW b (by simpa using h1) (hown b hd)).trans h2,h3⟩
    iterate 7 (refine ak ar aC aC λK hK=>?_;go_big_quiet_op;refine hK _ ?_;clear hK K)
    refine iP cI Tryz.underlying99 gy ar aC (.tmp 19) (.tmp 24) rfl rfl (λw' ⟨x,e⟩=>by rw[e];exact hlx x) rfl ahN hrel ?_;go_frame;refine ai ar aC λQ' hQ=>?_;go_wp2_with (go_at_call 160;refine(c2 _).mono ?_;rintro e w5 ⟨rfl,Ki⟩;replace Ki:at3 _:=Ki);have h5:af (λ_=>False) wb w5:=by rw[Ki.out];exact((af.refl _ _).drew).alloc _
    have sI:w5.heap[wb.heap.size]? =some (.cells #[.map (au bs s.part.a.n)] 123):=by rw[Ki.out];exact atp _ _
    have zt:wb.heap.size<w5.heap.size:=atm sI;have iW:af (cv st R) w w5:=AQ.bL h5 λ_ h=>h.elim;clear Ki;refine hQ _ _ ar (λ_=>sF _ h5.wider) ?_;clear hQ Q';have c9:=aez (v:= .slice aa al ac) (m1:= .map (V s.part.side s.part.a.n).1) (m2:= .map (V s.part.side s.part.a.n).2.1) (m3:= .map (V s.part.side s.part.a.n).2.2) (live:=s.live) (neg:=s.part.neg) (adU.turn h5 λ_ _ _ h=>h) (⟨.slice ta tl tc,rfl,abe⟩:NL k [.string s.part.a.n,.slice ta tl tc] s.part.a) o3.1 o3.2.1 o5 o6 (agh.turn h5 id λ_ _=>id)
     (agc sI (Hp.bY agp h5)) (af.refl _ _)
     (λb hb=>by
      rcases hb with rfl|hb
      ·exact zt
      ·have:=(Hl b hb).1;omega)
     ⟨λhb=>by
      rcases hb with hb|hb
      ·omega
      ·exact(Hl _ hb).2 (hown _ (.inl rfl)),λp hp hb=>by
      rcases hb with hb|hb
      ·have:=(hrow _ (hown p.2 (.inr ⟨p,hp,rfl⟩))).2.1;omega
      ·exact(Hl _ hb).2 (hown _ (.inr ⟨p,hp,rfl⟩))⟩
     (λb ob hb=>⟨(λe=>by rw[(hrow _ (hown b (.inl e))).1]at hb;cases hb),(λp hp e=>by rw[(hrow _ (hown b (.inr ⟨p,hp,e⟩))).1]at hb;cases hb)⟩)
     (λargs w=>by kernel_rfl)
    refine ai ar aC λQ' hQ=>?_;go_wp2_with (go_at_call 367;refine c9.mono ?_;rintro e w6 ⟨kb6,xs,rfl,oY,C7,bH,hn6⟩);refine hQ _ _ ar (λ_=>sF _ (h5.wider.trans bH)) ?_;clear hQ Q';refine aQ ?_;clear gc0 gc' gh sF fN g S c9 hlx;have Hz:=(sR.turn tB λ_ _ _ h=>h).turn h5 λ_ _ _ h=>h;have e1:(R' q).1=mb:=by rw[HRQ.out];exact HMB.out.1.symm
    have e2:(R' q).2=kb:=by rw[HRQ.out];exact HMB.out.2.symm
    have aek:fF w6 (R' q).1 kb6 (lD s (T++xs)):=by rw[e1,←Mi];exact C7
    have abi:=Hz.more (adU.turn h5 λ_ _ _ h=>h) (al2 hNw iW.size) hs ht aek (by rw[e2];exact hn6) (by rw[e1,e2];exact bH);have uO:af (cv st R) w w6:=iW.bL bH λb hb=> .inr (hown b hb);have KC:=(apT.1 ht).1;have acW: ∀j,q+1≤j→(bB.set q (some (T++xs)))[j]? =st[j]? ∧(if j=q then((R' q).1,kb6)else R' j)=R j:=λj hj=>by
     rw[awg aj,if_neg aj];exact rW j aj
    have acY: ∀j,j<q+1→yE bs G J.steps st (bB.set q (some (T++xs))) j:=λj hj=>by
     by_cases hjq:j=q
     ·subst hjq;exact .inr ⟨s,T,xs,hs,adK,awh KC,oY⟩
     ·unfold yE;rw[awg (arz hjq)];exact wY j aj
    have aie: ∀b,cv (bB.set q (some (T++xs))) (λj=>if j=q then((R' q).1,kb6)else R' j) b→cv st R b∨w.heap.size≤b:=by
     rintro b ⟨i,T',hi,hb⟩;dsimp only at hb;by_cases hiq:i=q
     ·rw[if_pos hiq]at hb;rcases hb with rfl|⟨p,hp,rfl⟩
      ·exact .inl (hown _ (.inl e1))
      ·rcases hn6 p hp with h1|h1
       ·exact .inl (hown _ (.inr ⟨p,h1,rfl⟩))
       ·exact .inr (by have:=iW.size;omega)
     ·rw[if_neg hiq]at hb;rw[awg (arz hiq)]at hi;exact jg b ⟨i,T',hi,hb⟩
    clear e1 e2 hn6 bH C7 aek Hz h5;go_wp2;go_roundw
    case rel=>exact⟨q+1,_,_,by omega,by go_num,uO,abi,acW,acY,aie⟩
    case measure=>simp[intOf];omega
  ·obtain rfl:q=J.steps.length:=by omega
   go_wp2;go_end0;refine⟨bB,R',rfl,⟨?_,rS,hjf,hjg,⟨ha,hc,fa,fc,sa,sc,ga,gc,hT.kept uG hjr,hH,hF,hSt,Py⟩,sR⟩,wY,hT,jg⟩;exact hk.turn hT λb ob hb hbr=>by rw[(hrow b hbr).1]at hb;cases hb
end Go.Proofs.YtkdljbnllgpfhaaGreat
end
section
namespace Go.Proofs.YtkdljbnllgpfhaaGreat
open Go Go.RowKit Go.Upr
def TD(m:Nat)(s:r9):Prop:=s.asks.length≤m∧(∀p∈s.asks,dP p)∧dP s.part∧s.live<4096∧s.known<4096∧s.fresh<4096
theorem U5{live head:Nat}{rest:List bN}{i:Nat}{y:bN}(hlv:live<4096)(h: ∀p∈rest,dP p)(hy:rest[i]? =some y){m:Nat}(hm:rest.length≤m):TD m (fS live head rest i y):=by
 have Hi:=h y (ann hy);have h1:=B9 (head:=head) (rest:=rest) (i:=i) hlv Hi;have iX: ∀p∈rest.eraseIdx i,dP p:=λp hp=>h p ((auF _ _).subset hp);refine⟨?_,λp hp=>?_,Hi,h1.1,xd (iL Hi.2.1),h1.2⟩
 ·have h2:=avN (py (live|||vP live head (bU y.a.ts) (rest.eraseIdx i))) (rest.eraseIdx i);have h3:=(auF rest i).length_le;exact al2 h2 (al2 h3 hm)
 ·exact iX p (auV.1 hp).1
theorem Jk(head m:Nat): ∀ (n live:Nat) (rest:List bN),live<4096→(∀p∈rest,dP p)→rest.length≤m→∀s∈(dQ head n live rest).1,TD m s
 |0,_,_,_,_,_=>λ_ h=>nomatch h
 |n+1,live,rest,hlv,gH,hm=>by
  have h1: ∀k,∀s∈((at0 k).foldl (qb (dQ head n) live head rest) ([],0)).1,TD m s:=by
   intro k
   induction k with
   |zero=>exact λ_ h=>nomatch h
   |succ k ih=>
    rw[rG];generalize(at0 k).foldl (qb (dQ head n) live head rest) ([],0)=b at ih;unfold qb;cases hy:rest[k]? with
    |none=>exact ih
    |some y=>
     have hs:=U5 (head:=head) hlv gH hy hm;have hlen:=xF (live:=live) (head:=head) (rest:=rest) (i:=k) (y:=y) (apT.1 hy).1;have h2:=Jk head m n (fS live head rest k y).live (kM live head rest k y) hs.2.2.2.1 (Cm gH) aj;dsimp only;split
     ·exact ih
     ·split
      ·intro s hs';rcases ap9.1 hs' with rfl|hs'
       ·exact hs
       ·exact h2 s hs'
      ·exact ih
  exact h1 rest.length
theorem xt{head first:sW}{others:List bN}(hh3:head.ts.length≤3)(hhv: ∀t∈head.ts,qP t)(hf3:first.ts.length≤3)(hfv: ∀t∈first.ts,qP t)(hn:others.length≤4)(hv: ∀p∈others,dP p):Dl (ic head first others):=by
 have h1:=avN (py (bU first.ts)) others;have h2:=avN (λp=> !py (bU first.ts) p) others;refine⟨hh3,hhv,hf3,hfv,?_,λp hp=>hv p (auV.1 hp).1,xd (iL hfv),?_,λs hs=>?_⟩
 ·exact al2 h1 aj
 ·exact al2 (yT _ 4 _ _) aI
 ·have h3:=Jk (bU head.ts) 16 4 _ (fw (bU first.ts) others) (xd (iL hfv)) (λp hp=>hv p (auV.1 hp).1) (al2 h2 aj) s hs;exact⟨h3.1,h3.2.1,h3.2.2.1,h3.2.2.2.1,aws h3.2.2.2.2.1 aI,aws h3.2.2.2.2.2 aI⟩
end Go.Proofs.YtkdljbnllgpfhaaGreat
end
section
namespace Go.Proofs.YtkdljbnllgpfhaaGreat
open Go Go.RowKit Go.Upr
theorem Qd{ts:List ni}{j:Nat}(h:(bU ts).testBit j=true): ∃t∈ts,t.c=0∧t.v=j:=by
 have h1: ∀ (ts:List ni) (vs:Nat),(ts.foldl Dk vs).testBit j=true→vs.testBit j=true∨∃t∈ts,t.c=0∧t.v=j:=by
  intro ts
  induction ts with
  |nil=>exact λvs h=> .inl h
  |cons t ts ih=>
   intro vs h;rcases ih _ h with h2|⟨u,hu,h3⟩
   ·unfold Dk at h2;by_cases hc:t.c=0
    ·simp only[hc,if_true]at h2;rw[Nat.testBit_or,Bool.or_eq_true]at h2;rcases h2 with h2|h2
     ·exact .inl h2
     ·rw[Nat.testBit_two_pow]at h2;exact .inr ⟨t,List.mem_cons_self ..,hc,by simpa using h2⟩
    ·simp only[hc,if_false]at h2;exact .inl h2
   ·exact .inr ⟨u,List.mem_cons_of_mem _ hu,h3⟩
 rcases h1 ts 0 h with h2|h2
 ·rw[Nat.zero_testBit]at h2;cases h2
 ·exact h2
def zG(vs:Nat)(b:eB):Prop:=b.length=12∧∀j,vs.testBit j=false→b.getD j 0=0
theorem QI{b:eB}(hb:b.length=12)(vs:Nat):zG vs (eH b vs):=by
 refine⟨by simp[eH,hb],λj hj=>?_⟩;unfold eH;rw[arB,List.getElem?_mapIdx];cases h:b[j]? with
 |none=>rfl
 |some x=>simp[hj]
theorem ZY{ts:List ni}(h3:ts.length≤3){vs:Nat}(hvs: ∀j,vs.testBit j=true→(bU ts).testBit j=true){b b':eB}(hb:zG vs b)(hb':zG vs b')(h:g_ ts b=g_ ts b'):b=b':=by
 have hat: ∀i,i<3→Hc ts b i=Hc ts b' i:=by
  unfold g_ at h;obtain⟨e0,e12⟩:=awn h;obtain⟨e1,e2⟩:=awn e12;intro i hi;obtain rfl|rfl|rfl:i=0∨i=1∨i=2:=by omega
  ·exact e0
  ·exact e1
  ·exact e2
 have hj: ∀j,b.getD j 0=b'.getD j 0:=by
  intro j;cases hv:vs.testBit j with
  |false=>rw[hb.2 j hv,hb'.2 j hv]
  |true=>
   obtain⟨t,ht,hc,rfl⟩:=Qd (hvs j hv);obtain⟨i,hi,rfl⟩:=List.getElem_of_mem ht;have h1:=hat i aj;unfold Hc at h1;rw[arn hi]at h1;simpa[hc]using h1
 apply List.ext_getElem (by rw[hb.1,hb'.1]);intro j h1 h2;have h4:=hj j;rw[arB,arB,arn h1,arn h2]at h4;exact h4
theorem Ph{D:Bool→ByteArray→Seen}{ps:List bN}{live:Nat}{l:List (eB×Nat)}(hl: ∀p∈l,p.1.length=12): ∀p∈nv gK (kL D ps live l),zG live p.1:=by
 intro p hp;have h1:p.1∈(nv gK (kL D ps live l)).map aug:=amk.2 ⟨p,hp,rfl⟩;rw[Ry]at h1;unfold kL at h1;rw[au0]at h1;obtain⟨q,hq,hqe⟩:=amk.1 h1;have h2:=QI (hl q (auV.1 hq).1) live;rw[←hqe];exact h2
end Go.Proofs.YtkdljbnllgpfhaaGreat
end
section
namespace Go.Proofs.YtkdljbnllgpfhaaGreat
open Go Go.RowKit Go.Upr
theorem qa.low{w:aly}{m:Option Nat}{bs:List (ByteArray×Nat)}{F:ByteArray→List aS}(h:qa w m bs F){n:ByteArray}{b:Nat}(hb:au bs n=some b):b<w.heap.size:=by
 rcases h with⟨_,rfl⟩|⟨sb,_,h3⟩
 ·cases hb
 ·exact(h3.dy _ (cB hb)).lt
def Fs(s:Hs)(F0 F1 F2:ByteArray→List aS)(n:ByteArray):Seen:=(iF s.b0 F0 n,iF s.b1 F1 n,iF s.b2 F2 n)
theorem tF{w:aly}{sa sb:Hs}{F0 F1 F2 G0 G1 G2:ByteArray→List aS}(hA:mq w sa F0 F1 F2)(hB:mq w sb G0 G1 G2):iC w w.heap.size (pM sa sb) (λs n=>if s then Fs sb G0 G1 G2 n else Fs sa F0 F1 F2 n):=by
 refine⟨λs n=>?_,λs n=>?_,λs n=>?_,λs n b hb=>?_⟩
 ·cases s
  ·exact hA.s0.look n
  ·exact hB.s0.look n
 ·cases s
  ·exact hA.s1.look n
  ·exact hB.s1.look n
 ·cases s
  ·exact hA.s2.look n
  ·exact hB.s2.look n
 ·cases s
  ·rcases hb with hb|hb|hb
   ·exact hA.s0.low hb
   ·exact hA.s1.low hb
   ·exact hA.s2.low hb
  ·rcases hb with hb|hb|hb
   ·exact hB.s0.low hb
   ·exact hB.s1.low hb
   ·exact hB.s2.low hb
end Go.Proofs.YtkdljbnllgpfhaaGreat
end
section
namespace Go.Proofs.YtkdljbnllgpfhaaGreat
open Go Go.RowKit Go.Upr
theorem dZ.turn{V:Bool→ByteArray→Vw}{w w':aly}{N:Nat}{k:Hp}{jb gb:Nat}{J:Jn}{st:List (Option (List aS))}{R:Nat→kP}(h:dZ V w N k jb gb J st R)(ht:af (λ_=>False) w w'):dZ V w' N k jb gb J st R:=by
 obtain⟨h1,h2,h3,h4,⟨ha,hc,fa,fc,sa,sc,ga,gc,h5,h6⟩,h7⟩:=h;exact⟨h1.turn ht λ_ _ _ h=>h,h2,h3,h4,⟨ha,hc,fa,fc,sa,sc,ga,gc,ht.kept h5 id,h6⟩,h7.turn ht λ_ _ _ h=>h⟩
def fX(m:Option Nat)(bs:List (ByteArray×Nat)):Hs:=⟨m,none,none,bs,[],[]⟩
def dV(bs:List (ByteArray×Nat))(F:ByteArray→List aS):Bool→ByteArray→Seen:=λs n=>if s then Fs (fX none bs) F (λ_=> []) (λ_=> []) n else Fs (fX none bs) F (λ_=> []) (λ_=> []) n
def bJ(r:bQ):Jn:=ic r.head wX (r.body.map (dI false))
theorem aca{h:Hp}{w:aly}(hw:h.In w){r:bQ}{ha ba:Option alA}{hc bc:Nat}(hH:h.list 2 r_ (.slice ha r.head.ts.length hc) r.head.ts)(hB:h.list 3 xT (.slice ba r.body.length bc) r.body)(ok:gW r){m:Option Nat}{bs:List (ByteArray×Nat)}{F:ByteArray→List aS}(hL:qa w m bs F)
  (lJ: ∀xs bB,bB.length=(bJ r).steps.length→∀p∈km (dV bs F) (cD (dV bs F) (bJ r) xs) ((bJ r).steps.zip bB),∀q∈km (dV bs F) (cD (dV bs F) (bJ r) xs) ((bJ r).steps.zip bB),g_ (bJ r).head.ts p.1=g_ (bJ r).head.ts q.1→p.1=q.1):
  asP Tryz.prog 349 #[.agg #[.string r.head.n,.slice ha r.head.ts.length hc,.slice ba r.body.length bc],.map m] w λe w'=>∃hb hs xs bB,e= .returned (.map (some hb))∧w.heap.size≤hb∧av w' fq br cU hb hs∧bC [(0,0,0)] xs∧gV (dV bs F) (bJ r) xs ((bJ r).steps.map λ_=>none) bB∧
   hs.Perm ((km (dV bs F) (cD (dV bs F) (bJ r) xs) ((bJ r).steps.zip bB)).map λp=>(g_ (bJ r).head.ts p.1,p.2))∧af (λ_=>False) w w':=by
 obtain⟨W,hW⟩: ∃W,W=w.alloc (.cells #[.string r.head.n,.slice ha r.head.ts.length hc,.slice ba r.body.length bc] 318):=⟨_,rfl⟩;have bM:af (λ_=>False) w W:=by rw[hW];exact(af.refl _ _).alloc _
 have lY:W.heap[w.heap.size]? =some (.cells #[.string r.head.n,.slice ha r.head.ts.length hc,.slice ba r.body.length bc] 318):=by rw[hW];exact atp _ _
 obtain⟨a0,a1,a2,-⟩:=bI lY;have qK:=atm lY;have hsc: ∀w':aly,af (λ_=>False) W w'→mq w' (fX m bs) F (λ_=> []) (λ_=> []):=λw' ht=>⟨hL.turn (bM.trans ht) (λ_ _=>id) (λ_ _=>id),.inl ⟨rfl,rfl⟩,.inl ⟨rfl,rfl⟩⟩;have c1:=λw'=>Tt m w';have c2:=λ(w':aly) (ht:af (λ_=>False) W w')=>aeD (hw.turn (bM.trans ht) λ_ _ _ h=>h) hH hB ok (hsc w' ht);have c3:=λw'=>ajg (0,0,0) aI w';dsimp only[br]at c3;dsimp only[fX]at c2;go_enter Tryz.func349,Tryz.ntmps349;go_wp2_with (rw[←hW];clear hW);refine aG (λi=>i==2||i==3||i==5||i==6||i==7) ar ar ?_;intro S g fN gc gf gh sF;iterate 2 (refine ak ar aC aC λK hK=>?_;go_big_quiet_op;refine hK _ ?_;clear hK K)
 refine ai ar aC λQ' hQ=>?_;go_wp2_with (go_at_call 331;refine(c1 _).mono ?_;rintro e w2 ⟨rfl,aF⟩);have h2:af (λ_=>False) W w2:=(af.refl _ _).drew.trans aF;refine hQ _ _ ar (λ_=>sF _ h2.below) ?_;clear hQ Q';refine ai ar aC λQ' hQ=>?_;go_wp2_with (go_at_call 356;refine(c2 _ h2).mono ?_;rintro e w3 ⟨jb,k,rfl,bX,aij,hJ⟩);have h3:=h2.trans bX;refine hQ _ _ ar (λ_=>sF _ h3.below) ?_;clear hQ Q';refine ak ar aC aC λK hK=>?_;go_big_quiet_op;refine hK _ ?_;clear hK K;refine ai ar aC λQ' hQ=>?_;go_wp2_with (go_at_call 358;refine(c3 _).mono ?_;rintro e w4 ⟨b4,rfl,hb4,ck,NH⟩);have h4:=h3.trans ck;refine hQ _ _ ar (λ_=>sF _ h4.below) ?_;clear hQ Q';obtain⟨g5,hrun⟩:=hJ.run;have agf:=hrun.turn ck;have KV:=(tF (hsc w2 h2) (hsc w2 h2)).turn (bX.trans ck) λ_ _ h=>h;have c5:=Yt (D:=dV bs F) agf KV (bX.trans ck).size (xt ok.nE ok.ml aI (λ_ h=>nomatch h) (by rw[List.length_map];exact ok.mo) (iT ok.jl)) (o:=some b4) (ts:= [(0,0,0)]) (NH.hp) lJ;refine ai ar aC λQ' hQ=>?_;go_wp2_with (go_at_call 345;refine c5.mono ?_;rintro e w6 ⟨hb,hs,xs,bB,R',rfl,Xu,Hn,oY,_,hbg,jQ,bH,_⟩);have fD:=hrun.steps.low;have hzz:=h2.size;have h6:af (λ_=>False) W w6:=h4.bL bH λq (hq:q=g5)=> .inl aj;refine hQ _ _ ar (λ_=>sF _ h6.below) ?_;clear hQ Q';refine ai ar aC λQ' hQ=>?_;go_wp2;refine hQ _ _ ar (λ_=>sF _ h6.below) ?_;clear hQ Q';refine aQ ?_;go_wp2;go_ret;exact⟨hb,hs,xs,bB,rfl,by have:=bM.size;have:=h4.size;omega,Hn,oY,hbg,jQ,bM.trans h6⟩
end Go.Proofs.YtkdljbnllgpfhaaGreat
end
section
namespace Go.Upr
open Go Go.RowKit
def mG(w:aly)(v:aad)(Pc:aad→Prop):Prop:=∀g,v.ownBlock=some g→∃cur e fz,w.heap[g]? =some (.cells cur e fz)∧∀x∈cur.toList,Pc x
theorem mG.nil{w:aly}{Pc:aad→Prop}:mG w (.slice none 0 0) Pc:=λ_ h=>nomatch h
theorem mG.mono{w:aly}{v:aad}{Pc Pd:aad→Prop}(h:mG w v Pc)(hp: ∀x,Pc x→Pd x):mG w v Pd:=λg hg=>by
 obtain⟨cur,e,fz,h1,h2⟩:=h g hg;exact⟨cur,e,fz,h1,λx hx=>hp x (h2 x hx)⟩
theorem mG.turn{w w':aly}{v:aad}{Pc:aad→Prop}{D:Nat→Prop}(h:mG w v Pc)(ht:af D w w')(hd: ∀b,v.ownBlock=some b→¬D b):mG w' v Pc:=λg hg=>by
 obtain⟨cur,e,fz,h1,h2⟩:=h g hg;exact⟨cur,e,fz,ht.kept h1 (hd g hg),h2⟩
def Flat:aad→Bool
 | .bool _| .int .. | .string _| .pointer none| .slice none _ _| .map none| .nilFunc| .nilIface=>true
 |_=>false
def dr(N:Nat)(K:Hp)(x:aad):Prop:=Flat x=true∨∃a n c,x= .slice (some a) n c∧N≤a.block∧(K a.block).isSome=true
theorem dr.mono{N:Nat}{K K':Hp}(e:K.le K'){x:aad}(h:dr N K x):dr N K' x:=by
 rcases h with h|⟨a,n,c,h1,h2,h3⟩
 ·exact .inl h
 ·obtain⟨o,ho⟩:=Option.isSome_iff_exists.1 h3;exact .inr ⟨a,n,c,h1,h2,by rw[e _ _ ho];rfl⟩
theorem dr.list{α:Type}{N:Nat}{K:Hp}{sz:Nat}{R:Hp→List aad→α→Prop}{v:aad}{xs:List α}(H:K.list sz R v xs)(hb: ∀b,v.ownBlock=some b→N≤b):dr N K v:=by
 obtain⟨dS,_,_,_,_,h5⟩:=H;rcases h5 with⟨rfl,_⟩|⟨g,o,cap,cur,e,fz,rfl,h7,_⟩
 ·exact .inl rfl
 ·exact .inr ⟨_,_,_,rfl,hb _ rfl,by rw[h7];rfl⟩
def dX(N:Nat)(K:Hp):Prop:=∀b o,N≤b→K b=some o→∃c e fz,o= .cells c e fz∧∀x∈c.toList,dr N K x
theorem dX.start{N:Nat}{h:Hp}{w:aly}(hw:h.In w)(hN:w.heap.size≤N):dX N h:=λb o hb ho=>by have:=hw.lt ho;omega
theorem dr.low{N M:Nat}{K:Hp}{x:aad}(h:dr M K x)(hle:N≤M):dr N K x:=by
 rcases h with h|⟨a,n,c,h1,h2,h3⟩
 ·exact .inl h
 ·exact .inr ⟨a,n,c,h1,by omega,h3⟩
theorem dX.join{N M:Nat}{K K':Hp}(H:dX N K)(hx:Hp.Ext M K K')(H':dX M K')(hle:N≤M):dX N K':=by
 intro b o hb ho;rcases hx.new b o ho with h1|h1
 ·obtain⟨c,e,fz,h2,h3⟩:=H b o hb h1;exact⟨c,e,fz,h2,λx kx=>(h3 x kx).mono hx.le⟩
 ·obtain⟨c,e,fz,h2,h3⟩:=H' b o h1 ho;exact⟨c,e,fz,h2,λx kx=>(h3 x kx).low hle⟩
theorem dX.done{N:Nat}{K K':Hp}{w:aly}{v:aad}(H:dX N K)(hle:K.le K')(hw:K'.In w)(hn: ∀b o,K' b=some o→K b=some o∨v.ownBlock=some b)(hA:mG w v (dr N K)):dX N K':=by
 intro b o hb ho;rcases hn b o ho with h1|h1
 ·obtain⟨c,e,fz,h2,h3⟩:=H b o hb h1;exact⟨c,e,fz,h2,λx hx=>(h3 x hx).mono hle⟩
 ·obtain⟨c,e,fz,h2,h3⟩:=hA b h1;rw[hw b o ho]at h2;exact⟨c,e,fz,alN h2,λx hx=>(h3 x hx).mono hle⟩
theorem vq{z:Array aad}{n:Nat}{x:aad}(h:x∈(anA z n).toList):x∈z.toList:=by
 unfold anA at h;simp only[Array.toList_map,amk]at h;obtain⟨i,hi,rfl⟩:=h;simp only[Array.toList_range,atX]at hi;have hz:0<z.size:=by
  rcases Nat.eq_zero_or_pos z.size with h0|h0
  ·rw[h0]at hi;simp at hi
  ·exact h0
 have hlt:i % z.size<z.size:=Nat.mod_lt _ hz;rw[getElem!_pos z _ hlt];exact Array.getElem_mem_toList ..
theorem CY{P:alu}{w:aly}(base:Nat)(t ty e:acs)(i:TypeInfo)(z:aad)(size bytes:Nat)(ht:P.underlying t=some (.slice e))(hi:P.info? e=some i)(hz:i.zero=some z)
  (hsize:i.size=size) (hby:i.bytes=bytes) (v:aad) (n:Nat) (xs:List aad) (hown:w.ownsRow base e size v n xs)
  (a:alA) (m c:Nat) (news:List aad) (lr:m≠0) (hl:news.length=m*size) (hnews: ∀j u,news[j]? =some u→w.cell? (a.add j)=some u) (h1: ∀u∈news,u.oneCell'=true)
  (h63:n+m≤maxLen) (hbytes:(n+m)*bytes≤140737488355328) {Pc:aad→Prop} (WI: ∀x∈z.cells.toList,Pc x) (uN: ∀x∈news,Pc x) (hA:mG w v Pc):
  ∃v' w',(Builtin.append_ #[t,t] ty #[v,.slice (some a) m c]).run P w= .ok v' w'∧mG w' v' Pc:=by
 subst hsize;subst hby;have akk:n+m≤9223372036854775807:=by simp only[maxLen]at h63;omega
 rcases hown.2 with⟨rfl,rfl⟩|⟨g,cap,cur,rfl,hbg,hg,akQ,hcm,hcs,nD⟩
 ·refine⟨_,_,run_append_nil (P:=P) w t ty e i z ht hi hz a m c news hl hnews aj aj (by have hb:=hbytes;simp only[arN]at hb;omega),λg hg=>?_⟩;obtain rfl:=alN hg;refine⟨_,_,_,atp w.drew _,λx hx=>?_⟩;simp only[ap0,aqo]at hx;rcases hx with hx|hx
  ·exact uN x hx
  ·exact WI x (vq hx)
 ·obtain⟨aiR,e2,fz2,q1,q2⟩:=hA g rfl;rw[hg]at q1;obtain⟨rfl,rfl,rfl⟩:cur=aiR∧e=e2∧(0,0)=fz2:=by simpa using q1
  by_cases hroom:n+m≤cap
  ·have pg:n*i.size+news.length≤cur.size:=by rw[hl,hcs,←Nat.add_mul];exact Nat.mul_le_mul_right _ hroom
   refine⟨_,_,run_append_room (P:=P) w t ty e i ht hi g n cap cur hg a m c news hl hnews h1 hroom pg,λg' jW=>?_⟩;obtain rfl:=alN jW;refine⟨_,_,_,setRow_heap w g cur _ e _ hg,λx hx=>?_⟩;simp only[aqo]at hx;rcases hx with(hx|hx)|hx
   ·exact q2 x (ava hx)
   ·exact uN x hx
   ·exact q2 x (List.mem_of_mem_drop hx)
  ·have holds: ∀j u,xs[j]? =some u→w.cell? ((⟨g,0,none⟩:alA).add j)=some u:=hown.cells (g:=g) rfl;refine⟨_,_,run_append_grow (P:=P) w t ty e i z ht hi hz ⟨g,0,none⟩ n cap xs hown.1 holds a m c news hl hnews aj aj (growslice_fits aj hbytes),λg' jW=>?_⟩;obtain rfl:=alN jW;refine⟨_,_,_,atp w.drew _,λx hx=>?_⟩;simp only[ap0,aqo]at hx;rcases hx with(hx|hx)|hx
   ·rw[←nD]at hx;exact q2 x (ava hx)
   ·exact uN x hx
   ·exact WI x (vq hx)
theorem sr{P:alu}{w:aly}{ops:Array apy}{rest:List apy}{o:apy}{a:atu}{Q:atY→atu→aly→Prop}(hgd:o.guard=none)(s x:ang)(t:acs)
  (ho:o.op= .call {callee:= .builtin .append,args:= #[s,x],argTypes:= #[t,t]})
  (base:Nat) (e:acs) (i:TypeInfo) (z:aad) (size bytes:Nat) (ht:P.underlying t=some (.slice e)) (hi:P.info? e=some i) (hz:i.zero=some z)
  (hsize:i.size=size) (hby:i.bytes=bytes) (hzs:z.cells.size=size) (hsz:0<size) (v:aad) (n:Nat) (xs:List aad) (hs:a.eval s=v) (hown:w.ownsRow base e size v n xs)
  (ad:alA) (m c:Nat) (news:List aad) (hx:a.eval x= .slice (some ad) m c) (lr:m≠0) (hl:news.length=m*size) (hnews: ∀j u,news[j]? =some u→w.cell? (ad.add j)=some u) (h1: ∀u∈news,u.oneCell'=true)
  (h63:n+m≤maxLen) (hbytes:(n+m)*bytes≤140737488355328) (hbase:base≤w.heap.size) {Pc:aad→Prop} (WI: ∀x∈z.cells.toList,Pc x) (uN: ∀x∈news,Pc x) (hA:mG w v Pc)
  (h: ∀v' w',w'.ownsRow base e size v' (n+m) (xs++news)→w.grownBy w' v.ownBlock→(v'= .slice none 0 0↔v= .slice none 0 0∧m=0)→(v'.ownBlock=v.ownBlock∨v'.ownBlock=some w.heap.size)→mG w' v' Pc→wpList P ops Q rest (a.put o.dst v') w'):
  wpList P ops Q (o::rest) a w:=by
 refine wpList_plain hgd λK hK=>?_;obtain⟨v',w',hr,h2,h3,h4,h5⟩:=run_append_own_at (P:=P) w base t o.type e i z size bytes ht hi hz hsize hby hzs hsz v n xs hown ad m c news hl hnews h1 h63 hbytes hbase;obtain⟨v2,w2,hr2,lC⟩:=CY (P:=P) (w:=w) base t o.type e i z size bytes ht hi hz hsize hby v n xs hown ad m c news lr hl hnews h1 h63 hbytes WI uN hA;obtain⟨rfl,rfl⟩:v'=v2∧w'=w2:=by rw[hr]at hr2;simpa using hr2
 unfold Oper.wp execOp;simp only[ho,resolve,invoke,builtin,Sem.run_bind,Sem.run_pure,Result.andThen_ok,List.map_toArray,List.map_cons,List.map_nil,hs,hx,hr];exact hK _ _ (h v' w' h2 h3 h4 h5 lC)
theorem gq{α:Type}{P:alu}{ops:Array apy}{rest:List apy}{o:apy}{a:atu}{Q:atY→atu→aly→Prop}{w0:aly}{t e:acs}{size bytes:Nat}(E:eL P t e size bytes)(hgd:o.guard=none)(s x:ang)
  (ho:o.op= .call {callee:= .builtin .append,args:= #[s,x],argTypes:= #[t,t]}) {N:Nat} {R:Hp→List aad→α→Prop} {k:Hp} {v:aad} {xs:List α} (hm:aw w0 N e size R k v xs) (hs:a.eval s=v) (y:α)
  (c:Array aad) (hR:R k c.toList y) (hc:c.size=size) (h1: ∀u∈c.toList,u.oneCell'=true) {nb:Nat} (hx:a.eval x= .slice (some ⟨nb,0,none⟩) 1 1) (AL:w0.heap.size=nb) (hb:(xs.length+1)*bytes≤140737488355328) (hn:xs.length<140737488355328) (hbase:N≤w0.heap.size)
  {Pc:aad→Prop} {z:aad} (hz:((P.info? e).bind (·.zero))=some z) (WI: ∀x∈z.cells.toList,Pc x) (uN: ∀u∈c.toList,Pc u) (hA:mG w0 v Pc)
  (h: ∀g cap w',aw w' N e size R k (.slice (some ⟨g,0,none⟩) (xs.length+1) cap) (xs++ [y])→af (λb=>v.ownBlock=some b) w0 w'→(v.ownBlock=some g∨w0.heap.size≤g)→mG w' (.slice (some ⟨g,0,none⟩) (xs.length+1) cap) Pc→wpList P ops Q rest (a.put o.dst (.slice (some ⟨g,0,none⟩) (xs.length+1) cap)) w'):wpList P ops Q (o::rest) a (w0.alloc (.cells c e)):=by
 subst AL;obtain⟨ht,⟨i,z',hi,hz',hsize,hby,hzs⟩,hsz⟩:=E;obtain rfl:z'=z:=by rw[hi]at hz;simpa[hz']using hz
 replace hz:=hz';clear hz';obtain⟨m1,m2,dS,m3,m4,m5,m6⟩:=hm;refine sr hgd s x t ho N e i z' size bytes ht hi hz hsize hby hzs hsz v xs.length _ hs (m6.alloc _) ⟨w0.heap.size,0,none⟩ 1 1 c.toList hx aI (by simp[hc]) ?_ h1 (by unfold maxLen;omega) hb lq WI uN (hA.turn ((af.refl (λ_=>False) w0).alloc _) λ_ _=>id) ?_
 ·intro j u hu;have:(⟨w0.heap.size,0,none⟩:alA).add j=⟨w0.heap.size,j,none⟩:=by unfold Addr.add;split<;>simp_all
  rw[this,aqF _ w0.heap.size j c e (0,0) (atp w0 _)];simpa using hu
 ·intro v' w' h2 h3 h4 h5 hA';rcases h2.2 with⟨rfl,_⟩|⟨g,cap,cur,rfl,_⟩
  ·have:=(h4.1 rfl).2;cases this
  ·have hT:af (λb=>v.ownBlock=some b) w0 w':=((af.refl _ w0).alloc _).grown h3 λk hk=> .inr hk;refine h g cap w' ⟨m1.turn hT λb o hb=>m2 b o hb,λb o hb=>?_,dS++ [c.toList],by simp[m3],?_,?_,?_⟩ hT (h5.imp (λh=>h.symm) λh=>by have:=alN h;simp at this;show _≤g;omega) hA'
   ·rcases h5 with h5|h5
    ·rw[h5];exact m2 b o hb
    ·rw[h5];intro he;have:=alN he;have hl:=m1.lt hb;simp at this;omega
   ·intro d hd;rcases aqo.1 hd with h|h
    ·exact m4 d h
    ·rw[List.mem_singleton.1 h];simpa using hc
   ·intro i d u hd hu;rcases Nat.lt_or_ge i xs.length with hi|hi
    ·rw[List.getElem?_append_left aj]at hd hu;exact m5 i d u hd hu
    ·rw[List.getElem?_append_right aj]at hd hu;rw[m3]at hd;cases hj:i- xs.length with
     |zero=>
      rw[hj]at hd hu;simp at hd hu;subst hd hu;exact hR
     |succ j=>rw[hj]at hd;simp at hd
   ·rw[List.flatten_append,List.length_append];simpa using h2
structure lL{α:Type}(w:aly)(N e sz:Nat)(R:Hp→List aad→α→Prop)(k:Hp)(v:aad)(xs:List α):Prop extends aw w N e sz R k v xs where
 flat:mG w v (Flat ·=true)
section
variable{α:Type}{w w':aly}{N e sz:Nat}{R:Hp→List aad→α→Prop}{k:Hp}{v:aad}{xs:List α}{D:Nat→Prop}
theorem lL.nil(h:k.In w):lL w N e sz R k (.slice none 0 0) ([]:List α):=⟨.nil h,.nil⟩
theorem lL.turn(h:lL w N e sz R k v xs)(ht:af D w w')(hd: ∀b,N≤b→¬D b)(hk: ∀b o,k b=some o→¬D b):lL w' N e sz R k v xs:=⟨h.toaw.turn ht hd hk,h.flat.turn ht λb hb=>hd b (h.own b hb).1⟩
theorem lL.gB(h:lL w N e sz R k v xs)(ht:af D w w')(hd: ∀b,v.ownBlock=some b→¬D b)(hk: ∀b o,k b=some o→¬D b):lL w' N e sz R k v xs:=⟨h.toaw.gB ht hd hk,h.flat.turn ht hd⟩
theorem lL.lower{M:Nat}(h:lL w N e sz R k v xs)(hle:M≤N):lL w M e sz R k v xs:=⟨h.toaw.lower hle,h.flat⟩
end
theorem tR{α:Type}{P:alu}{ops:Array apy}{rest:List apy}{o:apy}{a:atu}{Q:atY→atu→aly→Prop}{w0:aly}{t e:acs}{size bytes:Nat}(E:eL P t e size bytes){z:aad}(hz:((P.info? e).bind (·.zero))=some z)(WI: ∀x∈z.cells.toList,Flat x=true)(hgd:o.guard=none)(s x:ang)
  (ho:o.op= .call {callee:= .builtin .append,args:= #[s,x],argTypes:= #[t,t]}) {N:Nat} {R:Hp→List aad→α→Prop} {k:Hp} {v:aad} {xs:List α} (hm:lL w0 N e size R k v xs) (hs:a.eval s=v) (y:α)
  (c:Array aad) (hR:R k c.toList y) (hc:c.size=size) (h1: ∀u∈c.toList,u.oneCell'=true) {nb:Nat} (hx:a.eval x= .slice (some ⟨nb,0,none⟩) 1 1) (AL:w0.heap.size=nb) (hb:(xs.length+1)*bytes≤140737488355328) (hn:xs.length<140737488355328) (hbase:N≤w0.heap.size) (uN: ∀u∈c.toList,Flat u=true)
  (h: ∀g cap w',lL w' N e size R k (.slice (some ⟨g,0,none⟩) (xs.length+1) cap) (xs++ [y])→af (λb=>v.ownBlock=some b) w0 w'→(v.ownBlock=some g∨w0.heap.size≤g)→wpList P ops Q rest (a.put o.dst (.slice (some ⟨g,0,none⟩) (xs.length+1) cap)) w'):wpList P ops Q (o::rest) a (w0.alloc (.cells c e)):=
 gq E hgd s x ho hm.toaw hs y c hR hc h1 hx AL hb hn hbase hz WI uN hm.flat λg cap w' q1 q2 q3 q4=>h g cap w' ⟨q1,q4⟩ q2 q3
end Go.Upr
end
section
namespace Go.Proofs.YtkdljbnllgpfhaaGreat
open Go Go.RowKit Go.Upr
theorem xj:eL Tryz.prog 313 413 2 16:= .mk' Tryz.underlying313 (z:= .agg #[.int .u64 0,.int .i64 0]) ar rfl aI
theorem Gb:((Tryz.prog.info? 413).bind (·.zero))=some (.agg #[.int .u64 0,.int .i64 0]):=by kernel_rfl
abbrev wQ:=List (ByteArray×Nat)
abbrev Hw(n:Nat):Value:= .int .i64 n
def Bt(s:List ni×wQ)(t:Tm):List ni×wQ:=
 if t.v then(match au s.2 t.t with
  |some n=>(s.1++ [⟨0,n⟩],s.2)
  |none=>(s.1++ [⟨0,s.2.length⟩],dO s.2 t.t s.2.length))
 else(s.1++ [⟨iZ t.t 8,0⟩],s.2)
def eP(f:wQ)(ts:List Tm):List ni×wQ:=ts.foldl Bt ([],f)
theorem My{f:wQ}{ts:List Tm}{k:Nat}{y:Tm}(hy:ts[k]? =some y):eP f (ts.take (k+1))=Bt (eP f (ts.take k)) y:=by
 unfold eP;rw[at8,hy,avV,at9];rfl
theorem QO(f:wQ)(ts:List Tm):(eP f ts).1.length=ts.length:=by
 have h: ∀ (ts:List Tm) s,(ts.foldl Bt s).1.length=s.1.length+ts.length:=by
  intro ts
  induction ts with
  |nil=>exact λ_=>rfl
  |cons t ts ih=>
   intro s;rw[List.foldl_cons,ih];have:(Bt s t).1.length=s.1.length+1:=by
    unfold Bt;split
    ·split<;>simp
    ·simp
   rw[this,List.length_cons];omega
 exact(h ts ([],f)).trans (arN _)
theorem aeM{h:Hp}{w:aly}(hw:h.In w){x:ByteArray}{ad:Option alA}{l c:Nat}{a:qI}(ha:kQ h [.string x,.slice ad l c] a)(hn:a.ts.length≤3)(gH: ∀t∈a.ts,bZ t.t)
  {nb:Nat} {f:wQ} (hM:av w bZ at5 Hw nb f) (AL:h nb=none):
  asP Tryz.prog 246 #[.agg #[.string x,.slice ad l c],.map (some nb)] w λe w'=>∃v,e= .returned (.agg #[.string a.n,v])∧af (·=nb) w w'∧av w' bZ at5 Hw nb (eP f a.ts).2∧aw w' w.heap.size 413 2 r_ h v (eP f a.ts).1∧mG w' v (Flat ·=true):=by
 obtain⟨v,hv,iu⟩:=ha;obtain⟨rfl,rfl⟩:x=a.n∧ .slice ad l c=v:=by simpa using hv
 obtain⟨lu,cap',hv2,hat⟩:=iu.at hw;obtain⟨rfl,rfl,rfl⟩:ad=lu∧l=a.ts.length∧c=cap':=by simpa using hv2
 clear hv2 hv;have z7: ∀b o,h b=some o→¬b=nb:=λb o hb e=>by rw[e,AL]at hb;cases hb
 have hgn: ∀g o,ad=some ⟨g,o,none⟩→¬g=nb:=by
  rintro g o rfl;obtain⟨ob,pk⟩:=iu.block;exact z7 g ob pk
 have Db:=hM.lt;obtain⟨W,hW⟩: ∃W,W=((w.alloc (.cells #[.string a.n,.slice ad a.ts.length c] 233)).alloc (.cells #[.string ⟨#[]⟩,.slice none 0 0] 315)).alloc (.cells #[.string a.n,.slice none 0 0] 315):=⟨_,rfl⟩;have bM:af (λ_=>False) w W:=by rw[hW];exact(((af.refl _ w).alloc _).alloc _).alloc _
 have lY:W.heap[w.heap.size+1]? =some (.cells #[.string ⟨#[]⟩,.slice none 0 0] 315):=by rw[hW];exact(Below.heap_alloc _ _ _ bz).trans (aR _ _ _)
 have lH:W.heap[w.heap.size+2]? =some (.cells #[.string a.n,.slice none 0 0] 315):=by
  rw[hW];have:=aR (w.alloc (.cells #[.string a.n,.slice ad a.ts.length c] 233)) (.cells #[.string ⟨#[]⟩,.slice none 0 0] 315) (.cells #[.string a.n,.slice none 0 0] 315)
  rwa [World.size_alloc]at this
 have lr:aw W (w.heap.size+3) 413 2 r_ h (.slice none 0 0) (eP f (a.ts.take 0)).1:= .nil (hw.turn bM (λ_ _ _ h=>h));have p8:=hM.turn bM id;go_enter Tryz.func246,Tryz.ntmps246;go_wp2_with (rw[←hW]);clear hW;obtain⟨B,hB⟩: ∃B,B=w.heap.size+1+1:=⟨_,rfl⟩;have Bn:B=w.heap.size+2:=hB;rw[←hB];rw[←Bn]at lH;have hBN:w.heap.size+3=B+1:=by omega
 rw[hBN]at lr;obtain⟨XC,W6⟩:w.heap.size+2≤B∧B≤w.heap.size+2:=by omega
 clear hB hBN Bn
 go_loopw [8,9,16] (λ_ _ i wr=>∃ (k:Nat) (v:aad),k≤a.ts.length∧i= .int .i64 k∧af (·=nb) w wr∧wr.heap[w.heap.size+1]? =some (.cells #[.string ⟨#[]⟩,.slice none 0 0] 315)∧wr.heap[B]? =some (.cells #[.string a.n,v] 315)∧av wr bZ at5 Hw nb (eP f (a.ts.take k)).2∧aw wr (B+1) 413 2 r_ h v (eP f (a.ts.take k)).1∧mG wr v (Flat ·=true)) (λ_ _ i _=>a.ts.length-(intOf i).toNat)
 case atStart=>exact⟨0,_,arQ _,rfl,bM.wider,lY,lH,p8,lr,.nil⟩
 case round=>
  clear lr p8 lY lH;obtain⟨k,v,hk,rfl,hT,hA,hB,hMp,hm,Sd⟩:=hrel;have hsz:=atm hB;by_cases hlt:k<a.ts.length
  ·obtain⟨y,hy⟩: ∃y,a.ts[k]? =some y:=⟨_,arn hlt⟩;obtain⟨g,o,cc,rfl,bW,rfl,ag⟩:=hat k y hy;have hgb:=hgn g o rfl;have e0:=hT.cell (ag 0 aI) hgb;have e1:=hT.cell (ag 1 aI) hgb;simp only[at6,←Nat.add_assoc]at e0 e1;have HS:at3 (eP f (a.ts.take (k+1))=Bt (eP f (a.ts.take k)) y):=My hy;have Hi:=gH y (ann hy);have jy:(eP f (a.ts.take k)).1.length≤3:=by rw[QO,as1];omega
   clear hy ag bW;generalize eP f (a.ts.take k)=s at hMp hm jy HS;obtain⟨rs,f'⟩:=s;obtain⟨yt,yv⟩:=y;obtain⟨wa,gY⟩: ∃wa,wa=wr.alloc (.cells #[.string yt,.bool yv] 331):=⟨_,rfl⟩;have gI:af (λ_=>False) wr wa:=by rw[gY];exact(af.refl _ wr).alloc _
   have hP:wa.heap[wr.heap.size]? =some (.cells #[.string yt,.bool yv] 331):=by rw[gY];exact atp _ _
   have hpl:=atm hP;have sJ:=gI.kept hB id;have hBl:=atm sJ;obtain⟨b0,b1,fb0,fb1⟩:=b9 sJ;obtain⟨p0,p1,-,-⟩:=b9 hP;have rQ:=hm.turn gI (λ_ _ h=>h) (λ_ _ _ h=>h);have Fi:=hMp.turn gI id;have o9:=Sd.turn gI λ_ _=>id;have ab1: ∀ (w6:aly) (g4 n4 lK:Nat),mG w6 (.slice (some ⟨g4,0,none⟩) n4 lK) (Flat ·=true)→B+1≤g4→mG (w6.setCell ⟨B,1,none⟩ (.slice (some ⟨g4,0,none⟩) n4 lK)) (.slice (some ⟨g4,0,none⟩) n4 lK) (Flat ·=true):=λw6 g4 n4 lK h1 h2=>h1.turn ((af.refl (·=B) w6).setCell (p:=⟨B,1,none⟩) (.inr rfl) _) λb hb=>by obtain rfl:=alN hb;show ¬g4=B;omega
   have hown:=rQ.own;dsimp only at e0 e1 Hi jy rQ Fi;have fin: ∀ (r:ni) (f2:wQ) (w5 w6:aly) (u:aad),Bt (rs,f') ⟨yt,yv⟩=(rs++ [r],f2)→af (·=nb) wa w5→av w5 bZ at5 Hw nb f2→aw w6 (B+1) 413 2 r_ h u (rs++ [r])→af (λb=>v.ownBlock=some b) w5 w6→
     af (·=nb) w (w6.setCell ⟨B,1,none⟩ u)∧(w6.setCell ⟨B,1,none⟩ u).heap[w.heap.size+1]? =some (.cells #[.string ⟨#[]⟩,.slice none 0 0] 315)∧(w6.setCell ⟨B,1,none⟩ u).heap[B]? =some (.cells #[.string a.n,u] 315)∧av (w6.setCell ⟨B,1,none⟩ u) bZ at5 Hw nb (eP f (a.ts.take (k+1))).2∧aw (w6.setCell ⟨B,1,none⟩ u) (B+1) 413 2 r_ h u (eP f (a.ts.take (k+1))).1:=by
    intro r f2 w5 w6 u h1 h2 h3 h4 h5;have ho: ∀b,v.ownBlock=some b→B+1≤b:=λb hb=>(hown b hb).1;have hD:=((hT.trans gI.wider).trans h2).bL h5 λb hb=> .inl (by have:=ho b hb;omega);have hS:=(af.refl (·=B) w6).setCell (p:=⟨B,1,none⟩) (.inr rfl) u;have hne: ∀b,b<B+1→¬v.ownBlock=some b:=λb hb he=>by have:=ho b he;omega
    rw[HS.out,h1];refine⟨hD.setCell (p:=⟨B,1,none⟩) (.inl (by show _≤B;omega)) _,hS.kept (h5.kept (h2.kept (gI.kept hA id) aj) (hne _ aj)) aj,cR (o:=1) (h5.kept (h2.kept sJ aj) (hne _ aj)) u,(h3.turn h5 (hne _ aj)).turn hS aj,h4.gB hS (λb hb=>by have:=(h4.own b hb).1;omega) λb ob hb=>by have:=hw.lt hb;omega⟩
   cases yv with
   |false=>
    go_wp2_with (rw[←gY]);clear gY;refine aG (λi=>i==4||i==6||i==7||i==8||i==9) ar ar ?_;intro S gg fN gc gf gh gb;iterate 4 (refine ak ar aC aC λK hK=>?_;go_big_quiet_op;refine hK _ ?_;clear hK K)
    refine ai ar aC λQ' hQ=>?_;go_wp2_with (go_at_call 98;refine(c98 _ _).mono ?_;rintro e w2 ⟨rfl,rfl⟩);refine hQ _ _ ar (λ_=>gb _ (af.refl _ _).drew.below) ?_;clear hQ Q';refine ak ar aC aC λK hK=>?_;go_big_quiet_op;refine hK _ ?_;clear hK K;refine ai ar aC λQ' hQ=>?_;go_wp2;refine hQ _ _ ar (λ_=>gb _ ((af.refl _ _).drew.alloc _).below) ?_;clear hQ Q';refine ai ar aC λQ' hQ=>?_;refine gq xj rfl (.tmp 24) (.tmp 29) rfl (rQ.turn (af.refl _ wa).drew (λ_ _ h=>h) (λ_ _ _ h=>h)) rfl ⟨iZ yt 8,0⟩ #[.int .u64 (iZ yt 8:Nat),.int .i64 0] rfl rfl (by simp[atv]) rfl rfl aj aj lq Gb (by simp[av2,Flat]) (by simp[Flat]) (o9.turn (af.refl (λ_=>False) wa).drew λ_ _=>id) ?_;intro g4 lK w6 gQ bH _ AR;go_wp2;refine hQ _ _ ar (aX ar) ?_;clear hQ Q';refine ai ar aC λQ' hQ=>?_;go_wp2;refine hQ _ _ ar (aX ar) ?_;clear hQ Q';obtain⟨x1,x2,x3,x4,x5⟩:=fin ⟨iZ yt 8,0⟩ f' wa.drew w6 _ rfl (af.refl _ _).drew (Fi.turn (af.refl (λ_=>False) wa).drew id) gQ bH;have wA:=bH.kept (b:=B) sJ (λhb=>by have:=(hown _ hb).1;omega);obtain⟨y0,y1,-,y3⟩:=b9 wA;have Ak:=atm wA;refine ai ar aC λQ' hQ=>?_;go_wp2;refine hQ _ _ ar (aX ar) ?_;clear hQ Q';refine aQ ?_;go_wp2;go_roundw
    case rel=>exact⟨k+1,_,by omega,by go_num,x1,x2,x3,x4,x5,ab1 _ _ _ _ AR (gQ.own _ rfl).1⟩
    case measure=>simp[intOf];omega
   |true=>
    cases hl:au f' yt with
    |some n=>
     have HN:at3 (Bt (rs,f') ⟨yt,true⟩=(rs++ [⟨0,n⟩],f')):=by show _=_;unfold Bt;rw[if_pos rfl];dsimp only;rw[hl]
     go_wp2_with (first|(rw[←gY];clear gY)|(at_lookup;refine aP cI Tryz.underlying307 wR rfl (.tmp 33) (.tmp 35) rfl rfl (aD _) Fi.hp rfl Hi hl ?_)|(at_builtin;refine gq xj rfl (.tmp 48) (.tmp 51) rfl rQ rfl ⟨0,n⟩ #[.int .u64 0,.int .i64 (n:Nat)] rfl rfl (by simp[atv]) rfl rfl aj aj aj Gb (by simp[av2,Flat]) (by simp[Flat]) o9 ?_;intro g4 lK w6 gQ bH _ AR;have wA:=bH.kept (b:=B) sJ (λhb=>by have:=(hown _ hb).1;omega);obtain⟨y0,y1,-,y3⟩:=b9 wA;have Ak:=atm wA));obtain⟨x1,x2,x3,x4,x5⟩:=fin ⟨0,n⟩ f' wa w6 _ HN.out (af.refl _ _) Fi gQ bH;go_roundw
     case rel=>exact⟨k+1,_,by omega,by go_num,x1,x2,x3,x4,x5,ab1 _ _ _ _ AR (gQ.own _ rfl).1⟩
     case measure=>simp[intOf];omega
    |none=>
     have HN:at3 (Bt (rs,f') ⟨yt,true⟩=(rs++ [⟨0,f'.length⟩],dO f' yt f'.length)):=by show _=_;unfold Bt;rw[if_pos rfl];dsimp only;rw[hl]
     have hnw: ∀b o,h b=some o→¬b=nb:=z7;go_wp2_with (first|(rw[←gY];clear gY)|(at_lookup;refine aZ cI Tryz.underlying307 wR rfl (.tmp 33) (.tmp 35) rfl rfl (aD _) Fi.hp rfl Hi hl ?_)|(at_len;refine fQ Tryz.underlying307 rfl (.tmp 41) rfl rfl Fi ?_)|(at_mapUpdate;refine bj cI Tryz.underlying307 rfl (.tmp 43) (.tmp 45) (.tmp 46) rfl rfl Fi rfl Hi f'.length rfl ?_;intro w5 bA mg;have W6:=bA.kept sJ aj;have o0:=rQ.gB bA (λb hb=>by have:=(hown b hb).1;omega) z7;obtain⟨b0',b1',-,-⟩:=b9 W6;have abK:=atm W6)|(at_builtin;refine gq xj rfl (.tmp 48) (.tmp 51) rfl o0 rfl ⟨0,f'.length⟩ #[.int .u64 0,.int .i64 (f'.length:Nat)] rfl rfl (by simp[atv]) rfl rfl aj aj aj Gb (by simp[av2,Flat]) (by simp[Flat]) (o9.turn bA (λb hb=>by have:=(hown b hb).1;omega)) ?_;intro g4 lK w6 gQ bH _ AR;have wA:=bH.kept (b:=B) W6 (λhb=>by have:=(hown _ hb).1;omega);obtain⟨y0,y1,-,y3⟩:=b9 wA;have Ak:=atm wA));obtain⟨x1,x2,x3,x4,x5⟩:=fin ⟨0,f'.length⟩ _ w5 w6 _ HN.out bA mg gQ bH;go_roundw
     case rel=>exact⟨k+1,_,by omega,by go_num,x1,x2,x3,x4,x5,ab1 _ _ _ _ AR (gQ.own _ rfl).1⟩
     case measure=>simp[intOf];omega
  ·have iQ:a.ts.take k=a.ts:=at4 aj;rw[iQ]at hm hMp;obtain⟨b0,b1,-,-⟩:=b9 hB;obtain⟨a0,a1,f0,f1⟩:=b9 hA;have qK:=atm hA;obtain⟨va,vc,rfl⟩:=hm.shape;go_wp2;refine bodyPost_ret (v:= .agg #[.string a.n,.slice va (eP f a.ts).1.length vc]) (by simp[results,Tryz.results246,go_sem,a0,a1]) rfl ?_;have hS:=((af.refl (·=w.heap.size+1) wr).setCell (p:=⟨w.heap.size+1,0,none⟩) (.inr rfl) (.string a.n)).setCell (p:=⟨w.heap.size+1,1,none⟩) (.inr rfl) (.slice va (eP f a.ts).1.length vc);exact⟨_,rfl,hT.bL hS λb (hb:b=w.heap.size+1)=> .inl aj,hMp.turn hS aj,(hm.gB hS (λb hb=>by have:=(hm.own b hb).1;omega) λb ob hb=>by have:=hw.lt hb;omega).lower aj,Sd.turn hS λb hb=>by have:=(hm.own b hb).1;omega⟩
end Go.Proofs.YtkdljbnllgpfhaaGreat
end
