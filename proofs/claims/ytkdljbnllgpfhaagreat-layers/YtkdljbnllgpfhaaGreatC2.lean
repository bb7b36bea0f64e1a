import Derived.Test.YtkdljbnllgpfhaaGreatB9
import Derived.Test.YtkdljbnllgpfhaaGreatC1
set_option maxRecDepth 100000
set_option maxHeartbeats 8000000
open Go.Code renaming region→apN,skip→aqy,cond→aqA,ret→asJ,exit→aqz,block→aqj
open Go.Conc renaming stepG_region_end→apQ,stepG_region→apR,stepG_seq→apU
open Go.Operand renaming tmp→apH
open Bool renaming and_eq_true→anh
open List renaming take_of_length_le→at4,mem_map→amk,all_eq_true→axg,drop_zero→as3,length_drop→avb,eq_nil_iff_forall_not_mem→axi,length_map→auB,extract_eq_take_drop→axj,drop_eq_nil_of_le→axk,mem_cons_of_mem→ao0,mem_cons_self→ao3,foldl_cons→auW,drop_drop→aqs,range→at0
open Go.IntKind renaming wrap_i64→ast
open Prod renaming fst→aug,snd→auw
open Nat renaming le_refl→agl,zero_le→arQ,sub_zero→axl
open Go renaming Value→aad,World→aly,heap_alloc_new→atp,Frame→aoz
open Int renaming emod_nonneg→axh,tmod_eq_emod_of_nonneg→aw7,emod_lt_of_pos→axn
open UInt8 renaming ofNat→aoq
open Array renaming replicate→aps,toList_extract→axm,length_toList→ane
open Subtype renaming val→awH
open Go.Value renaming string→at5
open ByteArray renaming size_append→axe,empty→ati
section
namespace Go.Proofs.YtkdljbnllgpfhaaGreat
open Go Go.RowKit Go.Upr Go.Conc
noncomputable abbrev afA:Array Oper:=rg Tryz.f32 0
noncomputable abbrev afz:Array Oper:=rg Tryz.f32 1
noncomputable abbrev afy:Array Oper:=rg Tryz.f32 2
noncomputable abbrev afx:Array Oper:=rg Tryz.f32 3
noncomputable abbrev afw:Array Oper:=rg Tryz.f32 4
noncomputable abbrev afv:Array Oper:=rg Tryz.f32 5
noncomputable abbrev afu:Array Oper:=rg Tryz.f32 6
noncomputable abbrev aft:Array Oper:=rg Tryz.f32 7
noncomputable abbrev afs:Array Oper:=rg Tryz.f32 8
noncomputable abbrev afr:Array Oper:=rg Tryz.f32 9
noncomputable abbrev adf:Code:=((apN 0 afA false).seq ((apN 1 afz false).seq (((apN 2 afy false).seq (aqA (apH 28) ((apN 3 afx false).seq asJ) aqy)).seq ((apN 4 afw false).seq ((apN 5 afv false).seq ((apN 6 afu false).seq ((apN 7 aft false).seq ((apN 8 afs false).seq ((apN 9 afr false).seq asJ)))))))))
abbrev tx1:ByteArray:={data:=([101,100,103,101,40,97,44,98,41,46,32,101,100,103,101,40,98,44,99,41,46,32,112,97,116,104,40,88,44,89,41,32,58,45,32,101,100,103,101,40].append [88,44,89,41,46,32,112,97,116,104,40,88,44,90,41,32,58,45,32,112,97,116,104,40,88,44,89,41,44,32,101,100,103,101,40,89,44,90,41,46]).toArray}
abbrev tx2:ByteArray:=⟨#[112,40,88,41,32,58,45,32,113,40,88,41,44,32,33,112,40,88,41,46]⟩
abbrev dp1:ByteArray:=⟨#[101,100,103,101,40,97,44,98,41,46,10,101,100,103,101,40,98,44,99,41,46,10,112,97,116,104,40,97,44,98,41,46,10,112,97,116,104,40,97,44,99,41,46,10,112,97,116,104,40,98,44,99,41,46,10]⟩
abbrev dp2:ByteArray:=⟨#[101,100,103,101,40,97,44,98,41,46,10,112,97,116,104,40,97,44,98,41,46,10]⟩
abbrev cV:ByteArray:=⟨#[101,100,103,101]⟩
abbrev cP:ByteArray:=⟨#[112,97,116,104]⟩
abbrev nA:ByteArray:=⟨#[97]⟩
abbrev nB:ByteArray:=⟨#[98]⟩
abbrev nC:ByteArray:=⟨#[99]⟩
abbrev qo:Ac:=⟨cV,[nB,nC],true⟩
structure BW(bs:dB)(F:aN)(d:ByteArray):Prop where
 ne:bs≠ []
 few:bs.length≤1024
 rel: ∀p∈bs,F p.1≠ []∧(F p.1).length≤12∧∀t∈F p.1,t.1≠0
 names: ∀p∈bs,p.1.size≤1048576
 text: ∀ (ss:List (List UInt8)) (out:List UInt8),ss.Perm (bs.map λp=>p.1.data.toList)→nK F (ss.mergeSort λx y=>decide (x≤y)) out→(⟨out.toArray⟩:ByteArray)=d
structure zD(cs:List cS)(Ls:List Lay)(sb:Nat)(bs:dB)(ps:List (LB×Lay))(K:Hp)(N:Nat):Prop where
 names:((cJ cs).map aug).Perm (bs.map aug)
 lays:ps.map auw=Ls
 jV: ∀p∈ps,p.1.1=p.2.jV
 low:sb<N∧∀p∈bs,p.2<N
 new:dX N K
 news: ∀b o,K b=some o→N≤b
 high: ∀p∈ps,N≤p.1.2
structure Su(cs:List cS)(Ls:List Lay)(R:Nat→aN→Prop)(RC:Nat→List Cg→aN→Prop):Prop where
 rd:eE tx1=(some cs,0,0)
 ld:Ld cs Ls R
 bad:eE tx2=(none,((7:Nat):Int),((0:Nat):Int))
 aaO: ∀bs F,((cJ cs).map aug).Perm (bs.map aug)→R Ls.length F→BW bs F dp1
 ap: ∀bs F,((cJ cs).map aug).Perm (bs.map aug)→R Ls.length F→Ap (cJ cs) bs F Ls.length RC qo
 carry: ∀sb bs ps K N,zD cs Ls sb bs ps K N→qF sb bs ps K N RC
 told: ∀zs F,RC Ls.length zs F→zs.length=3
 aaN: ∀bs zs F,((cJ cs).map aug).Perm (bs.map aug)→RC Ls.length zs F→BW bs F dp2
 look:au (cJ cs) cP=some (2,true)
 con: ∀s∈ [nA,nB],zF s
 okp:bZ cP
 sup: ∀sb bs ps K N zs F,zD cs Ls sb bs ps K N→RC Ls.length zs F→∃lb,au (Ks ps) cP=some (true,lb)∧∀w,K.In w→(∀p∈ps,fW w K N p.1.1 p.1.2 sb (p.2.rules.map cq))→aq w sb bs F→
  Calls Tryz.prog 326 #[.pointer (some ⟨lb,0,none⟩),.string cP,br (gC [nA,nB])] w λe w'=>e= .returned (cU 1)∧af (λ_=>False) w w'
def Yu(w:aly):Hp:=λb=>w.heap[b]?
theorem Pm(w:aly):(Yu w).In w:=λ_ _ h=>h
theorem Oz{w:aly}{b:Nat}{x y:ByteArray}(h:w.heap[b]? =some (.cells #[.string x,.string y] 9)):(Yu w).list 1 gX (.slice (some ⟨b,0,none⟩) 2 2) [x,y]:=by
 refine⟨[[.string x],[.string y]],rfl,by simp,λi c z hc hz=>?_,by simp,.inr ⟨b,0,2,_,_,_,rfl,h,λk hk=>?_⟩⟩
 ·match i,hc,hz with
  |0,hc,hz=>cases hc;cases hz;rfl
  |1,hc,hz=>cases hc;cases hz;rfl
  |i+2,hc,hz=>cases hz
 ·match k,hk with
  |0,_=>rfl
  |1,_=>rfl
  |k+2,hk=>simp at hk;omega
theorem adk{w:aly}{b b2:Nat}{x y n:ByteArray}(h:w.heap[b]? =some (.cells #[.string x,.string y] 9))(h2:w.heap[b2]? =some (.cells #[.string n,.slice (some ⟨b,0,none⟩) 2 2,.bool true] 42)):(Yu w).list 3 acm (.slice (some ⟨b2,0,none⟩) 1 1) [⟨n,[x,y],true⟩]:=by
 refine⟨[[.string n,.slice (some ⟨b,0,none⟩) 2 2,.bool true]],rfl,by simp,λi c z hc hz=>?_,by simp,.inr ⟨b2,0,1,_,_,_,rfl,h2,λk hk=>?_⟩⟩
 ·match i,hc,hz with
  |0,hc,hz=>cases hc;cases hz;exact⟨_,_,rfl,Oz h⟩
  |i+1,hc,hz=>cases hz
 ·match k,hk with
  |0,_=>rfl
  |1,_=>rfl
  |2,_=>rfl
  |k+3,hk=>simp at hk;omega
section
variable{v:aly}{e s:Nat→Option Obj}{f:Ren}{cs:List cS}{Ls:List Lay}{R:Nat→aN→Prop}{RC:Nat→List Cg→aN→Prop}
theorem ZH(S:Su cs Ls R RC):Goes Tryz.prog bG 32 #[] f v e s λu _=>u= .bool true:=by
 refine Goes.of Tryz.func32 (c:=adf) rfl λg c0' cs1 hg=>?_;have ha:(#[]:Array aad)++aps (Tryz.f32.ntmps-(#[]:Array aad).size) undef= #[undef,undef,undef,undef,undef,undef,undef,undef,undef,undef,undef,undef,undef,undef,undef,undef,undef,undef,undef,undef,undef,undef,undef,undef,undef,undef,undef,undef,undef,undef,undef,undef,undef,undef,undef,undef,undef,undef,undef,undef,undef,undef,undef,undef,undef,undef,undef,undef,undef,undef,undef,undef,undef,undef,undef,undef,undef,undef,undef,undef,undef,undef,undef,undef,undef,undef,undef,undef,undef,undef,undef,undef,undef,undef,undef,undef,undef,undef,undef,undef,undef,undef,undef,undef,undef,undef,undef,undef,undef,undef,undef,undef]:=by kernel_rfl
 rw[ha];clear ha;refine fR 60 rfl ?_;walk_nrm;refine XQ (hv:=by kernel_rfl) Tryz.func17 (#[.string tx1]) (Gp mE S.rd S.ld) λu v1 zY=>?_;obtain⟨u0,rfl,eb,nb,sb,pb,mb,bs,F,la,lc,ps,K,N,rfl,z1,z2,E,qJ,uZ,abl,hR⟩:=zY;clear z1 z2;walk_nrm;refine fR 60 rfl ?_;walk_nrm;refine cQ (.bool false) ?_;walk_nrm;refine fR 60 rfl ?_;walk_nrm;refine cQ (.bool false) ?_;walk_nrm;refine fR 60 rfl ?_;walk_nrm;refine cQ (.bool false) ?_;walk_nrm;refine fR 60 rfl ?_;walk_nrm;refine acl Tryz.func20 (#[.pointer (some ⟨eb,0,none⟩)])
  (Post:=λw u w'=>u= .string dp1∧af (λ_=>False) w w') (λT=>?_) λT T' u v2 ht hp=>?_
 ·have d:=S.aaO bs F uZ hR;refine(c20 (w:=ax v1 T) E.xY (E.store.keep λ_ _ _ _ h=>h) d.ne d.few d.rel d.names).mono ?_;rintro ex w' ⟨ss,out,rfl,k1,k2,k3⟩;exact⟨_,rfl,congrArg at5 (d.text ss out k1 k2),k3⟩
 obtain⟨rfl,hT⟩:=hp;replace E:=E.still (hT.off ht);clear hT ht;walk_nrm;refine fR 60 rfl ?_;walk_nrm;obtain⟨B,hB⟩: ∃y,y=v2.heap.size:=⟨_,rfl⟩;refine agr (.slice (some ⟨B,0,none⟩) 2 2) (.cells #[.string nB,.string nC] 9) ?_;walk_nrm;have hT:af (λ_=>False) v2 (v2.alloc (.cells #[.string nB,.string nC] 9)):=(af.refl _ _).alloc _;have hs1:(v2.alloc (.cells #[.string nB,.string nC] 9)).heap[B]? =some (.cells #[.string nB,.string nC] 9):=by rw[hB];exact atp _ _
 generalize v2.alloc (.cells #[.string nB,.string nC] 9)=v3 at hT hs1⊢;replace E:=E.still hT;clear hT hB;refine fR 60 rfl ?_;refine cQ (.agg #[.string cV,.slice (some ⟨B,0,none⟩) 2 2,.bool true]) ?_;walk_nrm;refine fR 60 rfl ?_;obtain⟨B2,hB⟩: ∃y,y=v3.heap.size:=⟨_,rfl⟩;refine agr (.slice (some ⟨B2,0,none⟩) 1 1) (.cells #[.string cV,.slice (some ⟨B,0,none⟩) 2 2,.bool true] 42) ?_;walk_nrm;have hT:af (λ_=>False) v3 (v3.alloc (.cells #[.string cV,.slice (some ⟨B,0,none⟩) 2 2,.bool true] 42)):=(af.refl _ _).alloc _;have hs2:(v3.alloc (.cells #[.string cV,.slice (some ⟨B,0,none⟩) 2 2,.bool true] 42)).heap[B2]? =some (.cells #[.string cV,.slice (some ⟨B,0,none⟩) 2 2,.bool true] 42):=by rw[hB];exact atp _ _
 generalize v3.alloc (.cells #[.string cV,.slice (some ⟨B,0,none⟩) 2 2,.bool true] 42)=v4 at hT hs2⊢;replace E:=E.still hT;replace hs1:=hT.kept hs1 id;clear hT hB;have hpl:ps.length=Ls.length:=by rw[←qJ,auB]
 have P:zD cs Ls sb bs ps K N:=⟨uZ,qJ,abl,E.low,E.new,E.news,λp hp=>(E.lays p hp).1⟩;refine XQ Tryz.func19 (#[.pointer (some ⟨eb,0,none⟩),.slice (some ⟨B2,0,none⟩) 1 1]) (ZI (x:=qo) (R:=RC) E (Pm v4) (adk hs1 hs2) (by rw[hpl];exact S.ld.lays) (by rw[hpl];exact S.ap bs F uZ hR) (S.carry _ _ _ _ _ P)) λu v5 hp5=>?_;obtain⟨ra,rc,zs,F5,rfl,qH,E5⟩:=hp5;rw[hpl]at qH;have hz3:=S.told zs F5 qH;clear E hs1 hs2 hR
 rename qN v5 eb nb sb pb mb _ bs F5 la lc ps K N=>E
 rw[hz3];walk_nrm;refine fR 60 rfl ?_;walk_nrm;obtain⟨B3,hB⟩: ∃y,y=v5.heap.size:=⟨_,rfl⟩;refine agr (.slice (some ⟨B3,0,none⟩) 2 2) (.cells #[.string nA,.string nB] 9) ?_;walk_nrm;have hT:af (λ_=>False) v5 (v5.alloc (.cells #[.string nA,.string nB] 9)):=(af.refl _ _).alloc _;have hs1:(v5.alloc (.cells #[.string nA,.string nB] 9)).heap[B3]? =some (.cells #[.string nA,.string nB] 9):=by rw[hB];exact atp _ _
 generalize v5.alloc (.cells #[.string nA,.string nB] 9)=v6 at hT hs1⊢;replace E:=E.still hT;clear hT hB;refine acl Tryz.func22 (#[.pointer (some ⟨eb,0,none⟩),.string cP,.slice (some ⟨B3,0,none⟩) 2 2])
  (Post:=λw u w'=>u= .tuple #[.int .i64 1,.int .i64 0]∧af (λ_=>False) w w') (λT=>?_) λT T' u v7 ht hp=>?_
 ·obtain⟨lb,q1,q2⟩:=S.sup sb bs ps K N zs F5 P qH;refine(c22 (h:=Yu v6) (w:=ax v6 T) (Pm v6) E.xY (E.names.same rfl) E.pipe (E.byName.same rfl) S.okp (Oz hs1) aI S.con S.look q1 (cnt:=1) aI (λw' hT=>?_)).mono ?_
  ·have E':=qN.still (v:=ax v6 T) ⟨E.xY,E.names.same rfl,E.store.keep λ_ _ _ _ h=>h,E.low,E.KR,E.KS,E.pipe,E.list,E.byName.same rfl,λp hp=>⟨(E.lays p hp).1,(E.lays p hp).2.keep (E.lays p hp).1 λ_ _ _ _ h=>h⟩,E.known,E.new,E.news,E.KQ,E.S0⟩ hT;exact q2 w' E'.known (λp hp=>(E'.lays p hp).2) E'.store
  ·rintro ex w' ⟨rfl,h1⟩;exact⟨_,rfl,rfl,h1⟩
 obtain⟨rfl,hT⟩:=hp;replace E:=E.still (hT.off ht);clear hT ht hs1;walk_nrm;refine fR 60 rfl ?_;walk_nrm;refine XQ (hv:=by kernel_rfl) Tryz.func17 (#[.string tx2]) (zP mE S.bad aI) λu v8 Xo=>?_;obtain⟨rfl,hT⟩:=Xo;replace E:=E.still hT;clear hT;walk_nrm;refine fR 60 rfl ?_;walk_nrm;refine cQ (.bool true) ?_;walk_nrm;refine fR 60 rfl ?_;walk_nrm;refine cQ (.bool true) ?_;walk_nrm;refine fR 60 rfl ?_;walk_nrm;refine cQ (.bool true) ?_;walk_nrm;refine fR 60 rfl ?_;walk_nrm;refine cQ (.int .i64 3) ?_;walk_nrm;refine fR 60 rfl ?_;refine cQ (.bool true) ?_;walk_nrm;refine fR 60 rfl ?_;walk_nrm;refine acl Tryz.func20 (#[.pointer (some ⟨eb,0,none⟩)])
  (Post:=λw u w'=>u= .string dp2∧af (λ_=>False) w w') (λT=>?_) λT T' u v9 ht hp=>?_
 ·have d:=S.aaN bs zs F5 uZ qH;refine(c20 (w:=ax v8 T) E.xY (E.store.keep λ_ _ _ _ h=>h) d.ne d.few d.rel d.names).mono ?_;rintro ex w' ⟨ss,out,rfl,k1,k2,k3⟩;exact⟨_,rfl,congrArg at5 (d.text ss out k1 k2),k3⟩
 obtain⟨rfl,hT⟩:=hp;replace E:=E.still (hT.off ht);clear hT ht;walk_nrm;refine fR 60 rfl ?_;refine cQ (.bool true) ?_;walk_nrm;refine fR 60 rfl ?_;walk_nrm;refine cQ (.bool true) ?_;walk_nrm;refine fR 60 rfl ?_;walk_nrm;refine cQ (.bool true) ?_;walk_nrm;refine fR 60 rfl ?_;walk_nrm;refine cQ (.bool true) ?_;walk_nrm;refine fR 60 rfl ?_;walk_nrm;refine cQ (.bool true) ?_;walk_nrm;refine fR 60 rfl ?_;walk_nrm;refine cQ (.bool true) ?_;walk_nrm;refine fR 60 rfl ?_;walk_nrm;exact az.leave Tryz.func32 (u:= .bool true) rfl (λw=>by simp[results,go_sem,Tryz.f32]) rfl (Ren.le_refl _)
end
end Go.Proofs.YtkdljbnllgpfhaaGreat
end
section
namespace Go.Proofs.YtkdljbnllgpfhaaGreat
open Go Go.RowKit Go.Upr
theorem c33(i:Nat)(hi:i<10)(w:aly):Calls Tryz.prog 33 #[.int .i64 (i:Nat)] w λe w'=>e= .returned (.string ⟨#[aoq (48+i)]⟩)∧af (λ_=>False) w w':=by
 have hb:((aoq (48+i)).toNat:Int)=48+(i:Int):=by
  rw[UInt8.toNat_ofNat',Nat.mod_eq_of_lt aj];omega
 obtain⟨b,R4⟩: ∃b,b=aoq (48+i):=⟨_,rfl⟩;rw[←R4]at hb⊢;have h1:(i:Int).tmod 10=i:=by rw[aw7 aj];omega
 have hcv:=run_convert_bytes_back (P:=Tryz.prog) (w.alloc (.cells #[.int .u8 (48+(i:Int))] 5)) 131 9 5 ⟨w.heap.size,0,none⟩ 1 [b] Tryz.underlying131 Tryz.underlying5 Tryz.underlying9 (λj hj=>by
  obtain rfl:j=0:=by simpa using hj
  rw[Addr.add_lit,Nat.zero_add];refine(cell_of_row _ w.heap.size 0 _ 5 (0,0) (atp _ _)).trans ?_;show some _=some _;rw[show([b]:List UInt8)[0]=b from rfl,hb]
  rfl)
 have ik:IntKind.u8.wrap (48+(i:Int))=48+(i:Int):=by simp[IntKind.wrap,IntKind.bits,IntKind.signed];omega
 rw[List.length_singleton]at hcv;clear R4;go_enter Tryz.func33,Tryz.ntmps33;go_wp2;go_ret;exact⟨rfl,(af.refl _ w).alloc _⟩
end Go.Proofs.YtkdljbnllgpfhaaGreat
end
section
namespace Go.Proofs.YtkdljbnllgpfhaaGreat
open Go Go.RowKit Go.Upr Go.Conc
noncomputable abbrev afT:Array Oper:=rg Tryz.f11 0
noncomputable abbrev afS:Array Oper:=rg Tryz.f11 1
noncomputable abbrev afR:Array Oper:=rg Tryz.f11 2
noncomputable abbrev afQ:Array Oper:=rg Tryz.f11 3
noncomputable abbrev afP:Array Oper:=rg Tryz.f11 4
noncomputable abbrev afO:Array Oper:=rg Tryz.f11 5
noncomputable abbrev aaq:Array Oper:=rg Tryz.f11 6
noncomputable abbrev aap:Array Oper:=rg Tryz.f11 7
noncomputable abbrev aao:Array Oper:=rg Tryz.f11 8
noncomputable abbrev LD:Array Oper:=rg Tryz.f11 9
noncomputable abbrev LC:Array Oper:=rg Tryz.f11 10
noncomputable abbrev LA:Array Oper:=rg Tryz.f11 11
noncomputable abbrev Lz:Array Oper:=rg Tryz.f11 12
noncomputable abbrev FQ:Array Oper:=rg Tryz.f11 13
noncomputable abbrev NU:Array Oper:=rg Tryz.f11 14
noncomputable abbrev Ug:Array Oper:=rg Tryz.f11 15
noncomputable abbrev Uf:Array Oper:=rg Tryz.f11 16
noncomputable abbrev Ue:Array Oper:=rg Tryz.f11 17
noncomputable abbrev Ud:Array Oper:=rg Tryz.f11 18
noncomputable abbrev UB:Code:=((apN 0 afT false).seq ((apN 1 afS false).seq ((apN 2 afR false).seq ((apN 3 afQ false).seq ((apN 4 afP false).seq (((apN 5 afO false).seq (aqj 0 (((apN 6 aaq false).seq (aqA (apH 23) aqy (aqz 0))).seq ((aqj 1 ((apN 8 aap false).seq (((apN 9 aao false).seq (aqA (apH 37) (aqz 0) aqy)).seq ((apN 10 LD false).seq (((apN 11 LC false).seq (aqA (apH 41) ((apN 12 LA false).seq (apN 13 Lz false)) aqy)).seq (apN 14 FQ false)))))).seq (apN 7 NU false))).loop)).seq ((apN 15 Ug false).seq (((apN 16 Uf false).seq (aqA (apH 64) ((apN 17 Ue false).seq asJ) aqy)).seq ((apN 18 Ud false).seq asJ)))))))))
noncomputable abbrev ql:Code:=(((apN 6 aaq false).seq (aqA (apH 23) aqy (aqz 0))).seq ((aqj 1 ((apN 8 aap false).seq (((apN 9 aao false).seq (aqA (apH 37) (aqz 0) aqy)).seq ((apN 10 LD false).seq (((apN 11 LC false).seq (aqA (apH 41) ((apN 12 LA false).seq (apN 13 Lz false)) aqy)).seq (apN 14 FQ false)))))).seq (apN 7 NU false)))
noncomputable abbrev kp:Code:=((apN 15 Ug false).seq (((apN 16 Uf false).seq (aqA (apH 64) ((apN 17 Ue false).seq asJ) aqy)).seq ((apN 18 Ud false).seq asJ)))
noncomputable abbrev agE:Code:=((apN 10 LD false).seq (((apN 11 LC false).seq (aqA (apH 41) ((apN 12 LA false).seq (apN 13 Lz false)) aqy)).seq (apN 14 FQ false)))
def dg(i:Nat):ByteArray:=⟨#[aoq (48+i)]⟩
def D3(n:Nat)(s ng:ByteArray)(i:Nat):ByteArray:=s++⟨#[112]⟩++dg i++⟨#[40,88,41,32,58,45,32,100,40,88,41,44,32]⟩++ng++⟨#[112]⟩++dg ((i+1) % n)++⟨#[40,88,41,46,32]⟩
def Lu(n a:Nat)(st:ByteArray×Bool)(i:Nat):ByteArray×Bool:=(D3 n st.1 (if a=i then⟨#[33]⟩else⟨#[]⟩) i,st.2||decide (a=i))
def jK(n a c:Nat):ByteArray×Bool:=(at0 c).foldl (Lu n a) (⟨#[]⟩,false)
theorem vS(n a c:Nat):jK n a (c+1)=Lu n a (jK n a c) c:=by simp[jK,List.range_succ]
theorem OC{ρ:Operand→aad}{i n:Nat}{w:aly}(hn:0<n)(h27:ρ (.tmp 27)= .int .i64 ((i+1:Nat):Int))(h28:ρ (.tmp 28)= .int .i64 (n:Nat)){o:Oper}(ho:o.op= .binOp .rem 3 (.tmp 27) (.tmp 28) 3):(execOp ρ o).run Tryz.prog w= .ok (.value (.int .i64 (((i+1) % n:Nat):Int))) w:=by
 obtain⟨dst,op,ty,pos,after,guard⟩:=o;dsimp only at ho;subst ho;simp[go_sem,h27,h28];rw[if_neg aj,aw7 aj]
theorem iB(i:Nat):(dg i).size=1:=rfl
section
variable{v:aly}{e s0:Nat→Option Obj}{f:Ren}{Q:bF→aoz→List aoz→Prop}{cs1:List aoz}{ci cj q:Int}{ring nt:Bool}{n a i:Nat}{s:ByteArray}
theorem OS{ng:ByteArray}(hn:n≤7)(hi:i<n)(hs:s.size≤1000)(hg:ng.size≤1)(H: ∀v1 p9 pJ oX oW oV oU oT oQ oP oO oN oM oL oK oJ oI oH oG oF oD oC oB oA oz oy ox ov ou ot oq oh og od n_ n9 nZ,af (λ_=>False) v v1→az Tryz.prog bG Q f v1 e s0 (base 11) ⟨#[.int .i64 ci,.bool ring,.int .i64 cj,undef,undef,undef,.bool false,.bool true,.int .i64 (n:Nat),.string (D3 n s ng i),.bool nt,.int .i64 ((i+1:Nat):Int),p9,pJ,undef,undef,undef,.bool true,.int .i64 ci,.int .i64 q,.int .i64 (n:Nat),oX,oW,oV,oU,oT,oQ,oP,oO,oN,oM,oL,oK,oJ,oI,oH,oG,oF,oD,oC,oB,oA,oz,oy,ox,ov,ou,ot,oq,oh,og,od,n_,n9,nZ,undef,undef,undef,undef,undef,undef,undef,undef,undef,undef,undef,undef,undef,undef,undef,undef,undef,undef,undef,undef,undef,undef,undef,undef,undef,undef,undef,undef,undef,undef,undef,undef,undef,undef,undef,undef],[]⟩ [.inLoop ql,.inBlock 0,.code kp] cs1)(oX oW oV oU oT oQ oP oO oN oM oL oK oJ oI oH oG oF oD oC oB oA oz oy ox ov ou ot oq oh og od n_ n9 nZ:aad):az Tryz.prog bG Q f v e s0 (base 11) ⟨#[.int .i64 ci,.bool ring,.int .i64 cj,undef,undef,undef,.bool false,.bool true,.int .i64 (n:Nat),.string s,.bool nt,.int .i64 (i:Nat),.int .i64 (((i+1) % n:Nat):Int),.string ng,undef,undef,undef,.bool true,.int .i64 ci,.int .i64 q,.int .i64 (n:Nat),oX,oW,oV,oU,oT,oQ,oP,oO,oN,oM,oL,oK,oJ,oI,oH,oG,oF,oD,oC,oB,oA,oz,oy,ox,ov,ou,ot,oq,oh,og,od,n_,n9,nZ,undef,undef,undef,undef,undef,undef,undef,undef,undef,undef,undef,undef,undef,undef,undef,undef,undef,undef,undef,undef,undef,undef,undef,undef,undef,undef,undef,undef,undef,undef,undef,undef,undef,undef,undef,undef],[]⟩ [.code (.region 14 FQ false),.inBlock 1,.code (.region 7 NU false),.inLoop ql,.inBlock 0,.code kp] cs1:=by
 refine fR 4 rfl ?_;walk_nrm;refine cQ (.string (s++⟨#[112]⟩)) ?_ (hl:=λT=>by simp[go_sem]; (try rw[iB]); (try rw[iB]);omega);walk_nrm;refine fR 1 rfl ?_;walk_nrm;refine acl Tryz.func33 (#[.int .i64 (i:Nat)])
  (Post:=λw u w'=>u= .string (dg (i))∧af (λ_=>False) w w') (λT=>?_) λT T' u v1 ht hp=>?_
 ·refine(c33 (i) aj (ax v T)).mono ?_;rintro ex w' ⟨rfl,h1⟩;exact⟨_,rfl,rfl,h1⟩
 obtain⟨rfl,h1⟩:=hp;replace h1:=h1.off ht;clear ht;walk_nrm;refine fR 5 rfl ?_;refine cQ (.string (s++⟨#[112]⟩++dg i)) ?_ (hl:=λT=>by simp[go_sem]; (try rw[iB]); (try rw[iB]);omega);walk_nrm;refine fR 4 rfl ?_;refine cQ (.string (s++⟨#[112]⟩++dg i++⟨#[40,88,41,32,58,45,32,100,40,88,41,44,32]⟩)) ?_ (hl:=λT=>by simp[go_sem]; (try rw[iB]); (try rw[iB]);omega);walk_nrm;refine fR 3 rfl ?_;walk_nrm;refine cQ (.string (s++⟨#[112]⟩++dg i++⟨#[40,88,41,32,58,45,32,100,40,88,41,44,32]⟩++ng)) ?_ (hl:=λT=>by simp[go_sem]; (try rw[iB]); (try rw[iB]);omega);walk_nrm;refine fR 1 rfl ?_;refine cQ (.string (s++⟨#[112]⟩++dg i++⟨#[40,88,41,32,58,45,32,100,40,88,41,44,32]⟩++ng++⟨#[112]⟩)) ?_ (hl:=λT=>by simp[go_sem]; (try rw[iB]); (try rw[iB]);omega);walk_nrm;have hm:(i+1) % n<10:=by have:=Nat.mod_lt (i+1) (show 0<n by omega);omega
 refine fR 1 rfl ?_;walk_nrm;refine acl Tryz.func33 (#[.int .i64 ((i+1) % n:Nat)])
  (Post:=λw u w'=>u= .string (dg ((i+1) % n))∧af (λ_=>False) w w') (λT=>?_) λT T' u v2 ht hp=>?_
 ·refine(c33 ((i+1) % n) aj (ax v1 T)).mono ?_;rintro ex w' ⟨rfl,h1⟩;exact⟨_,rfl,rfl,h1⟩
 obtain⟨rfl,h2⟩:=hp;replace h2:=h2.off ht;clear ht;walk_nrm;refine fR 9 rfl ?_;refine cQ (.string (s++⟨#[112]⟩++dg i++⟨#[40,88,41,32,58,45,32,100,40,88,41,44,32]⟩++ng++⟨#[112]⟩++dg ((i+1) % n))) ?_ (hl:=λT=>by simp[go_sem]; (try rw[iB]); (try rw[iB]);omega);walk_nrm;refine fR 8 rfl ?_;refine cQ (.string (s++⟨#[112]⟩++dg i++⟨#[40,88,41,32,58,45,32,100,40,88,41,44,32]⟩++ng++⟨#[112]⟩++dg ((i+1) % n)++⟨#[40,88,41,46,32]⟩)) ?_ (hl:=λT=>by simp[go_sem]; (try rw[iB]); (try rw[iB]);omega);walk_nrm;refine fR 7 rfl ?_;walk_nrm;refine cQ (.int .i64 ((i+1:Nat):Int)) ?_ (hl:=λT=>by simp[go_sem];rw[ast];omega);walk_nrm;refine fR 1 rfl ?_;walk_nrm;exact az.ctl (λa w=>apQ) (H v2 _ _ _ _ _ _ _ _ _ _ _ _ _ _ _ _ _ _ _ _ _ _ _ _ _ _ _ _ _ _ _ _ _ _ _ _ (h1.trans h2))
theorem OQ(hn:n≤7)(hi:i<n)(hs:s.size≤1000)(hp:uV cj 9=(a:Int))(hc1: -9223372036854775808≤cj)(hc2:cj≤9223372036854775807)(H: ∀v1 p9 pJ oX oW oV oU oT oQ oP oO oN oM oL oK oJ oI oH oG oF oD oC oB oA oz oy ox ov ou ot oq oh og od n_ n9 nZ,af (λ_=>False) v v1→az Tryz.prog bG Q f v1 e s0 (base 11) ⟨#[.int .i64 ci,.bool ring,.int .i64 cj,undef,undef,undef,.bool false,.bool true,.int .i64 (n:Nat),.string (D3 n s (if a=i then⟨#[33]⟩else⟨#[]⟩) i),.bool (nt||decide (a=i)),.int .i64 ((i+1:Nat):Int),p9,pJ,undef,undef,undef,.bool true,.int .i64 ci,.int .i64 q,.int .i64 (n:Nat),oX,oW,oV,oU,oT,oQ,oP,oO,oN,oM,oL,oK,oJ,oI,oH,oG,oF,oD,oC,oB,oA,oz,oy,ox,ov,ou,ot,oq,oh,og,od,n_,n9,nZ,undef,undef,undef,undef,undef,undef,undef,undef,undef,undef,undef,undef,undef,undef,undef,undef,undef,undef,undef,undef,undef,undef,undef,undef,undef,undef,undef,undef,undef,undef,undef,undef,undef,undef,undef,undef],[]⟩ [.inLoop ql,.inBlock 0,.code kp] cs1)(pJ oX oW oV oU oT oQ oP oO oN oM oL oK oJ oI oH oG oF oD oC oB oA oz oy ox ov ou ot oq oh og od n_ n9 nZ:aad):az Tryz.prog bG Q f v e s0 (base 11) ⟨#[.int .i64 ci,.bool ring,.int .i64 cj,undef,undef,undef,.bool false,.bool true,.int .i64 (n:Nat),.string s,.bool nt,.int .i64 (i:Nat),.int .i64 (((i+1) % n:Nat):Int),pJ,undef,undef,undef,.bool true,.int .i64 ci,.int .i64 q,.int .i64 (n:Nat),oX,oW,oV,oU,oT,oQ,oP,oO,oN,oM,oL,oK,oJ,oI,oH,oG,oF,oD,oC,oB,oA,oz,oy,ox,ov,ou,ot,oq,oh,og,od,n_,n9,nZ,undef,undef,undef,undef,undef,undef,undef,undef,undef,undef,undef,undef,undef,undef,undef,undef,undef,undef,undef,undef,undef,undef,undef,undef,undef,undef,undef,undef,undef,undef,undef,undef,undef,undef,undef,undef],[]⟩ [.code agE,.inBlock 1,.code (.region 7 NU false),.inLoop ql,.inBlock 0,.code kp] cs1:=by
 refine fR 8 rfl ?_;walk_nrm;refine acl Tryz.func31 (#[.int .i64 cj,.int .i64 ((9:Nat):Int)])
  (Post:=λw u w'=>u= .int .i64 (a:Nat)∧af (λ_=>False) w w') (λT=>?_) λT T' u v1 ht zY=>?_
 ·refine(c31 cj 9 hc1 hc2 aI aI (ax v T)).mono ?_;rintro ex w' ⟨rfl,rfl⟩;exact⟨_,rfl,by rw[hp],af.refl _ _⟩
 obtain⟨rfl,h1⟩:=zY;replace h1:=h1.off ht;clear ht hp;walk_nrm;refine fR 1 rfl ?_;walk_nrm;by_cases hai:a=i
 ·refine cQ (.bool true) ?_ (hl:=λT=>by simp[go_sem,hai]);walk_nrm;refine fR 9 rfl ?_;walk_nrm;rw[if_pos hai,decide_eq_true hai,Bool.or_true]at H;exact OS hn hi hs aI (λv2 p9 pJ oX oW oV oU oT oQ oP oO oN oM oL oK oJ oI oH oG oF oD oC oB oA oz oy ox ov ou ot oq oh og od n_ n9 nZ h2=>H v2 p9 pJ oX oW oV oU oT oQ oP oO oN oM oL oK oJ oI oH oG oF oD oC oB oA oz oy ox ov ou ot oq oh og od n_ n9 nZ (h1.trans h2)) _ _ _ _ _ _ _ _ _ _ _ _ _ _ _ _ _ _ _ _ _ _ _ _ _ _ _ _ _ _ _ _ _ _
 ·refine cQ (.bool false) ?_ (hl:=λT=>by simp[go_sem];omega);walk_nrm;refine fR 3 rfl ?_;rw[if_neg hai,decide_eq_false hai,Bool.or_false]at H;exact OS hn hi hs aI (λv2 p9 pJ oX oW oV oU oT oQ oP oO oN oM oL oK oJ oI oH oG oF oD oC oB oA oz oy ox ov ou ot oq oh og od n_ n9 nZ h2=>H v2 p9 pJ oX oW oV oU oT oQ oP oO oN oM oL oK oJ oI oH oG oF oD oC oB oA oz oy ox ov ou ot oq oh og od n_ n9 nZ (h1.trans h2)) _ _ _ _ _ _ _ _ _ _ _ _ _ _ _ _ _ _ _ _ _ _ _ _ _ _ _ _ _ _ _ _ _ _
theorem Zv(hi:i=n)(H: ∀p9 pJ oX oW oV oU oT oQ oP oO oN oM oL oK oJ oI oH oG oF oD oC oB oA oz oy ox ov ou ot oq oh og od n_ n9 nZ,az Tryz.prog bG Q f v e s0 (base 11) ⟨#[.int .i64 ci,.bool ring,.int .i64 cj,undef,undef,undef,.bool false,.bool true,.int .i64 (n:Nat),.string s,.bool nt,.int .i64 (i:Nat),p9,pJ,undef,undef,undef,.bool true,.int .i64 ci,.int .i64 q,.int .i64 (n:Nat),oX,oW,oV,oU,oT,oQ,oP,oO,oN,oM,oL,oK,oJ,oI,oH,oG,oF,oD,oC,oB,oA,oz,oy,ox,ov,ou,ot,oq,oh,og,od,n_,n9,nZ,undef,undef,undef,undef,undef,undef,undef,undef,undef,undef,undef,undef,undef,undef,undef,undef,undef,undef,undef,undef,undef,undef,undef,undef,undef,undef,undef,undef,undef,undef,undef,undef,undef,undef,undef,undef],[]⟩ [.code kp] cs1)(p9 pJ oX oW oV oU oT oQ oP oO oN oM oL oK oJ oI oH oG oF oD oC oB oA oz oy ox ov ou ot oq oh og od n_ n9 nZ:aad):az Tryz.prog bG Q f v e s0 (base 11) ⟨#[.int .i64 ci,.bool ring,.int .i64 cj,undef,undef,undef,.bool false,.bool true,.int .i64 (n:Nat),.string s,.bool nt,.int .i64 (i:Nat),p9,pJ,undef,undef,undef,.bool true,.int .i64 ci,.int .i64 q,.int .i64 (n:Nat),oX,oW,oV,oU,oT,oQ,oP,oO,oN,oM,oL,oK,oJ,oI,oH,oG,oF,oD,oC,oB,oA,oz,oy,ox,ov,ou,ot,oq,oh,og,od,n_,n9,nZ,undef,undef,undef,undef,undef,undef,undef,undef,undef,undef,undef,undef,undef,undef,undef,undef,undef,undef,undef,undef,undef,undef,undef,undef,undef,undef,undef,undef,undef,undef,undef,undef,undef,undef,undef,undef],[]⟩ [.code ql,.inLoop ql,.inBlock 0,.code kp] cs1:=by
 refine fR 9 rfl ?_;walk_nrm;refine cQ (.bool false) ?_ (hl:=λT=>by simp[go_sem];omega);walk_nrm;refine fR 3 rfl ?_;exact H _ _ _ _ _ _ _ _ _ _ _ _ _ _ _ _ _ _ _ _ _ _ _ _ _ _ _ _ _ _ _ _ _ _ _ _
theorem Zw(hi:i+1=n)(hn:n≤7)(hr:ring=false)(H: ∀p9 pJ oX oW oV oU oT oQ oP oO oN oM oL oK oJ oI oH oG oF oD oC oB oA oz oy ox ov ou ot oq oh og od n_ n9 nZ,az Tryz.prog bG Q f v e s0 (base 11) ⟨#[.int .i64 ci,.bool ring,.int .i64 cj,undef,undef,undef,.bool false,.bool true,.int .i64 (n:Nat),.string s,.bool nt,.int .i64 (i:Nat),p9,pJ,undef,undef,undef,.bool true,.int .i64 ci,.int .i64 q,.int .i64 (n:Nat),oX,oW,oV,oU,oT,oQ,oP,oO,oN,oM,oL,oK,oJ,oI,oH,oG,oF,oD,oC,oB,oA,oz,oy,ox,ov,ou,ot,oq,oh,og,od,n_,n9,nZ,undef,undef,undef,undef,undef,undef,undef,undef,undef,undef,undef,undef,undef,undef,undef,undef,undef,undef,undef,undef,undef,undef,undef,undef,undef,undef,undef,undef,undef,undef,undef,undef,undef,undef,undef,undef],[]⟩ [.code kp] cs1)(p9 pJ oX oW oV oU oT oQ oP oO oN oM oL oK oJ oI oH oG oF oD oC oB oA oz oy ox ov ou ot oq oh og od n_ n9 nZ:aad):az Tryz.prog bG Q f v e s0 (base 11) ⟨#[.int .i64 ci,.bool ring,.int .i64 cj,undef,undef,undef,.bool false,.bool true,.int .i64 (n:Nat),.string s,.bool nt,.int .i64 (i:Nat),p9,pJ,undef,undef,undef,.bool true,.int .i64 ci,.int .i64 q,.int .i64 (n:Nat),oX,oW,oV,oU,oT,oQ,oP,oO,oN,oM,oL,oK,oJ,oI,oH,oG,oF,oD,oC,oB,oA,oz,oy,ox,ov,ou,ot,oq,oh,og,od,n_,n9,nZ,undef,undef,undef,undef,undef,undef,undef,undef,undef,undef,undef,undef,undef,undef,undef,undef,undef,undef,undef,undef,undef,undef,undef,undef,undef,undef,undef,undef,undef,undef,undef,undef,undef,undef,undef,undef],[]⟩ [.code ql,.inLoop ql,.inBlock 0,.code kp] cs1:=by
 subst hr;refine fR 33 rfl ?_;walk_nrm;refine cQ (.bool true) ?_ (hl:=λT=>by simp[go_sem];omega);walk_nrm;refine fR 27 rfl ?_;walk_nrm;refine cQ (.int .i64 ((i+1:Nat):Int)) ?_ (hl:=λT=>by simp[go_sem];rw[ast];omega);walk_nrm;refine fR 18 rfl ?_;walk_nrm;refine cQ (.int .i64 (((i+1) % n:Nat):Int)) ?_ (hl:=λT=>by exact OC aj rfl rfl rfl);walk_nrm;refine fR 16 rfl ?_;walk_nrm;refine cQ (.int .i64 ((i+1:Nat):Int)) ?_ (hl:=λT=>by simp[go_sem];rw[ast];omega);walk_nrm;refine fR 9 rfl ?_;walk_nrm;refine cQ (.bool true) ?_ (hl:=λT=>by simp[go_sem];omega);walk_nrm;refine fR 7 rfl ?_;walk_nrm;refine cQ (.bool true) ?_;walk_nrm;refine fR 4 rfl ?_;walk_nrm;exact H _ _ _ _ _ _ _ _ _ _ _ _ _ _ _ _ _ _ _ _ _ _ _ _ _ _ _ _ _ _ _ _ _ _ _ _
theorem VK(hn:n≤7)(hi:i<n)(hs:s.size≤1000)(hp:uV cj 9=(a:Int))(hc1: -9223372036854775808≤cj)(hc2:cj≤9223372036854775807)(hir:i+1<n∨ring=true)(H: ∀v1 p9 pJ oX oW oV oU oT oQ oP oO oN oM oL oK oJ oI oH oG oF oD oC oB oA oz oy ox ov ou ot oq oh og od n_ n9 nZ,af (λ_=>False) v v1→az Tryz.prog bG Q f v1 e s0 (base 11) ⟨#[.int .i64 ci,.bool ring,.int .i64 cj,undef,undef,undef,.bool false,.bool true,.int .i64 (n:Nat),.string (D3 n s (if a=i then⟨#[33]⟩else⟨#[]⟩) i),.bool (nt||decide (a=i)),.int .i64 ((i+1:Nat):Int),p9,pJ,undef,undef,undef,.bool true,.int .i64 ci,.int .i64 q,.int .i64 (n:Nat),oX,oW,oV,oU,oT,oQ,oP,oO,oN,oM,oL,oK,oJ,oI,oH,oG,oF,oD,oC,oB,oA,oz,oy,ox,ov,ou,ot,oq,oh,og,od,n_,n9,nZ,undef,undef,undef,undef,undef,undef,undef,undef,undef,undef,undef,undef,undef,undef,undef,undef,undef,undef,undef,undef,undef,undef,undef,undef,undef,undef,undef,undef,undef,undef,undef,undef,undef,undef,undef,undef],[]⟩ [.inLoop ql,.inBlock 0,.code kp] cs1)(p9 pJ oX oW oV oU oT oQ oP oO oN oM oL oK oJ oI oH oG oF oD oC oB oA oz oy ox ov ou ot oq oh og od n_ n9 nZ:aad):az Tryz.prog bG Q f v e s0 (base 11) ⟨#[.int .i64 ci,.bool ring,.int .i64 cj,undef,undef,undef,.bool false,.bool true,.int .i64 (n:Nat),.string s,.bool nt,.int .i64 (i:Nat),p9,pJ,undef,undef,undef,.bool true,.int .i64 ci,.int .i64 q,.int .i64 (n:Nat),oX,oW,oV,oU,oT,oQ,oP,oO,oN,oM,oL,oK,oJ,oI,oH,oG,oF,oD,oC,oB,oA,oz,oy,ox,ov,ou,ot,oq,oh,og,od,n_,n9,nZ,undef,undef,undef,undef,undef,undef,undef,undef,undef,undef,undef,undef,undef,undef,undef,undef,undef,undef,undef,undef,undef,undef,undef,undef,undef,undef,undef,undef,undef,undef,undef,undef,undef,undef,undef,undef],[]⟩ [.code ql,.inLoop ql,.inBlock 0,.code kp] cs1:=by
 refine fR 25 rfl ?_;walk_nrm;refine cQ (.bool true) ?_ (hl:=λT=>by simp[go_sem];omega);walk_nrm;refine fR 19 rfl ?_;walk_nrm;refine cQ (.int .i64 ((i+1:Nat):Int)) ?_ (hl:=λT=>by simp[go_sem];rw[ast];omega);walk_nrm;refine fR 10 rfl ?_;walk_nrm;refine cQ (.int .i64 (((i+1) % n:Nat):Int)) ?_ (hl:=λT=>by exact OC aj rfl rfl rfl);walk_nrm;refine fR 8 rfl ?_;walk_nrm;refine cQ (.int .i64 ((i+1:Nat):Int)) ?_ (hl:=λT=>by simp[go_sem];rw[ast];omega);walk_nrm;refine fR 1 rfl ?_;walk_nrm;by_cases dC:i+1=n
 ·have hr:ring=true:=hir.resolve_left aj;subst hr;refine fR 8 rfl ?_;refine cQ (.bool true) ?_ (hl:=λT=>by simp[go_sem];omega);walk_nrm;refine fR 7 rfl ?_;walk_nrm;refine cQ (.bool false) ?_;walk_nrm;refine fR 4 rfl ?_;walk_nrm;exact OQ hn hi hs hp hc1 hc2 H _ _ _ _ _ _ _ _ _ _ _ _ _ _ _ _ _ _ _ _ _ _ _ _ _ _ _ _ _ _ _ _ _ _ _
 ·refine cQ (.bool false) ?_ (hl:=λT=>by simp[go_sem];omega);walk_nrm;refine fR 1 rfl ?_;walk_nrm;refine ask ?_;walk_nrm;refine ask ?_;walk_nrm;refine fR 4 rfl ?_;walk_nrm;exact OQ hn hi hs hp hc1 hc2 H _ _ _ _ _ _ _ _ _ _ _ _ _ _ _ _ _ _ _ _ _ _ _ _ _ _ _ _ _ _ _ _ _ _ _
end
end Go.Proofs.YtkdljbnllgpfhaaGreat
end
section
namespace Go.Proofs.YtkdljbnllgpfhaaGreat
open Go Go.RowKit Go.Upr Go.Conc
theorem Cv(n a i:Nat):(jK n a i).1.size≤23*i:=by
 induction i with
 |zero=>exact agl _
 |succ i ih=>
  rw[vS];unfold Lu D3;simp only[axe,iB];have h:(if a=i then(⟨#[33]⟩:ByteArray)else⟨#[]⟩).size≤1:=by split<;>decide
  have h1:(⟨#[112]⟩:ByteArray).size=1:=rfl;have h2:(⟨#[40,88,41,32,58,45,32,100,40,88,41,44,32]⟩:ByteArray).size=13:=rfl;have h3:(⟨#[40,88,41,46,32]⟩:ByteArray).size=5:=rfl;omega
section
variable{v:aly}{e s0:Nat→Option Obj}{f:Ren}{Q:bF→aoz→List aoz→Prop}{cs1:List aoz}{ci cj q:Int}{ring nt:Bool}{n a i c:Nat}{s:ByteArray}
theorem ML(Nx:2≤n)(hn:n≤7)(hc:c=if ring then n else n- 1)(hp:uV cj 9=(a:Int))(hc1: -9223372036854775808≤cj)(hc2:cj≤9223372036854775807)
  (H: ∀v1 p9 pJ oX oW oV oU oT oQ oP oO oN oM oL oK oJ oI oH oG oF oD oC oB oA oz oy ox ov ou ot oq oh og od n_ n9 nZ,af (λ_=>False) v v1→az Tryz.prog bG Q f v1 e s0 (base 11) ⟨#[.int .i64 ci,.bool ring,.int .i64 cj,undef,undef,undef,.bool false,.bool true,.int .i64 (n:Nat),.string (jK n a c).1,.bool (jK n a c).2,.int .i64 (c:Nat),p9,pJ,undef,undef,undef,.bool true,.int .i64 ci,.int .i64 q,.int .i64 (n:Nat),oX,oW,oV,oU,oT,oQ,oP,oO,oN,oM,oL,oK,oJ,oI,oH,oG,oF,oD,oC,oB,oA,oz,oy,ox,ov,ou,ot,oq,oh,og,od,n_,n9,nZ,undef,undef,undef,undef,undef,undef,undef,undef,undef,undef,undef,undef,undef,undef,undef,undef,undef,undef,undef,undef,undef,undef,undef,undef,undef,undef,undef,undef,undef,undef,undef,undef,undef,undef,undef,undef],[]⟩ [.code kp] cs1):
  ∀ (r i:Nat) (v1:aly),i+r=c→af (λ_=>False) v v1→∀ (p9 pJ oX oW oV oU oT oQ oP oO oN oM oL oK oJ oI oH oG oF oD oC oB oA oz oy ox ov ou ot oq oh og od n_ n9 nZ:aad),az Tryz.prog bG Q f v1 e s0 (base 11) ⟨#[.int .i64 ci,.bool ring,.int .i64 cj,undef,undef,undef,.bool false,.bool true,.int .i64 (n:Nat),.string (jK n a i).1,.bool (jK n a i).2,.int .i64 (i:Nat),p9,pJ,undef,undef,undef,.bool true,.int .i64 ci,.int .i64 q,.int .i64 (n:Nat),oX,oW,oV,oU,oT,oQ,oP,oO,oN,oM,oL,oK,oJ,oI,oH,oG,oF,oD,oC,oB,oA,oz,oy,ox,ov,ou,ot,oq,oh,og,od,n_,n9,nZ,undef,undef,undef,undef,undef,undef,undef,undef,undef,undef,undef,undef,undef,undef,undef,undef,undef,undef,undef,undef,undef,undef,undef,undef,undef,undef,undef,undef,undef,undef,undef,undef,undef,undef,undef,undef],[]⟩ [.code ql,.inLoop ql,.inBlock 0,.code kp] cs1:=by
 intro r
 induction r with
 |zero=>
  rintro i v1 rfl hT p9 pJ oX oW oV oU oT oQ oP oO oN oM oL oK oJ oI oH oG oF oD oC oB oA oz oy ox ov ou ot oq oh og od n_ n9 nZ;cases hr:ring with
  |true=>
   rw[hr,if_pos rfl]at hc;rw[hr]at H;exact Zv hc (λp9 pJ oX oW oV oU oT oQ oP oO oN oM oL oK oJ oI oH oG oF oD oC oB oA oz oy ox ov ou ot oq oh og od n_ n9 nZ=>H v1 p9 pJ oX oW oV oU oT oQ oP oO oN oM oL oK oJ oI oH oG oF oD oC oB oA oz oy ox ov ou ot oq oh og od n_ n9 nZ hT) p9 pJ oX oW oV oU oT oQ oP oO oN oM oL oK oJ oI oH oG oF oD oC oB oA oz oy ox ov ou ot oq oh og od n_ n9 nZ
  |false=>
   rw[hr,if_neg aI]at hc;rw[hr]at H;exact Zw aj hn rfl (λp9 pJ oX oW oV oU oT oQ oP oO oN oM oL oK oJ oI oH oG oF oD oC oB oA oz oy ox ov ou ot oq oh og od n_ n9 nZ=>H v1 p9 pJ oX oW oV oU oT oQ oP oO oN oM oL oK oJ oI oH oG oF oD oC oB oA oz oy ox ov ou ot oq oh og od n_ n9 nZ hT) p9 pJ oX oW oV oU oT oQ oP oO oN oM oL oK oJ oI oH oG oF oD oC oB oA oz oy ox ov ou ot oq oh og od n_ n9 nZ
 |succ r ih=>
  intro i v1 hi hT p9 pJ oX oW oV oU oT oQ oP oO oN oM oL oK oJ oI oH oG oF oD oC oB oA oz oy ox ov ou ot oq oh og od n_ n9 nZ;have dC:i<n:=by cases ring<;>simp at hc<;>omega
  have hir:i+1<n∨ring=true:=by
   cases hr:ring with
   |true=>exact .inr rfl
   |false=>rw[hr,if_neg aI]at hc;exact .inl aj
  refine VK hn dC (by have:=Cv n a i;omega) hp hc1 hc2 hir (λv2 p9 pJ oX oW oV oU oT oQ oP oO oN oM oL oK oJ oI oH oG oF oD oC oB oA oz oy ox ov ou ot oq oh og od n_ n9 nZ h2=>?_) p9 pJ oX oW oV oU oT oQ oP oO oN oM oL oK oJ oI oH oG oF oD oC oB oA oz oy ox ov ou ot oq oh og od n_ n9 nZ;have e1:(jK n a (i+1)).1=D3 n (jK n a i).1 (if a=i then⟨#[33]⟩else⟨#[]⟩) i:=by rw[vS];rfl
  have e2:(jK n a (i+1)).2=((jK n a i).2||decide (a=i)):=by rw[vS];rfl
  have h3:=ih (i+1) v2 aj (hT.trans h2) p9 pJ oX oW oV oU oT oQ oP oO oN oM oL oK oJ oI oH oG oF oD oC oB oA oz oy ox ov ou ot oq oh og od n_ n9 nZ;rw[e1,e2]at h3;exact az.ctl (λa w=>stepG_inLoop) h3
theorem UW(hs:s.size≤1000)(hr:eE s=(none,((7:Nat):Int),((0:Nat):Int)))(hQ: ∀ (a:Act) (v1:aly) (k:List Item),a.tmps[6]? =some (.bool true)→a.defers= []→az Tryz.prog bG Q f v1 e s0 (base 11) a (.code .ret::k) cs1)(p9 pJ oX oW oV oU oT oQ oP oO oN oM oL oK oJ oI oH oG oF oD oC oB oA oz oy ox ov ou ot oq oh og od n_ n9 nZ:aad):az Tryz.prog bG Q f v e s0 (base 11) ⟨#[.int .i64 ci,.bool true,.int .i64 cj,undef,undef,undef,.bool false,.bool true,.int .i64 (n:Nat),.string s,.bool true,.int .i64 (i:Nat),p9,pJ,undef,undef,undef,.bool true,.int .i64 ci,.int .i64 q,.int .i64 (n:Nat),oX,oW,oV,oU,oT,oQ,oP,oO,oN,oM,oL,oK,oJ,oI,oH,oG,oF,oD,oC,oB,oA,oz,oy,ox,ov,ou,ot,oq,oh,og,od,n_,n9,nZ,undef,undef,undef,undef,undef,undef,undef,undef,undef,undef,undef,undef,undef,undef,undef,undef,undef,undef,undef,undef,undef,undef,undef,undef,undef,undef,undef,undef,undef,undef,undef,undef,undef,undef,undef,undef],[]⟩ [.code kp] cs1:=by
 refine az.ctl (λa w=>apU) (az.ctl (λa w=>apR) ?_);refine cQ (.string s) ?_;walk_nrm;refine XQ Tryz.func17 (#[.string s]) (zP aj hr aI) λu v8 Xo=>?_;obtain⟨rfl,-⟩:=Xo;walk_nrm;refine cQ (.tuple #[.pointer none,.int .i64 7,.int .i64 0]) ?_;walk_nrm;refine cQ (.pointer none) ?_;walk_nrm;refine cQ (.int .i64 7) ?_;walk_nrm;refine cQ (.int .i64 0) ?_;walk_nrm;refine cQ (.pointer none) ?_;walk_nrm;refine cQ (.int .i64 7) ?_;walk_nrm;refine cQ (.int .i64 0) ?_;walk_nrm;refine az.ctl (λa w=>apQ) (az.ctl (λa w=>apU) (az.ctl (λa w=>apU) (az.ctl (λa w=>apR) ?_)));refine cQ (.bool true) ?_;walk_nrm;refine cQ (.bool true) ?_;walk_nrm;refine cQ (.bool true) ?_;walk_nrm;refine cQ (.bool true) ?_;walk_nrm;refine az.ctl (λa w=>apQ) (az.cond (x:=true) rfl (az.ctl (λa w=>apU) (az.ctl (λa w=>apR) ?_)));refine cQ (.bool true) ?_;walk_nrm;refine cQ (.bool true) ?_;walk_nrm;refine cQ (.pointer none) ?_;walk_nrm;refine cQ (.bool true) ?_;walk_nrm;refine cQ (.bool true) ?_;walk_nrm;refine cQ (.bool true) ?_;walk_nrm;refine cQ (.int .i64 7) ?_;walk_nrm;refine cQ (.bool true) ?_;walk_nrm;refine cQ (.bool true) ?_;walk_nrm;refine cQ (.bool true) ?_;walk_nrm;refine cQ (.int .i64 0) ?_;walk_nrm;refine cQ (.bool true) ?_;walk_nrm;refine cQ (.bool true) ?_;walk_nrm;refine cQ (.bool true) ?_;walk_nrm;exact az.ctl (λa w=>apQ) (hQ _ _ _ rfl rfl)
theorem Qk(hs:s.size≤1000){cs:List cS}{Ls:List Lay}{R:Nat→aN→Prop}(hr:eE s=(some cs,0,0))(D:Ld cs Ls R)(hQ: ∀ (a:Act) (v1:aly) (k:List Item),a.tmps[6]? =some (.bool true)→a.defers= []→az Tryz.prog bG Q f v1 e s0 (base 11) a (.code .ret::k) cs1)(p9 pJ oX oW oV oU oT oQ oP oO oN oM oL oK oJ oI oH oG oF oD oC oB oA oz oy ox ov ou ot oq oh og od n_ n9 nZ:aad):az Tryz.prog bG Q f v e s0 (base 11) ⟨#[.int .i64 ci,.bool true,.int .i64 cj,undef,undef,undef,.bool false,.bool true,.int .i64 (n:Nat),.string s,.bool false,.int .i64 (i:Nat),p9,pJ,undef,undef,undef,.bool true,.int .i64 ci,.int .i64 q,.int .i64 (n:Nat),oX,oW,oV,oU,oT,oQ,oP,oO,oN,oM,oL,oK,oJ,oI,oH,oG,oF,oD,oC,oB,oA,oz,oy,ox,ov,ou,ot,oq,oh,og,od,n_,n9,nZ,undef,undef,undef,undef,undef,undef,undef,undef,undef,undef,undef,undef,undef,undef,undef,undef,undef,undef,undef,undef,undef,undef,undef,undef,undef,undef,undef,undef,undef,undef,undef,undef,undef,undef,undef,undef],[]⟩ [.code kp] cs1:=by
 refine az.ctl (λa w=>apU) (az.ctl (λa w=>apR) ?_);refine cQ (.string s) ?_;walk_nrm;refine XQ Tryz.func17 (#[.string s]) (Gp aj hr D) λu v8 Xo=>?_;obtain⟨u0,rfl,eb,nb,sb,pb,mb,bs,F,la,lc,ps,K,N,rfl,-⟩:=Xo;walk_nrm;refine cQ (.tuple #[.pointer (some ⟨eb,0,none⟩),.int .i64 0,.int .i64 0]) ?_;walk_nrm;refine cQ (.pointer (some ⟨eb,0,none⟩)) ?_;walk_nrm;refine cQ (.int .i64 0) ?_;walk_nrm;refine cQ (.int .i64 0) ?_;walk_nrm;refine cQ (.pointer (some ⟨eb,0,none⟩)) ?_;walk_nrm;refine cQ (.int .i64 0) ?_;walk_nrm;refine cQ (.int .i64 0) ?_;walk_nrm;refine az.ctl (λa w=>apQ) (az.ctl (λa w=>apU) (az.ctl (λa w=>apU) (az.ctl (λa w=>apR) ?_)));refine cQ (.bool true) ?_;walk_nrm;refine cQ (.bool true) ?_;walk_nrm;refine cQ (.bool false) ?_;walk_nrm;refine cQ (.bool false) ?_;walk_nrm;refine az.ctl (λa w=>apQ) (az.cond (x:=false) rfl (az.ctl (λa w=>stepG_skip) (az.ctl (λa w=>apU) (az.ctl (λa w=>apR) ?_))));refine cQ (.bool true) ?_;walk_nrm;refine cQ (.bool true) ?_;walk_nrm;refine cQ (.pointer (some ⟨eb,0,none⟩)) ?_;walk_nrm;refine cQ (.bool true) ?_;walk_nrm;refine cQ (.bool true) ?_;walk_nrm;refine cQ (.bool true) ?_;walk_nrm;refine cQ (.int .i64 0) ?_;walk_nrm;refine cQ (.bool true) ?_;walk_nrm;refine cQ (.bool true) ?_;walk_nrm;refine cQ (.bool true) ?_;walk_nrm;refine cQ (.int .i64 0) ?_;walk_nrm;refine cQ (.bool true) ?_;walk_nrm;refine cQ (.bool true) ?_;walk_nrm;refine cQ (.bool true) ?_;walk_nrm;exact az.ctl (λa w=>apQ) (hQ _ _ _ rfl rfl)
theorem Ql(hs:s.size≤1000){cs:List cS}{Ls:List Lay}{R:Nat→aN→Prop}(hr:eE s=(some cs,0,0))(D:Ld cs Ls R)(hQ: ∀ (a:Act) (v1:aly) (k:List Item),a.tmps[6]? =some (.bool true)→a.defers= []→az Tryz.prog bG Q f v1 e s0 (base 11) a (.code .ret::k) cs1)(p9 pJ oX oW oV oU oT oQ oP oO oN oM oL oK oJ oI oH oG oF oD oC oB oA oz oy ox ov ou ot oq oh og od n_ n9 nZ:aad):az Tryz.prog bG Q f v e s0 (base 11) ⟨#[.int .i64 ci,.bool false,.int .i64 cj,undef,undef,undef,.bool false,.bool true,.int .i64 (n:Nat),.string s,.bool nt,.int .i64 (i:Nat),p9,pJ,undef,undef,undef,.bool true,.int .i64 ci,.int .i64 q,.int .i64 (n:Nat),oX,oW,oV,oU,oT,oQ,oP,oO,oN,oM,oL,oK,oJ,oI,oH,oG,oF,oD,oC,oB,oA,oz,oy,ox,ov,ou,ot,oq,oh,og,od,n_,n9,nZ,undef,undef,undef,undef,undef,undef,undef,undef,undef,undef,undef,undef,undef,undef,undef,undef,undef,undef,undef,undef,undef,undef,undef,undef,undef,undef,undef,undef,undef,undef,undef,undef,undef,undef,undef,undef],[]⟩ [.code kp] cs1:=by
 refine az.ctl (λa w=>apU) (az.ctl (λa w=>apR) ?_);refine cQ (.string s) ?_;walk_nrm;refine XQ Tryz.func17 (#[.string s]) (Gp aj hr D) λu v8 Xo=>?_;obtain⟨u0,rfl,eb,nb,sb,pb,mb,bs,F,la,lc,ps,K,N,rfl,-⟩:=Xo;walk_nrm;refine cQ (.tuple #[.pointer (some ⟨eb,0,none⟩),.int .i64 0,.int .i64 0]) ?_;walk_nrm;refine cQ (.pointer (some ⟨eb,0,none⟩)) ?_;walk_nrm;refine cQ (.int .i64 0) ?_;walk_nrm;refine cQ (.int .i64 0) ?_;walk_nrm;refine cQ (.pointer (some ⟨eb,0,none⟩)) ?_;walk_nrm;refine cQ (.int .i64 0) ?_;walk_nrm;refine cQ (.int .i64 0) ?_;walk_nrm;refine az.ctl (λa w=>apQ) (az.ctl (λa w=>apU) (az.ctl (λa w=>apU) (az.ctl (λa w=>apR) ?_)));refine cQ (.bool false) ?_;walk_nrm;refine cQ (.bool false) ?_;walk_nrm;refine ask ?_;walk_nrm;refine cQ (.bool false) ?_;walk_nrm;refine az.ctl (λa w=>apQ) (az.cond (x:=false) rfl (az.ctl (λa w=>stepG_skip) (az.ctl (λa w=>apU) (az.ctl (λa w=>apR) ?_))));refine cQ (.bool true) ?_;walk_nrm;refine cQ (.bool true) ?_;walk_nrm;refine cQ (.pointer (some ⟨eb,0,none⟩)) ?_;walk_nrm;refine cQ (.bool true) ?_;walk_nrm;refine cQ (.bool true) ?_;walk_nrm;refine cQ (.bool true) ?_;walk_nrm;refine cQ (.int .i64 0) ?_;walk_nrm;refine cQ (.bool true) ?_;walk_nrm;refine cQ (.bool true) ?_;walk_nrm;refine cQ (.bool true) ?_;walk_nrm;refine cQ (.int .i64 0) ?_;walk_nrm;refine cQ (.bool true) ?_;walk_nrm;refine cQ (.bool true) ?_;walk_nrm;refine cQ (.bool true) ?_;walk_nrm;exact az.ctl (λa w=>apQ) (hQ _ _ _ rfl rfl)
structure Fam:Prop where
 bad: ∀n a:Nat,2≤n→n≤7→a<9→(jK n a n).2=true→eE (jK n a n).1=(none,((7:Nat):Int),((0:Nat):Int))
 ring: ∀n a:Nat,2≤n→n≤7→a<9→(jK n a n).2=false→∃cs Ls R,eE (jK n a n).1=(some cs,0,0)∧Ld cs Ls R
 chain: ∀n a:Nat,2≤n→n≤7→a<9→∃cs Ls R,eE (jK n a (n- 1)).1=(some cs,0,0)∧Ld cs Ls R
theorem Ep(c:Int){n:Nat}(hn:0<n): ∃a:Nat,a<n∧uV c n=(a:Int):=by
 unfold uV;split
 ·exact⟨((-(c+1)) % (n:Int)).toNat,by have:=axn (-(c+1)) (show(0:Int)<n by omega);have:=axh (-(c+1)) (show(n:Int)≠0 by omega);omega,by have:=axh (-(c+1)) (show(n:Int)≠0 by omega);omega⟩
 ·exact⟨(c % (n:Int)).toNat,by have:=axn c (show(0:Int)<n by omega);have:=axh c (show(n:Int)≠0 by omega);omega,by have:=axh c (show(n:Int)≠0 by omega);omega⟩
theorem YC{cs:List cS}{Ls:List Lay}{R:Nat→aN→Prop}{RC:Nat→List Cg→aN→Prop}(S:Su cs Ls R RC)(M:Fam)(Xt: -9223372036854775808≤ci)(hi2:ci≤9223372036854775807)(DO: -9223372036854775808≤cj)(wC:cj≤9223372036854775807)
  (hQ: ∀ (a:Act) (v1:aly) (k:List Item),a.tmps[6]? =some (.bool true)→a.defers= []→az Tryz.prog bG Q f v1 e s0 (base 11) a (.code .ret::k) cs1):az Tryz.prog bG Q f v e s0 (base 11) ⟨(#[.int .i64 ci,.bool ring,.int .i64 cj]:Array aad)++aps (Tryz.f11.ntmps-(#[.int .i64 ci,.bool ring,.int .i64 cj]:Array aad).size) undef,[]⟩ [.code UB] cs1:=by
 obtain⟨p,hp,zX⟩:=Ep ci (n:=6) aI;obtain⟨a,ha,ha2⟩:=Ep cj (n:=9) aI;have hz:(#[.int .i64 ci,.bool ring,.int .i64 cj]:Array aad)++aps (Tryz.f11.ntmps-(#[.int .i64 ci,.bool ring,.int .i64 cj]:Array aad).size) undef= #[.int .i64 ci,.bool ring,.int .i64 cj,undef,undef,undef,undef,undef,undef,undef,undef,undef,undef,undef,undef,undef,undef,undef,undef,undef,undef,undef,undef,undef,undef,undef,undef,undef,undef,undef,undef,undef,undef,undef,undef,undef,undef,undef,undef,undef,undef,undef,undef,undef,undef,undef,undef,undef,undef,undef,undef,undef,undef,undef,undef,undef,undef,undef,undef,undef,undef,undef,undef,undef,undef,undef,undef,undef,undef,undef,undef,undef,undef,undef,undef,undef,undef,undef,undef,undef,undef,undef,undef,undef,undef,undef,undef,undef,undef,undef,undef]:=by kernel_rfl
 rw[hz];clear hz;refine az.ctl (λa w=>apU) (az.ctl (λa w=>apR) ?_);refine cQ (.bool false) ?_;walk_nrm;refine az.ctl (λa w=>apQ) (az.ctl (λa w=>apU) (az.ctl (λa w=>apR) ?_));refine XQ Tryz.func32 (#[]) (ZH S) λu v1 zY=>?_;subst zY;walk_nrm;refine cQ (.bool true) ?_;walk_nrm;refine az.ctl (λa w=>apQ) (az.ctl (λa w=>apU) (az.ctl (λa w=>apR) ?_));refine cQ (.int .i64 ci) ?_;walk_nrm;refine acl Tryz.func31 (#[.int .i64 ci,.int .i64 ((6:Nat):Int)])
  (Post:=λw u w'=>u= .int .i64 (p:Nat)∧af (λ_=>False) w w') (λT=>?_) λT T' u v2 ht zY=>?_
 ·refine(c31 ci 6 Xt hi2 aI aI (ax v1 T)).mono ?_;rintro ex w' ⟨rfl,rfl⟩;exact⟨_,rfl,by rw[zX],af.refl _ _⟩
 obtain⟨rfl,-⟩:=zY;walk_nrm;obtain⟨n,hn⟩: ∃n,n=2+p:=⟨_,rfl⟩;refine cQ (.int .i64 (n:Nat)) ?_ (hl:=λT=>by simp[go_sem];rw[ast];omega);walk_nrm;refine cQ (.int .i64 (n:Nat)) ?_;walk_nrm;refine az.ctl (λa w=>apQ) (az.ctl (λa w=>apU) (az.ctl (λa w=>apR) ?_));refine cQ (.string ⟨#[]⟩) ?_;walk_nrm;refine az.ctl (λa w=>apQ) (az.ctl (λa w=>apU) (az.ctl (λa w=>apR) ?_));refine cQ (.bool false) ?_;walk_nrm;refine az.ctl (λa w=>apQ) (az.ctl (λa w=>apU) (az.ctl (λa w=>apU) (az.ctl (λa w=>apR) ?_)));refine cQ (.int .i64 0) ?_;walk_nrm;refine az.ctl (λa w=>apQ) (az.ctl (λa w=>stepG_block) (az.ctl (λa w=>stepG_loop) ?_));obtain⟨c,hc⟩: ∃c,c=if ring then n else n- 1:=⟨_,rfl⟩
 refine ML (n:=n) (a:=a) (q:=(p:Int)) aj aj hc ha2 DO wC (λv3 p9 pJ oX oW oV oU oT oQ oP oO oN oM oL oK oJ oI oH oG oF oD oC oB oA oz oy ox ov ou ot oq oh og od n_ n9 nZ _=>?_) c 0 v2 aj (af.refl _ _) _ _ _ _ _ _ _ _ _ _ _ _ _ _ _ _ _ _ _ _ _ _ _ _ _ _ _ _ _ _ _ _ _ _ _ _;have hsz:(jK n a c).1.size≤1000:=by
  have:=Cv n a c;have:c≤n:=by rw[hc];split<;>omega
  omega
 cases hr:ring with
 |true=>
  obtain rfl:c=n:=by rw[hc,hr,if_pos rfl]
  cases hb:(jK c a c).2 with
  |true=>exact UW hsz (M.bad c a aj aj ha hb) hQ _ _ _ _ _ _ _ _ _ _ _ _ _ _ _ _ _ _ _ _ _ _ _ _ _ _ _ _ _ _ _ _ _ _ _ _
  |false=>
   obtain⟨cs,Ls,R,q1,q2⟩:=M.ring c a aj aj ha hb;exact Qk hsz q1 q2 hQ _ _ _ _ _ _ _ _ _ _ _ _ _ _ _ _ _ _ _ _ _ _ _ _ _ _ _ _ _ _ _ _ _ _ _ _
 |false=>
  obtain rfl:c=n- 1:=by rw[hc,hr,if_neg aI]
  obtain⟨cs,Ls,R,q1,q2⟩:=M.chain n a aj aj ha;exact Ql hsz q1 q2 hQ _ _ _ _ _ _ _ _ _ _ _ _ _ _ _ _ _ _ _ _ _ _ _ _ _ _ _ _ _ _ _ _ _ _ _ _
end
end Go.Proofs.YtkdljbnllgpfhaaGreat
end
section
namespace Go.Proofs.YtkdljbnllgpfhaaGreat
open Go Go.RowKit Go.Upr
theorem MA{b b':eB}{t:ni}{u:Nat}(h:kU b t u=some b'):b'.length=b.length:=by
 unfold kU at h;dsimp only at h;generalize(if t.c=0 then b.getD t.v 0 else t.c)=x at h;split at h
 ·cases h;exact List.length_set ..
 ·split at h
  ·cases h;rfl
  ·cases h
theorem MB{ts:List ni}{ws:List Nat}{b:eB}(h:cO ts ws=some b):b.length=12:=by
 have key: ∀ (l:List (ni×Nat)) (o:Option eB),(∀b,o=some b→b.length=12)→∀b,l.foldl (λob p=>ob.bind λb=>kU b p.1 p.2) o=some b→b.length=12:=by
  intro l
  induction l with
  |nil=>exact λo h=>h
  |cons p l ih=>
   intro o ho;refine ih _ λb hb=>?_;obtain⟨c,hc,hm⟩:=Option.bind_eq_some_iff.1 hb;rw[MA hm,ho c hc]
 exact key _ (some dL) (λb hb=>by cases hb;rfl) b h
theorem U4{D:Bool→ByteArray→Seen}{s:r9}{F:Ht}{l:List (eB×Nat)}(hl: ∀p∈l,p.1.length=12): ∀p∈ny D s F l,zG s.live p.1:=by
 refine Ph λp hp=>?_;obtain⟨q,hq,hp⟩:=List.mem_flatMap.1 hp;obtain⟨r,-,rfl⟩:=amk.1 hp;simp[sg,hl q hq]
theorem Qp{D:Bool→ByteArray→Seen}{J:Jn}{xs:List aS}: ∀p∈cD D J xs,zG J.live p.1:=by
 refine Ph λp hp=>?_;obtain⟨t,-,ht⟩:=List.mem_filterMap.1 hp;obtain⟨b,hb,rfl⟩:=Option.map_eq_some_iff.1 ht;exact MB hb
theorem OB{D:Bool→ByteArray→Seen}: ∀ (q:List (r9×Option (List aS))) (l:List (eB×Nat)) (live:Nat),(∀p∈l,zG live p.1)→∀p∈km D l q,zG (((q.map λx=>x.1.live).getLast?).getD live) p.1
 | [],_,_,h=>h
 |x::q,l,live,h=>by
  have h1:=OB (D:=D) q (ny D x.1 (lD x.1 (x.2.getD [])) l) x.1.live (U4 λp hp=>(h p hp).1);rw[List.map_cons,List.getLast?_cons];exact h1
def Cn(J:Jn):Nat:=((J.steps.map (·.live)).getLast?).getD J.live
def IB(J:Jn):Bool:=decide (J.head.ts.length≤3)&&decide (Cn J&&& bU J.head.ts=Cn J)
theorem l8{D:Bool→ByteArray→Seen}{J:Jn}(h:IB J=true):uK D J:=by
 unfold IB at h;simp only[anh,decide_eq_true_eq]at h;obtain⟨h3,hv⟩:=h;intro xs bB hl p hp q hq he;have e:((J.steps.zip bB).map λx=>x.1.live)=J.steps.map (·.live):=by
  have:(J.steps.zip bB).map aug=J.steps:=List.map_fst_zip aj
  conv=>rhs;rw[←this]
  rw[List.map_map];rfl
 have hc:=OB (D:=D) (J.steps.zip bB) (cD D J xs) J.live Qp;rw[e]at hc;refine ZY h3 (λj hj=>?_) (hc p hp) (hc q hq) he;have:(Cn J&&& bU J.head.ts).testBit j=true:=by rw[hv];exact hj
 rw[Nat.testBit_and,anh]at this;exact this.2
theorem Qo{D:Bool→ByteArray→Seen}{s:r9}(l:List (eB×Nat)):ny D s (λ_=> []) l= []:=by
 unfold ny;have:l.flatMap (mH s λ_=> [])= []:=by simp[mH]
 rw[this];rfl
theorem Ca{D:Bool→ByteArray→Seen}: ∀q:List (r9×Option (List aS)),km D [] q= []
 | []=>rfl
 |_::q=>Ca (D:=D) q
theorem MS(bs:dB)(s:Bool)(n:ByteArray):dV bs bR s n=([],[],[]):=by
 unfold dV Fs fX iF bR;cases s<;>simp
theorem L_{xs:List aS}(h:tj [] [] [] xs):xs= []:=by
 obtain⟨y,z,rfl,⟨-,h1,-⟩,⟨-,h2,-⟩⟩:=h;have hy:y= []:=axi.2 λa ha=>by have:=h1 a ha;simp[ja]at this
 have hz:z= []:=axi.2 λa ha=>by have:=h2 a ha;simp at this
 rw[hy,hz];rfl
theorem Z5{bs:dB}{r:bQ}(h:IB (bJ r)=true)(hs:(bJ r).steps≠ []):Bz (dV bs bR) r:=by
 refine⟨λxs bB _ hB=>?_,l8 h⟩;obtain⟨s,ss,hss⟩:=List.exists_cons_of_ne_nil hs;have h0:=hB.1 0;rw[hss]at h0⊢;have key: ∃o t,bB=o::t∧o.getD []= []:=by
  rcases h0 with h0|⟨-,s',T,-,h0,hv⟩
  ·cases bB with
   |nil=>simp at h0
   |cons o t=>simp at h0;exact⟨o,t,rfl,by rw[h0];rfl⟩
  ·cases bB with
   |nil=>simp at h0
   |cons o t=>
    simp at h0;rw[MS]at hv;exact⟨o,t,rfl,by rw[h0,L_ hv];rfl⟩
 obtain⟨o,t,rfl,ho⟩:=key;show km _ (ny _ s (lD s (o.getD [])) _) _= [];rw[ho];show km _ (ny _ s (λ_=> []) _) _= [];rw[Qo];exact Ca _
def BS(L:Lay):Bool:=L.rules.all λc=>if L.jV then decide (dc (eK (L.rules.map cq)) (cq c).body (cq c).body.length≠ [])else IB (bJ (cq c))&&decide ((bJ (cq c)).steps≠ [])
theorem MZ{Ls:List Lay}(hL: ∀L∈Ls,BS L=true∧L.rules.length≤1048576∧∀c∈L.rules,gW (cq c)){sb:Nat}{bs:dB}{ps:List (LB×Lay)}{K:Hp}{N:Nat}(qJ:ps.map auw=Ls)(abl: ∀p∈ps,p.1.1=p.2.jV):
  tJ sb bs ps K N λ_ F=>F=bR:=by
 rintro j p hp w F hK mi hS rfl;have jQ:=List.mem_of_getElem? hp;obtain⟨h1,h2,h3⟩:=hL p.2 (by rw[←qJ];exact amk.2 ⟨p,jQ,rfl⟩);have hr:=abl p jQ;have uB: ∀r∈p.2.rules.map cq,gW r:=λr hr=>by
  obtain⟨c,hc,rfl⟩:=amk.1 hr;exact h3 c hc
 unfold BS at h1;rw[axg]at h1;cases hb:p.1.1 with
 |true=>
  rw[if_pos rfl];rw[hb]at hr;obtain⟨ra,rc,e1,e2⟩:=mi.cond.1 hb;refine(ag7 (F:=bR) ⟨hK,e1,e2⟩ uB (by rw[auB];exact h2) hS λr sG=>?_).mono ?_
  ·obtain⟨c,hc,rfl⟩:=amk.1 sG;have:=h1 c hc;rw[←hr,if_pos rfl,decide_eq_true_eq]at this;exact this
  ·rintro ex w' ⟨v,rfl,ht,hm⟩;exact⟨v,[],bR,rfl,ht.wider,hS.turn ht id λ_ _=>id,rfl,hm,arQ _⟩
 |false=>
  rw[if_neg aI];rw[hb]at hr;obtain⟨ra,rc,mb,e1,e2,e3,e4⟩:=mi.cond.2 hb;refine(ag4 (F:=bR) ⟨hK,e1,e2⟩ uB (by rw[auB];exact h2) hS λr sG=>?_).mono ?_
  ·obtain⟨c,hc,rfl⟩:=amk.1 sG;have:=h1 c hc;rw[←hr,if_neg aI,anh,decide_eq_true_eq]at this;exact Z5 this.1 this.2
  ·rintro ex w' ⟨rfl,ht,fN⟩;exact⟨_,[],bR,rfl,ht.mono λ_ _ h=> .inr h,fN,rfl,.nil (mR _),arQ _⟩
end Go.Proofs.YtkdljbnllgpfhaaGreat
end
section
namespace Go.Proofs.YtkdljbnllgpfhaaGreat
open Go Go.RowKit Go.Upr
structure Di where
 k:Int
 t:ByteArray
 r:List UInt8
def adm:List UInt8→Di
 | []=>⟨0,ati,[]⟩
 |b::u=>
  if 0<((b::u).takeWhile pN).length then⟨wS ⟨((b::u).takeWhile pN).toArray⟩,⟨((b::u).takeWhile pN).toArray⟩,(b::u).drop ((b::u).takeWhile pN).length⟩
  else if [58,45].isPrefixOf (b::u)then⟨10,⟨#[58,45]⟩,(b::u).drop 2⟩else⟨FO b,⟨#[b]⟩,u⟩
def BO(l:List UInt8):Di:=adm (l.drop (blank false l))
def Rel(s:ByteArray)(p:Pc)(q:Di):Prop:=p.k=q.k∧p.t=q.t∧(bl s).drop (p.a+p.t.size)=q.r∧p.a+p.t.size≤s.size
theorem FZ(s:ByteArray)(i j:Nat):bl (s.extract i j)=((bl s).drop i).take (j- i):=by simp[bl]
theorem aau{x:ByteArray}{l:List UInt8}(h:bl x=l):x=⟨l.toArray⟩:=by
 subst h;simp[bl]
theorem Eo{s:ByteArray}{a:Nat}(h:a≤s.size){l:List UInt8}(hl:(bl s).drop a=l):Rel s (aT s a) (BO l):=by
 have hg:=LR s h;have e0:bl (s.extract a s.size)=l:=by rw[FZ,hl,←hl,at4];rw[avb,dx];omega
 have eg:Df s a=blank false l:=by unfold Df;rw[e0]
 unfold aT BO;rw[←eg];have em:l.drop (Df s a)=(bl s).drop (a+Df s a):=by rw[←hl,aqs]
 rw[em];generalize a+Df s a=c at hg em⊢;by_cases hc:c=s.size
 ·rw[if_pos hc,axk (by rw[dx];omega)];refine⟨rfl,rfl,?_,by show c+0≤s.size;omega⟩;exact axk (by rw[dx];show s.size≤c+0;omega)
 ·rw[if_neg hc];have e1:bl (s.extract c s.size)=(bl s).drop c:=by rw[FZ,at4];rw[avb,dx];omega
  have hlen:((bl s).drop c).length=s.size- c:=by rw[avb,dx]
  cases hd:(bl s).drop c with
  |nil=>rw[hd]at hlen;simp at hlen;omega
  |cons b u=>
   rw[hd]at e1 hlen;have key: ∀ (n:Nat) (w:List UInt8),(b::u).take n=w→w.length=n→s.extract c (c+n)=⟨w.toArray⟩∧(s.extract c (c+n)).size=n∧(bl s).drop (c+n)=(b::u).drop n∧c+n≤s.size:=by
    intro n w hw hn;have h1:s.extract c (c+n)=⟨w.toArray⟩:=aau (by rw[FZ,hd,Nat.add_sub_cancel_left,hw]);refine⟨h1,?_,by rw[←aqs,hd],?_⟩
    ·rw[h1];show w.toArray.size=n;rw[List.size_toArray];exact hn
    ·have:=List.length_take_le' n (b::u);rw[hw]at this;omega
   have ew:Dj (s.extract c s.size)=((b::u).takeWhile pN).length:=by unfold Dj;rw[e1]
   have nj:(b::u).take ((b::u).takeWhile pN).length=(b::u).takeWhile pN:=(List.prefix_iff_eq_take.1 (List.takeWhile_prefix _)).symm;unfold s9 meas adm;dsimp only;rw[ew];by_cases h0:0<((b::u).takeWhile pN).length
   ·rw[if_pos h0,if_pos h0];obtain⟨k1,k2,k3,k4⟩:=key _ _ nj rfl;have k5:(s.extract c s.size).extract 0 ((b::u).takeWhile pN).length=⟨((b::u).takeWhile pN).toArray⟩:=aau (by rw[FZ,e1,as3,axl,nj]);exact⟨by dsimp only;rw[k5],k1,by dsimp only;rw[k2,k3],by dsimp only;rw[k2];exact k4⟩
   ·rw[if_neg h0,if_neg h0];have ep:uY NP (s.extract c s.size)= [58,45].isPrefixOf (b::u):=by unfold uY;rw[e1];rfl
    rw[ep];by_cases h1: [58,45].isPrefixOf (b::u)=true
    ·rw[if_pos h1,if_pos h1];obtain⟨t,ht⟩:=List.isPrefixOf_iff_prefix.1 h1;obtain⟨k1,k2,k3,k4⟩:=key 2 [58,45] (by rw[←ht];rfl) rfl;exact⟨rfl,k1,by dsimp only;rw[k2,k3],by dsimp only;rw[k2];exact k4⟩
    ·rw[if_neg h1,if_neg h1];obtain⟨k1,k2,k3,k4⟩:=key 1 [b] rfl rfl;exact⟨by dsimp only;rw[e1];rfl,k1,by dsimp only;rw[k2,k3];rfl,by dsimp only;rw[k2];exact k4⟩
def ia(p:Di)(k:Int):Bool×Di:=if p.k=k then(true,BO p.r)else(false,p)
def wT(p:Di):Tm×Bool×Di:=
 if(ia p 4).1 then(⟨p.t,true⟩,true,(ia p 4).2)
 else if(ia p 2).1 then(⟨p.t,false⟩,true,(ia p 2).2)
 else(⟨p.t,false⟩,ia p 3)
def BL:Nat→List Tm→Di→List Tm×Bool×Di
 |0,ts,p=>(ts,false,p)
 |n+1,ts,p=>
  if(wT p).2.1 then
   (if(ia (wT p).2.2 7).1 then BL n (ts++ [(wT p).1]) (ia (wT p).2.2 7).2
    else(ts++ [(wT p).1],ia (wT p).2.2 6))
  else(ts,(wT p).2)
def Oc(n:Nat)(p:Di):qI×Bool×Di:=
 if(ia p 2).1 then
  (if(ia (ia p 2).2 5).1 then(⟨p.t,(BL n [] (ia (ia p 2).2 5).2).1⟩,(BL n [] (ia (ia p 2).2 5).2).2)
   else(⟨p.t,[]⟩,ia (ia p 2).2 5))
 else(⟨p.t,[]⟩,ia p 2)
def NY(N:Nat):Nat→List sK→Di→List sK×Bool×Di
 |0,ls,p=>(ls,false,p)
 |n+1,ls,p=>
  let g:=ia p 9
  let r:=Oc N g.2
  if r.2.1 then
   (if(ia r.2.2 7).1 then NY N n (ls++ [⟨r.1,g.1⟩]) (ia r.2.2 7).2 else(ls++ [⟨r.1,g.1⟩],true,r.2.2))
  else(ls,false,r.2.2)
def xk(N:Nat)(p:Di):cS×Bool×Di:=
 let a:=Oc N p
 if a.2.1 then
  (let t:=ia a.2.2 10
   if t.1 then(let b:=NY N N [] t.2
    if b.2.1 then(⟨a.1,b.1⟩,ia b.2.2 8)else(⟨a.1,[]⟩,false,b.2.2))
   else(⟨a.1,[]⟩,ia t.2 8))
 else(⟨a.1,[]⟩,false,a.2.2)
def BP(N:Nat):Nat→List cS→Di→Option (List cS)
 |0,_,_=>none
 |n+1,cs,p=>
  if p.k=0 then some cs
  else if(xk N p).2.1 then BP N n (cs++ [(xk N p).1]) (xk N p).2.2 else none
section
variable{s:ByteArray}{p:Pc}{q:Di}
def Tx{α:Type}(s:ByteArray)(x:α×Bool×Pc)(y:α×Bool×Di):Prop:=x.1=y.1∧x.2.1=y.2.1∧Rel s x.2.2 y.2.2
theorem iM(h:Rel s p q)(k:Int):(bw s p k).1=(ia q k).1∧Rel s (bw s p k).2 (ia q k).2:=by
 unfold bw ia;rw[h.1];by_cases hk:q.k=k
 ·rw[if_pos hk,if_pos hk];exact⟨rfl,Eo h.2.2.2 h.2.2.1⟩
 ·rw[if_neg hk,if_neg hk];exact⟨rfl,h⟩
theorem UR(h:Rel s p q):Tx s (cY s p) (wT q):=by
 unfold cY wT;have h4:=iM h 4;have h2:=iM h 2;have h3:=iM h 3;rw[h4.1,h2.1,h.2.1];split
 ·exact⟨rfl,rfl,h4.2⟩
 ·split
  ·exact⟨rfl,rfl,h2.2⟩
  ·exact⟨rfl,h3.1,h3.2⟩
theorem Ee: ∀ (n:Nat) (ts:List Tm) {p:Pc} {q:Di},Rel s p q→Tx s (eJ s n ts p) (BL n ts q)
 |0,_,_,_,h=>⟨rfl,rfl,h⟩
 |n+1,ts,p,q,h=>by
  unfold eJ BL;obtain⟨a1,a2,a3⟩:=UR h;have h7:=iM a3 7;have h6:=iM a3 6;rw[a2,h7.1,a1];split
  ·split
   ·exact Ee n _ h7.2
   ·exact⟨rfl,h6.1,h6.2⟩
  ·exact⟨rfl,a2,a3⟩
theorem Jt(n:Nat)(h:Rel s p q):Tx s (dG s n p) (Oc n q):=by
 unfold dG Oc;have h2:=iM h 2;have h5:=iM h2.2 5;obtain⟨a1,a2,a3⟩:=Ee n [] h5.2;rw[h2.1,h5.1,h.2.1,a1];split
 ·split
  ·exact⟨rfl,a2,a3⟩
  ·exact⟨rfl,h5.1,h5.2⟩
 ·exact⟨rfl,h2.1,h2.2⟩
theorem I'(N:Nat): ∀ (n:Nat) (ls:List sK) {p:Pc} {q:Di},Rel s p q→Tx s (gF s N n ls p) (NY N n ls q)
 |0,_,_,_,h=>⟨rfl,rfl,h⟩
 |n+1,ls,p,q,h=>by
  unfold gF NY;dsimp only;have h9:=iM h 9;obtain⟨a1,a2,a3⟩:=Jt N h9.2;have h7:=iM a3 7;rw[a2,h7.1,a1,h9.1];split
  ·split
   ·exact I' N n _ h7.2
   ·exact⟨rfl,rfl,a3⟩
  ·exact⟨rfl,rfl,a3⟩
theorem M7(N:Nat)(h:Rel s p q):Tx s (cL s N p) (xk N q):=by
 unfold cL xk;dsimp only;obtain⟨a1,a2,a3⟩:=Jt N h;have h10:=iM a3 10;obtain⟨b1,b2,b3⟩:=I' N N [] h10.2;have h8:=iM b3 8;have h8':=iM h10.2 8;rw[a2,h10.1,b2,a1,b1];split
 ·split
  ·split
   ·exact⟨rfl,h8.1,h8.2⟩
   ·exact⟨rfl,rfl,b3⟩
  ·exact⟨rfl,h8'.1,h8'.2⟩
 ·exact⟨rfl,rfl,a3⟩
theorem Er(N:Nat): ∀ (n:Nat) (cs:List cS) {p:Pc} {q:Di},Rel s p q→∀cs',BP N n cs q=some cs'→kq s N n cs p=(some cs',0)
 |0,_,_,_,_,_,h=>nomatch h
 |n+1,cs,p,q,h,cs',hp=>by
  unfold BP at hp;unfold kq;obtain⟨a1,a2,a3⟩:=M7 N h;rw[h.1,a2,a1];split
  ·rename_i hk;rw[if_pos hk]at hp;cases hp;rfl
  ·rename_i hk;rw[if_neg hk]at hp;split
   ·rename_i hc;rw[if_pos hc]at hp;exact Er N n _ a3 cs' hp
   ·rename_i hc;rw[if_neg hc]at hp;cases hp
end
theorem I5{s:ByteArray}{cs:List cS}(h:BP (s.size+1) (s.size+1) [] (BO (bl s))=some cs):parse s=(some cs,0):=
 Er _ _ [] (Eo (arQ _) (as3)) cs h
end Go.Proofs.YtkdljbnllgpfhaaGreat
end
section
namespace Go.Proofs.YtkdljbnllgpfhaaGreat
open Go Go.RowKit Go.Upr
theorem xC(ab:List (ByteArray×ByteArray))(ns:List ByteArray)(h: ∀x∈ns,bZ x):(iz ab ns h).Perm ns:=by
 obtain⟨⟨h1,-,h3⟩,-⟩:=Sort.insertionSort_holds (LO (Kv ab ns ns)) (Hf ns h) 0 ns.length (arQ _) (by rw[mB];exact agl _);unfold iz;generalize Sort.insertionSort (ltOf (wL (Kv ab ns ns))) (Hf ns h) 0 ns.length=d at h1 h3⊢;have e1:(d.extract 0 ns.length).toList=d.toList:=by
  rw[axm,axj];simp only[as3,axl];rw[at4];rw[ane,h1,mB];exact agl _
 have e2:((Hf ns h).extract 0 ns.length).toList=(Hf ns h).toList:=by
  rw[axm,axj];simp only[as3,axl];rw[at4];rw[ane,mB];exact agl _
 rw[e1,e2]at h3;have e3:(Hf ns h).toList.map awH=ns:=by simp[Hf,List.map_pmap]
 have:=h3.map awH;rw[e3]at this;exact this
theorem B8{ab:List (ByteArray×ByteArray)}{cs:List cS}{ns:List ByteArray}{P:Lay→Prop}: ∀ (ms:List ByteArray) (st:List ByteArray×List Lay),(∀L∈st.2,P L)→(∀n∈ms,P ⟨dY (sO ab n ns) cs,gP ab (n,n)⟩)→
  (∀L∈(ms.foldl (sP ab cs ns) st).2,P L)∧(ms.foldl (sP ab cs ns) st).2.length≤st.2.length+ms.length
 | [],_,h,_=>⟨h,agl _⟩
 |n::ms,st,h,hm=>by
  have key:(∀L∈(sP ab cs ns st n).2,P L)∧(sP ab cs ns st n).2.length≤st.2.length+1:=by
   unfold sP;split
   ·exact⟨h,by omega⟩
   ·dsimp only;split
    ·exact⟨h,by omega⟩
    ·refine⟨λL hL=>?_,by rw[List.length_append];exact agl _⟩;rcases List.mem_append.1 hL with h1|h1
     ·exact h L h1
     ·rw[List.mem_singleton.1 h1];exact hm n (ao3 ..)
  obtain⟨h1,h2⟩:=B8 ms (sP ab cs ns st n) key.1 λx hx=>hm x (ao0 _ hx);refine⟨h1,?_⟩;have h3:=key.2;rw[auW,List.length_cons];omega
def tmB(t:Tm):Bool:=decide (t.t.size≤1000)
def Yo(c:cS):Bool:=decide (c.head.ts.length≤3)&&c.head.ts.all tmB&&decide (c.head.n.size≤1000)&&decide (c.body.length≤4)&&c.body.all λl=>decide (l.a.ts.length≤3)&&decide (l.a.n.size≤1000)&&l.a.ts.all tmB
def XW(t:ni):Bool:=decide (t.c<18446744073709551616)&&decide (t.v<12)
def XV(r:bQ):Bool:=decide (r.head.ts.length≤3)&&r.head.ts.all XW&&decide (r.head.n.size≤1000)&&decide (r.body.length≤4)&&r.body.all λl=>decide (l.a.ts.length≤3)&&l.a.ts.all XW&&decide (l.a.n.size≤1000)
theorem uU{x:ByteArray}(h:x.size≤1000):bZ x:=by show x.size≤maxLen;unfold maxLen;omega
theorem AX{r:bQ}(h:XV r=true):gW r:=by
 unfold XV at h;simp only[anh,decide_eq_true_eq,axg]at h;obtain⟨⟨⟨⟨h1,h2⟩,h3⟩,h4⟩,h5⟩:=h;have ht: ∀t,XW t=true→qP t:=λt ht=>by
  unfold XW at ht;show t.c<18446744073709551616∧t.v<12;simpa only[anh,decide_eq_true_eq]using ht
 exact⟨h1,λt h=>ht t (h2 t h),uU h3,h4,λl hl=>⟨(h5 l hl).1.1,λt h=>ht t ((h5 l hl).1.2 t h),uU (h5 l hl).2⟩⟩
theorem uh{c:cS}(h:Yo c=true):yD c∧bZ c.head.n∧Small 1099511627776 c:=by
 unfold Yo at h;simp only[anh,decide_eq_true_eq,axg]at h;obtain⟨⟨⟨⟨h1,h2⟩,h3⟩,h4⟩,h5⟩:=h;have ht: ∀t,tmB t=true→t.t.size≤1000:=λt ht=>by
  unfold tmB at ht;simpa only[decide_eq_true_eq]using ht
 refine⟨⟨h1,λt h=>uU (ht t (h2 t h)),h4,λl hl=>⟨(h5 l hl).1.1,λt h=>uU (ht t ((h5 l hl).2 t h))⟩⟩,uU h3,by omega,λa ha=>?_⟩;rcases List.mem_cons.1 ha with rfl|ha
 ·exact⟨by omega,by omega,λt h=>by have:=ht t (h2 t h);omega⟩
 ·obtain⟨l,hl,rfl⟩:=amk.1 ha;have:=h5 l hl;exact⟨by omega,by omega,λt h=>by have:=ht t (this.2 t h);omega⟩
def ab3(cs:List cS):Bool:=decide (cs.length≤1000)&&cs.all Yo&&(cs.all λc=>XV (cq c))&&(cs.all λc=>decide (c.body.length≠0))&&((at0 (cs.length+1)).all λk=>decide ((a_ (cs.take k)).length≤1000))&&decide ((a_ cs).length<20)&&decide ((a_ cs).length≠0)&&
 ((a_ cs).all λn=>decide (n.size≤1000))&&decide ((cJ cs).length≤1000)&&(cs.all λc=>(cJ cs).any λp=>decide (p.1=c.head.n))&&(a_ cs).all λn=>BS ⟨dY (sO (dz cs) n (a_ cs)) cs,gP (dz cs) (n,n)⟩
theorem Jb{cs:List cS}(h: ∀c∈cs,c.body.length≠0)(F:aN):jc F cs=(F,[]):=by
 have key: ∀ (cs:List cS) (st:aN×List Cg),(∀c∈cs,c.body.length≠0)→cs.foldl Ag st=st:=by
  intro cs
  induction cs with
  |nil=>exact λ_ _=>rfl
  |cons c cs ih=>
   intro st h;rw[auW];have:Ag st c=st:=by unfold Ag;rw[if_neg (h c (ao3 ..))]
   rw[this];exact ih st λc hc=>h c (ao0 _ hc)
 exact key cs (F,[]) h
theorem aga{cs:List cS}(h:ab3 cs=true): ∃Ls R,Ld cs Ls R:=by
 unfold ab3 at h;simp only[anh,decide_eq_true_eq,axg,List.any_eq_true]at h;obtain⟨⟨⟨⟨⟨⟨⟨⟨⟨⟨h1,h2⟩,h3⟩,h4⟩,h5⟩,h6⟩,h7⟩,h8⟩,h9⟩,h10⟩,h11⟩:=h;have hN: ∀x∈a_ cs,bZ x:=λx hx=>uU (h8 x hx);have hp:=xC (dz cs) (a_ cs) hN;obtain⟨k1,k2⟩:=B8 (ab:=dz cs) (cs:=cs) (ns:=a_ cs) (P:=λL=>BS L=true∧∀c∈L.rules,c∈cs) (iz (dz cs) (a_ cs) hN) ([],[]) (λ_ h=>nomatch h) λn hn=>⟨h11 n (hp.mem_iff.1 hn),λc hc=>(List.mem_filter.1 hc).1⟩;rw[hp.length_eq]at k2;have k3: ∀L∈(qc (dz cs) cs (a_ cs) (iz (dz cs) (a_ cs) hN)).2,BS L=true∧∀c∈L.rules,c∈cs:=k1;have k4:(qc (dz cs) cs (a_ cs) (iz (dz cs) (a_ cs) hN)).2.length≤0+(a_ cs).length:=k2;have k5: ∀L∈(qc (dz cs) cs (a_ cs) (iz (dz cs) (a_ cs) hN)).2,L.rules.length≤1048576:=by
  have key: ∀L∈(qc (dz cs) cs (a_ cs) (iz (dz cs) (a_ cs) hN)).2,L.rules.length≤cs.length:=
   (B8 (ab:=dz cs) (cs:=cs) (ns:=a_ cs) (P:=λL=>L.rules.length≤cs.length) (iz (dz cs) (a_ cs) hN) ([],[]) (λ_ h=>nomatch h) λn _=>List.length_filter_le _ _).1
  intro L hL;have:=key L hL;omega
 refine⟨_,λ_ F=>F=bR,by omega,λc hc=>(uh (h2 c hc)).2.2,λk=>?_,⟨hN,rfl⟩,λe=>h7 (by rw[e];rfl),h6,by omega,by omega,λL hL=>⟨k5 L hL,λc hc=>⟨(uh (h2 c ((k3 L hL).2 c hc))).1,(uh (h2 c ((k3 L hL).2 c hc))).2.1⟩⟩,λc hc=>⟨(uh (h2 c hc)).1.1,(uh (h2 c hc)).2.1,by obtain⟨p,hp,he⟩:=h10 c hc;exact amk.2 ⟨p,hp,he⟩⟩,by rw[Jb h4];exact arQ _,by rw[Jb h4];rfl,λsb bs ps K N _ q2 q3 _ _ _ _=>MZ (λL hL=>⟨(k3 L hL).1,k5 L hL,λc hc=>AX (h3 c ((k3 L hL).2 c hc))⟩) q2 q3⟩;by_cases hk:k≤cs.length
 ·have:=h5 k (List.mem_range.2 aj);omega
 ·rw[at4 aj];omega
end Go.Proofs.YtkdljbnllgpfhaaGreat
end
