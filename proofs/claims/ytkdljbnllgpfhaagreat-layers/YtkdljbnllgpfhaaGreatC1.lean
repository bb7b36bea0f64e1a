import Derived.Test.YtkdljbnllgpfhaaGreatB1
import Derived.Test.YtkdljbnllgpfhaaGreatB4
import Derived.Test.YtkdljbnllgpfhaaGreatB7
import Derived.Test.YtkdljbnllgpfhaaGreatB9
import Derived.Test.YtkdljbnllgpfhaaGreatC0
import Derived.Laws.IdiomStrings
import Derived.Ground.Names2Prog
import Derived.Shelf.Sort.Plain
import Derived.Shelf.Slices.In.SortNone
import Derived.Shelf.Strings.BuilderCap
import Derived.Shelf.Strings.BuilderF
set_option maxRecDepth 100000
set_option maxHeartbeats 8000000
open List renaming size_toArray→aqk,getElem?_eq_getElem→arn,length_eq_zero_iff→avo,length_map→auB,length_append→ap2,mem_map→amk,getElem?_take→aw6,length_nil→auK,length_filter_le→avN,getElem?_map→anr,length_cons→as2,getElem?_eq_some_iff→apT,take_of_length_le→at4,length_mergeSort→aw8,getElem?_eq_none→avj,mem_of_getElem?→ann,take_add_one→at8,append_assoc→aw9,replicate→amN,mem_cons→ap9,map_cons→amY
open Go renaming lt_of_block→atm,World→aly,Value→aad,heap_alloc_new→atp,cell_of_row→aqF,Calls→asP,callsIn_wide→av7,Program→alu,bodyPost_ret→atg,Frame→aoz
open Go.Code renaming region→apN,skip→aqy,cond→aqA,ret→asJ,block→aqj
open Nat renaming zero_add→arN,le_trans→al2,zero_le→arQ,lt_of_lt_of_le→amC,le_refl→agl,le_succ→atZ,add_zero→at6,lt_succ_self→atG,lt_or_ge→asV,mul_one→aup
open Array renaming getElem?_toList→an0,getElem?_eq_getElem→arZ,length_toList→ane
open Go.Lib renaming byteCells→aw5,join→au8,BuilderAtF→axa,strCells→axc
open Go.Value renaming string→at5,oneCell'→atv
open Go.Fence renaming wide→avM
open Go.Sort renaming HoldsK→awR,insertionSort→awD,ahead→awF
open Prod renaming fst→aug
open Go.Shelf renaming Ren→asR
open Int renaming tmod_eq_emod_of_nonneg→aw7,neg_tmod→axd
open Go.RowKit renaming Hid→at3
open Go.World renaming putObj_heap_same→avU
open Go.Operand renaming tmp→apH
open Go.Proofs.SlLaysZ renaming n7→awU
open UInt8 renaming ofNat→aoq
open Go.Proofs.Lays renaming n190→axb
open Go.Value.slice renaming inj→av5
open Option.some renaming inj→alN
open Classical renaming byContradiction→aoO
open ByteArray renaming size_append→axe,empty→ati,data_append→axf
open Go.Proofs.SlLaysF0 renaming n20→aw4
open Function renaming comp_def→awz
section
namespace Go.Proofs.YtkdljbnllgpfhaaGreat
open Go Go.RowKit Go.Upr
theorem agP:eL Tryz.prog 131 5 1 1:= .mk' Tryz.underlying131 (z:= .int .u8 0) ar rfl aI
def Oa(b:UInt8):Value:= .int .u8 (b.toNat:Int)
def RdB(_:Hp)(c:List aad)(x:UInt8):Prop:=c= [Oa x]
theorem Ri{α:Type}(f:α→aad)(ns:List α):(ns.map λx=> [f x]).flatten=ns.map f:=by
 induction ns with
 |nil=>rfl
 |cons a l ih=>rw[amY,List.flatten_cons,ih];rfl
theorem aw.Uz{α:Type}{w:aly}{N e:Nat}{R:Hp→List aad→α→Prop}{k:Hp}{v:aad}{ns:List α}(f:α→aad)(hR: ∀c x,R k c x→c= [f x])(h:aw w N e 1 R k v ns)(hne:ns≠ []): ∃g cap cur,v= .slice (some ⟨g,0,none⟩) ns.length cap∧N≤g∧w.heap[g]? =some (.cells cur e)∧∀ (i:Nat) x,ns[i]? =some x→cur[i]? =some (f x):=by
 obtain⟨_,_,dS,h1,_,h3,h4⟩:=h;rcases h4.2 with⟨_,h5⟩|⟨g,cap,cur,rfl,h5,h6,_,_,_,h7⟩
 ·exact absurd (avo.1 h5) hne
 ·refine⟨g,cap,cur,rfl,h5,h6,λi x hx=>?_⟩;have h8:dS=ns.map λx=> [f x]:=by
   apply List.ext_getElem?;intro j;rw[anr];by_cases hj:j<ns.length
   ·have hc:dS[j]? =some dS[j]:=arn aj;have hy:ns[j]? =some ns[j]:=arn hj;rw[hc,hy];exact congrArg some (hR _ _ (h3 j _ _ hc hy))
   ·rw[avj aj,avj aj];rfl
  rw[h8,Ri,aup]at h7;have hi:=(apT.1 hx).1;have h10:=congrArg (λl=>l[i]?) h7;rw[aw6,if_pos hi,anr,hx,an0]at h10;exact h10
def mj:Nat→Nat→List UInt8
 |0,_=> []
 |f+1,w=>if w=0 then []else aoq (w/72057594037927936)::mj f (w*256 % 18446744073709551616)
def rU(w:Nat):ByteArray:=⟨(mj 8 w).toArray⟩
theorem ach{w:aly}(u:Nat)(h0:u≠0)(hu:u<18446744073709551616):
  asP Tryz.prog 102 #[.int .u64 (u:Nat)] w λe w'=>e= .returned (.string (rU u))∧af (λ_=>False) w w':=by
 have lr:aw w w.heap.size 5 1 RdB ko (.slice none 0 0) []:= .nil (mR _);go_enter Tryz.func102,Tryz.ntmps102;go_wp2
 go_loopg [0,3] 8 (λgk x v wr=>∃ (k cur:Nat) (bs:List UInt8),k+gk=8∧x= .int .u64 (cur:Nat)∧cur<18446744073709551616∧256^k ∣ cur∧bs.length=k∧at3 (bs++mj (8- k) cur=mj 8 u)∧af (λ_=>False) w wr∧aw wr w.heap.size 5 1 RdB ko v bs)
 case atStart=>exact⟨0,u,[],by omega,rfl,hu,by simp,rfl,(rfl: []++mj (8- 0) u=mj 8 u),af.refl _ _,lr⟩
 case round=>
  clear lr;obtain⟨k,cur,bs,hkg,rfl,bW,hdv,hbl,HB,hT,hm⟩:=hrel;by_cases hc0:cur=0
  ·subst hc0;have hte:mj (8- k) 0= []:=by
    cases 8- k<;>simp[mj]
   rw[hte,List.append_nil]at HB;have hne:bs≠ []:=by
    rw[HB.out,mj,if_neg h0];exact λh=>nomatch h
   obtain⟨g,cap,cl,rfl,hgN,xQ,sU⟩:=aw.Uz Oa (λ_ _ h=>h) hm hne
   have hcv:=run_convert_bytes_back (P:=Tryz.prog) wr 131 9 5 ⟨g,0,none⟩ cap bs Tryz.underlying131 Tryz.underlying5 Tryz.underlying9 (λj hj=>by
    rw[Addr.add_lit,arN];refine(aqF wr g j _ 5 (0,0) xQ).trans ?_
    exact sU j _ (arn hj))
   have HB2:at3 (bs=mj 8 u):=HB.out;clear HB hm xQ sU hdv hte;replace hbl:at3 _:=hbl;go_wp2;go_ret;exact⟨by rw[HB2.out];rfl,hT⟩
  ·have hk8:k<8:=by
    rcases asV k 8 with h|h
    ·exact h
    ·obtain rfl:k=8:=by omega
     have:=Nat.le_of_dvd aj hdv;omega
   obtain⟨m,rfl⟩: ∃m,gk=m+1:=⟨gk- 1,by omega⟩;have hb:((cur:Int) != 0)=true:=by rw[bne_iff_ne];omega
   obtain⟨b,R4⟩: ∃b,b=aoq (cur/72057594037927936):=⟨_,rfl⟩;have hbv:at3 (Value.int .u8 ((cur:Int) /72057594037927936)=Oa b):=by
    show _=_;have h1:cur/72057594037927936<256:=by omega
    have h2:b.toNat=cur/72057594037927936:=by rw[R4,UInt8.toNat_ofNat',Nat.mod_eq_of_lt h1]
    unfold Oa;rw[h2,Int.natCast_ediv];rfl
   have HN:at3 (mj (8- k) cur=b::mj (8-(k+1)) (cur*256 % 18446744073709551616)):=by
    show _=_;obtain⟨q,hq⟩: ∃q,8- k=q+1:=⟨7- k,by omega⟩;have pj:8-(k+1)=q:=by omega
    rw[hq,pj,mj,if_neg hc0,R4]
   have aik:256^ (k+1) ∣ cur*256 % 18446744073709551616:=by
    have h1:256^ (k+1) ∣ cur*256:=by rw[Nat.pow_succ];exact Nat.mul_dvd_mul_right hdv 256
    have h2:256^ (k+1) ∣ 18446744073709551616:=by
     have:(18446744073709551616:Nat)=256^8:=by decide
     rw[this];exact Nat.pow_dvd_pow 256 aj
    exact(Nat.dvd_mod_iff h2).2 h1
   have abJ:bs.length<8:=by omega
   clear R4 hdv;replace hbl:at3 _:=hbl;have hz:=hT.size;go_wp2_with (first|(rw[hb];clear hb)|(at_builtin;refine bK agP rfl (.tmp 8) (.tmp 12) rfl hm rfl b #[.int .u8 ((cur:Int) /72057594037927936)] (by show [_]= [_];rw[hbv.out]) rfl (by simp[atv]) rfl rfl aj aj aj ?_;intro g4 lK w6 gQ bH _));have ik:IntKind.u64.wrap ((cur:Int)*256)=((cur*256 % 18446744073709551616:Nat):Int):=by simp[IntKind.wrap,IntKind.bits,IntKind.signed]
   go_roundg m
   case measure=>exact atG m
   case rel=>exact⟨k+1,cur*256 % 18446744073709551616,bs++ [b],by omega,by rw[ik],Nat.mod_lt _ aI,aik,by rw[ap2,hbl.out];rfl,(by rw[aw9,←HB.out,HN.out];rfl:bs++ [b]++mj (8-(k+1)) (cur*256 % 18446744073709551616)=mj 8 u),hT.bL bH λq hq=> .inl (hm.own q hq).1,gQ⟩
end Go.Proofs.YtkdljbnllgpfhaaGreat
end
section
namespace Go.Upr
open Go Go.RowKit
variable{P:alu}{ops:Array Oper}{rest:List Oper}{o:Oper}{a:Act}{Q:Exit→Act→aly→Prop}{w:aly}{t:TypeId}
theorem jF(hg:Region.wanted o (yielded ops a.tmps)=true)(m i:Operand)(hop:o.op= .index t m i){v k u:aad}(hm:a.eval m=v)(hi:a.eval i=k)(hr: ∀w,(Instr.index t v k).run P w= .ok u w)(hk:wpList P ops Q rest (a.put o.dst u) w):wpList P ops Q (o::rest) a w:=by
 refine wpList_want hg λK' hK'=>?_;unfold Oper.wp;simp[execOp,hop,hm,hi,hr w,Result.andThen];exact hK' _ _ hk
end Go.Upr
namespace Go.Proofs.YtkdljbnllgpfhaaGreat
open Go Go.RowKit Go.Upr
def eW(ws:List Nat):List ByteArray:=(ws.filter (·≠0)).map rU
theorem wj(ws:List Nat)(x:Nat):eW (ws++ [x])=if x=0 then eW ws else eW ws++ [rU x]:=by
 unfold eW;rw[List.filter_append,List.map_append];by_cases h:x=0
 ·rw[if_pos h];simp[h]
 ·rw[if_neg h];simp[h]
theorem c55{w:aly}{a b c:Nat}(ht:fq (a,b,c)):
  asP Tryz.prog 55 #[br (a,b,c)] w λe w'=>∃v,e= .returned v∧af (λ_=>False) w w'∧aw w' w.heap.size 9 1 gX ko v (eW [a,b,c]):=by
 unfold br;obtain⟨ha,hb,hc⟩:=ht;dsimp only at ha hb hc;obtain⟨W,hW⟩: ∃W,W=w.alloc (.cells #[.int .u64 a,.int .u64 b,.int .u64 c] 116):=⟨_,rfl⟩;have bM:af (λ_=>False) w W:=by rw[hW];exact(af.refl _ w).alloc _
 have hz0:=bM.size;have lr:aw W w.heap.size 9 1 gX ko (.slice none 0 0) (eW []):= .nil (mR _);have H1:at3 (eW [a]=if a=0 then eW []else eW []++ [rU a]):=wj [] a;have H2:at3 (eW [a,b]=if b=0 then eW [a]else eW [a]++ [rU b]):=wj [a] b;have H3:at3 (eW [a,b,c]=if c=0 then eW [a,b]else eW [a,b]++ [rU c]):=wj [a,b] c;have hl: ∀ws:List Nat,(eW ws).length≤ws.length:=λws=>by unfold eW;rw[auB];exact avN _ _
 have l0:(eW []).length≤3:=by have:=hl [];rw[auK]at this;omega
 have l1:(eW [a]).length≤3:=al2 (hl [a]) bz;have l2:(eW [a,b]).length≤3:=al2 (hl [a,b]) bz;clear hl;generalize eW []=x0 at*;generalize eW [a]=x1 at*;generalize eW [a,b]=x2 at*;generalize eW [a,b,c]=x3 at*;go_enter Tryz.func55,Tryz.ntmps55;go_wp2;rw[←hW];clear hW
 go_loopw [3,7] (λv i wr=>∃k xs,k≤3∧i= .int .i64 (k:Nat)∧af (λ_=>False) w wr∧aw wr w.heap.size 9 1 gX ko v xs∧at3 (xs=if k=0 then x0 else if k=1 then x1 else if k=2 then x2 else x3)) (λ_ i _=>3-(intOf i).toNat)
 case atStart=>exact⟨0,x0,by omega,rfl,bM,lr,(rfl:x0=if 0=0 then x0 else if 0=1 then x1 else if 0=2 then x2 else x3)⟩
 case round=>
  clear lr;obtain⟨k,xs,hk,rfl,hT,hm,hx⟩:=hrel;obtain rfl|rfl|rfl|rfl:k=0∨k=1∨k=2∨k=3:=by omega
  ·obtain rfl:xs=x0:=hx.out;clear hx;by_cases h0:a=0
   ·rw[if_pos h0]at H1;have hd:(((a:Nat):Int) != 0)=false:=by rw[h0];rfl
    replace h0:at3 _:=h0;go_wp2_with (first|(refine jF rfl (.tmp 6) (.tmp 7) rfl rfl rfl (u:= .int .u64 (a:Nat)) (λw=>by kernel_rfl) ?_)|(rw[hd];clear hd));go_roundw
    case rel=>exact⟨1,xs,by omega,by go_num,hT,hm,H1.out.symm⟩
    case measure=>first|decide|(simp[intOf];omega)|simp[intOf]
   ·rw[if_neg h0]at H1;have hd:(((a:Nat):Int) != 0)=true:=by rw[bne_iff_ne];omega
    have k1:=λw=>ach (w:=w) a h0 ha;replace h0:at3 _:=h0;have hz:=hT.size;go_wp2_with (first|(refine jF rfl (.tmp 6) (.tmp 7) rfl rfl rfl (u:= .int .u64 (a:Nat)) (λw=>by kernel_rfl) ?_)|(rw[hd];clear hd)|(go_at_call 102;refine(k1 _).mono ?_;clear k1;rintro e w2 ⟨rfl,aF⟩;have il:=hm.turn aF (λ_ _=>id) (λ_ _ _=>id);have hz2:=aF.size)|(at_builtin;refine bK D9 rfl (.tmp 12) (.tmp 15) rfl il rfl (rU a) #[.string (rU a)] rfl rfl (by simp[atv]) rfl rfl aj aj aj ?_;intro g4 lK w6 gQ bH _));go_roundw
    case rel=>exact⟨1,_,by omega,by go_num,(hT.trans aF).bL bH λq hq=> .inl (il.own q hq).1,gQ,H1.out.symm⟩
    case measure=>first|decide|(simp[intOf];omega)|simp[intOf]
  ·obtain rfl:xs=x1:=hx.out;clear hx;by_cases h0:b=0
   ·rw[if_pos h0]at H2;have hd:(((b:Nat):Int) != 0)=false:=by rw[h0];rfl
    replace h0:at3 _:=h0;go_wp2_with (first|(refine jF rfl (.tmp 6) (.tmp 7) rfl rfl rfl (u:= .int .u64 (b:Nat)) (λw=>by kernel_rfl) ?_)|(rw[hd];clear hd));go_roundw
    case rel=>exact⟨2,xs,by omega,by go_num,hT,hm,H2.out.symm⟩
    case measure=>first|decide|(simp[intOf];omega)|simp[intOf]
   ·rw[if_neg h0]at H2;have hd:(((b:Nat):Int) != 0)=true:=by rw[bne_iff_ne];omega
    have k1:=λw=>ach (w:=w) b h0 hb;replace h0:at3 _:=h0;have hz:=hT.size;go_wp2_with (first|(refine jF rfl (.tmp 6) (.tmp 7) rfl rfl rfl (u:= .int .u64 (b:Nat)) (λw=>by kernel_rfl) ?_)|(rw[hd];clear hd)|(go_at_call 102;refine(k1 _).mono ?_;clear k1;rintro e w2 ⟨rfl,aF⟩;have il:=hm.turn aF (λ_ _=>id) (λ_ _ _=>id);have hz2:=aF.size)|(at_builtin;refine bK D9 rfl (.tmp 12) (.tmp 15) rfl il rfl (rU b) #[.string (rU b)] rfl rfl (by simp[atv]) rfl rfl aj aj aj ?_;intro g4 lK w6 gQ bH _));go_roundw
    case rel=>exact⟨2,_,by omega,by go_num,(hT.trans aF).bL bH λq hq=> .inl (il.own q hq).1,gQ,H2.out.symm⟩
    case measure=>first|decide|(simp[intOf];omega)|simp[intOf]
  ·obtain rfl:xs=x2:=hx.out;clear hx;by_cases h0:c=0
   ·rw[if_pos h0]at H3;have hd:(((c:Nat):Int) != 0)=false:=by rw[h0];rfl
    replace h0:at3 _:=h0;go_wp2_with (first|(refine jF rfl (.tmp 6) (.tmp 7) rfl rfl rfl (u:= .int .u64 (c:Nat)) (λw=>by kernel_rfl) ?_)|(rw[hd];clear hd));go_roundw
    case rel=>exact⟨3,xs,by omega,by go_num,hT,hm,H3.out.symm⟩
    case measure=>first|decide|(simp[intOf];omega)|simp[intOf]
   ·rw[if_neg h0]at H3;have hd:(((c:Nat):Int) != 0)=true:=by rw[bne_iff_ne];omega
    have k1:=λw=>ach (w:=w) c h0 hc;replace h0:at3 _:=h0;have hz:=hT.size;go_wp2_with (first|(refine jF rfl (.tmp 6) (.tmp 7) rfl rfl rfl (u:= .int .u64 (c:Nat)) (λw=>by kernel_rfl) ?_)|(rw[hd];clear hd)|(go_at_call 102;refine(k1 _).mono ?_;clear k1;rintro e w2 ⟨rfl,aF⟩;have il:=hm.turn aF (λ_ _=>id) (λ_ _ _=>id);have hz2:=aF.size)|(at_builtin;refine bK D9 rfl (.tmp 12) (.tmp 15) rfl il rfl (rU c) #[.string (rU c)] rfl rfl (by simp[atv]) rfl rfl aj aj aj ?_;intro g4 lK w6 gQ bH _));go_roundw
    case rel=>exact⟨3,_,by omega,by go_num,(hT.trans aF).bL bH λq hq=> .inl (il.own q hq).1,gQ,H3.out.symm⟩
    case measure=>first|decide|(simp[intOf];omega)|simp[intOf]
  ·obtain rfl:xs=x3:=hx.out;clear hx;obtain⟨va,vc,rfl⟩:=hm.shape;go_wp2;go_ret;exact⟨_,rfl,hT,hm⟩
end Go.Proofs.YtkdljbnllgpfhaaGreat
end
section
namespace Go.Proofs.YtkdljbnllgpfhaaGreat
open Go Go.RowKit Go.Upr Go.Lib Go.Sort
theorem ac9:eL Tryz.prog 24 42 3 48:= .mk' Tryz.underlying24 (z:= .agg #[.string ati,.slice none 0 0,.bool false]) ar rfl aI
theorem aw.ZC{w:aly}{N:Nat}{k:Hp}{v:aad}{xs:List Cg}(h:aw w N 156 5 dH k v xs)(hne:xs≠ []): ∃g cap,v= .slice (some ⟨g,0,none⟩) xs.length cap∧N≤g∧g<w.heap.size∧awR Cg.cells 5 w g 0 xs.toArray:=by
 obtain⟨_,_,dS,h1,h2,h3,h4⟩:=h;rcases h4.2 with⟨_,h5⟩|⟨g,cap,cur,rfl,h5,h6,_,_,_,h7⟩
 ·exact absurd (avo.1 h5) hne
 ·refine⟨g,cap,rfl,h5,atm h6,λj hj=>?_⟩;rw[size_flatK,aqk]at hj;refine⟨?_,eY h6⟩;rw[arN,id,get_flatK Cg.cells 5 xs.toArray j (by rw[aqk];exact hj)];refine(aqF w g j _ 156 (0,0) h6).trans ?_;have hi:j/5<xs.length:=by omega
  have hx:xs[j/5]? =some xs[j/5]:=arn hi;have hc:dS[j/5]? =some dS[j/5]:=arn aj;have h8:dS[j/5]=xs[j/5].cells:=h3 _ _ _ hc hx;have h9:=rF h2 (j/5) (j % 5) aj hc;have h10:j/5*5+j % 5=j:=by omega
  rw[h10,←h7,aw6,if_pos hj,an0,h8]at h9;rw[h9];have h11:xs.toArray[j/5]! =xs[j/5]:=by rw[getElem!_pos xs.toArray (j/5) (by rw[aqk];exact hi)];simp
  rw[h11,getElem!_pos xs[j/5].cells (j % 5) (by show _<5;omega)];exact arn (by show _<5;omega)
def aaX(_:Hp)(_:List aad)(_:Unit):Prop:=True
theorem c45{w:aly}{N:Nat}{v:aad}{xs:List Cg}(hm:aw w N 156 5 dH ko v xs)(hne:xs≠ [])(ky:xs.length≤12)(gH: ∀x∈xs,fq x.t):
  asP Tryz.prog 45 #[v] w λe w'=>∃ad c,e= .returned (.slice ad xs.length c)∧af (λb=>v.ownBlock=some b) w w':=by
 obtain⟨g,cap,rfl,hgN,o8,hH⟩:=aw.ZC hm hne;have hsz:xs.toArray.size=xs.length:=aqk ..;have k1:=c88 (cap:=cap) hH o8 aj;have hall:=A0 (R:=λx:Cg=>fq x.t) (ltOf XO) 0 xs.toArray.size xs.toArray λi=>by
  by_cases hi:i<xs.length
  ·have h11:xs.toArray[i]! =xs[i]:=by rw[getElem!_pos xs.toArray i aj];simp
   rw[h11];exact gH _ (List.getElem_mem hi)
  ·rw[getElem!_neg xs.toArray i aj];exact⟨by decide,by decide,by decide⟩
 obtain⟨d,hd⟩: ∃d,d=insertionSort (ltOf XO) xs.toArray 0 xs.toArray.size:=⟨_,rfl⟩;rw[←hd]at k1 hall;obtain⟨hR,z_⟩:=hall;rw[hsz]at k1 z_
 suffices H: ∀n:Nat,xs.length=n→asP Tryz.prog 45 #[.slice (some ⟨g,0,none⟩) n cap] w λe w'=>∃ad c,e= .returned (.slice ad n c)∧af (·=g) w w' from by
  refine(H _ rfl).mono ?_;rintro e w' ⟨ad,c,rfl,ht⟩;exact⟨ad,c,rfl,ht.mono λb _ (hb:b=g)=>by rw[hb];rfl⟩
 intro n KA;rw[KA]at k1 z_ ky;clear KA hd hsz gH hm hH hne;go_enter Tryz.func45,Tryz.ntmps45;go_wp2_with (go_at_call 88;refine k1.mono ?_;clear k1;rintro e w2 ⟨rfl,aF,XB⟩);have ak9:g<w2.heap.size:=amC o8 aF.size;have lr:aw w2 w2.heap.size 42 3 aaX ko (.slice none 0 0) (amN 0 ()):= .nil (mR _)
 go_loopw [3,10] (λv i wr=>∃k,k≤n∧i= .int .i64 (k:Nat)∧af (λ_=>False) w2 wr∧aw wr w2.heap.size 42 3 aaX ko v (amN k ())) (λ_ i _=>n-(intOf i).toNat)
 case atStart=>exact⟨0,arQ _,rfl,af.refl _ _,lr⟩
 case round=>
  clear lr;obtain⟨k,hk,rfl,hT,hm⟩:=hrel;by_cases hlt:k<n
  ·have cell:=λc (hc:c<5)=>hT.cell (XB.cell (i:=k) aj hc).1 id;have hRk:=hR k;have c0:=cell 0 aj;have c1:=cell 1 aj;have c2:=cell 2 aj;have c3:=cell 3 aj;have c4:=cell 4 aj;clear cell;simp only[arN,at6]at c0 c1 c2 c3 c4;generalize d[k]! =y at c0 c1 c2 c3 c4 hRk;obtain⟨nm,⟨a,b,c⟩,gone⟩:=y;change wr.cell? ⟨g,k*5,none⟩=some (.string nm)at c0;change wr.cell? ⟨g,k*5+1,none⟩=some (.int .u64 a)at c1;change wr.cell? ⟨g,k*5+2,none⟩=some (.int .u64 b)at c2;change wr.cell? ⟨g,k*5+3,none⟩=some (.int .u64 c)at c3;change wr.cell? ⟨g,k*5+4,none⟩=some (.bool gone)at c4;obtain⟨wa,gY⟩: ∃x,x=wr.alloc (.cells #[.string nm,.int .u64 a,.int .u64 b,.int .u64 c,.bool gone] 156):=⟨_,rfl⟩;obtain⟨P,zw⟩: ∃x,x=wr.heap.size:=⟨_,rfl⟩;have tA:af (λ_=>False) wr wa:=by rw[gY];exact(af.refl _ _).alloc _
   have o9:wa.heap[P]? =some (.cells #[.string nm,.int .u64 a,.int .u64 b,.int .u64 c,.bool gone] 156):=by rw[gY,zw];exact atp _ _
   have p0:wa.cell? ⟨P,0,none⟩=some (.string nm):=(aqF wa P 0 _ 156 (0,0) o9).trans rfl;have p1:wa.cell? ⟨P,1,none⟩=some (.int .u64 a):=(aqF wa P 1 _ 156 (0,0) o9).trans rfl;have p2:wa.cell? ⟨P,2,none⟩=some (.int .u64 b):=(aqF wa P 2 _ 156 (0,0) o9).trans rfl;have p3:wa.cell? ⟨P,3,none⟩=some (.int .u64 c):=(aqF wa P 3 _ 156 (0,0) o9).trans rfl;have p4:wa.cell? ⟨P,4,none⟩=some (.bool gone):=(aqF wa P 4 _ 156 (0,0) o9).trans rfl;have hpl:=atm o9;have k5:=λw=>c55 (w:=w) (a:=a) (b:=b) (c:=c) hRk;unfold br at k5;have rQ:=hm.turn tA (λ_ _=>id) λ_ _ _=>id;have hza:=(hT.trans tA).size;go_wp2_with (rw[←gY,←zw];clear gY zw);refine aG (λi=>i==5||i==9||i==10||i==11) ar ar ?_;intro S' gg fN gc gf gh gb;iterate 5 (refine ak ar aC aC λK hK=>?_;go_big_quiet_op;refine hK _ ?_;clear hK K)
   refine ai ar aC λQ' hQ=>?_;go_wp2_with (go_at_call 55;refine(k5 _).mono ?_;clear k5;rintro e w4 ⟨vc,rfl,ck,lB⟩);have h4:af (λ_=>False) wa w4:=(af.refl _ _).drew.trans ck;refine hQ _ _ ar (λ_=>gb _ h4.below) ?_;clear hQ Q';obtain⟨vca,vcc,rfl⟩:=lB.shape;iterate 3 (refine ak ar aC aC λK hK=>?_;go_big_quiet_op;refine hK _ ?_;clear hK K)
   refine ai ar aC λQ' hQ=>?_;go_wp2;refine hQ _ _ ar (λ_=>gb _ (h4.alloc _).below) ?_;clear hQ Q';have o0:=rQ.turn h4 (λ_ _=>id) λ_ _ _=>id;have wx:=h4.size;refine ai ar aC λQ' hQ=>?_;refine bK ac9 rfl (.tmp 14) (.tmp 23) rfl o0 rfl () #[.string nm,.slice vca (eW [a,b,c]).length vcc,.bool gone] trivial rfl (by simp[atv]) rfl rfl lq lq aj ?_;intro g6 Am w6 gQ bH _;go_wp2;refine hQ _ _ ar (aX ar) ?_;clear hQ Q';refine ai ar aC λQ' hQ=>?_;go_wp2;refine hQ _ _ ar (aX ar) ?_;clear hQ Q';refine aQ ?_;clear gc gf gh gb fN gg S';go_wp2;go_roundw
   case rel=>exact⟨k+1,by omega,by go_num,((hT.trans tA).trans h4).bL bH λb hb=> .inl (o0.own b hb).1,by rw[List.replicate_succ'];simpa using gQ⟩
   case measure=>simp[intOf];omega
  ·obtain rfl:k=n:=by omega
   obtain⟨va,vc,hv⟩:=hm.shape;rw[List.length_replicate]at hv;subst hv;go_wp2;go_ret;exact⟨va,vc,rfl,aF.trans hT.wider⟩
end Go.Proofs.YtkdljbnllgpfhaaGreat
end
section
namespace Go.Upr
open Go.Conc
theorem az.leads{P:alu}{F:FuncId→Bool}{Q:bF→aoz→List aoz→Prop}{f:Ren}{v v2:aly}{e s:Nat→Option Obj}{b:aoz}{a0 a1:Act}{k:List Item}{cs:List aoz}{ops:Array Oper}
  (H:Held P F) (hk:b.kind≠ .early) (l:List Oper) (i:Nat) (rest:List Nat) (hl:(ops.toList.drop i).take l.length=l) (gH:l.all (λo=>mM P F o&&calm o)=true) (ht:v2.tape=v.tape)
  (h: ∀T,wpList P ops (λe a w=>e= .normal∧a=a1∧∃T',w=ax v2 T') l a0 (ax v T)) (hs:az P F Q f v2 e s b a1 (.inRegion ops rest::k) cs):
  az P F Q f v e s b a0 (.inRegion ops (List.range' i l.length++rest)::k) cs:=by
 refine az.list H hk l i rest (X:=λa w=>a=a1∧∃T,w=ax v2 T) (piece hl) gH h ?_;rintro a2 v1 T h1 ⟨rfl,T',h2⟩;rw[Mv h2 (h1.trans ht.symm)];exact hs
end Go.Upr
namespace Go.Proofs.YtkdljbnllgpfhaaGreat
open Go Go.RowKit Go.Upr Go.Conc
noncomputable abbrev afL:Array Oper:=rg Tryz.f19 0
noncomputable abbrev afK:Array Oper:=rg Tryz.f19 1
noncomputable abbrev afJ:Array Oper:=rg Tryz.f19 2
noncomputable abbrev aak:Array Oper:=rg Tryz.f19 3
noncomputable abbrev afI:Array Oper:=rg Tryz.f19 4
noncomputable abbrev afH:Array Oper:=rg Tryz.f19 5
noncomputable abbrev afG:Array Oper:=rg Tryz.f19 6
noncomputable abbrev afF:Array Oper:=rg Tryz.f19 7
noncomputable abbrev afE:Array Oper:=rg Tryz.f19 8
noncomputable abbrev afD:Array Oper:=rg Tryz.f19 9
noncomputable abbrev acI:Array Oper:=rg Tryz.f19 10
noncomputable abbrev acH:Array Oper:=rg Tryz.f19 11
noncomputable abbrev acG:Array Oper:=rg Tryz.f19 12
noncomputable abbrev adg:Code:=((apN 0 afL false).seq (((apN 1 afK false).seq (aqj 0 ((apN 2 afJ false).seq ((aqA (apH 14) aqy (Code.exit 0)).seq ((aqj 1 ((apN 3 aak false).seq ((apN 4 afI false).seq ((apN 5 afH false).seq (aqA (apH 22) ((apN 6 afG false).seq asJ) aqy))))).seq (apN 7 afF false)))).loop)).seq ((apN 8 afE false).seq (((apN 9 afD false).seq (aqA (apH 34) ((apN 10 acI false).seq asJ) aqy)).seq ((apN 11 acH false).seq ((apN 12 acG false).seq asJ))))))
section
variable{v:aly}{eb nb sb pb mb:Nat}{fn:xU}{bs:dB}{F:aN}{la:Option Addr}{lc:Nat}{ps:List (LB×Lay)}{K:Hp}{N:Nat}{R:Nat→List Cg→aN→Prop}{e s:Nat→Option Obj}{f g:Ren}{h:Hp}{ad:Option Addr}{c:Nat}{x:Ac}
theorem qN.still{w:aly}(E:qN v eb nb sb pb mb fn bs F la lc ps K N)(ht:af (λ_=>False) v w):qN w eb nb sb pb mb fn bs F la lc ps K N:=E.turn ht.wider (E.store.turn ht id λ_ _=>id)
theorem _root_.Go.Upr.av.same{κ ν:Type}{ok:κ→Prop}{key:κ→aad}{enc:ν→aad}{w w':aly}{b:Nat}{l:List (κ×ν)}(h:av w ok key enc b l)(he:w'.heap=w.heap):av w' ok key enc b l:=by
 obtain⟨es,cl,h1,h2⟩:=h;exact⟨es,cl,by rw[he];exact h1,h2⟩
theorem _root_.Go.Upr.aw.onT{α:Type}{v:aly}{M ee sz:Nat}{R:Hp→List aad→α→Prop}{k:Hp}{u:aad}{xs:List α}(h:aw v M ee sz R k u xs)(T:Nat→Question→Nat):aw (ax v T) M ee sz R k u xs:=by
 obtain⟨a1,a2,dS,h1,h2,h3,h4,h5⟩:=h;exact⟨λb o hb=>a1 b o hb,a2,dS,h1,h2,h3,h4,h5⟩
theorem qN.past{w:aly}{u:aad}(E:qN v eb nb sb pb mb fn bs F la lc ps K N)(ht:af (λb=>u.ownBlock=some b) v w)(h6: ∀b,u.ownBlock=some b→∃cur fz,v.heap[b]? =some (.cells cur 156 fz))(hK: ∀b o,K b=some o→¬u.ownBlock=some b):qN w eb nb sb pb mb fn bs F la lc ps K N:=by
 have nm: ∀ {a es cl},v.heap[a]? =some (.map es cl)→¬u.ownBlock=some a:=λha hu=>by
  obtain⟨cur,fz,h1⟩:=h6 _ hu;rw[ha]at h1;cases h1
 have nc: ∀ {a c t fz},v.heap[a]? =some (.cells c t fz)→t≠156→¬u.ownBlock=some a:=λha ht hu=>by
  obtain⟨cur,fz,h1⟩:=h6 _ hu;rw[ha]at h1;cases h1;exact ht rfl
 have mp: ∀ {κ ν:Type} {ok:κ→Prop} {key:κ→aad} {enc:ν→aad} {b:Nat} {l:List (κ×ν)},av v ok key enc b l→¬u.ownBlock=some b:=λh=>by
  obtain⟨es,cl,h1,-⟩:=h;exact nm h1
 refine⟨ht.kept E.xY (nc E.xY aI),E.names.turn ht (mp E.names),E.store.turn ht (mp E.store.top) λp hp=>mp (E.store.dy p hp),E.low,E.KR,E.KS,ht.kept E.pipe (nc E.pipe aI),λj p hp=>?_,E.byName.turn ht (mp E.byName),λp hp=>⟨(E.lays p hp).1,(E.lays p hp).2.turn K.le_refl ht ?_ λmb es cl _ hm=>nm hm⟩,E.known.turn ht hK,E.new,E.news,E.KQ,E.S0⟩
 ·obtain⟨al,lo,cur,h1,h2,h3,h4⟩:=E.list j p hp;exact⟨al,lo,cur,h1,ht.kept h2 (nc h2 aI),h3,h4⟩
 ·obtain⟨ra,rc,h3,hV,h4⟩:=(E.lays p hp).2;split at h4
  ·exact nc h4 aI
  ·obtain⟨mb,h5,h6,h7⟩:=h4;exact nc h6 aI
structure Ap(fn:xU)(bs:dB)(F:aN)(n:Nat)(R:Nat→List Cg→aN→Prop)(x:Ac):Prop where
 gone:x.gone=true
 name:bZ x.n
 size:x.n.size≤281474976710656
 len:x.ss.length≤3
 con: ∀s∈x.ss,zF s
 known:au fn x.n=some (x.ss.length,false)
 ahu:gP (iF bs F x.n) (gC x.ss)=true
 all: ∀p∈fn,(au bs p.1).isSome=true
 few:fn.length≤1048576
 small: ∀n,(F n).length≤1048576
 room: ∀l:xU,(∀p∈fn,p∈l)→(∀p∈l,p∈fn)→(l.map aug).Nodup→qp F l≤24
 okt:fq (gC x.ss)
 start:R 0 [x.cg] (rV F [x.cg])
 told: ∀zs F',R n zs F'→zs≠ []∧zs.length≤12∧∀x∈zs,fq x.t
theorem ZI(E:qN v eb nb sb pb mb fn bs F la lc ps K N)(hw:h.In v)(hcs:h.list 3 acm (.slice ad 1 c) [x])(hn:ps.length≤100)(D:Ap fn bs F ps.length R x)(hst:qF sb bs ps K N R):
  Goes Tryz.prog bG 19 #[.pointer (some ⟨eb,0,none⟩),.slice ad 1 c] f v e s λu v'=>∃ra rc zs F',u= .tuple #[.slice ra zs.length rc,.int .i64 0,.int .i64 1]∧R ps.length zs F'∧qN v' eb nb sb pb mb fn bs F' la lc ps K N:=by
 obtain⟨lu,cp',hv,hat⟩:=hcs.at hw;obtain⟨rfl,-,rfl⟩:ad=lu∧1= [x].length∧c=cp':=by simpa using hv
 obtain⟨ga,oa,cc,rfl,bW,hR,ag⟩:=hat 0 x rfl;obtain⟨xa,xc,rfl,hRs⟩:=hR;have c0:=ag 0 aI;have c1:=ag 1 aI;have c2:=ag 2 aI;simp only[Nat.zero_mul,at6,arN]at c0 c1 c2;clear ag hat hv;refine Goes.of Tryz.func19 (c:=adg) rfl λg c0' cs1 hg=>?_;have ha:(#[.pointer (some ⟨eb,0,none⟩),.slice (some ⟨ga,oa,none⟩) 1 c]:Array aad)++Array.replicate (Tryz.f19.ntmps-(#[.pointer (some ⟨eb,0,none⟩),.slice (some ⟨ga,oa,none⟩) 1 c]:Array aad).size) undef= #[.pointer (some ⟨eb,0,none⟩),.slice (some ⟨ga,oa,none⟩) 1 c,undef,undef,undef,undef,undef,undef,undef,undef,undef,undef,undef,undef,undef,undef,undef,undef,undef,undef,undef,undef,undef,undef,undef,undef,undef,undef,undef,undef,undef,undef,undef,undef,undef,undef,undef,undef,undef,undef,undef,undef,undef,undef,undef,undef,undef,undef,undef,undef,undef,undef]:=by kernel_rfl
 rw[ha];clear ha;refine fR 26 rfl ?_;walk_nrm;refine cQ (.int .i64 1) ?_;walk_nrm;refine fR 15 rfl ?_;walk_nrm;refine cQ (.bool true) ?_;walk_nrm;refine fR 8 rfl ?_;obtain⟨B,hB⟩: ∃y,y=v.heap.size:=⟨_,rfl⟩;refine az.leads (a1:=⟨#[.pointer (some ⟨eb,0,none⟩),.slice (some ⟨ga,oa,none⟩) 1 c,undef,undef,.slice none 0 0,.int .i64 0,.int .i64 0,.int .i64 0,.pointer (some ⟨B,0,none⟩),undef,undef,.slice (some ⟨ga,oa,none⟩) 1 c,.int .i64 1,.int .i64 0,.bool true,.int .i64 0,.pointer (some ⟨ga,oa,none⟩),.agg #[.string x.n,.slice xa x.ss.length xc,.bool x.gone],undef,undef,undef,undef,undef,undef,undef,undef,undef,undef,undef,undef,undef,undef,undef,undef,undef,undef,undef,undef,undef,undef,undef,undef,undef,undef,undef,undef,undef,undef,undef,undef,undef,undef],[]⟩) (v2:=v.alloc (.cells #[.string x.n,.slice xa x.ss.length xc,.bool x.gone] 42)) fC (base_kind _) aak.toList 0 [] rfl mE rfl (λT=>?_) ?_
 ·have d0:(ax v T).cell? ⟨ga,oa,none⟩=_:=c0;have d1:(ax v T).cell? ⟨ga,oa+1,none⟩=_:=c1;have d2:(ax v T).cell? ⟨ga,oa+2,none⟩=_:=c2;go_wp2;exact⟨rfl,T,rfl⟩
 have gI:af (λ_=>False) v (v.alloc (.cells #[.string x.n,.slice xa x.ss.length xc,.bool x.gone] 42)):=(af.refl _ _).alloc _;have sJ:(v.alloc (.cells #[.string x.n,.slice xa x.ss.length xc,.bool x.gone] 42)).heap[B]? =some (.cells #[.string x.n,.slice xa x.ss.length xc,.bool x.gone] 42):=by rw[hB];exact atp _ _
 generalize v.alloc (.cells #[.string x.n,.slice xa x.ss.length xc,.bool x.gone] 42)=v1 at gI sJ⊢;replace E:=E.still gI;replace hw:h.In v1:=hw.turn gI λ_ _ _=>id;clear gI c0 c1 c2 bW hB;refine fR 5 rfl ?_;walk_nrm;refine cQ (.agg #[.string x.n,.slice xa x.ss.length xc,.bool x.gone]) ?_ (hl:=λT=>by obtain⟨b0,b1,b2,-⟩:=bI (w:=ax v1 T) sJ;simp[go_sem,b0,b1,b2]);walk_nrm;refine acl Tryz.func40 (#[.pointer (some ⟨eb,0,none⟩),.agg #[.string x.n,.slice xa x.ss.length xc,.bool x.gone]])
  (Post:=λw u w'=>u= .int .i64 0∧af (λ_=>False) w w') (λT=>?_) λT T' u v2 aF zX=>?_
 ·refine(ai0 (h:=h) (w:=ax v1 T) hw E.xY (E.names.same rfl) D.name hRs (by have:=D.len;omega) D.con x.gone D.known).mono ?_;rintro ex w' ⟨rfl,h1⟩;exact⟨_,rfl,rfl,h1⟩
 obtain⟨rfl,dK⟩:=zX;replace dK:=dK.off aF;replace E:=E.still dK;replace hw:h.In v2:=hw.turn dK λ_ _ _=>id;clear dK sJ;walk_nrm;refine fR 26 rfl ?_;walk_nrm;refine cQ (.bool false) ?_;walk_nrm;refine fR 20 rfl ?_;refine cQ (.int .i64 1) ?_ (hl:=λT=>by simp[go_sem];decide);walk_nrm;refine fR 14 rfl ?_;walk_nrm;refine cQ (.bool false) ?_;walk_nrm;refine fR 8 rfl ?_;walk_nrm;refine acl Tryz.func41 (#[.pointer (some ⟨eb,0,none⟩),.slice (some ⟨ga,oa,none⟩) 1 c])
  (Post:=λw u w'=>af (λ_=>False) w w'∧lL w' w.heap.size 156 5 dH ko u [x.cg]) (λT=>?_) λT T' u v3 bX hp3=>?_
 ·refine(c41 (h:=h) (w:=ax v2 T) hw hcs D.gone D.size D.len E.xY (E.store.keep λ_ _ _ _ h=>h) D.ahu).mono ?_;rintro ex w' ⟨u,rfl,h1⟩;exact⟨_,rfl,h1⟩
 obtain⟨eN,rR⟩:=hp3;replace eN:=eN.off bX;replace rR:lL v3 v2.heap.size 156 5 dH ko u [x.cg]:=⟨rR.toaw.adq,λg hg=>rR.flat g hg⟩;have fD: ∀p∈bs,p.2<v2.heap.size:=λp hp=>(E.store.dy p hp).lt;replace E:=E.still eN;clear eN hw;obtain⟨ub,uc,rfl⟩:=rR.toaw.shape;walk_nrm;refine fR 6 rfl ?_;walk_nrm;refine acl Tryz.func42 (#[.pointer (some ⟨eb,0,none⟩)])
  (Post:=λw u w'=>(∃m:Nat,m≤24∧u= .int .i64 m)∧af (λ_=>False) w w') (λT=>?_) λT T' u v4 ck hp4=>?_
 ·refine(c42 (w:=ax v3 T) E.xY (E.names.same rfl) (E.store.keep λ_ _ _ _ h=>h) D.all D.few D.small).mono ?_;rintro ex w' ⟨l,k1,k2,k3,rfl,h1⟩;exact⟨_,rfl,⟨_,D.room l k1 k2 k3,rfl⟩,h1⟩
 obtain⟨⟨m,hm,rfl⟩,xX⟩:=hp4;replace xX:=xX.off ck;replace E:=E.still xX;replace rR:=rR.turn xX (λ_ _=>id) λ_ _ _=>id;clear xX;walk_nrm;refine fR 1 rfl ?_;walk_nrm;refine acl Tryz.func43 (#[.slice ub [x.cg].length uc])
  (Post:=λw u w'=>u= .int .i64 (-1)∧af (λ_=>False) w w') (λT=>?_) λT T' u v5 bA hp5=>?_
 ·obtain⟨k,k1,-,-,k2⟩:=rR.toaw.done λ_ _ _ _ h=>h;refine(c43 (h:=k) (w:=ax v4 T) k1 k2 bz).mono ?_;rintro ex w' ⟨rfl,h1⟩;refine⟨_,rfl,?_,h1⟩;simp[rX,w_,Ac.cg,D.gone]
 obtain⟨rfl,iW⟩:=hp5;replace iW:=iW.off bA;replace E:=E.still iW;replace rR:=rR.turn iW (λ_ _=>id) λ_ _ _=>id;clear iW;walk_nrm;obtain⟨z,hz,hz2⟩: ∃z:Int,z=(m:Int)+ -1∧¬z>24:=⟨_,rfl,by omega⟩;refine fR 12 rfl ?_;refine cQ (.int .i64 z) ?_ (hl:=λT=>by simp[go_sem];rw[IntKind.wrap_i64];omega);walk_nrm;refine fR 11 rfl ?_;refine cQ (.bool false) ?_ (hl:=λT=>by simp[go_sem];omega);walk_nrm;refine fR 10 rfl ?_;walk_nrm;refine cQ (.pointer (some ⟨eb,0,none⟩)) ?_;walk_nrm;refine fR 4 rfl ?_;refine cQ (.pointer (some ⟨eb,1,none⟩)) ?_;walk_nrm;refine fR 2 rfl ?_;refine cQ (.map (some sb)) ?_ (hl:=λT=>by obtain⟨l0,l1,l2,-⟩:=bI (w:=ax v5 T) E.xY;simp[go_sem,l1]);walk_nrm;refine fR 1 rfl ?_;walk_nrm;refine acl Tryz.func44 (#[.map (some sb),.slice ub [x.cg].length uc])
  (Post:=λw u w'=>u= .tuple #[]∧af (λb=>∃p∈bs,p.2=b) w w'∧aq w' sb bs (rV F [x.cg])) (λT=>?_) λT T' u v6 bH hp6=>?_
 ·obtain⟨k,k1,-,k3,k2⟩:=rR.toaw.done λ_ _ _ _ h=>h;refine(c44 (h:=k) (w:=ax v5 T) k1 (E.store.keep λ_ _ _ _ h=>h) (λp hp=>?_) k2 bz (λy hy=>?_)).mono ?_
  ·cases hh:k p.2 with
   |none=>rfl
   |some o=>
    rcases k3 _ _ hh with h9|h9
    ·cases h9
    ·have h1:=(rR.toaw.own _ h9).1;have h2:=fD p hp;omega
  ·obtain rfl:=List.mem_singleton.1 hy;refine⟨D.name,D.okt,?_⟩;exact D.all _ (cB D.known)
  ·rintro ex w' ⟨rfl,h1⟩;exact⟨_,rfl,rfl,h1⟩
 obtain⟨rfl,uO,ND⟩:=hp6;replace uO:=uO.off bH;replace ND:aq v6 sb bs (rV F [x.cg]):=ND.keep λ_ _ _ _ h=>h;replace E:=E.turn uO ND
 replace rR:=rR.gB uO (λb hb=>by
  rintro⟨p,hp,rfl⟩;have h1:=(rR.toaw.own _ hb).1;have h2:=fD p hp
  omega) λ_ _ h=>nomatch h
 clear uO ND;walk_nrm;refine fR 8 rfl ?_;walk_nrm;refine cQ (.pointer (some ⟨eb,0,none⟩)) ?_;walk_nrm;refine fR 4 rfl ?_;refine cQ (.pointer (some ⟨eb,2,none⟩)) ?_;walk_nrm;refine fR 2 rfl ?_;refine cQ (.pointer (some ⟨pb,0,none⟩)) ?_ (hl:=λT=>by obtain⟨l0,l1,l2,-⟩:=bI (w:=ax v6 T) E.xY;simp[go_sem,l2]);walk_nrm;refine fR 1 rfl ?_;walk_nrm;have hK6: ∀b o,K b=some o→b<v6.heap.size:=λb o hb=>atm (E.known b o hb);refine XQ Tryz.func46 (#[.pointer (some ⟨pb,0,none⟩),.slice ub [x.cg].length uc]) (E.carry hst hn rR bz D.start) λu v7 hp7=>?_;obtain⟨F7,zs,Bi,E7,Dc⟩:=hp7;obtain⟨g1,g2,g3⟩:=D.told zs F7 Bi;walk_nrm;refine acl Tryz.func45 (#[u])
  (Post:=λw y w'=>∃ra rc,y= .slice ra zs.length rc∧af (λb=>u.ownBlock=some b) w w') (λT=>?_) λT T' y v8 jJ Xo=>?_
 ·refine(c45 (w:=ax v7 T) (Dc.onT T) g1 g2 g3).mono ?_;rintro ex w' ⟨a,b,rfl,h1⟩;exact⟨_,rfl,a,b,rfl,h1⟩
 obtain⟨ra,rc,rfl,zv⟩:=Xo;replace zv:=zv.off jJ;have E8:=E7.past zv (λb hb=>BQ Dc hb) λb o hb h=>by
  have h1:=hK6 b o hb;have h2:=(Dc.own b h).1;omega
 clear zv;walk_nrm;refine fR 6 rfl ?_;walk_nrm;refine cQ (.int .i64 1) ?_;walk_nrm;refine fR 4 rfl ?_;walk_nrm;exact az.leave Tryz.func19 (u:= .tuple #[.slice ra zs.length rc,.int .i64 0,.int .i64 1]) rfl (λw=>by simp[results,go_sem,Tryz.f19]) ⟨ra,rc,zs,F7,rfl,Bi,E8⟩ (Ren.le_refl _)
end
end Go.Proofs.YtkdljbnllgpfhaaGreat
end
namespace Go.Proofs
open Go.Shelf
def Tryz.J2:asR:=⟨λ|190=>157|125=>146|258=>219|128=>198|129=>199|302=>260|303=>261|304=>262|305=>263|306=>264|307=>265|308=>266|309=>267|310=>268|333=>290|329=>250|330=>251|334=>291|335=>292|336=>293|344=>297|n=>n,λ|31=>23|9=>9|3=>3|46=>262|0=>0|51=>270|53=>110|4=>4|183=>334|182=>333|131=>71|5=>5|218=>385|222=>388|228=>416|229=>417|n=>n,λ|n=>n⟩
theorem Tryz.Zp:axb Tryz.prog Tryz.J2:={
 mixed:=by kernel_rfl
 f125:=Tryz.func146.trans (congrArg some ar)
 f128:=Tryz.func198.trans (congrArg some ar)
 f129:=Tryz.func199.trans (congrArg some ar)
 f190:=Tryz.func157.trans (congrArg some ar)
 f258:=Tryz.func219.trans (congrArg some ar)
 f302:=Tryz.func260.trans (congrArg some ar)
 f303:=Tryz.func261.trans (congrArg some ar)
 f304:=Tryz.func262.trans (congrArg some ar)
 f305:=Tryz.func263.trans (congrArg some ar)
 f306:=Tryz.func264.trans (congrArg some ar)
 f307:=Tryz.func265.trans (congrArg some ar)
 f308:=Tryz.func266.trans (congrArg some ar)
 f309:=Tryz.func267.trans (congrArg some ar)
 f310:=Tryz.func268.trans (congrArg some ar)
 f329:=Tryz.func250.trans (congrArg some ar)
 f330:=Tryz.func251.trans (congrArg some ar)
 f333:=Tryz.func290.trans (congrArg some ar)
 f334:=Tryz.func291.trans (congrArg some ar)
 f335:=Tryz.func292.trans (congrArg some ar)
 f336:=Tryz.func293.trans (congrArg some ar)
 f344:=Tryz.func297.trans (congrArg some ar)
 t0:=Tryz.underlying0
 a0:=Tryz.isAgg0
 z0:=Tryz.sizeOf0
 v0:=Tryz.zeroValue0
 t3:=Tryz.underlying3
 a3:=Tryz.isAgg3
 z3:=Tryz.sizeOf3
 v3:=Tryz.zeroValue3
 t4:=Tryz.underlying4
 a4:=Tryz.isAgg4
 z4:=Tryz.sizeOf4
 v4:=Tryz.zeroValue4
 t5:=Tryz.underlying5
 a5:=Tryz.isAgg5
 z5:=Tryz.sizeOf5
 v5:=Tryz.zeroValue5
 t9:=Tryz.underlying9
 a9:=Tryz.isAgg9
 z9:=Tryz.sizeOf9
 v9:=Tryz.zeroValue9
 t31:=Tryz.underlying23
 a31:=Tryz.isAgg23
 z31:=Tryz.sizeOf23
 v31:=Tryz.zeroValue23
 t46:=Tryz.underlying262
 a46:=Tryz.isAgg262
 z46:=Tryz.sizeOf262
 v46:=Tryz.zeroValue262
 t51:=Tryz.underlying270
 a51:=Tryz.isAgg270
 z51:=Tryz.sizeOf270
 v51:=Tryz.zeroValue270
 t53:=Tryz.underlying110
 a53:=Tryz.isAgg110
 z53:=Tryz.sizeOf110
 v53:=Tryz.zeroValue110
 t131:=Tryz.underlying71
 a131:=Tryz.isAgg71
 z131:=Tryz.sizeOf71
 v131:=Tryz.zeroValue71
 t182:=Tryz.underlying333
 a182:=Tryz.isAgg333
 z182:=Tryz.sizeOf333
 v182:=Tryz.zeroValue333
 t183:=Tryz.underlying334
 a183:=Tryz.isAgg334
 z183:=Tryz.sizeOf334
 v183:=Tryz.zeroValue334
 t218:=Tryz.underlying385
 a218:=Tryz.isAgg385
 z218:=Tryz.sizeOf385
 v218:=Tryz.zeroValue385
 t222:=Tryz.underlying388
 a222:=Tryz.isAgg388
 z222:=Tryz.sizeOf388
 v222:=Tryz.zeroValue388
 t228:=Tryz.underlying416
 a228:=Tryz.isAgg416
 z228:=Tryz.sizeOf416
 v228:=Tryz.zeroValue416
 t229:=Tryz.underlying417
 a229:=Tryz.isAgg417
 z229:=Tryz.sizeOf417
 v229:=Tryz.zeroValue417}
open Go.Sort Go.RowKit in
theorem Tryz.slices_Sort_string(blk off cap:Nat)(ss:List (List UInt8))(w:aly)(hH:Holds encStr w blk off ss.toArray)(hblk:blk<w.heap.size)(hsz:ss.length<4611686018427387904):
  asP Tryz.prog 157 #[.slice (some ⟨blk,off,none⟩) ss.length cap] w λe w'=>
   e= .returned (.tuple #[])∧∃n os,w'=grow (putRow encStr (awF w n) blk off (ss.mergeSort λx y=>decide (x≤y)).toArray) os:=Any.slices_Sort_string Tryz.Zp blk off cap ss w hH hblk hsz
end Go.Proofs
section
namespace Go.Proofs
open Go.Shelf
def Tryz.Qt:asR:=⟨λ|20=>226|n=>n,λ|0=>0|3=>3|4=>4|22=>121|24=>116|25=>189|n=>n,λ|n=>n⟩
theorem Tryz.afi:aw4 Tryz.prog Tryz.Qt:={
 mixed:=by kernel_rfl
 f20:=⟨Tryz.f226.name,by decide,Tryz.func226.trans (congrArg some ar)⟩
 t0:=Tryz.underlying0
 a0:=Tryz.isAgg0
 z0:=Tryz.sizeOf0
 v0:=Tryz.zeroValue0
 t3:=Tryz.underlying3
 a3:=Tryz.isAgg3
 z3:=Tryz.sizeOf3
 v3:=Tryz.zeroValue3
 t4:=Tryz.underlying4
 a4:=Tryz.isAgg4
 z4:=Tryz.sizeOf4
 v4:=Tryz.zeroValue4
 t22:=Tryz.underlying121
 a22:=Tryz.isAgg121
 z22:=Tryz.sizeOf121
 v22:=Tryz.zeroValue121
 t25:=Tryz.underlying189
 a25:=Tryz.isAgg189
 z25:=Tryz.sizeOf189
 v25:=Tryz.zeroValue189}
end Go.Proofs
namespace Go.Proofs.YtkdljbnllgpfhaaGreat
open Go Go.RowKit Go.Upr Go.Lib Go.Sort
theorem vp{α:Type}[Inhabited α](enc:α→aad)(w:aly)(g o m:Nat)(dk:Array α)(os:Array Obj){c:Array aad}{e:TypeId}(h:w.heap[g]? =some (.cells c e)): ∃c',(sortWorld enc w g o m dk os).heap[g]? =some (.cells c' e):=by
 have hg:=atm h;unfold sortWorld grow putRow mapBlock Go.Sort.ahead;simp only[Array.getElem?_append,Array.size_modify,hg,if_true];rw[Array.getElem?_modify,if_pos rfl,h];exact⟨_,rfl⟩
def sL(t:aS):List Value:= [.int .u64 t.1,.int .u64 t.2.1,.int .u64 t.2.2]
theorem YG(blk off size:Nat)(w:aly):CmpLays Tryz.prog 101 #[] sL 3 sN blk off size w:=λm os dk _ x y=>by
 obtain⟨a,b,c⟩:=x;obtain⟨a2,b2,c2⟩:=y;exact aaS
theorem ajL{w:aly}{g o cap:Nat}{d:Array aS}(hH:awR sL 3 w g o d)(o8:g<w.heap.size){cu:Array aad}(PC:w.heap[g]? =some (.cells cu 116))(hsz:d.size<4611686018427387904):
  asP Tryz.prog 226 #[.slice (some ⟨g,o,none⟩) d.size cap,.int .i64 0,.int .i64 d.size,.func (.func 101) #[] #[]] w λe w'=>e= .returned (.tuple #[])∧af (·=g) w w'∧awR sL 3 w' g o (awD (ltOf sN) d 0 d.size)∧∃cu',w'.heap[g]? =some (.cells cu' 116):=by
 have eg: ∀args w,(callFunc 101 args).run Tryz.prog w= .ok (.enter 101 args) w:=λargs w=>by kernel_rfl
 refine(AnyQ.insertionSortCmpFunc Tryz.afi 3 Tryz.isAgg116 Tryz.sizeOf116 sL (λ_=>rfl) (λx v hv=>by simp[sL]at hv;rcases hv with rfl|rfl|rfl<;>rfl) sN 101 #[] g o cap 0 d.size d w eg (YG g o d.size w) hH o8 (arQ _) (agl _) hsz).mono ?_;rintro e w' ⟨rfl,n,os,rfl⟩;exact⟨rfl,rI id w g o n _ os,holdsK_sortWorldK sL 3 w g o n d _ os o8 hH (A0 (R:=λ_=>True) _ _ _ d λ_=>trivial).2,vp id w g o n _ os PC⟩
theorem ajX{w:aly}{g o cap:Nat}{d:Array aS}(hH:awR sL 3 w g o d)(o8:g<w.heap.size){cu:Array aad}(PC:w.heap[g]? =some (.cells cu 116))(hsz:d.size≤12)(lim:Int):
  asP Tryz.prog 164 #[.slice (some ⟨g,o,none⟩) d.size cap,.int .i64 0,.int .i64 d.size,.int .i64 lim,.func (.func 101) #[] #[]] w λe w'=>e= .returned (.tuple #[])∧af (·=g) w w'∧awR sL 3 w' g o (awD (ltOf sN) d 0 d.size)∧∃cu',w'.heap[g]? =some (.cells cu' 116):=by
 have k1:=ajL (cap:=cap) hH o8 PC aj;go_enter Tryz.func164,Tryz.ntmps164;go_wp2;refine wp_loop_rounds 1 ?_;rw[rounds_succ];go_wp2_with (go_at_call 226;refine k1.mono ?_;clear k1;rintro e w2 ⟨rfl,aF,XB⟩)
 (try simp only[Exit.inBlock,Exit.then])
 refine atg (results_none rfl _ _ _) rfl ?_;exact⟨rfl,aF,XB⟩
theorem akc{w:aly}{g o cap:Nat}{d:Array aS}(hH:awR sL 3 w g o d)(o8:g<w.heap.size){cu:Array aad}(PC:w.heap[g]? =some (.cells cu 116))(hsz:d.size≤12):
  asP Tryz.prog 100 #[.slice (some ⟨g,o,none⟩) d.size cap,.func (.func 101) #[] #[]] w λe w'=>e= .returned (.tuple #[])∧af (·=g) w w'∧awR sL 3 w' g o (awD (ltOf sN) d 0 d.size)∧∃cu',w'.heap[g]? =some (.cells cu' 116):=by
 have k1:=λlim=>ajX (cap:=cap) hH o8 PC hsz lim;have k2:=λw=>Tryz.bits_Len (d.size:Int) w aj aj;go_enter Tryz.func100,Tryz.ntmps100;go_wp2_with (first|(go_at_call 146;refine(k2 _).mono ?_;clear k2;rintro e w2 ⟨rfl,rfl⟩)|(go_at_call 164;refine(k1 _).mono ?_;clear k1;rintro e w3 ⟨rfl,bX,hH3⟩));go_end0;exact⟨rfl,bX,hH3⟩
end Go.Proofs.YtkdljbnllgpfhaaGreat
end
section
namespace Go.Proofs.YtkdljbnllgpfhaaGreat
open Go Go.RowKit Go.Upr
theorem Yz(w:aly):(zeroValue 171).run Tryz.prog w= .ok .nilIface w:=by kernel_rfl
theorem af3(x:aad)(w:aly):(method 622 320 x "upshot/layers.support").run Tryz.prog w= .ok (326,x) w:=by kernel_rfl
theorem c49{w:aly}{pb mb lb:Nat}{x:aad}{f:List (ByteArray×LB)}(hP:w.heap[pb]? =some (.cells #[x,.map (some mb)] 185))(hM:av w bZ at5 wJ mb f){n:ByteArray}(hn:bZ n)(hl:au f n=some (true,lb)){t:aS}{cnt:Nat}(ks: ∀w',af (λ_=>False) w w'→asP Tryz.prog 326 #[.pointer (some ⟨lb,0,none⟩),.string n,br t] w' λe w''=>e= .returned (cU cnt)∧af (λ_=>False) w' w''):
  asP Tryz.prog 49 #[.pointer (some ⟨pb,0,none⟩),.string n,br t] w λe w'=>e= .returned (cU cnt)∧af (λ_=>False) w w':=by
 obtain⟨a,b,c⟩:=t;unfold br at ks⊢;have DL:=af3;obtain⟨W,hW⟩: ∃W,W=(w.alloc (.cells #[.int .u64 a,.int .u64 b,.int .u64 c] 116)).alloc (.cells #[.int .u64 0,.int .u64 0] 112):=⟨_,rfl⟩;obtain⟨Q,hQe⟩: ∃x,x=w.heap.size:=⟨_,rfl⟩;obtain⟨A,hAe⟩: ∃x,x=w.heap.size+1:=⟨_,rfl⟩;have bM:af (λ_=>False) w W:=by rw[hW];exact((af.refl _ w).alloc _).alloc _
 have SF:W.heap[Q]? =some (.cells #[.int .u64 a,.int .u64 b,.int .u64 c] 116):=by rw[hW,hQe];exact bq _ _ _
 have lY:W.heap[A]? =some (.cells #[.int .u64 0,.int .u64 0] 112):=by rw[hW,hAe];exact aR _ _ _
 obtain⟨q0,q1,q2,-⟩:=bI SF;have KC:=atm SF;obtain⟨p0,p1,-,-⟩:=b9 (bM.kept hP id);have hpl:=atm (bM.kept hP id);have hMW:=hM.turn bM id;have E3:=hMW.lt;have hAz:w.heap.size≤A:=by omega
 have WL:(au f n).elim .nilIface wJ= .iface 320 (.pointer (some ⟨lb,0,none⟩)):=by rw[hl];rfl
 clear hl;go_enter Tryz.func49,Tryz.ntmps49;go_wp2_with (rw[←hW,←hAe,←hQe];clear hW hAe hQe);refine aG (λi=>i==8||i==9) ar ar ?_;intro S' gg fN gc gf gh gb;iterate 5 (refine ak ar aC aC λK hK=>?_;go_big_quiet_op;refine hK _ ?_;clear hK K)
 have hmx: ∀x,Hp.map (λb=>(gg x).heap[b]?) bZ at5 wJ (.map (some mb)) f:=λx=>by
  obtain⟨es,cl,h1,h2⟩:=hMW;exact .inr ⟨mb,es,cl,rfl,(gh x _ E3).trans h1,h2⟩
 refine iP cI Tryz.underlying183 Yz ar aC (.tmp 10) (.tmp 11) rfl rfl (λw' ⟨x,e⟩=>by rw[e];exact hmx x) rfl hn WL ?_;go_frame;iterate 2 (refine ak ar aC aC λK hK=>?_;go_big_quiet_op;refine hK _ ?_;clear hK K)
 refine ai ar aC λQ' hQ=>?_;go_wp2_with (go_at_call 326;refine(ks _ (bM.trans (af.refl _ _).drew)).mono ?_;clear ks;rintro e w4 ⟨rfl,ck⟩);have h4:af (λ_=>False) W w4:=(af.refl _ _).drew.trans ck;refine hQ _ _ ar (λ_=>gb _ h4.below) ?_;clear hQ Q';have xS:=h4.kept lY id;obtain⟨r0,r1,r2,r3⟩:=b9 xS;have AJ:=atm xS;unfold cU;refine ai ar aC λQ' hQ=>?_;go_wp2;refine hQ _ _ ar (aX ar) ?_;clear hQ Q';refine aQ ?_;clear gc gf gh gb fN hmx gg S';go_wp2;refine atg (v:=cU cnt) (by simp[results,Tryz.results49,go_sem,r0,r1,cU]) rfl ?_;have hS:=((af.refl (·=A) w4).setCell (p:=⟨A,0,none⟩) (.inr rfl) (.int .u64 (cnt/18446744073709551616:Nat))).setCell (p:=⟨A,1,none⟩) (.inr rfl) (.int .u64 (cnt % 18446744073709551616:Nat));exact⟨rfl,(bM.trans h4).bL hS λb (hb:b=A)=> .inl aj⟩
end Go.Proofs.YtkdljbnllgpfhaaGreat
end
section
namespace Go.Proofs.YtkdljbnllgpfhaaGreat
open Go Go.RowKit Go.Upr
theorem c22{h:Hp}{w:aly}(hw:h.In w){eb nb pb mb lb:Nat}{y x:aad}{f:xU}{fl:List (ByteArray×LB)}(hE:w.heap[eb]? =some (.cells #[.map (some nb),y,.pointer (some ⟨pb,0,none⟩)] 102))(hN:av w bZ at5 Kg nb f)(hP:w.heap[pb]? =some (.cells #[x,.map (some mb)] 185))(hM:av w bZ at5 wJ mb fl)
  {n:ByteArray} (hn:bZ n) {ad:Option Addr} {l c:Nat} {ss:List ByteArray} (hcs:h.list 1 gX (.slice ad l c) ss) (pZ:ss.length≤3) (hc: ∀s∈ss,zF s) (hl:au f n=some (ss.length,true)) (jy:au fl n=some (true,lb)) {cnt:Nat} (Dq:cnt<9223372036854775808)
  (ks: ∀w',af (λ_=>False) w w'→asP Tryz.prog 326 #[.pointer (some ⟨lb,0,none⟩),.string n,br (gC ss)] w' λe w''=>e= .returned (cU cnt)∧af (λ_=>False) w' w''):
  asP Tryz.prog 22 #[.pointer (some ⟨eb,0,none⟩),.string n,.slice ad l c] w λe w'=>e= .returned (.tuple #[.int .i64 (cnt:Nat),.int .i64 0])∧af (λ_=>False) w w':=by
 obtain⟨q7,q8,hv3⟩:=hcs.shape;obtain⟨rfl,rfl,rfl⟩:ad=q7∧l=ss.length∧c=q8:=by simpa using hv3
 clear hv3;obtain⟨W,hW⟩: ∃W,W=w.alloc (.cells #[.int .i64 (ss.length:Nat),.bool true] 107):=⟨_,rfl⟩;obtain⟨B,hB⟩: ∃x,x=w.heap.size:=⟨_,rfl⟩;have bM:af (λ_=>False) w W:=by rw[hW];exact(af.refl _ w).alloc _
 have lH:W.heap[B]? =some (.cells #[.int .i64 (ss.length:Nat),.bool true] 107):=by rw[hW,hB];exact atp _ _
 obtain⟨b0,b1,-,-⟩:=b9 lH;have hbl:=atm lH;obtain⟨e0,e1,e2,-⟩:=bI hE;have NB:=atm hE;have k1:=λw' (ht:af (λ_=>False) w w')=>aev (hw.turn ht λ_ _ _=>id) hcs aj hc;have k2:=λw' (ht:af (λ_=>False) w w')=>c50 (hw.turn ht λ_ _ _=>id) hcs pZ;have k3:=λw' (ht:af (λ_=>False) w w')=>c49 (ht.kept hP id) (hM.turn ht id) hn jy (t:=gC ss) λw'' aF=>ks w'' (ht.trans aF);have k4:=λw'=>c51 cnt Dq w';clear jy ks;generalize gC ss=t at k2 k3;go_enter Tryz.func22,Tryz.ntmps22;go_wp2_with (first|(at_lookup;refine aP cI Tryz.underlying97 Gc rfl (.tmp 14) (.tmp 15) rfl rfl (aD _) hN.hp rfl hn hl ?_;clear hl)|(go_at_call 48;rw[←hW,←hB];clear hW hB;refine(k1 _ bM).mono ?_;clear k1;rintro e w5 ⟨rfl,rfl⟩));obtain⟨e0,e1,e2,-⟩:=bI (bM.kept hE id);have NB:=atm (bM.kept hE id);refine aG (λi=>i==6||i==7||i==8||i==9||i==10) ar ar ?_;intro S' gg fN gc gf gh gb;iterate 6 (refine ak ar aC aC λK hK=>?_;go_big_quiet_op;refine hK _ ?_;clear hK K)
 refine ai ar aC λQ' hQ=>?_;go_wp2_with (go_at_call 50;refine(k2 _ (bM.trans (af.refl _ _).drew)).mono ?_;clear k2;rintro e w6 ⟨rfl,bH⟩);have h6:af (λ_=>False) w5 w6:=(af.refl _ _).drew.trans bH;refine hQ _ _ ar (λ_=>gb _ h6.below) ?_;clear hQ Q';refine ai ar aC λQ' hQ=>?_;go_wp2_with (go_at_call 49;refine(k3 _ (bM.trans h6)).mono ?_;clear k3;rintro e w7 ⟨rfl,eC⟩);have h7:=h6.trans eC;refine hQ _ _ ar (λ_=>gb _ h7.below) ?_;clear hQ Q';refine ai ar aC λQ' hQ=>?_;go_wp2_with (go_at_call 51;refine(k4 _).mono ?_;clear k4;rintro e w8 ⟨rfl,jJ⟩);have h8:=h7.trans jJ;refine hQ _ _ ar (λ_=>gb _ h8.below) ?_;clear hQ Q';iterate 2
  refine ai ar aC λQ' hQ=>?_;go_wp2;refine hQ _ _ ar (λ_=>gb _ h8.below) ?_;clear hQ Q'
 refine aQ ?_;clear gc gf gh gb fN gg S';go_wp2
 go_ret2
 exact⟨rfl,bM.trans h8⟩
end Go.Proofs.YtkdljbnllgpfhaaGreat
end
section
namespace Go.Proofs
open Go.Shelf
def Tryz.CK:asR:=⟨λ|7=>92|10=>158|n=>n,λ|23=>99|26=>9|3=>123|28=>149|0=>0|27=>148|33=>28|4=>4|n=>n,λ|n=>n⟩
theorem Tryz.Uq:awU Tryz.prog Tryz.CK:={
 mixed:=by kernel_rfl
 f7:=⟨Tryz.f92.name,by decide,Tryz.func92.trans (congrArg some ar)⟩
 f10:=⟨Tryz.f158.name,by decide,Tryz.func158.trans (congrArg some ar)⟩
 t0:=Tryz.underlying0
 a0:=Tryz.isAgg0
 z0:=Tryz.sizeOf0
 v0:=Tryz.zeroValue0
 t4:=Tryz.underlying4
 a4:=Tryz.isAgg4
 z4:=Tryz.sizeOf4
 v4:=Tryz.zeroValue4
 t23:=Tryz.underlying99
 a23:=Tryz.isAgg99
 z23:=Tryz.sizeOf99
 v23:=Tryz.zeroValue99
 t26:=Tryz.underlying9
 a26:=Tryz.isAgg9
 z26:=Tryz.sizeOf9
 v26:=Tryz.zeroValue9
 t27:=Tryz.underlying148
 a27:=Tryz.isAgg148
 z27:=Tryz.sizeOf148
 v27:=Tryz.zeroValue148
 t28:=Tryz.underlying149
 a28:=Tryz.isAgg149
 z28:=Tryz.sizeOf149
 v28:=Tryz.zeroValue149
 t33:=Tryz.underlying28
 a33:=Tryz.isAgg28
 z33:=Tryz.sizeOf28
 v33:=Tryz.zeroValue28}
end Go.Proofs
namespace Go.Proofs.YtkdljbnllgpfhaaGreat
open Go Go.RowKit Go.Upr Go.Sort Go.Maps
theorem c92(mb:Option Nat)(w:aly):asP Tryz.prog 92 #[.map mb] w λe w'=>e= .returned (.func (.func 158) #[] #[.pointer (some ⟨w.heap.size,0,none⟩)])∧w'=w.alloc (.cells #[.map mb] 99):=
 (av7 (n:=5)).1 (AnyZ.keys_in Tryz.Uq avM 5 trivial rfl mb w)
theorem Rn: ∀args w,(callFunc 158 args).run Tryz.prog w= .ok (.enter 158 args) w:=enters_of Tryz.func158 ar rfl
theorem Dw{α:Type}[Inhabited α]{enc:α→aad}{w:aly}{N e:Nat}{v:aad}{ss:List α}(h:w.ownsRow N e 1 v ss.length (ss.map enc))(hne:ss≠ []): ∃g cap,v= .slice (some ⟨g,0,none⟩) ss.length cap∧N≤g∧g<w.heap.size∧Holds enc w g 0 ss.toArray∧∃cur,w.heap[g]? =some (.cells cur e):=by
 rcases h.2 with⟨_,h5⟩|⟨g,cap,cur,rfl,h5,h6,_,_,_,h7⟩
 ·exact absurd (avo.1 h5) hne
 ·refine⟨g,cap,rfl,h5,atm h6,λj hj=>?_,_,h6⟩;rw[aqk]at hj;refine⟨?_,eY h6⟩;rw[arN];refine(aqF w g j _ e (0,0) h6).trans ?_;have h8:=congrArg (λl=>l[j]?) h7;rw[aw6,aup,if_pos hj,an0,anr,arn hj]at h8;rw[h8,getElem!_pos ss.toArray j (by rw[aqk];exact hj)];simp
theorem aiZ{ν:Type}{enc:ν→aad}{w:aly}{b bm:Nat}{f:List (ByteArray×ν)}(h:av w bZ at5 enc b f)(hn:f.length≤1099511627776)(hc:w.cell? ⟨bm,0,none⟩=some (.map (some b)))(hne:f≠ []):
  asP Tryz.prog 75 #[.func (.func 158) #[] #[.pointer (some ⟨bm,0,none⟩)]] w λe w'=>∃g cap,∃ss:List (List UInt8),e= .returned (.slice (some ⟨g,0,none⟩) ss.length cap)∧af (λ_=>False) w w'∧ss.Perm (f.map λp=>p.1.data.toList)∧w.heap.size≤g∧g<w'.heap.size∧Holds encStr w' g 0 ss.toArray∧∃cur,w'.heap[g]? =some (.cells cur 9):=by
 obtain⟨D,hD,hs,hp⟩:=CI h (by unfold maxLen;omega);have hbm:=World.block_lt_of_cell? w _ hc;have hseq:SeqGives avM 4 Tryz.prog 158 #[.pointer (some ⟨bm,0,none⟩)] encStr (λss=>ss.Perm (strKeys D)) (Maps.size D) w:=
  AnyZ.keys_gives (ρ:=Tryz.CK) {Tryz.Uq with} avM _ trivial rfl aj bm b _ D w hbm hc hD
 have abG:=(av7 (n:=6)).1 (AnyZ.collect_in Tryz.EK avM 6 trivial trivial rfl aj 158 _ trivial Rn _ _ (by rw[hs];unfold maxLen;omega) (by rw[hs];omega) w hseq);refine abG.mono ?_;rintro e w' ⟨v,ss,rfl,hS,hrow,-,hbl⟩;have hP:=hS.trans hp;have adQ:ss≠ []:=λh0=>by
  rw[h0]at hP;have:=hP.length_eq;rw[auK,auB]at this;exact hne (avo.1 this.symm)
 obtain⟨g,cap,rfl,h1,h2,h3⟩:=Dw hrow adQ;exact⟨g,cap,ss,rfl,af.ue hbl,hP,h1,h2,h3⟩
theorem c91{ν:Type}{enc:ν→aad}{w:aly}{b bm:Nat}{f:List (ByteArray×ν)}(h:av w bZ at5 enc b f)(hn:f.length≤1099511627776)(hc:w.cell? ⟨bm,0,none⟩=some (.map (some b)))(hne:f≠ []):
  asP Tryz.prog 91 #[.func (.func 158) #[] #[.pointer (some ⟨bm,0,none⟩)]] w λe w'=>∃g cap,∃ss:List (List UInt8),e= .returned (.slice (some ⟨g,0,none⟩) ss.length cap)∧af (λ_=>False) w w'∧ss.Perm (f.map λp=>p.1.data.toList)∧w.heap.size≤g∧g<w'.heap.size∧Holds encStr w' g 0 (ss.mergeSort λx y=>decide (x≤y)).toArray∧∃cur,w'.heap[g]? =some (.cells cur 9):=by
 have k1:=aiZ h hn hc hne;go_enter Tryz.func91,Tryz.ntmps91;go_wp2_with (first|(go_at_call 75;refine k1.mono ?_;clear k1;rintro e w2 ⟨g,cap,ss,rfl,aF,hP,hg1,hg2,hH,cur,PC⟩;have k2:=Tryz.slices_Sort_string g 0 cap ss w2 hH hg2 (by have:=hP.length_eq;rw[auB]at this;omega))|(go_at_call 157;refine k2.mono ?_;clear k2;rintro e w3 ⟨rfl,n,os,hw3⟩));go_ret;have t3:af (·=g) w2 (grow (putRow encStr (awF w2 n) g 0 (ss.mergeSort λx y=>decide (x≤y)).toArray) os):=rI encStr w2 g 0 n _ os;refine⟨g,cap,ss,rfl,aF.bL t3 λb (hb:b=g)=> .inl aj,hP,hg1,amC hg2 t3.size,?_⟩;exact⟨holds_sortWorld encStr w2 g 0 n _ _ os hg2 hH (by rw[aqk,aqk,aw8]),vp encStr w2 g 0 n _ os PC⟩
end Go.Proofs.YtkdljbnllgpfhaaGreat
end
section
namespace Go.Proofs.YtkdljbnllgpfhaaGreat
open Go Go.RowKit Go.Upr
theorem CX(l:List UInt8)(s:ByteArray):aw5 l++axc s=aw5 (l++s.data.toList):=by
 simp[aw5,axc]
theorem Nc{B:Nat}{w w':aly}(h:Below B w w'):af (λb=>B≤b) w w':=⟨h.os,h.tape,h.output,h.size,λk _ hd=>h.block k (Nat.lt_of_not_le hd)⟩
end Go.Proofs.YtkdljbnllgpfhaaGreat
end
section
namespace Go.Upr
open Go Go.RowKit
def Uj:Obj→Bool| .map _ _=>true| .cells _ _ _=>true|_=>false
abbrev xw(Reads:Nat→Prop)(A:aly)(b:Nat):Prop:=¬Reads b∧∃o,A.heap[b]? =some o∧(Uj o=true∨OH o=true)
def UG{α:Type}(P:alu)(g:Nat)(lb:Array aad)(yi:α→Array aad)(S:List α→Prop)(G:α→Prop)(N:Nat)(Reads:Nat→Prop)(w:aly):Prop:=
 ∀ (l:Nat) (J:List α→aly→Prop) (W:aly),af (λ_=>False) w W→
  (∀pre A B,J pre A→af (λb=>W.heap.size≤b∧nN A b) A B→J pre B)→
  (∀pre x A,J pre A→pre.length<N→G x→YieldAt avM 1 P l (yi x) A λe B=>e= .returned (.bool true)∧J (pre++ [x]) B∧af (xw Reads A) A B)→
  J [] W→asP P g (#[.func (.yield l) #[] #[]]++lb) W λe B=>(∃v,e= .returned v)∧∃xs,S xs∧J xs B
section
variable{α:Type}{P:alu}{g:Operand}{ps:Array Tmp}{assign body:Code}{Q:Exit→Act→aly→Prop}{a:Act}{w:aly}{gf:Nat}{lb:Array aad}{yi:α→Array aad}{S:List α→Prop}{G:α→Prop}{N:Nat}{Reads:Nat→Prop}{w0:aly}
theorem uL(hg:a.eval g= .func (.func gf) #[] lb)(eg: ∀args w,(callFunc gf args).run P w= .ok (.enter gf args) w)(hseq:UG P gf lb yi S G N Reads w0)(hb0:af (λ_=>False) w0 w)(qJ: ∀x,(yi x).size=ps.size)
  (Xx: ∀b,Reads b→b<w.heap.size)
  (I:List α→aly→Prop) (hI: ∀pre A B,I pre A→af (λb=>w.heap.size≤b∧nN A b) A B→I pre B) (h0:I [] w)
  (Ax:α→Act→aly→Prop) (SN: ∀x a' A B,Ax x a' A→af (λb=>w.heap.size≤b∧nN A b) A B→Ax x a' B)
  (Gn: ∀ (l:Nat) (pre:List α) (x:α) (A:aly) (K:Act→aly→Prop),I pre A→G x→(∀a' A',af (λ_=>False) A A'→I pre A'→Ax x a' A'→K a' A')→
   assign.wpIn (avM.inRound l) 1 P (Exit.then K (λ_ _ _=>False)) {tmps:=(ps.zip (yi x)).foldl (λt (p,v)=>t.setIfInBounds p v) a.tmps,defers:= []} A)
  (jT: ∀ (l:Nat) (pre:List α) (x:α) (a':Act) (A:aly),I pre A→Ax x a' A→pre.length<N→G x→
   body.wpIn (avM.inRound l) 1 P (λe _ B=>e= .normal∧af (λb=>¬Reads b∧∃o,A.heap[b]? =some o∧Uj o=true) A B∧I (pre++ [x]) B) a' A)
  (hdone: ∀ (D:Nat) (xs:List α) (B:aly),w.heap.size≤D→S xs→I xs B→B.heap[D]? =some (.deferred (some []))→Q .normal {a with defers:={target:= .collected D,args:= #[]}::a.defers} B):
  (Code.rangeFunc g ps assign body).wp P Q a w:=by
 refine(wpIn_wide (n:=2)).1 (wpIn_rangeFunc λfn _=>?_);obtain⟨rec,sT⟩: ∃rec:LoopState→Option Code→Loop,rec=λst pe=>{state:=st,pending:=pe,fn,tmps:=a.tmps,params:=ps,assign,body,defers:=w.heap.size}:=⟨_,rfl⟩;obtain⟨W1,hW1⟩: ∃W1,(w.alloc (.deferred (some []))).alloc (.loop (rec .ready none))=W1:=⟨_,rfl⟩;have hL1:W1.heap[w.heap.size+1]? =some (.loop (rec .ready none)):=by rw[←hW1];exact aR _ _ _
 have WY:W1.heap[w.heap.size]? =some (.deferred (some [])):=by rw[←hW1];exact bq _ _ _
 have je:af (λ_=>False) w W1:=by rw[←hW1];exact((af.refl _ w).alloc _).alloc _
 have hI1:I [] W1:=hI _ _ _ h0 je.wider;have hz1:W1.heap.size=w.heap.size+2:=by rw[←hW1];simp
 refine⟨w.heap.size+1,[{target:= .collected w.heap.size,args:= #[]}],W1,{target:= .fn (.func gf) lb,args:= #[.func (.yield (w.heap.size+1)) #[] #[]]},W1,gf,
  #[.func (.yield (w.heap.size+1)) #[] #[]]++lb,W1,?_,?_,λ_ _=>trivial,?_,(λh=>by cases h),?_⟩
 ·rw[←hW1,sT];exact run_enterLoop_outer _ _ _ _ _
 ·simp only[resolve,hg];simp[go_sem]
 ·simp[invoke,go_sem,eg]
 ·refine CallsIn.mono ((av7 (n:=1)).2 (hseq (w.heap.size+1)
   (λpre W=>I pre W∧W.heap[w.heap.size+1]? =some (.loop (rec .ready none))∧W.heap[w.heap.size]? =some (.deferred (some []))∧w.heap.size+2≤W.heap.size)
   W1 (hb0.trans je) ?_ ?_ ⟨hI1,hL1,WY,by omega⟩)) ?_
  ·rintro pre A B ⟨hi,hl,hk,hz⟩ ht;refine⟨hI _ _ _ hi (ht.mono λb _ hb=>⟨by have:=hb.1;omega,hb.2⟩),ht.kept hl λhb=>by have:=hb.1;omega,ht.kept hk λhb=>by have:=hb.1;omega,al2 hz ht.size⟩
  ·rintro pre x A ⟨hi,hl,hk,hz⟩ hlen hG;have hy:=run_yield (P:=P) (args:=yi x) hl (by rw[sT];exact qJ x);rw[sT]at hy;refine⟨fn,_,assign,body,hy,roundIn_of_wpIn trivial (Gn _ pre x A _ hi hG ?_)⟩;clear hy;intro a' A1 Sv hiA SC;have o7:=Sv.kept hl id;have vx:=Sv.kept hk id;have hz2:=Sv.size;refine⟨_,run_beginRound o7 (by rw[sT]),?_⟩;obtain⟨A2,lC⟩: ∃A2,A2=A1.putObj (w.heap.size+1) (.loop {rec .ready none with state:= .busy}):=⟨_,rfl⟩;rw[←lC];have aF:af (·=w.heap.size+1) A1 A2:=by rw[lC];exact fP _ _ _
   have hl2:A2.heap[w.heap.size+1]? =some (.loop {rec .ready none with state:= .busy}):=by rw[lC];exact avU aj
   have hk2:=aF.kept vx aj;have hb2:af (λb=>w.heap.size≤b∧nN A1 b) A1 A2:=aF.mono λb _ hb=>by subst hb;exact⟨atZ _,_,o7,rfl⟩
   refine wpIn_mono (jT _ pre x a' A2 (hI _ _ _ hiA hb2) (SN _ _ _ _ SC hb2) hlen hG) ?_;rintro e a3 B ⟨rfl,Xj,hiB⟩;have WO:=Xj.kept hl2 λhb=>by
    obtain⟨_,o,ho,hm⟩:=hb;rw[hl2]at ho;cases ho;cases hm
   have hk3:=Xj.kept hk2 λhb=>by
    obtain⟨_,o,ho,hm⟩:=hb;rw[hk2]at ho;cases ho;cases hm
   have hend:=run_endRound (P:=P) (none:Option Code) WO;refine⟨_,_,hend,rfl,?_,?_⟩
   ·have ck:=fP B (w.heap.size+1) (.loop { {rec .ready none with state:= .busy}with state:=if(none:Option Code).isNone then .ready else .done,pending:=none});have hz3:=Xj.size;have wx:=aF.size;refine⟨hI _ _ _ hiB (ck.mono λb _ hb=>by subst hb;exact⟨atZ _,_,WO,rfl⟩),?_,ck.kept hk3 aj,al2 aj ck.size⟩;rw[avU aj,sT];rfl
   ·have ck:=fP B (w.heap.size+1) (.loop { {rec .ready none with state:= .busy}with state:=if(none:Option Code).isNone then .ready else .done,pending:=none});have hlA:xw Reads A (w.heap.size+1):=⟨λh=>by have:=Xx _ h;omega,_,hl,.inr rfl⟩;refine(((Sv.mono (E:=xw Reads A) λ_ _ h=>h.elim).bL aF (λb hb=>?_)).bL (D:=xw Reads A) Xj (λb hb=>?_)).bL ck (λb hb=>?_)
    ·subst hb;exact .inr hlA
    ·obtain⟨h1,o,h2,h3⟩:=hb;by_cases hlt:b<A.heap.size
     ·refine .inr ⟨h1,?_⟩;by_cases hbl:b=w.heap.size+1
      ·subst hbl;exact⟨_,hl,.inr rfl⟩
      ·have e1:=aF.block b aj hbl;have e2:=Sv.block b hlt id;rw[e1,e2]at h2;exact⟨o,h2,.inl h3⟩
     ·exact .inl aj
    ·subst hb;exact .inr hlA
  ·rintro e B ⟨⟨v,rfl⟩,xs,hS,hi,hl,hk,hz⟩;have ht:=fP B (w.heap.size+1) (.loop {rec .ready none with state:= .exhausted});refine⟨none,_,by have:=run_endLoop (P:=P) hl (by rw[sT];simp);rw[sT]at this;exact this,?_⟩;rw[sT]at ht;exact hdone _ xs _ (agl _) hS (hI _ _ _ hi (ht.mono λb _ hb=>by subst hb;exact⟨atZ _,_,hl,rfl⟩)) (ht.kept hk aj)
end
end Go.Upr
namespace Go.Proofs.YtkdljbnllgpfhaaGreat
open Go Go.RowKit Go.Upr
theorem acU{w:aly}{o:Option Nat}{b0:Nat}{ts:List aS}(h0:w.heap[b0]? =some (.cells #[.map o] 123))(H:Hp.map (λb=>w.heap[b]?) fq br aY (.map o) (aU ts)):
  UG Tryz.prog 221 #[.pointer (some ⟨b0,0,none⟩)] (λt=> #[br t]) (bC ts) fq ts.length (λb=>b=b0∨o=some b) w:=by
 intro l J W bM hJ hY hj;have hlen:(aU ts).length=ts.length:=by simp[aU]
 have h1:=bM.kept h0 id;have H1:=Hp.bY H bM;clear h0 H bM;have hb:=atm h1;have c0:=Ae h1;go_enter Tryz.func221,Tryz.ntmps221;go_wp2_with (at_range;refine kD (v:= .map o) Tryz.underlying123 rfl (.tmp 4) rfl rfl H1 ?_;intro w1 jh hz1 uP);have DO:=hJ _ _ _ hj jh.wider;have h2:=jh.kept h1 id
 go_loopg [] (aU ts).length (λgk wr=>∃came:List (aS×Unit),came.length+gk=(aU ts).length∧J (came.map aug) wr∧wr.heap[b0]? =some (.cells #[.map o] 123)∧W.heap.size<wr.heap.size∧fY wr fq br aY (.map o) W.heap.size (aU ts) came)
 case atStart=>exact⟨[],by simp,DO,h2,by omega,uP⟩
 case round=>
  clear uP DO;obtain⟨came,bW,KF,h3,hz3,hR⟩:=hrel;go_wp2_with (at_next;refine mv gL rfl (.tmp 5) rfl rfl hR ?_ ?_)
  ·intro hd;have mf: ∀t∈ts,t∈came.map aug:=λt ht=>amk.2 ⟨(t,()),hd _ _ _ _ (fe.2 ht),rfl⟩;clear hd;go_wp2;go_end0;have hs:=hR.sub
   exact⟨⟨_,rfl⟩,_,⟨mf,λt ht=>by
    obtain⟨p,hp,rfl⟩:=amk.1 ht
    exact fe.1 (hs.1 p hp),hs.2.1⟩,KF⟩
  ·intro x y z u w2 _ _ hlt aF iG;obtain⟨m,rfl⟩: ∃m,gk=m+1:=⟨gk- 1,by omega⟩;obtain⟨mm,ms,mx,mc,sH⟩:=hR.book;have wC:=hJ _ _ (w2.alloc (.cells #[.int .u64 x,.int .u64 y,.int .u64 z] 116)) KF ((aF.mono λb _ (hb:b=W.heap.size)=>⟨by omega,by subst hb;exact⟨_,sH,rfl⟩⟩).alloc _);have h4:=aF.kept h3 aj;have wx:=aF.size;have qM:=iG.turn (D:=λ_=>False) ((af.refl _ w2).alloc (.cells #[.int .u64 x,.int .u64 y,.int .u64 z] 116)) (λ_ _=>id) id;have h5:=(af.refl (λ_=>False) w2).alloc (.cells #[.int .u64 x,.int .u64 y,.int .u64 z] 116) |>.kept h4 id;have hc1:(came.map aug).length<ts.length:=by rw[auB];omega
   have hy:=hY _ (x,y,z) _ wC hc1 (iG.sub.2.2.1 ((x,y,z),u) bz);clear wC KF;go_wp2_with (refine kE rfl (.tmp 5) rfl rfl iG ?_;dsimp only[br];rename_i HK;replace HK:at3 _:=HK);refine HK.out _ _ (mU (id:=3) [_,_] _ [_] rfl ar ar ar ?_);intro Ky Bl;replace Bl:at3 _:=Bl;go_wp2;refine Bl.out _ _ l #[br (x,y,z)] rfl ?_ (YieldAt.mono hy ?_)
   ·intro f tm asg bo hrun;unfold br at hrun;simp[execOp,go_sem,hrun]
   ·rintro e B ⟨rfl,hJ3,eN⟩;clear hy Bl HK;refine⟨rfl,λK2 hK2=>?_⟩
    have C8:=qM.turn eN (λb pk ⟨h,_⟩=>h (.inr (by simpa using pk))) (by
     rintro⟨_,q,hq,hm⟩;obtain⟨_,_,_,_,pj⟩:=qM.book;rw[pj]at hq;cases hq
     rcases hm with hm|hm<;>cases hm)
    have h6:=eN.kept h5 (by rintro⟨h,_⟩;exact h (.inl rfl));have zt:=eN.size;simp only[World.size_alloc]at zt;clear hR iG qM h3 h4 h5 eN sH;go_wp2
    go_roundg m
    case measure=>exact atG m
    case rel=>exact⟨came++ [((x,y,z),u)],by simp;omega,by simpa using hJ3,h6,by omega,C8⟩
end Go.Proofs.YtkdljbnllgpfhaaGreat
end
section
namespace Go.Proofs.YtkdljbnllgpfhaaGreat
open Go Go.RowKit Go.Upr
theorem Wb:eL Tryz.prog 121 116 3 24:= .mk' Tryz.underlying121 (z:= .agg #[.int .u64 0,.int .u64 0,.int .u64 0]) ar rfl aI
def Og(_:Hp)(c:List aad)(t:aS):Prop:=c= [.int .u64 t.1,.int .u64 t.2.1,.int .u64 t.2.2]
def N_(g b p v:aad):Array Value:= #[.slice none 0 0,g,b,undef,.slice none 0 0,p,g,v,undef,undef,undef,undef,undef]
theorem Rm: ∀args w,(callFunc 221 args).run Tryz.prog w= .ok (.enter 221 args) w:=enters_of Tryz.func221 ar rfl
theorem ajE{w:aly}{o:Option Nat}{b0:Nat}{ts:List aS}(h0:w.heap[b0]? =some (.cells #[.map o] 123))(H:Hp.map (λb=>w.heap[b]?) fq br aY (.map o) (aU ts))(hn:ts.length≤1048576):
  asP Tryz.prog 269 #[.slice none 0 0,.func (.func 221) #[] #[.pointer (some ⟨b0,0,none⟩)]] w λe w'=>∃v xs,e= .returned v∧bC ts xs∧af (λ_=>False) w w'∧aw w' w.heap.size 116 3 Og ko v xs:=by
 have hit:=acU h0 H;have hb0:=atm h0;have pk: ∀b,o=some b→b<w.heap.size:=λb hb=>by
  rcases H with⟨h,_⟩|⟨b',es,cl,h1,h2,_⟩
  ·rw[hb]at h;cases h
  ·rw[hb]at h1;cases h1;exact atm h2
 clear H;refine(av7 (n:=2)).1 (callsIn_of_wp_marks Tryz.func269 rfl trivial ((wpIn_wide (n:=2)).2 ?_));simp only[Tryz.ntmps269,aqk,as2,auK,Nat.reduceAdd,Nat.reduceSub,Array.replicate_succ,Array.replicate_zero,List.push_toArray,List.append_toArray,List.nil_append,List.cons_append];go_wp2;obtain⟨W,hW⟩: ∃W,W=w.alloc (.cells #[.slice none 0 0] 121):=⟨_,rfl⟩;rw[←hW];have qL:af (λ_=>False) w W:=by rw[hW];exact(af.refl _ _).alloc _
 have vz:W.heap[w.heap.size]? =some (.cells #[.slice none 0 0] 121):=by rw[hW];exact atp _ _
 have RP:W.heap.size=w.heap.size+1:=by rw[hW];simp
 clear hW;obtain⟨I,hI⟩: ∃I:List aS→aly→Prop,I=λpre A=>∃v,A.heap[w.heap.size]? =some (.cells #[v] 121)∧af (λ_=>False) w A∧aw A (w.heap.size+1) 116 3 Og ko v pre:=⟨_,rfl⟩;have hIk: ∀pre A B,I pre A→af (λb=>W.heap.size≤b∧nN A b) A B→I pre B:=by
  rw[hI];rintro pre A B ⟨v,h1,h2,h3⟩ ht;refine⟨v,ht.kept h1 aj,h2.bL ht (λb hb=> .inl aj),h3.gB ht (λb hb=>?_) (λ_ _ h=>nomatch h)⟩;rintro⟨_,ob,h6,h7⟩;refine h3.kT h6 (λcs e=>?_) hb;rw[e]at h7;cases h7
 obtain⟨Ax,SN⟩: ∃Ax:aS→Act→aly→Prop,Ax=λt a' A=>∃tb,a'={tmps:=N_ (.func (.func 221) #[] #[.pointer (some ⟨b0,0,none⟩)]) (.pointer (some ⟨w.heap.size,0,none⟩)) (.pointer (some ⟨tb,0,none⟩)) (br t),defers:= []}∧A.heap[tb]? =some (.cells #[.int .u64 t.1,.int .u64 t.2.1,.int .u64 t.2.2] 116)∧W.heap.size≤tb:=⟨_,rfl⟩;refine uL (a:=_) (gf:=221) (lb:= #[.pointer (some ⟨b0,0,none⟩)]) rfl Rm hit qL (λ_=>rfl) (λb hb=>hb.elim (λe=>by omega) λhb=>by have:=pk b hb;omega) I hIk ?_ Ax ?_ ?_ ?_ ?_
 ·rw[hI];exact⟨_,vz,qL,.nil (mR _)⟩
 ·rw[SN];rintro t a' A B ⟨tb,h1,h2,h3⟩ ht
  exact⟨tb,h1,ht.kept h2 (by
   rintro⟨_,o,h3,h4⟩;rw[h2]at h3;cases h3
   cases h4),h3⟩
 ·intro lp pre t A K hi gH hK;refine kj ar λK' hK'=>?_;replace hK':at3 _:=hK';rw[SN]at hK;replace hK:at3 _:=hK;dsimp only;rw[adl];show wpList _ _ _ _ {tmps:=N_ (.func (.func 221) #[] #[.pointer (some ⟨b0,0,none⟩)]) (.pointer (some ⟨w.heap.size,0,none⟩)) undef (br t),defers:= []} A;obtain⟨t1,t2,t3⟩:=t;dsimp only[N_,br];have hIA:=hIk _ _ (A.alloc (.cells #[.int .u64 t1,.int .u64 t2,.int .u64 t3] 116)) hi ((af.refl _ _).alloc _);have hTA:=(af.refl (λ_=>False) A).alloc (.cells #[.int .u64 t1,.int .u64 t2,.int .u64 t3] 116);have hAz:W.heap.size≤A.heap.size:=by
   rw[hI]at hi;obtain⟨v,h1,h2,h3⟩:=hi;have:=atm h1;omega
  go_wp2;refine hK'.out _ _ (hK.out _ _ hTA hIA ⟨A.heap.size,?_,atp _ _,hAz⟩);rfl
 ·intro lp pre t a' A hi SC hlen gH;rw[SN]at SC;obtain⟨tb,rfl,WK,htz⟩:=SC;rw[hI]at hi;obtain⟨v,h1,h2,h3⟩:=hi;obtain⟨t1,t2,t3⟩:=t;dsimp only[N_,br]at WK⊢;obtain⟨y0,y1,y2,_⟩:=bI WK;have htl:=atm WK;have x0:A.cell? ⟨w.heap.size,0,none⟩=some v:=Ae h1;have xl:=atm h1;refine wpIn_block ?_;refine kj ar λK3 hK3=>?_;replace hK3:at3 _:=hK3;have hpl:pre.length<1048576:=by omega
  have hzA:=h2.size;go_wp2_with (at_builtin;refine bK Wb rfl (.tmp 8) (.tmp 10) rfl h3 rfl (t1,t2,t3) #[.int .u64 t1,.int .u64 t2,.int .u64 t3] rfl rfl (by simp[atv]) rfl rfl aj aj aj ?_;intro g4 lK w6 gQ bH _;have hne: ¬v.ownBlock=some w.heap.size:=(λe=>by have:=(h3.own _ e).1;omega);have h6:=bH.kept h1 hne;have z0:w6.cell? ⟨w.heap.size,0,none⟩=some v:=Ae h6;have z1:w6.frozen? ⟨w.heap.size,0,none⟩=false:=eY h6;have zl:=atm h6);have hS:=(af.refl (·=w.heap.size) w6).setCell (p:=⟨w.heap.size,0,none⟩) (.inr rfl) (.slice (some ⟨g4,0,none⟩) (pre.length+1) lK);refine hK3.out _ _ ⟨rfl,?_,?_⟩
  ·refine(bH.mono λb hbl hb=>?_).bL hS λb (hb:b=w.heap.size)=> .inr ?_
   ·have akO:=h3.own b hb;obtain⟨ob,adO⟩: ∃ob,A.heap[b]? =some ob:=⟨_,arZ hbl⟩;refine⟨λhr=>hr.elim (λe=>by omega) λe=>by have:=pk b e;omega,ob,adO,?_⟩;refine aoO λhc=>h3.kT adO (λcs e=>hc ?_) hb;rw[e];rfl
   ·subst hb;exact⟨λhr=>hr.elim (λe=>by omega) λe=>by have:=pk _ e;omega,_,h1,rfl⟩
  ·rw[hI];exact⟨_,cR (o:=0) h6 _,(h2.bL bH λb hb=> .inl (by have:=(h3.own b hb).1;omega)).bL hS λb (hb:b=w.heap.size)=> .inl aj,gQ.gB hS (λb hb=>by have:=(gQ.own b hb).1;omega) λ_ _ h=>nomatch h⟩
 ·intro D xs B hD hS hi hK;rw[hI]at hi;obtain⟨v,h1,h2,h3⟩:=hi;have x0:B.cell? ⟨w.heap.size,0,none⟩=some v:=Ae h1;have xl:=atm h1;obtain⟨va,vc,rfl⟩:=h3.shape;rename_i HK;refine HK _ _ ?_;dsimp only;go_wp2;show LeavesInM avM 2 Tryz.prog Tryz.f269 _ _ _ .returning B;refine⟨by simp,.inl ⟨_,_,rfl,run_takeDeferred hK,?_⟩⟩;have hp:=fP B D (.deferred none)
  have o0:=h3.gB hp (λb hb e=>by
   have hc:=h3.kT hK (λcs e=>by cases e)
   exact hc (by rw[←e];exact hb)) (λ_ _ h=>nomatch h)
  have hz:=h2.size;exact⟨.slice va xs.length vc,by simp[results,Tryz.results269,go_sem],_,xs,rfl,hS,h2.bL hp λb (hb:b=D)=> .inl aj,o0.lower (atZ _)⟩
theorem ajM{w:aly}{o:Option Nat}{b0:Nat}{ts:List aS}(h0:w.heap[b0]? =some (.cells #[.map o] 123))(H:Hp.map (λb=>w.heap[b]?) fq br aY (.map o) (aU ts))(hn:ts.length≤1048576):
  asP Tryz.prog 220 #[.func (.func 221) #[] #[.pointer (some ⟨b0,0,none⟩)]] w λe w'=>∃v xs,e= .returned v∧bC ts xs∧af (λ_=>False) w w'∧aw w' w.heap.size 116 3 Og ko v xs:=by
 have k1:=ajE h0 H hn;go_enter Tryz.func220,Tryz.ntmps220;go_wp2_with (go_at_call 269;refine k1.mono ?_;clear k1;rintro e w2 ⟨v,xs,rfl,hS,aF,hm⟩);go_ret;exact⟨v,xs,rfl,hS,aF,hm⟩
end Go.Proofs.YtkdljbnllgpfhaaGreat
end
section
namespace Go.Proofs.YtkdljbnllgpfhaaGreat
open Go Go.RowKit Go.Upr Go.Lib Go.Sort
theorem aw.VV{w:aly}{N:Nat}{k:Hp}{v:aad}{xs:List aS}(h:aw w N 116 3 Og k v xs)(hne:xs≠ []): ∃g cap,v= .slice (some ⟨g,0,none⟩) xs.length cap∧N≤g∧g<w.heap.size∧awR sL 3 w g 0 xs.toArray∧∃cur,w.heap[g]? =some (.cells cur 116):=by
 obtain⟨_,_,dS,h1,h2,h3,h4⟩:=h;rcases h4.2 with⟨_,h5⟩|⟨g,cap,cur,rfl,h5,h6,_,_,_,h7⟩
 ·exact absurd (avo.1 h5) hne
 ·refine⟨g,cap,rfl,h5,atm h6,λj hj=>?_,_,h6⟩;rw[size_flatK,aqk]at hj;refine⟨?_,eY h6⟩;rw[arN,id,get_flatK sL 3 xs.toArray j (by rw[aqk];exact hj)];refine(aqF w g j _ 116 (0,0) h6).trans ?_;have hi:j/3<xs.length:=by omega
  have hx:xs[j/3]? =some xs[j/3]:=arn hi;have hc:dS[j/3]? =some dS[j/3]:=arn aj;have h8:dS[j/3]=sL xs[j/3]:=h3 _ _ _ hc hx;have h9:=rF h2 (j/3) (j % 3) aj hc;have h10:j/3*3+j % 3=j:=by omega
  rw[h10,←h7,aw6,if_pos hj,an0,h8]at h9;rw[h9];have h11:xs.toArray[j/3]! =xs[j/3]:=by rw[getElem!_pos xs.toArray (j/3) (by rw[aqk];exact hi)];simp
  rw[h11,getElem!_pos (sL xs[j/3]) (j % 3) (by show _<3;omega)];exact arn (by show _<3;omega)
def gD(xs:List aS):Array aS:=insertionSort (ltOf sN) xs.toArray 0 xs.length
theorem ajY{w:aly}{o:Option Nat}{b0:Nat}{ts:List aS}(h0:w.heap[b0]? =some (.cells #[.map o] 123))(H:Hp.map (λb=>w.heap[b]?) fq br aY (.map o) (aU ts))(hne:ts≠ [])(hn:ts.length≤12)(G7:ts.Nodup):
  asP Tryz.prog 159 #[.func (.func 221) #[] #[.pointer (some ⟨b0,0,none⟩)],.func (.func 101) #[] #[]] w λe w'=>∃g cap xs,e= .returned (.slice (some ⟨g,0,none⟩) ts.length cap)∧bC ts xs∧af (λ_=>False) w w'∧w.heap.size≤g∧g<w'.heap.size∧awR sL 3 w' g 0 (gD xs)∧(gD xs).size=ts.length∧∃cur,w'.heap[g]? =some (.cells cur 116):=by
 have k1:=ajM h0 H aj;go_enter Tryz.func159,Tryz.ntmps159;go_wp2_with (go_at_call 220;refine k1.mono ?_;clear k1;rintro e w2 ⟨v,xs,rfl,hS,aF,hm⟩);have hlen:xs.length=ts.length:=Nat.le_antisymm (hS.2.2.length_le_of_subset hS.2.1) (G7.length_le_of_subset hS.1);have adz:xs≠ []:=λh=>by
  rw[h,auK]at hlen;exact hne (avo.1 hlen.symm)
 obtain⟨g,cap,rfl,hg1,hg2,hH,cur,PC⟩:=aw.VV hm adz;have hz:=aF.size;have iu:xs.toArray.size=xs.length:=aqk ..;have k2:=akc (cap:=cap) hH hg2 PC aj;have hsz:=(A0 (R:=λ_=>True) (ltOf sN) 0 xs.length xs.toArray λ_=>trivial).2;rw[iu]at k2 hsz;have HS:at3 ((gD xs).size=ts.length):=hsz.trans hlen;change asP Tryz.prog 100 _ w2 (λe w'=>e= .returned (.tuple #[])∧af (·=g) w2 w'∧awR sL 3 w' g 0 (gD xs)∧∃cu',w'.heap[g]? =some (.cells cu' 116))at k2;rw[hlen]at k2⊢;clear hlen iu hsz adz hm hH;go_wp2_with (go_at_call 100;refine k2.mono ?_;clear k2;rintro e w3 ⟨rfl,bX,hH3,aim⟩);go_ret;exact⟨g,cap,xs,rfl,hS,aF.bL bX λb (hb:b=g)=> .inl aj,hg1,amC hg2 bX.size,hH3,HS.out,aim⟩
theorem c93{w:aly}{o:Option Nat}{ts:List aS}(H:Hp.map (λb=>w.heap[b]?) fq br aY (.map o) (aU ts))(hne:ts≠ [])(hn:ts.length≤12)(G7:ts.Nodup):
  asP Tryz.prog 93 #[.map o] w λe w'=>∃g cap xs,e= .returned (.slice (some ⟨g,0,none⟩) ts.length cap)∧bC ts xs∧af (λ_=>False) w w'∧w.heap.size≤g∧g<w'.heap.size∧awR sL 3 w' g 0 (gD xs)∧(gD xs).size=ts.length∧∃cur,w'.heap[g]? =some (.cells cur 116):=by
 have tA:=(af.refl (λ_=>False) w).alloc (.cells #[.map o] 123);have k2:=ajY (atp w (.cells #[.map o] 123)) (Hp.bY H tA) hne hn G7;go_enter Tryz.func93,Tryz.ntmps93;go_wp2_with (first|(go_at_call 160;refine(aeS _ _).mono ?_;rintro e w1 ⟨rfl,rfl⟩)|(go_at_call 159;refine k2.mono ?_;clear k2;rintro e w3 ⟨g,cap,xs,rfl,hS,bX,hg1,hg2,hH,hs,PC⟩));go_ret;exact⟨g,cap,xs,rfl,hS,tA.trans bX,al2 tA.size hg1,hg2,hH,hs,PC⟩
end Go.Proofs.YtkdljbnllgpfhaaGreat
end
section
namespace Go.Proofs.YtkdljbnllgpfhaaGreat
open Go Go.RowKit Go.Upr
def XR(w:aly)(b k:Nat):Prop:=b≤k∧(k=b∨∃c fz,w.heap[k]? =some (.cells c 5 fz))
abbrev Au(B b:Nat)(l:List UInt8)(w:aly):Prop:=Lib.IsBuilderF 174 5 B b (aw5 l) w
theorem Au.still{B b:Nat}{l:List UInt8}{w w':aly}(h:Au B b l w)(ht:af (λ_=>False) w w'):Au B b l w':=by
 have key: ∀p,axa 174 5 B b p (aw5 l) w→axa 174 5 B b p (aw5 l) w':=by
  rintro p ⟨h1,v,h2,h3,h4⟩;refine⟨h1,v,ht.kept h2 id,?_,h4⟩;obtain⟨h5,h6⟩:=h3;refine⟨h5,h6.imp id ?_⟩;rintro⟨g,cap,cur,fz,h7,h8,h9,h10⟩;exact⟨g,cap,cur,fz,h7,h8,(ht.block g (Array.getElem?_eq_some_iff.1 h9).1 id).trans h9,h10⟩
 exact h.imp (key _) (key _)
theorem aiX(b:Nat)(l:List UInt8)(s:ByteArray)(w:aly)(h:Au b b l w)(hlen:l.length+s.size≤140737488355328)(hBw:b≤w.heap.size):
  asP Tryz.prog 94 #[.pointer (some ⟨b,0,none⟩),.string s] w λe w'=>e= .returned (.tuple #[.int .i64 s.size,.nilIface])∧Au b b (l++s.data.toList) w'∧af (XR w b) w w':=by
 refine(Any.Builder_WriteString_kc (P:=Tryz.prog) (ρ:=Tryz.tP) {Tryz.OP with} Tryz.pI b b (aw5 l) s w h (by simpa[aw5]using hlen) hBw).mono ?_;rintro e w' ⟨rfl,⟨h1,h2,h3⟩,-⟩;rw[CX]at h1;refine⟨rfl,.inr h1,h2.os,h2.tape,h2.output,h2.size,λk hk hd=>?_⟩;rcases asV k b with hkb|hkb
 ·exact h2.block k hkb
 obtain⟨o,ho⟩: ∃o,w.heap[k]? =some o:=⟨_,arZ hk⟩;rw[ho];exact h3 k o ho (λe=>hd ⟨hkb,.inl (alN e)⟩) λc fz e=>hd ⟨hkb,.inr ⟨c,fz,by rw[ho,e];rfl⟩⟩
theorem aiV(B b:Nat)(l:List UInt8)(w:aly)(h:Au B b l w)(h0:l≠ []):
  asP Tryz.prog 96 #[.pointer (some ⟨b,0,none⟩)] w λe w'=>e= .returned (.string ⟨l.toArray⟩)∧Below B w w':=
 (Any.Builder_String_f (P:=Tryz.prog) (ρ:=Tryz.tO) Tryz.Zq Tryz.xO B b l w h h0).mono λ_ _ h=>⟨h.1,h.2.2⟩
end Go.Proofs.YtkdljbnllgpfhaaGreat
end
section
namespace Go.Proofs.YtkdljbnllgpfhaaGreat
open Go Go.RowKit Go.Upr
theorem Ed: ∀ (f w:Nat),(mj f w).length≤f
 |0,_=>agl _
 |f+1,w=>by
  unfold mj;split
  ·exact arQ _
  ·have:=Ed f (w*256 % 18446744073709551616);rw[as2];omega
def BG(t:aS):List UInt8:=au8 ((eW [t.1,t.2.1,t.2.2]).map (·.data.toList)) [44]
def sY(n:ByteArray)(t:aS):List UInt8:=n.data.toList++ [40]++BG t++ [41,46,10]
theorem Jc(sep:List UInt8): ∀ (l:List (List UInt8)),(∀x∈l,x.length≤8)→(au8 l sep).length≤l.length*(8+sep.length)
 | [],_=>by simp[au8]
 | [x],h=>by
  have:=h x bz;simp[au8];omega
 |x::y::l,h=>by
  have h1:=h x bz;have h2:=Jc sep (y::l) λz hz=>h z (List.mem_cons_of_mem _ hz);have e:au8 (x::y::l) sep=x++(sep++au8 (y::l) sep):=by simp[au8,List.intercalate]
  rw[e,ap2,ap2,as2,Nat.add_mul];omega
theorem ET(t:aS):(BG t).length≤27:=by
 have h1: ∀x∈(eW [t.1,t.2.1,t.2.2]).map (·.data.toList),x.length≤8:=λx hx=>by
  obtain⟨y,hy,rfl⟩:=amk.1 hx;obtain⟨u,-,rfl⟩:=amk.1 hy;exact Ed 8 u
 have h2:=Jc [44] _ h1;have h3:(eW [t.1,t.2.1,t.2.2]).length≤3:=by
  unfold eW;rw[auB];exact avN _ _
 rw[auB]at h2;have h4:([44]:List UInt8).length=1:=rfl;rw[h4]at h2;unfold BG;omega
theorem aiW{w:aly}{N:Nat}{v:aad}{t:aS}(hm:aw w N 9 1 gX ko v (eW [t.1,t.2.1,t.2.2]))(hne:t.1≠0):
  asP Tryz.prog 95 #[v,.string ⟨#[44]⟩] w λe w'=>e= .returned (.string ⟨(BG t).toArray⟩)∧af (λ_=>False) w w':=by
 have hn:eW [t.1,t.2.1,t.2.2]≠ []:=by
  unfold eW;rw[List.filter_cons_of_pos (by simpa using hne)];exact λh=>nomatch h
 obtain⟨g,cap,cur,hv,hgN,xQ,pQ⟩:=aw.Uz at5 (λ_ _ h=>h) hm hn;obtain⟨g2,Ts,hv2,Dr,-⟩:=hm.slice hn;rw[hv]at hv2;have hcc:cap=Ts:=by simpa using(av5 hv2).2.2
 subst hv;have hl:=ET t;have h3:(eW [t.1,t.2.1,t.2.2]).length≤3:=by
  unfold eW;rw[auB];exact avN _ _
 refine(Tryz.strings_Join g 0 cap (eW [t.1,t.2.1,t.2.2]) ⟨#[44]⟩ w (λj x hx=>?_) (atm xQ) aj aj ?_).mono λe w' h=>⟨h.1,af.ue h.2⟩
 ·rw[arN];exact(aqF w g j _ 9 (0,0) xQ).trans (pQ j x hx)
 ·unfold BG at hl;exact al2 hl aI
theorem Au.fresh(w:aly):Au w.heap.size w.heap.size [] (w.alloc (.cells #[.pointer none,.slice none 0 0] 174)):=
 .inl ⟨agl _,.slice none 0 0,atp _ _,⟨rfl,.inl ⟨rfl,rfl⟩⟩,λh=>nomatch h⟩
inductive nK(F:ByteArray→List aS):List (List UInt8)→List UInt8→Prop where
 |nil:nK F [] []
 |snoc {l:List (List UInt8)} {b:List UInt8} {n:ByteArray} {xs:List aS}:nK F l b→bC (F n) xs→nK F (l++ [n.data.toList]) (b++((gD xs).toList.map (sY n)).flatten)
end Go.Proofs.YtkdljbnllgpfhaaGreat
end
section
namespace Go.Proofs.YtkdljbnllgpfhaaGreat
open Go Go.RowKit Go.Upr Go.Lib Go.Sort
theorem wm(a b:Nat):(a<b∧qQ a b= -1)∨(b<a∧qQ a b=1)∨(a=b∧qQ a b=0):=by
 unfold qQ;by_cases h1:a<b
 ·rw[if_pos h1];exact .inl ⟨h1,rfl⟩
 ·rw[if_neg h1];by_cases h2:b<a
  ·rw[if_pos h2];exact .inr (.inl ⟨h2,rfl⟩)
  ·rw[if_neg h2];exact .inr (.inr ⟨by omega,rfl⟩)
theorem YH(t u:aS):sN t u<0↔t.1<u.1∨(t.1=u.1∧(t.2.1<u.2.1∨(t.2.1=u.2.1∧t.2.2<u.2.2))):=by
 unfold sN;rcases wm t.1 u.1 with⟨h1,e1⟩|⟨h1,e1⟩|⟨h1,e1⟩<;>rcases wm t.2.1 u.2.1 with⟨h2,e2⟩|⟨h2,e2⟩|⟨h2,e2⟩<;>rcases wm t.2.2 u.2.2 with⟨h3,e3⟩|⟨h3,e3⟩|⟨h3,e3⟩<;>simp only[e1,e2,e3]<;>simp<;>omega
theorem acw:SWO (ltOf sN):=by
 have hlt: ∀x y,ltOf sN x y=decide (x.1<y.1∨(x.1=y.1∧(x.2.1<y.2.1∨(x.2.1=y.2.1∧x.2.2<y.2.2)))):=λx y=>by
  unfold ltOf;exact decide_eq_decide.2 (YH x y)
 refine⟨λx=>?_,λx y z=>?_,λx y z=>?_⟩
 ·rw[hlt];simp
 ·rw[hlt,hlt,hlt];simp only[decide_eq_true_eq];omega
 ·rw[hlt,hlt,hlt];simp only[decide_eq_false_iff_not];omega
theorem Mg(xs:List aS):(gD xs).toList.Perm xs:=by
 have h:=(insertionSort_holds acw xs.toArray 0 xs.length (arQ _) (by rw[aqk];exact agl _)).1;obtain⟨h1,-,h3⟩:=h;have e1:(gD xs).size=xs.length:=by
  unfold gD;rw[h1,aqk]
 have e2:((gD xs).extract 0 xs.length).toList=(gD xs).toList:=by rw[←e1];simp
 have e3:(xs.toArray.extract 0 xs.length).toList=xs:=by simp
 change((gD xs).extract 0 xs.length).toList.Perm (xs.toArray.extract 0 xs.length).toList at h3
 rwa [e2,e3]at h3
end Go.Proofs.YtkdljbnllgpfhaaGreat
end
section
namespace Go.Proofs.YtkdljbnllgpfhaaGreat
open Go Go.RowKit Go.Upr Go.Lib Go.Sort
theorem EP{b:Nat}{w w1 w2:aly}(h:af (XR w b) w w1)(k:af (XR w1 b) w1 w2):af (XR w b) w w2:=
 ⟨k.os.trans h.os,k.tape.trans h.tape,k.output.trans h.output,al2 h.size k.size,λi hi hd=>by
  have h1:=h.block i hi hd;refine(k.block i (amC hi h.size) λhc=>hd ?_).trans h1;obtain⟨sH,hc⟩:=hc;rcases hc with hc|⟨c,fz,hc⟩
  ·exact⟨sH,.inl hc⟩
  ·rw[h1]at hc
   exact⟨sH,.inr ⟨c,fz,hc⟩⟩⟩
theorem I_: ∀ {l:dB},(l.map aug).Nodup→∀ {n:ByteArray} {b:Nat},(n,b)∈l→au l n=some b
 | [],_,_,_,hp=>nomatch hp
 |(m,c)::l,h,n,b,hp=>by
  rw[amY,List.nodup_cons]at h;unfold au;by_cases hm:m=n
  ·subst hm;rcases ap9.1 hp with e|hp
   ·cases e;simp
   ·exact absurd (amk.2 ⟨_,hp,rfl⟩) h.1
  ·rw[List.find?_cons_of_neg (by simpa using hm)];rcases ap9.1 hp with e|hp
   ·cases e;exact absurd rfl hm
   ·exact I_ h.2 hp
theorem c47{w:aly}{sb:Nat}{bs:dB}{F:aN}(hS:aq w sb bs F)(hne:bs≠ [])(h20:bs.length≤1024)(hF: ∀p∈bs,F p.1≠ []∧(F p.1).length≤12∧∀t∈F p.1,t.1≠0)(E2: ∀p∈bs,p.1.size≤1048576):
  asP Tryz.prog 47 #[.map (some sb)] w λe w'=>∃ (ss:List (List UInt8)) (out:List UInt8),e= .returned (.string ⟨out.toArray⟩)∧ss.Perm (bs.map λp=>p.1.data.toList)∧nK F (ss.mergeSort λx y=>decide (x≤y)) out∧af (λ_=>False) w w':=by
 obtain⟨w1,ik⟩: ∃x,x=w.alloc (.cells #[.pointer none,.slice none 0 0] 174):=⟨_,rfl⟩;obtain⟨B,hB⟩: ∃x,x=w.heap.size:=⟨_,rfl⟩;have t1:af (λ_=>False) w w1:=by rw[ik];exact(af.refl _ _).alloc _
 have hb1:Au B B [] w1:=by rw[ik,hB];exact Au.fresh w
 have XD:B<w1.heap.size:=by rw[hB,ik];simp
 have t2:af (λ_=>False) w1 (w1.alloc (.cells #[.map (some sb)] 99)):=(af.refl _ _).alloc _;have k2:=c91 (hS.top.turn (t1.trans t2) id) aj (Ae (atp w1 (.cells #[.map (some sb)] 99))) hne;go_enter Tryz.func47,Tryz.ntmps47;go_wp2_with (first|(go_at_call 92;rw[←ik,←hB];clear ik;refine(c92 _ _).mono ?_;rintro e w2 ⟨rfl,rfl⟩)|(go_at_call 91;refine k2.mono ?_;clear k2;rintro e w3 ⟨g,cap,ss,rfl,bX,hP,hg1,hg2,hH,cur,PC⟩));have T3:=(t1.trans t2).trans bX;have hb3:=(hb1.still t2).still bX;obtain⟨sl,pZ⟩: ∃sl,sl=ss.mergeSort λx y=>decide (x≤y):=⟨_,rfl⟩;have hlen:sl.length=ss.length:=by rw[pZ,aw8]
 have gJ: ∀x∈sl,∃p∈bs,p.1.data.toList=x:=λx hx=>by
  rw[pZ,List.mem_mergeSort]at hx;exact amk.1 (hP.mem_iff.1 hx)
 have hss:ss.length≤1024:=by have:=hP.length_eq;rw[auB]at this;omega
 rw[←pZ]at hH;have hSl:at3 (sl=ss.mergeSort λx y=>decide (x≤y)):=pZ;clear pZ t1 t2 hb1;have Bh:=hS.still T3 λ_ _=>id;have hz1:=bX.size;have hBz:B<w3.heap.size:=by
  simp at hz1;omega
 have hBg:B<g:=by
  simp at hg1;omega
 rw[←hB];have hsB: ∀b,dt sb bs b→¬XR w3 B b:=λb hb hc=>by
  rcases hc.2 with rfl|⟨c,fz,hc⟩
  ·have:=hS.low hb;omega
  ·obtain⟨es,cl,h1⟩:=Bh.isMap hb;rw[h1]at hc;cases hc
 have hgB: ¬XR w3 B g:=λhc=>by
  rcases hc.2 with rfl|⟨c,fz,hc⟩
  ·omega
  ·rw[PC]at hc;cases hc
 have hwB:w.heap.size≤B:=by omega
 clear hB
 go_loopw [12] (λi wr=>∃ (k:Nat) (out:List UInt8),k≤ss.length∧i= .int .i64 k∧af (XR w3 B) w3 wr∧Au B B out wr∧at3 (nK F (sl.take k) out)∧out.length≤k*12583296∧k≤out.length) (λi _=>ss.length-(intOf i).toNat)
 case atStart=>exact⟨0,[],arQ _,rfl,af.refl _ _,hb3,nK.nil,arQ _,arQ _⟩
 case round=>
  clear hb3;obtain⟨k,out,hk,rfl,hT,hb,hO,ho1,ho2⟩:=hrel;have WH:=hT.size;by_cases hlt:k<ss.length
  ·obtain⟨x,hx⟩: ∃y,sl[k]? =some y:=⟨_,arn aj⟩;obtain⟨⟨n,rb⟩,hp,RV⟩:=gJ x (ann hx);dsimp only at RV;obtain⟨f1,f2,f3⟩:=hF _ hp;have zZ:=E2 _ hp;dsimp only at f1 f2 f3 zZ;have hno:bZ n:=al2 zZ aI;have hcell:=(hH k (by rw[aqk];omega)).1;have wM:sl.toArray[k]! =x:=by
    rw[getElem!_pos sl.toArray k (by rw[aqk];omega)];have:=(apT.1 hx).2;simpa using this
   have KA:encStr x= .string n:=by rw[←RV]
   rw[wM,KA]at hcell;have e0:=hT.cell hcell hgB;have e0':wr.cell? ⟨g,k,none⟩=some (.string n):=by rw[arN]at e0;exact e0
   have wE:=Bh.still hT hsB;have jy:(au bs n).elim (.map none) ji= .map (some rb):=by
    have:=I_ (av.once hS.top) hp;rw[this];rfl
   have TK:=(wE.dy _ hp).hp;dsimp only at TK;have G7:(F n).Nodup:=by
    have h2:=av.once (wE.dy _ hp);have h3:(aU (F n)).map aug=F n:=by simp[aU,awz]
    rwa [h3]at h2
   have k3:=c93 TK f1 f2 G7;have HS:at3 (sl.take (k+1)=sl.take k++ [n.data.toList]):=by show _=_;rw[at8,hx,RV];rfl
   clear hcell wM hx KA;go_wp2_with (first|(at_lookup;refine bu cI Tryz.underlying99 gy rfl (.tmp 16) (.tmp 17) rfl rfl (aD _) wE.top.hp rfl hno jy ?_)|(go_at_call 93;refine k3.mono ?_;clear k3;rintro e w5 ⟨g2,Ts,xs,rfl,oY,bA,alb,ala,hH5,hs5,cu5,ail⟩));have sI:=hb.still bA;have aid: ¬XR w5 B g2:=λhc=>by
    rcases hc.2 with rfl|⟨c,fz,hc⟩
    ·omega
    ·rw[ail]at hc;cases hc
   have hmt: ∀t∈(gD xs).toList,fq t∧t.1≠0:=λt ht=>by
    have h1:=oY.2.1 t ((Mg xs).mem_iff.1 ht);refine⟨?_,f3 t h1⟩;obtain⟨es,cl,-,h2⟩:=wE.dy _ hp;exact h2.good (t,()) (amk.2 ⟨t,h1,rfl⟩)
   have zt:=bA.size;have Db:n.data.toList.length=n.size:=ane;clear TK G7
   go_loopw [21] (λi wq=>∃ (j:Nat) (out':List UInt8),j≤(F n).length∧i= .int .i64 j∧af (XR w5 B) w5 wq∧Au B B out' wq∧at3 (out'=out++(((gD xs).toList.take j).map (sY n)).flatten)∧out'.length≤out.length+j*1048608∧out.length+j≤out'.length) (λi _=>(F n).length-(intOf i).toNat)
   case atStart=>exact⟨0,out,arQ _,rfl,af.refl _ _,sI,(by simp:out=out++(((gD xs).toList.take 0).map (sY n)).flatten),by omega,by omega⟩
   case round=>
    clear sI;obtain⟨j,X0,hj,rfl,dK,hb2,SH,o1,o2⟩:=hrel;have hzq:=dK.size;by_cases pL:j<(F n).length
    ·have cell:=λc (hc:c<3)=>dK.cell (hH5.cell (i:=j) aj hc).1 aid;have c0:=cell 0 aj;have c1:=cell 1 aj;have c2:=cell 2 aj;clear cell;simp only[arN,at6]at c0 c1 c2;have hdl:(gD xs).toList[j]? =some (gD xs)[j]! :=by
      rw[an0,arZ aj,getElem!_pos (gD xs) j aj]
     obtain⟨q1,q2⟩:=hmt _ (ann hdl);have W8:at3 (((gD xs).toList.take (j+1)).map (sY n)=((gD xs).toList.take j).map (sY n)++ [sY n (gD xs)[j]!]):=by show _=_;rw[at8,hdl];simp
     clear hdl;generalize(gD xs)[j]! =t at c0 c1 c2 q1 q2 W8;obtain⟨a,b,c⟩:=t;change wr.cell? ⟨g2,j*3,none⟩=some (.int .u64 a)at c0;change wr.cell? ⟨g2,j*3+1,none⟩=some (.int .u64 b)at c1;change wr.cell? ⟨g2,j*3+2,none⟩=some (.int .u64 c)at c2;have k5:=λw=>c55 (w:=w) (a:=a) (b:=b) (c:=c) q1;have k9:=λ(w:aly) N v hm=>aiW (w:=w) (N:=N) (v:=v) (t:=(a,b,c)) hm q2;unfold br at k5;have qK:=ET (a,b,c);have hLB:at3 (sY n (a,b,c)=n.data.toList++ [40]++BG (a,b,c)++ [41,46,10]):=rfl;dsimp only at k9;generalize BG (a,b,c)=args at k9 qK hLB;have tA:=(af.refl (λ_=>False) wr).alloc (.cells #[.int .u64 a,.int .u64 b,.int .u64 c] 116);have hbA:=hb2.still tA;have hsz:(n++⟨#[40]⟩++⟨args.toArray⟩++⟨#[41,46,10]⟩:ByteArray).size=n.size+args.length+4:=by
      simp only[axe];show n.size+1+args.toArray.size+3=_;rw[aqk];omega
     have hsd:(n++⟨#[40]⟩++⟨args.toArray⟩++⟨#[41,46,10]⟩:ByteArray).data.toList=n.data.toList++ [40]++args++ [41,46,10]:=by simp[axf]
     go_wp2_with (first|(go_at_call 55;refine(k5 _).mono ?_;clear k5;rintro e w6 ⟨v6,rfl,bH,gQ⟩;have Fh:=hbA.still bH)|(go_at_call 95;refine(k9 _ _ _ gQ).mono ?_;clear k9;rintro e w7 ⟨rfl,eC⟩;have Hm:=Fh.still eC)|(go_at_call 94;refine(aiX B X0 _ _ Hm (by rw[hsz];omega) (by have:=(tA.trans (bH.trans eC)).size;omega)).mono ?_;rintro e w8 ⟨rfl,Fe,jJ⟩));rw[hsd,←hLB.out]at Fe;have hln:(sY n (a,b,c)).length=n.size+args.length+4:=by rw[hLB.out,←hsd];exact ane.trans hsz
     go_roundw
     case rel=>
      refine⟨j+1,X0++sY n (a,b,c),by omega,by go_num,EP (dK.bL (tA.trans (bH.trans eC)) λ_ h=>h.elim) jJ,Fe,(?_:_=_),by rw[ap2,hln];omega,by rw[ap2,hln];omega⟩;rw[W8.out,List.flatten_append,←aw9,←SH.out];simp
     case measure=>simp[intOf];omega
    ·have AP:(gD xs).toList.take j=(gD xs).toList:=at4 (by rw[ane];omega);rw[AP]at SH;have Fa:0<(F n).length:=by
      cases hh:F n with
      |nil=>exact absurd hh f1
      |cons _ _=>simp
     have hO3:at3 (nK F (sl.take (k+1)) X0):=by
      show nK F _ _;rw[HS.out,SH.out];exact nK.snoc hO.out oY
     go_wp2;go_roundw
     case rel=>exact⟨k+1,X0,by omega,by go_num,EP (hT.bL bA λ_ h=>h.elim) dK,hb2,hO3,by omega,by omega⟩
     case measure=>simp[intOf];omega
  ·have iQ:sl.take k=sl:=at4 aj;rw[iQ]at hO;have S8:0<ss.length:=by
    have h1:=hP.length_eq;rw[auB]at h1;cases bs with
    |nil=>exact absurd rfl hne
    |cons _ _=>rw[h1];simp
   have k8:=aiV B B out wr hb (λh=>by rw[h]at ho2;simp at ho2;omega);go_wp2_with (go_at_call 96;refine k8.mono ?_;clear k8;rintro e w9 ⟨rfl,hbl⟩);go_ret;refine⟨ss,out,rfl,hP,by rw[←hSl.out];exact hO.out,?_⟩;exact(T3.bL hT λb hb=> .inl (al2 hwB hb.1)).bL (Nc hbl) λb (hb:B≤b)=> .inl aj
end Go.Proofs.YtkdljbnllgpfhaaGreat
end
section
namespace Go.Proofs.YtkdljbnllgpfhaaGreat
open Go Go.RowKit Go.Upr
theorem c20{w:aly}{eb sb:Nat}{x z:aad}{bs:dB}{F:aN}(hE:w.heap[eb]? =some (.cells #[x,.map (some sb),z] 102))(hS:aq w sb bs F)(hne:bs≠ [])(h20:bs.length≤1024)(hF: ∀p∈bs,F p.1≠ []∧(F p.1).length≤12∧∀t∈F p.1,t.1≠0)(E2: ∀p∈bs,p.1.size≤1048576):
  asP Tryz.prog 20 #[.pointer (some ⟨eb,0,none⟩)] w λe w'=>∃ (ss:List (List UInt8)) (out:List UInt8),e= .returned (.string ⟨out.toArray⟩)∧ss.Perm (bs.map λp=>p.1.data.toList)∧nK F (ss.mergeSort λx y=>decide (x≤y)) out∧af (λ_=>False) w w':=by
 obtain⟨e0,e1,e2,-⟩:=bI hE;have k1:=c47 hS hne h20 hF E2;go_enter Tryz.func20,Tryz.ntmps20;go_wp2_with (go_at_call 47;refine k1.mono ?_;clear k1;rintro e w2 ⟨ss,out,rfl,hP,hO,ht⟩);go_ret;exact⟨ss,out,rfl,hP,hO,ht⟩
def uV(c:Int)(n:Nat):Int:=if c<0 then(-(c+1)) % n else c % n
theorem c31(c:Int)(n:Nat)(hc1: -9223372036854775808≤c)(hc2:c≤9223372036854775807)(hn:0<n)(Nx:n≤1000)(w:aly):asP Tryz.prog 31 #[.int .i64 c,.int .i64 (n:Nat)] w λe w'=>e= .returned (.int .i64 (uV c n))∧w'=w:=by
 by_cases h:c<0
 ·have hv:uV c n=(-(c+1)) % n:=by unfold uV;rw[if_pos h]
  have h1:wrap64 (c+1)=c+1:=by unfold wrap64;omega
  have h2:decide (c<0)=true:=decide_eq_true h;rw[hv];go_enter Tryz.func31,Tryz.ntmps31;go_wp2;go_ret;have h3:(-(c+1)).tmod (n:Int)=(-(c+1)) % n:=aw7 aj;exact⟨by first|(rw[h3];rfl)|(rw[←axd,h3];rfl)|(rw[←h3,axd];rfl)|(rw[←h3];rfl),rfl⟩
 ·have hv:uV c n=c % n:=by unfold uV;rw[if_neg h]
  have h2:decide (c<0)=false:=decide_eq_false h;have h3:c.tmod (n:Int)=c % n:=aw7 aj;rw[hv];go_enter Tryz.func31,Tryz.ntmps31;go_wp2
  all_goals go_ret
  all_goals exact⟨by first|(rw[h3];rfl)|(rw[←h3];rfl),rfl⟩
end Go.Proofs.YtkdljbnllgpfhaaGreat
end
