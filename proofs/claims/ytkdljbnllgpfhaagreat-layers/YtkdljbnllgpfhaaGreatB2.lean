import Derived.Test.YtkdljbnllgpfhaaGreatA8
import Derived.Test.YtkdljbnllgpfhaaGreatA9
import Derived.Test.YtkdljbnllgpfhaaGreatB0
import Derived.Test.YtkdljbnllgpfhaaGreatB1
import Derived.Laws.IdiomCopy
import Derived.Laws.Rows
import Derived.Laws.BitsAllLaws
import Derived.Laws.Externs
import Derived.Laws.OwnMore
set_option maxRecDepth 100000
set_option maxHeartbeats 8000000
open List renaming getElem?_eq_getElem→arn,getElem?_mapIdx→au9,mem_of_getElem?→ann,length_take→as1,length_append→ap2,mem_of_mem_take→ava,mem_cons_of_mem→ao0,ext_getElem?→aui,length_drop→avb,mem_cons_self→ao3,mem_of_mem_drop→avc,getElem?_eq_some_iff→apT,take_add_one→at8,getElem?_drop→avf,getElem?_append_right→anP,getD_eq_getElem?_getD→arB,getElem?_append_left→anQ,foldl_append→at9,flatten_cons→asZ,getElem?_take_of_lt→avh,take_of_length_le→at4,drop_of_length_le→aud,getElem?_eq_none→avj,zip_eq_zipWith→avk,getElem_of_mem→asW,flatten_append→atB,length_cons→as2,mem_append→aqo,range→at0,mem_or_eq_of_mem_set→aum,length_eq_zero_iff→avo,getElem?_set→auh,mem_nil_iff→avt,mem_flatten→avu,map_toArray→avv,length_set→avA,take_take→avB,mem_cons→ap9,map_cons→amY,map_nil→avC
open Go renaming World→aly,Value→aad,bodyPost_ret→atg,results_cell_row→au5,cell_of_row→aqF,Calls→asP,TypeId→acs,heap_alloc_new→atp,Operand→ang,Program→alu,Oper→apy,lt_of_block→atm,run_loadVar_row→avn,run_underlying→auf,Addr→alA,wpList_append_own_at→avx,run_storeCells_cells→avy,TypeDesc→avH,Act→atu,wpList_plain→avJ,u16_and_nat→avK
open Go.Result renaming andThen→aua,andThen_ok→avp
open Go.World renaming size_alloc→atS
open Go.RowKit.Below renaming heap_alloc→atn,heap_setCell→atC
open Option.some renaming inj→alN,injEq→apx
open Nat renaming add_assoc→at7,mul_le_mul_right→avd,succ_mul→asU,add_zero→at6,zero_le→arQ,le_add_right→avi,lt_or_ge→asV,le_refl→agl,min_eq_left→avl,pow_lt_pow_right→avq,or_lt_two_pow→avs,mod_eq_of_lt→avz,add_mul→avF
open Go.Region renaming wanted→apY
open Go.IntKind renaming u16→ave,signed→auQ,bits→auY,u64→aq8
open Option renaming none→al1
open Go.Lib renaming pop8→avg
open Array renaming length_toList→ane,getElem?_eq_getElem→arZ
open Go.RowKit renaming Hid→at3
open List.range renaming loop→au7
open Go.Builtin renaming append_→anF,firstCells→ani,zeroCells→anA,lenOf→anp
open Go.Instr renaming sureAddr→amH,loadAt→amZ
open Go.Value.slice renaming injEq→avm
open Go.Value renaming int→aqu
open Go.Oper renaming wp→atJ
open Go.Program renaming keyLits→auq
open Int renaming toNat_of_nonneg→avr,toNat_natCast→avw
open Go.Addr.mk renaming injEq→amG
open Go.Addr renaming add→aqt
open Go.Sem renaming run_pure→avD,run_bind→avE
open Go.BinOp renaming and→avG,or→avI
open Go.Obj renaming cells→asI
open Int.ofNat renaming inj→auI
open Go.WideMaps renaming KeyLaw→auo
section
namespace Go.Upr
open Go Go.RowKit
theorem pY(b:Nat){e:acs}{fr:Nat×Nat}: ∀ (vs:List aad) (o:Nat) (w:aly) (cs:Array aad),w.heap[b]? =some (.cells cs e fr)→o+vs.length≤cs.size→
  (w.setCells b o vs).heap[b]? =some (.cells (cs.toList.take o++vs++cs.toList.drop (o+vs.length)).toArray e fr)
 | [],o,w,cs,h,_=>by
  show w.heap[b]? =_;rw[h];simp
 |v::r,o,w,cs,h,hl=>by
  simp only[as2]at hl;have h1:=cR (o:=o) h v;have h2:=pY b r (o+1) (w.setCell ⟨b,o,none⟩ v) _ h1 lq;show((w.setCell ⟨b,o,none⟩ v).setCells b (o+1) r).heap[b]? =_
  rw[h2]
  congr 2
  apply congrArg List.toArray;rw[Array.toList_setIfInBounds,as2];have e1:(cs.toList.set o v).take (o+1)=cs.toList.take o++ [v]:=by
   rw[at8,List.getElem?_set_self (by simpa using(by omega:o<cs.size)),List.take_set_of_le (agl o)];rfl
  have e2:(cs.toList.set o v).drop (o+1+r.length)=cs.toList.drop (o+(r.length+1)):=by
   rw[List.drop_set_of_lt aj]
   congr 1
   omega
  rw[e1,e2];simp
theorem pW(b:Nat): ∀ (vs:List aad) (o:Nat) (w:aly),af (·=b) w (w.setCells b o vs)
 | [],_,w=>af.refl _ w
 |v::r,o,w=>((af.refl (·=b) w).setCell (p:=⟨b,o,none⟩) (.inr rfl) v).trans (pW b r (o+1) _)
section
variable{P:alu}{ops:Array apy}{rest:List apy}{o:apy}{a:atu}{Q:Exit→atu→aly→Prop}{w:aly}{b:Nat}{t:acs}{e:acs}{fr:Nat×Nat}{cs:Array aad}{d:avH}
theorem fH(hg:apY o (yielded ops a.tmps)=true)(x:ang)(hop:o.op= .load t x)(hx:a.eval x= .pointer (some ⟨b,0,none⟩))(hb:w.heap[b]? =some (.cells cs e fr))(hu:P.underlying t=some d)(hd:(match d with| .struct _| .array _ _=>true|_=>false)=true)(hi:(P.info? t).map (·.size)=some cs.size)
  (hk:wpList P ops Q rest (a.put o.dst (.agg cs)) w):wpList P ops Q (o::rest) a w:=by
 refine wpList_want hg λK' hK'=>?_;have h1:=avn (P:=P) w b e t cs fr d hb hu hd hi;unfold atJ;simp[execOp,hop,hx,amZ,amH,h1,aua];exact hK' _ _ hk
theorem bV(hg:apY o (yielded ops a.tmps)=true)(x y:ang)(hop:o.op= .store t x y)(hx:a.eval x= .pointer (some ⟨b,0,none⟩))(hb:w.heap[b]? =some (.cells cs e)){vs:Array aad}(hy:a.eval y= .agg vs)(hz: ∀w,(Go.sizeOf t).run P w= .ok cs.size w)(hs:vs.size=cs.size)(h1: ∀v∈vs.toList,v.oneCell'=true)
  (hk: ∀w',af (·=b) w w'→w'.heap[b]? =some (.cells vs e)→wpList P ops Q rest (a.put o.dst undef) w'):wpList P ops Q (o::rest) a w:=by
 refine wpList_want hg λK' hK'=>?_;have h2:(storeCells ⟨b,0,none⟩ vs.toList 0).run P w= .ok () (w.setCells b 0 vs.toList):=by
  refine avy (P:=P) b 0 vs.toList 0 w (λj hj=>?_) (λj _=>eY hb) h1;rw[aqF w b _ cs e (0,0) hb];rw[arZ (by simp at hj;omega)];rfl
 have h3:=pY b vs.toList 0 w cs hb lq;have h4:(cs.toList.take 0++vs.toList++cs.toList.drop (0+vs.toList.length)).toArray=vs:=by
  rw[aud lq];simp
 rw[h4]at h3;unfold atJ;simp[execOp,hop,hx,hy,Instr.storeAt,amH,storeVar,Value.cells,hz,hs,h2,aua];exact hK' _ _ (hk _ (pW b _ 0 w) h3)
end
end Go.Upr
end
section
namespace Go.Upr
open Go Go.RowKit
theorem rJ{P:alu}{o:apy}{a:atu}{C:aly→Prop}{K:atu→Prop}{v:aad}(h: ∀w,C w→(execOp a.eval o).run P w= .ok (.value v) w)(hk:K (a.put o.dst v)):o.quiet P a C K:=
 ⟨v,λw hw=>by unfold Oper.quietAt;rw[h w hw];exact⟨rfl,rfl⟩,hk⟩
section
variable{P:alu}{ops:Array apy}{C:aly→Prop}{fx:Nat→Bool}{Q:atu→aly→Prop}{k:Nat}{o:apy}{rest:List apy}{a:atu}{w:aly}{b:Nat}{t:acs}{e:acs}{fr:Nat×Nat}{cs:Array aad}{d:avH}
theorem dF(hf:fx k=false)(hw:apY o (yielded ops a.tmps)=true)(x:ang)(hop:o.op= .load t x)(hx:a.eval x= .pointer (some ⟨b,0,none⟩))(hb: ∀w,C w→w.heap[b]? =some (.cells cs e fr))(hu:P.underlying t=some d)(hd:(match d with| .struct _| .array _ _=>true|_=>false)=true)(hi:(P.info? t).map (·.size)=some cs.size)
  (h:eX P ops C fx Q (k+1) rest (a.put o.dst (.agg cs)) w):eX P ops C fx Q k (o::rest) a w:=by
 refine ak hf (by rw[hop];rfl) hw λK hK=>rJ (λw hw=>?_) (hK _ h);have h1:=avn (P:=P) w b e t cs fr d (hb w hw) hu hd hi;simp[execOp,hop,hx,amZ,amH,h1,aua]
theorem zQ{kt et:acs}{κ ν:Type}{key:κ→aad}{ok:κ→Prop}{enc:ν→aad}[DecidableEq κ]{f:List (κ×ν)}{y:κ}(K:fG P kt key ok)(ht:P.underlying t=some (.map kt et)){z:aad}(hz: ∀w,(zeroValue et).run P w= .ok z w)(hf:fx k=false)(hw:apY o (yielded ops a.tmps)=true)(m x:ang)(c:Bool)(hop:o.op= .lookup t m x c){v:aad}(hm:a.eval m=v)
  (H: ∀w,C w→Hp.map (λb=>w.heap[b]?) ok key enc v f) (hx:a.eval x=key y) (hy:ok y) (h:eX P ops C fx Q (k+1) rest (a.put o.dst (if c then .tuple #[(au f y).elim z enc,.bool (au f y).isSome]else(au f y).elim z enc)) w):eX P ops C fx Q k (o::rest) a w:=by
 refine ak hf (by rw[hop];rfl) hw λK' hK=>rJ (λw hw=>?_) (hK _ h);have h1:=Cb K ht (hz w) (aD w) (H w hw) hy c;simp[execOp,hop,hm,hx,h1,aua]
theorem iP{kt et:acs}{κ ν:Type}{key:κ→aad}{ok:κ→Prop}{enc:ν→aad}[DecidableEq κ]{f:List (κ×ν)}{y:κ}(K:fG P kt key ok)(ht:P.underlying t=some (.map kt et)){z:aad}(hz: ∀w,(zeroValue et).run P w= .ok z w)(hf:fx k=false)(hw:apY o (yielded ops a.tmps)=true)(m x:ang)(hop:o.op= .lookup t m x false){v:aad}(hm:a.eval m=v)
  (H: ∀w,C w→Hp.map (λb=>w.heap[b]?) ok key enc v f) (hx:a.eval x=key y) (hy:ok y) {u:aad} (hu:(au f y).elim z enc=u) (h:eX P ops C fx Q (k+1) rest (a.put o.dst u) w):eX P ops C fx Q k (o::rest) a w:=
 zQ K ht hz hf hw m x false hop hm H hx hy (by rw[if_neg aI,hu];exact h)
end
end Go.Upr
end
section
namespace Go.Upr
open Go Go.RowKit
def aM(b:List Nat):Array Value:=(b.map λn=>aqu .u64 (n:Nat)).toArray
theorem cX(b:List Nat):(aM b).size=b.length:=by simp[aM]
theorem QN(b:List Nat)(i:Nat):(aM b)[i]? =(b[i]?).map λn=>aqu .u64 (n:Nat):=by simp[aM]
theorem QL(b:List Nat)(i x:Nat):(aM b).setIfInBounds i (.int .u64 (x:Nat))=aM (b.set i x):=by
 unfold aM;rw[List.map_set];simp
theorem eA(b:List Nat): ∀v∈(aM b).toList,v.oneCell'=true:=by
 intro v hv;simp only[aM,List.mem_map]at hv;obtain⟨n,_,rfl⟩:=hv;rfl
theorem Wn{vs:Nat}(h:vs<65536)(k:Nat):(bits avG ave ((vs:Int) /2^k) 1==0)= !vs.testBit k:=by
 have e1:((vs:Int) /2^k)=((vs/2^k:Nat):Int):=by simp
 have e2:vs/2^k<65536:=Nat.lt_of_le_of_lt (Nat.div_le_self _ _) h;have e3:=avK (vs/2^k) 1 e2 aI;rw[e1];rw[show(1:Int)=((1:Nat):Int)from rfl,e3,nat_mask1,Nat.testBit_eq_decide_div_mod_eq];rcases Nat.mod_two_eq_zero_or_one (vs/2^k)with h0|h0<;>rw[h0]<;>rfl
def bS(w:aly)(b:Nat)(t:acs)(l:List Nat):Prop:=w.heap[b]? =some (.cells (aM l) t)
theorem bS.cell{w:aly}{b:Nat}{t:acs}{l:List Nat}(h:bS w b t l){i x:Nat}(hx:l[i]? =some x):w.cell? ⟨b,i,none⟩=some (.int .u64 (x:Nat))∧w.frozen? ⟨b,i,none⟩=false:=
 ⟨(aqF w b i _ t (0,0) h).trans (by rw[QN,hx];rfl),eY h⟩
theorem bS.set{w:aly}{b:Nat}{t:acs}{l:List Nat}(h:bS w b t l)(i x:Nat):bS (w.setCell ⟨b,i,none⟩ (.int .u64 (x:Nat))) b t (l.set i x):=by
 have h1:=cR (o:=i) h (.int .u64 (x:Nat));rw[QL]at h1;exact h1
theorem bS.lt{w:aly}{b:Nat}{t:acs}{l:List Nat}(h:bS w b t l):b<w.heap.size:=(Array.getElem?_eq_some_iff.1 h).1
theorem bS.turn{w w':aly}{b:Nat}{t:acs}{l:List Nat}{D:Nat→Prop}(h:bS w b t l)(ht:af D w w')(hd: ¬D b):bS w' b t l:=ht.kept h hd
theorem cell_far{w:aly}{b o b' o':Nat}{v x:aad}(h:w.cell? ⟨b,o,al1⟩=some x)(hne:b≠b'):(w.setCell ⟨b',o',none⟩ v).cell? ⟨b,o,al1⟩=some x:=
 ((af.refl (·=b') w).setCell (p:=⟨b',o',none⟩) (.inr rfl) v).cell h hne
theorem VZ{w:aly}{b b' o':Nat}{v:aad}{x:Obj}(h:w.heap[b]? =some x)(hne:b≠b'):(w.setCell ⟨b',o',none⟩ v).heap[b]? =some x:=
 ((af.refl (·=b') w).setCell (p:=⟨b',o',none⟩) (.inr rfl) v).kept h hne
theorem bS.far{w:aly}{b:Nat}{t:acs}{l:List Nat}(h:bS w b t l){b' o':Nat}{v:aad}(hne:b≠b'):bS (w.setCell ⟨b',o',none⟩ v) b t l:=VZ h hne
theorem bS.alloc{w:aly}{b:Nat}{t:acs}{l:List Nat}(h:bS w b t l){o:Obj}:bS (w.alloc o) b t l:=h.turn ((af.refl (λ_=>False) w).alloc o) id
abbrev eB:=List Nat
def cZ(b:eB):Value:= .agg (aM b)
abbrev okB(b:eB):Prop:=b.length=12∧∀x∈b,x<18446744073709551616
def dL:eB:=List.replicate 12 0
def eH(b:eB)(vs:Nat):eB:=b.mapIdx λj x=>if vs.testBit j then x else 0
def kA(b:eB)(vs k:Nat):eB:=b.mapIdx λj x=>if j<k&& !vs.testBit j then 0 else x
theorem Ms(b:eB)(vs:Nat):kA b vs 0=b:=by
 unfold kA;apply aui;intro i;rw[au9];cases b[i]? <;>simp
theorem Et(b:eB)(vs k:Nat):(kA b vs k).length=b.length:=by simp[kA]
theorem Eu{b:eB}{vs k:Nat}(h:b.length≤k):kA b vs k=eH b vs:=by
 unfold kA eH;apply aui;intro i;rw[au9,au9];by_cases hi:i<b.length
 ·have:i<k:=by omega
  rw[arn hi];cases vs.testBit i<;>simp[this]
 ·rw[avj aj];rfl
theorem Mt{b:eB}{vs k:Nat}(h:vs.testBit k=true):kA b vs (k+1)=kA b vs k:=by
 unfold kA;apply aui;intro i;rw[au9,au9];by_cases hi:i=k
 ·subst hi;simp[h]
 ·have:(i<k+1)=(i<k):=by simp;omega
  simp[this]
theorem Mu{b:eB}{vs k:Nat}(h:vs.testBit k=false):kA b vs (k+1)=(kA b vs k).set k 0:=by
 unfold kA;apply aui;intro i;rw[au9,auh,au9];by_cases hi:k=i
 ·subst hi;by_cases hl:k<b.length
  ·simp[hl,h]
  ·simp[hl]
 ·have:(i<k+1)=(i<k):=by simp;omega
  rw[if_neg hi];simp[this]
end Go.Upr
namespace Go.Proofs.YtkdljbnllgpfhaaGreat
open Go Go.RowKit Go.Upr
theorem Yq(w:aly){b:eB}(hb:b.length=12)(vs:Nat)(hvs:vs<65536):
  asP Tryz.prog 374 #[cZ b,.int .u16 vs] w λe w'=>e= .returned (cZ (eH b vs))∧af (λ_=>False) w w':=by
 unfold cZ;have NG:bS ((w.alloc (.cells (aM b) 467)).alloc (.cells (aM dL) 467)) w.heap.size 467 b:=bq _ _ _;have hZ0:bS ((w.alloc (.cells (aM b) 467)).alloc (.cells (aM dL) 467)) (w.heap.size+1) 467 dL:=aR _ _ _;have bM:=((af.refl (λ_=>False) w).alloc (.cells (aM b) 467)).alloc (.cells (aM dL) 467);go_enter Tryz.func374,Tryz.ntmps374;go_wp2
 go_loopw [6] (λi wr=>∃ (k:Nat),k≤12∧i= .int .i64 k∧af (λ_=>False) w wr∧bS wr w.heap.size 467 (kA b vs k)∧bS wr (w.heap.size+1) 467 dL) (λi _=>12-(intOf i).toNat)
 case atStart=>exact⟨0,by omega,rfl,bM,by rw[Ms];exact NG,hZ0⟩
 case round=>
  clear NG hZ0;obtain⟨k,hk,rfl,hT,hN,hZ⟩:=hrel;by_cases hlt:k<12
  ·obtain⟨x,hx⟩: ∃x,(kA b vs k)[k]? =some x:=⟨_,arn (by rw[Et];omega)⟩;obtain⟨hc,hf⟩:=hN.cell hx;have hq:=Wn hvs k;have HK:at3 (vs.testBit k=true→kA b vs (k+1)=kA b vs k):=Mt;have HD:at3 (vs.testBit k=false→kA b vs (k+1)=(kA b vs k).set k 0):=Mu;clear hx;cases hv:vs.testBit k with
   |true=>
    rw[hv]at hq;have HV:=HK.out hv;clear hv;rw[←HV]at hN;have HV2:at3 True:=trivial;clear HV HK HD;go_wp2;go_roundw
    case rel=>exact⟨k+1,by omega,by go_num,hT,hN,hZ⟩
    case measure=>simp[intOf];omega
   |false=>
    rw[hv]at hq;have HV:at3 (kA b vs (k+1)=(kA b vs k).set k 0):=HD.out hv;clear hv HK HD;go_wp2;go_roundw
    case rel=>exact⟨k+1,by omega,by go_num,hT.setCell (.inl (agl _)) _,by rw[HV.out];exact hN.set k 0,(atC _ _ _ _ bz).trans hZ⟩
    case measure=>simp[intOf];omega
  ·obtain rfl:k=12:=by omega
   rw[Eu aj]at hN;have hsz:(aM (eH b vs)).size=12:=by rw[cX,←Eu (k:=12) aj,Et];exact hb
   go_wp2_with (first|refine fH rfl (.tmp 2) rfl rfl hN Tryz.underlying467 rfl (by rw[hsz];kernel_rfl) ?_|(refine bV rfl (.tmp 4) (.tmp 17) rfl rfl hZ rfl Tryz.sizeOf467 (by rw[hsz];rfl) (eA _) ?_;intro w3 bX hb3));refine atg (au5 rfl _ _ (w.heap.size+1) 467 _ _ _ rfl hb3 Tryz.underlying467 rfl (by rw[hsz];kernel_rfl)) rfl ?_;exact⟨rfl,hT.bL bX λb (h:b=w.heap.size+1)=> .inl aj⟩
end Go.Proofs.YtkdljbnllgpfhaaGreat
end
section
namespace Go.Upr
open Go Go.RowKit
def sg(b o:eB):eB:=b.mapIdx λj x=>x|||o.getD j 0
def wP(b o:eB)(k:Nat):eB:=b.mapIdx λj x=>if j<k then x|||o.getD j 0 else x
theorem RB(b o:eB):wP b o 0=b:=by
 unfold wP;apply aui;intro i;rw[au9];cases b[i]? <;>simp
theorem Ws(b o:eB)(k:Nat):(wP b o k).length=b.length:=by simp[wP]
theorem Jw{b o:eB}{k:Nat}(h:b.length≤k):wP b o k=sg b o:=by
 unfold wP sg;apply aui;intro i;rw[au9,au9];by_cases hi:i<b.length
 ·have:i<k:=by omega
  simp[this]
 ·rw[avj aj];rfl
theorem Z8{b o:eB}{k x:Nat}(h:b[k]? =some x):(wP b o k)[k]? =some x:=by
 unfold wP;rw[au9,h];simp
theorem RD{b o:eB}{k x y:Nat}(h:b[k]? =some x)(h2:o[k]? =some y):wP b o (k+1)=(wP b o k).set k (x|||y):=by
 unfold wP;apply aui;intro i;rw[au9,auh,au9];by_cases hi:k=i
 ·subst hi;rw[h];have hl:=(apT.1 h).1;simp[hl,h2]
 ·have:(i<k+1)=(i<k):=by simp;omega
  rw[if_neg hi];simp[this]
structure ni where
 c:Nat
 v:Nat
 deriving DecidableEq
def r_(_:Hp)(c:List aad)(x:ni):Prop:=c= [.int .u64 (x.c:Nat),.int .i64 (x.v:Nat)]
structure sW where
 n:ByteArray
 ts:List ni
 deriving DecidableEq
def NL(h:Hp)(c:List aad)(a:sW):Prop:=∃v,c= [.string a.n,v]∧h.list 2 r_ v a.ts
def qP(t:ni):Prop:=t.c<18446744073709551616∧t.v<12
def Dk(vs:Nat)(t:ni):Nat:=if t.c=0 then vs|||2^t.v else vs
def bU(ts:List ni):Nat:=ts.foldl Dk 0
theorem Ma{ts:List ni}{k:Nat}{y:ni}(hy:ts[k]? =some y):bU (ts.take (k+1))=Dk (bU (ts.take k)) y:=by
 unfold bU;rw[at8,hy,at9];rfl
theorem YE{vs:Nat}{t:ni}(h:vs<4096)(ht:t.v<12):Dk vs t<4096:=by
 unfold Dk;split
 ·exact avs (n:=12) h (avq aj ht)
 ·exact h
theorem iL{ts:List ni}(h: ∀t∈ts,qP t):bU ts<4096:=by
 have h1: ∀ (ts:List ni) (vs:Nat),(∀t∈ts,qP t)→vs<4096→ts.foldl Dk vs<4096:=by
  intro ts
  induction ts with
  |nil=>exact λ_ _ h=>h
  |cons t ts ih=>exact λvs h hv=>ih _ (λt ht=>h t (ao0 _ ht)) (YE hv (h t (ao3 ..)).2)
 exact h1 ts 0 h aI
end Go.Upr
namespace Go.Proofs.YtkdljbnllgpfhaaGreat
open Go Go.RowKit Go.Upr
theorem ai6(w:aly){b o:eB}(hb:okB b)(ho:okB o):
  asP Tryz.prog 376 #[cZ b,cZ o] w λe w'=>e= .returned (cZ (sg b o))∧af (λ_=>False) w w':=by
 unfold cZ;have bM:=(((af.refl (λ_=>False) w).alloc (.cells (aM b) 467)).alloc (.cells (aM o) 467)).alloc (.cells (aM dL) 467);have NG:bS (((w.alloc (.cells (aM b) 467)).alloc (.cells (aM o) 467)).alloc (.cells (aM dL) 467)) w.heap.size 467 b:=(atn _ _ _ lq).trans (bq _ _ _);have hO0:bS (((w.alloc (.cells (aM b) 467)).alloc (.cells (aM o) 467)).alloc (.cells (aM dL) 467)) (w.heap.size+1) 467 o:=(atn _ _ _ bz).trans (aR _ _ _);have hZ0:bS (((w.alloc (.cells (aM b) 467)).alloc (.cells (aM o) 467)).alloc (.cells (aM dL) 467)) (w.heap.size+2) 467 dL:=by have:=aR (w.alloc (.cells (aM b) 467)) (.cells (aM o) 467) (.cells (aM dL) 467);rwa [atS]at this
 go_enter Tryz.func376,Tryz.ntmps376;go_wp2
 go_loopw [6] (λi wr=>∃ (k:Nat),k≤12∧i= .int .i64 k∧af (λ_=>False) w wr∧bS wr w.heap.size 467 (wP b o k)∧bS wr (w.heap.size+1) 467 o∧bS wr (w.heap.size+2) 467 dL) (λi _=>12-(intOf i).toNat)
 case atStart=>exact⟨0,by omega,rfl,bM,by rw[RB];exact NG,hO0,hZ0⟩
 case round=>
  clear NG hZ0 hO0;obtain⟨k,hk,rfl,hT,hN,hO,hZ⟩:=hrel;by_cases hlt:k<12
  ·obtain⟨x,hx⟩: ∃x,b[k]? =some x:=⟨_,arn (by have:=hb.1;omega)⟩;obtain⟨y,hy⟩: ∃x,o[k]? =some x:=⟨_,arn (by have:=ho.1;omega)⟩;obtain⟨hc,hf⟩:=hN.cell (Z8 hx);obtain⟨hc2,hf2⟩:=hO.cell hy;have HV:at3 (wP b o (k+1)=(wP b o k).set k (x|||y)):=RD hx hy;have hq:=u64_or_nat x y (hb.2 x (ann hx)) (ho.2 y (ann hy));clear hx hy;have hl:=hZ.lt;have hd:decide ((k:Int)<12)=true:=by rw[decide_eq_true_eq];omega
   go_wp2;refine aG (λi=>i==8) ar ar ?_;intro S g hS gc gf gh gb;have hg1: ∀x,(g x).cell? ⟨w.heap.size,k,none⟩=_:=λx=>(gc x _ k aj).trans hc;have hg2: ∀x,(g x).cell? ⟨w.heap.size+1,k,none⟩=_:=λx=>(gc x _ k aj).trans hc2;iterate 8 (refine ak ar aC aC λK hK=>?_;go_big_quiet_op;refine hK _ ?_;clear hK K)
   refine ai ar aC λQ' hQ=>?_;go_wp2;refine hQ _ _ ar (aX ar) ?_;clear hQ Q';refine aQ ?_;go_wp2;go_roundw
   case rel=>exact⟨k+1,by omega,by go_num,(hT.drew).setCell (.inl (agl _)) _,by rw[HV.out];exact(show bS wr.drew w.heap.size 467 _ from hN).set k _,(atC _ _ _ _ bz).trans hO,(atC _ _ _ _ bz).trans hZ⟩
   case measure=>simp[intOf];omega
  ·obtain rfl:k=12:=by omega
   rw[Jw aj]at hN;have hsz:(aM (sg b o)).size=12:=by rw[cX,←Jw (k:=12) aj,Ws];exact hb.1
   go_wp2_with (first|refine fH rfl (.tmp 2) rfl rfl hN Tryz.underlying467 rfl (by rw[hsz];kernel_rfl) ?_|(refine bV rfl (.tmp 4) (.tmp 18) rfl rfl hZ rfl Tryz.sizeOf467 (by rw[hsz];rfl) (eA _) ?_;intro w3 bX hb3));refine atg (au5 rfl _ _ (w.heap.size+2) 467 _ _ _ rfl hb3 Tryz.underlying467 rfl (by rw[hsz];kernel_rfl)) rfl ?_;exact⟨rfl,hT.bL bX λb (h:b=w.heap.size+2)=> .inl aj⟩
end Go.Proofs.YtkdljbnllgpfhaaGreat
end
section
namespace Go.Proofs.YtkdljbnllgpfhaaGreat
open Go Go.RowKit Go.Upr
theorem acM{vs v:Nat}(h:vs<4096)(hv:v<12):bits avI ave (vs:Int) (ave.wrap (2^v))=((vs|||2^v:Nat):Int):=by
 have h0:2^v<2^12:=avq aj hv;have h1:2^v<4096:=h0;clear h0;have e:((2:Int) ^v)=((2^v:Nat):Int):=by simp
 rw[e];generalize 2^v=q at h1⊢;have h2:ave.wrap (q:Int)=(q:Int):=by rw[IntKind.wrap_u16];omega
 rw[h2,u16_or_nat vs q aj aj]
theorem P7{h:Hp}{w:aly}(hw:h.In w){x:ByteArray}{ad:Option alA}{l c:Nat}{a:sW}(ha:NL h [.string x,.slice ad l c] a)(hn:a.ts.length≤3)(hv: ∀t∈a.ts,qP t):
  asP Tryz.prog 322 #[.agg #[.string x,.slice ad l c]] w λe w'=>e= .returned (.int .u16 (bU a.ts:Nat))∧af (λ_=>False) w w':=by
 obtain⟨v,hvv,iu⟩:=ha;obtain⟨rfl,rfl⟩:x=a.n∧ .slice ad l c=v:=by simpa using hvv
 obtain⟨lu,cap',hv2,hat⟩:=iu.at hw;obtain⟨rfl,rfl,rfl⟩:ad=lu∧l=a.ts.length∧c=cap':=by simpa using hv2
 clear hv2 hvv;have bM:=(af.refl (λ_=>False) w).alloc (.cells #[.string a.n,.slice ad a.ts.length c] 315);go_enter Tryz.func322,Tryz.ntmps322;go_wp2
 go_loopw [3,9] (λv i wr=>∃ (k:Nat),k≤a.ts.length∧i= .int .i64 k∧v= .int .u16 (bU (a.ts.take k):Nat)∧af (λ_=>False) w wr) (λ_ i _=>a.ts.length-(intOf i).toNat)
 case atStart=>exact⟨0,arQ _,rfl,rfl,bM⟩
 case round=>
  obtain⟨k,hk,rfl,rfl,hT⟩:=hrel;by_cases hlt:k<a.ts.length
  ·obtain⟨y,hy⟩: ∃y,a.ts[k]? =some y:=⟨_,arn hlt⟩;obtain⟨g,o,cc,rfl,bW,rfl,ag⟩:=hat k y hy;have e0:=hT.cell (ag 0 aI) id;have e1:=hT.cell (ag 1 aI) id;simp only[at6,←at7]at e0 e1;have HS:at3 (bU (a.ts.take (k+1))=Dk (bU (a.ts.take k)) y):=Ma hy;have r8:=hv y (ann hy);have hlv:=iL (ts:=a.ts.take k) λt ht=>hv t (ava ht);generalize bU (a.ts.take k)=vs at HS hlv;clear hy ag bW;obtain⟨yc,yv⟩:=y;dsimp only at e0 e1;have hy2:yv<12:=r8.2;clear r8;by_cases hc:yc=0
   ·subst hc;have HT:at3 (Dk vs ⟨0,yv⟩=vs|||2^yv):=rfl;have HO:at3 (bits avI ave (vs:Int) (ave.wrap (2^yv))=((vs|||2^yv:Nat):Int)):=acM hlv hy2;go_wp2;go_roundw
    case rel=>exact⟨k+1,by omega,by go_num,by rw[HS.out,HT.out,HO.out],(hT.alloc _)⟩
    case measure=>simp[intOf];omega
   ·have HT:at3 (Dk vs ⟨yc,yv⟩=vs):=if_neg hc;have hq:((yc:Int)==0)=false:=by simpa using hc
    clear hc;go_wp2;go_roundw
    case rel=>exact⟨k+1,by omega,by go_num,by rw[HS.out,HT.out],(hT.alloc _)⟩
    case measure=>simp[intOf];omega
  ·have iQ:a.ts.take k=a.ts:=at4 aj;rw[iQ];go_wp2;go_ret;exact⟨rfl,hT⟩
end Go.Proofs.YtkdljbnllgpfhaaGreat
end
section
namespace Go.Proofs.YtkdljbnllgpfhaaGreat
open Go Go.RowKit Go.Upr
def Hc(ts:List ni)(b:eB)(i:Nat):Nat:=(ts[i]?).elim 0 λt=>if t.c=0 then b.getD t.v 0 else t.c
def tL(ts:List ni)(b:eB)(k:Nat):List Nat:=(at0 3).map λi=>if i<k then Hc ts b i else 0
def g_(ts:List ni)(b:eB):Nat×Nat×Nat:=(Hc ts b 0,Hc ts b 1,Hc ts b 2)
theorem YJ{ts:List ni}{b:eB}{k:Nat}(hk:k<3):tL ts b (k+1)=(tL ts b k).set k (Hc ts b k):=by
 unfold tL;obtain rfl|rfl|rfl:k=0∨k=1∨k=2:=by omega
 all_goals simp[at0,au7]
theorem UX{ts:List ni}{b:eB}{i:Nat}(h:ts.length≤i):Hc ts b i=0:=by
 unfold Hc;rw[avj h];rfl
theorem acA{ts:List ni}{b:eB}:tL ts b ts.length= [(g_ ts b).1,(g_ ts b).2.1,(g_ ts b).2.2]:=by
 have h: ∀i,(if i<ts.length then Hc ts b i else 0)=Hc ts b i:=λi=>by
  split
  ·rfl
  ·exact(UX aj).symm
 simp[tL,at0,au7,h,g_]
theorem acz(ts:List ni)(b:eB)(k:Nat):(tL ts b k).length=3:=by simp[tL]
theorem Lp{ts:List ni}{b:eB}(ht: ∀t∈ts,qP t)(hb:okB b)(i:Nat):Hc ts b i<18446744073709551616:=by
 unfold Hc;cases h:ts[i]? with
 |none=>exact(by decide:0<18446744073709551616)
 |some t=>
  have h1:=ht t (ann h);show(if t.c=0 then b.getD t.v 0 else t.c)<_
  split
  ·rw[arB];cases h2:b[t.v]? with
   |none=>decide
   |some x=>exact hb.2 x (ann h2)
  ·exact h1.1
theorem aeA{h:Hp}{w:aly}(hw:h.In w){x:ByteArray}{ad:Option alA}{l c:Nat}{a:sW}(ha:NL h [.string x,.slice ad l c] a)(hn:a.ts.length≤3)(hv: ∀t∈a.ts,qP t){b:eB}(hb:okB b):
  asP Tryz.prog 366 #[.agg #[.string x,.slice ad l c],cZ b] w λe w'=>e= .returned (.agg (aM [(g_ a.ts b).1,(g_ a.ts b).2.1,(g_ a.ts b).2.2]))∧af (λ_=>False) w w':=by
 obtain⟨v,hvv,iu⟩:=ha;obtain⟨rfl,rfl⟩:x=a.n∧ .slice ad l c=v:=by simpa using hvv
 obtain⟨lu,cap',hv2,hat⟩:=iu.at hw;obtain⟨rfl,rfl,rfl⟩:ad=lu∧l=a.ts.length∧c=cap':=by simpa using hv2
 clear hv2 hvv;unfold cZ;obtain⟨o1,ho1⟩: ∃o1,o1=asI #[.string a.n,.slice ad a.ts.length c] 315:=⟨_,rfl⟩;have bM:=((((af.refl (λ_=>False) w).alloc o1).alloc (.cells (aM b) 467)).alloc (.cells (aM [0,0,0]) 116)).alloc (.cells (aM [0,0,0]) 116);have lH:bS ((((w.alloc o1).alloc (.cells (aM b) 467)).alloc (.cells (aM [0,0,0]) 116)).alloc (.cells (aM [0,0,0]) 116)) (w.heap.size+1) 467 b:=by
  refine(atn _ _ _ bz).trans ((atn _ _ _ bz).trans (aR _ _ _))
 have SE:bS ((((w.alloc o1).alloc (.cells (aM b) 467)).alloc (.cells (aM [0,0,0]) 116)).alloc (.cells (aM [0,0,0]) 116)) (w.heap.size+2) 116 [0,0,0]:=by
  have:=bq ((w.alloc o1).alloc (.cells (aM b) 467)) (.cells (aM [0,0,0]) 116) (.cells (aM [0,0,0]) 116);simp only[atS,at7,Nat.reduceAdd]at this;exact this
 have hL0:bS ((((w.alloc o1).alloc (.cells (aM b) 467)).alloc (.cells (aM [0,0,0]) 116)).alloc (.cells (aM [0,0,0]) 116)) (w.heap.size+3) 116 (tL a.ts b 0):=by
  have:=aR ((w.alloc o1).alloc (.cells (aM b) 467)) (.cells (aM [0,0,0]) 116) (.cells (aM [0,0,0]) 116);simp only[atS,at7,Nat.reduceAdd]at this;exact this
 subst ho1;go_enter Tryz.func366,Tryz.ntmps366;go_wp2
 go_loopw [6,11] (λ_ i wr=>∃ (k:Nat),k≤a.ts.length∧i= .int .i64 k∧af (λ_=>False) w wr∧bS wr (w.heap.size+1) 467 b∧bS wr (w.heap.size+2) 116 [0,0,0]∧bS wr (w.heap.size+3) 116 (tL a.ts b k)) (λ_ i _=>a.ts.length-(intOf i).toNat)
 case atStart=>exact⟨0,arQ _,rfl,bM,lH,SE,hL0⟩
 case round=>
  clear lH SE hL0;obtain⟨k,hk,rfl,hT,hB,hR,hL⟩:=hrel;by_cases hlt:k<a.ts.length
  ·obtain⟨y,hy⟩: ∃y,a.ts[k]? =some y:=⟨_,arn hlt⟩;obtain⟨g,o,cc,rfl,bW,rfl,ag⟩:=hat k y hy;have e0:=hT.cell (ag 0 aI) id;have e1:=hT.cell (ag 1 aI) id;simp only[at6,←at7]at e0 e1;have r8:=hv y (ann hy);have HS:at3 (tL a.ts b (k+1)=(tL a.ts b k).set k (Hc a.ts b k)):=YJ aj;have HA:at3 (Hc a.ts b k=if y.c=0 then b.getD y.v 0 else y.c):=by show _=_;unfold Hc;rw[hy];rfl
   clear hy ag bW;obtain⟨yc,yv⟩:=y;dsimp only at e0 e1;obtain⟨z,hz⟩: ∃z,b[yv]? =some z:=⟨_,arn (by have:=hb.1;have:yv<12:=r8.2;omega)⟩;have HZ:at3 (b.getD yv 0=z):=by show _=_;rw[arB,hz];rfl
   obtain⟨b1,b2⟩:=hB.cell hz;have ahy:yv<12:=r8.2;obtain⟨u,hu⟩: ∃u,(tL a.ts b k)[k]? =some u:=⟨_,arn (by rw[acz];omega)⟩;obtain⟨c1,c2⟩:=hL.cell hu;clear r8 hz hu;have jy:=hL.lt;have b3:(wr.setCell ⟨w.heap.size+1+1+1,k,none⟩ (.int .u64 (yc:Nat))).cell? ⟨w.heap.size+1,yv,none⟩=some (.int .u64 (z:Nat)):=cell_far b1 aj;have b4:=((af.refl (λ_=>False) _).alloc (.cells #[.int .u64 (yc:Nat),.int .i64 (yv:Nat)] 413)).cell b3 id;by_cases hc:yc=0
   ·have hq:((yc:Int)==0)=true:=by simpa using hc
    have HE:at3 ((if yc=0 then b.getD yv 0 else yc)=z):=by show _=_;rw[if_pos hc,HZ.out]
    clear hc;go_wp2;go_roundw
    case rel=>
     refine⟨k+1,by omega,by go_num,((hT.setCell (.inl (avi _ 3)) _).setCell (.inl (avi _ 3)) _).alloc _,((hB.far aj).far aj).alloc,((hR.far aj).far aj).alloc,?_⟩;have:=(hL.set k yc).set k z;rw[List.set_set]at this;rw[HS.out,HA.out,HE.out];exact this.alloc
    case measure=>simp[intOf];omega
   ·have hq:((yc:Int)==0)=false:=by simpa using hc
    have HE:at3 ((if yc=0 then b.getD yv 0 else yc)=yc):=by show _=_;rw[if_neg hc]
    clear hc;go_wp2;go_roundw
    case rel=>
     refine⟨k+1,by omega,by go_num,(hT.setCell (.inl (avi _ 3)) _).alloc _,(hB.far aj).alloc,(hR.far aj).alloc,?_⟩;rw[HS.out,HA.out,HE.out];exact(hL.set k yc).alloc
    case measure=>simp[intOf];omega
  ·obtain rfl:k=a.ts.length:=by omega
   rw[acA]at hL;obtain⟨r,hr⟩: ∃r,r= [(g_ a.ts b).1,(g_ a.ts b).2.1,(g_ a.ts b).2.2]:=⟨_,rfl⟩;have hsz:(aM r).size=3:=by rw[cX,hr];rfl
   rw[←hr]at hL;have HR:at3 (r= [(g_ a.ts b).1,(g_ a.ts b).2.1,(g_ a.ts b).2.2]):=hr;clear hr;go_wp2_with (first|refine fH rfl (.tmp 5) rfl rfl hL Tryz.underlying116 rfl (by rw[hsz];kernel_rfl) ?_|(refine bV rfl (.tmp 4) (.tmp 30) rfl rfl hR rfl Tryz.sizeOf116 (by rw[hsz];rfl) (eA _) ?_;intro w3 bX hb3));refine atg (au5 rfl _ _ (w.heap.size+2) 116 _ _ _ rfl hb3 Tryz.underlying116 rfl (by rw[hsz];kernel_rfl)) rfl ?_;exact⟨by rw[HR.out],hT.bL bX λb (h:b=w.heap.size+2)=> .inl aj⟩
end Go.Proofs.YtkdljbnllgpfhaaGreat
end
section
namespace Go.Proofs.YtkdljbnllgpfhaaGreat
open Go Go.RowKit Go.Upr
theorem UE(x y c:Nat)(hc:c≤1)(w:aly):(callFunc 350 #[.int .u64 (x:Nat),.int .u64 (y:Nat),.int .u64 (c:Nat)]).run Tryz.prog w= .ok (.value (.tuple #[.int .u64 (((x+y+c) % 18446744073709551616:Nat):Int),.int .u64 (((x+y+c) /18446744073709551616:Nat):Int)])) w:=by
 rw[run_callFunc_extern Tryz.func350 ar ar ar (e:=add64Entry) ar,run_add64 x y c aj aj aj aj];simp only[aua]
 congr 5<;>omega
def cU(n:Nat):Value:= .agg #[.int .u64 (n/18446744073709551616:Nat),.int .u64 (n % 18446744073709551616:Nat)]
abbrev gK:Nat:=340282366920938463463374607431768211456
theorem ajd(n:Nat)(hn:n<18446744073709551616)(w:aly):asP Tryz.prog 364 #[.int .u64 (n:Nat)] w λe w'=>e= .returned (cU n)∧af (λ_=>False) w w':=by
 have h1:n/18446744073709551616=0:=Nat.div_eq_of_lt hn;have h2:n % 18446744073709551616=n:=avz hn;unfold cU;rw[h1,h2];clear h1 h2;go_enter Tryz.func364,Tryz.ntmps364;go_wp2;refine atg (au5 rfl _ _ w.heap.size 112 _ _ _ rfl (atp w _) Tryz.underlying112 rfl ar) rfl ?_;exact⟨rfl,(af.refl _ w).alloc _⟩
theorem Vf(a b:Nat):(a % 18446744073709551616+b % 18446744073709551616+0) % 18446744073709551616=(a+b) % gK % 18446744073709551616:=by unfold gK;omega
theorem QH(a b:Nat):(a/18446744073709551616+b/18446744073709551616+(a % 18446744073709551616+b % 18446744073709551616+0) /18446744073709551616) % 18446744073709551616=(a+b) % gK/18446744073709551616:=by unfold gK;omega
theorem aeI(a b:Nat)(w:aly):asP Tryz.prog 334 #[cU a,cU b] w λe w'=>e= .returned (cU ((a+b) % gK))∧af (λ_=>False) w w':=by
 unfold cU;rw[←Vf,←QH];have h1:(a % 18446744073709551616+b % 18446744073709551616+0) /18446744073709551616≤1:=by omega
 generalize a/18446744073709551616=ah;generalize b/18446744073709551616=bh;generalize a % 18446744073709551616=al at h1⊢;generalize b % 18446744073709551616=bl at h1⊢;have e1:=λw=>UE al bl 0 aj w;obtain⟨cy,hcy⟩: ∃cy,(al+bl+0) /18446744073709551616=cy:=⟨_,rfl⟩;obtain⟨lw,hlw⟩: ∃cy,(al+bl+0) % 18446744073709551616=cy:=⟨_,rfl⟩;rw[hcy]at h1;simp only[hcy,hlw]at e1⊢;have e2:=λw=>UE ah bh cy h1 w;obtain⟨hw,hhw⟩: ∃q,(ah+bh+cy) % 18446744073709551616=q:=⟨_,rfl⟩;obtain⟨ow,how⟩: ∃q,(ah+bh+cy) /18446744073709551616=q:=⟨_,rfl⟩;simp only[hhw,how]at e2⊢;clear hcy hlw hhw how;have e3: ∀w,(callFunc 350 #[.int .u64 (al:Nat),.int .u64 (bl:Nat),.int .u64 0]).run Tryz.prog w= .ok (.value (.tuple #[.int .u64 (lw:Nat),.int .u64 (cy:Nat)])) w:=e1;clear e1;go_enter Tryz.func334,Tryz.ntmps334;go_wp2;refine atg (au5 rfl _ _ (w.heap.size+2) 112 _ _ _ rfl (by have:=aR (w.alloc (.cells #[.int .u64 ah,.int .u64 al] 112)) (.cells #[.int .u64 bh,.int .u64 bl] 112) (.cells #[.int .u64 hw,.int .u64 lw] 112);rwa [atS]at this) Tryz.underlying112 rfl ar) rfl ?_;exact⟨rfl,(((af.refl _ w).alloc _).alloc _).alloc _⟩
theorem Tv{n:ByteArray}{a1 a2:Option alA}{l1 l2 k1 k2:Nat}(w:aly):asP Tryz.prog 323 #[.agg #[.string n,.slice a1 l1 k1,.slice a2 l2 k2]] w λe w'=>e= .returned (.string n)∧af (λ_=>False) w w':=by
 go_enter Tryz.func323,Tryz.ntmps323;go_wp2;go_ret;exact⟨rfl,(af.refl _ w).alloc _⟩
theorem ajf{n:ByteArray}{a1 a2:Option alA}{l1 l2 k1 k2:Nat}(w:aly):asP Tryz.prog 359 #[.agg #[.string n,.slice a1 l1 k1,.slice a2 l2 k2]] w λe w'=>e= .returned (.int .i64 l2)∧af (λ_=>False) w w':=by
 go_enter Tryz.func359,Tryz.ntmps359;go_wp2;go_ret;exact⟨rfl,(af.refl _ w).alloc _⟩
theorem ajj{w:aly}{jb:Nat}{n m:ByteArray}{v1 v2 v3 v4 v5 v6:aad}(hj:w.heap[jb]? =some (.cells #[.string n,v1,.string m,v2,v3,v4,v5,v6] 479)):
  asP Tryz.prog 353 #[.pointer (some ⟨jb,0,none⟩)] w λe w'=>e= .returned (.string n)∧w'=w:=by
 have h0:w.cell? ⟨jb,0,none⟩=some (.string n):=(aqF w jb 0 _ 479 (0,0) hj).trans rfl;go_enter Tryz.func353,Tryz.ntmps353;go_wp2;go_ret;exact⟨rfl,rfl⟩
theorem aji{w:aly}{jb:Nat}{n m:ByteArray}{v1 v2 v3 v4 v5 v6:aad}(hj:w.heap[jb]? =some (.cells #[.string n,v1,.string m,v2,v3,v4,v5,v6] 479)):
  asP Tryz.prog 354 #[.pointer (some ⟨jb,0,none⟩)] w λe w'=>e= .returned (.string m)∧w'=w:=by
 have h0:w.cell? ⟨jb,2,none⟩=some (.string m):=(aqF w jb 2 _ 479 (0,0) hj).trans rfl;go_enter Tryz.func354,Tryz.ntmps354;go_wp2;go_ret;exact⟨rfl,rfl⟩
theorem Tt(m:Option Nat)(w:aly):asP Tryz.prog 331 #[.map m] w λe w'=>e= .returned (.agg #[.map m,.map none,.map none])∧af (λ_=>False) w w':=by
 go_enter Tryz.func331,Tryz.ntmps331;go_wp2;refine atg (au5 rfl _ _ w.heap.size 444 _ _ _ rfl (atp w _) Tryz.underlying444 rfl ar) rfl ?_;exact⟨rfl,(af.refl _ w).alloc _⟩
theorem ajq(m c g:Option Nat)(w:aly):asP Tryz.prog 336 #[.map m,.agg #[.map c,.map g]] w λe w'=>e= .returned (.agg #[.map m,.map c,.map g])∧af (λ_=>False) w w':=by
 go_enter Tryz.func336,Tryz.ntmps336;go_wp2;refine atg (au5 rfl _ _ (w.heap.size+1) 444 _ _ _ rfl (aR w _ _) Tryz.underlying444 rfl ar) rfl ?_;exact⟨rfl,((af.refl _ w).alloc _).alloc _⟩
theorem ajp(c g:Option Nat)(w:aly):asP Tryz.prog 338 #[.agg #[.map c,.map g]] w λe w'=>e= .returned (.agg #[.map g,.map c])∧af (λ_=>False) w w':=by
 go_enter Tryz.func338,Tryz.ntmps338;go_wp2;refine atg (au5 rfl _ _ (w.heap.size+1) 158 _ _ _ rfl (aR w _ _) Tryz.underlying158 rfl ar) rfl ?_;exact⟨rfl,((af.refl _ w).alloc _).alloc _⟩
theorem ajg(t:aS)(ht:fq t)(w:aly):asP Tryz.prog 358 #[br t] w λe w'=>∃b,e= .returned (.map (some b))∧w.heap.size≤b∧af (λ_=>False) w w'∧av w' fq br aY b [(t,())]:=by
 have tV:= @run_makeMap Tryz.prog;obtain⟨x,y,z⟩:=t;have p8:av ((w.alloc (.cells #[.int .u64 x,.int .u64 y,.int .u64 z] 116)).alloc (.map #[] 0)) fq br aY (w.heap.size+1) []:=by
  have:=av.made (w:=w.alloc (.cells #[.int .u64 x,.int .u64 y,.int .u64 z] 116)) (ok:=fq) (key:=br) (enc:=aY)
  rwa [atS]at this
 unfold br;dsimp only;go_enter Tryz.func358,Tryz.ntmps358;go_wp2_with (refine lg gL Tryz.underlying123 rfl (.tmp 3) (.tmp 4) (.tmp 5) rfl rfl p8 rfl ht () rfl ?_;intro w4 ck NH);go_ret;exact⟨_,rfl,Nat.le_succ _,(((af.refl _ w).alloc _).alloc _).bL ck (λb (h:b=w.heap.size+1)=> .inl aj),NH⟩
end Go.Proofs.YtkdljbnllgpfhaaGreat
end
section
namespace Go.Proofs.YtkdljbnllgpfhaaGreat
open Go Go.RowKit Go.Upr
def Fv(x:Nat):Nat:=(avg ((x/256:Nat):Int)).toNat+(avg ((x % 256:Nat):Int)).toNat
theorem Gf: ∀i:Nat,i<256→0≤avg (i:Int)∧(avg (i:Int)).toNat≤8:=by decide+kernel
theorem Y1: ∀i:Nat,i<16→(avg (i:Int)).toNat≤4:=by decide+kernel
theorem OE{x:Nat}(h:x<4096):Fv x≤12:=by
 have h1:=Y1 (x/256) aj;have h2:=(Gf (x % 256) aj).2;unfold Fv;omega
theorem ai4(x:Nat)(hx:x<4096)(w:aly):asP Tryz.prog 378 #[.int .u16 (x:Nat)] w λe w'=>e= .returned (.int .i64 (Fv x:Nat))∧af (λ_=>False) w w':=by
 have h1:(0:Int)≤(x:Int) /256:=by omega
 have h2:(x:Int) /256≤255:=by omega
 have h4:(0:Int)≤(x:Int) % 256:=by omega
 have h5:(x:Int) % 256≤255:=by omega
 have h3:bits avG ave (x:Int) 255=(x:Int) % 256:=by
  rw[show(255:Int)=((255:Nat):Int)from rfl,avK x 255 aj aI,nat_mask8];rfl
 have p1:=Gf (x/256) aj;have p2:=Gf (x % 256) aj;have HN:at3 (Fv x=(avg ((x/256:Nat):Int)).toNat+(avg ((x % 256:Nat):Int)).toNat):=rfl;have q1:((x/256:Nat):Int)=(x:Int) /256:=by omega
 have q2:((x % 256:Nat):Int)=(x:Int) % 256:=by omega
 rw[q1]at p1 HN;rw[q2]at p2 HN;clear q1 q2;obtain⟨a,ha⟩: ∃a:Nat,avg ((x:Int) /256)=(a:Int):=⟨_,(avr p1.1).symm⟩;obtain⟨b,hb⟩: ∃a:Nat,avg ((x:Int) % 256)=(a:Int):=⟨_,(avr p2.1).symm⟩;rw[ha]at p1 HN;rw[hb]at p2 HN;rw[avw]at p1 HN;have b1:=p1.2;have b2:=p2.2;rw[avw]at b2 HN;clear p1 p2;go_enter Tryz.func378,Tryz.ntmps378;go_wp2;refine aG (λ_=>false) ar ar ?_;intro S g hS gc gf gh gb;iterate 9 (refine ak ar aC aC λK hK=>?_;go_big_quiet_op;refine hK _ ?_;clear hK K)
 refine aQ ?_;go_wp2;go_ret;exact⟨by rw[HN.out];go_num,(af.refl _ w).drew⟩
theorem ajb(x:Nat)(hx:x<4096)(w:aly):asP Tryz.prog 369 #[.int .u16 (x:Nat)] w λe w'=>e= .returned (.int .i64 (Fv x:Nat))∧af (λ_=>False) w w':=by
 have hc:=λw=>ai4 x hx w;generalize Fv x=n at hc⊢;go_enter Tryz.func369,Tryz.ntmps369;go_wp2_with (go_at_call 378;refine(hc _).mono ?_;rintro e w2 ⟨rfl,aF⟩);go_ret;exact⟨rfl,aF⟩
def kS(x:Nat):Nat:=2^ (5*Fv x)
theorem yO{x:Nat}(h:x<4096):kS x≤1152921504606846976:=by
 have:=Nat.pow_le_pow_right (n:=2) aj (show 5*Fv x≤60 by have:=OE h;omega);exact this
theorem aeC(x:Nat)(hx:x<4096)(w:aly):asP Tryz.prog 357 #[.int .u16 (x:Nat)] w λe w'=>e= .returned (.int .i64 (kS x:Nat))∧af (λ_=>False) w w':=by
 have hc:=λw=>ajb x hx w;have hp:=yO hx;have hn:=OE hx;unfold kS at hp⊢;generalize Fv x=n at hc hp hn⊢;go_enter Tryz.func357,Tryz.ntmps357;go_wp2_with (go_at_call 369;refine(hc _).mono ?_;rintro e w2 ⟨rfl,aF⟩);have HW:wrap64 ((2:Int) ^ (5*n))=((2^ (5*n):Nat):Int):=by
  have:((2:Int) ^ (5*n))=((2^ (5*n):Nat):Int):=by simp
  rw[this];generalize 2^ (5*n)=z at hp;unfold wrap64;omega
 rw[HW];go_ret;exact⟨rfl,aF⟩
end Go.Proofs.YtkdljbnllgpfhaaGreat
end
section
namespace Go.Proofs.YtkdljbnllgpfhaaGreat
open Go Go.RowKit Go.Upr
abbrev Vw:=Option Nat×Option Nat×Option Nat
structure bN where
 a:sW
 neg:Bool
 side:Bool
 deriving DecidableEq
def jX(V:Bool→ByteArray→Vw)(h:Hp)(c:List aad)(p:bN):Prop:=
 ∃v,c= [.string p.a.n,v,.bool p.neg,.map (V p.side p.a.n).1,.map (V p.side p.a.n).2.1,.map (V p.side p.a.n).2.2]∧h.list 2 r_ v p.a.ts
theorem jX.mono{V:Bool→ByteArray→Vw}{h k:Hp}(e:h.le k){c:List aad}{a:bN}(H:jX V h c a):jX V k c a:=by
 obtain⟨v,h1,h2⟩:=H;exact⟨v,h1,Hp.list.mono (h:=h) (k:=k) (λ_ _ q=>q) h2 e⟩
theorem jX.cells{V:Bool→ByteArray→Vw}{h:Hp}{c:List aad}{p:bN}(H:jX V h c p): ∃ad cp,c= [.string p.a.n,.slice ad p.a.ts.length cp,.bool p.neg,.map (V p.side p.a.n).1,.map (V p.side p.a.n).2.1,.map (V p.side p.a.n).2.2]∧NL h [.string p.a.n,.slice ad p.a.ts.length cp] p.a:=by
 obtain⟨v,h1,h2⟩:=H;obtain⟨ad,cp,rfl⟩:=h2.shape;exact⟨ad,cp,h1,_,rfl,h2⟩
def dP(p:bN):Prop:=p.a.ts.length≤3∧(∀t∈p.a.ts,qP t)∧bZ p.a.n
def SX(vs:Nat)(p:bN):Nat:=vs|||bU p.a.ts
def nw(ps:List bN):Nat:=ps.foldl SX 0
theorem Mb{ps:List bN}{k:Nat}{y:bN}(hy:ps[k]? =some y):nw (ps.take (k+1))=SX (nw (ps.take k)) y:=by
 unfold nw;rw[at8,hy,at9];rfl
theorem B4{ps:List bN}(h: ∀p∈ps,dP p):nw ps<4096:=by
 have h1: ∀ (ps:List bN) (vs:Nat),(∀p∈ps,dP p)→vs<4096→ps.foldl SX vs<4096:=by
  intro ts
  induction ts with
  |nil=>exact λ_ _ h=>h
  |cons t ts ih=>exact λvs h hv=>ih _ (λt ht=>h t (ao0 _ ht)) (avs (n:=12) hv (iL (h t (ao3 ..)).2.1))
 exact h1 ps 0 h aI
theorem aew{V:Bool→ByteArray→Vw}{h:Hp}{w:aly}(hw:h.In w){ad:Option alA}{l c:Nat}{ps:List bN}(hcs:h.list 6 (jX V) (.slice ad l c) ps)(hn:ps.length≤16)(hv: ∀p∈ps,dP p):
  asP Tryz.prog 379 #[.slice ad l c] w λe w'=>e= .returned (.int .u16 (nw ps:Nat))∧af (λ_=>False) w w':=by
 obtain⟨lu,cap',hv2,hat⟩:=hcs.at hw;obtain⟨rfl,rfl,rfl⟩:ad=lu∧l=ps.length∧c=cap':=by simpa using hv2
 clear hv2;go_enter Tryz.func379,Tryz.ntmps379;go_wp2
 go_loopw [3,8] (λv i wr=>∃ (k:Nat),k≤ps.length∧i= .int .i64 k∧v= .int .u16 (nw (ps.take k):Nat)∧af (λ_=>False) w wr) (λ_ i _=>ps.length-(intOf i).toNat)
 case atStart=>exact⟨0,arQ _,rfl,rfl,af.refl _ w⟩
 case round=>
  obtain⟨k,hk,rfl,rfl,hT⟩:=hrel;by_cases hlt:k<ps.length
  ·obtain⟨y,hy⟩: ∃y,ps[k]? =some y:=⟨_,arn hlt⟩;obtain⟨g,o,cc,rfl,bW,hR,ag⟩:=hat k y hy;obtain⟨ya,yc,rfl,wF⟩:=hR.cells;have e0:=hT.cell (ag 0 aI) id;have e1:=hT.cell (ag 1 aI) id;have e2:=hT.cell (ag 2 aI) id;have e3:=hT.cell (ag 3 aI) id;have e4:=hT.cell (ag 4 aI) id;have e5:=hT.cell (ag 5 aI) id;simp only[at6,←at7]at e0 e1 e2 e3 e4 e5;have HS:at3 (nw (ps.take (k+1))=SX (nw (ps.take k)) y):=Mb hy;have r8:=hv y (ann hy);have hlv:=B4 (ps:=ps.take k) λt ht=>hv t (ava ht);have xZ:=iL r8.2.1;generalize nw (ps.take k)=vs at HS hlv;have HP:at3 (SX vs y=vs|||bU y.a.ts):=rfl;have HC:=λ(w':aly) (ht:af (λ_=>False) w w')=>P7 (hw.turn ht (λ_ _ _ h=>h)) wF r8.1 r8.2.1;clear hy ag bW;generalize bU y.a.ts=q at HC xZ HP;have HO:=u16_or_nat vs q aj aj;generalize(V y.side y.a.n)=vw at e3 e4 e5;obtain⟨v1,v2,v3⟩:=vw;dsimp only at e3 e4 e5;clear hR wF;go_wp2_with (go_at_call 322;refine(HC _ (hT.alloc _)).mono ?_;rintro e w2 ⟨rfl,aF⟩);go_roundw
   case rel=>exact⟨k+1,by omega,by go_num,by rw[HS.out,HP.out],(hT.alloc _).trans aF⟩
   case measure=>simp[intOf];omega
  ·have iQ:ps.take k=ps:=at4 aj;rw[iQ];go_wp2;go_ret;exact⟨rfl,hT⟩
end Go.Proofs.YtkdljbnllgpfhaaGreat
end
section
namespace Go.Proofs.YtkdljbnllgpfhaaGreat
open Go Go.RowKit Go.Upr
def kU(b:eB)(t:ni)(u:Nat):Option eB:=
 let x:=if t.c=0 then b.getD t.v 0 else t.c
 if x=0 then some (b.set t.v u)else if x=u then some b else none
def cO(ts:List ni)(ws:List Nat):Option eB:=(ts.zip ws).foldl (λob p=>ob.bind λb=>kU b p.1 p.2) (some dL)
theorem JZ{ts:List ni}{ws:List Nat}{k:Nat}{y:ni}{u:Nat}(hy:ts[k]? =some y)(hu:ws[k]? =some u):cO (ts.take (k+1)) (ws.take (k+1))=(cO (ts.take k) (ws.take k)).bind λb=>kU b y u:=by
 have h1:(ts.take (k+1)).zip (ws.take (k+1))=(ts.take k).zip (ws.take k)++ [(y,u)]:=by
  rw[at8,at8,hy,hu];rw[List.zip_append (by rw[as1,as1];have:=(apT.1 hy).1;have:=(apT.1 hu).1;omega)];rfl
 unfold cO;rw[h1,at9];rfl
theorem MX{l:List (ni×Nat)}:l.foldl (λob p=>ob.bind λb=>kU b p.1 p.2) (none:Option eB)=none:=by
 induction l with
 |nil=>rfl
 |cons p l ih=>exact ih
theorem JY{ts:List ni}{ws:List Nat}(k:Nat)(h:cO (ts.take (k+1)) (ws.take (k+1))=none):cO ts ws=none:=by
 unfold cO at*;have h1:ts.zip ws=(ts.take (k+1)).zip (ws.take (k+1))++(ts.drop (k+1)).zip (ws.drop (k+1)):=by
  rw[avk,avk,avk,←List.take_zipWith,←List.drop_zipWith,List.take_append_drop]
 rw[h1,at9,h,MX]
theorem QW{b:eB}{t:ni}{u:Nat}(hb:okB b)(hu:u<18446744073709551616){b':eB}(h:kU b t u=some b'):okB b':=by
 unfold kU at h;dsimp only at h;generalize(if t.c=0 then b.getD t.v 0 else t.c)=x at h;split at h
 ·obtain rfl:=alN h;refine⟨by rw[avA];exact hb.1,λx hx=>?_⟩;rcases aum hx with h1|h1
  ·exact hb.2 x h1
  ·rw[h1];exact hu
 ·split at h
  ·obtain rfl:=alN h;exact hb
  ·cases h
theorem BX:okB dL:=⟨rfl,λx hx=>by rw[List.eq_of_mem_replicate hx];decide⟩
theorem uv{ts:List ni}{ws:List Nat}(hu: ∀u∈ws,u<18446744073709551616){b:eB}(h:cO ts ws=some b):okB b:=by
 have h1: ∀ (l:List (ni×Nat)) (ob:Option eB),(∀p∈l,p.2<18446744073709551616)→(∀c,ob=some c→okB c)→∀c,l.foldl (λob p=>ob.bind λb=>kU b p.1 p.2) ob=some c→okB c:=by
  intro l
  induction l with
  |nil=>exact λ_ _ h=>h
  |cons p l ih=>
   intro ob hl ho;refine ih _ (λq hq=>hl q (ao0 _ hq)) λc hc=>?_;cases ob with
   |none=>cases hc
   |some d=>exact QW (ho d rfl) (hl p (ao3 ..)) hc
 exact h1 _ _ (λp hp=>hu p.2 (List.of_mem_zip hp).2) (λc hc=>by obtain rfl:=alN hc;exact BX) b h
theorem iO{P:alu}{fn:Func}{p q:Tmp}{ty:acs}(h:fn.results= #[.cell p ty,.tmp q])(tmps:Array aad)(w:aly)(g:Nat)(t:acs)(cs:Array aad)(fr:Nat×Nat)(d:avH)
  (hp:tmps.getD p undef= .pointer (some ⟨g,0,none⟩)) (hg:w.heap[g]? =some (.cells cs t fr))
  (hu:P.underlying ty=some d) (hd:(match d with| .struct _| .array _ _=>true|_=>false)=true) (hi:(P.info? ty).map (·.size)=some cs.size) (v:aad) (hv:tmps.getD q undef=v):
  (results fn tmps).run P w= .ok (.tuple #[.agg cs,v]) w:=by
 have Nw:tmps[p]?.getD undef= .pointer (some ⟨g,0,none⟩):=by simpa using hp
 have hv':tmps[q]?.getD undef=v:=by simpa using hv
 simp[results,h,Nw,hv',asAddr,avn w g t ty cs fr d hg hu hd hi,aua]
end Go.Proofs.YtkdljbnllgpfhaaGreat
end
section
namespace Go.Proofs.YtkdljbnllgpfhaaGreat
open Go Go.RowKit Go.Upr
def lx(t:aS):List Nat:= [t.1,t.2.1,t.2.2]
theorem Qf(t:aS):br t= .agg (aM (lx t)):=rfl
theorem IH{α β:Type}: ∀ (l:List α) (k:List β),l.zip (k.take l.length)=l.zip k
 | [],k=>by simp
 |x::l,[]=>by simp
 |x::l,y::k=>by simp[IH l k]
def FU(o:Option eB):Value:= .tuple #[cZ (o.getD dL),.bool o.isSome]
theorem ab9{h:Hp}{w:aly}(hw:h.In w){x:ByteArray}{ad:Option alA}{l c:Nat}{a:sW}(ha:NL h [.string x,.slice ad l c] a)(hn:a.ts.length≤3)(hv: ∀t∈a.ts,qP t){t:aS}(ht:fq t):
  asP Tryz.prog 351 #[.agg #[.string x,.slice ad l c],br t] w λe w'=>e= .returned (FU (cO a.ts (lx t)))∧af (λ_=>False) w w':=by
 rw[Qf];have hwl:(lx t).length=3:=rfl;have hwk: ∀u∈lx t,u<18446744073709551616:=by
  intro u hu;simp only[lx,ap9,avt,or_false]at hu;rcases hu with rfl|rfl|rfl
  ·exact ht.1
  ·exact ht.2.1
  ·exact ht.2.2
 generalize lx t=ws at hwl hwk;clear ht;obtain⟨v,hvv,iu⟩:=ha;obtain⟨rfl,rfl⟩:x=a.n∧ .slice ad l c=v:=by simpa using hvv
 obtain⟨lu,cap',hv2,hat⟩:=iu.at hw;obtain⟨rfl,rfl,rfl⟩:ad=lu∧l=a.ts.length∧c=cap':=by simpa using hv2
 clear hv2 hvv;obtain⟨o1,ho1⟩: ∃o1,o1=asI #[.string a.n,.slice ad a.ts.length c] 315:=⟨_,rfl⟩;have bM:=((((af.refl (λ_=>False) w).alloc o1).alloc (.cells (aM ws) 116)).alloc (.cells (aM dL) 467)).alloc (.cells (aM dL) 467);have hW0:bS ((((w.alloc o1).alloc (.cells (aM ws) 116)).alloc (.cells (aM dL) 467)).alloc (.cells (aM dL) 467)) (w.heap.size+1) 116 ws:=
  (atn _ _ _ bz).trans ((atn _ _ _ bz).trans (aR _ _ _))
 have SE:bS ((((w.alloc o1).alloc (.cells (aM ws) 116)).alloc (.cells (aM dL) 467)).alloc (.cells (aM dL) 467)) (w.heap.size+2) 467 dL:=by
  have:=bq ((w.alloc o1).alloc (.cells (aM ws) 116)) (.cells (aM dL) 467) (.cells (aM dL) 467);simp only[atS,at7,Nat.reduceAdd]at this;exact this
 have lH:bS ((((w.alloc o1).alloc (.cells (aM ws) 116)).alloc (.cells (aM dL) 467)).alloc (.cells (aM dL) 467)) (w.heap.size+3) 467 dL:=by
  have:=aR ((w.alloc o1).alloc (.cells (aM ws) 116)) (.cells (aM dL) 467) (.cells (aM dL) 467);simp only[atS,at7,Nat.reduceAdd]at this;exact this
 subst ho1;have dn:=λk=>JY (ts:=a.ts) (ws:=ws) k;have Oj:at3 (∀k,cO (a.ts.take (k+1)) (ws.take (k+1))=none→cO a.ts ws=none):=dn;clear dn;go_enter Tryz.func351,Tryz.ntmps351;go_wp2
 go_loopw [7,9,13] (λ_ _ i wr=>∃ (k:Nat) (b:eB),k≤a.ts.length∧i= .int .i64 k∧af (λ_=>False) w wr∧bS wr (w.heap.size+1) 116 ws∧bS wr (w.heap.size+2) 467 dL∧bS wr (w.heap.size+3) 467 b∧okB b∧at3 (cO (a.ts.take k) (ws.take k)=some b)) (λ_ _ i _=>a.ts.length-(intOf i).toNat)
 case atStart=>exact⟨0,dL,arQ _,rfl,bM,hW0,SE,lH,BX,rfl⟩
 case round=>
  clear hW0 SE lH;obtain⟨k,b,hk,rfl,hT,hW,hR,hB,hb,HM⟩:=hrel;by_cases hlt:k<a.ts.length
  ·obtain⟨y,hy⟩: ∃y,a.ts[k]? =some y:=⟨_,arn hlt⟩;obtain⟨u,hu⟩: ∃y,ws[k]? =some y:=⟨_,arn aj⟩;obtain⟨g,o,cc,rfl,bW,rfl,ag⟩:=hat k y hy;have e0:=hT.cell (ag 0 aI) id;have e1:=hT.cell (ag 1 aI) id;simp only[at6,←at7]at e0 e1;have r8:=hv y (ann hy);have HS:at3 (cO (a.ts.take (k+1)) (ws.take (k+1))=kU b y u):=by show _=_;rw[JZ hy hu,HM.out];rfl
   obtain⟨z,hz⟩: ∃z,b[y.v]? =some z:=⟨_,arn (by have:=hb.1;have:y.v<12:=r8.2;omega)⟩;have hzg:b.getD y.v 0=z:=by rw[arB,hz];rfl
   have hul:=hwk u (ann hu);have HMS:at3 (kU b y u=if(if y.c=0 then z else y.c)=0 then some (b.set y.v u)else if(if y.c=0 then z else y.c)=u then some b else none):=by show _=_;rw[←hzg];rfl
   obtain⟨c1,c2⟩:=hW.cell hu;obtain⟨b1,b2⟩:=hB.cell hz;clear hy ag bW hzg hz hu;obtain⟨yc,yv⟩:=y;dsimp only at e0 e1 b1 b2 HMS;have ahy:yv<12:=r8.2;clear r8;have hd:decide ((k:Int)<(a.ts.length:Int))=true:=by rw[decide_eq_true_eq];omega
   have hbl:=hB.lt;have tA:af (λ_=>False) wr (wr.alloc (.cells #[.int .u64 (yc:Nat),.int .i64 (yv:Nat)] 413)):=(af.refl _ wr).alloc _;have c1':=tA.cell c1 id;have b1':=tA.cell b1 id;obtain⟨x,hx⟩: ∃x,(if yc=0 then z else yc)=x:=⟨_,rfl⟩;rw[hx]at HMS;by_cases hyc:yc=0
   ·have hq:((yc:Int)==0)=true:=by simpa using hyc
    rw[if_pos hyc]at hx;clear hyc;subst hx;by_cases hx0:z=0
    ·have hqz:((z:Int)==0)=true:=by simpa using hx0
     have HE:at3 (kU b ⟨yc,yv⟩ u=some (b.set yv u)):=by show _=_;rw[HMS.out,if_pos hx0]
     have hb':okB (b.set yv u):=by
      refine⟨by rw[avA];exact hb.1,λx hx=>?_⟩;rcases aum hx with h1|h1
      ·exact hb.2 x h1
      ·rw[h1];exact hul
     clear hx0;go_wp2;refine aG (λi=>i==6) ar ar ?_;intro S g hS gc gf gh gb;have q0: ∀x,(g x).cell? ⟨wr.heap.size,1,none⟩=some (.int .i64 (yv:Nat)):=λx=>(gc x _ 1 bz).trans ((aqF _ _ 1 _ 413 (0,0) (atp wr _)).trans rfl);have q1: ∀x,(g x).cell? ⟨w.heap.size+1,k,none⟩=some (.int .u64 (u:Nat)):=λx=>(gc x _ k lq).trans c1';iterate 6 (refine ak ar aC aC λK hK=>?_;go_big_quiet_op;refine hK _ ?_;clear hK K)
     refine ai ar aC λQ' hQ=>?_;go_wp2;refine hQ _ _ ar (aX ar) ?_;clear hQ Q';refine aQ ?_;go_wp2;go_roundw
     case rel=>
      exact⟨k+1,b.set yv u,by omega,by go_num,((hT.setCell (.inl (avi _ 3)) _).alloc _).drew,(hW.far aj).alloc,(hR.far aj).alloc,(hB.set yv u).alloc,hb',by show _=_;rw[HS.out,HE.out]⟩
     case measure=>simp[intOf];omega
    ·have hqz:((z:Int)==0)=false:=by simpa using hx0
     by_cases Xf:z=u
     ·skip
      have hqu:((z:Int)== (u:Int))=true:=by rw[beq_iff_eq];omega
      have HE:at3 (kU b ⟨yc,yv⟩ u=some b):=by show _=_;rw[HMS.out,if_neg hx0,if_pos Xf]
      clear Xf hx0;go_wp2;go_roundw
      case rel=>exact⟨k+1,b,by omega,by go_num,hT.alloc _,hW.alloc,hR.alloc,hB.alloc,hb,by show _=_;rw[HS.out,HE.out]⟩
      case measure=>simp[intOf];omega
     ·skip
      have hqu:((z:Int)== (u:Int))=false:=by rw[beq_eq_false_iff_ne];omega
      have HE:at3 (cO a.ts ws=none):=Oj.out k (by rw[HS.out,HMS.out,if_neg hx0,if_neg Xf]);clear Xf hx0;have hsz:(aM dL).size=12:=rfl;go_wp2_with (refine bV rfl (.tmp 4) (.tmp 39) rfl rfl hR.alloc rfl Tryz.sizeOf467 rfl (eA dL) ?_;intro w3 bX hb3);refine atg (iO rfl _ _ (w.heap.size+2) 467 _ _ _ rfl hb3 Tryz.underlying467 rfl ar _ rfl) rfl ?_;exact⟨by rw[HE.out];rfl,(hT.alloc _).bL bX λb (h:b=w.heap.size+2)=> .inl aj⟩
   ·have hq:((yc:Int)==0)=false:=by simpa using hyc
    rw[if_neg hyc]at hx;subst hx;have hx0:=hyc;clear hyc;by_cases Xf:yc=u
    ·skip
     have hqu:((yc:Int)== (u:Int))=true:=by rw[beq_iff_eq];omega
     have HE:at3 (kU b ⟨yc,yv⟩ u=some b):=by show _=_;rw[HMS.out,if_neg hx0,if_pos Xf]
     clear Xf hx0;go_wp2;go_roundw
     case rel=>exact⟨k+1,b,by omega,by go_num,hT.alloc _,hW.alloc,hR.alloc,hB.alloc,hb,by show _=_;rw[HS.out,HE.out]⟩
     case measure=>simp[intOf];omega
    ·skip
     have hqu:((yc:Int)== (u:Int))=false:=by rw[beq_eq_false_iff_ne];omega
     have HE:at3 (cO a.ts ws=none):=Oj.out k (by rw[HS.out,HMS.out,if_neg hx0,if_neg Xf]);clear Xf hx0;have hsz:(aM dL).size=12:=rfl;go_wp2_with (refine bV rfl (.tmp 4) (.tmp 39) rfl rfl hR.alloc rfl Tryz.sizeOf467 rfl (eA dL) ?_;intro w3 bX hb3);refine atg (iO rfl _ _ (w.heap.size+2) 467 _ _ _ rfl hb3 Tryz.underlying467 rfl ar _ rfl) rfl ?_;exact⟨by rw[HE.out];rfl,(hT.alloc _).bL bX λb (h:b=w.heap.size+2)=> .inl aj⟩
  ·obtain rfl:k=a.ts.length:=by omega
   have HE:at3 (cO a.ts ws=some b):=by
    show _=_;rw[←HM.out,List.take_length];unfold cO;rw[IH]
   have hsz:(aM b).size=12:=by rw[cX];exact hb.1
   go_wp2_with (first|refine fH rfl (.tmp 6) rfl rfl hB Tryz.underlying467 rfl (by rw[hsz];kernel_rfl) ?_|(refine bV rfl (.tmp 4) (.tmp 41) rfl rfl hR rfl Tryz.sizeOf467 (by rw[hsz];rfl) (eA _) ?_;intro w3 bX hb3));refine atg (iO rfl _ _ (w.heap.size+2) 467 _ _ _ rfl hb3 Tryz.underlying467 rfl (by rw[hsz];kernel_rfl) _ rfl) rfl ?_;exact⟨by rw[HE.out];rfl,hT.bL bX λb (h:b=w.heap.size+2)=> .inl aj⟩
end Go.Proofs.YtkdljbnllgpfhaaGreat
end
section
namespace Go.Proofs.YtkdljbnllgpfhaaGreat
open Go Go.RowKit Go.Upr
theorem Qi(a f:Nat):a % 18446744073709551616*f % 18446744073709551616=a*f % gK % 18446744073709551616:=by
 unfold gK;rw[Nat.mod_mod_of_dvd _ aI,Nat.mod_mul_mod]
theorem Mc(a f:Nat):(a % 18446744073709551616*f/18446744073709551616+a/18446744073709551616*f) % 18446744073709551616=a*f % gK/18446744073709551616:=by
 have e1:a*f=(a/18446744073709551616*f)*18446744073709551616+a % 18446744073709551616*f:=by
  conv=>lhs;rw[←Nat.div_add_mod a 18446744073709551616]
  rw[avF,Nat.mul_comm 18446744073709551616,Nat.mul_right_comm]
 rw[e1];generalize a/18446744073709551616*f=x;generalize a % 18446744073709551616*f=y;unfold gK;omega
theorem ai5(a f:Nat)(hf:f<18446744073709551616)(w:aly):asP Tryz.prog 377 #[cU a,.int .u64 (f:Nat)] w λe w'=>e= .returned (cU (a*f % gK))∧af (λ_=>False) w w':=by
 unfold cU;rw[←Qi,←Mc];have h1:a % 18446744073709551616<18446744073709551616:=Nat.mod_lt _ aI;generalize a/18446744073709551616=ah;generalize a % 18446744073709551616=al at h1⊢;have hc:=λw=>Tryz.bits_Mul64 al f h1 hf w;obtain⟨p,hp⟩: ∃q,al*f/18446744073709551616=q:=⟨_,rfl⟩;obtain⟨q,hq⟩: ∃q,al*f % 18446744073709551616=q:=⟨_,rfl⟩;simp only[hp,hq]at hc⊢;clear hp hq;have HW:at3 (aq8.wrap ((p:Int)+aq8.wrap ((ah:Int)*(f:Int)))=(((p+ah*f) % 18446744073709551616:Nat):Int)):=by
  show _=_;have:((ah:Int)*(f:Int))=((ah*f:Nat):Int):=by simp
  rw[this];generalize ah*f=z;simp[IntKind.wrap,auY,auQ]
 go_enter Tryz.func377,Tryz.ntmps377;go_wp2_with (go_at_call 382;refine(hc _).mono ?_;rintro e w2 ⟨rfl,rfl⟩);rw[HW.out];refine atg (au5 rfl _ _ (w.heap.size+1) 112 _ _ _ rfl (aR _ _ _) Tryz.underlying112 rfl ar) rfl ?_;exact⟨rfl,((af.refl _ w).alloc _).alloc _⟩
def qa(w:aly)(m:Option Nat)(bs:List (ByteArray×Nat))(F:ByteArray→List aS):Prop:=(m=none∧bs= [])∨∃sb,m=some sb∧aq w sb bs F
theorem qa.turn{w w':aly}{m:Option Nat}{bs:List (ByteArray×Nat)}{F:ByteArray→List aS}{D:Nat→Prop}(h:qa w m bs F)(ht:af D w w')(h0: ∀sb,m=some sb→¬D sb)(h1: ∀p∈bs,¬D p.2):qa w' m bs F:=by
 rcases h with h|⟨sb,h2,h3⟩
 ·exact .inl h
 ·exact .inr ⟨sb,h2,h3.turn ht (h0 sb h2) h1⟩
theorem qa.hp{w:aly}{m:Option Nat}{bs:List (ByteArray×Nat)}{F:ByteArray→List aS}(h:qa w m bs F):Hp.map (λb=>w.heap[b]?) bZ Value.string ji (.map m) bs:=by
 rcases h with⟨rfl,rfl⟩|⟨sb,rfl,h3⟩
 ·exact .inl ⟨rfl,rfl⟩
 ·exact h3.top.hp
theorem iR(o:Option Nat):o.elim (.map none) ji= .map o:=by cases o<;>rfl
theorem qa.look{w:aly}{m:Option Nat}{bs:List (ByteArray×Nat)}{F:ByteArray→List aS}(h:qa w m bs F)(n:ByteArray):Hp.map (λb=>w.heap[b]?) fq br aY (.map (au bs n)) (aU (iF bs F n)):=by
 rcases h with⟨rfl,rfl⟩|⟨sb,rfl,h3⟩
 ·exact .inl ⟨rfl,rfl⟩
 ·rw[←iR];exact h3.look n
theorem aja{w:aly}{m0 m1 m2:Option Nat}{b0 b1 b2:List (ByteArray×Nat)}{F0 F1 F2:ByteArray→List aS}(h0:qa w m0 b0 F0)(h1:qa w m1 b1 F1)(h2:qa w m2 b2 F2){n:ByteArray}(hn:bZ n):
  asP Tryz.prog 370 #[.agg #[.map m0,.map m1,.map m2],.string n] w λe w'=>e= .returned (.agg #[.map (au b0 n),.map (au b1 n),.map (au b2 n)])∧af (λ_=>False) w w':=by
 have hT:=((af.refl (λ_=>False) w).alloc (.cells #[.map m0,.map m1,.map m2] 444)).alloc (.cells #[.map none,.map none,.map none] 491);have k0:=(h0.turn hT (λ_ _=>id) (λ_ _=>id)).hp;have k1:=(h1.turn hT (λ_ _=>id) (λ_ _=>id)).hp;have k2:=(h2.turn hT (λ_ _=>id) (λ_ _=>id)).hp;have e0:=iR (au b0 n);have e1:=iR (au b1 n);have e2:=iR (au b2 n);go_enter Tryz.func370,Tryz.ntmps370;go_wp2_with (first|(at_lookup;refine bu cI Tryz.underlying99 gy rfl (.tmp 6) (.tmp 7) rfl rfl (aD _) k0 rfl hn e0 ?_)|(at_lookup;refine bu cI Tryz.underlying99 gy rfl (.tmp 11) (.tmp 12) rfl rfl (aD _) k1 rfl hn e1 ?_)|(at_lookup;refine bu cI Tryz.underlying99 gy rfl (.tmp 16) (.tmp 17) rfl rfl (aD _) k2 rfl hn e2 ?_));refine atg (au5 rfl _ _ (w.heap.size+1) 491 _ _ _ rfl (aR _ _ _) Tryz.underlying491 rfl ar) rfl ?_;exact⟨rfl,((af.refl _ w).alloc _).alloc _⟩
theorem Hp.bY{κ ν:Type}{key:κ→aad}{ok:κ→Prop}{enc:ν→aad}{w w':aly}{v:aad}{f:List (κ×ν)}(h:Hp.map (λb=>w.heap[b]?) ok key enc v f)(ht:af (λ_=>False) w w'):Hp.map (λb=>w'.heap[b]?) ok key enc v f:=
 h.mono λ_ _ hb=>ht.kept hb id
theorem ai8{w:aly}{o1 o2 o3:Option Nat}{l1 l2 l3:List aS}(h1:Hp.map (λb=>w.heap[b]?) fq br aY (.map o1) (aU l1))(h2:Hp.map (λb=>w.heap[b]?) fq br aY (.map o2) (aU l2))(h3:Hp.map (λb=>w.heap[b]?) fq br aY (.map o3) (aU l3))(a b c:Nat)(ht:fq (a,b,c)):
  asP Tryz.prog 373 #[.agg #[.map o1,.map o2,.map o3],.agg #[.int .u64 a,.int .u64 b,.int .u64 c]] w λe w'=>e= .returned (.bool (gP l3 (a,b,c)||(gP l1 (a,b,c)&& !gP l2 (a,b,c))))∧af (λ_=>False) w w':=by
 have hT:=((af.refl (λ_=>False) w).alloc (.cells #[.map o1,.map o2,.map o3] 491)).alloc (.cells #[.int .u64 a,.int .u64 b,.int .u64 c] 116);obtain⟨W,hW⟩: ∃W,W=(w.alloc (.cells #[.map o1,.map o2,.map o3] 491)).alloc (.cells #[.int .u64 a,.int .u64 b,.int .u64 c] 116):=⟨_,rfl⟩;have hA:W.heap[w.heap.size]? =some (.cells #[.map o1,.map o2,.map o3] 491):=by rw[hW];exact bq _ _ _
 have hB:W.heap[w.heap.size+1]? =some (.cells #[.int .u64 a,.int .u64 b,.int .u64 c] 116):=by rw[hW];exact aR _ _ _
 rw[←hW]at hT;have m1:=λ(w':aly) (ht:af (λ_=>False) W w')=>Hp.bY h1 (hT.trans ht);have m2:=λ(w':aly) (ht:af (λ_=>False) W w')=>Hp.bY h2 (hT.trans ht);have m3:=λ(w':aly) (ht:af (λ_=>False) W w')=>Hp.bY h3 (hT.trans ht);have k3:=FK (aD _) (m3 W (af.refl _ W)) a b c ht;obtain⟨a0,a1,a2,_,_,_⟩:=bI hA;obtain⟨b0,b1,b2,_,_,_⟩:=bI hB;clear h1 h2 h3;cases hi3:gP l3 (a,b,c)with
 |true=>
  rw[hi3]at k3;clear hi3;go_enter Tryz.func373,Tryz.ntmps373;go_wp2_with (first|(rw[←hW])|(go_at_call 144;refine k3.mono ?_;rintro e w2 ⟨rfl,aF⟩));go_ret;exact⟨rfl,hT.trans aF⟩
 |false=>
  rw[hi3]at k3;clear hi3;cases Xt:gP l1 (a,b,c)with
  |false=>
   have k1:=λ(w':aly) (h:af (λ_=>False) W w')=>FK (aD _) (m1 w' h) a b c ht;rw[Xt]at k1;clear Xt;go_enter Tryz.func373,Tryz.ntmps373;go_wp2_with (first|(rw[←hW])|(go_at_call 144;refine k3.mono ?_;clear k3;rintro e w2 ⟨rfl,aF⟩;have a0':=aF.cell a0 id;have b0':=aF.cell b0 id;have b1':=aF.cell b1 id;have b2':=aF.cell b2 id)|(go_at_call 144;refine(k1 _ aF).mono ?_;rintro e w3 ⟨rfl,bX⟩));go_ret;exact⟨rfl,(hT.trans aF).trans bX⟩
  |true=>
   have k1:=λ(w':aly) (h:af (λ_=>False) W w')=>FK (aD _) (m1 w' h) a b c ht;have k2:=λ(w':aly) (h:af (λ_=>False) W w')=>FK (aD _) (m2 w' h) a b c ht;rw[Xt]at k1;clear Xt;obtain⟨q,hq⟩: ∃q,gP l2 (a,b,c)=q:=⟨_,rfl⟩;simp only[hq]at k2⊢;clear hq;go_enter Tryz.func373,Tryz.ntmps373;go_wp2_with (first|(rw[←hW])|(go_at_call 144;refine k3.mono ?_;clear k3;rintro e w2 ⟨rfl,aF⟩;have a0':=aF.cell a0 id;have b0':=aF.cell b0 id;have b1':=aF.cell b1 id;have b2':=aF.cell b2 id)|(go_at_call 144;refine(k1 _ aF).mono ?_;clear k1;rintro e w3 ⟨rfl,bX⟩;have alr:=bX.cell (aF.cell a1 id) id;have alq:=bX.cell b0' id;have alp:=bX.cell b1' id;have alo:=bX.cell b2' id)|(go_at_call 144;refine(k2 _ (aF.trans bX)).mono ?_;rintro e w4 ⟨rfl,ck⟩));go_ret;exact⟨rfl,((hT.trans aF).trans bX).trans ck⟩
end Go.Proofs.YtkdljbnllgpfhaaGreat
end
section
namespace Go.Proofs.YtkdljbnllgpfhaaGreat
open Go Go.RowKit Go.Upr
theorem acR:auo Tryz.prog 467:=deep_law_gate laidOut mE mE ar ar
theorem Jm:Tryz.prog.cellsOf 467=12:=by kernel_rfl
theorem Q8{b:eB}(hb:okB b): ∃l,keyOf Tryz.prog 467 (cZ b)=some l:=by
 obtain⟨hl,hx⟩:=hb;have h1:Tryz.prog.keyType 467=true:=by kernel_rfl
 have h2:(cZ b).formed Tryz.prog 467=true:=by
  unfold Value.formed cZ;rw[Tryz.underlying467,Jm];simp[cX,hl]
 have h0: ∀ (d:Nat) {n:Nat},n<18446744073709551616→Tryz.prog.keyLits (d+1) 114 [.int .u64 n]=some [.int .u64 n]:=by
  intro d n hn;unfold auq;rw[Tryz.underlying114];exact if_pos ⟨rfl,by simp[Lit.wf,IntKind.min,IntKind.max,auQ,auY];omega⟩
 have h3: ∀d,∃l,Tryz.prog.keyLits (d+2) 467 (aM b).toList=some l:=by
  intro d
  match b,hl,hx with
  | [x0,x1,x2,x3,x4,x5,x6,x7,x8,x9,rP,zV],_,hx=>
   simp only[ap9,avt,or_false,forall_eq_or_imp,forall_eq]at hx;obtain⟨a0,a1,a2,a3,a4,a5,a6,a7,a8,a9,Bq,DZ⟩:=hx;refine⟨[.int .u64 x0,.int .u64 x1,.int .u64 x2,.int .u64 x3,.int .u64 x4,.int .u64 x5,.int .u64 x6,.int .u64 x7,.int .u64 x8,.int .u64 x9,.int .u64 rP,.int .u64 zV],?_⟩;unfold auq aM;rw[Tryz.underlying467];simp[Jm,Jq,h0 d a0,h0 d a1,h0 d a2,h0 d a3,h0 d a4,h0 d a5,h0 d a6,h0 d a7,h0 d a8,h0 d a9,h0 d Bq,h0 d DZ,at0,au7]
 unfold keyOf;rw[Tryz.underlying467,LI];simp only[h1,h2,Bool.and_true,if_true];obtain⟨l,hl'⟩:=h3 521;show ∃l,(Tryz.prog.keyLits 523 467 (aM b).toList).map _=some l;rw[hl'];exact⟨_,rfl⟩
theorem QM{a b:List Nat}(h:aM a=aM b):a=b:=by
 have h1:a.map (λn=>aqu .u64 (n:Nat))=b.map λn=>aqu .u64 (n:Nat):=by
  have:=congrArg Array.toList h;simpa only[aM]using this
 refine(List.map_inj_right λx y Kz=>?_).1 h1;injection Kz with _ h2
 exact auI h2
theorem mJ:fG Tryz.prog 467 cZ okB:= .of_law acR (λ_ h=>Q8 h) (λx y _ _ h=>by
 unfold cZ at h;injection h with h1
 exact QM h1)
end Go.Proofs.YtkdljbnllgpfhaaGreat
end
section
namespace Go.Proofs.YtkdljbnllgpfhaaGreat
open Go Go.RowKit Go.Upr
abbrev Seen:=List aS×List aS×List aS
def NS(s:Seen)(t:aS):Bool:=gP s.2.2 t||(gP s.1 t&& !gP s.2.1 t)
structure iC(w:aly)(N:Nat)(V:Bool→ByteArray→Vw)(D:Bool→ByteArray→Seen):Prop where
 now: ∀s n,Hp.map (λb=>w.heap[b]?) fq br aY (.map (V s n).1) (aU (D s n).1)
 came: ∀s n,Hp.map (λb=>w.heap[b]?) fq br aY (.map (V s n).2.1) (aU (D s n).2.1)
 gone: ∀s n,Hp.map (λb=>w.heap[b]?) fq br aY (.map (V s n).2.2) (aU (D s n).2.2)
 low: ∀s n b,((V s n).1=some b∨(V s n).2.1=some b∨(V s n).2.2=some b)→b<N
theorem Hp.Cj{κ ν:Type}{key:κ→aad}{ok:κ→Prop}{enc:ν→aad}{w w':aly}{o:Option Nat}{f:List (κ×ν)}{D:Nat→Prop}(h:Hp.map (λb=>w.heap[b]?) ok key enc (.map o) f)(ht:af D w w')(hd: ∀b,o=some b→¬D b):Hp.map (λb=>w'.heap[b]?) ok key enc (.map o) f:=by
 rcases h with h|⟨b,es,clock,h1,h2,h3⟩
 ·exact .inl h
 ·have:o=some b:=by injection h1
  exact .inr ⟨b,es,clock,h1,ht.kept h2 (hd b this),h3⟩
theorem iC.turn{w w':aly}{N:Nat}{V:Bool→ByteArray→Vw}{D:Bool→ByteArray→Seen}{E:Nat→Prop}(h:iC w N V D)(ht:af E w w')(hd: ∀b,b<N→¬E b):iC w' N V D:=
 ⟨λs n=>Hp.Cj (h.now s n) ht λb hb=>hd b (h.low s n b (.inl hb)),λs n=>Hp.Cj (h.came s n) ht λb hb=>hd b (h.low s n b (.inr (.inl hb))),λs n=>Hp.Cj (h.gone s n) ht λb hb=>hd b (h.low s n b (.inr (.inr hb))),h.low⟩
def H_(D:Bool→ByteArray→Seen)(b:eB)(p:bN):Bool:=NS (D p.side p.a.n) (g_ p.a.ts b) != p.neg
def uW(D:Bool→ByteArray→Seen)(ps:List bN)(b:eB):Bool:=ps.all (H_ D b)
def Af(D:Bool→ByteArray→Seen)(ps:List bN)(live:Nat)(f:List (eB×Nat))(b:eB)(n:Nat):List (eB×Nat):=if uW D ps b then mF gK f (eH b live,n)else f
theorem Mo{D:Bool→ByteArray→Seen}{ps:List bN}{b:eB}{k:Nat}{y:bN}(hy:ps[k]? =some y)(h:H_ D b y=false):uW D ps b=false:=by
 unfold uW;rw[List.all_eq_false];exact⟨y,ann hy,by rw[h];simp⟩
theorem xq{b:eB}(h:okB b)(vs:Nat):okB (eH b vs):=by
 refine⟨by simp[eH,h.1],λx hx=>?_⟩;unfold eH at hx;obtain⟨i,hi,rfl⟩:=List.mem_mapIdx.1 hx;split
 ·exact h.2 _ (List.getElem_mem _)
 ·decide
theorem Ou(w:aly):(zeroValue 112).run Tryz.prog w= .ok (cU 0) w:=by kernel_rfl
theorem Oy{ts:List ni}{b:eB}(ht: ∀t∈ts,qP t)(hb:okB b):fq (g_ ts b):=⟨Lp ht hb 0,Lp ht hb 1,Lp ht hb 2⟩
theorem aeB{V:Bool→ByteArray→Vw}{D:Bool→ByteArray→Seen}{h:Hp}{w:aly}{N:Nat}(hw:h.In w)(hS:iC w N V D){fb:Nat}{f:List (eB×Nat)}(hM:av w okB cZ cU fb f)
  {ad:Option alA} {l c:Nat} {ps:List bN} (hcs:h.list 6 (jX V) (.slice ad l c) ps) (hn:ps.length≤16) (hv: ∀p∈ps,dP p) (live:Nat) (hlv:live<4096) {b:eB} (hb:okB b) (n:Nat):
  asP Tryz.prog 363 #[.map (some fb),.agg #[.slice ad l c,.int .u16 live],cZ b,cU n] w λe w'=>e= .returned (.tuple #[])∧af (·=fb) w w'∧av w' okB cZ cU fb (Af D ps live f b n):=by
 obtain⟨lu,cap',hv2,hat⟩:=hcs.at hw;obtain⟨rfl,rfl,rfl⟩:ad=lu∧l=ps.length∧c=cap':=by simpa using hv2
 clear hv2;have Fa:=hM.lt;obtain⟨nh,nl,E1⟩: ∃nh nl:Nat,cU n= .agg #[.int .u64 nh,.int .u64 nl]:=⟨_,_,rfl⟩;have HN:at3 (cU n= .agg #[.int .u64 nh,.int .u64 nl]):=E1;change asP Tryz.prog 363 #[.map (some fb),.agg #[.slice ad ps.length c,.int .u16 live],.agg (aM b),cU n] w _;rw[E1];clear E1;obtain⟨W,hW⟩: ∃W,W=((w.alloc (.cells #[.slice ad ps.length c,.int .u16 live] 476)).alloc (.cells (aM b) 467)).alloc (.cells #[.int .u64 nh,.int .u64 nl] 112):=⟨_,rfl⟩;have bM:af (λ_=>False) w W:=by rw[hW];exact(((af.refl (λ_=>False) w).alloc _).alloc _).alloc _
 have lY:W.heap[w.heap.size]? =some (.cells #[.slice ad ps.length c,.int .u16 live] 476):=by rw[hW];exact(atn _ _ _ lq).trans (bq _ _ _)
 have lH:bS W (w.heap.size+1) 467 b:=by rw[hW];exact(atn _ _ _ bz).trans (aR _ _ _)
 have hC0:W.heap[w.heap.size+2]? =some (.cells #[.int .u64 nh,.int .u64 nl] 112):=by
  rw[hW];have:=aR (w.alloc (.cells #[.slice ad ps.length c,.int .u16 live] 476)) (.cells (aM b) 467) (.cells #[.int .u64 nh,.int .u64 nl] 112)
  rwa [atS]at this
 have p8:=hM.turn bM id;obtain⟨sa0,sa1,_,_⟩:=b9 lY;go_enter Tryz.func363,Tryz.ntmps363;go_wp2_with (rw[←hW]);clear hW
 go_loopw [13] (λi wr=>∃ (k:Nat),k≤ps.length∧i= .int .i64 k∧af (λ_=>False) W wr∧at3 (∀j y,j<k→ps[j]? =some y→H_ D b y=true)) (λi _=>ps.length-(intOf i).toNat)
 case atStart=>exact⟨0,arQ _,rfl,af.refl _ W,λj y hj=>by omega⟩
 case round=>
  obtain⟨k,hk,rfl,hT,HP⟩:=hrel;have uQ:=p8.turn hT id;have hA1:=hT.kept lY id;have XD:=lH.turn hT id;have hC1:=hT.kept hC0 id;have sD:=bM.trans hT;have bW:=atm hC1;by_cases hlt:k<ps.length
  ·obtain⟨y,hy⟩: ∃y,ps[k]? =some y:=⟨_,arn hlt⟩;obtain⟨g,o,cc,rfl,bW,hR,ag⟩:=hat k y hy;obtain⟨ya,yc,rfl,wF⟩:=hR.cells;have e0:=sD.cell (ag 0 aI) id;have e1:=sD.cell (ag 1 aI) id;have e2:=sD.cell (ag 2 aI) id;have e3:=sD.cell (ag 3 aI) id;have e4:=sD.cell (ag 4 aI) id;have e5:=sD.cell (ag 5 aI) id;simp only[at6,←at7]at e0 e1 e2 e3 e4 e5;have r8:=hv y (ann hy);have Oj:at3 (H_ D b y=false→uW D ps b=false):=Mo hy;have ahf:at3 (H_ D b y=true→∀j z,j<k+1→ps[j]? =some z→H_ D b z=true):=λha j z hj hz=>by
    rcases asV j k with h1|h1
    ·exact HP.out j z h1 hz
    ·obtain rfl:j=k:=by omega
     rw[hy]at hz;obtain rfl:=alN hz;exact ha
   have HA:at3 (H_ D b y=(NS (D y.side y.a.n) (g_ y.a.ts b) != y.neg)):=rfl;have hd:decide ((k:Int)<(ps.length:Int))=true:=by rw[decide_eq_true_eq];omega
   have Nv:=Oy r8.2.1 hb;have k1: ∀ (w':aly) (_:af (λ_=>False) wr w'),asP Tryz.prog 366 #[.agg #[.string y.a.n,.slice ya y.a.ts.length yc],.agg (aM b)] w' λe w''=>e= .returned (.agg #[.int .u64 (g_ y.a.ts b).1,.int .u64 (g_ y.a.ts b).2.1,.int .u64 (g_ y.a.ts b).2.2])∧af (λ_=>False) w' w'':=
    λ(w':aly) ht=>aeA (hw.turn (sD.trans ht) (λ_ _ _ h=>h)) wF r8.1 r8.2.1 hb
   have k2: ∀ (w':aly) (_:af (λ_=>False) wr w') (t1 t2 t3:Nat),fq (t1,t2,t3)→asP Tryz.prog 373 #[.agg #[.map (V y.side y.a.n).1,.map (V y.side y.a.n).2.1,.map (V y.side y.a.n).2.2],.agg #[.int .u64 t1,.int .u64 t2,.int .u64 t3]] w' λe w''=>e= .returned (.bool (NS (D y.side y.a.n) (t1,t2,t3)))∧af (λ_=>False) w' w'':=
    λ(w':aly) ht t1 t2 t3 gH=>let S':=hS.turn (sD.trans ht) (λ_ _ h=>h);ai8 (S'.now y.side y.a.n) (S'.came y.side y.a.n) (S'.gone y.side y.a.n) t1 t2 t3 gH
   generalize g_ y.a.ts b=p at k1 Nv HA;obtain⟨p1,p2,p3⟩:=p;dsimp only at k1;have k3:=λw' ht=>k2 w' ht p1 p2 p3 Nv;obtain⟨q,hq⟩: ∃q,NS (D y.side y.a.n) (p1,p2,p3)=q:=⟨_,rfl⟩;rw[hq]at HA;simp only[hq]at k3;clear hq k2 hR hy ag bW;generalize(V y.side y.a.n).1=v1 at*;generalize(V y.side y.a.n).2.1=v2 at*;generalize(V y.side y.a.n).2.2=v3 at*;have hsz:(aM b).size=12:=by rw[cX];exact hb.1
   go_wp2;obtain⟨wa,gY⟩: ∃wa,wa=wr.alloc (.cells #[.string y.a.n,.slice ya y.a.ts.length yc,.bool y.neg,.map v1,.map v2,.map v3] 493):=⟨_,rfl⟩;have gI:af (λ_=>False) wr wa:=by rw[gY];exact(af.refl _ wr).alloc _
   have hP:wa.heap[wr.heap.size]? =some (.cells #[.string y.a.n,.slice ya y.a.ts.length yc,.bool y.neg,.map v1,.map v2,.map v3] 493):=by rw[gY];exact atp _ _
   have hpl:=atm hP;have sJ:=XD.turn gI id;have hbl:=sJ.lt;rw[←gY];clear gY;refine aG (λi=>i==6||i==7) ar ar ?_;intro S g fN gc gf gh gb;have q0:wa.cell? ⟨wr.heap.size,0,none⟩=some (.string y.a.n):=((aqF _ _ 0 _ 493 (0,0) hP).trans rfl);have q1:wa.cell? ⟨wr.heap.size,1,none⟩=some (.slice ya y.a.ts.length yc):=((aqF _ _ 1 _ 493 (0,0) hP).trans rfl);have q2:wa.cell? ⟨wr.heap.size,2,none⟩=some (.bool y.neg):=((aqF _ _ 2 _ 493 (0,0) hP).trans rfl);have q3:wa.cell? ⟨wr.heap.size,3,none⟩=some (.map v1):=((aqF _ _ 3 _ 493 (0,0) hP).trans rfl);have q4:wa.cell? ⟨wr.heap.size,4,none⟩=some (.map v2):=((aqF _ _ 4 _ 493 (0,0) hP).trans rfl);have q5:wa.cell? ⟨wr.heap.size,5,none⟩=some (.map v3):=((aqF _ _ 5 _ 493 (0,0) hP).trans rfl);iterate 5 (refine ak ar aC aC λK hK=>?_;go_big_quiet_op;refine hK _ ?_;clear hK K)
   refine dF ar aC (.tmp 6) rfl rfl (λw' ⟨x,e⟩=>by rw[e];exact(gh x _ hbl).trans sJ) Tryz.underlying467 rfl (by rw[hsz];kernel_rfl) ?_;go_frame;refine ai ar aC λQ' hQ=>?_;go_wp2_with (go_at_call 366;refine(k1 _ gI.drew).mono ?_;rintro e w2 ⟨rfl,aF⟩);have h2:af (λ_=>False) wa w2:=(af.refl _ _).drew.trans aF;refine hQ _ _ ar (λ_=>gb _ h2.below) ?_;clear hQ Q';refine ai ar aC λQ' hQ=>?_;go_wp2_with (go_at_call 373;refine(k3 _ (gI.trans h2)).mono ?_;rintro e w3 ⟨rfl,bX⟩);have h3:=h2.trans bX;refine hQ _ _ ar (λ_=>gb _ h3.below) ?_;clear hQ Q';iterate 4 (refine ak ar aC aC λK hK=>?_;go_big_quiet_op;refine hK _ ?_;clear hK K)
   refine aQ ?_;have hTn:af (λ_=>False) W w3:=(hT.trans gI).trans h3;cases Xl:(q==y.neg)with
   |true=>
    have HF:at3 (uW D ps b=false):=Oj.out (by rw[HA.out];unfold bne;rw[Xl];rfl);clear Xl;go_wp2;refine atg (results_none rfl _ _ _) rfl ?_;exact⟨rfl,(bM.trans hTn).wider,by unfold Af;rw[if_neg (by rw[HF.out];decide)];exact p8.turn hTn id⟩
   |false=>
    have HF:at3 (∀j z,j<k+1→ps[j]? =some z→H_ D b z=true):=ahf.out (by rw[HA.out];unfold bne;rw[Xl];rfl);clear Xl;go_wp2;go_roundw
    case rel=>exact⟨k+1,by omega,by go_num,hTn,HF.out⟩
    case measure=>simp[intOf];omega
  ·obtain rfl:k=ps.length:=by omega
   have HF:at3 (Af D ps live f b n=mF gK f (eH b live,n)):=by
    show _=_;unfold Af;rw[if_pos];unfold uW;rw[List.all_eq_true];intro y hy;obtain⟨j,hj,rfl⟩:=asW hy;exact HP.out j _ hj (arn hj)
   have HG:at3 (mF gK f (eH b live,n)=dO f (eH b live) (((au f (eH b live)).getD 0+n) % gK)):=rfl;have hbo:=xq hb live;have hsz:(aM b).size=12:=by rw[cX];exact hb.1
   have abg:(aM (eH b live)).size=12:=by rw[cX];exact hbo.1
   have k1:=λw=>Yq w hb.1 live aj;unfold cZ at k1;have HL:at3 ((au f (eH b live)).elim (cU 0) cU=cU ((au f (eH b live)).getD 0)):=by
    show _=_;cases au f (eH b live)<;>rfl
   have hl2:=HL.out;generalize(au f (eH b live)).getD 0=cur at hl2 HG;clear HL;have k2:=λw=>aeI cur n w;rw[HN.out]at k2;generalize sH:eH b live=bk at*;have s0:=hT.cell sa0 id;have s1:=hT.cell sa1 id;go_wp2_with (first|refine fH rfl (.tmp 6) rfl rfl XD Tryz.underlying467 rfl (by rw[hsz];kernel_rfl) ?_|(go_at_call 374;refine(k1 _).mono ?_;rintro e w2 ⟨rfl,aF⟩;have uD:=XD.turn aF id;have hC2:=aF.kept hC1 id;have wz:=uQ.turn aF id)|(refine bV rfl (.tmp 6) (.tmp 33) rfl rfl uD rfl (λw=>by rw[hsz];exact Tryz.sizeOf467 w) (by rw[abg,hsz]) (eA _) ?_;intro w3 bX hb3));go_frame;have Kp:=wz.turn bX (λh=>by have h':fb=w.heap.size+1:=h;omega);have hC3:=bX.kept hC2 (λh=>by have h':w.heap.size+2=w.heap.size+1:=h;omega);have aii:=Kp.lt;have ad6:=atm hb3;have alf:=atm hC3;obtain⟨cc0,cc1,_,_⟩:=b9 hC3;refine aG (λi=>i==6||i==7) ar ar ?_;intro S g fN gc gf gh gb;have hMx: ∀x,av (g x) okB cZ cU fb f:=λx=>by
    obtain⟨es,cl,h1,h2⟩:=Kp;exact⟨es,cl,(gh x _ aii).trans h1,h2⟩
   refine ak ar aC aC λK hK=>?_;go_big_quiet_op;refine hK _ ?_;clear hK K;refine dF ar aC (.tmp 6) rfl rfl (λw' ⟨x,e⟩=>by rw[e];exact(gh x _ ad6).trans hb3) Tryz.underlying467 rfl (by rw[abg];kernel_rfl) ?_;go_frame;refine ak ar aC aC λK hK=>?_;go_big_quiet_op;refine hK _ ?_;clear hK K;refine dF ar aC (.tmp 6) rfl rfl (λw' ⟨x,e⟩=>by rw[e];exact(gh x _ ad6).trans hb3) Tryz.underlying467 rfl (by rw[abg];kernel_rfl) ?_;go_frame;refine iP mJ Tryz.underlying487 Ou ar aC (.tmp 36) (.tmp 37) rfl rfl (λw' ⟨x,e⟩=>by rw[e];exact(hMx x).hp) rfl hbo hl2 ?_;go_frame;refine ak ar aC aC λK hK=>?_;go_big_quiet_op;refine hK _ ?_;clear hK K;refine ai ar aC λQ' hQ=>?_;go_wp2_with (go_at_call 334;refine(k2 _).mono ?_;rintro e w4 ⟨rfl,ck⟩);have h4:af (λ_=>False) w3 w4:=(af.refl _ _).drew.trans ck;refine hQ _ _ ar (λ_=>gb _ h4.below) ?_;clear hQ Q';have NH:=Kp.turn h4 id;refine ai ar aC λQ' hQ=>?_;go_wp2_with (at_mapUpdate;refine bj mJ Tryz.underlying487 rfl (.tmp 34) (.tmp 35) (.tmp 40) rfl rfl NH rfl hbo _ rfl ?_;intro w5 bA mg);refine hQ _ _ ar (aX ar) ?_;clear hQ Q';refine aQ ?_;go_wp2;go_end0;refine⟨rfl,?_,by rw[HF.out,HG.out];exact mg⟩;exact((((bM.trans hT).trans aF).bL bX (λb (h:b=w.heap.size+1)=> .inl aj)).trans h4).wider.trans bA
end Go.Proofs.YtkdljbnllgpfhaaGreat
end
section
namespace Go.Upr
open Go Go.RowKit
theorem l9{α:Type}{P:alu}{ops:Array apy}{rest:List apy}{o:apy}{a:atu}{Q:Exit→atu→aly→Prop}{w0:aly}{t e:acs}{size bytes:Nat}(E:eL P t e size bytes)(hgd:o.guard=none)(s x:ang)
  (ho:o.op= .call {callee:= .builtin .append,args:= #[s,x],argTypes:= #[t,t]}) {N:Nat} {R:Hp→List aad→α→Prop} {k:Hp} {v:aad} {xs:List α} (hm:aw w0 N e size R k v xs) (hs:a.eval s=v) {v2:aad} {ys:List α} (hy:k.list size R v2 ys) (hx:a.eval x=v2)
  (h1: ∀c y,R k c y→∀u∈c,u.oneCell'=true) (hn:xs.length+ys.length≤maxLen) (hb:(xs.length+ys.length)*bytes≤140737488355328) (hbase:N≤w0.heap.size)
  (h: ∀v' w',aw w' N e size R k v' (xs++ys)→af (λb=>v.ownBlock=some b) w0 w'→(v'.ownBlock=v.ownBlock∨v'.ownBlock=some w0.heap.size)→wpList P ops Q rest (a.put o.dst v') w'):wpList P ops Q (o::rest) a w0:=by
 obtain⟨ht,⟨i,z,hi,hz,hsize,hby,hzs⟩,hsz⟩:=E;have z6:=hm;obtain⟨m1,m2,dS,m3,m4,m5,m6⟩:=hm;obtain⟨dss,d1,d2,d3,d4,d5⟩:=hy;rcases d5 with⟨rfl,AO⟩|⟨g,off,cap,cur,e2,fz,rfl,hg,pQ⟩
 ·have mL:ys= []:=avo.1 AO;subst mL;refine avJ hgd λK hK=>?_;obtain⟨w',hr⟩: ∃w',(anF #[t,t] o.type #[v,.slice none 0 0]).run P w0= .ok v w'∧w'=w0:=by
   have h6:=m6;rcases h6.2 with⟨rfl,_⟩|⟨g,cap,cur,rfl,_,SA,uN,_⟩
   ·refine⟨_,?_,rfl⟩;have Bg:(sizeOf e).run P w0= .ok i.size w0:=by simp[sizeOf,typeInfo,hi,aua]
    simp[anF,auf ht,Bg,anp,ani,aua]
   ·refine⟨_,?_,rfl⟩;have Bg:(sizeOf e).run P w0= .ok i.size w0:=by simp[sizeOf,typeInfo,hi,aua]
    have hle:xs.length≤cap:=uN;simp[anF,auf ht,Bg,anp,ani,hle,storeCells,aua]
  obtain⟨hr,rfl⟩:=hr;unfold atJ execOp;simp only[ho,resolve,invoke,builtin,avE,avD,avp,avv,amY,avC,hs,hx,hr];exact hK _ _ (h v w' (by rw[List.append_nil];exact z6) (af.refl _ _) (.inl rfl))
 ·refine avx _ hgd s x t ho N e i z size bytes ht hi hz hsize hby hzs hsz v xs.length _ hs m6 ⟨g,off,none⟩ ys.length cap dss.flatten hx d4 ?_ ?_ hn hb hbase ?_
  ·intro j u hu;have hj:j<dss.flatten.length:=(apT.1 hu).1;have:(⟨g,off,none⟩:alA).add j=⟨g,off+j,none⟩:=by unfold aqt;split<;>simp_all
   rw[this,aqF _ g _ cur e2 fz (m1 g _ hg),pQ j aj];exact hu
  ·intro u hu;obtain⟨c,hc,huc⟩:=avu.1 hu;obtain⟨j,hj,rfl⟩:=asW hc;exact h1 _ _ (d3 j _ (ys[j]'aj) (arn hj) (arn aj)) u huc
  ·intro v' w' h2 h3 h4 h5;have hT:af (λb=>v.ownBlock=some b) w0 w':=(af.refl _ w0).grown h3 λk hk=> .inr hk;refine h v' w' ⟨m1.turn hT λb o hb=>m2 b o hb,λb o hb=>?_,dS++dss,by simp[m3,d1],?_,?_,?_⟩ hT h5
   ·rcases h5 with h5|h5
    ·rw[h5];exact m2 b o hb
    ·rw[h5];intro he;have:=alN he;have hl:=m1.lt hb;omega
   ·intro d hd;rcases aqo.1 hd with h|h
    ·exact m4 d h
    ·exact d2 d h
   ·intro i d u hd hu;rcases asV i xs.length with hi|hi
    ·rw[anQ aj]at hd hu;exact m5 i d u hd hu
    ·rw[anP aj]at hd hu;rw[m3]at hd;exact d3 _ d u hd hu
   ·rw[atB,ap2];exact h2
theorem bK{α:Type}{P:alu}{ops:Array apy}{rest:List apy}{o:apy}{a:atu}{Q:Exit→atu→aly→Prop}{w0:aly}{t e:acs}{size bytes:Nat}(E:eL P t e size bytes)(hgd:o.guard=none)(s x:ang)
  (ho:o.op= .call {callee:= .builtin .append,args:= #[s,x],argTypes:= #[t,t]}) {N:Nat} {R:Hp→List aad→α→Prop} {k:Hp} {v:aad} {xs:List α} (hm:aw w0 N e size R k v xs) (hs:a.eval s=v) (y:α)
  (c:Array aad) (hR:R k c.toList y) (hc:c.size=size) (h1: ∀u∈c.toList,u.oneCell'=true) {nb:Nat} (hx:a.eval x= .slice (some ⟨nb,0,none⟩) 1 1) (AL:w0.heap.size=nb) (hb:(xs.length+1)*bytes≤140737488355328) (hn:xs.length<140737488355328) (hbase:N≤w0.heap.size)
  (h: ∀g cap w',aw w' N e size R k (.slice (some ⟨g,0,none⟩) (xs.length+1) cap) (xs++ [y])→af (λb=>v.ownBlock=some b) w0 w'→(v.ownBlock=some g∨w0.heap.size≤g)→wpList P ops Q rest (a.put o.dst (.slice (some ⟨g,0,none⟩) (xs.length+1) cap)) w'):wpList P ops Q (o::rest) a (w0.alloc (.cells c e)):=by
 subst AL;obtain⟨ht,⟨i,z,hi,hz,hsize,hby,hzs⟩,hsz⟩:=E;obtain⟨m1,m2,dS,m3,m4,m5,m6⟩:=hm;refine avx _ hgd s x t ho N e i z size bytes ht hi hz hsize hby hzs hsz v xs.length _ hs (m6.alloc _) ⟨w0.heap.size,0,none⟩ 1 1 c.toList hx (by simp[hc]) ?_ h1 (by unfold maxLen;omega) hb lq ?_
 ·intro j u hu;have:(⟨w0.heap.size,0,none⟩:alA).add j=⟨w0.heap.size,j,none⟩:=by unfold aqt;split<;>simp_all
  rw[this,aqF _ w0.heap.size j c e (0,0) (atp w0 _)];simpa using hu
 ·intro v' w' h2 h3 h4 h5;rcases h2.2 with⟨rfl,_⟩|⟨g,cap,cur,rfl,_⟩
  ·have:=(h4.1 rfl).2;cases this
  ·have hT:af (λb=>v.ownBlock=some b) w0 w':=((af.refl _ w0).alloc _).grown h3 λk hk=> .inr hk;refine h g cap w' ⟨m1.turn hT λb o hb=>m2 b o hb,λb o hb=>?_,dS++ [c.toList],by simp[m3],?_,?_,?_⟩ hT (h5.imp (λh=>h.symm) λh=>by have:=alN h;simp at this;show _≤g;omega)
   ·rcases h5 with h5|h5
    ·rw[h5];exact m2 b o hb
    ·rw[h5];intro he;have:=alN he;have hl:=m1.lt hb;simp at this;omega
   ·intro d hd;rcases aqo.1 hd with h|h
    ·exact m4 d h
    ·rw[List.mem_singleton.1 h];simpa using hc
   ·intro i d u hd hu;rcases asV i xs.length with hi|hi
    ·rw[anQ aj]at hd hu;exact m5 i d u hd hu
    ·rw[anP aj]at hd hu;rw[m3]at hd;cases hj:i- xs.length with
     |zero=>
      rw[hj]at hd hu;simp at hd hu;subst hd hu;exact hR
     |succ j=>rw[hj]at hd;simp at hd
   ·rw[atB,ap2];simpa using h2
theorem aw.lower{α:Type}{w:aly}{N M e sz:Nat}{R:Hp→List aad→α→Prop}{k:Hp}{v:aad}{xs:List α}(h:aw w N e sz R k v xs)(hle:M≤N):aw w M e sz R k v xs:=by
 obtain⟨h1,h2,dS,h3,h4,h5,h6⟩:=h;refine⟨h1,h2,dS,h3,h4,h5,h6.1,?_⟩;rcases h6.2 with h7|⟨g,cap,cur,rfl,h7,h8⟩
 ·exact .inl h7
 ·exact .inr ⟨g,cap,cur,rfl,Nat.le_trans hle h7,h8⟩
theorem aw.gB{α:Type}{w w':aly}{N e sz:Nat}{R:Hp→List aad→α→Prop}{k:Hp}{v:aad}{xs:List α}{D:Nat→Prop}(h:aw w N e sz R k v xs)(ht:af D w w')(hd: ∀b,v.ownBlock=some b→¬D b)(hk: ∀b o,k b=some o→¬D b):aw w' N e sz R k v xs:=by
 obtain⟨h1,h2,dS,h3,h4,h5,h6⟩:=h;refine⟨h1.turn ht hk,h2,dS,h3,h4,h5,h6.1,?_⟩;rcases h6.2 with h7|⟨g,cap,cur,rfl,h7,h8,h9⟩
 ·exact .inl h7
 ·exact .inr ⟨g,cap,cur,rfl,h7,ht.kept h8 (hd g rfl),h9⟩
end Go.Upr
end
section
namespace Go.Upr
open Go Go.RowKit
theorem aw.empty{α:Type}{w:aly}{N e sz:Nat}{R:Hp→List aad→α→Prop}{k:Hp}(hk:k.In w)(hN:N≤w.heap.size):aw (w.alloc (.cells #[] e)) N e sz R k (.slice (some ⟨w.heap.size,0,none⟩) 0 0) []:=by
 refine⟨hk.turn ((af.refl (λ_=>False) w).alloc _) (λ_ _ _ h=>h),λb o hb h=>?_,[],rfl,λ_ h=>(nomatch h),λ_ _ _ h=>(nomatch h),?_⟩
 ·have:=hk.lt hb;have h2:w.heap.size=b:=alN h;omega
 ·exact⟨by simp,.inr ⟨w.heap.size,0,#[],rfl,hN,atp w _,agl _,arQ _,by simp,by simp⟩⟩
theorem aw.slice{α:Type}{w:aly}{N e sz:Nat}{R:Hp→List aad→α→Prop}{k:Hp}{v:aad}{xs:List α}(h:aw w N e sz R k v xs)(hx:xs≠ []): ∃g cap,v= .slice (some ⟨g,0,none⟩) xs.length cap∧xs.length≤cap∧cap≤maxLen:=by
 obtain⟨_,_,dS,_,_,_,h4⟩:=h;rcases h4.2 with⟨_,h5⟩|⟨g,cap,cur,rfl,_,_,h6,h7,_⟩
 ·exact absurd (avo.1 h5) hx
 ·exact⟨g,cap,rfl,h6,h7⟩
theorem xH{dS:List (List aad)}{sz:Nat}(h: ∀c∈dS,c.length=sz)(i:Nat)(hi:i≤dS.length):dS.flatten.take (i*sz)=(dS.take i).flatten:=by
 induction dS generalizing i with
 |nil=>simp
 |cons c cs ih=>
  cases i with
  |zero=>simp
  |succ i=>
   have hc:=h c (ao3 ..);rw[asZ,List.take_succ_cons,asZ,List.take_append,hc,at4 (by rw[hc,asU];omega)]
   congr 1
   have:(i+1)*sz- sz=i*sz:=by rw[asU];omega
   rw[this];exact ih (λc hc=>h c (ao0 _ hc)) i (by simpa using hi)
theorem rN{dS:List (List aad)}{sz:Nat}(h: ∀c∈dS,c.length=sz)(i:Nat):dS.flatten.drop (i*sz)=(dS.drop i).flatten:=by
 induction dS generalizing i with
 |nil=>simp
 |cons c cs ih=>
  cases i with
  |zero=>simp
  |succ i=>
   have hc:=h c (ao3 ..);rw[asZ,List.drop_succ_cons,List.drop_append,hc,aud (by rw[hc,asU];omega),List.nil_append];have:(i+1)*sz- sz=i*sz:=by rw[asU];omega
   rw[this];exact ih (λc hc=>h c (ao0 _ hc)) i
theorem pH{dS:List (List aad)}{sz:Nat}(h: ∀c∈dS,c.length=sz):dS.flatten.length=dS.length*sz:=by
 induction dS with
 |nil=>simp
 |cons c cs ih=>rw[asZ,ap2,h c (ao3 ..),ih λc hc=>h c (ao0 _ hc),as2,asU,Nat.add_comm]
section
variable{α:Type}{P:alu}{ops:Array apy}{rest:List apy}{o:apy}{a:atu}{Q:Exit→atu→aly→Prop}{w0:aly}{t e:acs}{size bytes:Nat}
theorem u_(E:eL P t e size bytes)(hgd:o.guard=none)(s x:ang)
  (ho:o.op= .call {callee:= .builtin .append,args:= #[s,x],argTypes:= #[t,t]}) {N:Nat} {R:Hp→List aad→α→Prop} {k:Hp} {g cap n:Nat} {xs:List α} (hm:aw w0 N e size R k (.slice (some ⟨g,0,none⟩) n cap) xs) (hn:n=xs.length) (i:Nat) (hi':i<n) (Dr:n≤cap)
  (hs:a.eval s= .slice (some ⟨g,0,none⟩) i cap) {m cap':Nat} (tV:m=n-(i+1)) {off:Nat} (qg:m=0∨off=(i+1)*size) (hx:a.eval x= .slice (some ⟨g,off,none⟩) m cap')
  (h1: ∀c y,R k c y→∀u∈c,u.oneCell'=true)
  (h: ∀w',aw w' N e size R k (.slice (some ⟨g,0,none⟩) (n- 1) cap) (xs.eraseIdx i)→af (·=g) w0 w'→wpList P ops Q rest (a.put o.dst (.slice (some ⟨g,0,none⟩) (n- 1) cap)) w'):wpList P ops Q (o::rest) a w0:=by
 obtain⟨ht,⟨ti,z,hi,hz,hsize,hby,hzs⟩,hsz⟩:=E;obtain⟨m1,m2,dS,m3,m4,m5,m6⟩:=hm;subst hn tV;rcases m6.2 with⟨h0,_⟩|⟨g',Ts,cur,h0,hbg,hg,uN,hcm,hcs,nD⟩
 ·cases h0
 ·simp only[avm,apx,amG,and_true,true_and]at h0;obtain⟨rfl,rfl⟩:=h0;have hle:i*size≤xs.length*size:=avd _ aj;have cC:(i+1)*size≤xs.length*size:=avd _ aj;have hown:w0.ownsRow N e size (.slice (some ⟨g,0,none⟩) i cap) i (dS.take i).flatten:=by
   refine⟨by rw[pH (λc hc=>m4 c (ava hc)),as1];congr 1;omega,.inr ⟨g,cap,cur,rfl,hbg,hg,by omega,hcm,hcs,?_⟩⟩;rw[←xH m4 i aj,←nD,avB,avl hle]
  have hcell: ∀j u,((dS.drop (i+1)).flatten)[j]? =some u→w0.cell? ((⟨g,off,none⟩:alA).add j)=some u:=by
   intro j u hu;rcases qg with h0|rfl
   ·have:dS.drop (i+1)= []:=aud aj;rw[this]at hu;cases hu
   have:(⟨g,(i+1)*size,none⟩:alA).add j=⟨g,(i+1)*size+j,none⟩:=by unfold aqt;split<;>simp_all
   rw[this,aqF w0 g _ cur e (0,0) hg];rw[←rN m4,←nD,avf,List.getElem?_take]at hu;split at hu
   ·rw[←hu];simp
   ·cases hu
  have hlen:((dS.drop (i+1)).flatten).length=(xs.length-(i+1))*size:=by
   rw[pH (λc hc=>m4 c (avc hc)),avb,m3]
  have S_: ∀u∈(dS.drop (i+1)).flatten,u.oneCell'=true:=by
   intro u hu;obtain⟨c,hc,huc⟩:=avu.1 hu;obtain⟨j,hj,rfl⟩:=asW (avc hc);exact h1 _ _ (m5 j _ (xs[j]'aj) (arn hj) (arn aj)) u huc
  obtain⟨w',hr,hown',hgr⟩:=run_append_fits (P:=P) w0 N t o.type e ti size ht hi hsize g i cap _ hown ⟨g,off,none⟩ (xs.length-(i+1)) cap' _ hlen hcell S_ aj;have hT:af (·=g) w0 w':=(af.refl _ w0).grown hgr λk hk=> .inr (by cases hk;rfl);have e1:i+(xs.length-(i+1))=xs.length- 1:=by omega
  rw[e1]at hr hown';have e2:xs.eraseIdx i=xs.take i++xs.drop (i+1):=List.eraseIdx_eq_take_drop_succ xs i;refine avJ hgd λK hK=>?_;unfold atJ execOp;simp only[ho,resolve,invoke,builtin,avE,avD,avp,avv,amY,avC,hs,hx,hr];refine hK _ _ (h w' ⟨m1.turn hT λb o hb e=>m2 b o hb (by rw[e];rfl),λb o hb e=>m2 b o hb e,dS.take i++dS.drop (i+1),?_,?_,?_,?_⟩ hT)
  ·rw[e2,ap2,ap2,as1,as1,avb,avb,m3]
  ·intro c hc;rcases aqo.1 hc with hc|hc
   ·exact m4 c (ava hc)
   ·exact m4 c (avc hc)
  ·intro j c x hc kx;rw[e2]at kx;rcases asV j i with hj|hj
   ·rw[anQ (by rw[as1];omega),avh hj]at hc kx;exact m5 j c x hc kx
   ·rw[anP (by rw[as1];omega),as1,avf]at hc kx;rw[avl aj]at hc kx;exact m5 _ c x hc kx
  ·rw[atB];have e3:(xs.eraseIdx i).length=xs.length- 1:=by rw[List.length_eraseIdx];rw[if_pos hi']
   rw[e3];exact hown'
theorem ve(ht:P.underlying t=some (.slice e)){z:aad}(hz: ∀w,(zeroValue e).run P w= .ok z w)(hzs:z.cells.size=size)(h1: ∀v∈z.cells.toList,v.oneCell'=true)(hg:apY o (yielded ops a.tmps)=true)(x:ang)
  (ho:o.op= .call {callee:= .builtin .clear,args:= #[x],argTypes:= #[t]}) {N:Nat} {R:Hp→List aad→α→Prop} {k:Hp} {g cap m:Nat} {xs:List α} (hm:aw w0 N e size R k (.slice (some ⟨g,0,none⟩) m cap) xs) (oY:m=xs.length) (j:Nat) (hj:m≤j) (wC:j<cap) {off c:Nat} (qg:off=j*size)
  (hx:a.eval x= .slice (some ⟨g,off,none⟩) 1 c)
  (h: ∀w',aw w' N e size R k (.slice (some ⟨g,0,none⟩) m cap) xs→af (·=g) w0 w'→wpList P ops Q rest (a.put o.dst (.tuple #[])) w'):wpList P ops Q (o::rest) a w0:=by
 refine wpList_want hg λK hK=>?_;obtain⟨m1,m2,dS,m3,m4,m5,m6⟩:=hm;subst oY qg;rcases m6.2 with⟨h0,_⟩|⟨g',Ts,cur,h0,hbg,hgh,uN,hcm,hcs,nD⟩
 ·cases h0
 ·simp only[avm,apx,amG,and_true,true_and]at h0;obtain⟨rfl,rfl⟩:=h0;have pg:j*size+z.cells.toList.length≤cur.size:=by
   rw[hcs,ane,hzs,←asU];exact avd _ wC
  have WI:(anA z.cells 1).toList=z.cells.toList:=by
   simp only[anA,Nat.one_mul];apply List.ext_getElem
   ·simp
   ·intro i h1 h2;have h3:i<z.cells.size:=by simpa using h2
    simp[avz h3,h3]
  have hst:(storeCells ⟨g,j*size,none⟩ z.cells.toList 0).run P w0= .ok () (w0.setCells g (j*size) z.cells.toList):=by
   have:=avy (P:=P) g (j*size) z.cells.toList 0 w0 (λq hq=>by
    rw[aqF w0 g _ cur e (0,0) hgh,arZ aj];rfl) (λq _=>eY hgh) h1
   rwa [at6]at this
  have hh:=pY g z.cells.toList (j*size) w0 cur hgh pg;have hT:=pW g z.cells.toList (j*size) w0;unfold atJ;simp[execOp,ho,resolve,invoke,builtin,hx,Builtin.clear_,auf ht,hz,WI,hst,aua];have hle:xs.length*size≤j*size:=avd _ hj;refine hK _ _ (h _ ⟨m1.turn hT λb o hb e=>m2 b o hb (by rw[e];rfl),m2,dS,m3,m4,m5,m6.1,.inr ⟨g,cap,_,rfl,hbg,hh,uN,hcm,?_,?_⟩⟩ hT)
  ·rw[List.size_toArray,ap2,ap2,as1,avb,ane];omega
  ·have hL:xs.length*size≤(cur.toList.take (j*size)).length:=by rw[as1,ane (xs:=cur)];omega
   rw[List.append_assoc];show List.take (xs.length*size) _=_;rw[List.take_append_of_le_length hL,avB,avl hle];exact nD
end
end Go.Upr
end
section
namespace Go.Upr
open Go Go.RowKit
theorem Hp.list.take{α:Type}{h:Hp}{sz g o n c:Nat}{R:Hp→List aad→α→Prop}{xs:List α}(H:h.list sz R (.slice (some ⟨g,o,al1⟩) n c) xs)(i:Nat)(hi:i≤xs.length):h.list sz R (.slice (some ⟨g,o,al1⟩) i c) (xs.take i):=by
 obtain⟨dS,h1,h2,h3,h4,h5⟩:=H;refine⟨dS.take i,by simp[h1],λd hd=>h2 d (ava hd),λj d x hd hx=>?_,?_,?_⟩
 ·by_cases hj:j<i
  ·rw[avh hj]at hd hx;exact h3 j d x hd hx
  ·rw[List.getElem?_take_eq_none aj]at hd;cases hd
 ·rw[pH (λd hd=>h2 d (ava hd)),as1,as1,h1]
 ·rcases h5 with⟨h6,_⟩|⟨g',o',cap,cur,e,fz,h6,h7,h8⟩
  ·cases h6
  ·cases h6;have hl:(xs.take i).length=i:=by rw[as1];omega
   refine .inr ⟨g,o,_,cur,e,fz,by rw[hl],h7,λk hk=>?_⟩;rw[hl]at hk;rw[h8 k (Nat.lt_of_lt_of_le hk (avd _ hi)),←xH h2 i aj,avh hk]
theorem Hp.list.drop{α:Type}{h:Hp}{sz g o n c:Nat}{R:Hp→List aad→α→Prop}{xs:List α}(H:h.list sz R (.slice (some ⟨g,o,al1⟩) n c) xs)(i:Nat){o2 m:Nat}(c2:Nat)(hm:m=xs.length- i)(ho:m=0∨o2=o+i*sz):h.list sz R (.slice (some ⟨g,o2,al1⟩) m c2) (xs.drop i):=by
 obtain⟨dS,h1,h2,h3,h4,h5⟩:=H;refine⟨dS.drop i,by simp[h1],λd hd=>h2 d (avc hd),λj d x hd hx=>?_,?_,?_⟩
 ·rw[avf]at hd hx;exact h3 _ d x hd hx
 ·rw[pH (λd hd=>h2 d (avc hd)),avb,avb,h1]
 ·rcases h5 with⟨h6,_⟩|⟨g',o',cap,cur,e,fz,h6,h7,h8⟩
  ·cases h6
  ·cases h6;have hl:(xs.drop i).length=m:=by rw[avb];exact hm.symm
   refine .inr ⟨g,o2,_,cur,e,fz,by rw[hl],h7,λk hk=>?_⟩;rw[hl]at hk;rcases ho with rfl|rfl
   ·simp at hk
   ·subst hm;have hi:i≤xs.length:=by
     rcases Nat.le_total i xs.length with h|h
     ·exact h
     ·rw[Nat.sub_eq_zero_of_le h,Nat.zero_mul]at hk;omega
    have e1:i*sz+(xs.length- i)*sz=xs.length*sz:=by rw[←avF];congr 1;omega
    rw[at7,h8 _ aj,←rN h2 i,avf]
end Go.Upr
end
