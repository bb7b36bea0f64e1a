import Derived.Test.YtkdljbnllgpfhaaGreatA8
import Derived.Test.YtkdljbnllgpfhaaGreatB0
import Derived.Shelf.Strings.Builder1
import Derived.Shelf.Strings.Builder2
import Derived.Shelf.Strings.OnBuilder
import Derived.Shelf.Small.Bits
import Derived.Shelf.Small.Wraps
import Derived.Shelf.Strconv.Clone
import Derived.Laws.BitsAllLaws
import Derived.Laws.Rows
import Derived.Maps.RangeRun
set_option maxRecDepth 100000
set_option maxHeartbeats 8000000
open List renaming getElem?_eq_getElem→arn,getElem_of_mem→asW,mem_map→amk,mem_singleton→atQ,map_append→atW,mem_append→aqo,mem_of_getElem?→ann,take_of_length_le→at4,length_map→auB,map_cons→amY,getElem_map→auC,take_add_one→at8,find?_cons_of_neg→auE,length_singleton→aqd,mem_cons_self→ao3,length_append→ap2,nodup_append→aus,eraseIdx_sublist→auF,getElem_inj→auG,foldl_append→at9,sum_cons→auH,length_take→as1,length_cons→as2,any_eq_true→aue,mem_cons_of_mem→ao0,find?_eq_none→aur,nodup_cons→auJ,length_nil→auK,mem_of_find?_eq_some→auL,getElem?_eq_some_iff→apT,mem_cons→ap9,find?_cons_of_pos→auM,map_congr_left→auP,getElem_mem→auR,sum_append→auU,mem_filter→auV,foldl_cons→auW,find?_some→auX,map_map→au0
open Prod renaming fst→aug,ext_iff→auD,snd→auw
open Go.Value renaming string→at5,oneCell'→atv
open Go renaming World→aly,Value→aad,Calls→asP,MapEntry→alz,Operand→ang,TypeId→acs,Oper→apy,lt_of_block→atm,Addr→alA,Program→alu,results_cell_row→au5,run_underlying→auf,heap_alloc_new→atp,bodyPost_ret→atg
open Nat renaming zero_le→arQ,add_zero→at6,le_refl→agl,lt_succ_self→atG,add_assoc→at7,le_succ→atZ,ne_of_lt→auN,le_trans→al2,mul_one→aup,lt_of_lt_of_le→amC,mod_lt→au6
open Go.Result renaming andThen→aua
open Option.some renaming inj→alN
open Go.Region renaming wanted→apY
open Go.Shelf renaming Ren→asR
open Go.RowKit.Below renaming heap_setCell→atC,heap_alloc→atn
open Go.Builtin renaming delete_→anE
open Int.ofNat renaming inj→auI
open Go.Oper renaming wp→atJ
open Go.MapKept renaming run_setObj_map→aul,run_getObj_map→auc
open Go.RowKit renaming run_makeMap→auj,Hid→at3
open Option renaming map_eq_some_iff→ant,map_eq_none_iff→aun
open Go.IntKind renaming u64→aq8,signed→auQ,bits→auY
open Array renaming toList_filter→auO
open Go.Program renaming keyLits→auq
open Function renaming comp→auA
open Go.Proofs.Builder renaming Extra→auS
open UInt8 renaming toNat_lt→auT
open Go.Proofs.LaysM renaming n316→auZ
open Go.Instr renaming field→an5
open Go.Proofs.Lays renaming n169→au1,n156→au2,n125→au3,n122→au4
open List.range renaming loop→au7
open List.cons renaming injEq→amr
open Go.Lib renaming join→au8
open Go.WideMaps renaming KeyLaw→auo
namespace Go.Proofs
open Go.Shelf
def Tryz.tO:asR:=⟨λ|169=>96|n=>n,λ|70=>172|9=>9|0=>0|72=>174|37=>131|127=>283|3=>3|5=>5|n=>n,λ|n=>n⟩
theorem Tryz.Zq:au1 Tryz.prog Tryz.tO:={
 mixed:=by kernel_rfl
 f169:=Tryz.func96.trans (congrArg some ar)
 t0:=Tryz.underlying0
 a0:=Tryz.isAgg0
 z0:=Tryz.sizeOf0
 v0:=Tryz.zeroValue0
 t3:=Tryz.underlying3
 a3:=Tryz.isAgg3
 z3:=Tryz.sizeOf3
 v3:=Tryz.zeroValue3
 t9:=Tryz.underlying9
 a9:=Tryz.isAgg9
 z9:=Tryz.sizeOf9
 v9:=Tryz.zeroValue9
 t37:=Tryz.underlying131
 a37:=Tryz.isAgg131
 z37:=Tryz.sizeOf131
 v37:=Tryz.zeroValue131
 t70:=Tryz.underlying172
 a70:=Tryz.isAgg172
 z70:=Tryz.sizeOf172
 v70:=Tryz.zeroValue172
 t72:=Tryz.underlying174
 a72:=Tryz.isAgg174
 z72:=Tryz.sizeOf174
 v72:=Tryz.zeroValue174
 t127:=Tryz.underlying283
 a127:=Tryz.isAgg283
 z127:=Tryz.sizeOf283
 v127:=Tryz.zeroValue283}
theorem Tryz.xO:auS Tryz.prog Tryz.tO:={
 sizeBuilder:=by kernel_rfl
 liesBuilder:=by kernel_rfl
 t5:=Tryz.underlying5
 a5:=Tryz.isAgg5
 z5:=Tryz.sizeOf5
 v5:=Tryz.zeroValue5
 infoByte:=by kernel_rfl
 cellsByte:=by kernel_rfl
 sizeByte:=by kernel_rfl
 neB5:=by decide}
def Tryz.tP:asR:=⟨λ|156=>95|165=>162|166=>94|169=>96|240=>161|241=>223|276=>222|277=>270|n=>n,λ|31=>23|9=>9|3=>3|4=>4|0=>0|20=>20|72=>174|76=>179|70=>172|37=>131|75=>178|127=>283|164=>343|5=>5|80=>48|n=>n,λ|n=>n⟩
theorem Tryz.OP:au2 Tryz.prog Tryz.tP:={
 mixed:=by kernel_rfl
 f156:=Tryz.func95.trans (congrArg some ar)
 f165:=Tryz.func162.trans (congrArg some ar)
 f166:=Tryz.func94.trans (congrArg some ar)
 f169:=Tryz.func96.trans (congrArg some ar)
 f240:=Tryz.func161.trans (congrArg some ar)
 f241:=Tryz.func223.trans (congrArg some ar)
 f276:=Tryz.func222.trans (congrArg some ar)
 f277:=Tryz.func270.trans (congrArg some ar)
 t0:=Tryz.underlying0
 a0:=Tryz.isAgg0
 z0:=Tryz.sizeOf0
 v0:=Tryz.zeroValue0
 t3:=Tryz.underlying3
 a3:=Tryz.isAgg3
 z3:=Tryz.sizeOf3
 v3:=Tryz.zeroValue3
 t4:=Tryz.underlying4
 a4:=Tryz.isAgg4
 z4:=Tryz.sizeOf4
 v4:=Tryz.zeroValue4
 t9:=Tryz.underlying9
 a9:=Tryz.isAgg9
 z9:=Tryz.sizeOf9
 v9:=Tryz.zeroValue9
 t20:=Tryz.underlying20
 a20:=Tryz.isAgg20
 z20:=Tryz.sizeOf20
 v20:=Tryz.zeroValue20
 t31:=Tryz.underlying23
 a31:=Tryz.isAgg23
 z31:=Tryz.sizeOf23
 v31:=Tryz.zeroValue23
 t37:=Tryz.underlying131
 a37:=Tryz.isAgg131
 z37:=Tryz.sizeOf131
 v37:=Tryz.zeroValue131
 t70:=Tryz.underlying172
 a70:=Tryz.isAgg172
 z70:=Tryz.sizeOf172
 v70:=Tryz.zeroValue172
 t72:=Tryz.underlying174
 a72:=Tryz.isAgg174
 z72:=Tryz.sizeOf174
 v72:=Tryz.zeroValue174
 t75:=Tryz.underlying178
 a75:=Tryz.isAgg178
 z75:=Tryz.sizeOf178
 v75:=Tryz.zeroValue178
 t76:=Tryz.underlying179
 a76:=Tryz.isAgg179
 z76:=Tryz.sizeOf179
 v76:=Tryz.zeroValue179
 t127:=Tryz.underlying283
 a127:=Tryz.isAgg283
 z127:=Tryz.sizeOf283
 v127:=Tryz.zeroValue283
 t164:=Tryz.underlying343
 a164:=Tryz.isAgg343
 z164:=Tryz.sizeOf343
 v164:=Tryz.zeroValue343}
theorem Tryz.pI:auS Tryz.prog Tryz.tP:={
 sizeBuilder:=by kernel_rfl
 liesBuilder:=by kernel_rfl
 t5:=Tryz.underlying5
 a5:=Tryz.isAgg5
 z5:=Tryz.sizeOf5
 v5:=Tryz.zeroValue5
 infoByte:=by kernel_rfl
 cellsByte:=by kernel_rfl
 sizeByte:=by kernel_rfl
 neB5:=by decide}
open Go.RowKit in
theorem Tryz.strings_Join(bk o c:Nat)(xs:List ByteArray)(sep:ByteArray)(w:aly)(ag: ∀ (j:Nat) x,xs[j]? =some x→w.cell? ⟨bk,o+j,none⟩=some (.string x))(sH:bk<w.heap.size)(hN:xs.length≤140737488355328)(Dr:xs.length≤c)(hlen:(au8 (xs.map (·.data.toList)) sep.data.toList).length≤140737488355328):
  asP Tryz.prog 95 #[.slice (some ⟨bk,o,none⟩) xs.length c,.string sep] w λe w'=>e= .returned (.string ⟨(au8 (xs.map (·.data.toList)) sep.data.toList).toArray⟩)∧Below w.heap.size w w':=Any.strings_Join Tryz.OP Tryz.pI bk o c xs sep w ag sH hN Dr hlen
def Tryz.J4:asR:=⟨λ|125=>146|128=>198|129=>199|n=>n,λ|46=>262|3=>3|51=>270|53=>110|4=>4|5=>5|9=>9|n=>n,λ|n=>n⟩
theorem Tryz.Zs:au3 Tryz.prog Tryz.J4:={
 mixed:=by kernel_rfl
 f125:=Tryz.func146.trans (congrArg some ar)
 f128:=Tryz.func198.trans (congrArg some ar)
 f129:=Tryz.func199.trans (congrArg some ar)
 t3:=Tryz.underlying3
 a3:=Tryz.isAgg3
 z3:=Tryz.sizeOf3
 v3:=Tryz.zeroValue3
 t4:=Tryz.underlying4
 a4:=Tryz.isAgg4
 z4:=Tryz.sizeOf4
 v4:=Tryz.zeroValue4
 t5:=Tryz.underlying5
 a5:=Tryz.isAgg5
 z5:=Tryz.sizeOf5
 v5:=Tryz.zeroValue5
 t9:=Tryz.underlying9
 a9:=Tryz.isAgg9
 z9:=Tryz.sizeOf9
 v9:=Tryz.zeroValue9
 t46:=Tryz.underlying262
 a46:=Tryz.isAgg262
 z46:=Tryz.sizeOf262
 v46:=Tryz.zeroValue262
 t51:=Tryz.underlying270
 a51:=Tryz.isAgg270
 z51:=Tryz.sizeOf270
 v51:=Tryz.zeroValue270
 t53:=Tryz.underlying110
 a53:=Tryz.isAgg110
 z53:=Tryz.sizeOf110
 v53:=Tryz.zeroValue110}
theorem Tryz.bits_Len(x:Int)(w:aly)(h0:0≤x)(h1:x≤18446744073709551615):
  asP Tryz.prog 146 #[.int .u64 x] w λe w'=>e= .returned (.int .i64 (Lib.bitLen x.toNat))∧w'=w:=Any.bits_Len Tryz.Zs x w h0 h1
def Tryz.J5:asR:=⟨λ|122=>189|215=>248|n=>n,λ|3=>3|4=>4|n=>n,λ|n=>n⟩
theorem Tryz.Zt:au4 Tryz.prog Tryz.J5:={
 mixed:=by kernel_rfl
 f122:=Tryz.func189.trans (congrArg some ar)
 f215:=Tryz.func248.trans (congrArg some ar)
 t3:=Tryz.underlying3
 a3:=Tryz.isAgg3
 z3:=Tryz.sizeOf3
 v3:=Tryz.zeroValue3
 t4:=Tryz.underlying4
 a4:=Tryz.isAgg4
 z4:=Tryz.sizeOf4
 v4:=Tryz.zeroValue4}
open Go.RowKit in
theorem Tryz.cmp_Compare_int(x y:Int)(w:aly):
  asP Tryz.prog 189 #[.int .i64 x,.int .i64 y] w λe w'=>e= .returned (.int .i64 (Lib.compareInt x y))∧w'=w:=Any.cmp_Compare_int Tryz.Zt x y w
def Tryz.GN:asR:=⟨λ|316=>126|n=>n,λ|9=>9|3=>3|4=>4|37=>131|0=>0|127=>283|5=>5|n=>n,λ|n=>n⟩
theorem Tryz.VI:auZ Tryz.prog Tryz.GN:={
 mixed:=by kernel_rfl
 f316:=Tryz.func126.trans (congrArg some ar)
 t0:=Tryz.underlying0
 a0:=Tryz.isAgg0
 z0:=Tryz.sizeOf0
 v0:=Tryz.zeroValue0
 t3:=Tryz.underlying3
 a3:=Tryz.isAgg3
 z3:=Tryz.sizeOf3
 v3:=Tryz.zeroValue3
 t4:=Tryz.underlying4
 a4:=Tryz.isAgg4
 z4:=Tryz.sizeOf4
 v4:=Tryz.zeroValue4
 t9:=Tryz.underlying9
 a9:=Tryz.isAgg9
 z9:=Tryz.sizeOf9
 v9:=Tryz.zeroValue9
 t37:=Tryz.underlying131
 a37:=Tryz.isAgg131
 z37:=Tryz.sizeOf131
 v37:=Tryz.zeroValue131
 t127:=Tryz.underlying283
 a127:=Tryz.isAgg283
 z127:=Tryz.sizeOf283
 v127:=Tryz.zeroValue283
 t5:=Tryz.underlying5
 a5:=Tryz.isAgg5
 z5:=Tryz.sizeOf5
 v5:=Tryz.zeroValue5
 i0:=by kernel_rfl
 i3:=by kernel_rfl
 i4:=by kernel_rfl
 i5:=by kernel_rfl
 i9:=by kernel_rfl
 i37:=by kernel_rfl
 i127:=by kernel_rfl}
open Go.RowKit in
theorem Tryz.stringslite_Clone(s:ByteArray)(w:aly)(ahV:s.size≤281474976710656):
  asP Tryz.prog 126 #[.string s] w λe w'=>e= .returned (.string s)∧Below w.heap.size w w':=Any.stringslite_Clone Tryz.VI s w ahV
end Go.Proofs
section
namespace Go.Proofs.YtkdljbnllgpfhaaGreat
open Go Go.RowKit Go.Upr
def Ty(S:Nat)(a:qI):Prop:=a.n.size≤S∧a.ts.length≤S∧∀t∈a.ts,t.t.size≤S
def Qb(S:Nat)(c:cS):Prop:=∀a∈ay c,Ty S a
def qO(cs:List cS):Nat:=(cs.map λc=>(ay c).length).sum
theorem uE.size{s:ByteArray}{p:Pc}(h:uE s p):p.t.size≤s.size∧p.a≤s.size:=⟨by have:=h.1;omega,by have:=h.1;omega⟩
theorem YI{s:ByteArray}{p:Pc}(h:uE s p):(cY s p).1.t.size≤s.size:=by
 have:=h.size;unfold cY;split
 ·exact this.1
 ·split<;>exact this.1
theorem UQ{s:ByteArray}: ∀ (n:Nat) (ts:List Tm) (p:Pc),uE s p→(∀t∈ts,t.t.size≤s.size)→
  (∀t∈(eJ s n ts p).1,t.t.size≤s.size)∧(eJ s n ts p).1.length+p.a≤ts.length+(eJ s n ts p).2.2.a:=by
 intro n
 induction n with
 |zero=>intro ts p _ h;exact⟨h,agl _⟩
 |succ n ih=>
  intro ts p hp h;have h1:=B7 hp;have h2: ∀t∈ts++ [(cY s p).1],t.t.size≤s.size:=by
   intro t ht;rcases aqo.1 ht with h'|h'
   ·exact h t h'
   ·obtain rfl:=atQ.1 h';exact YI hp
  rw[eJ];split
  ·rename_i gH;have h3:=h1.2 gH;split
   ·have h4:=ih _ _ (eZ (k:=7) h1.1) h2;refine⟨h4.1,?_⟩;have h5:=cK (s:=s) (p:=(cY s p).2.2) 7;have h6:=h4.2;rw[ap2,aqd]at h6;omega
   ·refine⟨h2,?_⟩;have h5:=cK (s:=s) (p:=(cY s p).2.2) 6;dsimp only;rw[ap2,aqd];omega
  ·refine⟨h,?_⟩;have:=IL (s:=s) (p:=p);dsimp only;omega
theorem Pj{s:ByteArray}{n:Nat}{p:Pc}(h:uE s p):Ty s.size (dG s n p).1:=by
 have h0:=h.size;unfold dG;split
 ·split
  ·have h1:=eZ (k:=5) (eZ (k:=2) h);have h2:=UQ n [] _ h1 bz;have h3:=(Ef n [] _ h1).1.size.2;exact⟨h0.1,by have:=h2.2;rw[auK]at this;dsimp only;omega,h2.1⟩
  ·exact⟨h0.1,arQ _,by simp⟩
 ·exact⟨h0.1,arQ _,by simp⟩
theorem Zn{s:ByteArray}{N:Nat}: ∀ (n:Nat) (ls:List sK) (p:Pc),uE s p→(∀y∈ls,Ty s.size y.a)→
  (∀y∈(gF s N n ls p).1,Ty s.size y.a)∧(gF s N n ls p).1.length+p.a≤ls.length+(gF s N n ls p).2.2.a:=by
 intro n
 induction n with
 |zero=>intro ls p _ h;exact⟨h,agl _⟩
 |succ n ih=>
  intro ls p hp h;have h0:=eZ (k:=9) hp;have h1:=qz (n:=N) h0;have Bp:=cK (s:=s) (p:=p) 9;have h2: ∀y∈ls++ [(⟨(dG s N (bw s p 9).2).1,(bw s p 9).1⟩:sK)],Ty s.size y.a:=by
   intro t ht;rcases aqo.1 ht with h'|h'
   ·exact h t h'
   ·obtain rfl:=atQ.1 h';exact Pj h0
  rw[gF];split
  ·rename_i gH;have h3:=h1.2 gH;split
   ·have h4:=ih _ _ (eZ (k:=7) h1.1) h2;refine⟨h4.1,?_⟩;have h5:=cK (s:=s) (p:=(dG s N (bw s p 9).2).2.2) 7;have h6:=h4.2;rw[ap2,aqd]at h6;omega
   ·refine⟨h2,?_⟩;dsimp only;rw[ap2,aqd];omega
  ·refine⟨h,?_⟩;have:=Jv (s:=s) (N:=N) (p:=(bw s p 9).2);dsimp only;omega
theorem nW(c:cS):(ay c).length=c.body.length+1:=by simp[ay]
theorem Rs{s:ByteArray}{N:Nat}{p:Pc}(h:uE s p)(gH:(cL s N p).2.1=true):
  Qb s.size (cL s N p).1∧(ay (cL s N p).1).length+p.a≤(cL s N p).2.2.a:=by
 have h1:=qz (n:=N) h;have h2:=Pj (n:=N) h;rw[nW];revert gH;unfold cL;dsimp only;split
 ·rename_i gH;have h3:=h1.2 gH;have h4:=eZ (k:=10) h1.1;have h5:=cK (s:=s) (p:=(dG s N p).2.2) 10;split
  ·have h6:=Zn (N:=N) N [] _ h4 bz;have h7:=h6.2;rw[auK]at h7;split
   ·intro _;have h8:=cK (s:=s) (p:=(gF s N N [] (bw s (dG s N p).2.2 10).2).2.2) 8;refine⟨?_,by dsimp only;omega⟩;intro a ha;rcases ap9.1 ha with rfl|ha
    ·exact h2
    ·obtain⟨y,hy,rfl⟩:=amk.1 ha;exact h6.1 y hy
   ·intro h;cases h
  ·intro _;have h8:=cK (s:=s) (p:=(bw s (dG s N p).2.2 10).2) 8;refine⟨?_,by dsimp only[auK];omega⟩;intro a ha;obtain rfl:a=(dG s N p).1:=by simpa[ay]using ha
   exact h2
 ·intro h;cases h
theorem Vh{s:ByteArray}{N:Nat}: ∀ (n:Nat) (cs:List cS) (p:Pc),uE s p→(∀c∈cs,Qb s.size c)→qO cs≤p.a→∀ds,(kq s N n cs p).1=some ds→
  (∀c∈ds,Qb s.size c)∧qO ds≤s.size:=by
 intro n
 induction n with
 |zero=>intro cs p _ _ _ ds h;cases h
 |succ n ih=>
  intro cs p hp hc ht ds;rw[kq];split
  ·intro h;cases h;exact⟨hc,al2 ht hp.size.2⟩
  ·split
   ·rename_i gH;have h1:=Rs (N:=N) hp gH;refine ih _ _ (CR hp).1 ?_ ?_ ds
    ·intro c h';rcases aqo.1 h' with h'|h'
     ·exact hc c h'
     ·obtain rfl:=atQ.1 h';exact h1.1
    ·have:qO (cs++ [(cL s N p).1])=qO cs+(ay (cL s N p).1).length:=by simp[qO]
     omega
   ·intro h;cases h
theorem Y5{s:ByteArray}{cs:List cS}(h:(parse s).1=some cs):(∀c∈cs,Qb s.size c)∧qO cs≤s.size:=
 Vh _ [] _ (fj (arQ _)) bz (arQ _) cs h
theorem JF(cs:List cS):cs.length≤qO cs:=by
 unfold qO
 induction cs with
 |nil=>simp
 |cons c cs ih=>
  rw[amY,auH,as2,nW];omega
theorem UN{cs:List cS}{c:cS}(h:c∈cs):(ay c).length≤qO cs:=by
 unfold qO
 induction cs with
 |nil=>cases h
 |cons d cs ih=>
  rw[amY,auH];rcases ap9.1 h with rfl|h
  ·omega
  ·have:=ih h;omega
theorem Qg(cs:List cS)(k:Nat):qO (cs.take k)≤qO cs:=by
 have e:qO cs=qO (cs.take k)+qO (cs.drop k):=by
  unfold qO;rw[←auU,←atW,List.take_append_drop]
 omega
theorem RF(cs:List cS): ∀ns:List ByteArray,(cs.foldl (λns cl=>gG ns (ay cl)) ns).length≤ns.length+qO cs:=by
 unfold qO
 induction cs with
 |nil=>intro ns;simp
 |cons c cs ih=>
  intro ns;have h1:=ih (gG ns (ay c));have h2:=rO (ay c) ns;rw[auW,amY,auH];omega
theorem Wv(cs:List cS):(a_ cs).length≤qO cs:=by
 have:=RF cs [];simpa[a_]using this
theorem Ww{ns:List ByteArray}{x y:ByteArray}(h:y∈addN ns x):y∈ns∨y=x:=by
 unfold addN at h;split at h
 ·exact .inl h
 ·simpa using h
theorem RH(l:List qI): ∀ {ns:List ByteArray} {y:ByteArray},y∈gG ns l→y∈ns∨∃a∈l,y=a.n:=by
 unfold gG
 induction l with
 |nil=>intro ns y h;exact .inl h
 |cons a l ih=>
  intro ns y h;rcases ih h with h|⟨b,hb,rfl⟩
  ·rcases Ww h with h|rfl
   ·exact .inl h
   ·exact .inr ⟨a,ao3 ..,rfl⟩
  ·exact .inr ⟨b,ao0 _ hb,rfl⟩
theorem GV(cs:List cS): ∀ {ns:List ByteArray} {y:ByteArray},y∈cs.foldl (λns cl=>gG ns (ay cl)) ns→y∈ns∨∃c∈cs,∃a∈ay c,y=a.n:=by
 induction cs with
 |nil=>intro ns y h;exact .inl h
 |cons c cs ih=>
  intro ns y h;rcases ih h with h|⟨d,hd,h⟩
  ·rcases RH _ h with h|h
   ·exact .inl h
   ·exact .inr ⟨c,ao3 ..,h⟩
  ·exact .inr ⟨d,ao0 _ hd,h⟩
theorem Wu{cs:List cS}{y:ByteArray}(h:y∈a_ cs): ∃c∈cs,∃a∈ay c,y=a.n:=by
 rcases GV cs h with h|h
 ·cases h
 ·exact h
theorem Qb.small{S n:Nat}{c:cS}(h:Qb S c)(hl:(ay c).length≤S)(hS:S<n):Small n c:=by
 rw[nW]at hl;exact⟨by omega,λa ha=>⟨by have:=(h a ha).2.1;omega,by have:=(h a ha).1;omega,λt ht=>by have:=(h a ha).2.2 t ht;omega⟩⟩
end Go.Proofs.YtkdljbnllgpfhaaGreat
end
section
namespace Go.Proofs.YtkdljbnllgpfhaaGreat
open Go Go.RowKit Go.Upr
theorem c71(s:ByteArray)(w:aly)(hs:s.size≤281474976710656):asP Tryz.prog 71 #[.string s] w λe w'=>e= .returned (.string s)∧af (λ_=>False) w w':=by
 have hc:=Tryz.stringslite_Clone s w hs;go_enter Tryz.func71,Tryz.ntmps71;go_wp2_with (go_at_call 126;refine hc.mono ?_;rintro e w2 ⟨rfl,hb⟩);go_ret;exact⟨rfl,af.ue hb⟩
def eE(s:ByteArray):Option (List cS)×Int×Int:=
 if 600<s.size then(none,1,600)
 else match parse s with
  |(none,p)=>(none,2,(p:Int))
  |(some cs,_)=>if(gM cs).1=0 then(some cs,0,0)else(none,gM cs)
theorem Ml{s:ByteArray}(h:600<s.size):eE s=(none,1,600):=by unfold eE;rw[if_pos h]
theorem QE{s:ByteArray}(h: ¬600<s.size){p:Nat}(hp:parse s=(none,p)):eE s=(none,2,(p:Int)):=by unfold eE;rw[if_neg h,hp]
theorem zL{s:ByteArray}(h: ¬600<s.size){cs:List cS}{p:Nat}(hp:parse s=(some cs,p))(hc: ¬(gM cs).1=0):eE s=(none,gM cs):=by
 unfold eE;rw[if_neg h,hp];dsimp only;rw[if_neg hc]
theorem CE{s:ByteArray}(h: ¬600<s.size){cs:List cS}{p:Nat}(hp:parse s=(some cs,p))(hc:(gM cs).1=0):eE s=(some cs,0,0):=by
 unfold eE;rw[if_neg h,hp];dsimp only;rw[if_pos hc]
def Z'(w:aly)(r:Option (List cS)×Int×Int)(e:Ending)(w':aly):Prop:=
 ∃ad l c,e= .returned (.tuple #[.slice ad l c,.int .i64 r.2.1,.int .i64 r.2.2])∧af (λ_=>False) w w'∧
  ∀cs,r.1=some cs→∃k:Hp,k.In w'∧(∀b o,k b=some o→w.heap.size≤b)∧k.list 3 cW (.slice ad l c) cs
theorem c38(s:ByteArray)(w:aly)(hs:s.size≤1099511627776):asP Tryz.prog 38 #[.string s] w (Z' w (eE s)):=by
 by_cases hl:600<s.size
 ·have h2:(600:Int)<(s.size:Int):=by omega
  rw[Ml hl];go_enter Tryz.func38,Tryz.ntmps38;go_wp2
  go_ret3
  exact⟨_,_,_,rfl,af.refl _ _,λcs h=>by cases h⟩
 ·have h2: ¬(600:Int)<(s.size:Int):=by omega
  have bW:=c71 s w aj;have Nt:=λ{w':aly}=>c70 (s:=s) (w:=w') hs;obtain⟨r,hr⟩: ∃r,r=parse s:=⟨_,rfl⟩;have sG:=hr;rw[←hr]at Nt;obtain⟨o,p⟩:=r;cases o with
  |none=>
   rw[QE hl sG.symm];clear hr sG;go_enter Tryz.func38,Tryz.ntmps38;go_wp2_with (first|(go_at_call 71;refine bW.mono ?_;rintro e w1 ⟨rfl,je⟩)|(go_at_call 70;refine Nt.mono ?_;rintro e w2 ⟨ad,l,c,rfl,dK,-⟩))
   go_ret3
   exact⟨_,_,_,rfl,je.trans dK,λcs h=>by cases h⟩
  |some cs=>
   have hb:=Y5 (s:=s) (cs:=cs) (by rw[←sG]);have hlen:=JF cs;have hch: ∀ {w2:aly} {k:Hp} (_:k.In w2) {ad:Option alA} {l c:Nat} (_:k.list 3 cW (.slice ad l c) cs),asP Tryz.prog 72 #[.slice ad l c] w2 λe w'=>e= .returned (.tuple #[.int .i64 (gM cs).1,.int .i64 (gM cs).2])∧af (λ_=>False) w2 w':=by
    intro w2 k hk ad l c hcs;refine c72 hk hcs aj (λcl bW=>(hb.1 cl bW).small (al2 (UN bW) hb.2) aj) ?_ ?_
    ·intro j;have h1:=Wv (cs.take j);have h2:=Qg cs j;omega
    ·intro x hx;obtain⟨cl,bW,a,ha,rfl⟩:=Wu hx;have:=(hb.1 cl bW a ha).1;unfold maxLen;omega
   clear hb hlen;by_cases hz:(gM cs).1=0
   ·rw[CE hl sG.symm hz];clear hr sG;generalize gM cs=d at hch hz;obtain⟨d1,d2⟩:=d;obtain rfl:d1=0:=hz;go_enter Tryz.func38,Tryz.ntmps38;go_wp2_with (first|(go_at_call 71;refine bW.mono ?_;rintro e w1 ⟨rfl,je⟩)|(go_at_call 70;refine Nt.mono ?_;rintro e w2 ⟨ad,l,c,rfl,dK,hK⟩;obtain⟨k,hk,jg,hcs⟩:=hK cs rfl;have hcc:=hch hk hcs;clear hK)|(go_at_call 72;refine hcc.mono ?_;rintro e w3 ⟨rfl,eN⟩))
    go_ret3
    exact⟨_,_,_,rfl,(je.trans dK).trans eN,λds h=>by
     cases h
     exact⟨k,hk.turn eN (λ_ _ _ h=>h),λb o h=>al2 je.size (jg b o h),hcs⟩⟩
   ·rw[zL hl sG.symm hz];clear hr sG;have hne:((gM cs).1 != 0)=true:=by simpa using hz
    generalize gM cs=d at hch hne hz;obtain⟨d1,d2⟩:=d;dsimp only at hne hz;go_enter Tryz.func38,Tryz.ntmps38;go_wp2_with (first|(go_at_call 71;refine bW.mono ?_;rintro e w1 ⟨rfl,je⟩)|(go_at_call 70;refine Nt.mono ?_;rintro e w2 ⟨ad,l,c,rfl,dK,hK⟩;obtain⟨k,hk,jg,hcs⟩:=hK cs rfl;have hcc:=hch hk hcs;clear hK)|(go_at_call 72;refine hcc.mono ?_;rintro e w3 ⟨rfl,eN⟩))
    go_ret3
    exact⟨_,_,_,rfl,(je.trans dK).trans eN,λcs h=>by cases h⟩
end Go.Proofs.YtkdljbnllgpfhaaGreat
end
section
namespace Go.Upr
open Go Go.RowKit
variable{P:alu}{kt et t:acs}{κ ν:Type}{key:κ→aad}{ok:κ→Prop}{enc:ν→aad}[DecidableEq κ]
variable{ops:Array apy}{rest:List apy}{o:apy}{a:Act}{Q:Exit→Act→aly→Prop}{w:aly}{f:List (κ×ν)}{x:κ}
theorem bu(K:fG P kt key ok)(ht:P.underlying t=some (.map kt et)){z:aad}(hz: ∀w,(zeroValue et).run P w= .ok z w)(hg:apY o (yielded ops a.tmps)=true)(m y:ang)(hop:o.op= .lookup t m y false){v:aad}(hm:a.eval m=v){h:Hp}(hw:h.In w)(H:h.map ok key enc v f)
  (hy:a.eval y=key x) (hx:ok x) {u:aad} (hl:(au f x).elim z enc=u) (hk:wpList P ops Q rest (a.put o.dst u) w):wpList P ops Q (o::rest) a w:=
 yH K ht hz hg m y false hop hm hw H hy hx (by rw[hl];exact hk)
omit [DecidableEq κ] in
theorem GA{i:Nat}(hg:apY o (yielded ops a.tmps)=true)(m:ang)(hop:o.op= .field t m i){v u:aad}(hm:a.eval m=v)(hr: ∀w,(an5 t v i).run P w= .ok u w)(hk:wpList P ops Q rest (a.put o.dst u) w):wpList P ops Q (o::rest) a w:=by
 refine wpList_want hg λK' hK'=>?_;unfold atJ;simp[execOp,hop,hm,hr w,aua];exact hK' _ _ hk
end Go.Upr
namespace Go.Proofs.YtkdljbnllgpfhaaGreat
open Go Go.RowKit Go.Upr
abbrev Kg:Nat×Bool→Value:=λp=> .agg #[.int .i64 p.1,.bool p.2]
theorem Gc(w:aly):(zeroValue 107).run Tryz.prog w= .ok (.agg #[.int .i64 0,.bool false]) w:=by kernel_rfl
theorem Y4(q:Int)(d:Bool)(w:aly):(an5 107 (.agg #[.int .i64 q,.bool d]) 1).run Tryz.prog w= .ok (.bool d) w:=by cases d<;>kernel_rfl
abbrev xU:=List (ByteArray× (Nat×Bool))
def Tl(f:xU)(n:ByteArray):Bool:=(au f n).elim false (·.2)
def FR(f:xU)(a:qI):xU:=dO f a.n (a.ts.length,Tl f a.n)
def jZ(f:xU)(l:List qI):xU:=l.foldl FR f
def BC(f:xU)(c:cS):xU:=if c.body.length=0 then jZ f (ay c)else dO (jZ f (ay c)) c.head.n (c.head.ts.length,true)
def cJ(cs:List cS):xU:=cs.foldl BC []
theorem GL{f:xU}{l:List qI}{k:Nat}{y:qI}(hy:l[k]? =some y):jZ f (l.take (k+1))=FR (jZ f (l.take k)) y:=by
 unfold jZ;rw[at8,hy,at9];rfl
theorem JW{cs:List cS}{k:Nat}{y:cS}(hy:cs[k]? =some y):cJ (cs.take (k+1))=BC (cJ (cs.take k)) y:=by
 unfold cJ;rw[at8,hy,at9];rfl
theorem c73{h:Hp}{w:aly}(hw:h.In w){ad:Option alA}{l c:Nat}{cs:List cS}(hcs:h.list 3 cW (.slice ad l c) cs)(_hn:cs.length≤1099511627776)(hsm: ∀cl∈cs,Small 1099511627776 cl):
  asP Tryz.prog 73 #[.slice ad l c] w λe w'=>∃mb,e= .returned (.map (some mb))∧w.heap.size≤mb∧af (λ_=>False) w w'∧av w' bZ at5 Kg mb (cJ cs):=by
 obtain⟨q7,q8,hv3,hat⟩:=hcs.at hw;obtain⟨rfl,rfl,rfl⟩:ad=q7∧l=cs.length∧c=q8:=by simpa using hv3
 clear hv3;have tV:= @auj Tryz.prog;go_enter Tryz.func73,Tryz.ntmps73;go_wp2;have p8:av (w.alloc (.map #[] 0)) bZ at5 Kg w.heap.size (cJ []):=av.made
 go_loopw [11] (λi wr=>∃ (k:Nat),k≤cs.length∧i= .int .i64 k∧af (λ_=>False) w wr∧av wr bZ at5 Kg w.heap.size (cJ (cs.take k))) (λi _=>cs.length-(intOf i).toNat)
 case atStart=>exact⟨0,arQ _,rfl,(af.refl _ w).alloc _,p8⟩
 case round=>
  clear p8;obtain⟨k,hk,rfl,hT,hM⟩:=hrel;by_cases hlt:k<cs.length
  ·obtain⟨y,hy⟩: ∃y,cs[k]? =some y:=⟨_,arn hlt⟩;obtain⟨g,o,cc,rfl,bW,hR,ag⟩:=hat k y hy;obtain⟨ya,yc,lA,lz,rfl⟩:=hR.cells;have mL:=hsm y (ann hy);have e0:=hT.cell (ag 0 aI) id;have e1:=hT.cell (ag 1 aI) id;have e2:=hT.cell (ag 2 aI) id;simp only[at6,←at7]at e0 e1 e2;have HS:at3 (cJ (cs.take (k+1))=BC (cJ (cs.take k)) y):=JW hy;clear hy;have qG:bZ y.head.n:=ig (mL.2 y.head (ao3 ..)).2.1;have vx:=(hw.turn hT (λ_ _ _ h=>h)).turn ((af.refl (λ_=>False) wr).alloc (.cells #[.string y.head.n,.slice ya y.head.ts.length yc,.slice lA y.body.length lz] 236)) (λ_ _ _ h=>h);go_wp2_with (go_at_call 132;refine(P9 vx hR (by have:=mL.1;omega)).mono ?_;rintro e w2 ⟨KL,l3,c3,rfl,aF,k2,hk2,hx2,hl2⟩;obtain⟨q5,q6,hv2⟩:=hl2.shape;obtain⟨rfl,rfl,rfl⟩:KL=q5∧l3=(ay y).length∧c3=q6:=by simpa using hv2);obtain⟨q9,q10,hv3,x_⟩:=hl2.at hk2;obtain⟨rfl,rfl⟩:KL=q9∧c3=q10:=by simpa using hv3
   clear hv3;have yf:=(hT.alloc (.cells #[.string y.head.n,.slice ya y.head.ts.length yc,.slice lA y.body.length lz] 236)).trans aF;have hlen:(ay y).length≤1099511627776:=by have:=mL.1;simp[ay];omega
   have wz:av w2 bZ at5 Kg w.heap.size (cJ (cs.take k)):=(hM.turn ((af.refl (λ_=>False) wr).alloc _) id).turn aF id;have hz2:=aF.size;have hz1:=hT.size;have KX:=hM.lt;have uD:=aF.made id;obtain⟨f0,hf0⟩: ∃f0,f0=cJ (cs.take k):=⟨_,rfl⟩;rw[←hf0]at wz;have HF0:at3 (f0=cJ (cs.take k)):=hf0;clear hf0 hM
   go_loopw [18] (λi wq=>∃ (j:Nat),j≤(ay y).length∧i= .int .i64 j∧af (·=w.heap.size) w2 wq∧av wq bZ at5 Kg w.heap.size (jZ f0 ((ay y).take j))) (λi _=>(ay y).length-(intOf i).toNat)
   case atStart=>exact⟨0,arQ _,rfl,af.refl _ _,wz⟩
   case round=>
    clear wz;obtain⟨j,hj,rfl,gT,kH⟩:=hrel;by_cases pL:j<(ay y).length
    ·obtain⟨z,hz⟩: ∃z,(ay y)[j]? =some z:=⟨_,arn pL⟩;obtain⟨g2,o2,cc2,rfl,sU,iG,dh⟩:=x_ j z hz;obtain⟨za,zc,rfl⟩:=iG.cells;have hzs:=mL.2 z (ann hz);have AH:bZ z.n:=ig hzs.2.1;have hg2: ¬g2=w.heap.size:=by
      obtain⟨ob,pk⟩:=hl2.block;rcases hx2.new _ _ pk with h1|h1
      ·have:=hw.lt h1;omega
      ·simp at h1;omega
     have u0:=gT.cell (dh 0 aI) hg2;have u1:=gT.cell (dh 1 aI) hg2;simp only[at6,←at7]at u0 u1;have HZ:at3 (jZ f0 ((ay y).take (j+1))=FR (jZ f0 ((ay y).take j)) z):=GL hz;clear hz;generalize jZ f0 ((ay y).take j)=f at kH HZ;have jN:=kH.turn ((af.refl (λ_=>False) wr).alloc (.cells #[.string z.n,.slice za z.ts.length zc] 233)) id;obtain⟨q,hq⟩: ∃q:Nat,(au f z.n).elim (Value.agg #[.int .i64 0,.bool false]) Kg= .agg #[.int .i64 q,.bool (Tl f z.n)]:=by
      unfold Tl;cases au f z.n with
      |none=>exact⟨0,rfl⟩
      |some u=>exact⟨u.1,rfl⟩
     have HN:at3 (FR f z=dO f z.n (z.ts.length,Tl f z.n)):=rfl;generalize Tl f z.n=d at hq HN;go_wp2_with (first|(at_lookup;refine bu cI Tryz.underlying97 Gc rfl (.tmp 28) (.tmp 30) rfl rfl (aD _) jN.hp rfl AH hq ?_;refine GA rfl (.tmp 31) rfl rfl (Y4 q d) ?_)|(at_mapUpdate;refine bj cI Tryz.underlying97 rfl (.tmp 22) (.tmp 24) (.tmp 33) rfl rfl jN rfl AH (z.ts.length,d) rfl ?_;intro w5 bA mg));go_roundw
     case rel=>exact⟨j+1,by omega,by go_num,(gT.alloc _).trans bA,by rw[HZ.out,HN.out];exact mg⟩
     case measure=>simp[intOf];omega
    ·have AP:(ay y).take j=ay y:=at4 aj;rw[AP]at kH;obtain⟨v0,v1,v2,_,_,_⟩:=bI (gT.kept uD aj);have KG:af (λ_=>False) w wr:=yf.bL gT λb (h:b=w.heap.size)=> .inl aj;by_cases hb:y.body.length=0
     ·have HC:at3 (BC f0 y=jZ f0 (ay y)):=by show _=_;unfold BC;rw[if_pos hb]
      have hd:decide (y.body.length=0)=true:=by simpa using hb
      clear hb;go_wp2_with (go_at_call 133;refine(P8 _ _ _ _ _ _ _ _).mono ?_;rintro e w6 ⟨rfl,bH⟩;rw[hd]);go_roundw
      case rel=>exact⟨k+1,by omega,by go_num,KG.trans bH,by rw[HS.out,←HF0.out,HC.out];exact kH.turn bH id⟩
      case measure=>simp[intOf];omega
     ·have HC:at3 (BC f0 y=dO (jZ f0 (ay y)) y.head.n (y.head.ts.length,true)):=by show _=_;unfold BC;rw[if_neg hb]
      have hd:decide (y.body.length=0)=false:=by simpa using hb
      generalize jZ f0 (ay y)=f at kH HC;go_wp2_with (first|(go_at_call 133;refine(P8 _ _ _ _ _ _ _ _).mono ?_;rintro e w6 ⟨rfl,bH⟩;rw[hd];have Sa:=kH.turn bH id;obtain⟨x0,x1,x2,_,_,_⟩:=bI (bH.kept (gT.kept uD aj) id))|(at_mapUpdate;refine bj cI Tryz.underlying97 rfl (.tmp 38) (.tmp 41) (.tmp 46) rfl rfl Sa rfl qG (y.head.ts.length,true) rfl ?_;intro w5 bA mg));go_roundw
      case rel=>exact⟨k+1,by omega,by go_num,(KG.trans bH).bL bA (λb (h:b=w.heap.size)=> .inl aj),by rw[HS.out,←HF0.out,HC.out];exact mg⟩
      case measure=>simp[intOf];omega
  ·have iQ:cs.take k=cs:=at4 aj;rw[iQ]at hM;go_wp2;go_ret;exact⟨_,rfl,agl _,hT,hM⟩
end Go.Proofs.YtkdljbnllgpfhaaGreat
end
section
namespace Go.Proofs.YtkdljbnllgpfhaaGreat
open Go Go.RowKit Go.Upr
theorem laidOut:laidOutB Tryz.prog=true:=by kernel_rfl
theorem acQ:auo Tryz.prog 116:=deep_law_gate laidOut mE mE ar ar
abbrev aS:=Nat×Nat×Nat
def br(t:aS):Value:= .agg #[.int .u64 t.1,.int .u64 t.2.1,.int .u64 t.2.2]
abbrev fq:aS→Prop:=λt=>t.1<18446744073709551616∧t.2.1<18446744073709551616∧t.2.2<18446744073709551616
theorem Jp:Tryz.prog.cellsOf 116=3:=by kernel_rfl
theorem Jq:Tryz.prog.cellsOf 114=1:=by kernel_rfl
theorem Q7{t:aS}(ht:fq t): ∃l,keyOf Tryz.prog 116 (br t)=some l:=by
 obtain⟨a,b,c⟩:=t;obtain⟨ha,hb,hc⟩:=ht;have h1:Tryz.prog.keyType 116=true:=by kernel_rfl
 have h2:(br (a,b,c)).formed Tryz.prog 116=true:=by
  unfold Value.formed br;rw[Tryz.underlying116,Jp];rfl
 have h0: ∀ (d:Nat) {n:Nat},n<18446744073709551616→Tryz.prog.keyLits (d+1) 114 [.int .u64 n]=some [.int .u64 n]:=by
  intro d n hn;unfold auq;rw[Tryz.underlying114];exact if_pos ⟨rfl,by simp[Lit.wf,IntKind.min,IntKind.max,auQ,auY];omega⟩
 have h3: ∀d,Tryz.prog.keyLits (d+2) 116 [.int .u64 a,.int .u64 b,.int .u64 c]=some [.int .u64 a,.int .u64 b,.int .u64 c]:=by
  intro d;unfold auq;rw[Tryz.underlying116];simp[Jp,Jq,h0 d ha,h0 d hb,h0 d hc,List.range,au7]
 unfold keyOf;rw[Tryz.underlying116,LI];simp only[h1,h2,Bool.and_true,if_true];show ∃l,(Tryz.prog.keyLits 523 116 [.int .u64 a,.int .u64 b,.int .u64 c]).map _=some l;rw[h3 521];exact⟨_,rfl⟩
theorem gL:fG Tryz.prog 116 br fq:= .of_law acQ (λ_ h=>Q7 h) (λx y _ _ h=>by
 obtain⟨a,b,c⟩:=x;obtain⟨d,e,f⟩:=y;have h':((a:Int)=d∧(b:Int)=e∧(c:Int)=f):=by simpa[br]using h
 obtain⟨h1,h2,h3⟩:=h';obtain rfl:=auI h1;obtain rfl:=auI h2;obtain rfl:=auI h3
 rfl)
abbrev ji:Nat→Value:=λb=> .map (some b)
structure aq(w:aly)(sb:Nat)(bs:List (ByteArray×Nat))(F:ByteArray→List aS):Prop where
 top:av w bZ at5 ji sb bs
 dy: ∀p∈bs,av w fq br aY p.2 (aU (F p.1))
 apart:(bs.map auw).Nodup
 off: ∀p∈bs,p.2≠sb
theorem aq.turn{w w':aly}{sb:Nat}{bs:List (ByteArray×Nat)}{F:ByteArray→List aS}{D:Nat→Prop}(h:aq w sb bs F)(ht:af D w w')(h0: ¬D sb)(h1: ∀p∈bs,¬D p.2):aq w' sb bs F:=
 ⟨h.top.turn ht h0,λp hp=>(h.dy p hp).turn ht (h1 p hp),h.apart,h.off⟩
theorem tG{κ ν:Type}[DecidableEq κ]{f:List (κ×ν)}{x:κ}(h:x∉f.map aug)(v:ν):dO f x v=f++ [(x,v)]:=by
 unfold dO;rw[if_neg];intro h1;obtain⟨p,hp,he⟩:=aue.1 h1;exact h (amk.2 ⟨p,hp,by simpa using he⟩)
theorem c74{h:Hp}{w:aly}(hw:h.In w){ad:Option alA}{l c:Nat}{ns:List ByteArray}(hcs:h.list 1 gX (.slice ad l c) ns)(_hn:ns.length≤1099511627776)(G7:ns.Nodup)(gH: ∀x∈ns,bZ x):
  asP Tryz.prog 74 #[.slice ad l c] w λe w'=>∃sb bs,e= .returned (.map (some sb))∧w.heap.size≤sb∧af (λ_=>False) w w'∧aq w' sb bs (λ_=> [])∧bs.map aug=ns∧∀p∈bs,w.heap.size≤p.2:=by
 obtain⟨q7,q8,hv3,hat⟩:=hcs.at hw;obtain⟨rfl,rfl,rfl⟩:ad=q7∧l=ns.length∧c=q8:=by simpa using hv3
 clear hv3;have tV:= @auj Tryz.prog;go_enter Tryz.func74,Tryz.ntmps74;go_wp2;have WU:aq (w.alloc (.map #[] 0)) w.heap.size [] (λ_=> []):=⟨av.made,by simp,by simp,by simp⟩
 go_loopw [9] (λi wr=>∃ (k:Nat) (bs:List (ByteArray×Nat)),k≤ns.length∧i= .int .i64 k∧af (λ_=>False) w wr∧aq wr w.heap.size bs (λ_=> [])∧bs.map aug=ns.take k∧(∀p∈bs,w.heap.size≤p.2)) (λi _=>ns.length-(intOf i).toNat)
 case atStart=>exact⟨0,[],arQ _,rfl,(af.refl _ w).alloc _,WU,rfl,by simp⟩
 case round=>
  clear WU;obtain⟨k,bs,hk,rfl,hT,hS,DT,hge⟩:=hrel;by_cases hlt:k<ns.length
  ·obtain⟨y,hy⟩: ∃y,ns[k]? =some y:=⟨_,arn hlt⟩;obtain⟨g,o,cc,rfl,bW,rfl,ag⟩:=hat k y hy;have e0:=hT.cell (ag 0 aI) id;simp only[at6,aup]at e0;have hyk:bZ y:=gH y (ann hy);have se:y∉bs.map aug:=by
    rw[DT];intro hm;obtain⟨j,hj,he⟩:=asW hm;rw[as1]at hj;rw[List.getElem_take]at he;have h2:=(apT.1 hy).2;have:=(auG G7).1 (he.trans h2.symm);omega
   have HB:at3 (ns.take (k+1)=ns.take k++ [y]):=by show _=_;rw[at8,hy];rfl
   clear hy;have hsb:=hS.top.lt;have uQ:av (wr.alloc (.map #[] 0)) bZ at5 ji w.heap.size bs:=hS.top.turn ((af.refl (λ_=>False) wr).alloc _) id;have HP:at3 (dO bs y wr.heap.size=bs++ [(y,wr.heap.size)]):=tG se _;go_wp2_with (at_mapUpdate;refine bj cI Tryz.underlying99 rfl (.tmp 13) (.tmp 14) (.tmp 15) rfl rfl uQ rfl hyk wr.heap.size rfl ?_;intro w5 bA mg);go_roundw
   case rel=>
    refine⟨k+1,bs++ [(y,wr.heap.size)],by omega,by go_num,(hT.alloc _).bL bA (λb (h:b=w.heap.size)=> .inl aj),⟨by rw[←HP.out];exact mg,?_,?_,?_⟩,by rw[HB.out,←DT,atW];rfl,?_⟩
    ·intro p hp;rcases aqo.1 hp with hp|hp
     ·exact((hS.dy p hp).turn ((af.refl (λ_=>False) wr).alloc _) id).turn bA (hS.off p hp)
     ·obtain rfl:=atQ.1 hp;exact(av.made (w:=wr)).turn bA (λh=>by have h':wr.heap.size=w.heap.size:=h;omega)
    ·rw[atW,aus];refine⟨hS.apart,by simp,?_⟩;intro a ha b hb;obtain⟨p,hp,rfl⟩:=amk.1 ha;have h2:=(hS.dy p hp).lt;have h3:b=wr.heap.size:=by simpa using hb
     omega
    ·intro p hp;rcases aqo.1 hp with hp|hp
     ·exact hS.off p hp
     ·obtain rfl:=atQ.1 hp;show wr.heap.size≠_;omega
    ·intro p hp;rcases aqo.1 hp with hp|hp
     ·exact hge p hp
     ·obtain rfl:=atQ.1 hp;exact hT.size
   case measure=>simp[intOf];omega
  ·have iQ:ns.take k=ns:=at4 aj;rw[iQ]at DT;go_wp2;go_ret;exact⟨_,bs,rfl,agl _,hT,hS,DT,hge⟩
end Go.Proofs.YtkdljbnllgpfhaaGreat
end
section
namespace Go.Proofs.YtkdljbnllgpfhaaGreat
open Go Go.RowKit Go.Upr
def vK(g:List ByteArray)(c:cS):Bool:=gP g c.head.n&& !decide (c.body.length=0)
def dY(g:List ByteArray)(cs:List cS):List cS:=cs.filter (vK g)
theorem JO{g:List ByteArray}{cs:List cS}{k:Nat}{y:cS}(hy:cs[k]? =some y):dY g (cs.take (k+1))=if vK g y then dY g (cs.take k)++ [y]else dY g (cs.take k):=by
 unfold dY;rw[at8,hy,List.filter_append];simp only[Option.toList_some,List.filter_cons,List.filter_nil];split<;>simp
theorem Dv(g:List ByteArray)(cs:List cS):(dY g cs).length≤cs.length:=List.length_filter_le _ _
theorem aj2{h:Hp}{w:aly}(hw:h.In w){gb:Nat}{gs:List ByteArray}(hg:av w bZ at5 aY gb (aU gs)){ad:Option alA}{l c:Nat}{cs:List cS}(hcs:h.list 3 cW (.slice ad l c) cs)(_hn:cs.length≤1099511627776)(hsm: ∀cl∈cs,Small 1099511627776 cl):
  asP Tryz.prog 140 #[.map (some gb),.slice ad l c] w λe w'=>∃ad c,e= .returned (.slice ad (dY gs cs).length c)∧af (λ_=>False) w w'∧∃k:Hp,k.In w'∧Hp.Ext w.heap.size h k∧k.list 3 cW (.slice ad (dY gs cs).length c) (dY gs cs):=by
 obtain⟨q7,q8,hv3,hat⟩:=hcs.at hw;obtain⟨rfl,rfl,rfl⟩:ad=q7∧l=cs.length∧c=q8:=by simpa using hv3
 clear hv3;have E4: ∀b o,h b=some o→b<w.heap.size:=λb o hb=>hw.lt hb;go_enter Tryz.func140,Tryz.ntmps140;go_wp2;have lr:aw w w.heap.size 236 3 cW h (.slice none 0 0) (dY gs (cs.take 0)):= .nil hw
 go_loopw [5,12] (λv i wr=>∃ (k:Nat),k≤cs.length∧i= .int .i64 k∧af (λ_=>False) w wr∧aw wr w.heap.size 236 3 cW h v (dY gs (cs.take k))) (λ_ i _=>cs.length-(intOf i).toNat)
 case atStart=>exact⟨0,arQ _,rfl,af.refl _ w,lr⟩
 case round=>
  clear lr;obtain⟨k,hk,rfl,hT,hm⟩:=hrel;by_cases hlt:k<cs.length
  ·obtain⟨y,hy⟩: ∃y,cs[k]? =some y:=⟨_,arn hlt⟩;obtain⟨g,o,cc,rfl,bW,hR,ag⟩:=hat k y hy;obtain⟨ya,yc,lA,lz,rfl⟩:=hR.cells;have mL:=hsm y (ann hy);have e0:=hT.cell (ag 0 aI) id;have e1:=hT.cell (ag 1 aI) id;have e2:=hT.cell (ag 2 aI) id;simp only[at6,←at7]at e0 e1 e2;have HS:at3 (dY gs (cs.take (k+1))=if vK gs y then dY gs (cs.take k)++ [y]else dY gs (cs.take k)):=JO hy;have jy:(dY gs (cs.take k)).length≤1099511627776:=by
    have:=Dv gs (cs.take k);rw[as1]at this;omega
   clear hy;have qG:bZ y.head.n:=ig (mL.2 y.head (ao3 ..)).2.1;have hg1:av wr bZ at5 aY gb (aU gs):=hg.turn hT id;have jN:=hg1.turn ((af.refl (λ_=>False) wr).alloc (.cells #[.string y.head.n,.slice ya y.head.ts.length yc,.slice lA y.body.length lz] 236)) id;cases dC:gP gs y.head.n with
   |false=>
    have hl:au (aU gs) y.head.n=none:=by rw[cA,if_neg (by rw[dC];simp)]
    have HI:at3 (vK gs y=false):=by show _=_;unfold vK;rw[dC];rfl
    clear dC;go_wp2_with (at_lookup;refine aZ cI Tryz.underlying249 bT rfl (.tmp 17) (.tmp 20) rfl rfl (aD _) jN.hp rfl qG hl ?_);go_roundw
    case rel=>exact⟨k+1,by omega,by go_num,(hT.alloc _).alloc _,by rw[HS.out,HI.out];exact hm.turn (((af.refl (λ_=>False) wr).alloc _).alloc _) (λ_ _ h=>h) (λ_ _ _ h=>h)⟩
    case measure=>simp[intOf];omega
   |true=>
    have hl:au (aU gs) y.head.n=some ():=by rw[cA,if_pos dC]
    have HI:at3 (vK gs y= !decide (y.body.length=0)):=by show _=_;unfold vK;rw[dC];rfl
    clear dC;obtain⟨d,hd⟩: ∃d,d=decide (y.body.length=0):=⟨_,rfl⟩;have hc3:=λw=>P8 y.head.n ya lA y.head.ts.length yc y.body.length lz w;rw[←hd]at hc3 HI;clear hd;obtain⟨v0,v1,v2,_,_,_⟩:=bI (bq wr (.cells #[.string y.head.n,.slice ya y.head.ts.length yc,.slice lA y.body.length lz] 236) (.cells #[] 251));cases d with
    |true=>
     go_wp2_with (first|(at_lookup;refine aP cI Tryz.underlying249 bT rfl (.tmp 17) (.tmp 20) rfl rfl (aD _) jN.hp rfl qG hl ?_)|(go_at_call 133;refine(hc3 _).mono ?_;rintro e w6 ⟨rfl,bH⟩));go_roundw
     case rel=>exact⟨k+1,by omega,by go_num,((hT.alloc _).alloc _).trans bH,by rw[HS.out,HI.out];exact(hm.turn (((af.refl (λ_=>False) wr).alloc _).alloc _) (λ_ _ h=>h) (λ_ _ _ h=>h)).turn bH (λ_ _ h=>h) (λ_ _ _ h=>h)⟩
     case measure=>simp[intOf];omega
    |false=>
     go_wp2_with (first|(at_lookup;refine aP cI Tryz.underlying249 bT rfl (.tmp 17) (.tmp 20) rfl rfl (aD _) jN.hp rfl qG hl ?_)|(go_at_call 133;refine(hc3 _).mono ?_;rintro e w6 ⟨rfl,bH⟩;have gQ:=(hm.turn (((af.refl (λ_=>False) wr).alloc (.cells #[.string y.head.n,.slice ya y.head.ts.length yc,.slice lA y.body.length lz] 236)).alloc (.cells #[] 251)) (λ_ _ h=>h) (λ_ _ _ h=>h)).turn bH (λ_ _ h=>h) (λ_ _ _ h=>h);have uO:=((hT.alloc (.cells #[.string y.head.n,.slice ya y.head.ts.length yc,.slice lA y.body.length lz] 236)).alloc (.cells #[] 251)).trans bH;have hs6:=uO.size;obtain⟨x0,x1,x2,_,_,_⟩:=bI (bH.kept (bq wr (.cells #[.string y.head.n,.slice ya y.head.ts.length yc,.slice lA y.body.length lz] 236) (.cells #[] 251)) id))|(at_builtin;refine di Pa rfl (.tmp 30) (.tmp 32) rfl gQ rfl y #[.string y.head.n,.slice ya y.head.ts.length yc,.slice lA y.body.length lz] hR rfl (by simp[atv]) rfl bz aj aj aj ?_;intro g4 lK w7 Dc eC));go_roundw
     case rel=>exact⟨k+1,by omega,by go_num,uO.bL eC (λb hb=> .inl (gQ.own b hb).1),by rw[HS.out,HI.out];exact Dc⟩
     case measure=>simp[intOf];omega
  ·have iQ:dY gs (cs.take k)=dY gs cs:=by rw[at4 aj]
   rw[iQ]at hm;obtain⟨va,vc,rfl⟩:=hm.shape;go_wp2;go_ret;obtain⟨k',d1,d2,d3,d4⟩:=hm.done λk' hk c x=>cW.mono hk;exact⟨_,_,rfl,hT,k',d1,⟨d2,λb o hb=>(d3 b o hb).imp id λh=>(hm.own b h).1⟩,d4⟩
end Go.Proofs.YtkdljbnllgpfhaaGreat
end
section
namespace Go.Upr
open Go Go.RowKit
variable{P:alu}{kt et t:acs}{κ ν:Type}{key:κ→aad}{ok:κ→Prop}{enc:ν→aad}[DecidableEq κ]
variable{ops:Array apy}{rest:List apy}{o:apy}{a:Act}{Q:Exit→Act→aly→Prop}{w:aly}{f:List (κ×ν)}{x:κ}{b:Nat}
theorem lg(K:fG P kt key ok)(ht:P.underlying t=some (.map kt et))(hg:apY o (yielded ops a.tmps)=true)(m y u:ang)(hop:o.op= .insert t m y u)(hm:a.eval m= .map (some b))(H:av w ok key enc b f)
  (hy:a.eval y=key x) (hx:ok x) (v:ν) (hu:a.eval u=enc v) (hk: ∀w',af (·=b) w w'→av w' ok key enc b (dO f x v)→wpList P ops Q rest (a.put o.dst undef) w'):wpList P ops Q (o::rest) a w:=by
 refine wpList_want hg λK' hK'=>?_;obtain⟨es,clock,h1,h2⟩:=H;obtain⟨es',clock',h3,h4⟩:=h2.put K w hx v h1 ht;unfold atJ;simp[execOp,hop,hm,hy,hu,h3,aua];exact hK' _ _ (hk _ (eT w b _) ⟨es',clock',cM h1,h4⟩)
end Go.Upr
namespace Go.Proofs.YtkdljbnllgpfhaaGreat
open Go Go.RowKit Go.Upr
def ahd(ab:List (ByteArray×ByteArray))(n o:ByteArray):Bool:=gP ab (n,o)&&gP ab (o,n)
def XS(ab:List (ByteArray×ByteArray))(n:ByteArray)(g:List ByteArray)(o:ByteArray):List ByteArray:=if ahd ab n o then ly g o else g
def sO(ab:List (ByteArray×ByteArray))(n:ByteArray)(ns:List ByteArray):List ByteArray:=ns.foldl (XS ab n) [n]
theorem Qh{ab:List (ByteArray×ByteArray)}{n:ByteArray}{ns:List ByteArray}{k:Nat}{y:ByteArray}(hy:ns[k]? =some y):sO ab n (ns.take (k+1))=XS ab n (sO ab n (ns.take k)) y:=by
 unfold sO;rw[at8,hy,at9];rfl
theorem aj3{h:Hp}{w:aly}(hw:h.In w){n:ByteArray}(AO:bZ n){mb:Nat}{ab:List (ByteArray×ByteArray)}(hM:lF w mb ab){ad:Option alA}{l c:Nat}{cs:List cS}(hcs:h.list 3 cW (.slice ad l c) cs)(hn:cs.length≤1099511627776)(hsm: ∀cl∈cs,Small 1099511627776 cl)
  (hB: ∀k,(a_ (cs.take k)).length≤1099511627776) (hN: ∀x∈a_ cs,x.size≤maxLen):
  asP Tryz.prog 139 #[.string n,.slice ad l c,.map (some mb)] w λe w'=>∃gb,e= .returned (.map (some gb))∧w.heap.size≤gb∧af (λ_=>False) w w'∧av w' bZ at5 aY gb (aU (sO ab n (a_ cs))):=by
 have tV:= @auj Tryz.prog;have KX:=hM.lt;have p8:av (w.alloc (.map #[] 0)) bZ at5 aY w.heap.size ([]:List (ByteArray×Unit)):=av.made;go_enter Tryz.func139,Tryz.ntmps139;go_wp2_with (first|(refine lg cI Tryz.underlying249 rfl (.tmp 14) (.tmp 15) (.tmp 16) rfl rfl p8 rfl AO () rfl ?_;intro w1 jh uQ;have je:=((af.refl (λ_=>False) w).alloc (.map #[] 0)).bL jh (λb (h:b=w.heap.size)=> .inl aj);have ik:=hw.turn je (λ_ _ _ h=>h))|(go_at_call 185;refine(aeQ ik hcs hn hsm hB).mono ?_;rintro e w2 ⟨mh,c2,rfl,aF,k2,hk2,hx2,hl2⟩));generalize AK:a_ cs=ns at hl2 hN;obtain⟨q9,q10,hv3,x_⟩:=hl2.at hk2;obtain⟨rfl,rfl⟩:mh=q9∧c2=q10:=by simpa using hv3
 clear hv3;have hlen:ns.length≤1099511627776:=by have:=hB cs.length;rw[List.take_length,AK]at this;exact this
 clear hB;have dK:=je.trans aF;have hz1:=jh.size;have hz2:=aF.size;simp at hz1;have wz:av w2 bZ at5 aY w.heap.size (aU [n]):=uQ.turn aF id;have lC:lF w2 mb ab:=hM.turn dK id;have hblk: ∀g o,Option.some (⟨g,o,none⟩:alA)=mh→¬g=w.heap.size:=by
  intro g o h e;subst h;obtain⟨ob,pk⟩:=hl2.block;have akV:=uQ.lt;rcases hx2.new _ _ pk with h1|h1
  ·have:=hw.lt h1;omega
  ·omega
 go_loopw [21] (λi wr=>∃ (k:Nat),k≤ns.length∧i= .int .i64 k∧af (·=w.heap.size) w2 wr∧av wr bZ at5 aY w.heap.size (aU (sO ab n (ns.take k)))) (λi _=>ns.length-(intOf i).toNat)
 case atStart=>exact⟨0,arQ _,rfl,af.refl _ _,wz⟩
 case round=>
  clear wz uQ;obtain⟨k,hk,rfl,gT,kH⟩:=hrel;by_cases hlt:k<ns.length
  ·obtain⟨y,hy⟩: ∃y,ns[k]? =some y:=⟨_,arn hlt⟩;obtain⟨g,o,cc,rfl,bW,rfl,ag⟩:=x_ k y hy;have e0:=gT.cell (ag 0 aI) (hblk g o rfl);simp only[at6,aup]at e0;have qG:bZ y:=hN y (ann hy);have HS:at3 (sO ab n (ns.take (k+1))=XS ab n (sO ab n (ns.take k)) y):=Qh hy;clear hy;generalize sO ab n (ns.take k)=f at kH HS;have Kq:lF wr mb ab:=lC.turn gT aj;have hAv:lF (wr.alloc (.cells #[] 251)) mb ab:=Kq.turn ((af.refl (λ_=>False) wr).alloc _) id;have jN:=kH.turn (((af.refl (λ_=>False) wr).alloc (.cells #[] 251)).alloc (.cells #[] 251)) id;have HT:at3 (XS ab n f y=if gP ab (n,y)&&gP ab (y,n)then ly f y else f):=rfl;cases sB:gP ab (n,y)with
   |false=>
    have o7:au (aU ab) (n,y)=none:=by rw[cA,if_neg (by rw[sB];simp)]
    rw[sB]at HT;clear sB;cases DK:gP ab (y,n)with
    |false=>
     have H6:au (aU ab) (y,n)=none:=by rw[cA,if_neg (by rw[DK];simp)]
     rw[DK]at HT;clear DK;go_wp2_with (first|(at_lookup;refine aZ gU Tryz.underlying247 bT rfl (.tmp 26) (.tmp 29) rfl rfl (aD _) Kq.hp rfl ⟨AO,qG⟩ o7 ?_)|(at_lookup;refine aZ gU Tryz.underlying247 bT rfl (.tmp 34) (.tmp 37) rfl rfl (aD _) hAv.hp rfl ⟨qG,AO⟩ H6 ?_));go_roundw
     case rel=>exact⟨k+1,by omega,by go_num,(gT.alloc _).alloc _,by rw[HS.out,HT.out];exact jN⟩
     case measure=>simp[intOf];omega
    |true=>
     have H6:au (aU ab) (y,n)=some ():=by rw[cA,if_pos DK]
     rw[DK]at HT;clear DK;go_wp2_with (first|(at_lookup;refine aZ gU Tryz.underlying247 bT rfl (.tmp 26) (.tmp 29) rfl rfl (aD _) Kq.hp rfl ⟨AO,qG⟩ o7 ?_)|(at_lookup;refine aP gU Tryz.underlying247 bT rfl (.tmp 34) (.tmp 37) rfl rfl (aD _) hAv.hp rfl ⟨qG,AO⟩ H6 ?_));go_roundw
     case rel=>exact⟨k+1,by omega,by go_num,(gT.alloc _).alloc _,by rw[HS.out,HT.out];exact jN⟩
     case measure=>simp[intOf];omega
   |true=>
    have o7:au (aU ab) (n,y)=some ():=by rw[cA,if_pos sB]
    rw[sB]at HT;clear sB;cases DK:gP ab (y,n)with
    |false=>
     have H6:au (aU ab) (y,n)=none:=by rw[cA,if_neg (by rw[DK];simp)]
     rw[DK]at HT;clear DK;go_wp2_with (first|(at_lookup;refine aP gU Tryz.underlying247 bT rfl (.tmp 26) (.tmp 29) rfl rfl (aD _) Kq.hp rfl ⟨AO,qG⟩ o7 ?_)|(at_lookup;refine aZ gU Tryz.underlying247 bT rfl (.tmp 34) (.tmp 37) rfl rfl (aD _) hAv.hp rfl ⟨qG,AO⟩ H6 ?_));go_roundw
     case rel=>exact⟨k+1,by omega,by go_num,(gT.alloc _).alloc _,by rw[HS.out,HT.out];exact jN⟩
     case measure=>simp[intOf];omega
    |true=>
     have H6:au (aU ab) (y,n)=some ():=by rw[cA,if_pos DK]
     rw[DK]at HT;clear DK;have HP:at3 (dO (aU f) y ()=aU (ly f y)):=qq f y;go_wp2_with (first|(at_lookup;refine aP gU Tryz.underlying247 bT rfl (.tmp 26) (.tmp 29) rfl rfl (aD _) Kq.hp rfl ⟨AO,qG⟩ o7 ?_)|(at_lookup;refine aP gU Tryz.underlying247 bT rfl (.tmp 34) (.tmp 37) rfl rfl (aD _) hAv.hp rfl ⟨qG,AO⟩ H6 ?_)|(at_mapUpdate;refine bj cI Tryz.underlying249 rfl (.tmp 45) (.tmp 46) (.tmp 47) rfl rfl jN rfl qG () rfl ?_;intro w5 bA mg));go_roundw
     case rel=>exact⟨k+1,by omega,by go_num,((gT.alloc _).alloc _).trans bA,by rw[HS.out,HT.out];simp only[Bool.and_self,if_true];rw[←HP.out];exact mg⟩
     case measure=>simp[intOf];omega
  ·have iQ:ns.take k=ns:=at4 aj;rw[iQ,←AK]at kH;go_wp2;go_ret;exact⟨_,rfl,agl _,dK.bL gT (λb (h:b=w.heap.size)=> .inl aj),kH⟩
end Go.Proofs.YtkdljbnllgpfhaaGreat
end
section
namespace Go.Proofs.YtkdljbnllgpfhaaGreat
open Go Go.RowKit Go.Upr
theorem FK{h:Hp}{w:aly}(hw:h.In w){v:aad}{ts:List aS}(H:h.map fq br aY v (aU ts))(a b c:Nat)(ht:fq (a,b,c)):
  asP Tryz.prog 144 #[v,.agg #[.int .u64 a,.int .u64 b,.int .u64 c]] w λe w'=>e= .returned (.bool (gP ts (a,b,c)))∧af (λ_=>False) w w':=by
 have hw2:h.In (w.alloc (.cells #[.int .u64 a,.int .u64 b,.int .u64 c] 116)):=hw.turn ((af.refl (λ_=>False) w).alloc _) (λ_ _ _ h=>h);cases dC:gP ts (a,b,c)with
 |false=>
  have hl:au (aU ts) (a,b,c)=none:=by rw[cA,if_neg (by rw[dC];simp)]
  clear dC;go_enter Tryz.func144,Tryz.ntmps144;go_wp2_with (at_lookup;refine aZ gL Tryz.underlying123 bT rfl (.tmp 8) (.tmp 9) rfl rfl hw2 H rfl ht hl ?_);go_ret;exact⟨rfl,((af.refl _ w).alloc _).alloc _⟩
 |true=>
  have hl:au (aU ts) (a,b,c)=some ():=by rw[cA,if_pos dC]
  clear dC;go_enter Tryz.func144,Tryz.ntmps144;go_wp2_with (at_lookup;refine aP gL Tryz.underlying123 bT rfl (.tmp 8) (.tmp 9) rfl rfl hw2 H rfl ht hl ?_);go_ret;exact⟨rfl,((af.refl _ w).alloc _).alloc _⟩
theorem gy(w:aly):(zeroValue 123).run Tryz.prog w= .ok (.map none) w:=by kernel_rfl
def iF(bs:List (ByteArray×Nat))(F:ByteArray→List aS)(n:ByteArray):List aS:=if(au bs n).isSome then F n else []
theorem cB{κ ν:Type}[DecidableEq κ]{f:List (κ×ν)}{x:κ}{v:ν}(h:au f x=some v):(x,v)∈f:=by
 unfold au at h;rw[ant]at h;obtain⟨p,hp,rfl⟩:=h;have h1:=auX hp;have h2:p.1=x:=by simpa using h1
 subst h2;exact auL hp
theorem aq.look{w:aly}{sb:Nat}{bs:List (ByteArray×Nat)}{F:ByteArray→List aS}(h:aq w sb bs F)(n:ByteArray):
  Hp.map (λb=>w.heap[b]?) fq br aY ((au bs n).elim (.map none) ji) (aU (iF bs F n)):=by
 cases hl:au bs n with
 |none=>
  have:iF bs F n= []:=by unfold iF;rw[hl];rfl
  rw[this];exact .inl ⟨rfl,rfl⟩
 |some b=>
  have:iF bs F n=F n:=by unfold iF;rw[hl];rfl
  rw[this];exact(h.dy _ (cB hl)).hp
theorem c86{w:aly}{sb:Nat}{bs:List (ByteArray×Nat)}{F:ByteArray→List aS}(hS:aq w sb bs F){n:ByteArray}(hn:bZ n)(a b c:Nat)(ht:fq (a,b,c)):
  asP Tryz.prog 86 #[.map (some sb),.string n,.agg #[.int .u64 a,.int .u64 b,.int .u64 c]] w λe w'=>e= .returned (.bool (gP (iF bs F n) (a,b,c)))∧af (λ_=>False) w w':=by
 have nX:aq (w.alloc (.cells #[.int .u64 a,.int .u64 b,.int .u64 c] 116)) sb bs F:=hS.turn ((af.refl (λ_=>False) w).alloc _) id (λ_ _=>id);obtain⟨u,hu⟩: ∃u,(au bs n).elim (.map none) ji=u:=⟨_,rfl⟩;have hm:=nX.look n;rw[hu]at hm;have hc:=FK (aD _) hm a b c ht;clear hm;go_enter Tryz.func86,Tryz.ntmps86;go_wp2_with (first|(at_lookup;refine bu cI Tryz.underlying99 gy rfl (.tmp 7) (.tmp 8) rfl rfl (aD _) nX.top.hp rfl hn hu ?_)|(go_at_call 144;refine hc.mono ?_;rintro e w2 ⟨rfl,aF⟩));go_ret;exact⟨rfl,((af.refl _ w).alloc _).trans aF⟩
end Go.Proofs.YtkdljbnllgpfhaaGreat
end
section
namespace Go.Proofs.YtkdljbnllgpfhaaGreat
open Go Go.RowKit Go.Upr
def vA(F:ByteArray→List aS)(n:ByteArray)(ts:List aS):ByteArray→List aS:=λm=>if m=n then ts else F m
theorem lU(F:ByteArray→List aS)(n:ByteArray)(ts:List aS):vA F n ts n=ts:=if_pos rfl
theorem ju(F:ByteArray→List aS){n m:ByteArray}(h:m≠n)(ts:List aS):vA F n ts m=F m:=if_neg h
theorem Qe(F:ByteArray→List aS)(n:ByteArray):vA F n (F n)=F:=by
 funext m;unfold vA;split
 ·rename_i h;rw[h]
 ·rfl
theorem aq.Ge{w w':aly}{sb:Nat}{bs:List (ByteArray×Nat)}{F:ByteArray→List aS}(h:aq w sb bs F){n:ByteArray}{rb:Nat}(hl:au bs n=some rb)(ht:af (·=rb) w w'){ts:List aS}(hm:av w' fq br aY rb (aU ts))(ho:(bs.map aug).Nodup):
  aq w' sb bs (vA F n ts):=by
 have gJ:=cB hl;refine⟨h.top.turn ht (λe=>h.off _ gJ e.symm),λp hp=>?_,h.apart,h.off⟩;by_cases G3:p.1=n
 ·have h1:au bs n=some p.2:=by
   obtain⟨j,hj,he⟩:=asW hp;refine Ck ho (j:=j) ?_;rw[arn hj,he,←G3]
  rw[hl]at h1;obtain rfl:=alN h1;rw[G3,lU];exact hm
 ·rw[ju _ G3];refine(h.dy p hp).turn ht λe=>G3 ?_;obtain⟨i,hi,he⟩:=asW hp;obtain⟨j,hj,he2⟩:=asW gJ;have h1:(bs.map auw)[i]'(by rw[auB];exact hi)=rb:=by rw[auC,he];exact e
  have h2:(bs.map auw)[j]'(by rw[auB];exact hj)=rb:=by rw[auC,he2]
  have h3:=(auG h.apart).1 (h1.trans h2.symm);subst h3;rw[he]at he2;rw[he2]
theorem av.once{κ ν:Type}{ok:κ→Prop}{key:κ→aad}{enc:ν→aad}{w:aly}{b:Nat}{f:List (κ×ν)}(h:av w ok key enc b f):(f.map aug).Nodup:=by
 obtain⟨_,_,_,h⟩:=h;exact h.once
theorem c87{w:aly}{sb:Nat}{bs:List (ByteArray×Nat)}{F:ByteArray→List aS}(hS:aq w sb bs F){n:ByteArray}(hn:bZ n){rb:Nat}(hl:au bs n=some rb)(a b c:Nat)(ht:fq (a,b,c)):
  asP Tryz.prog 87 #[.map (some sb),.string n,.agg #[.int .u64 a,.int .u64 b,.int .u64 c]] w λe w'=>e= .returned (.bool (!gP (F n) (a,b,c)))∧af (·=rb) w w'∧aq w' sb bs (vA F n (ly (F n) (a,b,c))):=by
 have nX:aq (w.alloc (.cells #[.int .u64 a,.int .u64 b,.int .u64 c] 116)) sb bs F:=hS.turn ((af.refl (λ_=>False) w).alloc _) id (λ_ _=>id);have hr:=hS.dy _ (cB hl);have AJ:=hr.lt;have hm:Hp.map (λb'=>(w.alloc (.cells #[.int .u64 a,.int .u64 b,.int .u64 c] 116)).heap[b']?) fq br aY (.map (some rb)) (aU (F n)):=(nX.dy _ (cB hl)).hp;have hc:=FK (aD _) hm a b c ht;have G7:=av.once hS.top;clear hm;cases dC:gP (F n) (a,b,c)with
 |true=>
  rw[dC]at hc;have HA:at3 (ly (F n) (a,b,c)=F n):=by show _=_;unfold ly;rw[if_pos dC]
  clear dC;go_enter Tryz.func87,Tryz.ntmps87;go_wp2_with (first|(at_lookup;refine aP cI Tryz.underlying99 gy rfl (.tmp 10) (.tmp 11) rfl rfl (aD _) nX.top.hp rfl hn hl ?_)|(go_at_call 144;refine hc.mono ?_;rintro e w2 ⟨rfl,aF⟩));go_ret;exact⟨rfl,(((af.refl _ w).alloc _).trans aF).wider,by rw[HA.out,Qe];exact nX.turn aF id (λ_ _=>id)⟩
 |false=>
  rw[dC]at hc;clear dC;have HP:at3 (dO (aU (F n)) (a,b,c) ()=aU (ly (F n) (a,b,c))):=qq _ _;go_enter Tryz.func87,Tryz.ntmps87;go_wp2_with (first|(at_lookup;refine aP cI Tryz.underlying99 gy rfl (.tmp 10) (.tmp 11) rfl rfl (aD _) nX.top.hp rfl hn hl ?_)|(go_at_call 144;refine hc.mono ?_;rintro e w2 ⟨rfl,aF⟩;have Bh:=nX.turn aF id (λ_ _=>id);have Kp:=Bh.dy _ (cB hl);obtain⟨x0,x1,x2,_,_,_⟩:=bI (aF.kept (atp w (.cells #[.int .u64 a,.int .u64 b,.int .u64 c] 116)) id))|(at_mapUpdate;refine bj gL Tryz.underlying123 rfl (.tmp 24) (.tmp 25) (.tmp 26) rfl rfl Kp rfl ht () rfl ?_;intro w5 bA mg));go_ret;exact⟨rfl,(((af.refl _ w).alloc _).trans aF).wider.trans bA,Bh.Ge hl bA (by rw[←HP.out];exact mg) G7⟩
end Go.Proofs.YtkdljbnllgpfhaaGreat
end
section
namespace Go.Proofs.YtkdljbnllgpfhaaGreat
open Go Go.RowKit Go.Upr
theorem aq.wider{w w':aly}{sb:Nat}{bs:List (ByteArray×Nat)}{F:ByteArray→List aS}(h:aq w sb bs F){n:ByteArray}(hl:au bs n=none){rb:Nat}(Kk:w.heap.size≤rb){D:Nat→Prop}(ht:af D w w')(hD: ∀b,b<w.heap.size→D b→b=sb)
  (uG:av w' bZ at5 ji sb (bs++ [(n,rb)])) {ts:List aS} (hm:av w' fq br aY rb (aU ts)):aq w' sb (bs++ [(n,rb)]) (vA F n ts):=by
 have hne: ∀p∈bs,p.1≠n:=λp hp e=>by
  unfold au at hl;rw[aun,aur]at hl;exact hl p hp (by simpa using e)
 refine⟨uG,λp hp=>?_,?_,λp hp=>?_⟩
 ·rcases aqo.1 hp with hp|hp
  ·rw[ju _ (hne p hp)];have h1:=h.dy p hp;exact h1.turn ht λhd=>h.off p hp (hD _ h1.lt hd)
  ·obtain rfl:=atQ.1 hp;rw[lU];exact hm
 ·rw[atW,aus];refine⟨h.apart,by simp,?_⟩;intro a ha b hb;obtain⟨p,hp,rfl⟩:=amk.1 ha;have h2:=(h.dy p hp).lt;have h3:b=rb:=by simpa using hb
  omega
 ·rcases aqo.1 hp with hp|hp
  ·exact h.off p hp
  ·obtain rfl:=atQ.1 hp;have:=h.top.lt;show rb≠sb;omega
theorem QF{κ ν:Type}[DecidableEq κ]{f:List (κ×ν)}{x:κ}(h:au f x=none)(v:ν):dO f x v=f++ [(x,v)]:=by
 refine tG (λhm=>?_) v;obtain⟨p,hp,he⟩:=amk.1 hm;unfold au at h;rw[aun,aur]at h;exact h p hp (by simpa using he)
theorem Z1{w:aly}{sb:Nat}{bs:List (ByteArray×Nat)}{F:ByteArray→List aS}(hS:aq w sb bs F){n:ByteArray}(hn:bZ n)(hl:au bs n=none)(a b c:Nat)(ht:fq (a,b,c)):
  asP Tryz.prog 87 #[.map (some sb),.string n,.agg #[.int .u64 a,.int .u64 b,.int .u64 c]] w λe w'=>∃rb,e= .returned (.bool true)∧w.heap.size≤rb∧af (·=sb) w w'∧aq w' sb (bs++ [(n,rb)]) (vA F n [(a,b,c)]):=by
 have tV:= @auj Tryz.prog;have pZ:=hS.top.lt;have nX:aq (w.alloc (.cells #[.int .u64 a,.int .u64 b,.int .u64 c] 116)) sb bs F:=hS.turn ((af.refl (λ_=>False) w).alloc _) id (λ_ _=>id);have eN:=((af.refl (λ_=>False) w).alloc (.cells #[.int .u64 a,.int .u64 b,.int .u64 c] 116)).alloc (.map #[] 0);have Bh:aq ((w.alloc (.cells #[.int .u64 a,.int .u64 b,.int .u64 c] 116)).alloc (.map #[] 0)) sb bs F:=nX.turn ((af.refl (λ_=>False) _).alloc _) id (λ_ _=>id);have Kp:av ((w.alloc (.cells #[.int .u64 a,.int .u64 b,.int .u64 c] 116)).alloc (.map #[] 0)) fq br aY (w.heap.size+1) (aU ([]:List aS)):=by
  have:=av.made (w:=w.alloc (.cells #[.int .u64 a,.int .u64 b,.int .u64 c] 116)) (ok:=fq) (key:=br) (enc:=aY)
  rwa [World.size_alloc]at this
 have HP:at3 (dO bs n (w.heap.size+1)=bs++ [(n,w.heap.size+1)]):=QF hl _;have dC:gP ([]:List aS) (a,b,c)=false:=rfl;go_enter Tryz.func87,Tryz.ntmps87;go_wp2_with (first|(at_lookup;refine aZ cI Tryz.underlying99 gy rfl (.tmp 10) (.tmp 11) rfl rfl (aD _) nX.top.hp rfl hn hl ?_)|(at_mapUpdate;refine bj cI Tryz.underlying99 rfl (.tmp 18) (.tmp 19) (.tmp 20) rfl rfl Bh.top rfl hn (w.heap.size+1) rfl ?_;intro w4 ck NH;have C8:=Kp.turn ck (λh=>by have h':w.heap.size+1=sb:=h;omega);have hc:=FK (aD _) C8.hp a b c ht;rw[dC]at hc;obtain⟨y0,y1,y2,_,_,_⟩:=bI (ck.kept (bq w (.cells #[.int .u64 a,.int .u64 b,.int .u64 c] 116) (.map #[] 0)) aj))|(go_at_call 144;refine hc.mono ?_;rintro e w5 ⟨rfl,bA⟩;have mg:=C8.turn bA id;have Xz:=NH.turn bA id;obtain⟨x0,x1,x2,_,_,_⟩:=bI (bA.kept (ck.kept (bq w (.cells #[.int .u64 a,.int .u64 b,.int .u64 c] 116) (.map #[] 0)) aj) id))|(at_mapUpdate;refine bj gL Tryz.underlying123 rfl (.tmp 24) (.tmp 25) (.tmp 26) rfl rfl mg rfl ht () rfl ?_;intro w6 bH Sa));go_ret;have hTT:af (·=sb) w w6:=((eN.wider.trans ck).trans bA.wider).bL bH λb (h:b=w.heap.size+1)=> .inl aj;rw[HP.out]at Xz;exact⟨_,rfl,by omega,hTT,hS.wider hl aj hTT (λb _ h=>h) (Xz.turn bH (λh=>by have h':sb=w.heap.size+1:=h;omega)) Sa⟩
end Go.Proofs.YtkdljbnllgpfhaaGreat
end
section
namespace Go.Proofs.YtkdljbnllgpfhaaGreat
open Go Go.RowKit Go.Upr
def iZ(s:ByteArray):Nat→Nat
 |0=>0
 |k+1=>iZ s k*256+(if h:k<s.size then s[k].toNat else 0)
theorem B0(s:ByteArray): ∀k,iZ s k<256^k
 |0=>by simp[iZ]
 |k+1=>by
  have h1:=B0 s k;rw[iZ,Nat.pow_succ];split
  ·have h2:=auT s[k];omega
  ·omega
theorem YA(n:Nat)(b:UInt8)(hn:n<72057594037927936):bits BinOp.or aq8 ((n:Int)*256) (aq8.wrap (b.toNat:Int))=((n*256+b.toNat:Nat):Int):=by
 have hb:=auT b;have e1:aq8.wrap (b.toNat:Int)=(b.toNat:Int):=by simp[IntKind.wrap,auY,auQ];omega
 have e2:((n:Int)*256)=((n*256:Nat):Int):=by omega
 rw[e1,e2,u64_or_nat (n*256) b.toNat aj aj]
 congr 1
 have:=Nat.shiftLeft_add_eq_or_of_lt (i:=8) (b:=b.toNat) aj n;rw[Nat.shiftLeft_eq]at this;exact this.symm
theorem c98(s:ByteArray)(w:aly):asP Tryz.prog 98 #[.string s] w λe w'=>e= .returned (.int .u64 (iZ s 8))∧w'=w:=by
 go_enter Tryz.func98,Tryz.ntmps98;go_wp2
 go_loop [3,5] (λv i=>∃k:Nat,k≤8∧i= .int .i64 k∧v= .int .u64 (iZ s k)) (λ_ i=>8-(intOf i).toNat)
 case atStart=>exact⟨0,by omega,rfl,rfl⟩
 case round=>
  obtain⟨k,hk,rfl,rfl⟩:=hrel;by_cases h8:k<8
  ·have hb:iZ s k<72057594037927936:=amC (B0 s k) (Nat.pow_le_pow_right (n:=256) aj (show k≤7 by omega));by_cases hlt:k<s.size
   ·have hN:iZ s (k+1)=iZ s k*256+s[k].toNat:=by rw[iZ,dif_pos hlt]
    generalize iZ s k=n at hb hN;go_wp2
    go_round
    case rel=>exact⟨k+1,by omega,by go_num,by rw[hN,YA n _ hb]⟩
    case measure=>simp[intOf];omega
   ·have hN:iZ s (k+1)=iZ s k*256:=by rw[iZ,dif_neg hlt];rfl
    generalize iZ s k=n at hb hN;go_wp2
    go_round
    case rel=>exact⟨k+1,by omega,by go_num,by rw[hN];go_num⟩
    case measure=>simp[intOf];omega
  ·obtain rfl:k=8:=by omega
   go_wp2;go_ret;exact⟨rfl,rfl⟩
end Go.Proofs.YtkdljbnllgpfhaaGreat
end
section
namespace Go.Proofs.YtkdljbnllgpfhaaGreat
open Go Go.RowKit Go.Upr
def kR(ns:List ByteArray)(i:Nat):Nat:=(ns[i]?).elim 0 (iZ · 8)
def Hv(ns:List ByteArray)(k:Nat):aS:=(if 0<k then kR ns 0 else 0,if 1<k then kR ns 1 else 0,if 2<k then kR ns 2 else 0)
def gC(ns:List ByteArray):aS:=(kR ns 0,kR ns 1,kR ns 2)
theorem mX(ns:List ByteArray)(i:Nat):kR ns i<18446744073709551616:=by
 unfold kR;cases ns[i]? with
 |none=>decide
 |some s=>exact amC (B0 s 8) aI
theorem xo(ns:List ByteArray):fq (gC ns):=⟨mX ns 0,mX ns 1,mX ns 2⟩
theorem JB{ns:List ByteArray}{i:Nat}(h:ns.length≤i):kR ns i=0:=by
 unfold kR;rw[List.getElem?_eq_none h];rfl
theorem UM(ns:List ByteArray):Hv ns ns.length=gC ns:=by
 unfold Hv gC;have h: ∀i,(if i<ns.length then kR ns i else 0)=kR ns i:=λi=>by
  split
  ·rfl
  ·exact(JB aj).symm
 rw[h 0,h 1,h 2]
theorem c50{h:Hp}{w:aly}(hw:h.In w){ad:Option alA}{l c:Nat}{ns:List ByteArray}(hcs:h.list 1 gX (.slice ad l c) ns)(hn:ns.length≤3):
  asP Tryz.prog 50 #[.slice ad l c] w λe w'=>e= .returned (br (gC ns))∧af (λ_=>False) w w':=by
 obtain⟨q7,q8,hv3,hat⟩:=hcs.at hw;obtain⟨rfl,rfl,rfl⟩:ad=q7∧l=ns.length∧c=q8:=by simpa using hv3
 clear hv3;go_enter Tryz.func50,Tryz.ntmps50;go_wp2;have bM:=((af.refl (λ_=>False) w).alloc (.cells #[.int .u64 0,.int .u64 0,.int .u64 0] 116)).alloc (.cells #[.int .u64 0,.int .u64 0,.int .u64 0] 116)
 go_loopw [8] (λi wr=>∃ (k:Nat),k≤ns.length∧i= .int .i64 k∧af (λ_=>False) w wr∧wr.heap[w.heap.size]? =some (.cells #[.int .u64 0,.int .u64 0,.int .u64 0] 116)∧wr.heap[w.heap.size+1]? =some (.cells #[.int .u64 (Hv ns k).1,.int .u64 (Hv ns k).2.1,.int .u64 (Hv ns k).2.2] 116)) (λi _=>ns.length-(intOf i).toNat)
 case atStart=>exact⟨0,arQ _,rfl,bM,bq _ _ _,aR _ _ _⟩
 case round=>
  obtain⟨k,hk,rfl,hT,hA,hB⟩:=hrel;have hsz:=atm hB;obtain⟨a0,a1,a2,af0,af1,af2⟩:=bI hA;obtain⟨b0,b1,b2,bf0,bf1,bf2⟩:=bI hB;by_cases hlt:k<ns.length
  ·obtain⟨y,hy⟩: ∃y,ns[k]? =some y:=⟨_,arn hlt⟩;obtain⟨g,o,cc,rfl,bW,rfl,ag⟩:=hat k y hy;have e0:=hT.cell (ag 0 aI) id;simp only[at6,aup]at e0;have hwy:kR ns k=iZ y 8:=by unfold kR;rw[hy];rfl
   clear hy;obtain rfl|rfl|rfl:k=0∨k=1∨k=2:=by omega
   all_goals
    try simp only[at6]at e0
    go_wp2_with (go_at_call 98;refine(c98 _ _).mono ?_;rintro e w2 ⟨rfl,rfl⟩);go_roundw
   case rel=>exact⟨1,by omega,rfl,hT.setCell (.inl (atZ _)) _,(atC _ _ _ _ (auN (atG _))).trans hA,by have:=cR (o:=0) hB (.int .u64 (iZ y 8:Nat));simpa[Hv,hwy]using this⟩
   case measure=>simp[intOf];omega
   case rel=>exact⟨2,by omega,rfl,hT.setCell (.inl (atZ _)) _,(atC _ _ _ _ (auN (atG _))).trans hA,by have:=cR (o:=1) hB (.int .u64 (iZ y 8:Nat));simpa[Hv,hwy]using this⟩
   case measure=>simp[intOf];omega
   case rel=>exact⟨3,by omega,rfl,hT.setCell (.inl (atZ _)) _,(atC _ _ _ _ (auN (atG _))).trans hA,by have:=cR (o:=2) hB (.int .u64 (iZ y 8:Nat));simpa[Hv,hwy]using this⟩
   case measure=>simp[intOf];omega
  ·obtain rfl:k=ns.length:=by omega
   rw[UM]at b0 b1 b2;obtain⟨t,ht⟩: ∃t,t=gC ns:=⟨_,rfl⟩;rw[←ht]at b0 b1 b2;obtain⟨x,y,z⟩:=t;dsimp only at b0 b1 b2;go_wp2;have hr:=cR (o:=2) (cR (o:=1) (cR (o:=0) hA (.int .u64 (x:Nat))) (.int .u64 (y:Nat))) (.int .u64 (z:Nat));refine atg (au5 rfl _ _ w.heap.size 116 _ _ _ rfl hr Tryz.underlying116 rfl ar) rfl ?_;exact⟨by rw[←ht];rfl,((hT.setCell (.inl (agl _)) _).setCell (.inl (agl _)) _).setCell (.inl (agl _)) _⟩
end Go.Proofs.YtkdljbnllgpfhaaGreat
end
section
namespace Go.Proofs.YtkdljbnllgpfhaaGreat
open Go Go.RowKit Go.Upr
def jY(a:qI):List ByteArray:=a.ts.map (·.t)
theorem GF{a:qI}{k:Nat}{y:Tm}(hy:a.ts[k]? =some y):(a.ts.take (k+1)).map (·.t)=(a.ts.take k).map (·.t)++ [y.t]:=by
 rw[at8,hy,atW];rfl
theorem PN(u v w a b c:aad):((#[u,v,w].setIfInBounds 0 a).setIfInBounds 1 b).setIfInBounds 2 c= #[a,b,c]:=rfl
theorem aj1{h:Hp}{w:aly}(hw:h.In w){x:ByteArray}{ad:Option alA}{l c:Nat}{a:qI}(ha:kQ h [.string x,.slice ad l c] a)(hn:a.ts.length≤3):
  asP Tryz.prog 142 #[.agg #[.string x,.slice ad l c]] w λe w'=>e= .returned (br (gC (jY a)))∧af (λ_=>False) w w':=by
 obtain⟨v,hv,iu⟩:=ha;obtain⟨rfl,rfl⟩:x=a.n∧ .slice ad l c=v:=by simpa using hv
 obtain⟨lu,cap',hv2,hat⟩:=iu.at hw;obtain⟨rfl,rfl,rfl⟩:ad=lu∧l=a.ts.length∧c=cap':=by simpa using hv2
 clear hv2 hv;have bM:=((af.refl (λ_=>False) w).alloc (.cells #[.string a.n,.slice ad a.ts.length c] 233)).alloc (.cells #[.int .u64 0,.int .u64 0,.int .u64 0] 116);have lr:aw ((w.alloc (.cells #[.string a.n,.slice ad a.ts.length c] 233)).alloc (.cells #[.int .u64 0,.int .u64 0,.int .u64 0] 116)) (w.heap.size+2) 9 1 gX h (.slice none 0 0) ((a.ts.take 0).map (·.t)):= .nil (hw.turn bM (λ_ _ _ h=>h));go_enter Tryz.func142,Tryz.ntmps142;go_wp2
 go_loopw [3,9] (λv i wr=>∃ (k:Nat),k≤a.ts.length∧i= .int .i64 k∧af (λ_=>False) w wr∧wr.heap[w.heap.size+1]? =some (.cells #[.int .u64 0,.int .u64 0,.int .u64 0] 116)∧aw wr (w.heap.size+2) 9 1 gX h v ((a.ts.take k).map (·.t))) (λ_ i _=>a.ts.length-(intOf i).toNat)
 case atStart=>exact⟨0,arQ _,rfl,bM,aR _ _ _,lr⟩
 case round=>
  clear lr;obtain⟨k,hk,rfl,hT,hA,hm⟩:=hrel;have hsz:=atm hA;by_cases hlt:k<a.ts.length
  ·obtain⟨y,hy⟩: ∃y,a.ts[k]? =some y:=⟨_,arn hlt⟩;obtain⟨g,o,cc,rfl,bW,rfl,ag⟩:=hat k y hy;have e0:=hT.cell (ag 0 aI) id;have e1:=hT.cell (ag 1 aI) id;simp only[at6,←at7]at e0 e1;have HS:at3 ((a.ts.take (k+1)).map (·.t)=(a.ts.take k).map (·.t)++ [y.t]):=GF hy;have jy:((a.ts.take k).map (·.t)).length≤3:=by rw[auB,as1];omega
   clear hy;obtain⟨f,hf⟩: ∃f,f=(a.ts.take k).map (·.t):=⟨_,rfl⟩;rw[←hf]at hm jy;have HF:at3 (f=(a.ts.take k).map (·.t)):=hf;clear hf;have o0:=hm.turn ((af.refl (λ_=>False) wr).alloc (.cells #[.string y.t,.bool y.v] 331)) (λ_ _ h=>h) (λ_ _ _ h=>h);go_wp2_with (at_builtin;refine di D9 rfl (.tmp 13) (.tmp 16) rfl o0 rfl y.t #[.string y.t] rfl rfl (by simp[atv]) rfl bz aj aj lq ?_;intro g4 lK w6 gQ bH);go_roundw
   case rel=>exact⟨k+1,by omega,by go_num,(hT.alloc _).bL bH (λb hb=> .inl (by have:=(o0.own b hb).1;omega)),(bH.kept ((atn _ _ _ hsz).trans hA) (λh=>by have:=(o0.own _ h).1;omega)),by rw[HS.out,←HF.out];exact gQ⟩
   case measure=>simp[intOf];omega
  ·have iQ:(a.ts.take k).map (·.t)=jY a:=by rw[at4 aj];rfl
   have hlen:(jY a).length≤3:=by unfold jY;rw[auB];exact hn
   rw[iQ]at hm;obtain⟨ns,AK⟩: ∃ns,ns=jY a:=⟨_,rfl⟩;rw[←AK]at hm hlen;obtain⟨va,vc,rfl⟩:=hm.shape;obtain⟨k',d1,-,-,d4⟩:=hm.done λk' hk c x h=>h;have hc:=c50 d1 d4 hlen;obtain⟨t,ht⟩: ∃t,t=gC ns:=⟨_,rfl⟩;rw[←ht]at hc;obtain⟨p,q,r⟩:=t;have hc2:asP Tryz.prog 50 #[.slice va ns.length vc] wr λe w'=>e= .returned (.agg #[.int .u64 p,.int .u64 q,.int .u64 r])∧af (λ_=>False) wr w':=hc;have HN:at3 (ns=jY a):=AK;have HT:at3 ((p,q,r)=gC ns):=ht;clear hc hat iu hm d1 d4 AK ht;go_wp2_with (go_at_call 50;refine hc2.mono ?_;rintro e w5 ⟨rfl,bA⟩;have Bo:=bA.kept hA id;obtain⟨_,_,_,af0,af1,af2⟩:=bI Bo);have hr:=cR (o:=2) (cR (o:=1) (cR (o:=0) Bo (.int .u64 (p:Nat))) (.int .u64 (q:Nat))) (.int .u64 (r:Nat));rw[PN]at hr;refine atg (au5 rfl _ _ (w.heap.size+1) 116 _ _ _ rfl hr Tryz.underlying116 rfl ar) rfl ?_;have h1:w.heap.size≤w.heap.size+1:=atZ _;refine⟨by rw[←HN.out,←HT.out];rfl,?_⟩;exact(((hT.trans bA).setCell (p:=⟨w.heap.size+1,0,none⟩) (.inl h1) _).setCell (p:=⟨w.heap.size+1,1,none⟩) (.inl h1) _).setCell (p:=⟨w.heap.size+1,2,none⟩) (.inl h1) _
end Go.Proofs.YtkdljbnllgpfhaaGreat
end
section
namespace Go.Proofs.YtkdljbnllgpfhaaGreat
open Go Go.RowKit Go.Upr
def C3(f:List (ByteArray×Int))(n:ByteArray):Int:=(au f n).getD 0
theorem Gl(f:List (ByteArray×Int))(n:ByteArray):(au f n).elim (Value.int .i64 0) Ai= .int .i64 (C3 f n):=by
 unfold C3;cases au f n<;>rfl
end Go.Proofs.YtkdljbnllgpfhaaGreat
end
section
namespace Go.Upr
open Go Go.RowKit
open Go.ChangeMaps (setBlock)
variable{P:alu}{kt et t:acs}{κ ν:Type}{key:κ→aad}{ok:κ→Prop}{enc:ν→aad}
def cN(w:aly)(ok:κ→Prop)(key:κ→aad)(enc:ν→aad)(b it:Nat)(f came:List (κ×ν)):Prop:=
 ∃es clock since,∃ce:List alz,w.heap[b]? =some (.map es clock)∧Holds ok key enc es clock f∧w.heap[it]? =some (.mapIter (some b) since (ce.map (·.born)).toArray clock)∧
  (∀x∈es.toList,x.born<since)∧since≤clock∧(∀e∈ce,e∈es.toList)∧(ce.map (·.born)).Nodup∧ce.map (λe=>(e.key,e.val))=came.map (λp=>(key p.1,enc p.2))∧(∀p∈came,p∈f)∧(came.map aug).Nodup
theorem cN.turn{w w':aly}{b it:Nat}{f came:List (κ×ν)}{D:Nat→Prop}(h:cN w ok key enc b it f came)(ht:af D w w')(hb: ¬D b)(hi: ¬D it):cN w' ok key enc b it f came:=by
 obtain⟨es,clock,since,ce,h1,h2,h3,h4⟩:=h;exact⟨es,clock,since,ce,ht.kept h1 hb,h2,ht.kept h3 hi,h4⟩
theorem cN.map{w:aly}{b it:Nat}{f came:List (κ×ν)}(h:cN w ok key enc b it f came):av w ok key enc b f:=by
 obtain⟨es,clock,since,ce,h1,h2,_⟩:=h;exact⟨es,clock,h1,h2⟩
theorem I9{α:Type}[DecidableEq α]: ∀ {l m:List α},l.Nodup→(∀x∈l,x∈m)→l.length≤m.length
 | [],_,_,_=>arQ _
 |x::l,m,h,hs=>by
  have hx:=hs x (ao3 ..);have h1:=I9 (l:=l) (m:=m.erase x) (auJ.1 h).2 λy hy=>(List.mem_erase_of_ne λe=>(auJ.1 h).1 (by rw[←e];exact hy)).2 (hs y (ao0 _ hy));rw[List.length_erase_of_mem hx]at h1;have:=List.length_pos_of_mem hx;rw[as2];omega
theorem cN.le{w:aly}{b it:Nat}{f came:List (κ×ν)}(h:cN w ok key enc b it f came):came.length≤f.length:=by
 obtain⟨es,clock,since,ce,h1,h2,h3,h4,h5,h6,h7,h8,h9,h10⟩:=h;have e1:ce.length=came.length:=by simpa using congrArg List.length h8
 have e2:=I9 h7 (m:=es.toList.map (·.born)) λx hx=>by
  obtain⟨e,he,rfl⟩:=amk.1 hx;exact amk.2 ⟨e,h6 e he,rfl⟩
 have:=h2.size;simp at e2;omega
theorem Holds.pair{es:Array alz}{clock:Nat}{f:List (κ×ν)}(h:Holds ok key enc es clock f){e:alz}(he:e∈es.toList): ∃p∈f,e.key=key p.1∧e.val=enc p.2:=by
 obtain⟨j,hj,rfl⟩:=asW he;have h1:=h.at j;rw[arn hj]at h1;cases hf:f[j]? with
 |none=>rw[hf]at h1;cases h1
 |some p=>
  rw[hf]at h1;have h2:=alN h1;exact⟨p,ann hf,(auD.1 h2).1,(auD.1 h2).2⟩
section
variable{ops:Array apy}{rest:List apy}{o:apy}{a:Act}{Q:Exit→Act→aly→Prop}{w:aly}{b:Nat}{f:List (κ×ν)}
theorem fZ(ht:P.underlying t=some (.map kt et))(hg:apY o (yielded ops a.tmps)=true)(m:ang)(hop:o.op= .range t m)(hm:a.eval m= .map (some b))(H:av w ok key enc b f)
  (hk: ∀w',af (λ_=>False) w w'→w'.heap.size=w.heap.size+1→cN w' ok key enc b w.heap.size f []→wpList P ops Q rest (a.put o.dst (.pointer (some ⟨w.heap.size,0,none⟩))) w'):wpList P ops Q (o::rest) a w:=by
 refine wpList_want hg λK' hK'=>?_;have hlt:=H.lt;obtain⟨es,clock,h1,h2⟩:=H;unfold atJ;simp[execOp,hop,hm,run_range_map w t kt et b es clock ht h1,aua];refine hK' _ _ (hk _ ((af.refl _ w).alloc _) bz ⟨es,clock,clock,[],(atn w _ b hlt).trans h1,h2,atp w _,h2.before,agl _,by simp,by simp,rfl,by simp,by simp⟩)
theorem born_inj{l:List alz}(h:(l.map (·.born)).Nodup){d e:alz}(hd:d∈l)(he:e∈l)(hb:d.born=e.born):d=e:=by
 obtain⟨i,hi,rfl⟩:=asW hd;obtain⟨j,hj,rfl⟩:=asW he;have h1:(l.map (·.born))[i]'(by rw[auB];exact hi)=(l.map (·.born))[j]'(by rw[auB];exact hj):=by rw[auC,auC];exact hb
 obtain rfl:=(auG h).1 h1;rfl
theorem O1{κ ν:Type}{l:List (κ×ν)}(h:(l.map aug).Nodup){d e:κ×ν}(hd:d∈l)(he:e∈l)(hb:d.1=e.1):d=e:=by
 obtain⟨i,hi,rfl⟩:=asW hd;obtain⟨j,hj,rfl⟩:=asW he;have h1:(l.map aug)[i]'(by rw[auB];exact hi)=(l.map aug)[j]'(by rw[auB];exact hj):=by rw[auC,auC];exact hb
 obtain rfl:=(auG h).1 h1;rfl
theorem Z0{ce:List alz}{came:List (κ×ν)}(h:ce.map (λe=>(e.key,e.val))=came.map (λp=>(key p.1,enc p.2))){e:alz}(he:e∈ce): ∃q∈came,e.key=key q.1∧e.val=enc q.2:=by
 have h1:(e.key,e.val)∈came.map (λp=>(key p.1,enc p.2)):=h▸amk.2 ⟨e,he,rfl⟩;obtain⟨q,hq,h2⟩:=amk.1 h1;exact⟨q,hq,(auD.1 h2).1.symm,(auD.1 h2).2.symm⟩
theorem ag1{ce:List alz}{came:List (κ×ν)}(h:ce.map (λe=>(e.key,e.val))=came.map (λp=>(key p.1,enc p.2))){q:κ×ν}(hq:q∈came): ∃e∈ce,e.key=key q.1:=by
 have h1:(key q.1,enc q.2)∈ce.map (λe=>(e.key,e.val)):=h▸amk.2 ⟨q,hq,rfl⟩;obtain⟨e,he,h2⟩:=amk.1 h1;exact⟨e,he,(auD.1 h2).1⟩
theorem iy(K:fG P kt key ok)(hg:apY o (yielded ops a.tmps)=true)(m:ang)(hop:o.op= .next m false){it:Nat}(hm:a.eval m= .pointer (some ⟨it,0,none⟩)){came:List (κ×ν)}(H:cN w ok key enc b it f came)(hbi:b≠it)
  (hDone:(∀p∈f,p∈came)→wpList P ops Q rest (a.put o.dst (.tuple #[.bool false])) w)
  (hMore: ∀p w',p∈f→p∉came→came.length<f.length→af (·=it) w w'→cN w' ok key enc b it f (came++ [p])→wpList P ops Q rest (a.put o.dst (.tuple #[.bool true,key p.1,enc p.2])) w'):wpList P ops Q (o::rest) a w:=by
 refine wpList_want hg λK' hK'=>?_;have hle:=λ{w':aly} {c:List (κ×ν)} (h:cN w' ok key enc b it f c)=>h.le;obtain⟨es,clock,since,ce,h1,h2,h3,h4,h5,h6,h7,h8,h9,h10⟩:=H;unfold atJ;rcases run_next_at (P:=P) w o.type it b since clock _ es clock h3 h1 h4 h5 with⟨h0,hrun⟩|⟨e,he,w1,ik,hrun⟩
 ·simp[execOp,hop,hm,hrun,aua];refine hK' _ _ (hDone λp hp=>?_);obtain⟨j,hj,rfl⟩:=asW hp;have e1:=h2.at j;rw[arn hj]at e1;cases hx:es.toList[j]? with
  |none=>rw[hx]at e1;cases e1
  |some e=>
   rw[hx]at e1;have e2:=auD.1 (alN e1);have hee:=ann hx;have hs:(ce.map (·.born)).toArray.contains e.born=true:=by
    cases p7:(ce.map (·.born)).toArray.contains e.born with
    |true=>rfl
    |false=>
     have:e∈(leftOf es (ce.map (·.born)).toArray).toList:=by
      unfold leftOf;simp only[auO,auV];exact⟨hee,by rw[p7];rfl⟩
     have h00:=Array.eq_empty_of_size_eq_zero h0;rw[h00]at this;cases this
   have hs2:e.born∈ce.map (·.born):=by simpa using hs
   obtain⟨d,hd,hdb⟩:=amk.1 hs2;obtain rfl:=born_inj h2.stamps (h6 d hd) hee hdb;obtain⟨q,hq,hq1,_⟩:=Z0 h8 hd;have hqf:=h9 q hq;have e3:q.1=(f[j]).1:=K.inj _ _ (h2.good q hqf) (h2.good _ hp) (hq1.symm.trans e2.1);rw[←O1 h2.once hqf hp e3];exact hq
 ·have NB:e∈es.toList∧e.born∉ce.map (·.born):=by
   unfold leftOf at he;simp only[auO,auV]at he;refine⟨he.1,λz6=>?_⟩;have:(ce.map (·.born)).toArray.contains e.born=true:=by simpa using z6
   rw[this]at he;simp at he
  obtain⟨p,hp,zY,zX⟩:=h2.pair NB.1;have uN: ∀q∈came,q.1≠p.1:=λq hq hqe=>by
   obtain⟨d,hd,WR⟩:=ag1 h8 hq;obtain⟨i,hi,hdi⟩:=asW (h6 d hd);obtain⟨j,hj,hej⟩:=asW NB.1;have a1:=h2.at i;have a2:=h2.at j;rw[arn hi,hdi]at a1;rw[arn hj,hej]at a2;have vy:i<f.length:=by rw[←h2.size];simpa using hi
   have DR:j<f.length:=by rw[←h2.size];simpa using hj
   rw[arn vy]at a1;rw[arn DR]at a2;have b1:d.key=key (f[i]).1:=(auD.1 (alN a1)).1;have b2:e.key=key (f[j]).1:=(auD.1 (alN a2)).1;have b3:(f[i]).1=(f[j]).1:=K.inj _ _ (h2.good _ (auR vy)) (h2.good _ (auR DR)) (by rw[←b1,←b2,WR,zY,hqe]);have b4:(f.map aug)[i]'(by rw[auB];exact vy)=(f.map aug)[j]'(by rw[auB];exact DR):=by rw[auC,auC];exact b3
   obtain rfl:=(auG h2.once).1 b4;exact NB.2 (amk.2 ⟨d,hd,by rw[←hdi,←hej]⟩)
  have hR:cN (setBlock w1 it (.mapIter (some b) since ((ce.map (·.born)).toArray.push e.born) clock)) ok key enc b it f (came++ [p]):=by
   have adC:w1.heap=w.heap:=by rcases ik with rfl|rfl<;>rfl
   refine⟨es,clock,since,ce++ [e],?_,h2,?_,h4,h5,?_,?_,?_,?_,?_⟩
   ·have:=(eT w1 it (.mapIter (some b) since ((ce.map (·.born)).toArray.push e.born) clock)).kept (adC▸h1) hbi;exact this
   ·have:=cM (o:= .mapIter (some b) since ((ce.map (·.born)).toArray.push e.born) clock) (adC▸h3:w1.heap[it]? =_);rw[this];simp
   ·intro d hd;rcases aqo.1 hd with hd|hd
    ·exact h6 d hd
    ·rw[atQ.1 hd];exact NB.1
   ·rw[atW,aus];exact⟨h7,by simp,λx hx y hy Kz=>NB.2 (by simp at hy;rw[←hy,←Kz];exact hx)⟩
   ·rw[atW,atW,h8];simp[zY,zX]
   ·intro q hq;rcases aqo.1 hq with hq|hq
    ·exact h9 q hq
    ·rw[atQ.1 hq];exact hp
   ·rw[atW,aus];refine⟨h10,by simp,λx hx y hy Kz=>?_⟩;obtain⟨q,hq,rfl⟩:=amk.1 hx;exact uN q hq (by simp at hy;rw[Kz,hy])
  have hlen:=hle hR;have e9:(ce.map (·.born)).toArray.push e.born=(ce.map (·.born)++ [e.born]).toArray:=by simp
  rw[e9]at hR;rw[ap2,aqd]at hlen;simp[execOp,hop,hm,hrun,aua];rw[zY,zX];refine hK' _ _ (hMore p _ hp (λh=>uN p h rfl) aj ?_ hR);rcases ik with rfl|rfl
  ·exact eT _ _ _
  ·exact((af.refl _ w).drew).trans (eT _ _ _)
theorem fI(hg:apY o (yielded ops a.tmps)=true)(m:ang)(hop:o.op= .entry m){it:Nat}(hm:a.eval m= .pointer (some ⟨it,0,none⟩)){came:List (κ×ν)}{p:κ×ν}(H:cN w ok key enc b it f (came++ [p]))
  (hk:wpList P ops Q rest (a.put o.dst (.tuple #[key p.1,enc p.2])) w):wpList P ops Q (o::rest) a w:=by
 refine wpList_want hg λK' hK'=>?_;obtain⟨es,clock,since,ce,h1,h2,h3,h4,h5,h6,h7,h8,h9,h10⟩:=H;rw[atW,List.map_eq_append_iff]at h8;obtain⟨c1,c2,rfl,h8,h11⟩:=h8;obtain⟨e,rfl,he⟩: ∃e,c2= [e]∧(e.key,e.val)=(key p.1,enc p.2):=by
  cases c2 with
  |nil=>cases h11
  |cons e l=>
   rw[amY,amY,amr]at h11;have ky:l= []:=by simpa using h11.2
   exact⟨e,by rw[ky],h11.1⟩
 have e9:((c1++ [e]).map (·.born)).toArray=(c1.map (·.born)).toArray.push e.born:=by simp
 rw[e9]at h3;have hrun:=run_entry_at (P:=P) w it b since _ es clock e h3 h1 (h6 e bz) h2.stamps;have ek:e.key=key p.1:=(auD.1 he).1;have ev:e.val=enc p.2:=(auD.1 he).2;unfold atJ;simp[execOp,hop,hm,hrun,aua];rw[ek,ev];exact hK' _ _ hk
end
end Go.Upr
end
section
namespace Go.Upr
open Go Go.RowKit
variable{κ ν:Type}{key:κ→aad}{ok:κ→Prop}{enc:ν→aad}
theorem cN.sub{w:aly}{b it:Nat}{f came:List (κ×ν)}(h:cN w ok key enc b it f came):(∀p∈came,p∈f)∧(came.map aug).Nodup∧∀p∈came,ok p.1:=by
 obtain⟨es,clock,since,ce,h1,h2,h3,h4,h5,h6,h7,h8,h9,h10⟩:=h;exact⟨h9,h10,λp hp=>h2.good p (h9 p hp)⟩
end Go.Upr
namespace Go.Proofs.YtkdljbnllgpfhaaGreat
open Go Go.RowKit Go.Upr
def Ob(F:ByteArray→List aS)(p:ByteArray× (Nat×Bool)):Nat:=if p.2.2 then 0 else(F p.1).length
def qp(F:ByteArray→List aS)(l:xU):Nat:=(l.map (Ob F)).sum
theorem Js{F:ByteArray→List aS}{B:Nat}(hB: ∀n,(F n).length≤B)(l:xU):qp F l≤l.length*B:=by
 unfold qp
 induction l with
 |nil=>simp
 |cons p l ih=>
  have h1:Ob F p≤B:=by unfold Ob;split;exact arQ _;exact hB _
  rw[amY,auH,as2,Nat.succ_mul];omega
theorem CS(F:ByteArray→List aS)(l:xU)(p:ByteArray× (Nat×Bool)):qp F (l++ [p])=qp F l+Ob F p:=by simp[qp]
theorem c42{w:aly}{eb nb sb:Nat}{z:aad}{f:xU}{bs:List (ByteArray×Nat)}{F:ByteArray→List aS}(hE:w.heap[eb]? =some (.cells #[.map (some nb),.map (some sb),z] 102))(hN:av w bZ at5 Kg nb f)(hS:aq w sb bs F)
  (hall: ∀p∈f,(au bs p.1).isSome=true) (hf:f.length≤1048576) (hB: ∀n,(F n).length≤1048576):
  asP Tryz.prog 42 #[.pointer (some ⟨eb,0,none⟩)] w λe w'=>∃l:xU,(∀p∈f,p∈l)∧(∀p∈l,p∈f)∧(l.map aug).Nodup∧e= .returned (.int .i64 (qp F l))∧af (λ_=>False) w w':=by
 have NB:=atm hE;obtain⟨e0,e1,e2,_,_,_⟩:=bI hE;go_enter Tryz.func42,Tryz.ntmps42;go_wp2_with (at_range;refine fZ Tryz.underlying97 rfl (.tmp 9) rfl rfl hN ?_;intro w1 jh hz1 uP);go_frame
 go_loopg [3] f.length (λgk v wr=>∃came:xU,came.length+gk=f.length∧v= .int .i64 (qp F came)∧af (λ_=>False) w wr∧cN wr bZ at5 Kg nb w.heap.size f came)
 case atStart=>exact⟨[],by simp,rfl,jh,uP⟩
 case round=>
  clear uP;obtain⟨came,bW,rfl,hT,hR⟩:=hrel;go_wp2_with (at_next;refine iy cI rfl (.tmp 10) rfl rfl hR (by have:=hN.lt;omega) ?_ ?_)
  ·intro hd;have mf: ∀p∈f,p∈came:=by
    rintro⟨a,n,d⟩ hp;cases d
    ·exact(hd a n).1 hp
    ·exact(hd a n).2 hp
   clear hd;go_wp2;go_ret;exact⟨came,mf,hR.sub.1,hR.sub.2.1,rfl,hT⟩
  ·intro a n;refine⟨?_,?_⟩
   ·intro w' hp uN hlt aF iG;obtain⟨m,rfl⟩: ∃m,gk=m+1:=⟨gk- 1,by omega⟩;have ha:bZ a:=iG.sub.2.2 (a,n,false) bz;obtain⟨rb,Kk⟩:=Option.isSome_iff_exists.1 (hall _ hp);dsimp only at Kk;have HA:at3 (qp F (came++ [(a,n,false)])=qp F came+(F a).length):=by show _=_;rw[CS];rfl
    have hle:=Js hB came;have hFa:=hB a;have dK:=hT.bL aF λb (h:b=w.heap.size)=> .inl aj;have eN:=dK.alloc (.cells #[.int .i64 n,.bool false] 107);have k0:=eN.cell e0 id;have k1:=eN.cell e1 id;have Bh:=hS.turn eN id λ_ _=>id;have Kp:=Bh.dy _ (cB Kk);have E3:came.length*1048576≤1048576*1048576:=Nat.mul_le_mul_right _ aj;dsimp only at Kp;have pZ:(aU (F a)).length=(F a).length:=by simp[aU]
    generalize qp F came=x at hle HA;have HL:at3 ((aU (F a)).length=(F a).length):=pZ;clear pZ;go_wp2_with (first|(refine fI rfl (.tmp 10) rfl rfl iG ?_)|(at_lookup;refine bu cI Tryz.underlying99 gy rfl (.tmp 23) (.tmp 24) rfl rfl (aD _) Bh.top.hp rfl ha (show _=Value.map (some rb) by rw[Kk];rfl) ?_)|(at_len;refine fQ Tryz.underlying123 rfl (.tmp 25) rfl rfl Kp ?_;rw[HL.out]))
    go_roundg m
    case measure=>exact atG m
    case rel=>exact⟨came++ [(a,n,false)],by simp;omega,by rw[HA.out];go_num,eN,iG.turn ((af.refl (λ_=>False) w').alloc _) id id⟩
   ·intro w' hp uN hlt aF iG;obtain⟨m,rfl⟩: ∃m,gk=m+1:=⟨gk- 1,by omega⟩;have HA:at3 (qp F (came++ [(a,n,true)])=qp F came):=by show _=_;rw[CS];rfl
    have dK:=hT.bL aF λb (h:b=w.heap.size)=> .inl aj;go_wp2_with (refine fI rfl (.tmp 10) rfl rfl iG ?_)
    go_roundg m
    case measure=>exact atG m
    case rel=>exact⟨came++ [(a,n,true)],by simp;omega,by rw[HA.out],dK.alloc _,iG.turn ((af.refl (λ_=>False) w').alloc _) id id⟩
end Go.Proofs.YtkdljbnllgpfhaaGreat
end
section
namespace Go.Proofs.YtkdljbnllgpfhaaGreat
open Go Go.RowKit Go.Upr
structure Cg where
 n:ByteArray
 t:aS
 gone:Bool
def Cg.cells(x:Cg):List Value:= [.string x.n,.int .u64 x.t.1,.int .u64 x.t.2.1,.int .u64 x.t.2.2,.bool x.gone]
def dH(_:Hp)(c:List aad)(x:Cg):Prop:=c=x.cells
def w_(x:Cg):Int:=if x.gone then-1 else 1
def rX(l:List Cg):Int:=(l.map w_).sum
theorem MU{l:List Cg}{k:Nat}{y:Cg}(hy:l[k]? =some y):rX (l.take (k+1))=rX (l.take k)+w_ y:=by
 unfold rX;rw[at8,hy,atW,auU];simp
theorem V1(l:List Cg):rX l≤l.length∧ -(l.length:Int)≤rX l:=by
 unfold rX
 induction l with
 |nil=>simp
 |cons x l ih=>
  have h1:w_ x= -1∨w_ x=1:=by unfold w_;split<;>simp
  rw[amY,auH,as2];omega
theorem c43{h:Hp}{w:aly}(hw:h.In w){ad:Option alA}{l c:Nat}{xs:List Cg}(hcs:h.list 5 dH (.slice ad l c) xs)(hn:xs.length≤1099511627776):
  asP Tryz.prog 43 #[.slice ad l c] w λe w'=>e= .returned (.int .i64 (rX xs))∧af (λ_=>False) w w':=by
 obtain⟨q7,q8,hv3,hat⟩:=hcs.at hw;obtain⟨rfl,rfl,rfl⟩:ad=q7∧l=xs.length∧c=q8:=by simpa using hv3
 clear hv3;go_enter Tryz.func43,Tryz.ntmps43;go_wp2
 go_loopw [3,8] (λv i wr=>∃ (k:Nat),k≤xs.length∧i= .int .i64 k∧v= .int .i64 (rX (xs.take k))∧af (λ_=>False) w wr) (λ_ i _=>xs.length-(intOf i).toNat)
 case atStart=>exact⟨0,arQ _,rfl,rfl,af.refl _ w⟩
 case round=>
  obtain⟨k,hk,rfl,rfl,hT⟩:=hrel;have o8:=V1 (xs.take k);have htl:(xs.take k).length≤xs.length:=by rw[as1];omega
  by_cases hlt:k<xs.length
  ·obtain⟨y,hy⟩: ∃y,xs[k]? =some y:=⟨_,arn hlt⟩;obtain⟨g,o,cc,rfl,bW,rfl,ag⟩:=hat k y hy;have e0:=hT.cell (ag 0 aI) id;have e1:=hT.cell (ag 1 aI) id;have e2:=hT.cell (ag 2 aI) id;have e3:=hT.cell (ag 3 aI) id;have e4:=hT.cell (ag 4 aI) id;simp only[at6,←at7]at e0 e1 e2 e3 e4;have HS:at3 (rX (xs.take (k+1))=rX (xs.take k)+w_ y):=MU hy;clear hy ag bW;generalize(xs.take k).length=len at o8 htl;generalize rX (xs.take k)=x at o8 HS;obtain⟨yn,⟨ya,yb,yc⟩,yg⟩:=y;cases yg
   ·have HG:at3 (w_ ⟨yn,(ya,yb,yc),false⟩=1):=rfl;dsimp only at e0 e1 e2 e3 e4;go_wp2;go_roundw
    case rel=>exact⟨k+1,by omega,by go_num,by rw[HS.out,HG.out],hT.alloc _⟩
    case measure=>simp[intOf];omega
   ·have HG:at3 (w_ ⟨yn,(ya,yb,yc),true⟩= -1):=rfl;dsimp only at e0 e1 e2 e3 e4;go_wp2;go_roundw
    case rel=>exact⟨k+1,by omega,by go_num,by rw[HS.out,HG.out];go_num,hT.alloc _⟩
    case measure=>simp[intOf];omega
  ·have iQ:xs.take k=xs:=at4 aj;rw[iQ];go_wp2;go_ret;exact⟨rfl,hT⟩
end Go.Proofs.YtkdljbnllgpfhaaGreat
end
section
namespace Go.Upr
open Go Go.RowKit Go.WideAt Go.ChangeMaps
section
variable{P:alu}{kt et t:acs}{κ ν:Type}{key:κ→aad}{ok:κ→Prop}{enc:ν→aad}[DecidableEq κ]
theorem EH{f:List (κ×ν)}{x:κ}(h: ∀p∈f,p.1≠x):Ds f x=f:=by
 unfold Ds;rw[List.filter_eq_self];intro p hp;simpa using h p hp
theorem ZX{f:List (κ×ν)}(h:(f.map aug).Nodup){j:Nat}{x:κ}{v:ν}(hj:f[j]? =some (x,v)):Ds f x=f.eraseIdx j:=by
 induction f generalizing j with
 |nil=>cases hj
 |cons p f ih=>
  rw[amY,auJ]at h;cases j with
  |zero=>
   obtain rfl:=alN hj;have h1:Ds f x=f:=EH λq hq e=>h.1 (amk.2 ⟨q,hq,e⟩);unfold Ds at h1⊢;rw[List.filter_cons_of_neg bz,h1];rfl
  |succ j=>
   have hm:(x,v)∈f:=ann (by simpa using hj);have hne: ¬p.1=x:=λe=>h.1 (e▸amk.2 ⟨_,hm,rfl⟩);have h1:=ih h.2 (by simpa using hj);unfold Ds at h1⊢;rw[List.filter_cons_of_pos (by simpa using hne),h1];rfl
theorem Holds.drop{es:Array alz}{clock:Nat}{f:List (κ×ν)}(K:fG P kt key ok)(h:Holds ok key enc es clock f)(w:aly){x:κ}(hx:ok x){b:Nat}(hb:w.heap[b]? =some (.map es clock))(ht:P.underlying t=some (.map kt et))(ty:acs)(s:acs):
  ∃es',(anE #[t,s] ty #[.map (some b),key x]).run P w= .ok (.tuple #[]) (setBlock w b (.map es' clock))∧Holds ok key enc es' clock (Ds f x):=by
 rcases h.search K w hx with⟨h3,h4,h5⟩|⟨j,e,u,h3,h6,h7,_,h4⟩
 ·refine⟨es,?_,by rw[EH h4];exact h⟩;simp[anE,auf ht,auc hb,K.check w _ x hx,h3,aul _ hb,aua,setBlock]
 ·have rS:j<es.toList.length:=(apT.1 h6).1;have Nz:j<es.size:=by simpa using rS
  have iX:(es.eraseIdxIfInBounds j).toList=es.toList.eraseIdx j:=by
   unfold Array.eraseIdxIfInBounds;rw[dif_pos Nz];simp
  have hd:=ZX h.once h4;refine⟨es.eraseIdxIfInBounds j,?_,?_,?_,?_,?_,?_⟩
  ·simp[anE,auf ht,auc hb,K.check w _ x hx,h3,aul _ hb,aua,setBlock]
  ·have hme: ∀ {α β:Type} (g:α→β) (l:List α) (i:Nat),(l.eraseIdx i).map g=(l.map g).eraseIdx i:=by
    intro α β g l
    induction l with
    |nil=>intro i;rfl
    |cons c l ih=>intro i;cases i with
     |zero=>rfl
     |succ i=>simp[List.eraseIdx,ih]
   rw[iX,hd,hme,hme,h.rows]
  ·intro p hp;rw[hd]at hp;exact h.good p ((auF _ _).subset hp)
  ·rw[hd];exact h.once.sublist ((auF _ _).map _)
  ·rw[iX];exact h.stamps.sublist ((auF _ _).map _)
  ·intro d mf;rw[iX]at mf;exact h.before d ((auF _ _).subset mf)
section
variable{ops:Array apy}{rest:List apy}{o:apy}{a:Act}{Q:Exit→Act→aly→Prop}{w:aly}{b:Nat}{f:List (κ×ν)}{x:κ}
theorem Eb(K:fG P kt key ok)(ht:P.underlying t=some (.map kt et))(hg:apY o (yielded ops a.tmps)=true)(m y:ang)(s:acs)(hop:o.op= .call {callee:= .builtin .delete,args:= #[m,y],argTypes:= #[t,s]})(hm:a.eval m= .map (some b))(H:av w ok key enc b f)
  (hy:a.eval y=key x) (hx:ok x) (hk: ∀w',af (·=b) w w'→av w' ok key enc b (Ds f x)→wpList P ops Q rest (a.put o.dst (.tuple #[])) w'):wpList P ops Q (o::rest) a w:=by
 refine wpList_want hg λK' hK'=>?_;obtain⟨es,clock,h1,h2⟩:=H;obtain⟨es',h3,h4⟩:=h2.drop K w hx h1 ht o.type s;unfold atJ;simp[execOp,hop,resolve,invoke,builtin,hm,hy,h3,aua];exact hK' _ _ (hk _ (eT w b _) ⟨es',clock,cM h1,h4⟩)
end
end
end Go.Upr
end
namespace Go.Upr
section
variable{κ ν:Type}[DecidableEq κ]
theorem fL{f:List (κ×ν)}{x:κ}:(au f x).isSome=true↔x∈f.map aug:=by
 unfold au;rw[Option.isSome_map,List.find?_isSome];constructor
 ·rintro⟨p,hp,he⟩;exact amk.2 ⟨p,hp,by simpa using he⟩
 ·intro h;obtain⟨p,hp,rfl⟩:=amk.1 h;exact⟨p,hp,by simp⟩
theorem l_{f:List (κ×ν)}{x:κ}:au f x=none↔x∉f.map aug:=by
 rw[←fL];cases au f x<;>simp
theorem ux{f:List (κ×ν)}(h:(f.map aug).Nodup){x:κ}{v:ν}:au f x=some v↔(x,v)∈f:=by
 constructor
 ·intro h1;unfold au at h1;rw[ant]at h1;obtain⟨p,hp,rfl⟩:=h1;have h2:p.1=x:=by simpa using auX hp
  subst h2;exact auL hp
 ·intro h1;obtain⟨j,hj,he⟩:=asW h1;exact Ck h (j:=j) (by rw[arn hj,he])
omit [DecidableEq κ] in
theorem uu{f:List (κ×ν)}(h:(f.map aug).Nodup):f.Nodup:=by
 unfold List.Nodup at h⊢;rw[List.pairwise_map]at h;exact h.imp λh e=>h (by rw[e])
theorem zM{α:Type}[DecidableEq α]{f g:List α}(hf:f.Nodup)(hg:g.Nodup)(h: ∀x,x∈f↔x∈g):f.Perm g:=by
 rw[List.perm_iff_count];intro a;rw[hf.count,hg.count];simp[h a]
theorem GJ[DecidableEq ν]{f g:List (κ×ν)}(hf:(f.map aug).Nodup)(hg:(g.map aug).Nodup)(h: ∀x,au f x=au g x):f.Perm g:=
 zM (uu hf) (uu hg) λp=>by
  obtain⟨x,v⟩:=p;rw[←ux hf,←ux hg,h]
theorem QG(f:List (κ×ν))(x:κ)(v:ν)(y:κ):y∈(dO f x v).map aug↔y=x∨y∈f.map aug:=by
 unfold dO;by_cases hx:(f.any λp=>decide (p.1=x))=true
 ·rw[if_pos hx];have h1:(f.map (λp=>if p.1=x then(x,v)else p)).map aug=f.map aug:=by
   rw[au0];apply auP;intro p _;simp only[auA];split
   ·rename_i h;exact h.symm
   ·rfl
  rw[h1];constructor
  ·exact .inr
  ·rintro(rfl|h)
   ·obtain⟨p,hp,he⟩:=aue.1 hx;exact amk.2 ⟨p,hp,by simpa using he⟩
   ·exact h
 ·rw[if_neg hx,atW,aqo];simp[or_comm]
theorem Mn{f:List (κ×ν)}(h:(f.map aug).Nodup)(x:κ)(v:ν):((dO f x v).map aug).Nodup:=by
 unfold dO;by_cases hx:(f.any λp=>decide (p.1=x))=true
 ·rw[if_pos hx];have h1:(f.map (λp=>if p.1=x then(x,v)else p)).map aug=f.map aug:=by
   rw[au0];apply auP;intro p _;simp only[auA];split
   ·rename_i h;exact h.symm
   ·rfl
  rw[h1];exact h
 ·rw[if_neg hx,atW,aus];refine⟨h,by simp,λa ha b hb e=>hx ?_⟩;have hb':b=x:=by simpa using hb
  obtain⟨p,hp,rfl⟩:=amk.1 ha;exact aue.2 ⟨p,hp,by simp[e,hb']⟩
theorem yN(f:List (κ×ν))(x:κ)(v:ν)(y:κ):au (dO f x v) y=if y=x then some v else au f y:=by
 unfold dO;by_cases hx:(f.any λp=>decide (p.1=x))=true
 ·rw[if_pos hx];by_cases hy:y=x
  ·subst hy;rw[if_pos rfl]
   induction f with
   |nil=>simp at hx
   |cons p f ih=>
    by_cases hp:p.1=y
    ·simp[au,hp]
    ·rw[List.any_cons]at hx;simp only[hp,decide_false,Bool.false_or]at hx;have:=ih hx;unfold au at this⊢;rw[amY,if_neg hp,auE (by simpa using hp)];exact this
  ·rw[if_neg hy];clear hx
   induction f with
   |nil=>rfl
   |cons p f ih=>
    unfold au at ih⊢;rw[amY];by_cases hp:p.1=x
    ·rw[if_pos hp,auE (by simpa using λe=>hy e.symm),auE (by simpa using λe=>hy (e.symm.trans hp))];exact ih
    ·rw[if_neg hp];by_cases hpy:p.1=y
     ·rw[auM (by simpa using hpy),auM (by simpa using hpy)]
     ·rw[auE (by simpa using hpy),auE (by simpa using hpy)];exact ih
 ·rw[if_neg hx];unfold au;rw[List.find?_append];by_cases hy:y=x
  ·subst hy;rw[if_pos rfl];have h1:(f.find? λp=>decide (p.1=y))=none:=by
    rw[aur];intro p hp he;exact hx (aue.2 ⟨p,hp,he⟩)
   rw[h1];simp
  ·rw[if_neg hy];have h1:([(x,v)].find? λp=>decide (p.1=y))=none:=by
    simp[Ne.symm hy]
   rw[h1,Option.or_none]
def mF(m:Nat)(f:List (κ×Nat))(p:κ×Nat):List (κ×Nat):=dO f p.1 (((au f p.1).getD 0+p.2) % m)
def nv(m:Nat)(l:List (κ×Nat)):List (κ×Nat):=l.foldl (mF m) []
theorem Rx(m:Nat)(l:List (κ×Nat))(p:κ×Nat):nv m (l++ [p])=mF m (nv m l) p:=by
 unfold nv;rw[at9];rfl
theorem Nh(m:Nat){f:List (κ×Nat)}(h:(f.map aug).Nodup)(p:κ×Nat):((mF m f p).map aug).Nodup:=Mn h _ _
theorem yV(m:Nat)(l:List (κ×Nat)): ∀ {f:List (κ×Nat)},(f.map aug).Nodup→((l.foldl (mF m) f).map aug).Nodup:=by
 induction l with
 |nil=>exact λh=>h
 |cons p l ih=>exact λh=>ih (Nh m h p)
theorem CU(m:Nat)(l:List (κ×Nat)):((nv m l).map aug).Nodup:=yV m l List.nodup_nil
theorem qD(m:Nat)(f:List (κ×Nat))(p:κ×Nat)(y:κ):au (mF m f p) y=if y=p.1 then some (((au f y).getD 0+p.2) % m)else au f y:=by
 unfold mF;rw[yN];split
 ·rename_i h;rw[h]
 ·rfl
theorem Az(m:Nat){l k:List (κ×Nat)}(h:l.Perm k): ∀f g:List (κ×Nat),(∀y,au f y=au g y)→∀y,au (l.foldl (mF m) f) y=au (k.foldl (mF m) g) y:=by
 induction h with
 |nil=>exact λ_ _ h=>h
 |cons p _ ih=>
  intro f g h;refine ih _ _ λy=>?_;rw[qD,qD,h]
 |swap p q l=>
  intro f g h;have h1: ∀y,au (mF m (mF m f q) p) y=au (mF m (mF m g p) q) y:=by
   intro y;simp only[qD,h];by_cases h1:y=p.1
   ·by_cases h2:y=q.1
    ·simp only[if_pos h1,if_pos h2,Option.getD_some,Nat.mod_add_mod];rw[Nat.add_right_comm]
    ·simp only[if_pos h1,if_neg h2]
   ·by_cases h2:y=q.1
    ·simp only[if_neg h1,if_pos h2]
    ·simp only[if_neg h1,if_neg h2]
  have h2: ∀ (l:List (κ×Nat)) (f g:List (κ×Nat)),(∀y,au f y=au g y)→∀y,au (l.foldl (mF m) f) y=au (l.foldl (mF m) g) y:=by
   intro l
   induction l with
   |nil=>exact λ_ _ h=>h
   |cons p l ih=>
    intro f g h;refine ih _ _ λy=>?_;rw[qD,qD,h]
  exact h2 l _ _ h1
 |trans _ _ ih1 ih2=>exact λf g h y=>(ih1 f f (λ_=>rfl) y).trans (ih2 f g h y)
theorem ER(m:Nat){l k:List (κ×Nat)}(h:l.Perm k):(nv m l).Perm (nv m k):=
 GJ (CU m l) (CU m k) (Az m h [] [] λ_=>rfl)
theorem Z9{m:Nat}(hm:0<m){f:List (κ×Nat)}(h: ∀p∈f,p.2<m)(q:κ×Nat): ∀p∈mF m f q,p.2<m:=by
 intro p hp;unfold mF dO at hp;split at hp
 ·obtain⟨r,hr,rfl⟩:=amk.1 hp;split
  ·exact au6 _ hm
  ·exact h r hr
 ·rcases aqo.1 hp with hp|hp
  ·exact h p hp
  ·rw[atQ.1 hp];exact au6 _ hm
theorem Ry(m:Nat)(l:List (κ×Nat))(y:κ):y∈(nv m l).map aug↔y∈l.map aug:=by
 have h1: ∀ (l:List (κ×Nat)) (f:List (κ×Nat)),y∈(l.foldl (mF m) f).map aug↔y∈f.map aug∨y∈l.map aug:=by
  intro l
  induction l with
  |nil=>intro f;simp
  |cons q l ih=>
   intro f;rw[auW,ih,mF,QG,amY,ap9,or_assoc,or_left_comm]
 rw[nv,h1];simp
end
end Go.Upr
