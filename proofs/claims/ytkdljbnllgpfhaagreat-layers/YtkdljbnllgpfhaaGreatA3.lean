import Derived.Test.YtkdljbnllgpfhaaGreatA2
import Derived.DeepKeys5
import Derived.OrdersIn
import Derived.RangeFuncBound
import Derived.RangeFuncNested
import Derived.Shelf.Small.Bits
import Derived.Shelf.Small.Wraps
import Derived.Shelf.Strconv.Clone
import Derived.Shelf.Strings.OnBuilder
set_option maxRecDepth 100000
set_option maxHeartbeats 8000000
open Go renaming World->ag,Value->aq,Addr->bC,TypeId->bB,MapEntry->fZ,Program->bj,Code->eN,TypeDesc->zP,Operand->cL,Oper->bG,undef->aj,Act->bK,Exit->kh,YieldAt->Ec
open Option renaming none->fL
open Go.Addr renaming add->tF
open Go.Instr renaming sureAddr->xA,loadAt->xB,field->Di,yield->Dj
open Go.Builtin renaming delete_->xD,zeroCells->qd,lenOf->xE,firstCells->xF,append_->rZ
open Go.Region renaming wanted->cV
open Go.Value renaming int->rI,agg->Ra,oneCell'->eP,string->cr,formed->J9
open Go.Code renaming region->bH,seq->RG
open Go.IntKind renaming u64->se,min->RA,max->RB,signed->Kd,bits->Iy,wrap->RD,u16->zL
open Go.Obj renaming cells->Dm
open Prod renaming fst->bD,snd->js
open Go.Oper renaming wp->jO,upon->tD,uponIn->Kl
open Go.Shelf renaming Ren->mf
open Go.RowKit renaming Hid->ay
open ByteArray renaming empty->iJ
open List renaming range->iK
open Go.WideMaps renaming KeyLaw->Dp
open Go.Result renaming andThen->uX
open Go.Program renaming keyLits->AB
open Go.Proofs.Lays renaming n169->aeK,n156->aeL,n125->aeM,n122->aeN
open Go.Proofs.Builder renaming Extra->Rz
open Go.Lib renaming join->tU,pop8->vH
open Go.Proofs.LaysM renaming n316->aeO
open List.range renaming loop->Iz
open Go.BinOp renaming or->Ke,and->RF
open Go.Fence renaming wide->mU
namespace Go.Proofs
open Tryz
open Go.RowKit
abbrev sg:=@Option.isSome_iff_exists
abbrev J8:=@Go.deep_law_gate
abbrev Ka:=@Option.map_eq_none_iff
abbrev Kb:=@List.find?_eq_none
abbrev AD:=@Nat.mul_one
abbrev AE:=@List.getElem_inj
abbrev D6:=@List.filter_append
abbrev pK:=@List.length_filter_le
abbrev si:=@Go.results_cell_row
abbrev AG:=@List.getElem_map
abbrev qu:=@List.mem_filter
abbrev IA:=@Prod.ext_iff
abbrev Kf:=@List.getElem_mem
abbrev xm:=@List.eraseIdx_sublist
abbrev IB:=@List.foldl_cons
abbrev IC:=@List.getElem?_set_self
abbrev Kg:=@Go.run_loadVar_row
abbrev Kh:=@Nat.div_le_self
abbrev D7:=@Go.u16_and_nat
abbrev ID:=@Nat.or_lt_two_pow
abbrev AJ:=@Go.u16_or_nat
abbrev D8:=@List.getD_eq_getElem?_getD
abbrev IE:=@Nat.le_add_right
abbrev D9:=@Nat.mod_eq_of_lt
abbrev Ki:=@List.zip_eq_zipWith
abbrev Ea:=@List.take_zipWith
abbrev IG:=@Nat.add_mul
abbrev Kj:=@List.length_eq_zero_iff
abbrev Kk:=@List.mem_flatten
abbrev IH:=@List.flatten_cons
abbrev Eb:=@List.nil_append
abbrev uY:=@List.length_drop
abbrev II:=@List.getElem?_take_of_lt
abbrev IJ:=@Go.wpIn_wide
abbrev xn:=@Go.callsIn_wide
abbrev IK:=@Go.wpIn_mono
abbrev Km:=@Go.Oper.wpIn_mono
abbrev Kn:=@List.cons_append
variable{Q n:Type}{S:Array aq}{d4:Array fZ}{f0:Array bG}{v:fg}{c f3 r:ByteArray}{o:bk}{e:ai}{C:ai->List aq->n->Prop}{a8:List (List aq)}{e2:List fg}{d6 i:List ByteArray}{d:List bk}{e0:List fj}{g3 y:List Nat}{d1:List fZ}{D:List bG}{a9:List dW}{d2 f f6:List _}{d9 s:List n}{e7:fj}{a d5 e3 f1 g l x:Nat}{N:Nat->Prop}{K e4 e5:Option Nat}{d7 j:Option bC}{F:bT}{b b6:ag}{L d8 f7 f8 f9 k:aq}{X t:bB}{b4 g0:fZ}{a0:bj}{e6:eN}{H:bG}{b7:bK}{f2:bK->ag->Prop}{P:kh->bK->ag->Prop}{d3:Q->aq}{e8:dW}{M:n}{R:n->Prop}{a7:n->aq}
section
abbrev oX:Int->Value:=rI .i64
theorem rv(w:ag):(zeroValue 3).run Tryz.prog w=.ok (.int .i64 0) w:=ah
def nM(f:List (ByteArray×Int)):List fg->Option (List (ByteArray×Int))
 | []=>some f
 |a::l=>match aB f a.n with
  |some u=>if u=(a.2.length:Int)then nM (cK f a.n a.2.length) l else none
  |none=>nM (cK f a.n a.2.length) l
def mv:Nat->List (ByteArray×Int)->List bk->Int
 |_,_,[]=> -1
 |i,f,cl::cs=>match nM f (bt cl)with
  |none=>i
  |some a=>mv (i+1) a cs
theorem TR(C:e.In b)(a2:e.list 3 dg (.slice j a g) d)(_hn:d.length<=1099511627776)(a8:∀cl∈d,Small 1099511627776 cl):
  aH 128 #[.slice j a g] b λH b8=>H=.returned (.int .i64<|mv 0 [] d)∧au b b8:=by
 obtain⟨rfl,Y⟩:=a2.O C;have d9:= @iW Tryz.prog;go_enter func128,ntmps128;go_wp2;have U:aF _ aL cr oX b.1.size _:=aF.I
 go_loopw [13] (λl wr=>∃(k:Nat)(f:List<|ByteArray×Int),k<=d.length∧l=.int .i64 k∧au b wr∧aF wr aL cr oX b.1.size f∧mv k f (d.drop k)=mv 0 [] d) (λl _=>d.length-(intOf l).toNat)
 case atStart=>exact⟨0,[],aa,rfl,ae.al,U,rfl⟩
 case round=>
  obtain⟨k,f,d6,rfl,p,I,a7⟩:=hrel;have t:ay<|mv k f _=mv 0 _ _:=a7;by_cases N:k<d.length
  ·let⟨y,D⟩:∃y,d[k]?=some y:=⟨_,cy N⟩;obtain⟨d1,e2,cc,rfl,d3,K,a0⟩:=Y k y D;obtain⟨ax,c2,c1,c4,rfl⟩:=K.B;have E:=a8 y<|cA D;let⟨c8,c9,d0⟩:=p.ab a0 id;have R:ay<|d[k]?=some y:=D;go_wp2_with (go_at_call 132;refine(xS ((C.B p i3).B ((ae.T bE wr).I<|.cells #[y.1.n,.slice ax y.1.2.length c2,.slice c1 y.2.length c4] 236) i3) K<|aI E.1).mono ?_;rintro H w2 ⟨G,b3,c3,rfl,r,e1,a5,b1,A⟩;obtain⟨b5,b6,a9⟩:=A.I;obtain⟨rfl,rfl,rfl⟩:G=b5∧b3=(bt y).length∧c3=b6:=aV a9);obtain⟨b7,b4,b0,Z⟩:=A.U a5;obtain⟨rfl,rfl⟩:G=b7∧c3=b4:=aV b0
   have d7:(bt y).length<=1099511627776:=by have:=E.1;simp[bt];omega
   have V:=(I.B ae.al id).B r id;have e0:=r.4;have d8:=I.O;have d2:=r.dY id
   go_loopw [21] (λl Q=>∃(c:Nat)(h:List<|ByteArray×Int),c<=(bt y).length∧l=.int .i64 c∧ae (·=b.1.size) w2 Q∧aF Q aL cr oX b.1.size h∧nM h ((bt y).drop c)=nM f (bt y)) (λl _=>(bt y).length-(intOf l).toNat)
   case atStart=>exact⟨0,f,aa,rfl,.T _ _,V,rfl⟩
   case round=>
    have F:ay (mv k f (d.drop k)=match nM f (bt y)with|none=>(k:Int)|some h=>mv (k+1) h<|d.drop<|k+1):=by
     show _=_;rw[zJ N,(iw.1 R.out).2,mv]
    obtain⟨c,h,d5,rfl,q,J,X⟩:=hrel;have o:ay<|nM _ _=nM f _:=X;have L:=((p.I<|.cells _ _).B r).V q λS (e:S=b.1.size)=>.inl aa;by_cases M:c<(bt y).length
    ·obtain⟨z,s⟩:∃z,(bt y)[c]?=some z:=⟨_,cy M⟩;obtain⟨T,e3,c7,rfl,d4,W,a1⟩:=Z c z s;obtain⟨aK,c6,rfl⟩:=W.B;have b2:=E.2 z<|cA s;have n:aL z.n:=by have:=b2.2.1;show _<=maxLen;unfold maxLen;omega
     have a3: ¬T=b.1.size:=by
      obtain⟨e4,a6⟩:=A.T;obtain v|v:=b1.2 _ _ a6
      ·have:=C.O v;omega
      ·simp at v;omega
     obtain⟨e5,e6⟩:=q.cB a1 a3;have u:ay<|(bt y).drop c=z::(bt y).drop (c+1):=by
      show _=_;rw[zJ M,(iw.1 s).2]
     clear s;have m:=J.B ((ae.T bE wr).I<|.cells #[z.n,.slice aK z.2.length c6] 233) id;cases x:aB h z.n with
     |none=>
      have i:ay<|aB _ _=none:=x;go_wp2_with (first|(at_lookup;refine jo bZ underlying307 rv rfl (.tmp 26) (.tmp 28) rfl rfl (bU _) m.T rfl n i.out ?_)|(at_mapUpdate;refine hZ bZ underlying307 rfl (.tmp 41) (.tmp 43) (.tmp 46) rfl rfl m rfl n (z.2.length:Int) rfl ?_;intro b9 B w));go_roundw
      case rel=>exact⟨c+1,_,aa,ba,(q.I _).B B,w,by rw[<-o.out,u.out,nM,i.out]⟩
      case measure=>simp[intOf];omega
     |some P=>
      have i:ay<|aB h z.n=some P:=x;clear x;by_cases O:P=(z.2.length:Int)
      ·subst O;go_wp2_with (first|(at_lookup;refine gJ bZ underlying307 rv rfl (.tmp 26) (.tmp 28) rfl rfl (bU _) m.T rfl n i.out ?_)|(at_mapUpdate;refine hZ bZ underlying307 rfl (.tmp 41) (.tmp 43) (.tmp 46) rfl rfl m rfl n (z.2.length:Int) rfl ?_;intro b9 B w));go_roundw
       case rel=>exact⟨c+1,_,aa,ba,(q.I _).B B,w,by rw[<-o.out,u.out,nM,i.out];simp⟩
       case measure=>simp[intOf];omega
      ·go_wp2_with (at_lookup;refine gJ bZ underlying307 rv rfl (.tmp 26) (.tmp 28) rfl rfl (bU _) m.T rfl n i.out ?_);go_ret;exact⟨ny (by rw[<-t.out,F.out,<-o.out,u.out,nM,i.out];simp[O]),L.I _⟩
    ·have a4:(bt y).drop c= []:=xj aa;go_wp2;go_roundw
     case rel=>exact⟨k+1,h,aa,ba,L,J,by rw[<-t.out,F.out,<-o.out,a4,nM]⟩
     case measure=>simp[intOf];omega
  ·go_wp2;go_ret;refine⟨ny ?_,p⟩;rw[<-t.out,xj aa];rfl
theorem vU(x:ByteArray)(b c:Option bC)(l d a e)(w:ag):aH 133 #[.agg #[x,.slice b l d,.slice c a e]] w λe b=>e=.returned (.bool (decide<|a=0))∧au w b:=by
 by_cases h:a=0
 ·subst h;go_enter func133,ntmps133;go_wp2;go_ret;exact⟨rfl,ae.al⟩
 ·go_enter func133,ntmps133;go_wp2;go_ret;exact⟨iT (by grind),ae.al⟩
theorem ea(w:ag):(zeroValue 251).run Tryz.prog w=.ok (.agg #[]) w:=ah
def nR(cs:List bk):List (ByteArray×Unit):=cs.foldl (λf cl=>if cl.2.length=0 then f else cK f cl.1.n ()) []
theorem WR(b:d[a]?=some o):nR (d.take (a+1))=if o.2.length=0 then nR (d.take a)else cK (nR (d.take a)) o.1.n ():=by
 unfold nR;rw[eA,b,iZ];rfl
def nS(f:List (ByteArray×Unit)):Nat->List bk->Int
 |_,[]=> -1
 |i,cl::cs=>if(aB f cl.1.n).isSome∧cl.2.length=0 then i else nS f (i+1) cs
theorem TS(Z:e.In b)(U:e.list 3 dg (.slice j a g) d)(_hn:d.length<=1099511627776)(K:∀cl∈d,Small 1099511627776 cl):
  aH 129 #[.slice j a g] b λr a1=>r=.returned (.int .i64 (nS (nR d) 0 d))∧au b a1:=by
 obtain⟨rfl,G⟩:=U.O Z;have a7:= @iW Tryz.prog;let⟨l,H⟩:=aT (nR d);rw[<-H];have M:ay _:=H;go_enter func129,ntmps129;go_wp2;have R:aF _ aL cr bX b.1.size _:=aF.I
 go_loopw [13] (λn wr=>∃(k:Nat),k<=d.length∧n=.int .i64 k∧au b wr∧aF wr aL cr bX b.1.size (nR (d.take k))) (λn _=>d.length-(intOf n).toNat)
 case atStart=>exact⟨0,aa,rfl,ae.al,R⟩
 case round=>
  obtain⟨k,a6,rfl,h,p⟩:=hrel;by_cases X:k<d.length
  ·obtain⟨y,m⟩:∃y,d[k]?=some y:=⟨_,cy X⟩;obtain⟨Q,a0,cc,rfl,T,C,D⟩:=G k y m;obtain⟨v,x,w,z,rfl⟩:=C.B;have t:aL y.1.n:=by have:=((K y (cA m)).2 y.1 (by simp[bt])).2.1;show _<=maxLen;unfold maxLen;omega
   let⟨O,P,B⟩:=h.ab D id;have N:=WR m;have F:ay _:=N;have i:=λb=>vU y.1.n v w y.1.2.length x y.2.length z b;by_cases s:y.2.length=0
   ·rw[s]at i B;go_wp2_with (go_at_call 133;refine(i _).mono ?_;rintro r w3 ⟨rfl,f⟩);go_roundw
    case rel=>exact⟨k+1,aa,ba,(h.I _).B f,by rw[F.out,if_pos s];exact(p.B ae.al id).B f id⟩
    case measure=>simp[intOf];omega
   ·have E:decide (y.2.length=0)=false:=aJ
    rw[E]at i;go_wp2_with (first|(go_at_call 133;refine(i _).mono ?_;rintro r w3 ⟨rfl,f⟩;obtain⟨b0,b1,b2,a2,a3,a4⟩:=bq (f.dY id))|(at_mapUpdate;refine hZ bZ underlying249 rfl (.tmp 20) (.tmp 23) (.tmp 24) rfl rfl ((p.B ae.al id).B f id) rfl t () rfl ?_;intro a9 Y S));go_roundw
    case rel=>exact⟨k+1,aa,ba,((h.I _).B f).V Y aa,by rw[F.out,if_neg s];exact S⟩
    case measure=>simp[intOf];omega
  ·have W:nR (d.take k)=nR d:=aJ
   rw[W]at p;rw[<-M.out]at p;go_wp2
   go_loopw [28] (λn L=>∃(c:Nat),c<=d.length∧n=.int .i64 c∧au b L∧aF L aL cr bX b.1.size l∧nS l c (d.drop c)=nS l 0 d) (λn _=>d.length-(intOf n).toNat)
   grind
   case round=>
    obtain⟨c,a5,rfl,h,p,V⟩:=hrel;have u:ay _:=V;by_cases J:c<d.length
    ·let⟨y,m⟩:∃y,d[c]?=some y:=⟨_,cy J⟩;obtain⟨Q,a0,cc,rfl,T,C,D⟩:=G c y m;obtain⟨v,x,w,z,rfl⟩:=C.B;have t:aL y.1.n:=by have:=((K y (cA m)).2 y.1 (by simp[bt])).2.1;show _<=maxLen;unfold maxLen;omega
     obtain⟨O,P,B⟩:=h.ab D id;have A:ay (nS l c (d.drop c)=if(aB l y.1.n).isSome∧y.2.length=0 then(c:Int)else nS l (c+1) (d.drop (c+1))):=by
      show _=_;rw[zJ J,(iw.1 m).2,nS]
     have i:=λb=>vU y.1.n v w y.1.2.length x y.2.length z b;have q:=p.B ((ae.T bE wr).I (.cells #[y.1.n,.slice v y.1.2.length x,.slice w y.2.length z] 236)) id;cases I:aB l y.1.n with
     |none=>
      have o:ay _:=I;go_wp2_with (at_lookup;refine jo bZ underlying249 ea rfl (.tmp 34) (.tmp 37) rfl rfl (bU _) q.T rfl t o.out ?_);go_roundw
      case rel=>exact⟨c+1,by omega,by grind,(h.I _).I _,(q.B ae.al id),by rw[<-u.out,A.out,o.out];simp⟩
      case measure=>simp[intOf];omega
     |some a8=>
      have o:ay _:=I;by_cases s:y.2.length=0
      ·rw[s]at i B q;go_wp2_with (first|(at_lookup;refine gJ bZ underlying249 ea rfl (.tmp 34) (.tmp 37) rfl rfl (bU _) q.T rfl t o.out ?_)|(go_at_call 133;refine(i _).mono ?_;rintro r w3 ⟨rfl,f⟩));go_ret;exact⟨ny (by rw[<-u.out,A.out,o.out];grind),((h.I _).I _).B f⟩
      ·have E:decide (y.2.length=0)=false:=aJ
       rw[E]at i;go_wp2_with (first|(at_lookup;refine gJ bZ underlying249 ea rfl (.tmp 34) (.tmp 37) rfl rfl (bU _) q.T rfl t o.out ?_)|(go_at_call 133;refine(i _).mono ?_;rintro r w3 ⟨rfl,f⟩));go_roundw
       case rel=>exact⟨c+1,by omega,by grind,((h.I _).I _).B f,(q.B ae.al id).B f id,by rw[<-u.out,A.out];omega⟩
       case measure=>simp[intOf];omega
    ·go_wp2;go_ret;refine⟨ny ?_,h⟩;rw[<-u.out,xj aa];rfl
def oA(f:List (ByteArray×Unit))(t:dW):Bool:=t.v&& !(aB f t.t).isSome
theorem pU(h:a<1099511627776):a<=maxLen:=by unfold maxLen;omega
theorem LB(t:e.In b)(C:e.list 2 Ey (.slice j a g) a9)(o:e.map aL cr bX k f)
  (i:a9.length<1099511627776)(B:∀D∈a9,D.t.size<1099511627776):aH 245 #[.slice j a g,k] b λw E=>w=.returned (.bool<|!a9.any (oA f))∧au b E:=by
 obtain⟨rfl,x⟩:=C.O t;go_enter func245,ntmps245;go_wp2;go_loopw [11] (λr wr=>∃(c:Nat),c<=a9.length∧r=.int .i64 c∧au b wr∧(a9.take c).any (oA f)=false) (λr _=>a9.length-(intOf r).toNat);exact⟨0,aa,rfl,.T _ _,rfl⟩;obtain⟨c,I,rfl,d,A⟩:=hrel;have u:ay<|(a9.take c).any _=false:=A;obtain⟨s,y,p⟩|s:=jf a9 c;obtain⟨G,J,cc,rfl,H,rfl,z⟩:=x c y p;have q:=pU<|B y<|cA p;let⟨F,n⟩:=d.cB z id;have v:ay<|a9[c]?=some y:=p;have h:=(t.B d i3).B ((ae.T _ _).I<|.cells #[y.t,y.v] 331) i3;cases i:aB f y.t with
 |none=>
  cases l:y.v with
  |false=>
   have m:ay<|oA f y=false:=by show _=_;simp[oA,l]
   rw[l]at n h;go_wp2_with (at_lookup;refine jo bZ underlying249 ea rfl (.tmp 16) (.tmp 18) rfl rfl h o rfl q i ?_);go_roundw;exact⟨c+1,aa,ba,(d.I _).I _,qD aa aa m.out⟩;exact dK
  |true=>
   have m:ay<|oA f y=true:=by show _=_;simp[oA,l,i]
   rw[l]at n h;go_wp2_with (at_lookup;refine jo bZ underlying249 ea rfl (.tmp 16) (.tmp 18) rfl rfl h o rfl q i ?_);go_ret;exact⟨iT (by simp[ub aa m.out]),(d.I _).I _⟩
 |some K=>
  have m:ay<|oA f y=false:=by show _=_;simp[oA,i]
  cases l:y.v;all_goals
   rw[l]at n h;go_wp2_with (at_lookup;refine gJ bZ underlying249 ea rfl (.tmp 16) (.tmp 18) rfl rfl h o rfl q i ?_);go_roundw;exact⟨c+1,aa,ba,(d.I _).I _,qD v.out u.out m.out⟩;exact dK
 go_wp2;go_ret;exact⟨iT<|dh<|vP s aa,d⟩
def ng(f:List (ByteArray×Unit))(ts:List dW):List (ByteArray×Unit):=ts.foldl (λf t=>if t.v then cK f t.t ()else f) f
def kV(body:List fj):List (ByteArray×Unit):=body.foldl (λf y=>if y.2 then f else ng f y.a.2) []
theorem TH(b:a9[a]?=some e8):ng f (a9.take<|a+1)=if e8.v then cK (ng f<|a9.take a) e8.t ()else ng f<|a9.take a:=by
 unfold ng;rw[eA,b,iZ];rfl
theorem TI(b:e0[a]?=some e7):kV (e0.take<|a+1)=if e7.2 then kV (e0.take a)else ng (kV<|e0.take a) e7.a.2:=by
 unfold kV;rw[eA,b,iZ];rfl
theorem Uo(B:e.In b)(I:dg e [.string c,.slice d7 a g,.slice j x l] o)(L:Small 1099511627776 o):
  aH 244 #[.agg #[c,.slice d7 a g,.slice j x l]] b λU O=>∃D,U=.returned (some D)∧b.1.size<=D∧aF O aL cr bX D (kV o.2)∧au b O:=by
 obtain⟨c4,c2,a5,J,a2⟩:=I;obtain⟨c1,a6,d4⟩:=id a5;subst a6;obtain⟨rfl,rfl,rfl⟩:c=o.1.n∧ .slice _ a g=c1∧ .slice _ _ _=c2:=by simpa using J
 obtain⟨R,T,b5,a0⟩:=a2.U B;obtain⟨rfl,rfl,rfl⟩:j=R∧x=o.2∧l=T:=by grind
 clear b5 J;have d3:= @iW Tryz.prog;have c8:=L.1;go_enter func244,ntmps244;go_wp2;have W:=by
  have:=aF.I (w:=b.alloc<|.cells #[o.1.n,.slice d7 a g,.slice j o.2.length l] 236) (ok:=aL) (key:=cr) (enc:=bX);rwa [fV]at this
 go_loopw [12] (λi wr=>∃(k:Nat),k<=o.2.length∧i=.int .i64 k∧au b wr∧aF wr aL cr bX (b.1.size+1) (kV<|o.2.take k)) (λi _=>o.2.length-(intOf i).toNat);exact⟨0,aa,rfl,ae.al.I _,W⟩;obtain⟨k,d1,rfl,m,p⟩:=hrel;obtain⟨b1,y,C⟩|b1:=jf o.2 k;obtain⟨c7,d6,cc,rfl,I,Y,a3⟩:=a0 k y C;obtain⟨u,v,rfl,Z⟩:=Y.B;have b6:=L.2 y.a (by simp[bt];grind);obtain⟨aK,c6,G⟩:=m.ab a3 id;have E:ay<|kV (o.2.take<|k+1)=if y.2 then kV (o.2.take k)else ng (kV<|o.2.take k) y.a.2:=TI C;clear C;have h:=p.B ((ae.T bE wr).I<|.cells #[y.a.n,.slice u y.a.2.length v,y.2] 309) id;cases s:y.2 with
 |true=>
  rw[s]at G h;go_wp2;go_roundw;exact⟨k+1,aa,ba,m.I _,by rw[E.out,s];exact h⟩;exact dK
 |false=>
  rw[s]at G h;obtain⟨ax,b4,M⟩:=Z;obtain rfl: .slice _ _ _=ax:=by simpa using b4
  have n:=m.4;have d2:=p.O;have H:=m.I<|.cells #[y.a.n,.slice u y.a.2 v,false] 309;let⟨b8,b9,d5,a1⟩:=M.U (B.B H i3);obtain⟨rfl,rfl⟩:u=b8∧v=b9:=by grind
  go_wp2;obtain⟨f,K⟩:=aT<|kV<|o.2.take k;rw[<-K]at h;have Q:ay<|f=kV _:=K;go_loopw [22] (λi P=>∃(d:Nat),d<=y.a.2.length∧i=.int .i64 d∧ae (·=b.1.size+1) (wr.alloc<|.cells #[y.a.n,.slice u y.a.2.length v,false] 309) P∧aF P aL cr bX (b.1.size+1) (ng f<|y.a.2.take d)) (λi _=>y.a.2.length-(intOf i).toNat);exact⟨0,aa,rfl,.T _ _,h⟩;obtain⟨d,d0,rfl,r,A⟩:=hrel;obtain⟨a9,z,n⟩|a9:=jf y.a.2 d;obtain⟨V,d8,c3,rfl,c9,rfl,a4⟩:=a1 d z n;have b7:=pU<|b6.2.2 z<|cA n;have a7: ¬V=b.1.size+1:=by
   obtain⟨d9,b2⟩:=M.T;have:=B.O b2;omega
  obtain⟨e0,N⟩:=r.cB a4 a7;have F:ay<|ng f (y.a.2.take<|d+1)=if z.v then cK (ng f<|y.a.2.take d) z.t ()else ng f<|y.a.2.take d:=TH n;clear n;have q:=A.B ((ae.T bE wr).I<|.cells #[z.t,z.v] 331) id;cases t:z.v with
  |false=>
   rw[t]at N q;go_wp2;go_roundw;exact⟨d+1,by omega,by go_num,r.I _,by rw[F.out,t];exact q⟩;exact dK
  |true=>
   rw[t]at N q;go_wp2_with (at_mapUpdate;refine hZ bZ underlying249 rfl (.tmp 28) (.tmp 30) (.tmp 31) rfl rfl q rfl b7 () rfl ?_;intro e1 b3 X);go_roundw;exact⟨d+1,by omega,by go_num,(r.I _).B b3,by rw[F.out,t];exact X⟩;exact dK
  have a8:ng f (y.a.2.take d)=ng f y.a.2:=by rw[fo aa]
  rw[a8]at A;go_wp2;go_roundw;exact⟨k+1,by omega,by go_num,H.V r λS (e:S=b.1.size+1)=>.inl aa,by rw[E.out,s,<-Q.out];exact A⟩;exact dK
 have b0:kV (o.2.take k)=kV o.2:=by rw[fo aa]
 rw[b0]at p;go_wp2;go_ret;exact⟨_,rfl,zw _,p,m⟩
def rp(f:List (ByteArray×Unit))(y:fj):Bool:=y.2&&y.a.2.any (oA f)
def wK(cl:bk):Bool:= !cl.2.any (rp (kV cl.2))&& !cl.1.2.any (oA (kV cl.2))
theorem Nz(d:e.In b)(g:∀f,e.le f->∀c x,C e c x->C f c x)(H:e.list a C k s):ai.list (λc=>b.1[c]?) a C k s:=H.B (g _ d) d
theorem Ub(r:e.In b)(w:dg e [.string c,.slice j l a,.slice d7 x g] o)(q:Small 1099511627776 o):
  aH 183 #[.agg #[c,.slice j l a,.slice d7 x g]] b λf a9=>f=.returned (.bool<|wK o)∧au b a9:=by
 have a1:=w;obtain⟨b0,a8,a2,I,Z⟩:=w;let⟨a7,a3,M⟩:=id a2;subst a3;obtain⟨rfl,rfl,rfl⟩:c=o.1.n∧ .slice _ l a=a7∧ .slice _ _ _=a8:=aV I;let⟨R,T,N,Y⟩:=Z.U r;obtain⟨rfl,rfl,rfl⟩:d7=R∧x=o.2∧g=T:=aV N;let⟨S,U,O⟩:=M.I;obtain⟨rfl,rfl,rfl⟩:j=S∧l=o.1.2∧a=U:=aV O;clear N I O;have b4:=q.1;go_enter func183,ntmps183;go_wp2_with (go_at_call 244;refine(Uo (r.B ((ae.T bE b).I<|.cells #[o.1.n,.slice j o.1.2.length a,.slice d7 o.2.length g] 236) i3) a1 q).mono ?_;rintro f w2 ⟨b7,rfl,b6,G,A⟩;obtain⟨p0,p1,p2,p3,p4,iX⟩:=bq<|A.dY id);obtain⟨d,v⟩:=aT<|kV o.2;have F:ay<|wK _=(!o.2.any (rp d)&& !o.1.2.any (oA d)):=aw v rfl;rw[<-v]at G;clear v;go_loopw [11] (λC wr=>∃(k:Nat),k<=o.2.length∧C=.int .i64 k∧au w2 wr∧(o.2.take k).any (rp d)=false) (λC _=>o.2.length-(intOf C).toNat);exact⟨0,aa,rfl,.T _ _,rfl⟩;obtain⟨k,b5,rfl,i,L⟩:=hrel;have s:ay<|(o.2.take k).any (rp d)=false:=L;clear L;have h:=(((ae.T bE b).I<|.cells #[o.1.n,.slice j o.1.2.length a,.slice d7 o.2.length g] 236).B A).B i;have H:=G.B i id;obtain⟨K,y,B⟩|K:=jf o.2 k;obtain⟨b3,b8,cc,rfl,w,W,a0⟩:=Y k y B;obtain⟨D,E,rfl,X⟩:=W.B;have P:=q.2 y.a (by simp[bt];grind);obtain⟨b1,b2,V⟩:=h.ab a0 id;have u:ay<|o.2[k]?=some y:=B;clear B;obtain⟨a6,a5,a4⟩:=X;obtain rfl: .slice D y.a.2.length E=a6:=aV a5;have m:=LB (bU _) (Nz (r.B (h.I<|.cells #[y.a.n,.slice D y.a.2.length E,y.2] 309) i3) (λ_ _ _ _ e=>e) a4) (H.B ((ae.T bE wr).I<|.cells #[y.a.n,.slice D y.a.2.length E,y.2] 309) id).T P.1 P.2.2;cases z:y.2 with
 |false=>
  go_wp2;go_roundw;exact⟨k+1,aa,ba,i.I _,qD u.out s.out (by simp[rp,z])⟩;exact dK
 |true=>
  rw[z]at V m;cases p:y.a.2.any (oA d)with
  |false=>
   rw[p]at m;have t:ay<|rp d y=false:=by show _=_;simp only[rp,p,Bool.and_false]
   go_wp2_with (go_at_call 245;refine m.mono ?_;rintro f Q ⟨rfl,n⟩);go_roundw;exact⟨k+1,aa,ba,(i.I _).B n,qD u.out s.out t.out⟩;exact dK
  |true=>
   rw[p]at m;have t:ay<|rp d y=true:=by show _=_;simp only[rp,p,z,Bool.and_true]
   go_wp2_with (go_at_call 245;refine m.mono ?_;rintro f Q ⟨rfl,n⟩);go_ret;exact⟨iT (by rw[F.out,ub u.out t.out];rfl),(h.I _).B n⟩
 obtain⟨b9,ax,c1,_,_,_⟩:=bq<|i.O (A.dY id) id;have J:=q.2 o.1 (by simp[bt]);go_wp2_with (go_at_call 245;refine (LB (bU _) (Nz (r.B h i3) (λ_ _ _ _ e=>e) M) H.T J.1 J.2.2).mono ?_;rintro f Q ⟨rfl,n⟩);go_ret;exact⟨iT (by rw[F.out,vP K s.out];rfl),h.B n⟩
def mM:Nat->List bk->Int
 |_,[]=> -1
 |i,cl::cs=>if wK cl=true then mM (i+1) cs else i
theorem TT(r:e.In b)(w:e.list 3 dg (.slice j a g) d)(_hn:d.length<=1099511627776)(x:∀cl∈d,Small 1099511627776 cl):
  aH 130 #[.slice j a g] b λh B=>h=.returned (.int .i64<|mM 0 d)∧au b B:=by
 obtain⟨rfl,t⟩:=w.O r;go_enter func130,ntmps130;go_wp2;go_loopw [7] (λm wr=>∃(k:Nat),k<=d.length∧m=.int .i64 k∧au b wr∧mM k (d.drop k)=mM 0 d) (λm _=>d.length-(intOf m).toNat);exact⟨0,aa,rfl,ae.T _ b,rfl⟩;obtain⟨k,M,rfl,c,z⟩:=hrel;have f:ay<|mM k _=mM 0 _:=z;obtain⟨q,y,l⟩|q:=jf d k;obtain⟨K,N,cc,rfl,L,o,v⟩:=t k y l;obtain⟨D,F,E,G,rfl⟩:=o.B;have A:=x y<|cA l;let⟨H,I,J⟩:=c.ab v id;have n:ay<|mM k (d.drop k)=if wK y=true then mM (k+1) (d.drop<|k+1)else(k:Int):=by
  show _=_;rw[zJ q,(iw.1 l).2,mM]
 have p:=Ub ((r.B c i3).B ((ae.T _ _).I<|.cells #[y.1.n,.slice D y.1.2.length F,.slice E y.2.length G] 236) i3) o A;cases u:wK y with
 |true=>
  go_wp2_with (go_at_call 183;refine p.mono ?_;rintro h C ⟨rfl,i⟩);go_roundw;exact⟨k+1,aa,ba,(c.I _).B i,by rw[<-f.out,n.out,if_pos aa]⟩;exact dK
 |false=>
  have s:ay<|wK y=false:=u;go_wp2_with (go_at_call 183;refine p.mono ?_;rintro h C ⟨rfl,i⟩);go_ret;exact⟨ny (by rw[<-f.out,n.out,s.out];rfl),(c.I _).B i⟩
 go_wp2;go_ret;refine⟨ny ?_,c⟩;rw[<-f.out,xj aa];rfl
theorem ye:fW Tryz.prog 23 9 1 16:=.B underlying23 (z:=.string iJ) ah rfl aA
def ib(_:ai)(c:List aq)(x:ByteArray):Prop:=c= [.string x]
def my(a:List ByteArray):List (ByteArray×Unit):=a.map λx=>(x,())
def wh(a:List ByteArray)(x:ByteArray):Bool:=a.any λy=>decide (y=x)
theorem FO:wh i c=true↔c∈i:=by
 unfold wh;grind
theorem KU(a:List ByteArray)(x:ByteArray):aB (my a) x=if wh a x then some ()else none:=by
 by_cases h:x∈a;rw[if_pos<|FO.2 h];obtain⟨p,b⟩:∃p,aB (my _) x=some p:=by
  unfold aB my;have:((a.map λx=>(x,())).find? λp=>decide<|p.1=x).isSome=true:=List.find?_isSome.2 ⟨_,ei.2 ⟨x,h,rfl⟩,af⟩;let⟨q,a⟩:=sg.1 this;exact⟨q.2,dh a⟩
 omega;rw[if_neg λa=>h<|FO.1 a];exact Ce λp b=>by
  obtain⟨y,a,rfl⟩:=ei.1 b;grind
theorem SY(b:wh i c=false):cK (my i) c ()=my (i++ [c]):=by
 have h:c∉i:=λa=>by rw[FO.2 a]at b;grind
 unfold cK;rw[if_neg];simp[my];intro a;obtain⟨p,b,d⟩:=rF.1 a;obtain⟨y,a,rfl⟩:=ei.1 b;grind
def addN(a:List ByteArray)(x:ByteArray):List ByteArray:=if wh a x then a else a++ [x]
def jd(a:List ByteArray)(l:List fg):List ByteArray:=l.foldl (λa b=>addN a b.n) a
theorem SC(b:e2[a]?=some v):jd i (e2.take<|a+1)=addN (jd i<|e2.take a) v.n:=by
 unfold jd;rw[eA,b,iZ];rfl
def bl(cs:List bk):List ByteArray:=cs.foldl (λa cl=>jd a (bt cl)) []
theorem SN(b:d[a]?=some o):bl (d.take<|a+1)=jd (bl<|d.take a) (bt o):=by
 unfold bl;rw[eA,b,iZ];rfl
theorem Sz(a:List ByteArray)(x:ByteArray):(addN a x)<=a.length+1:=by
 unfold addN;grind
theorem KN(l:List fg):∀a,(jd a l)<=a+l.length:=by
 unfold jd;induction l with
 |nil=>grind
 |cons b l c=>
  intro a;have c:=Sz a b.n;grind
theorem aM.Z(h:aM b a l x C e k s)(c:g<=a):aM b g l x C e k s:=by
 obtain⟨f,i,d,j,m,o,c⟩:=h;refine⟨f,i,d,j,m,o,c.1,?_⟩;obtain i|⟨h,d,f,rfl,i,i⟩:=c.2;grind;exact .inr ⟨h,d,f,rfl,aa,i⟩
theorem Lx(u:e.In b)(aK:e.list 3 dg (.slice j a g) d)(_hn:d.length<=1099511627776)(d5:∀cl∈d,Small 1099511627776 cl)
  (a1:∀k,(bl<|d.take k).length<=1099511627776):aH 185 #[.slice j a g] b λa0 b0=>∃v,a0=.returned v∧au b b0∧aM b0 b 9 1 ib e v (bl d):=by
 obtain⟨e1,e2,d7,c4⟩:=aK.U u;obtain⟨rfl,rfl,rfl⟩:j=e1∧a=d.length∧g=e2:=by grind
 clear d7;have f9:= @iW Tryz.prog;have f5:∀c o,e c=some o->c<b.1.size:=λc o i=>u.O i;go_enter func185,ntmps185;go_wp2;have a2:aF (b.alloc<|.map #[] 0) aL cr bX b.1.size<|my []:=aF.I;have a7:aM (b.alloc<|.map #[] 0) (b.1.size+1) 9 1 ib e (.slice none 0 0) []:=.m<|u.B ae.al λ_ _ _ e=>e
 go_loopw [4,14] (λv n wr=>∃(k:Nat),k<=d.length∧n=.int .i64 k∧au b wr∧aF wr aL cr bX b.1.size (my<|bl<|d.take k)∧aM wr (b.1.size+1) 9 1 ib e v (bl<|d.take k)) (λ_ n _=>d.length-(intOf n).toNat)
 case atStart=>exact⟨0,aa,rfl,ae.al,a2,a7⟩
 case round=>
  clear a2 a7;obtain⟨k,f4,rfl,p,G,q⟩:=hrel;by_cases d3:k<d.length
  ·obtain⟨y,E⟩:∃y,d[k]?=some y:=⟨_,cy d3⟩;obtain⟨e7,o,cc,rfl,f1,a4,I⟩:=c4 k y E;obtain⟨U,W,V,X,rfl⟩:=a4.B;have Q:=d5 y<|cA E;have b5:=p.Y (I 0 aA) id;have b6:=p.Y (I 1 aA) id;have b7:=p.Y (I 2 aA) id;simp only[rA,<-tI]at b5 b6 b7;have a8:=SN E;have f0:=a1<|k+1;have Z:ay<|bl (d.take<|k+1)=jd (bl<|d.take k) (bt y):=a8;clear a8 E;have c8:=(u.B p λ_ _ _ e=>e).B ((ae.T bE wr).I<|.cells #[.string y.1.n,.slice U y.1.2.length W,.slice V y.2.length X] 236) λ_ _ _ e=>e;go_wp2_with (go_at_call 132;refine(xS c8 a4 (by have:=Q.1;omega)).mono ?_;rintro a0 w2 ⟨b4,d8,c3,rfl,D,S,c9,P,a6⟩;obtain⟨d9,e0,d6⟩:=a6.I;obtain⟨rfl,rfl,rfl⟩:b4=d9∧d8=(bt y).length∧c3=e0:=by simpa using d6);have g1:=D.4;have f8:=G.O;have d0:∀c o,S c=some o->¬c=b.1.size:=λc o i e=>by
    obtain s|s:=P.2 c o i
    grind
    ·simp at s;omega
   have H:aF w2 aL cr bX b.1.size<|my<|bl<|d.take k:=(G.B ae.al id).B D id
   have L:aM w2 (b.1.size+1) 9 1 ib S _<|bl<|d.take k:=((q.I ((ae.T bE wr).I<|.cells #[.string y.1.n,.slice U y.1.2.length W,.slice V y.2.length X] 236) (λ_ _ e=>e) λ_ _ _ e=>e).I D (λ_ _ e=>e) λ_ _ _ e=>e).ab (λ_ _ e=>e) c9 (λc o i b8=>by
    have:=(q.B c b8);obtain s|s:=P.2 c o i
    grind
    ·simp at s;omega)
   have c2:=(p.I<|.cells #[.string y.1.n,.slice U y.1.2.length W,.slice V y.2.length X] 236).B D;have f6:(bt y).length<=1099511627776:=by have:=Q.1;simp[bt];omega
   obtain⟨l,N⟩:=aT<|bl<|d.take k;have b9:=a1 k;rw[<-N]at H L b9;have Y:ay<|l=bl (d.take k):=N;clear N
   go_loopw [4,21] (λv n T=>∃(f:Nat),f<=(bt y).length∧n=.int .i64 f∧au b T∧aF T aL cr bX b.1.size (my<|jd l<|(bt y).take f)∧aM T (b.1.size+1) 9 1 ib S v (jd l<|(bt y).take f)) (λ_ n _=>(bt y).length-(intOf n).toNat)
   case atStart=>exact⟨0,aa,rfl,c2,H,L⟩
   case round=>
    clear H L q G;obtain⟨f,f3,rfl,B,t,m⟩:=hrel;by_cases c7:f<(bt y).length
    ·obtain⟨z,F⟩:∃z,(bt y)[f]?=some z:=⟨_,cy c7⟩;obtain⟨e8,g2,e6,rfl,f2,c1,a5⟩:=a6.V m.V F;obtain⟨b1,b2,rfl⟩:=c1.B;have R:aL z.n:=pU (Q.2 z<|cA F).2.1;have e3:_=some _:=a5 0 aA;have e4:_=some _:=a5 1 aA;simp only[rA,<-tI]at e3 e4;have x:ay<|jd l ((bt y).take<|f+1)=addN (jd l<|(bt y).take f) z.n:=SC F;clear F;have d2:=KN ((bt y).take f) l;have f7:((bt y).take f).length<=(bt y).length:=by rw[ix];omega
     obtain⟨h,J⟩:=aT<|jd l<|(bt y).take f;rw[<-J]at t m d2;have w:ay<|h=jd l ((bt y).take f):=J;clear J;have g0:=t.O;have A:=(t.B ((ae.T bE wr).I<|.cells #[.string z.n,.slice b1 z.2.length b2] 233) id);cases C:wh h z.n with
     |true=>
      have r:ay<|addN h z.n=h:=by show _=_;unfold addN;rw[if_pos C]
      have K:aB (my h) z.n=some ():=by rw[KU,if_pos C]
      go_wp2_with (at_lookup;refine gJ bZ underlying249 ea rfl (.tmp 26) (.tmp 28) rfl rfl (bU _) A.T rfl R K ?_);go_roundw
      case rel=>exact⟨f+1,by omega,by grind,(B.I _).I _,by rw[x.out,<-w.out,r.out];exact A.B ae.al id,by rw[x.out,<-w.out,r.out];exact m.I (ae.al.I _) i2 i3⟩
      case measure=>simp[intOf];omega
     |false=>
      have r:ay<|addN h z.n=h++ [z.n]:=by show _=_;unfold addN;rw[if_neg (by grind)]
      have b3:ay<|cK (my h) z.n ()=my (h++ [z.n]):=SY C;have K:aB (my h) z.n=none:=by rw[KU,if_neg (by grind)]
      clear C;have ax:=A.B ((ae.T bE _).I<|.cells #[] 251) id;have M:=m.I (((ae.T bE wr).I<|.cells #[.string z.n,.slice b1 z.2.length b2] 233).I<|.cells #[] 251) (λ_ _ e=>e) λ_ _ _ e=>e;go_wp2_with (first|(at_lookup;refine jo bZ underlying249 ea rfl (.tmp 26) (.tmp 28) rfl rfl (bU _) A.T rfl R K ?_)|(at_mapUpdate;refine hZ bZ underlying249 rfl (.tmp 34) (.tmp 36) (.tmp 37) rfl rfl ax rfl R () rfl ?_;intro g7 O a3;obtain⟨g3,g4,_,_⟩:=bJ<|O.O (ic wr _ _) aa)|(at_builtin;refine tz ye rfl (.tmp 38) (.tmp 41) rfl (M.I O (λc i e=>by omega) d0) rfl z.n #[.string z.n] rfl rfl (by simp[eP]) rfl af aa aa (by have:=a3.O;omega) ?_;intro br e5 g8 d4 a9));go_roundw
      case rel=>
       refine⟨f+1,aa,ba,?_,?_,by rw[x.out,<-w.out,r.out];exact d4⟩
       ·exact(((B.I _).I _).V O λc (e:c=b.1.size)=>.inl aa).V a9 λc i=>.inl (by have:=(M.B c i).1;omega)
       ·rw[x.out,<-w.out,r.out,<-b3.out];exact a3.B a9 (λe=>by have:=(M.B _ e).1;omega)
      case measure=>simp[intOf];omega
    ·have c6:jd l ((bt y).take f)=jd l (bt y):=by rw[fo aa]
     rw[c6]at t m;go_wp2;go_roundw
     case rel=>exact⟨k+1,by omega,by go_num,B,by rw[Z.out,<-Y.out];exact t,by rw[Z.out,<-Y.out];exact m.ab (λ_ _ e=>e) (u.B B λ_ _ _ e=>e) λc o i=>m.bN c o<|P.1 c o i⟩
     case measure=>simp[intOf];omega
  ·have d1:bl (d.take k)=bl d:=by rw[fo aa]
   rw[d1]at q;obtain⟨g5,g6,rfl⟩:=q.O;go_wp2;go_ret;exact⟨_,rfl,p,q.Z<|zw _⟩
theorem Lv(m:e.In b)(i:e.list 3 dg (.slice j g a) d)(_hn:d.length<=1099511627776)(l:∀cl∈d,Small 1099511627776 cl)
  (h:∀k,(bl<|d.take k).length<=1099511627776):aH 185 #[.slice j g a] b λf c=>∃j a,f=.returned (.slice j (bl d) a)∧au b c∧∃k,k.In c∧ai.Ext b e k∧k.list 1 ib (.slice j (bl d) a) (bl d):=by
 refine(Lx m i _hn l h).mono ?_;rintro f c ⟨v,rfl,m,c⟩;obtain⟨f,f,rfl⟩:=c.O;obtain⟨f,h,i,k,l⟩:=c.U λf n a x e=>e;exact⟨_,_,rfl,m,f,h,⟨i,λf o h=>(k f o h).imp id λe=>(c.B f e).1⟩,l⟩
theorem Yu:Dp Tryz.prog 256:=J8 ah bb bb ah ah
theorem Mb:Tryz.prog.cellsOf 256=2:=ah
theorem Wm:Tryz.prog.cellsOf 9=1:=ah
theorem afa:Tryz.prog.types.size=522:=ah
theorem keyOf_pair(f:c.size<=maxLen)(g:r.size<=maxLen):∃l,keyOf Tryz.prog 256 (.agg #[c,r])=some l:=by
 have b:Tryz.prog.keyType 256=true:=ah;have e:(Ra #[c,r]).formed Tryz.prog 256=true:=by
  unfold J9;rw[underlying256,Mb];rfl
 have a:∀(d:Nat) {s:ByteArray},s.size<=maxLen->Tryz.prog.keyLits (d+1) 9 [.string s]=some [.string s.1.1]:=by
  intro d s h;unfold AB;rw[underlying9];exact if_pos h
 have h:∀d,Tryz.prog.keyLits (d+2) 256 [.string c,.string r]=some [.string c.1.1,.string r.1.1]:=by
  intro d;unfold AB;rw[underlying256];simp[Mb,Wm,a d f,a d g]
 unfold keyOf;simp only[b,e];show ∃l,(Tryz.prog.keyLits 523 256 [.string c,.string r]).map _=some l;simp_all
def Gm(p:ByteArray×ByteArray):Value:=.agg #[.string p.1,.string p.2]
abbrev N2:ByteArray×ByteArray->Prop:=λp=>p.1.size<=maxLen∧p.2.size<=maxLen
theorem iR:gO Tryz.prog 256 Gm N2:=.B Yu (λ_ h=>keyOf_pair h.1 h.2) (λx y _ _ h=>by
 obtain⟨a,b⟩:=x;obtain⟨c,d⟩:=y
 simpa[Gm]using h)
section
variable{κ:Type}[DecidableEq κ]
def aR(a:List κ):List (κ×Unit):=a.map λx=>(x,())
def bL(a:List κ)(x:κ):Bool:=a.any λy=>decide (y=x)
def gA(a:List κ)(x:κ):List κ:=if bL a x then a else a++ [x]
theorem hE(b:List κ)(x:κ):aB (aR b) x=if bL b x then some ()else none:=by
 cases h:bL b x with
 |true=>
  obtain⟨y,c,a⟩:=rF.1 h;have a:y=x:=aJ;subst a;cases a:aB (aR b) y with
  |some u=>rfl
  |none=>
   unfold aB at a;rw[Ka,Kb]at a;exact absurd (a _<|ei.2 ⟨y,c,rfl⟩) af
 |false=>
  refine Ce λp a=>?_;obtain⟨y,c,rfl⟩:=ei.1 a;rintro rfl;have:=List.any_eq_false.1 h _ c;grind
theorem wM(a:List κ)(x:κ):cK (aR a) x ()=aR (gA a x):=by
 have b:((aR a).any λp=>decide<|p.1=x)=bL a x:=by
  unfold aR bL;rw[List.any_map];rfl
 unfold cK gA;rw[b];cases bL a x with
 |true=>
  unfold aR;simp_all
 |false=>simp[aR]
end
def ln(a:List (ByteArray×ByteArray))(u m:ByteArray)(b:List ByteArray):List (ByteArray×ByteArray):=b.foldl (λa l=>if bL a (m,l)then gA a (u,l)else a) a
theorem acd(b:i[a]?=some f3):ln f c r (i.take<|a+1)=if bL (ln f c r<|i.take a) (r,f3)then gA (ln f c r<|i.take a) (c,f3)else ln f c r<|i.take a:=by
 unfold ln;rw[eA,b,iZ];rfl
abbrev kU(w:ag)(b:Nat)(a:List (ByteArray×ByteArray)):Prop:=aF w N2 Gm bX b (aR a)
theorem Ud(m:e.In b)(w:∀d p,e d=some p->¬d=a)(d:kU b a f)(A:r.size<=maxLen)(t:c.size<=maxLen)
  (o:e.list 1 ib (.slice j g l) i)(n:i.length<=1099511627776)(z:∀x∈i,x.size<=maxLen):
  aH 186 #[some a,r,c,.slice j g l] b λk h=>k=.returned (.tuple #[])∧ae (·=a) b h∧kU h a (ln f r c i):=by
 obtain⟨rfl,s⟩:=o.O m;go_enter func186,ntmps186;go_wp2;go_loopw [14] (λh wr=>∃(k:Nat),k<=i.length∧h=.int .i64 k∧ae (·=a) b wr∧kU wr a (ln f r c<|i.take k)) (λh _=>i.length-(intOf h).toNat);exact⟨0,aa,rfl,.T _ _,d⟩;obtain⟨k,h,rfl,m,d⟩:=hrel;obtain⟨q,y,h⟩|q:=jf i k;obtain⟨q,p,cc,rfl,p,rfl,u⟩:=s k y h;have p:=z y<|cA h;have s: ¬q=a:=by obtain⟨q,q⟩:=o.T;exact w _ _ q
 have o:=m.Y (u 0 aA) s;simp at o;have s:ay<|ln _ r c _=if bL _ (c,y)then gA _ (r,y)else ln f r c<|i.take k:=acd h;obtain⟨h,o⟩:=aT<|ln f r c<|i.take k;rw[<-o]at d;have q:ay<|h=ln _ r c _:=o;cases o:bL h (c,y)with
 |true=>
  have n:aB (aR h) (c,y)=some ():=by rw[hE,if_pos o]
  have u:ay<|bL h _=true:=o;go_wp2_with (first|(at_lookup;refine gJ iR underlying247 ea rfl (.tmp 19) (.tmp 22) rfl rfl (bU _) d.T rfl ⟨t,p⟩ n ?_)|(at_mapUpdate;refine hZ iR underlying247 rfl (.tmp 27) (.tmp 30) (.tmp 31) rfl rfl (d.B ((ae.T bE wr).I<|.cells #[] 251) id) (x:=(r,y)) rfl ⟨A,p⟩ () rfl ?_;intro w z w));go_roundw;exact⟨k+1,aa,ba,(m.I _).B z,by rw[s.out,<-q.out,if_pos aa];show aF _ _ _ _ _<|aR<|gA h (r,y);rw[<-wM];exact w⟩;exact dK
 |false=>
  have n:aB (aR h) (c,y)=none:=by rw[hE,if_neg (by grind)]
  have u:ay<|bL h _=false:=o;go_wp2_with (at_lookup;refine jo iR underlying247 ea rfl (.tmp 19) (.tmp 22) rfl rfl (bU _) d.T rfl ⟨t,p⟩ n ?_);go_roundw;exact⟨k+1,aa,ba,m.I _,by rw[s.out,<-q.out,if_neg (by grind)];exact d.B ae.al id⟩;exact dK
 have h:ln f r c (i.take k)=ln f r c i:=aJ
 rw[h]at d;go_wp2;exact bodyPost_end (v:=.tuple _) (by simp[results]) rfl ⟨rfl,m,d⟩
def oZ(a:List (ByteArray×ByteArray))(n:ByteArray)(body:List fj):List (ByteArray×ByteArray):=body.foldl (λa y=>gA a (n,y.a.n)) a
theorem Zn(b:e0[a]?=some e7):oZ f c (e0.take<|a+1)=gA (oZ f c<|e0.take a) (c,e7.a.n):=by
 unfold oZ;rw[eA,b,iZ];rfl
def nO(cs:List bk):List (ByteArray×ByteArray):=cs.foldl (λa cl=>oZ a cl.1.n cl.2) []
theorem Tm(b:d[a]?=some o):nO (d.take<|a+1)=oZ (nO<|d.take a) o.1.n o.2:=by
 unfold nO;rw[eA,b,iZ];rfl
def kz(a:List (ByteArray×ByteArray))(m:ByteArray)(b c:List ByteArray):List (ByteArray×ByteArray):=c.foldl (λa u=>if bL a (u,m)then ln a u m b else a) a
theorem ZR(b:d6[a]?=some r):kz f c i (d6.take<|a+1)=if bL (kz f c i<|d6.take a) (r,c)then ln (kz f c i<|d6.take a) r c i else kz f c i<|d6.take a:=by
 unfold kz;rw[eA,b,iZ];rfl
def ot(a:List (ByteArray×ByteArray))(b c:List ByteArray):List (ByteArray×ByteArray):=c.foldl (λa m=>kz a m b b) a
theorem acP(b:d6[a]?=some c):ot f i (d6.take<|a+1)=kz (ot f i<|d6.take a) c i i:=by
 unfold ot;rw[eA,b,iZ];rfl
def fR(cs:List bk):List (ByteArray×ByteArray):=ot (nO cs) (bl cs) (bl cs)
theorem Lr(J:e.In b)(c9:e.list 3 dg (.slice j a g) d)(f8:d.length<=1099511627776)(d5:∀cl∈d,Small 1099511627776 cl)
  (b9:∀k,(bl<|d.take k).length<=1099511627776)(E:∀x∈bl d,x.size<=maxLen):
  aH 137 #[.slice j a g] b λR d8=>∃b4,R=.returned (some b4)∧b.1.size<=b4∧au b d8∧kU d8 b4 (fR d):=by
 obtain⟨rfl,aK⟩:=c9.O J;have h7:= @iW Tryz.prog;have d4:∀h p,e h=some p->h<b.1.size:=λh p W=>J.O W;go_enter func137,ntmps137;go_wp2;have c1:kU (b.alloc<|.map #[] 0) b.1.size []:=aF.I
 go_loopw [18] (λi wr=>∃(k:Nat),k<=d.length∧i=.int .i64 k∧au b wr∧kU wr b.1.size (nO<|d.take k)) (λi _=>d.length-(intOf i).toNat)
 case atStart=>exact⟨0,aa,rfl,ae.al,c1⟩
 case round=>
  clear c1;obtain⟨k,h5,rfl,F,r⟩:=hrel;by_cases f6:k<d.length
  ·obtain⟨y,K⟩:∃y,d[k]?=some y:=⟨_,cy f6⟩;obtain⟨S,p,cc,rfl,e8,c3,X⟩:=aK k y K;obtain⟨M,O,N,P,rfl⟩:=c3.B;obtain⟨h1,g6,f0,d0,c6⟩:=c3;obtain⟨g5,f1,f9⟩:=id f0;subst f1;obtain⟨-,rfl⟩: .slice _ _ _=g5∧ .slice _ _ _=g6:=by simpa using d0
   clear d0 f9;have b3:=d5 y<|cA K;have h8:=b3.1;have g1:aL y.1.n:=pU (b3.2 y.1 (by simp[bt])).2.1;obtain⟨b7,h2,h3⟩:=F.ab X id;have e2:ay<|nO (d.take<|k+1)=oZ (nO<|d.take k) y.1.n y.2:=Tm K;clear K;have f7:=r.O;have c7:=cz wr<|.cells #[y.1.n,.slice M y.1.2.length O,.slice N y.2.length P] 236;have c4:=F.I<|.cells #[y.1.n,.slice M y.1.2.length O,.slice N y.2.length P] 236;have w:=r.B ((ae.T bE wr).I<|.cells #[y.1.n,.slice M y.1.2.length O,.slice N y.2.length P] 236) id;obtain⟨v,a2⟩:=aT<|nO<|d.take k;rw[<-a2]at w;have e0:ay<|v=nO (d.take k):=a2;clear a2;go_wp2
   go_loopw [25] (λi D=>∃(f:Nat),f<=y.2.length∧i=.int .i64 f∧ae (·=b.1.size) (wr.alloc<|.cells #[y.1.n,.slice M y.1.2.length O,.slice N y.2.length P] 236) D∧kU D b.1.size (oZ v y.1.n<|y.2.take f)) (λi _=>y.2.length-(intOf i).toNat)
   case atStart=>exact⟨0,nK _,rfl,ae.T _ _,w⟩
   case round=>
    clear r w;obtain⟨f,f4,rfl,l,o⟩:=hrel;by_cases a3:f<y.2.length
    ·obtain⟨z,L⟩:∃z,y.2[f]?=some z:=⟨_,cy a3⟩;obtain⟨T,d6,e5,rfl,br,e6,Y⟩:=c6.V (J.B c4 i3) L;obtain⟨g8,g9,rfl,_⟩:=e6.B;have g2:aL z.a.n:=pU (b3.2 z.a (by simp[bt];exact .inr ⟨z,cA L,rfl⟩)).2.1;have f2: ¬T=b.1.size:=by obtain⟨g4,a9⟩:=c6.T;have:=d4 _ _ a9;omega
     obtain⟨d7,i4,i5⟩:=l.ab Y f2;obtain⟨i0,i1,i2,_,_,_⟩:=bq<|l.O c7 aa;have h6:=aP<|l.O c7 aa;have e4:ay<|oZ v y.1.n (y.2.take<|f+1)=gA (oZ v y.1.n<|y.2.take f) (y.1.n,z.a.n):=Zn L;clear L;go_wp2_with (at_mapUpdate;refine hZ iR underlying247 rfl (.tmp 29) (.tmp 36) (.tmp 37) rfl rfl (o.B ((ae.T bE wr).I<|.cells #[z.a.n,.slice g8 z.a.2.length g9,z.2] 309) id) (x:=(y.1.n,z.a.n)) rfl ⟨g1,g2⟩ () rfl ?_;intro g7 b1 U);go_roundw
     case rel=>exact⟨f+1,by omega,by go_num,(l.I _).B b1,by rw[e4.out];show aF _ _ _ _ _<|aR<|gA _ _;rw[<-wM];exact U⟩
     case measure=>simp[intOf];omega
    ·have C:oZ v y.1.n (y.2.take f)=oZ v y.1.n y.2:=by rw[fo aa]
     rw[C]at o;go_wp2;go_roundw
     case rel=>exact⟨k+1,by omega,by go_num,c4.V l λh (e:h=b.1.size)=>.inl aa,by rw[e2.out,<-e0.out];exact o⟩
     case measure=>simp[intOf];omega
  ·have d3:nO (d.take k)=nO d:=by rw[fo aa]
   rw[d3]at r;have c8:=Lv (J.B F i3) c9 f8 d5 b9;obtain⟨c,a8⟩:=aT<|bl d;obtain⟨q,Z⟩:=aT<|nO d;have ax:(bl d).length<=1099511627776:=by have:=b9 d.length;rwa [fo<|cP _]at this
   have e3:ay<|fR d=ot q c c:=by rw[a8,Z];exact rfl
   rw[<-a8]at c8 E ax;rw[<-Z]at r;clear a8 Z d3;have f7:=r.O;go_wp2_with (go_at_call 185;refine c8.mono ?_;rintro R w2 ⟨h0,Mj,rfl,b0,g3,a4,g0,G⟩);have c2:=r.B b0 id;have e7:=F.B b0;have h9:=b0.4;have a5:∀h p,g3 h=some p->¬h=b.1.size:=λh p W e=>by
    obtain b8|b8:=g0.2 h p W
    ·have:=d4 h p b8;omega
    ·omega
   clear r aK
   go_loopw [44] (λi wr=>∃(k:Nat),k<=c.length∧i=.int .i64 k∧ae (·=b.1.size) w2 wr∧kU wr b.1.size (ot q c<|c.take k)) (λi _=>c.length-(intOf i).toNat)
   case atStart=>exact⟨0,nK _,rfl,ae.T _ _,c2⟩
   case round=>
    clear c2;obtain⟨s,h4,rfl,V,B⟩:=hrel;by_cases f3:s<c.length
    ·obtain⟨m,H⟩:∃m,c[s]?=some m:=⟨_,cy f3⟩;obtain⟨S,p,cc,rfl,e8,rfl,X⟩:=G.V a4 H;have d1: ¬S=b.1.size:=by obtain⟨g4,a9⟩:=G.T;exact a5 _ _ a9
     have a7:=E m<|cA H;have b7:=V.Y (X 0 aA) d1;simp only[rA,AD]at b7;have e1:ay<|ot q c (c.take<|s+1)=kz (ot q c<|c.take s) m c c:=acP H;clear H;obtain⟨n,a0⟩:=aT<|ot q c<|c.take s;rw[<-a0]at B;have d9:ay<|n=ot q c (c.take s):=a0;clear a0;go_wp2
     go_loopw [50] (λi D=>∃(f:Nat),f<=c.length∧i=.int .i64 f∧ae (·=b.1.size) w2 D∧kU D b.1.size (kz n m c<|c.take f)) (λi _=>c.length-(intOf i).toNat)
     case atStart=>exact⟨0,nK _,rfl,V,B⟩
     case round=>
      clear B;obtain⟨f,f4,rfl,l,o⟩:=hrel;by_cases a3:f<c.length
      ·obtain⟨u,I⟩:∃u,c[f]?=some u:=⟨_,cy a3⟩;obtain⟨T,d6,e5,d2,br,rfl,Y⟩:=G.V a4 I;obtain⟨rfl,rfl⟩:S=T∧p=d6:=by simpa using d2
       have b2:=E u<|cA I;have d7:=l.Y (Y 0 aA) d1;simp only[rA,AD]at d7;have b6:ay<|kz n m c (c.take<|f+1)=if bL (kz n m c<|c.take f) (u,m)then ln (kz n m c<|c.take f) u m c else kz n m c<|c.take f:=ZR I;clear I d2;obtain⟨t,a1⟩:=aT<|kz n m c<|c.take f;rw[<-a1]at o;have b5:ay<|t=kz n m c (c.take f):=a1;clear a1;have w:=o.B ((ae.T bE wr).I<|.cells #[] 251) id;have f5:=(a4.B l a5).B ((ae.T bE wr).I<|.cells #[] 251) i3;cases A:bL t (u,m)with
       |true=>
        have a6:aB (aR t) (u,m)=some ():=by rw[hE,if_pos A]
        have Q:ay<|bL t (u,m)=true:=A;clear A;go_wp2_with (first|(at_lookup;refine gJ iR underlying247 ea rfl (.tmp 55) (.tmp 58) rfl rfl (bU _) o.T rfl ⟨b2,a7⟩ a6 ?_)|(go_at_call 186;refine(Ud f5 a5 w b2 a7 G ax E).mono ?_;rintro R g7 ⟨rfl,b1,U⟩));go_roundw
        case rel=>exact⟨f+1,by omega,by go_num,(l.I _).B b1,by rw[b6.out,<-b5.out,if_pos Q.out];exact U⟩
        case measure=>simp[intOf];omega
       |false=>
        have a6:aB (aR t) (u,m)=none:=by rw[hE,if_neg (by rw[A];simp)]
        have Q:ay<|bL t (u,m)=false:=A;clear A;go_wp2_with (at_lookup;refine jo iR underlying247 ea rfl (.tmp 55) (.tmp 58) rfl rfl (bU _) o.T rfl ⟨b2,a7⟩ a6 ?_);go_roundw
        case rel=>exact⟨f+1,by omega,by go_num,l.I _,by rw[b6.out,<-b5.out,if_neg (by rw[Q.out];simp)];exact w⟩
        case measure=>simp[intOf];omega
      ·have C:kz n m c (c.take f)=kz n m c c:=by rw[fo aa]
       rw[C]at o;go_wp2;go_roundw
       case rel=>exact⟨s+1,by omega,by go_num,l,by rw[e1.out,<-d9.out];exact o⟩
       case measure=>simp[intOf];omega
    ·have C:ot q c (c.take s)=ot q c c:=by rw[fo aa]
     rw[C,<-e3.out]at B;go_wp2;go_ret;exact⟨_,rfl,cP _,e7.V V λh (e:h=b.1.size)=>.inl aa,B⟩
def sK(f:List (ByteArray×ByteArray))(n:ByteArray)(y:fj):Bool:=y.2&&bL f (y.a.n,n)
def BD(f:List (ByteArray×ByteArray))(cl:bk):Bool:=cl.2.any (sK f cl.1.n)
def yB(cs:List bk):Bool:= !cs.any (BD (fR cs))
theorem TU(C:e.In b)(S:e.list 3 dg (.slice j a g) d)(a9:d.length<=1099511627776)(X:∀cl∈d,Small 1099511627776 cl)
  (Y:∀k,(bl<|d.take k).length<=1099511627776)(a0:∀x∈bl d,x.size<=maxLen):
  aH 131 #[.slice j a g] b λL b5=>L=.returned (.bool<|yB d)∧au b b5:=by
 have R:=Lr C S a9 X Y a0;obtain⟨rfl,a3⟩:=S.O C;obtain⟨f,U⟩:=aT<|fR d;have I:ay<|yB _= !d.any (BD f):=aw U rfl
 rw[<-U]at R;go_enter func131,ntmps131;go_wp2_with (go_at_call 137;refine R.mono ?_;rintro L w2 ⟨d3,rfl,d1,a2,Z⟩)
 go_loopw [14] (λm wr=>∃(k:Nat),k<=d.length∧m=.int .i64 k∧au w2 wr∧(d.take k).any (BD f)=false) (λm _=>d.length-(intOf m).toNat)
 case atStart=>exact⟨0,aa,rfl,.T _ _,rfl⟩
 case round=>
  obtain⟨k,c9,rfl,N,b0⟩:=hrel;have J:ay<|(d.take k).any _=false:=b0;have B:=a2.B N;by_cases W:k<d.length
  ·let⟨y,D⟩:∃y,d[k]?=some y:=⟨_,cy W⟩;obtain⟨c4,d4,cc,rfl,c6,M,a5⟩:=a3 k y D;obtain⟨s,u,t,v,rfl⟩:=M.B;obtain⟨ax,b4,a7,T,a4⟩:=M;let⟨b3,a8,b2⟩:=id a7;subst a8;obtain⟨-,rfl⟩: .slice _ _ _=b3∧ .slice _ _ _=b4:=aV T
   clear T b2;have F:=X y<|cA D;have d2:=F.1;have E:aL _:=pU (F.2 y.1 (by simp[bt])).2.1;let⟨c1,c2,c3⟩:=B.ab a5 id;have K:ay<|d[k]?=some y:=D;have Q:=cz wr<|.cells #[y.1.n,.slice s y.1.2.length u,.slice t y.2.length v] 236;have P:=B.I<|.cells #[y.1.n,.slice s y.1.2.length u,.slice t y.2.length v] 236;have O:=N.I<|.cells #[y.1.n,.slice s y.1.2.length u,.slice t y.2.length v] 236;go_wp2
   go_loopw [21] (λm b6=>∃(c:Nat),c<=y.2.length∧m=.int .i64 c∧au (wr.alloc<|.cells #[y.1.n,.slice s y.1.2.length u,.slice t y.2.length v] 236) b6∧(y.2.take c).any (sK f y.1.n)=false) (λm _=>y.2.length-(intOf m).toNat)
   case atStart=>exact⟨0,aa,rfl,.T _ _,rfl⟩
   case round=>
    obtain⟨c,c8,rfl,i,b1⟩:=hrel;have w:ay<|(y.2.take c).any _=false:=b1;by_cases V:c<y.2.length
    ·let⟨z,r⟩:∃z,y.2[c]?=some z:=⟨_,cy V⟩;obtain⟨aK,d5,b9,rfl,c7,a1,a6⟩:=a4.V (C.B P i3) r;obtain⟨b7,b8,rfl,_⟩:=a1.B;have G:aL z.a.n:=pU (F.2 z.a (by simp[bt];exact .inr ⟨z,cA r,rfl⟩)).2.1;obtain⟨d9,e0,H⟩:=i.ab a6 id;obtain⟨d6,d7,d8,_,_,_⟩:=bq<|i.O Q id;have d0:=aP<|i.O Q id;have A:ay<|y.2[c]?=some z:=r;clear r;have n:=(Z.B (O.B i) id).B ((ae.T bE wr).I<|.cells #[z.a.n,.slice b7 z.a.2.length b8,z.2] 309) id;cases l:bL f (z.a.n,y.1.n)with
     |true=>
      have q:aB (aR f) (z.a.n,y.1.n)=some ():=by rw[hE,if_pos l]
      cases h:z.2 with
      |true=>
       have o:ay<|sK f y.1.n z=true:=by show _=_;simp only[sK,l,h,Bool.and_self]
       rw[h]at H n;clear l h;go_wp2_with (at_lookup;refine gJ iR underlying247 ea rfl (.tmp 26) (.tmp 33) rfl rfl (bU _) n.T (x:=(z.a.n,y.1.n)) rfl ⟨G,E⟩ q ?_);go_ret;exact⟨iT (by rw[I.out,ub K.out (p:=BD f)<|ub A.out o.out];rfl),((P.B i).I _).I _⟩
      |false=>
       have o:ay<|sK f y.1.n z=false:=by show _=_;simp only[sK,h,Bool.false_and]
       rw[h]at H n;clear l h;go_wp2_with (at_lookup;refine gJ iR underlying247 ea rfl (.tmp 26) (.tmp 33) rfl rfl (bU _) n.T (x:=(z.a.n,y.1.n)) rfl ⟨G,E⟩ q ?_);go_roundw
       case rel=>exact⟨c+1,aa,ba,(i.I _).I _,qD A.out w.out o.out⟩
       case measure=>simp[intOf];omega
     |false=>
      have q:aB (aR f) (z.a.n,y.1.n)=none:=by rw[hE,if_neg<|cw l]
      have o:ay<|sK f y.1.n z=false:=by show _=_;simp only[sK,l,Bool.and_false]
      clear l;cases h:z.2
      all_goals
       rw[h]at H n;clear h;go_wp2_with (at_lookup;refine jo iR underlying247 ea rfl (.tmp 26) (.tmp 33) rfl rfl (bU _) n.T (x:=(z.a.n,y.1.n)) rfl ⟨G,E⟩ q ?_);go_roundw
       case rel=>exact⟨c+1,aa,ba,(i.I _).I _,qD A.out w.out o.out⟩
       case measure=>simp[intOf];omega
    ·go_wp2;go_roundw
     case rel=>exact⟨k+1,aa,ba,O.B i,qD K.out J.out<|vP V w.out⟩
     case measure=>simp[intOf];omega
  ·go_wp2;go_ret;exact⟨iT (by rw[I.out,vP W J.out];rfl),B⟩
def iB(cs:List bk):Int×Int:=
 if mG 0 [] cs≠ -1 then(3,mG 0 [] cs)else if mv 0 [] cs≠ -1 then(4,mv 0 [] cs)else if nS (nR cs) 0 cs≠ -1 then(5,nS (nR cs) 0 cs)
 else if mM 0 cs≠ -1 then(6,mM 0 cs)else if yB cs=false then(7,0)else(0,0)
theorem Vm(m:e.In b)(i:e.list 3 dg (.slice j a g) d)(k:d.length<=1099511627776)(l:∀cl∈d,Small 1099511627776 cl)
  (o:∀c,(bl<|d.take c).length<=1099511627776)(q:∀x∈bl d,x.size<=maxLen):
  aH 72 #[.slice j a g] b λc f=>c=.returned (.tuple #[.int .i64 (iB d).1,.int .i64 (iB d).2])∧au b f:=by
 have n:=TQ m i k l;have p:=λ{f:ag} (h:au b f)=>TR (m.B h i3) i k l;have r:=λ{f:ag} (h:au b f)=>TS (m.B h i3) i k l;have w:=λ{f:ag} (h:au b f)=>TT (m.B h i3) i k l;have y:=λ{f:ag} (h:au b f)=>TU (m.B h i3) i k l o q
 have h:ay (iB _=if mG 0 _ _≠ -1 then(3,mG 0 _ _)else if mv 0 _ _≠ -1 then(4,mv 0 _ _)else if nS _ 0 _≠ -1 then(5,nS _ 0 _)
  else if mM 0 _≠ -1 then(6,mM 0 d)else if yB _=false then(7,0)else(0,0)):=rfl
 generalize mG 0 [] d=z at n h;generalize mv 0 [] d=A at p h;generalize nS (nR d) 0 d=B at r h;generalize mM 0 d=C at w h;generalize yB d=f at y h;generalize iB d=s at h;by_cases q:z= -1
 ·by_cases t:A= -1
  ·by_cases x:B= -1
   ·by_cases D:C= -1
    ·cases f
     all_goals
      obtain rfl:=h.out;go_enter func72,ntmps72;go_wp2_with (first|(go_at_call 127;refine n.mono ?_;rintro c w1 ⟨rfl,f⟩)|(go_at_call 128;refine(p f).mono ?_;rintro c w2 ⟨rfl,k⟩;have i:=f.B k)|(go_at_call 129;refine(r i).mono ?_;rintro c w3 ⟨rfl,o⟩;have m:=i.B o)|(go_at_call 130;refine(w m).mono ?_;rintro c w4 ⟨rfl,v⟩;have u:=m.B v)|(go_at_call 131;refine(y u).mono ?_;rintro c l ⟨rfl,y⟩;have l:=u.B y))
      go_ret2
      exact⟨rfl,l⟩
    ·subst q t x;have l:s=(6,C):=by rw[h.out];simp[D]
     subst l;go_enter func72,ntmps72;go_wp2_with (first|(go_at_call 127;refine n.mono ?_;rintro c w1 ⟨rfl,f⟩)|(go_at_call 128;refine(p f).mono ?_;rintro c w2 ⟨rfl,k⟩;have i:=f.B k)|(go_at_call 129;refine(r i).mono ?_;rintro c w3 ⟨rfl,o⟩;have m:=i.B o)|(go_at_call 130;refine(w m).mono ?_;rintro c w4 ⟨rfl,v⟩;have u:=m.B v))
     go_ret2
     simp_all
   ·subst q t;have l:s=(5,B):=by rw[h.out];simp[x]
    subst l;go_enter func72,ntmps72;go_wp2_with (first|(go_at_call 127;refine n.mono ?_;rintro c w1 ⟨rfl,f⟩)|(go_at_call 128;refine(p f).mono ?_;rintro c w2 ⟨rfl,k⟩;have i:=f.B k)|(go_at_call 129;refine(r i).mono ?_;rintro c w3 ⟨rfl,o⟩;have m:=i.B o))
    go_ret2
    simp_all
  ·subst q;have l:s=(4,A):=by rw[h.out];simp[t]
   subst l;go_enter func72,ntmps72;go_wp2_with (first|(go_at_call 127;refine n.mono ?_;rintro c w1 ⟨rfl,f⟩)|(go_at_call 128;refine(p f).mono ?_;rintro c w2 ⟨rfl,k⟩;have i:=f.B k))
   go_ret2
   simp_all
 ·have l:s=(3,z):=by rw[h.out];simp[q]
  subst l;go_enter func72,ntmps72;go_wp2_with (go_at_call 127;refine n.mono ?_;rintro c w1 ⟨rfl,f⟩)
  go_ret2
  simp_all
section
open Go.Shelf
def Tryz.FX:mf:=⟨λ|169=>96|n=>n,λ|70=>172|9=>9|0=>0|72=>174|37=>131|127=>283|3=>3|5=>5|n=>n,λ|n=>n⟩
theorem Tryz.Y':aeK Tryz.prog Tryz.FX:=lay
theorem Tryz.Sa:Rz Tryz.prog Tryz.FX:=lay
def Tryz.FW:mf:=⟨λ|156=>95|165=>162|166=>94|169=>96|240=>161|241=>223|276=>222|277=>270|n=>n,λ|31=>23|9=>9|3=>3|4=>4|0=>0|20=>20|72=>174|76=>179|70=>172|37=>131|75=>178|127=>283|164=>343|5=>5|80=>48|n=>n,λ|n=>n⟩
theorem Tryz.Nt:aeL Tryz.prog Tryz.FW:=lay
theorem Tryz.I0:Rz Tryz.prog Tryz.FW:=lay
open Go.RowKit in
theorem Tryz.strings_Join(eY o c:Nat)(a:List ByteArray)(sep:ByteArray)(w:ag)(g:∀(j:Nat) x,a[j]?=some x->w.cell? ⟨eY,o+j,none⟩=some (.string x))(d:eY<w.1.size)(b:a.length<=140737488355328)(f:a.length<=c)(h:(tU (a.map (·.1.1)) sep.1.1).length<=140737488355328):
  aH 95 #[.slice (some ⟨eY,o,none⟩) a.length c,sep] w λe i=>e=.returned (.string ⟨(tU (a.map (·.1.1)) sep.1.1).toArray⟩)∧Below w.1.size w i:=Any.strings_Join Tryz.Nt Tryz.I0 eY o c a sep w g d b f h
def Tryz.YY:mf:=⟨λ|125=>146|128=>198|129=>199|n=>n,λ|46=>262|3=>3|51=>270|53=>110|4=>4|5=>5|9=>9|n=>n,λ|n=>n⟩
theorem Tryz.YX:aeM Tryz.prog Tryz.YY:=lay
theorem Tryz.bits_Len(x)(w:ag)(a:0<=x)(b:x<=18446744073709551615):
  aH 146 #[.int .u64 x] w λe c=>e=.returned (.int .i64<|Lib.bitLen x.toNat)∧c=w:=Any.bits_Len Tryz.YX x w a b
def Tryz.YW:mf:=⟨λ|122=>189|215=>248|n=>n,λ|3=>3|4=>4|n=>n,λ|n=>n⟩
theorem Tryz.YV:aeN Tryz.prog Tryz.YW:=lay
open Go.RowKit in
theorem Tryz.cmp_Compare_int(x y:Int)(w:ag):
  aH 189 #[.int .i64 x,.int .i64 y] w λe a=>e=.returned (.int .i64<|Lib.compareInt x y)∧a=w:=Any.cmp_Compare_int Tryz.YV x y w
def Tryz.Y5:mf:=⟨λ|316=>126|n=>n,λ|9=>9|3=>3|4=>4|37=>131|0=>0|127=>283|5=>5|n=>n,λ|n=>n⟩
theorem Tryz.Y4:aeO Tryz.prog Tryz.Y5:=lay
open Go.RowKit in
theorem Tryz.stringslite_Clone(s:ByteArray)(w:ag)(a:s.size<=281474976710656):
  aH 126 #[s] w λe b=>e=.returned s∧Below w.1.size w b:=Any.stringslite_Clone Tryz.Y4 s w a
end
def xr(S:Nat)(a:fg):Prop:=a.n.size<=S∧a.2<=S∧∀t∈a.2,t.t.size<=S
def vh(S:Nat)(c:bk):Prop:=∀a∈bt c,xr S a
def jI(cs:List bk):Nat:=(cs.map λc=>(bt c).length).sum
theorem eJ.B(h:eJ c F):F.t.size<=c.size∧F.a<=c.size:=⟨aI h.1,aI h.1⟩
theorem adz(h:eJ c F):(dr c F).1.t.size<=c.size:=by
 have:=h.B;unfold dr;grind
theorem adB:∀(n) (ts:List dW)(p:bT),eJ c p->(∀t∈ts,t.t.size<=c.size)->
  (∀t∈(gp c n ts p).1,t.t.size<=c.size)∧(gp c n ts p).1+p.a<=ts+(gp c n ts p).2.2.a:=by
 intro n;induction n with
 |zero=>intro ts p _ h;exact⟨h,cP _⟩
 |succ n l=>
  intro ts p e h;have b:=G' e;have d:∀t∈ts++ [(dr c p).1],t.t.size<=c.size:=by
   intro t j;obtain a|a:=gX.1 j;exact h t a;obtain rfl:=ir.1 a;exact adz e
  rw[gp];split;rename_i i;have m:=b.2 i;split;have f:=l _ _ (kE (k:=7) b.1) d;refine⟨f.1,?_⟩;have g:=hP (s:=c) (p:=(dr c p).2.2) 7;grind;refine⟨d,?_⟩;have g:=hP (s:=c) (p:=(dr c p).2.2) 6;grind;refine⟨h,?_⟩;have:=Pu (s:=c) (p:=p);grind
theorem KW{n:Nat}(h:eJ c F):xr c.size (dE c n F).1:=by
 have a:=h.B;unfold dE;split;split;have b:=kE (k:=5)<|kE (k:=2) h;have d:=adB n [] _ b af;have e:=(Pv n [] _ b).1.B.2;exact⟨a.1,by grind,d.1⟩;exact⟨a.1,af,af⟩;exact⟨a.1,af,af⟩
theorem Y8{N:Nat}:∀(n) (a:List fj)(p:bT),eJ c p->(∀y∈a,xr c.size y.a)->
  (∀y∈(fE c N n a p).1,xr c.size y.a)∧(fE c N n a p).1+p.a<=a+(fE c N n a p).2.2.a:=by
 intro n;induction n with
 |zero=>intro a p _ h;exact⟨h,cP _⟩
 |succ n m=>
  intro a p j h;have d:=kE (k:=9) j;have e:=vR (n:=N) d;have o:=hP (s:=c) (p:=p) 9;have f:∀y∈a++ [(⟨(dE c N (bR c p 9).2).1,(bR c p 9).1⟩:fj)],xr c.size y.a:=by
   intro t l;obtain b|b:=gX.1 l;exact h t b;obtain rfl:=ir.1 b;exact KW d
  rw[fE];split;rename_i i;have q:=e.2 i;split;have g:=m _ _ (kE (k:=7) e.1) f;refine⟨g.1,?_⟩;have r:=hP (s:=c) (p:=(dE c N (bR c p 9).2).2.2) 7;grind;grind;refine⟨h,?_⟩;have:=KX (s:=c) (N:=N) (p:=(bR c p 9).2);grind
theorem EL(c:bk):(bt c)=c.2.length+1:=by simp[bt]
theorem Wt{N:Nat}(h:eJ c F)(b:(fq c N F).2.1=true):
  vh c.size (fq c N F).1∧(bt (fq c N F).1)+F.a<=(fq c N F).2.2.a:=by
 have e:=vR (n:=N) h;have f:=KW (n:=N) h;rw[EL];revert b;unfold fq;simp only;split;rename_i b;have o:=e.2 b;have i:=kE (k:=10) e.1;have q:=hP (s:=c) (p:=(dE c N F).2.2) 10;split;have g:=Y8 (N:=N) N [] _ i af;have j:=g.2;rw[List.length_nil]at j;split;intro _;have l:=hP (s:=c) (p:=(fE c N N [] (bR c (dE c N F).2.2 10).2).2.2) 8;refine⟨?_,by grind⟩;intro d a;obtain rfl|a:=pF.1 a;exact f;obtain⟨y,m,rfl⟩:=ei.1 a;exact g.1 y m;grind;intro _;have l:=hP (s:=c) (p:=(bR c (dE c N F).2.2 10).2) 8;refine⟨?_,by grind⟩;intro d a;obtain rfl:d=(dE c N F).1:=by simpa[bt]using a
 exact f;grind
theorem aaG:∀(n) (cs:List bk)(p:bT),eJ c p->(∀d∈cs,vh c.size d)->jI cs<=p.a->∀b,(lQ c a n cs p).1=some b->
  (∀d∈b,vh c.size d)∧jI b<=c.size:=by
 intro n;induction n with
 |zero=>intro cs p _ _ _ b h;cases h
 |succ n j=>
  intro cs p e f i b;rw[lQ];split;intro h;cases h;exact⟨f,dI i e.B.2⟩;split;rename_i g;have k:=Wt (N:=a) e g;refine j _ _ (Mi e).1 ?_ ?_ _;grind;have:jI (cs++ [(fq c a p).1])=jI cs+(bt (fq c a p).1).length:=by simp[jI]
  omega;grind
theorem aaK{s:ByteArray}{cs:List bk}(h:(parse s).1=some cs):(∀c∈cs,vh s.size c)∧jI cs<=s.size:=
 aaG _ [] _ (po<|nK _) af (nK _) cs h
theorem adM(cs:List bk):cs<=jI cs:=by
 unfold jI;induction cs with
 |nil=>simp
 |cons c cs a=>
  rw[rV,List.sum_cons,uS,EL];omega
theorem adN(h:o∈d):(bt o)<=jI d:=by
 unfold jI;induction d with
 |nil=>grind
 |cons a d a=>
  grind
theorem adO(cs:List bk)(k):jI (cs.take k)<=jI cs:=by
 have e:jI cs=jI (cs.take k)+jI (cs.drop k):=by
  unfold jI;rw[<-List.sum_append,<-iL,List.take_append_drop]
 omega
theorem SJ(cs:List bk):∀a,(cs.foldl (λa cl=>jd a<|bt cl) a)<=a+jI cs:=by
 unfold jI;induction cs with
 |nil=>grind
 |cons c cs b=>
  intro a;have d:=b<|jd a<|bt c;have b:=KN (bt c) a;grind
theorem SL(cs:List bk):(bl cs)<=jI cs:=by
 have:=SJ cs [];simpa[bl]using this
theorem SA(h:c∈addN i r):c∈i∨c=r:=by
 unfold addN at h;grind
theorem SB(l:List fg):∀ {a:List ByteArray}{y:ByteArray},y∈jd a l->y∈a∨∃b∈l,y=b.n:=by
 induction l with
 |nil=>intro a y h;exact .inl h
 |cons b l b=>
  intro a y h;obtain h|⟨a,a,rfl⟩:=b h;obtain h|rfl:=SA h;grind;grind;grind
theorem SK(cs:List bk):∀ {a:List ByteArray}{y:ByteArray},y∈cs.foldl (λa cl=>jd a<|bt cl) a->y∈a∨∃c∈cs,∃b∈bt c,y=b.n:=by
 induction cs with
 |nil=>grind
 |cons c cs b=>
  intro a y h;obtain h|⟨d,a,h⟩:=b h;obtain h|h:=SB _ h;grind;grind;grind
theorem SM(h:c∈bl d):∃b∈d,∃a∈bt b,c=a.n:=by
 obtain h|h:=SK _ h;grind;omega
theorem vh.B{c:bk}(h:vh a c)(b:(bt c)<=a)(d:a<g):Small g c:=by
 rw[EL]at b;exact⟨aa,λb d=>⟨aI<|(h b d).2.1,aI<|(h b d).1,λt e=>aI<|(h b d).2.2 t e⟩⟩
theorem L0(s:ByteArray)(w:ag)(b:s.size<=281474976710656):aH 71 #[s] w λe a=>e=.returned s∧au w a:=by
 have a:=Tryz.stringslite_Clone s w b;go_enter func71,ntmps71;go_wp2_with (go_at_call 126;refine a.mono ?_;rintro e w2 ⟨rfl,a⟩);go_ret;exact⟨rfl,ae.eT a⟩
def eE(s:ByteArray):Option (List bk)×Int×Int:=
 if 600<s.size then(none,1,600)
 else match parse s with
  |(none,p)=>(none,2,(p:Int))
  |(some cs,_)=>if(iB cs).1=0 then(some cs,0,0)else(none,iB cs)
theorem abO(h:600<c.size):eE c=(none,1,600):=by unfold eE;grind
theorem abN(h: ¬600<c.size)(b:parse c=(none,a)):eE c=(none,2,(a:Int)):=by unfold eE;grind
theorem OI(h: ¬600<c.size)(b:parse c=(some d,a))(b: ¬(iB d).1=0):eE c=(none,iB d):=by
 unfold eE;grind
theorem OH(h: ¬600<c.size)(b:parse c=(some d,a))(b:(iB d).1=0):eE c=(some d,0,0):=by
 unfold eE;grind
def Sl(w:ag)(r:Option (List bk)×Int×Int)(e:Ending)(b:ag):Prop:=
 ∃a l c,e=.returned (.tuple #[.slice a l c,.int .i64 r.2.1,.int .i64 r.2.2])∧au w b∧
  ∀cs,r.1=some cs->∃k:ai,k.In b∧(∀b o,k b=some o->w<=b)∧k.list 3 dg (.slice a l c) cs
theorem U4(s:ByteArray)(w:ag)(b:s.size<=1099511627776):aH 38 #[s] w<|Sl w<|eE s:=by
 by_cases o:600<s.size
 ·rw[abO o];go_enter func38,ntmps38;go_wp2
  go_ret3
  exact⟨_,_,_,rfl,.T _ _,af⟩
 ·have m: ¬(600:Int)<(s.size:Int):=aa
  have a:=L0 s w aa;have p:=λ{f:ag}=>Vl (s:=s) (w:=f) b;obtain⟨r,b⟩:=aT<|parse s;have q:=b;rw[<-b]at p;obtain⟨v,b⟩:=r;cases v with
  |none=>
   rw[abN o q.symm];go_enter func38,ntmps38;go_wp2_with (first|(go_at_call 71;refine a.mono ?_;rintro e w1 ⟨rfl,d⟩)|(go_at_call 70;refine p.mono ?_;rintro e w2 ⟨b,l,c,rfl,i,-⟩))
   go_ret3
   exact⟨_,_,_,rfl,d.B i,af⟩
  |some cs=>
   have h:=aaK (s:=s) (cs:=cs)<|xM q;have g:=adM cs;have n:∀ {w2:ag} {k:ai} (_:k.In w2) {b:Option bC} {l c:Nat} (_:k.list 3 dg (.slice b l c) cs),aH 72 #[.slice b l c] w2 λe f=>e=.returned (.tuple #[.int .i64 (iB cs).1,.int .i64 (iB cs).2])∧au w2 f:=by
    intro w2 k g b l c f;refine Vm g f aa (λcl a=>(h.1 cl a).B (dI (adN a) h.2) aa) ?_ ?_
    ·intro j;have r:=SL<|cs.take j;have m:=adO cs j;omega
    ·intro x r;obtain⟨cl,a,j,m,rfl⟩:=SM r;have:=(h.1 _ a j m).1;unfold maxLen;omega
   by_cases j:(iB cs).1=0
   ·rw[OH o q.symm j];generalize iB cs=r at n j;obtain⟨x,A⟩:=r;obtain rfl:x=0:=j;go_enter func38,ntmps38;go_wp2_with (first|(go_at_call 71;refine a.mono ?_;rintro e w1 ⟨rfl,d⟩)|(go_at_call 70;refine p.mono ?_;rintro e w2 ⟨b,l,c,rfl,i,h⟩;obtain⟨k,g,y,f⟩:=h cs rfl;have u:=n g f;clear h)|(go_at_call 72;refine u.mono ?_;rintro e w3 ⟨rfl,m⟩))
    go_ret3
    exact⟨_,_,_,rfl,(d.B i).B m,λt t=>by
     cases t
     exact⟨k,g.B m i3,λz v t=>dI d.4<|y z v t,f⟩⟩
   ·rw[OI o q.symm j];have o:((iB cs).1 != 0)=true:=aJ
    generalize iB cs=r at n o j;obtain⟨x,A⟩:=r;go_enter func38,ntmps38;go_wp2_with (first|(go_at_call 71;refine a.mono ?_;rintro e w1 ⟨rfl,d⟩)|(go_at_call 70;refine p.mono ?_;rintro e w2 ⟨b,l,c,rfl,i,h⟩;obtain⟨k,g,y,f⟩:=h cs rfl;have u:=n g f;clear h)|(go_at_call 72;refine u.mono ?_;rintro e w3 ⟨rfl,m⟩))
    go_ret3
    exact⟨_,_,_,rfl,(d.B i).B m,af⟩
section
variable{P:bj}{kt et t:bB}{κ ν:Type}{key:κ->aq}{ok:κ->Prop}{enc:ν->aq}[DecidableEq κ]
variable{ops:Array bG}{rest:List bG}{o:bG}{a:bK}{Q:kh->bK->ag->Prop}{w:ag}{f:List (κ×ν)}{x:κ}
theorem iH(K:gO P kt key ok)(i:P.underlying t=some (.map kt et))(p:∀w,(zeroValue et).run P w=.ok k w)(b:cV o (yielded ops a.1)=true)(m y:cL)(h:o.2=.lookup t m y false)(g:a.eval m=L)(j:e.In w)(H:e.map ok key enc L f)
  (n:a.eval y=key x) (l:ok x)  (d:(aB f x).elim k enc=d8) (c:wpList P ops Q rest (a.put o.1 d8) w):wpList P ops Q (o::rest) a w:=
 Hb K i p b m y false h g j H n l<|aw d c
omit [DecidableEq κ] in
theorem aep{i:Nat}(b:cV o (yielded ops a.1)=true)(m:cL)(e:o.2=.field t m i)(d:a.eval m=k)(f:∀w,(Di t k i).run P w=.ok L w)(c:wpList P ops Q rest (a.put o.1 L) w):wpList P ops Q (o::rest) a w:=by
 refine wpList_want b λb b=>?_;unfold jO;simp[execOp,e,d,f w,uX];exact b _ _ c
end
abbrev om:Nat×Bool->Value:=λp=>.agg #[.int .i64 p.1,p.2]
theorem Hd(w:ag):(zeroValue 107).run Tryz.prog w=.ok (.agg #[.int .i64 0,false]) w:=ah
theorem aaL(q)(d:Bool)(w:ag):(Di 107 (.agg #[.int .i64 q,d]) 1).run Tryz.prog w=.ok d w:=by cases d<;>kernel_rfl
abbrev gq:=List (ByteArray× (Nat×Bool))
def x_(f:gq)(n:ByteArray):Bool:=(aB f n).elim false (·.2)
def Cn(f:gq)(a:fg):gq:=cK f a.n (a.2,x_ f a.n)
def oh(f:gq)(l:List fg):gq:=l.foldl Cn f
def ur(f:gq)(c:bk):gq:=if c.2.length=0 then oh f (bt c)else cK (oh f (bt c)) c.1.n (c.1.2,true)
def eC(cs:List bk):gq:=cs.foldl ur []
variable{b8:gq}
theorem aac(b:e2[a]?=some v):oh b8 (e2.take<|a+1)=Cn (oh b8<|e2.take a) v:=by
 unfold oh;rw[eA,b,iZ];rfl
theorem ZV(b:d[a]?=some o):eC (d.take<|a+1)=ur (eC<|d.take a) o:=by
 unfold eC;rw[eA,b,iZ];rfl
theorem Vn{w:ag}(G:e.In w)(b2:e.list 3 dg (.slice j a g) d)(_hn:d.length<=1099511627776)(c1:∀cl∈d,Small 1099511627776 cl):
  aH 73 #[.slice j a g] w λr X=>∃I,r=.returned (some I)∧w.1.size<=I∧au w X∧aF X aL cr om I (eC d):=by
 obtain⟨rfl,a8⟩:=b2.O G;have e8:= @iW Tryz.prog;go_enter func73,ntmps73;go_wp2;have a4:aF _ aL cr om w.1.size<|eC []:=aF.I
 go_loopw [11] (λi wr=>∃(k:Nat),k<=d.length∧i=.int .i64 k∧au w wr∧aF wr aL cr om w.1.size (eC<|d.take k)) (λi _=>d.length-(intOf i).toNat)
 case atStart=>exact⟨0,aa,rfl,ae.al,a4⟩
 case round=>
  obtain⟨k,e5,rfl,n,m⟩:=hrel;by_cases b9:k<d.length
  ·obtain⟨y,H⟩:∃y,d[k]?=some y:=⟨_,cy b9⟩;obtain⟨e1,f2,cc,rfl,e2,S,b0⟩:=a8 k y H;obtain⟨Z,a1,a0,a2,rfl⟩:=S.B;have t:=c1 y<|cA H;let⟨d8,d9,e0⟩:=n.ab b0 id;have M:ay<|eC _=ur _ y:=ZV H;have aK:aL _:=pU (t.2 _<|jM ..).2.1;have b6:=(G.B n i3).B ((ae.T _ wr).I<|.cells #[y.1.n,.slice Z y.1.2.length a1,.slice a0 y.2.length a2] 236) i3;go_wp2_with (go_at_call 132;refine(xS b6 S<|aI t.1).mono ?_;rintro r w2 ⟨O,c7,c3,rfl,s,f1,b7,c4,E⟩;obtain⟨c9,d0,c2⟩:=E.I;obtain⟨rfl,rfl,rfl⟩:O=c9∧c7=(bt y).length∧c3=d0:=aV c2);obtain⟨d1,c8,V,a9⟩:=E.U b7;obtain⟨rfl,rfl⟩:O=d1∧c3=c8:=aV V
   clear V;have a7:=(n.I<|.cells #[y.1.n,.slice Z y.1.2.length a1,.slice a0 y.2.length a2] 236).B s;have e6:(bt y).length<=1099511627776:=by have:=t.1;simp[bt];omega
   have A:aF w2 aL cr om w.1.size<|eC<|d.take k:=(m.B ae.al id).B s id;have f0:=s.4;have br:=n.4;have e7:=m.O;have Q:=s.dY id;obtain⟨c,D⟩:=aT<|eC<|d.take k;rw[<-D]at A;have K:ay<|c=eC (d.take k):=D;clear D m
   go_loopw [18] (λi Y=>∃(b:Nat),b<=(bt y).length∧i=.int .i64 b∧ae (·=w.1.size) w2 Y∧aF Y aL cr om w.1.size (oh c<|(bt y).take b)) (λi _=>(bt y).length-(intOf i).toNat)
   case atStart=>exact⟨0,nK _,rfl,ae.T _ _,A⟩
   case round=>
    clear A;obtain⟨b,e4,rfl,o,h⟩:=hrel;by_cases b5:b<(bt y).length
    ·obtain⟨z,u⟩:∃z,(bt y)[b]?=some z:=⟨_,cy b5⟩;obtain⟨a3,f3,d7,rfl,e3,a6,b1⟩:=a9 b z u;obtain⟨d5,d6,rfl⟩:=a6.B;have c6:=t.2 z<|cA u;have W:aL z.n:=pU c6.2.1;have b3: ¬a3=w.1.size:=by
      obtain⟨f4,ax⟩:=E.T;obtain x|x:=c4.2 _ _ ax
      ·have:=G.O x;omega
      ·simp at x;omega
     obtain⟨f5,f6⟩:=o.cB b1 b3;have N:ay<|oh c ((bt y).take<|b+1)=Cn (oh c<|(bt y).take b) z:=aac u;clear u;generalize oh c ((bt y).take b)=f at h N;have R:=h.B ((ae.T bE wr).I<|.cells #[z.n,.slice d5 z.2.length d6] 233) id;obtain⟨J,U⟩:∃J:Nat,(aB f z.n).elim (Ra #[.int .i64 0,false]) om=.agg #[.int .i64 J,x_ f z.n]:=by
      unfold x_;cases aB f z.n with
      |none=>exact⟨0,rfl⟩
      |some d2=>exact⟨d2.1,rfl⟩
     have L:ay<|Cn f z=cK f z.n (z.2.length,x_ f z.n):=rfl;generalize x_ f z.n=P at U L;go_wp2_with (first|(at_lookup;refine iH bZ underlying97 Hd rfl (.tmp 28) (.tmp 30) rfl rfl (bU _) R.T rfl W U ?_;refine aep rfl (.tmp 31) rfl rfl (aaL J P) ?_)|(at_mapUpdate;refine hZ bZ underlying97 rfl (.tmp 22) (.tmp 24) (.tmp 33) rfl rfl R rfl W (z.2.length,P) rfl ?_;intro d3 F B));go_roundw
     case rel=>exact⟨b+1,aa,ba,(o.I _).B F,by rw[N.out,L.out];exact B⟩
     case measure=>simp[intOf];omega
    ·have b4:(bt y).take b=bt y:=fo aa;rw[b4]at h;obtain⟨f7,f8,f9,_,_,_⟩:=bq<|o.O Q aa;have T:au w wr:=a7.V o λv (e:v=w.1.size)=>.inl aa;by_cases p:y.2.length=0
     ·have q:ay<|ur c y=oh c (bt y):=by show _=_;unfold ur;rw[if_pos p]
      have C:decide (y.2.length=0)=true:=aV p
      clear p;go_wp2_with (go_at_call 133;refine(vU _ _ _ _ _ _ _ _).mono ?_;rintro r d4 ⟨rfl,l⟩;rw[C]);go_roundw
      case rel=>exact⟨k+1,aa,ba,T.B l,by rw[M.out,<-K.out,q.out];exact h.B l id⟩
      case measure=>simp[intOf];omega
     ·have q:ay<|ur c y=cK (oh c<|bt y) y.1.n (y.1.2.length,true):=by show _=_;unfold ur;rw[if_neg p]
      have C:decide (y.2.length=0)=false:=aV p
      generalize oh c (bt y)=f at h q;go_wp2_with (first|(go_at_call 133;refine(vU _ _ _ _ _ _ _ _).mono ?_;rintro r d4 ⟨rfl,l⟩;rw[C];have a5:=h.B l id;obtain⟨g0,g1,g2,_,_,_⟩:=bq<|l.O (o.O Q aa) id)|(at_mapUpdate;refine hZ bZ underlying97 rfl (.tmp 38) (.tmp 41) (.tmp 46) rfl rfl a5 rfl aK (y.1.2.length,true) rfl ?_;intro d3 F B));go_roundw
      case rel=>exact⟨k+1,aa,ba,(T.B l).V F λv (e:v=w.1.size)=>.inl aa,by rw[M.out,<-K.out,q.out];exact B⟩
      case measure=>simp[intOf];omega
  ·have b8:d.take k=d:=fo aa;rw[b8]at m;go_wp2;go_ret;exact⟨_,rfl,cP _,n,m⟩
end
section
theorem laidOut:laidOutB Tryz.prog=true:=ah
theorem Yv:Dp Tryz.prog 116:=J8 laidOut bb bb ah ah
abbrev aC:=Nat×Nat×Nat
def bh(t:aC):Value:=.agg #[.int .u64 t.1,.int .u64 t.2.1,.int .u64 t.2.2]
abbrev bF:aC->Prop:=λt=>t.1<18446744073709551616∧t.2.1<18446744073709551616∧t.2.2<18446744073709551616
theorem Ma:Tryz.prog.cellsOf 116=3:=ah
theorem L9:Tryz.prog.cellsOf 114=1:=ah
variable{q:ByteArray->List aC}{b3:List aC}{b8:gq}{b9:aC}
theorem Yo(d:bF b9):∃l,keyOf Tryz.prog 116 (bh b9)=some l:=by
 obtain⟨a,b,c⟩:=b9;obtain⟨f,g,h⟩:=d;have d:Tryz.prog.keyType 116=true:=ah;have d:(bh (a,b,c)).formed Tryz.prog 116=true:=by
  unfold J9 bh;rw[underlying116,Ma];rfl
 have e:∀(d:Nat) {n:Nat},n<18446744073709551616->Tryz.prog.keyLits (d+1) 114 [.int .u64 n]=some [.int .u64 n]:=by
  intro d n i;unfold AB;rw[underlying114];exact if_pos ⟨rfl,by simp[Lit.wf,RA,RB,Kd,Iy];omega⟩
 have i:∀d,Tryz.prog.keyLits (d+2) 116 [.int .u64 a,.int .u64 b,.int .u64 c]=some [.int .u64 a,.int .u64 b,.int .u64 c]:=by
  intro d;unfold AB;rw[underlying116];simp[Ma,L9,e d f,e d g,e d h,iK,Iz]
 unfold keyOf;show ∃l,(Tryz.prog.keyLits 523 116 [.int .u64 a,.int .u64 b,.int .u64 c]).map _=some l;simp_all
theorem iQ:gO Tryz.prog 116 bh bF:=.B Yv (λ_ h=>Yo h) (λx y _ _ h=>by
 obtain⟨a,b,c⟩:=x;obtain⟨d,e,f⟩:=y;have a:=by simpa[bh]using h
 grind)
abbrev eF:Nat->Value:=λb=> (some b)
structure aO(w:ag)(sb:Nat)(bs:List (ByteArray×Nat))(F:ByteArray->List aC):Prop where
 top:aF w aL cr eF sb bs
 abW:∀p∈bs,aF w bF bh bX p.2 (aR (F p.1))
 apart:(bs.map js).Nodup
 off:∀p∈bs,p.2≠sb
theorem aO.O{w w':ag}(h:aO w a f q)(c:ae N w w')(b: ¬N a)(d:∀p∈f,¬N p.2):aO w' a f q:=
 ⟨h.1.B c b,λp b=>(h.2 p b).B c<|d p b,h.3,h.4⟩
theorem yR[DecidableEq n](h:M∉f.map bD)(v:Q):cK f M v=f++ [(M,v)]:=by
 unfold cK;grind
theorem Vo{w:ag}(Q:e.In w)(I:e.list 1 ib (.slice j a g) i)(_hn:i.length<=1099511627776)(N:i.Nodup)(P:∀S∈i,aL S):
  aH 74 #[.slice j a g] w λz u=>∃q c,z=.returned (some q)∧w.1.size<=q∧au w u∧aO u q c (λ_=> [])∧c.map bD=i∧∀p∈c,w<=p.2:=by
 obtain⟨rfl,F⟩:=I.O Q;have Y:= @iW Tryz.prog;go_enter func74,ntmps74;go_wp2;have D:aO _ w.1.size [] (λ_=> []):=⟨aF.I,af,af,af⟩;go_loopw [9] (λo wr=>∃(k:Nat)(c:List<|ByteArray×Nat),k<=i.length∧o=.int .i64 k∧au w wr∧aO wr w.1.size c (λ_=> [])∧c.map bD=i.take k∧(∀p∈c,w.1.size<=p.2)) (λo _=>i.length-(intOf o).toNat);exact⟨0,[],aa,rfl,ae.al,D,rfl,af⟩;obtain⟨k,c,X,rfl,f,d,h,t⟩:=hrel;obtain⟨L,y,l⟩|L:=jf i k;obtain⟨U,a1,cc,rfl,W,rfl,H⟩:=F k y l;have A:=f.Y (H 0 aA) id;simp at A;have R:=P y<|cA l;have O:y∉c.map bD:=by
  rw[h];intro M;obtain⟨a0,J,s⟩:=ly M;rw[ix]at J;rw[List.getElem_take]at s;have r:=(iw.1 l).2;have:=(AE N).1<|s.trans r.symm;omega
 have v:ay<|i.take (k+1)=i.take k++ [y]:=by show _=_;rw[eA,l];rfl
 have Z:=d.1.O;have B:aF (wr.alloc<|.map #[] 0) _ _ _ _ _:=d.1.B ae.al id;have x:ay<|cK _ y _=c++ [(y,wr.1.size)]:=yR O _;go_wp2_with (at_mapUpdate;refine hZ bZ underlying99 rfl (.tmp 13) (.tmp 14) (.tmp 15) rfl rfl B rfl R wr.1.size rfl ?_;intro a2 n C);go_roundw;refine⟨k+1,c++ [(y,wr.1.size)],aa,ba,(f.I _).V n λm (e:m=w.1.size)=>.inl aa,⟨jy x.out C,?_,?_,?_⟩,by rw[v.out,<-h,iL];rfl,?_⟩;intro p b;obtain b|b:=gX.1 b;exact((d.2 p b).B ae.al id).B n<|d.4 p b;cases ir.1 b;exact(aF.I (w:=wr)).B n aa;rw[iL,sf];refine⟨d.3,af,?_⟩;intro T E m G;obtain⟨p,b,rfl⟩:=ei.1 E;have r:=(d.2 p b).O;have V:m=wr.1.size:=aV G;omega;intro p b;obtain b|b:=gX.1 b;exact d.4 p b;obtain rfl:=ir.1 b;show wr.1.size≠_;omega;intro p b;obtain b|b:=gX.1 b;exact t p b;obtain rfl:=ir.1 b;exact f.4;exact dK;have K:i.take k=i:=fo aa;rw[K]at h;go_wp2;go_ret;exact⟨_,c,rfl,cP _,f,d,h,t⟩
def uB(g:List ByteArray)(c:bk):Bool:=bL g c.1.n&& !decide (c.2.length=0)
def fG(g:List ByteArray)(cs:List bk):List bk:=cs.filter (uB g)
theorem ab5(b:d[a]?=some o):fG i (d.take<|a+1)=if uB i o then fG i (d.take a)++ [o]else fG i<|d.take a:=by
 unfold fG;rw[eA,b,D6];grind
theorem ab4(g:List ByteArray)(cs:List bk):(fG g cs)<=cs.length:=pK _ _
theorem TY(I:e.In b)(U:aF b aL cr bX g<|aR i)(T:e.list 3 dg (.slice j l a) d)(_hn:d.length<=1099511627776)(Z:∀cl∈d,Small 1099511627776 cl):
  aH 140 #[some g,.slice j l a] b λu L=>∃j a,u=.returned (.slice j (fG i d) a)∧au b L∧∃k,k.In L∧ai.Ext b e k∧k.list 3 dg (.slice j (fG i d) a) (fG i d):=by
 obtain⟨rfl,R⟩:=T.O I;go_enter func140,ntmps140;go_wp2;have X:aM b b.1.size 236 3 dg e _<|fG i<|d.take 0:=.m I;go_loopw [5,12] (λa2 C wr=>∃(k:Nat),k<=d.length∧C=.int .i64 k∧au b wr∧aM wr b.1.size 236 3 dg e a2 (fG i<|d.take k)) (λ_ C _=>d.length-(intOf C).toNat);exact⟨0,aa,rfl,ae.T _ b,X⟩;obtain⟨k,G,rfl,o,c⟩:=hrel;obtain⟨W,y,A⟩|W:=jf d k;obtain⟨a8,K,cc,rfl,b0,D,S⟩:=R k y A;obtain⟨f,m,h,n,rfl⟩:=D.B;have a1:=Z y<|cA A;let⟨a5,a6,a7⟩:=o.ab S id;have t:ay<|fG _ _=if uB _ y then fG _ _++ [y]else fG i<|d.take k:=ab5 A;have b1:(fG i<|d.take k).length<=1099511627776:=by
  have:=ab4 i<|d.take k;rw[ix]at this;omega
 have B:=pU (a1.2 _<|jM ..).2.1;have v:=(U.B o id).B ((ae.T bE _).I<|.cells #[y.1.n,.slice f y.1.2.length m,.slice h y.2.length n] 236) id;cases z:bL i y.1.n with
 |false=>
  have s:aB (aR i) y.1.n=none:=by rw[hE,if_neg (by grind)]
  have q:ay<|uB i y=false:=by show _=_;unfold uB;rw[z];rfl
  go_wp2_with (at_lookup;refine jo bZ underlying249 ea rfl (.tmp 17) (.tmp 20) rfl rfl (bU _) v.T rfl B s ?_);go_roundw;exact⟨k+1,aa,ba,(o.I _).I _,by rw[t.out,q.out];exact c.I (ae.al.I _) i2 i3⟩;exact dK
 |true=>
  have s:aB (aR i) y.1.n=some ():=by rw[hE,if_pos z]
  have q:ay<|uB i y= !decide (y.2.length=0):=by show _=_;unfold uB;rw[z];rfl
  obtain⟨M,F⟩:=aT (decide<|y.2.length=0);have x:=λb=>vU y.1.n f h y.1.2.length m y.2.length n b;rw[<-F]at x q;clear F;obtain⟨b3,b4,b5,_,_,_⟩:=bq<|ic wr (.cells #[y.1.n,.slice f y.1.2.length m,.slice h y.2.length n] 236)<|.cells #[] 251;cases M with
  |true=>
   go_wp2_with (first|(at_lookup;refine gJ bZ underlying249 ea rfl (.tmp 17) (.tmp 20) rfl rfl (bU _) v.T rfl B s ?_)|(go_at_call 133;refine(x _).mono ?_;rintro u a3 ⟨rfl,p⟩));go_roundw;exact⟨k+1,aa,ba,((o.I _).I _).B p,by rw[t.out,q.out];exact(c.I (ae.al.I _) i2 i3).I p i2 i3⟩;exact dK
  |false=>
   go_wp2_with (first|(at_lookup;refine gJ bZ underlying249 ea rfl (.tmp 17) (.tmp 20) rfl rfl (bU _) v.T rfl B s ?_)|(go_at_call 133;refine(x _).mono ?_;rintro u a3 ⟨rfl,p⟩;have H:=(c.I (((ae.T bE wr).I<|.cells #[y.1.n,.slice f y.1.2.length m,.slice h y.2.length n] 236).I<|.cells #[] 251) i2 i3).I p i2 i3;have E:=((o.I<|.cells #[y.1.n,.slice f y.1.2.length m,.slice h y.2.length n] 236).I<|.cells #[] 251).B p;have b2:=E.4;obtain⟨ax,c1,c2,_,_,_⟩:=bq<|p.O (ic wr (.cells #[y.1.n,.slice f y.1.2.length m,.slice h y.2.length n] 236)<|.cells #[] 251) id)|(at_builtin;refine tz Mt rfl (.tmp 30) (.tmp 32) rfl H rfl y #[y.1.n,.slice f y.1.2.length m,.slice h y.2.length n] D rfl (by simp[eP]) rfl af aa aa aa ?_;intro a9 a4 b8 Y a0));go_roundw;exact⟨k+1,aa,ba,E.V a0 λr w=>.inl (H.B r w).1,by rw[t.out,q.out];exact Y⟩;exact dK
 have V:fG i (d.take k)=fG i d:=by rw[fo aa]
 rw[V]at c;obtain⟨b6,b7,rfl⟩:=c.O;go_wp2;go_ret;obtain⟨J,N,O,P,Q⟩:=c.U λJ G a b9=>dg.I G;exact⟨_,_,rfl,o,J,N,⟨O,λr K w=>(P r K w).imp id λe=>(c.B r e).1⟩,Q⟩
section
variable{P:bj}{kt et t:bB}{κ ν:Type}{key:κ->aq}{ok:κ->Prop}{enc:ν->aq}[DecidableEq κ]
variable{ops:Array bG}{rest:List bG}{o:bG}{a:bK}{Q:kh->bK->ag->Prop}{w:ag}{f:List (κ×ν)}{x:κ}{b:Nat}
theorem zk(K:gO P kt key ok)(n:P.underlying t=some (.map kt et))(d:cV o (yielded ops a.1)=true)(m y u:cL)(l:o.2=.insert t m y u)(k:a.eval m=.map (some b))(H:aF w ok key enc b f)
  (q:a.eval y=key x) (p:ok x) (v:ν) (m:a.eval u=enc v) (j:∀c,ae (·=b) w c->aF c ok key enc b (cK f x v)->wpList P ops Q rest (a.put o.1 aj) c):wpList P ops Q (o::rest) a w:=by
 refine wpList_want d λc i=>?_;obtain⟨c,c,c,e⟩:=H;obtain⟨d,g,g,h⟩:=e.O K w p v c n;unfold jO;simp[execOp,l,k,q,m,g];exact i _ _<|j _ (rk w b _) ⟨d,_,nz c,h⟩
end
def TC(ab:List (ByteArray×ByteArray))(n o:ByteArray):Bool:=bL ab (n,o)&&bL ab (o,n)
def C2(ab:List (ByteArray×ByteArray))(n:ByteArray)(g:List ByteArray)(o:ByteArray):List ByteArray:=if TC ab n o then gA g o else g
def lu(ab:List (ByteArray×ByteArray))(n:ByteArray)(a:List ByteArray):List ByteArray:=a.foldl (C2 ab n) [n]
theorem adL(b:i[a]?=some r):lu f c (i.take<|a+1)=C2 f c (lu f c<|i.take a) r:=by
 unfold lu;rw[eA,b,iZ];rfl
theorem TX{i:ai}{w:World}(O:i.In w){n:ByteArray}(a:aL n){Q:Nat}{ab:List _}(H:kU w Q ab){D:Option Addr}{P E:Nat}{cs:List bk}(a2:i.list 3 dg (.slice D P E) cs)(a6:cs.length<=1099511627776)(a8:∀cl∈cs,Small 1099511627776 cl)
  (G:∀k,(bl<|cs.take k).length<=1099511627776)(J:∀b3∈bl cs,b3.size<=maxLen):
  aH 139 #[n,.slice D P E,some Q] w λv R=>∃x,v=.returned (some x)∧w.1.size<=x∧au w R∧aF R aL Value.string bX x (aR<|lu ab n<|bl cs):=by
 have b9:= @run_makeMap Tryz.prog;have b8:=H.O;have W:aF _ aL Value.string bX w.1.size _:=aF.I;go_enter func139,ntmps139;go_wp2_with (first|(refine zk bZ underlying249 rfl (.tmp 14) (.tmp 15) (.tmp 16) rfl rfl W rfl a () rfl ?_;intro w1 N I;have K:=((ae.T bE w).I<|.map #[] 0).V N λu (i:u=w.1.size)=>.inl aa;have b0:=O.B K i3)|(go_at_call 185;refine(Lv b0 a2 a6 a8 G).mono ?_;rintro v w2 ⟨T,c2,rfl,A,c1,a3,b1,z⟩));generalize M:bl cs=g at z J;have Z:=(z.O a3).2;have b6:=by have:=G cs.length;rw[List.take_length,M]at this;exact this
 have L:=K.B A;have b2:=N.4;have ax:=A.4;simp at b2;have X:=I.B A id;have V:=H.B L id;have a0:∀l t,Option.some (⟨l,t,none⟩:Addr)=T->¬l=w.1.size:=by
  intro l t i v;subst i;obtain⟨c3,a7⟩:=z.T;have b7:=I.O;obtain F|F:=b1.2 _ _ a7;have:=O.O F;omega;omega
 go_loopw [21] (λC wr=>∃(k:Nat),k<=g.length∧C=.int .i64 k∧ae (·=w.1.size) w2 wr∧aF wr aL Value.string bX w.1.size (aR<|lu ab n<|g.take k)) (λC _=>g.length-(intOf C).toNat);exact⟨0,aa,rfl,.T _ _,X⟩;obtain⟨k,b5,rfl,e,q⟩:=hrel;obtain⟨a5,y,B⟩|a5:=jf g k;obtain⟨l,t,cc,rfl,b4,rfl,a1⟩:=Z k y B;have U:=e.Y (a1 0 aA)<|a0 l t rfl;simp[Nat.mul_one]at U;have b:=J y<|List.mem_of_getElem? B;have j:Hid<|lu ab n _=C2 _ n _ y:=adL B;generalize lu ab n (g.take k)=h at q j;have m:=V.B e aa;have p:kU (wr.alloc<|.cells #[] 251) _ _:=m.B ae.al id;have r:=q.B (((ae.T bE _).I<|.cells #[] 251).I<|.cells #[] 251) id;have c:Hid<|C2 _ n h y=if bL _ _&&bL ab (y,n)then gA h y else h:=rfl;cases s:bL ab (n,y)with
 |false=>
  have o:aB (aR ab) (n,y)=none:=by rw[hE,if_neg<|cw s]
  rw[s]at c;cases d:bL ab (y,n)with
  |false=>
   have f:aB (aR ab) (y,n)=none:=by rw[hE,if_neg<|cw d]
   go_wp2_with (first|(at_lookup;refine jo iR underlying247 ea rfl (.tmp 26) (.tmp 29) rfl rfl (bU _) m.T rfl ⟨a,b⟩ o ?_)|(at_lookup;refine jo iR underlying247 ea rfl (.tmp 34) (.tmp 37) rfl rfl (bU _) p.T rfl ⟨b,a⟩ f ?_));go_roundw;exact⟨k+1,aa,ba,(e.I _).I _,by rw[j.out,c.out];exact r⟩;exact dK
  |true=>
   have f:aB (aR ab) (y,n)=some ():=by rw[hE,if_pos d]
   go_wp2_with (first|(at_lookup;refine jo iR underlying247 ea rfl (.tmp 26) (.tmp 29) rfl rfl (bU _) m.T rfl ⟨a,b⟩ o ?_)|(at_lookup;refine gJ iR underlying247 ea rfl (.tmp 34) (.tmp 37) rfl rfl (bU _) p.T rfl ⟨b,a⟩ f ?_));go_roundw;exact⟨k+1,aa,ba,(e.I _).I _,by rw[j.out,c.out];exact r⟩;exact dK
 |true=>
  have o:aB (aR ab) (n,y)=some ():=by rw[hE,if_pos s]
  rw[s]at c;cases d:bL ab (y,n)with
  |false=>
   have f:aB (aR ab) (y,n)=none:=by rw[hE,if_neg<|cw d]
   rw[d]at c;go_wp2_with (first|(at_lookup;refine gJ iR underlying247 ea rfl (.tmp 26) (.tmp 29) rfl rfl (bU _) m.T rfl ⟨a,b⟩ o ?_)|(at_lookup;refine jo iR underlying247 ea rfl (.tmp 34) (.tmp 37) rfl rfl (bU _) p.T rfl ⟨b,a⟩ f ?_));go_roundw;exact⟨k+1,aa,ba,(e.I _).I _,by rw[j.out,c.out];exact r⟩;exact dK
  |true=>
   have f:aB (aR ab) (y,n)=some ():=by rw[hE,if_pos d]
   rw[d]at c;clear d;have S:Hid<|cK (aR h) y ()=aR (gA h y):=wM h y;go_wp2_with (first|(at_lookup;refine gJ iR underlying247 ea rfl (.tmp 26) (.tmp 29) rfl rfl (bU _) m.T rfl ⟨a,b⟩ o ?_)|(at_lookup;refine gJ iR underlying247 ea rfl (.tmp 34) (.tmp 37) rfl rfl (bU _) p.T rfl ⟨b,a⟩ f ?_)|(at_mapUpdate;refine hZ bZ underlying249 rfl (.tmp 45) (.tmp 46) (.tmp 47) rfl rfl r rfl b () rfl ?_;intro c4 a9 Y));go_roundw;exact⟨k+1,aa,ba,((e.I _).I _).B a9,by rw[j.out,c.out];simp only[Bool.and_self,if_true];rw[<-S.out];exact Y⟩;exact dK
 have a4:g.take k=g:=List.take_of_length_le aa;rw[a4,<-M]at q;go_wp2;go_ret;exact⟨_,rfl,Nat.le_refl _,L.V e λu (i:u=w.1.size)=>.inl aa,q⟩
theorem qJ(g:e.In b)(H:e.map bF bh bX k<|aR b3)(a c d)(h:bF (a,c,d)):
  aH 144 #[k,.agg #[.int .u64 a,.int .u64 c,.int .u64 d]] b λf i=>f=.returned (.bool<|bL b3 (a,c,d))∧au b i:=by
 have i:e.In<|b.alloc<|.cells #[.int .u64 a,.int .u64 c,.int .u64 d] 116:=g.B ae.al i3;cases g:bL b3 (a,c,d)with
 |false=>
  have f:aB (aR b3) (a,c,d)=none:=by rw[hE,if_neg<|cw g]
  go_enter func144,ntmps144;go_wp2_with (at_lookup;refine jo iQ underlying123 ea rfl (.tmp 8) (.tmp 9) rfl rfl i H rfl h f ?_);go_ret;exact⟨rfl,ae.al.I _⟩
 |true=>
  have f:aB (aR b3) (a,c,d)=some ():=by rw[hE,if_pos g]
  go_enter func144,ntmps144;go_wp2_with (at_lookup;refine gJ iQ underlying123 ea rfl (.tmp 8) (.tmp 9) rfl rfl i H rfl h f ?_);go_ret;exact⟨rfl,ae.al.I _⟩
theorem jZ(w:ag):(zeroValue 123).run Tryz.prog w=.ok (.map none) w:=ah
def cd(a:List (ByteArray×Nat))(F:ByteArray->List aC)(n:ByteArray):List aC:=if(aB a n).isSome then F n else []
theorem ij[DecidableEq n]{v:Q}(h:aB f M=some v):(M,v)∈f:=by
 unfold aB at h;rw[mR]at h;grind
theorem aO.Z{F:ByteArray->List aC}(h:aO b a f F)(n:ByteArray):
  ai.map (λd=>b.1[d]?) bF bh bX ((aB f n).elim (.map none) eF)<|aR<|cd f F n:=by
 cases c:aB f n with
 |none=>
  have:cd f F n= []:=by unfold cd;rw[c];rfl
  rw[this];exact .inl ⟨rfl,rfl⟩
 |some d=>
  have:cd f F n=F n:=by unfold cd;rw[c];rfl
  rw[this];exact(h.2 _<|ij c).T
theorem Vx(j:aO b a f q)(m:aL c)(d e g)(n:bF (d,e,g)):
  aH 86 #[some a,c,.agg #[.int .u64 d,.int .u64 e,.int .u64 g]] b λh i=>h=.returned (.bool<|bL (cd f q c) (d,e,g))∧au b i:=by
 have i:aO (b.alloc<|.cells #[.int .u64 d,.int .u64 e,.int .u64 g] 116) _ _ q:=j.O ae.al id i2;obtain⟨u,k⟩:=gB<|(aB f c).elim (.map none) eF;have j:=i.Z c;rw[k]at j;have l:=qJ (bU _) j d e g n;go_enter func86,ntmps86;go_wp2_with (first|(at_lookup;refine iH bZ underlying99 jZ rfl (.tmp 7) (.tmp 8) rfl rfl (bU _) i.1.T rfl m k ?_)|(go_at_call 144;refine l.mono ?_;rintro h w2 ⟨rfl,d⟩));go_ret;exact⟨rfl,ae.al.B d⟩
def lV(F:ByteArray->List aC)(n:ByteArray)(ts:List aC):ByteArray->List aC:=λm=>if m=n then ts else F m
theorem wT(F:ByteArray->List aC)(n:ByteArray)(ts:List aC):lV F n ts n=ts:=if_pos rfl
theorem wS(F:ByteArray->List aC)(h:c≠r)(ts:List aC):lV F r ts c=F c:=if_neg h
theorem adX(F:ByteArray->List aC)(n:ByteArray):lV F n (F n)=F:=by
 funext m;unfold lV;grind
theorem aO.V{F:ByteArray->List aC}(h:aO b6 g f F)(n:aB f c=some a)(q:ae (·=a) b6 b)(s:aF b bF bh bX a<|aR b3)(t:(f.map bD).Nodup):
  aO b g f<|lV F c b3:=by
 have o:=ij n;refine⟨h.1.B q λr=>h.4 _ o aa,λp l=>?_,h.3,h.4⟩;by_cases e:p.1=c;have d:aB f c=some p.2:=by
  obtain⟨j,k,m⟩:=ly l;refine F0 t (j:=j) ?_;rw[cy k,m,<-e]
 rw[n]at d;cases dw d;rw[e,wT];exact s;rw[wS _ e];refine(h.2 p l).B q λr=>e ?_;obtain⟨i,e,m⟩:=ly l;obtain⟨j,k,l⟩:=ly o;have d:(f.map js)[i]'(aw di e)=a:=aJ
 have e:(f.map js)[j]'(aw di k)=a:=aJ
 have k:=(AE h.3).1<|d.trans e.symm;grind
theorem aF.U(h:aF b R a7 d3 a f):(f.map bD).Nodup:=by
 obtain⟨_,_,_,h⟩:=h;exact h.3
theorem E2(m:aO b a f q)(o:aL c)(k:aB f c=some g)(d e h)(p:bF (d,e,h)):
  Calls Tryz.prog 87 #[some a,.string c,.agg #[.int .u64 d,.int .u64 e,.int .u64 h]] b λl i=>l=.returned (.bool (!bL (q c) (d,e,h)))∧ae (·=g) b i∧aO i a f (lV q c (gA (q c) (d,e,h))):=by
 have j:aO (b.alloc (.cells #[.int .u64 d,.int .u64 e,.int .u64 h] 116)) _ _ q:=m.O ((ae.T bE b).I _) id i2;have i:=(j.2 _ (ij k)).T;have n:=qJ (bU _) i d e h p;cases i:bL (q c) (d,e,h)with
 |true=>
  have r:ay (gA (q c) (d,e,h)=q c):=by show _=_;unfold gA;rw[if_pos i]
  go_enter func87,ntmps87;go_wp2_with (first|(at_lookup;refine gJ bZ underlying99 jZ rfl (.tmp 10) (.tmp 11) rfl rfl (bU _) j.1.T rfl o k ?_)|(go_at_call 144;refine n.mono ?_;rintro l w2 ⟨rfl,i⟩));go_ret;exact⟨rfl,(((ae.T _ b).I _).B i).Z,by rw[r.out,adX];exact j.O i id i2⟩
 |false=>
  have r:ay (cK (aR (q c)) (d,e,h) _=aR _):=wM _ _;go_enter func87,ntmps87;go_wp2_with (first|(at_lookup;refine gJ bZ underlying99 jZ rfl (.tmp 10) (.tmp 11) rfl rfl (bU _) j.1.T rfl o k ?_)|(go_at_call 144;refine n.mono ?_;rintro l w2 ⟨rfl,i⟩;have d:=j.O i id (λ_ _=>id);have e:=d.2 _ (ij k);obtain⟨h,h,h,_,_,_⟩:=bq (i.O (cz b _) id))|(at_mapUpdate;refine hZ iQ underlying123 rfl (.tmp 24) (.tmp 25) (.tmp 26) rfl rfl e rfl p () rfl ?_;intro e e h));go_ret;exact⟨rfl,(((ae.T _ b).I _).B i).Z.B e,d.V k e (jy r.out h) (aF.U m.1)⟩
theorem aO.bN(h:aO b a f q)(i:aB f c=none)(d:b<=g)(m:ae N b b6)(j:∀e,e<b.1.size->N e->e=a)
  (n:aF b6 aL cr eF a<|f++ [(c,g)])(l:aF b6 bF bh bX g<|aR b3):aO b6 a (f++ [(c,g)])<|lV q c b3:=by
 have k:∀p∈f,p.1≠c:=λp d o=>by
  unfold aB at i;rw[Ka,Kb]at i;grind
 refine⟨n,λp d=>?_,?_,λp d=>?_⟩;obtain d|d:=gX.1 d;rw[wS _<|k p d];have i:=h.2 p d;exact i.B m λk=>h.4 p d<|j _ i.O k;cases ir.1 d;rw[wT];exact l;rw[iL,sf];refine⟨h.3,af,?_⟩;intro i i e e;obtain⟨p,d,rfl⟩:=ei.1 i;have e:=(h.2 p d).O;grind;obtain d|d:=gX.1 d;exact h.4 p d;cases ir.1 d;have:=h.1.O;omega
theorem aa3[DecidableEq n](h:aB f M=none)(v:Q):cK f M v=f++ [(M,v)]:=by
 refine yR (λa=>?_) v;obtain⟨p,b,b⟩:=ei.1 a;unfold aB at h;rw[Ka,Kb]at h;grind
theorem Vy(j:aO b a f q)(l:aL c)(k:aB f c=none)(e d g)(o:bF (e,d,g)):
  aH 87 #[some a,c,.agg #[.int .u64 e,.int .u64 d,.int .u64 g]] b λi m=>∃h,i=.returned true∧b.1.size<=h∧ae (·=a) b m∧aO m a (f++ [(c,h)]) (lV q c [(e,d,g)]):=by
 have h:= @iW Tryz.prog;have h:=j.1.O;have h:aO (b.alloc<|.cells #[.int .u64 e,.int .u64 d,.int .u64 g] 116) _ _ q:=j.O ae.al id i2;have s:=((ae.T bE b).I<|.cells #[.int .u64 e,.int .u64 d,.int .u64 g] 116).I<|.map #[] 0;have m:aO ((b.alloc<|.cells _ _).alloc<|.map #[] 0) _ _ q:=h.O ae.al id i2;have n:aF ((b.alloc<|.cells #[.int .u64 e,.int .u64 d,.int .u64 g] 116).alloc<|.map #[] 0) bF bh bX (b.1.size+1)<|aR ([]:List _):=by
  have:=aF.I (w:=b.alloc<|.cells #[.int .u64 e,.int .u64 d,.int .u64 g] 116) (ok:=bF) (key:=bh) (enc:=bX);rwa [fV]at this
 have p:ay<|cK _ c _=f++ [(c,b.1.size+1)]:=aa3 k _;have t:bL ([]:List aC) (e,d,g)=false:=rfl;go_enter func87,ntmps87;go_wp2_with (first|(at_lookup;refine jo bZ underlying99 jZ rfl (.tmp 10) (.tmp 11) rfl rfl (bU _) h.1.T rfl l k ?_)|(at_mapUpdate;refine hZ bZ underlying99 rfl (.tmp 18) (.tmp 19) (.tmp 20) rfl rfl m.1 rfl l (b.1.size+1) rfl ?_;intro w4 h r;have m:=n.B h (λl=>by have n:b.1.size+1=a:=l;omega);have n:=qJ (bU _) m.T e d g o;rw[t]at n;obtain⟨t,t,t,_,_,_⟩:=bq<|h.O (ic b (.cells #[.int .u64 e,.int .u64 d,.int .u64 g] 116)<|.map #[] 0) aa)|(go_at_call 144;refine n.mono ?_;rintro i i ⟨rfl,i⟩;have n:=m.B i id;have m:=r.B i id;obtain⟨r,r,r,_,_,_⟩:=bq<|i.O (h.O (ic b (.cells #[.int .u64 e,.int .u64 d,.int .u64 g] 116)<|.map #[] 0) aa) id)|(at_mapUpdate;refine hZ iQ underlying123 rfl (.tmp 24) (.tmp 25) (.tmp 26) rfl rfl n rfl o () rfl ?_;intro o g n));go_ret;have e:ae (·=a) b o:=((s.Z.B h).B i.Z).V g λd (l:d=b.1.size+1)=>.inl aa;rw[p.out]at m;exact⟨_,rfl,aa,e,j.bN k aa e aa (m.B g aa) n⟩
def iU(s:ByteArray):Nat->Nat
 |0=>0
 |k+1=>iU s k*256+(if h:k<s.size then s[k].toNat else 0)
theorem G9(s:ByteArray):∀k,iU s k<256^k
 |0=>by simp[iU]
 |k+1=>by
  have a:=G9 s k;rw[iU,Nat.pow_succ];split;have a:=UInt8.toNat_lt s[k];omega;omega
theorem ael(n:Nat)(b:UInt8)(a:n<72057594037927936):bits Ke se ((n)*256) (se.wrap (b.toNat))=((n*256+b.toNat:Nat)):=by
 have a:=UInt8.toNat_lt b;have a:se.wrap (b.toNat:Int)=(b.toNat:Int):=by simp[RD,Iy];omega
 have c:((n:Int)*256)=((n*256:Nat):Int):=aa;rw[a,c,u64_or_nat _ _ aa aa]
 congr 1
 have:=Nat.shiftLeft_add_eq_or_of_lt (i:=8) (b:=b.toNat) aa n;rw[Nat.shiftLeft_eq]at this;grind
theorem L4(s:ByteArray)(w:ag):aH 98 #[s] w λe a=>e=.returned (.int .u64<|iU s 8)∧a=w:=by
 go_enter func98,ntmps98;go_wp2
 go_loop [3,5] (λv i=>∃k:Nat,k<=8∧i=.int .i64 k∧v=.int .u64 (iU s k)) (λ_ i=>8-(intOf i).toNat)
 exact⟨0,aa,rfl,rfl⟩;obtain⟨k,a,rfl,rfl⟩:=hrel;by_cases a:k<8;have b:=kJ (G9 s k)<|Nat.pow_le_pow_right (n:=256) aa (show k<=7 by omega);by_cases c:k<s.size;have a:iU s (k+1)=iU s k*256+s[k].toNat:=by rw[iU,dif_pos c]
 generalize iU s k=n at b a;go_wp2
 go_round
 exact⟨k+1,aa,ba,by rw[a,ael n _ b]⟩;exact dK;have a:iU s (k+1)=iU s k*256:=by rw[iU,dif_neg c];rfl
 go_round
 grind;exact dK;obtain rfl:k=8:=aa;go_ret;simp_all
def mO(a:List ByteArray)(i:Nat):Nat:=(a[i]?).elim 0 (iU · 8)
def tq(a:List ByteArray)(k:Nat):aC:=(if 0<k then mO a 0 else 0,if 1<k then mO a 1 else 0,if 2<k then mO a 2 else 0)
def fI(a:List ByteArray):aC:=(mO a 0,mO a 1,mO a 2)
theorem wU(a:List ByteArray)(i):mO a i<18446744073709551616:=by
 unfold mO;cases a[i]? with
 |none=>grind
 |some s=>exact kJ (G9 s 8) aA
theorem C4(a:List ByteArray):bF<|fI a:=⟨wU a 0,wU a 1,wU a 2⟩
theorem aej(h:i<=a):mO i a=0:=by
 unfold mO;grind
theorem adQ(a:List ByteArray):tq a a=fI a:=by
 unfold tq fI;have h:∀i,(if i<a.length then mO a i else 0)=mO _ i:=λi=>by
  split;rfl;exact(aej aa).symm
 grind
theorem E0(v:e.In b)(t:e.list 1 ib (.slice j a g) i)(L:i.length<=3):
  aH 50 #[.slice j a g] b λm x=>m=.returned (bh<|fI i)∧au b x:=by
 obtain⟨rfl,r⟩:=t.O v;go_enter func50,ntmps50;go_wp2
 go_loopw [8] (λl wr=>∃(k:Nat),k<=i.length∧l=.int .i64 k∧au b wr∧wr.1[b.1.size]?=some _∧wr.1[b.1.size+1]?=some (.cells #[.int .u64 (tq i k).1,.int .u64 (tq i k).2.1,.int .u64 (tq i k).2.2] 116)) (λl _=>i.length-(intOf l).toNat)
 case atStart=>exact⟨0,aa,rfl,(((ae.T _ b).I<|.cells _ _).I<|.cells _ _),ic _ _ _,eK _ _ _⟩
 case round=>
  obtain⟨k,K,rfl,d,c,f⟩:=hrel;obtain⟨B,a1,a2,C,D,E⟩:=bq c;obtain⟨b0,b1,b2,F,G,H⟩:=bq f;by_cases u:k<i.length
  ·obtain⟨y,q⟩:∃y,i[k]?=some y:=⟨_,cy u⟩;obtain⟨I,o,cc,rfl,J,rfl,s⟩:=r k y q;have n:=d.Y (s 0 aA) id;simp at n;have h:mO i k=iU y 8:=by unfold mO;rw[q];rfl
   obtain rfl|rfl|rfl:k=0∨k=1∨k=2:=aa
   all_goals
    try simp at n
    go_wp2_with (go_at_call 98;refine(L4 _ _).mono ?_;rintro m w2 ⟨rfl,rfl⟩);go_roundw
   case rel=>exact⟨1,aa,rfl,d.U af _,(uT _ _ _ _<|Iu<|pG _).trans c,by have:=fQ (o:=0) f<|.int .u64 (iU y 8:Nat);simpa[tq,h]using this⟩
   case measure=>simp[intOf];omega
   case rel=>exact⟨2,aa,rfl,d.U af _,(uT _ _ _ _<|Iu<|pG _).trans c,by have:=fQ (o:=1) f<|.int .u64 (iU y 8:Nat);simpa[tq,h]using this⟩
   case measure=>simp[intOf];omega
   case rel=>exact⟨3,aa,rfl,d.U af _,(uT _ _ _ _<|Iu<|pG _).trans c,by have:=fQ (o:=2) f<|.int .u64 (iU y 8:Nat);simpa[tq,h]using this⟩
   case measure=>simp[intOf];omega
  ·obtain rfl:k=i.length:=aa
   rw[adQ]at b0 b1 b2;obtain⟨w,p⟩:=aT<|fI i;rw[<-p]at b0 b1 b2;obtain⟨z,y,A⟩:=w;go_wp2;exact fl (si rfl _ _ b.1.size 116 _ _ _ rfl (fQ (o:=2) (fQ (o:=1) (fQ (o:=0) c<|.int .u64 (z:Nat))<|.int .u64 (y:Nat))<|.int .u64 (A:Nat)) underlying116 rfl ah) rfl ⟨EF p,((d.U (.inl<|cP _) _).U (.inl<|cP _) _).U (.inl<|cP _) _⟩
def ox(a:fg):List ByteArray:=a.2.map (·.t)
theorem adG(b:v.2[a]?=some e8):(v.2.take<|a+1).map (·.t)=(v.2.take a).map (·.t)++ [e8.t]:=by
 rw[eA,b,iL];rfl
theorem aci(u v w a b c:aq):((#[u,v,w].setIfInBounds 0 a).setIfInBounds 1 b).setIfInBounds 2 c= #[a,b,c]:=rfl
theorem TZ(M:e.In b)(V:jR e [.string c,.slice j g a] v)(a5:v.2.length<=3):
  aH 142 #[.agg #[c,.slice j g a]] b λf B=>f=.returned (bh<|fI<|ox v)∧au b B:=by
 obtain⟨A,a7,L⟩:=V;obtain⟨rfl,rfl⟩:c=v.n∧ .slice _ g a=A:=by simpa using a7
 obtain⟨R,T,c1,G⟩:=L.U M;obtain⟨rfl,rfl,rfl⟩:j=R∧g=v.2.length∧a=T:=by grind
 have F:=((ae.T bE b).I<|.cells #[v.n,.slice j v.2.length a] 233).I<|.cells #[.int .u64 0,.int .u64 0,.int .u64 0] 116;have a3:aM ((b.alloc<|.cells #[v.n,.slice j v.2.length a] 233).alloc<|.cells #[.int .u64 0,.int .u64 0,.int .u64 0] 116) (b.1.size+2) 9 1 ib e (.slice none 0 0) ((v.2.take 0).map (·.t)):=.m<|M.B F i3;go_enter func142,ntmps142;go_wp2;go_loopw [3,9] (λA w wr=>∃(k:Nat),k<=v.2.length∧w=.int .i64 k∧au b wr∧wr.1[b.1.size+1]?=some (.cells #[.int .u64 0,.int .u64 0,.int .u64 0] 116)∧aM wr (b.1.size+2) 9 1 ib e A ((v.2.take k).map (·.t))) (λ_ w _=>v.2.length-(intOf w).toNat);exact⟨0,aa,rfl,F,eK _ _ _,a3⟩;obtain⟨k,Z,rfl,m,l,d⟩:=hrel;have a6:=aP l;obtain⟨a2,y,u⟩|a2:=jf v.2 k;obtain⟨b8,o,cc,rfl,ax,rfl,Y⟩:=G k y u;let⟨b6,b7⟩:=m.cB Y id;have P:ay ((v.2.take<|k+1).map (·.t)=(v.2.take k).map (·.t)++ [y.t]):=adG u;have a1:((v.2.take k).map (·.t)).length<=3:=by rw[di,ix];omega
 clear u;obtain⟨U,q⟩:=aT ((v.2.take k).map (·.t));rw[<-q]at d a1;have N:ay (U=(v.2.take k).map (·.t)):=q;clear q;have r:=d.I ((ae.T _ wr).I<|.cells #[y.t,y.v] 331) i2 i3;go_wp2_with (at_builtin;refine tz ye rfl (.tmp 13) (.tmp 16) rfl r rfl y.t #[y.t] rfl rfl (by simp[eP]) rfl af aa aa bQ ?_;intro b9 b5 c3 a4 K);go_roundw;exact⟨k+1,by omega,by go_num,(m.I _).V K λS W=>.inl (by have:=(r.B S W).1;omega),(K.O ((lZ _ _ _ a6).trans l) (λe=>by have:=(r.B _ e).1;omega)),by rw[P.out,<-N.out];exact a4⟩;exact dK;have a0:(v.2.take k).map (·.t)=ox v:=by rw[fo aa];rfl
 have H:(ox v).length<=3:=by unfold ox;rw[di];exact a5
 rw[a0]at d;obtain⟨h,s⟩:=aT<|ox v;rw[<-s]at d H;obtain⟨b0,b1,rfl⟩:=d.O;obtain⟨a8,C,-,-,D⟩:=d.U λa8 Z a c e=>e;have n:=E0 C D H;obtain⟨a9,t⟩:=aT<|fI h;rw[<-t]at n;obtain⟨p,x,z⟩:=a9;have X:aH 50 #[.slice b0 h.length b1] wr λf B=>f=.returned (.agg #[.int .u64 p,.int .u64 x,.int .u64 z])∧au wr B:=n;have O:ay<|h=ox v:=s;have Q:ay<|(p,x,z)=fI h:=t;clear n G L d C D s t;go_wp2_with (go_at_call 50;refine X.mono ?_;rintro f c2 ⟨rfl,J⟩;have E:=J.O l id;obtain⟨_,_,_,b2,b3,b4⟩:=bq E);have I:=fQ (o:=2) (fQ (o:=1) (fQ (o:=0) E<|.int .u64 (p:Nat))<|.int .u64 (x:Nat))<|.int .u64 (z:Nat);rw[aci]at I;refine fl (si rfl _ _ (b.1.size+1) 116 _ _ _ rfl I underlying116 rfl ah) rfl ?_;have i:b.1.size<=b.1.size+1:=zw _;refine⟨by rw[<-O.out,<-Q.out];rfl,?_⟩;exact(((m.B J).U (p:=⟨b.1.size+1,0,none⟩) (.inl i) _).U (p:=⟨b.1.size+1,1,none⟩) (.inl i) _).U (p:=⟨b.1.size+1,2,none⟩) (.inl i) _
def iD(f:List (ByteArray×Int))(n:ByteArray):Int:=(aB f n).getD 0
theorem FN(f:List<|ByteArray×Int)(n:ByteArray):(aB f n).elim (rI .i64 0) oX=.int .i64 (iD f n):=by
 unfold iD;cases aB f n<;>rfl
section
open Go.ChangeMaps (setBlock)
variable{P:bj}{kt et t:bB}{κ ν:Type}{key:κ->aq}{ok:κ->Prop}{enc:ν->aq}
def fA(w:ag)(ok:κ->Prop)(key:κ->aq)(enc:ν->aq)(d it:Nat)(f came:List (κ×ν)):Prop:=
 ∃b a c,∃ce:List fZ,w.1[d]?=some (.map b a)∧Holds ok key enc b a f∧w.1[it]?=some (.mapIter (some d) c (ce.map (·.3)).toArray a)∧
  (∀x∈b.1,x.3<c)∧c<=a∧(∀e∈ce,e∈b.1)∧(ce.map (·.3)).Nodup∧ce.map (λe=>(e.1,e.2))=came.map (λp=>(key p.1,enc p.2))∧(∀p∈came,p∈f)∧(came.map bD).Nodup
theorem fA.B{w w':ag}{f came:List _}{D:Nat->Prop}(h:fA w ok key enc a g f came)(b:ae D w w')(k: ¬D a)(l: ¬D g):fA w' ok key enc a g f came:=by
 obtain⟨c,d,d,ce,d,e,i,j⟩:=h;exact⟨c,_,_,ce,b.O d k,e,b.O i l,j⟩
theorem fA.T{w:World}{b it:Nat}{f came:List _}(h:fA w ok key enc b it f came):aF w ok key enc b f:=by
 obtain⟨a,e,g,ce,c,d,_⟩:=h;exact⟨a,_,c,d⟩
theorem NU[DecidableEq n]:∀ {l m:List n},l.Nodup->(∀x∈l,x∈m)->l<=m.length
 | [],_,_,_=>nK _
 |x::l,m,h,a=>by
  have b:=a x<|jM ..;have b:=NU (l:=l) (m:=m.erase x) (AA.1 h).2 λy b=>(List.mem_erase_of_ne λe=>(AA.1 h).1<|jy e b).2<|a y<|rz _ b;grind
theorem fA.U{w:World}{b it:Nat}{f came:List _}(h:fA w ok key enc b it f came):came<=f.length:=by
 obtain⟨a,g,t,ce,k,c,n,o,p,q,d,e,r,l⟩:=h;have i:=aV<|congrArg List.length e;have j:=NU d (m:=a.1.map (·.3)) λx s=>by
  grind
 have:=c.I;grind
theorem Holds.V{a:Array fZ}{b:Nat}{f:List _}(h:Holds ok key enc a b f){e:fZ}(b:e∈a.1):∃p∈f,e.1=key p.1∧e.2=enc p.2:=by
 obtain⟨j,a,rfl⟩:=ly b;have a:=h.U j;grind
section
variable{ops:Array bG}{rest:List bG}{o:bG}{a:bK}{Q:kh->bK->ag->Prop}{w:ag}{b:Nat}{f:List (κ×ν)}
theorem lY(l:P.underlying t=some (.map kt et))(d:cV o (yielded ops a.1)=true)(m:cL)(k:o.2=.range t m)(j:a.eval m=.map (some b))(H:aF w ok key enc b f)
  (h:∀c,au w c->c.1.size=w.1.size+1->fA c ok key enc b w.1.size f []->wpList P ops Q rest (a.put o.1<|.pointer<|some ⟨w.1.size,0,none⟩) c):wpList P ops Q (o::rest) a w:=by
 refine wpList_want d λc g=>?_;have i:=H.O;obtain⟨e,c,c,d⟩:=H;unfold jO;simp[execOp,k,j,run_range_map w t _ _ b _ _ l c];refine g _ _<|h _ ae.al af ⟨e,_,_,[],(lZ w _ b i).trans c,d,cz w _,d.5,aa,af,af,rfl,af,af⟩
theorem born_inj(h:(d1.map (·.3)).Nodup)(a:b4∈d1)(c:g0∈d1)(b:b4.3=g0.3):b4=g0:=by
 obtain⟨i,d,rfl⟩:=ly a;obtain⟨j,e,rfl⟩:=ly c;have a:(d1.map (·.3))[i]'(aw di d)=(d1.map (·.3))[j]'(aw di e):=by rw[AG,AG];exact b
 cases (AE h).1 a;rfl
theorem MT{κ ν:Type}{l:List _}(h:(l.map bD).Nodup){d e:κ×ν}(b:d∈l)(c:e∈l)(k:d.1=e.1):d=e:=by
 obtain⟨i,f,rfl⟩:=ly b;obtain⟨j,g,rfl⟩:=ly c;have a:(l.map bD)[i]'(aw di f)=(l.map bD)[j]'(aw di g):=aJ
 cases (AE h).1 a;rfl
theorem V3{came:List (κ×ν)}(h:d1.map (λb4=>(b4.1,b4.2))=came.map (λp=>(key p.1,enc p.2)))(a:b4∈d1):∃q∈came,b4.1=key q.1∧b4.2=enc q.2:=by
 obtain⟨q,b,b⟩:=ei.1 (h▸ei.2 ⟨b4,a,rfl⟩);grind
theorem Wa{came:List _}(h:d1.map (λe=>(e.1,e.2))=came.map (λp=>(key p.1,enc p.2))){q:κ×ν}(a:q∈came):∃e∈d1,e.1=key q.1:=by
 obtain⟨e,b,b⟩:=ei.1 (h▸ei.2 ⟨q,a,rfl⟩);grind
theorem lX(K:gO P kt key ok)(b8:cV o (yielded ops a.1)=true)(a4:cL)(X:o.2=.next a4 false){it:Nat}(V:a.eval a4=.pointer (some ⟨it,0,none⟩)){came:List (κ×ν)}(a5:fA w ok key enc b it f came)(b4:b≠it)
  (b0:(∀p∈f,p∈came)->wpList P ops Q rest (a.put o.1 (.tuple #[false])) w)
  (b3:∀p u,p∈f->p∉came->came.length<f.length->ae (·=it) w u->fA u ok key enc b it f (came++ [p])->wpList P ops Q rest (a.put o.1 (.tuple #[true,key p.1,enc p.2])) u):wpList P ops Q (o::rest) a w:=by
 refine wpList_want b8 λc8 O=>?_;have b9:=λ{u:ag} {a7:List (κ×ν)} (z:fA u ok key enc b it f a7)=>z.U;obtain⟨m,i,t,ce,I,c,J,L,M,A,a9,B,N,a8⟩:=a5;unfold jO;rcases run_next_at (P:=P) w o.3 it b t i _ m i J I L M with⟨c9,G⟩|⟨e,n,w1,a0,G⟩;simp[execOp,X,V,G];refine O _ _ (b0 λp k=>?_);obtain⟨j,v,rfl⟩:=ly k;have y:=c.U j;rw[cy v]at y;cases l:m.1[j]? with
 |none=>grind
 |some e=>
  rw[l]at y;have S:=cA l;have c4:(ce.map (·.3)).toArray.contains e.3=true:=by
   cases b5:(ce.map (·.3)).toArray.contains e.3 with
   |true=>rfl
   |false=>
    have:e∈(leftOf m (ce.map (·.3)).toArray).1:=by
     unfold leftOf;simp only[Array.toList_filter,qu];exact⟨S,dh b5⟩
    grind
  have aK:e.3∈ce.map (·.3):=aV c4;let⟨h,d,b6⟩:=ei.1 aK;obtain rfl:=born_inj c.4 (A h d) S b6;obtain⟨q,g,c2,_⟩:=V3 B d;have Z:=N q g;rw[<-MT c.3 Z k (K.1 _ _ (c.2 q Z) (c.2 _ k) (c2.symm.trans (IA.1 (dw y)).1))];omega
 have r:e∈m.1∧e.3∉ce.map (·.3):=by
  unfold leftOf at n;simp only[Array.toList_filter,qu]at n;refine⟨n.1,λc1=>?_⟩;have:(ce.map (·.3)).toArray.contains e.3=true:=aV c1;rw[this]at n;simp at n
 obtain⟨p,k,F,Y⟩:=c.V r.1;have W:∀q∈came,q.1≠p.1:=λq g c3=>by
  obtain⟨h,d,b7⟩:=Wa B g;obtain⟨x,U,R⟩:=ly (A h d);obtain⟨j,v,T⟩:=ly r.1;have a1:=c.U x;have a2:=c.U j;rw[cy U,R]at a1;rw[cy v,T]at a2;have D:x<f.length:=by rw[<-c.I];simpa using U
  have E:j<f.length:=by rw[<-c.I];simpa using v
  rw[cy D]at a1;rw[cy E]at a2;have b1:h.1=key (f[x]).1:=(IA.1 (dw a1)).1;have b2:e.1=key (f[j]).1:=(IA.1 (dw a2)).1;have a6:(f.map bD)[x]'(aw di D)=(f.map bD)[j]'(aw di E):=by rw[AG,AG];exact K.1 _ _ (c.2 _ (Kf D)) (c.2 _ (Kf E)) (by rw[<-b1,<-b2,b7,F,c3])
  obtain rfl:=(AE c.3).1 a6;exact r.2 (ei.2 ⟨h,d,by rw[<-R,<-T]⟩)
 have C:fA (setBlock w1 it (.mapIter (some b) t ((ce.map (·.3)).toArray.push e.3) i)) ok key enc b it f (came++ [p]):=by
  have a3:w1.1=w.1:=by rcases a0 with rfl|rfl<;>rfl
  refine⟨m,i,t,ce++ [e],?_,c,?_,L,M,?_,?_,?_,?_,?_⟩;have:=(rk w1 it (.mapIter (some b) t ((ce.map (·.3)).toArray.push e.3) i)).O (a3▸I) b4;exact this;have:=nz (o:=.mapIter (some b) t ((ce.map (·.3)).toArray.push e.3) i) (a3▸J:w1.heap[it]?=_);rw[this];simp;intro h d;rcases gX.1 d with d|d;exact A h d;rw[ir.1 d];exact r.1;rw[iL,sf];exact⟨a9,af,λc6 l c7 s H=>r.2 (by simp at s;rw[<-s,<-H];exact l)⟩;rw[iL,iL,B];simp[F,Y];intro q g;rcases gX.1 g with g|g;exact N q g;rw[ir.1 g];exact k;rw[iL,sf];refine⟨a8,af,λc6 l c7 s H=>?_⟩;obtain⟨q,g,rfl⟩:=ei.1 l;exact W q g (by simp at s;rw[H,s])
 have ax:=b9 C;have br:(ce.map (·.3)).toArray.push e.3=(ce.map (·.3)++ [e.3]).toArray:=af;rw[br]at C;rw[kK,DN]at ax;simp[execOp,X,V,G,uX];rw[F,Y];refine O _ _ (b3 p _ k (λz=>W p z rfl) aa ?_ C);rcases a0 with rfl|rfl;exact rk _ _ _;exact((ae.T _ w).m).B (rk _ _ _)
theorem lx(n:cV o (yielded ops a.1)=true)(m:cL)(s:o.2=.entry m){it:Nat}(r:a.eval m=.pointer (some ⟨it,0,none⟩)){came:List (κ×ν)}{p:κ×ν}(H:fA w ok key enc b it f (came++ [p]))
  (q:wpList P ops Q rest (a.put o.1 (.tuple #[key p.1,enc p.2])) w):wpList P ops Q (o::rest) a w:=by
 refine wpList_want n λt l=>?_;obtain⟨v,u,E,ce,i,j,d,z,A,k,B,c,C,x⟩:=H;rw[iL,List.map_eq_append_iff]at c;obtain⟨c1,c2,rfl,c,y⟩:=c;obtain⟨e,rfl,D⟩:∃e,c2= [e]∧(e.1,e.2)=(key p.1,enc p.2):=by
  simp_all
 have br:((c1++ [e]).map (·.3)).toArray=(c1.map (·.3)).toArray.push e.3:=af;rw[br]at d;have g:e.1=key p.1:=aJ;have h:e.2=enc p.2:=aJ;unfold jO;simp[execOp,s,r,(run_entry_at (P:=P) w _ b _ _ _ _ e d i (k e _) j.4)];rw[g,h];exact l _ _ q
end
end
section
variable{κ ν:Type}{key:κ->aq}{ok:κ->Prop}{enc:ν->aq}
theorem fA.I{w:ag}{b it:Nat}{f came:List _}(h:fA w ok key enc b it f came):(∀p∈came,p∈f)∧(came.map bD).Nodup∧∀p∈came,ok p.1:=by
 obtain⟨a,a,a,ce,a,c,a,a,a,a,a,a,a,b⟩:=h;exact⟨a,b,λp b=>c.2 p<|a p b⟩
end
def Bn(F:ByteArray->List aC)(p:ByteArray× (Nat×Bool)):Nat:=if p.2.2 then 0 else(F p.1)
def nP(F:ByteArray->List aC)(l:gq):Nat:=(l.map (Bn F)).sum
theorem Le{F:ByteArray->List aC}{B:Nat}(a:∀n,(F n)<=B)(l:gq):nP F l<=l*B:=by
 unfold nP;induction l with
 |nil=>simp
 |cons p l b=>
  have b:Bn F p<=B:=by unfold Bn;split;exact aa;exact a _
  rw[rV,List.sum_cons,uS,D_];omega
theorem Lf(F:ByteArray->List aC)(l:gq)(p:ByteArray× _):nP F (l++ [p])=nP F l+Bn F p:=by simp[nP]
theorem Vf{w:ag}(u:w.1[g]?=some (.cells #[some a,some l,k] 102))(v:aF w aL cr om a b8)(F:aO w l f q)
  (H:∀p∈b8,(aB f p.1).isSome=true)(V:b8.length<=1048576)(t:∀n,(q n).length<=1048576):
  aH 42 #[g] w λB s=>∃d,(∀p∈b8,p∈d)∧(∀p∈d,p∈b8)∧(d.map bD).Nodup∧B=.returned (.int .i64<|nP q d)∧au w s:=by
 have U:=aP u;obtain⟨P,C,Q,_,_,_⟩:=bq u;go_enter func42,ntmps42;go_wp2_with (at_range;refine lY underlying97 rfl (.tmp 9) rfl rfl v ?_;intro w1 M X E);go_frame
 go_loopg [3] b8.length (λgk O wr=>∃came:gq,came.length+gk=b8.length∧O=.int .i64 (nP q came)∧au w wr∧fA wr aL cr om a w.1.size b8 came)
 case atStart=>exact⟨[],af,rfl,M,E⟩
 case round=>
  obtain⟨came,S,rfl,i,h⟩:=hrel;go_wp2_with (at_next;refine lX bZ rfl (.tmp 10) rfl rfl h (aI v.O) ?_ ?_)
  ·intro T;have I:∀p∈b8,p∈came:=iq
   go_wp2;go_ret;exact⟨_,I,h.I.1,h.I.2.1,rfl,i⟩
  ·intro b n;refine⟨?_,?_⟩
   ·intro s y K J o c;obtain⟨r,rfl⟩:=jX gk;have G:aL b:=c.I.2.2 (b,n,false) af;obtain⟨N,z⟩:=sg.1<|H _ y;have e:ay<|nP q (came++ [(b,n,false)])=nP q came+(q b).length:=by show _=_;rw[Lf];rfl
    have W:=Le t came;have R:=t b;have j:=i.V o aa;have m:=j.I<|.cells #[.int .i64 n,false] 107;have Y:=m.Y C id;have x:=F.O m id i2;have D:=x.2 _<|ij z;have L:(aR<|q b).length=(q b).length:=by simp[aR]
    have A:ay<|(aR<|q b).length=(q b).length:=L;go_wp2_with (first|(refine lx rfl (.tmp 10) rfl rfl c ?_)|(at_lookup;refine iH bZ underlying99 jZ rfl (.tmp 23) (.tmp 24) rfl rfl (bU _) x.1.T rfl G (show _=Value.map (some N) by rw[z];rfl) ?_)|(at_len;refine nB underlying123 rfl (.tmp 25) rfl rfl D ?_;rw[A.out]))
    go_roundg r
    case measure=>omega
    case rel=>exact⟨_,bQ,by rw[e.out];grind,m,c.B ae.al id id⟩
   ·intro s y K J o c;obtain⟨r,rfl⟩:=jX gk;have e:ay<|nP q (came++ [(b,n,true)])=nP q came:=by show _=_;rw[Lf];rfl
    have j:=i.V o aa;go_wp2_with (refine lx rfl (.tmp 10) rfl rfl c ?_)
    go_roundg r
    case measure=>omega
    case rel=>exact⟨_,bQ,fN e.out,j.I _,c.B ae.al id id⟩
structure bV where
 n:ByteArray
 t:aC
 gone:Bool
def bV.B(x:bV):List Value:= [.string x.n,.int .u64 x.t.1,.int .u64 x.t.2.1,.int .u64 x.t.2.2,.bool x.3]
def dC(_:ai)(c:List aq)(x:bV):Prop:=c=x.B
def qP(x:bV):Int:=if x.3 then-1 else 1
def nV(l:List bV):Int:=(l.map qP).sum
variable{W:List bV}
theorem XV{y:bV}(b:W[a]?=some y):nV (W.take<|a+1)=nV (W.take a)+qP y:=by
 unfold nV;rw[eA,b,iL,List.sum_append];simp
theorem XU(l:List bV):nV l<=l∧ -(l)<=nV l:=by
 unfold nV;induction l with
 |nil=>simp
 |cons x l a=>
  have a:qP x= -1∨qP x=1:=by unfold qP;split<;>simp
  grind
theorem Vg{h:ai}{w:ag}(x:h.In w)(s:h.list 5 dC (.slice j a g) W)(K:W.length<=1099511627776):
  aH 43 #[.slice j a g] w λp A=>p=.returned (.int .i64<|nV W)∧au w A:=by
 obtain⟨rfl,q⟩:=s.O x;go_enter func43,ntmps43;go_wp2;go_loopw [3,8] (λz i wr=>∃(k:Nat),k<=W.length∧i=.int .i64 k∧z=.int .i64 (nV<|W.take k)∧au w wr) (λ_ i _=>W.length-(intOf i).toNat);exact⟨0,aa,rfl,rfl,ae.T _ w⟩;obtain⟨k,J,rfl,rfl,d⟩:=hrel;have e:=XU<|W.take k;have v:(W.take k).length<=W.length:=aJ;obtain⟨u,y,f⟩|u:=jf W k;obtain⟨H,L,cc,rfl,I,rfl,r⟩:=q k y f;let⟨C,D,E,F,G⟩:=d.an r id;have c:ay<|nV _=nV _+qP y:=XV f;generalize(W.take k).length=len at e v;generalize nV _=M at e c;obtain⟨o,⟨l,m,n⟩,B⟩:=y;cases B;have b:ay<|qP ⟨o,(l,m,n),false⟩=1:=rfl;go_wp2;go_roundw;exact⟨k+1,aa,ba,by rw[c.out,b.out],d.I _⟩;exact dK;have b:ay<|qP ⟨o,(l,m,n),true⟩= -1:=rfl;go_roundw;exact⟨k+1,aa,ba,by rw[c.out,b.out];grind,d.I _⟩;exact dK;have t:W.take k=W:=aJ;rw[t];go_ret;simp_all
section
open Go.WideAt Go.ChangeMaps
section
variable{P:bj}{kt et t:bB}{κ ν:Type}{key:κ->aq}{ok:κ->Prop}{enc:ν->aq}[DecidableEq κ]
theorem Mp{f:List (κ×ν)}{x:κ}(h:∀p∈f,p.1≠x):qM f x=f:=by
 unfold qM;rw[List.filter_eq_self];grind
theorem WQ{f:List _}(h:(f.map bD).Nodup){j:Nat}{x:κ}{v:ν}(b:f[j]?=some (x,v)):qM f x=f.eraseIdx j:=by
 induction f generalizing j with
 |nil=>grind
 |cons p f d=>
  rw[rV,AA]at h;cases j with
  |zero=>
   cases dw b;have a:=Mp λq c e=>h.1<|ei.2 ⟨q,c,e⟩;unfold qM at a⊢;grind
  |succ j=>
   have c: ¬p.1=x:=aJ;have a:=d h.2<|aV b;unfold qM at a⊢;grind
theorem Holds.Y{a:Array fZ}{c:Nat}{f:List _}(K:gO P kt key ok)(h:Holds ok key enc a c f)(w:ag){x:κ}(g:ok x){b:Nat}(d:w.1[b]?=some (.map a c))(i:P.underlying t=some (.map kt et))(ty:bB)(s:bB):
  ∃e,(xD #[t,s] ty #[some b,key x]).run P w=.ok (.tuple #[]) (setBlock w b<|.map e c)∧Holds ok key enc e c (qM f x):=by
 obtain⟨c,e,f⟩|⟨j,f,u,c,f,f,_,e⟩:=h.B K w g;refine⟨a,?_,aw (Mp e) h⟩;simp[xD,pA i,rG d,K.2 w _ x g,c,uW _ d,setBlock];have f:j<a.size:=aJ;have k:(a.eraseIdxIfInBounds j).1=a.1.eraseIdx j:=af
 have f:=WQ h.3 e;refine⟨a.eraseIdxIfInBounds j,?_,?_,?_,?_,?_,?_⟩;simp[xD,pA i,rG d,K.2 w _ x g,c,uW _ d,setBlock];have a:∀ {c d:Type} (g:c->d) (l:List _) (i:Nat),(l.eraseIdx i).map g=(l.map g).eraseIdx i:=by
  intro c d g l;induction l with
  |nil=>grind
  |cons c l c=>intro i;cases i with
   |zero=>rfl
   |succ i=>grind
 rw[k,f,a,a,h.1];intro p a;rw[f]at a;exact h.2 p<|(xm _ _).subset a;rw[f];exact h.3.sublist<|(xm _ _).map _;rw[k];exact h.4.sublist<|(xm _ _).map _;intro d a;rw[k]at a;exact h.5 d<|(xm _ _).subset a
section
variable{ops:Array bG}{rest:List bG}{o:bG}{a:bK}{Q:kh->bK->ag->Prop}{w:ag}{b:Nat}{f:List (κ×ν)}{x:κ}
theorem PX(K:gO P kt key ok)(n:P.underlying t=some (.map kt et))(d:cV o (yielded ops a.1)=true)(m y:cL)(s:bB)(l:o.2=.call {callee:=.builtin .delete,args:= #[m,y],argTypes:= #[t,s]})(k:a.eval m=.map (some b))(H:aF w ok key enc b f)
  (p:a.eval y=key x) (m:ok x) (j:∀c,ae (·=b) w c->aF c ok key enc b (qM f x)->wpList P ops Q rest (a.put o.1<|.tuple #[]) c):wpList P ops Q (o::rest) a w:=by
 refine wpList_want d λc i=>?_;obtain⟨c,c,c,e⟩:=H;obtain⟨d,g,h⟩:=e.Y K w m c n o.3 s;unfold jO;simp[execOp,l,resolve,invoke,builtin,k,p,g];exact i _ _<|j _ (rk w b _) ⟨d,_,nz c,h⟩
end
end
end
section
variable{κ ν:Type}[DecidableEq κ]
theorem qR{f:List (κ×ν)}{x:κ}:(aB f x).isSome=true↔x∈f.map bD:=by
 unfold aB;grind
theorem Cb{f:List (κ×ν)}{x:κ}:aB f x=none↔x∉f.map bD:=by
 rw[<-qR];simp_all
theorem Cc{f:List _}(h:(f.map bD).Nodup){x:κ}{v:ν}:aB f x=some v↔(x,v)∈f:=by
 constructor;intro a;unfold aB at a;rw[mR]at a;grind;intro a;obtain⟨j,b,b⟩:=ly a;exact F0 h (j:=j) (by grind)
omit [DecidableEq κ] in
theorem Cq{f:List (κ×ν)}(h:(f.map bD).Nodup):f.Nodup:=by
 unfold List.Nodup at h⊢;rw[List.pairwise_map]at h;exact h.imp λh e=>h<|fN e
theorem Og[DecidableEq n](a:s.Nodup)(a:d9.Nodup)(h:∀x,x∈s↔x∈d9):s.Perm d9:=by
 grind
theorem aaR[DecidableEq ν]{f g:List (κ×ν)}(a:(f.map bD).Nodup)(b:(g.map bD).Nodup)(h:∀x,aB f x=aB g x):f.Perm g:=
 Og (Cq a) (Cq b) λp=>by
  rw[<-Cc a,<-Cc b,h]
theorem aa1(f:List<|κ×ν)(x:κ)(v:ν)(y:κ):y∈(cK f x v).map bD↔y=x∨y∈f.map bD:=by
 unfold cK;grind
theorem aa2{f:List _}(h:(f.map Prod.fst).Nodup)(x:κ)(v:ν):((cK f x v).map Prod.fst).Nodup:=by
 unfold cK;grind
theorem Gt(f:List<|κ×ν)(x:κ)(v:ν)(y:κ):aB (cK f x v) y=if y=x then some v else aB f y:=by
 unfold cK;by_cases a:(f.any λp=>decide<|p.1=x)=true;rw[if_pos a];by_cases d:y=x;subst d;rw[if_pos rfl];induction f with
 |nil=>grind
 |cons p f b=>
  by_cases c:p.1=y;simp[aB,c];rw[List.any_cons]at a;simp only[c]at a;have:=b a;unfold aB at this⊢;grind
 rw[if_neg d];clear a;induction f with
 |nil=>rfl
 |cons p f b=>
  unfold aB at b⊢;grind
 rw[if_neg a];unfold aB;grind
def gT(m:Nat)(f:List (κ×Nat))(p:κ×Nat):List (κ×Nat):=cK f p.1 (((aB f p.1).getD 0+p.2) % m)
def ie(m:Nat)(l:List (κ×Nat)):List (κ×Nat):=l.foldl (gT m) []
theorem Tk(m)(l:List<|κ×Nat)(p:κ×Nat):ie m (l++ [p])=gT m (ie m l) p:=by
 unfold ie;grind
theorem SE(m){f:List _}(h:(f.map Prod.fst).Nodup)(p:κ×Nat):((gT m f p).map Prod.fst).Nodup:=aa2 h _ _
theorem XJ(m)(l:List<|κ×Nat):∀ {f:List _},(f.map bD).Nodup->((l.foldl (gT m) f).map bD).Nodup:=by
 induction l with
 |nil=>grind
 |cons p l a=>exact λh=>a<|SE m h p
theorem Lb(m)(l:List<|κ×Nat):((ie m l).map bD).Nodup:=XJ m l J6
theorem xP(m)(f:List<|κ×Nat)(p:κ×Nat)(y:κ):aB (gT m f p) y=if y=p.1 then some (((aB f y).getD 0+p.2) % m)else aB f y:=by
 unfold gT;rw[Gt];grind
theorem Zg(m){l k:List (κ×Nat)}(h:l.Perm k):∀f g,(∀y,aB f y=aB g y)->∀y,aB (l.foldl (gT m) f) y=aB (k.foldl (gT m) g) y:=by
 induction h with
 |nil=>grind
 |cons p _ c=>
  intro f g h;refine c _ _ λy=>?_;rw[xP,xP,h]
 |swap p q l=>
  intro f g h;have b:∀y,aB (gT m (gT m f q) p) y=aB (gT m (gT m g p) q) y:=by
   intro y;simp[xP,h];by_cases b:y=p.1;by_cases a:y=q.1;simp[if_pos b,if_pos a];rw[Nat.add_right_comm];simp[if_neg a];by_cases a:y=q.1;simp[if_neg b];simp only[if_neg a]
  have a:∀(l:List _)(f g:List (κ×Nat)),(∀y,aB f y=aB g y)->∀y,aB (l.foldl (gT m) f) y=aB (l.foldl (gT m) g) y:=by
   intro l;induction l with
   |nil=>grind
   |cons p l c=>
    intro f g h;refine c _ _ λy=>?_;rw[xP,xP,h]
  grind
 |trans _ _ a b=>exact λf g h y=>(a f f af y).trans (b f g h y)
theorem Lc(m){l k:List (κ×Nat)}(h:l.Perm k):(ie m l).Perm<|ie m k:=
 aaR (Lb m l) (Lb m k)<|Zg m h [] [] λ_=>rfl
theorem SD{m:Nat}(b:0<m){f:List _}(h:∀p∈f,p.2<m)(q:κ×Nat):∀p∈gT m f q,p.2<m:=by
 intro p a;unfold gT cK at a;split at a;obtain⟨r,c,rfl⟩:=ei.1 a;split;exact Ay _ b;grind;obtain a|a:=gX.1 a;grind;rw[ir.1 a];exact Ay _ b
theorem Tj(m)(l:List<|κ×Nat)(y:κ):y∈(ie m l).map bD↔y∈l.map bD:=by
 have a:∀(l:List<|κ×Nat)(f:List<|κ×Nat),y∈(l.foldl (gT m) f).map bD↔y∈f.map bD∨y∈l.map bD:=by
  intro l;induction l with
  |nil=>grind
  |cons q l b=>
   intro f;rw[IB,b,gT,aa1,rV,pF,or_assoc,or_left_comm]
 rw[ie,a];simp
end
theorem FL(b){fr:Nat×Nat}:∀(a) o (w:ag)(cs),w.1[b]?=some (.cells cs t fr)->o+a.length<=cs.size->
  (w.setCells b o a).1[b]?=some (.cells (cs.1.take o++a++cs.1.drop (o+a)).toArray t fr)
 | [],o,w,cs,h,_=>by
  show w.1[b]?=_;simp_all
 |v::r,o,w,cs,h,a=>by
  simp at a;have a:=fQ (o:=o) h v;have c:=FL b r (o+1) _ _ a bQ;show((w.setCell ⟨b,o,none⟩ v).setCells b (o+1) r).1[b]?=_
  rw[c]
  congr 2
  rw[Array.toList_setIfInBounds,uS];have a:(cs.1.set o v).take (o+1)=cs.1.take o++ [v]:=by
   rw[eA,IC (by grind),List.take_set_of_le<|cP o];rfl
  have b:(cs.1.set o v).drop (o+1+r.length)=cs.1.drop (o+(r.length+1)):=by
   rw[List.drop_set_of_lt aa]
   congr 1
   omega
  rw[a,b];simp
theorem G0(b):∀(a) o (w:ag),ae (·=b) w<|w.setCells b o a
 | [],_,w=>ae.T _ w
 |v::r,o,w=>((ae.T (·=b) w).U (p:=⟨b,o,none⟩) (.inr rfl) v).B<|G0 b r (o+1) _
section
variable{P:bj}{ops:Array bG}{rest:List bG}{o:bG}{a:bK}{Q:kh->bK->ag->Prop}{w:ag}{b:Nat}{t:bB}{e:bB}{fr:Nat×Nat}{cs:Array aq}{d:zP}
theorem oC(c:cV o (yielded ops a.1)=true)(x:cL)(j:o.2=.load t x)(k:a.eval x=.pointer (some ⟨b,0,none⟩))(f:w.1[b]?=some (.cells cs e fr))(g:P.underlying t=some d)(g:(match d with| .struct _| .array _ _=>true|_=>false)=true)(h:(P.info? t).map (·.3)=some cs.size)
  (i:wpList P ops Q rest (a.put o.1<|.agg cs) w):wpList P ops Q (o::rest) a w:=by
 refine wpList_want c λc c=>?_;unfold jO;simp[execOp,j,k,xB,xA,(Kg (P:=P) w b e t _ _ d f _ g h)];exact c _ _ i
theorem iV(g:cV o (yielded ops a.1)=true)(x y:cL)(j:o.2=.store t x y)(l:a.eval x= b)(c:w.1[b]?=some (.cells cs e))(m:a.eval y=.agg S)(n:∀w,(Go.sizeOf t).run P w=.ok cs w)(k:S=cs.size)(f:∀v∈S.1,v.oneCell'=true)
  (i:∀d,ae (·=b) w d->d.1[b]?=some (.cells S e)->wpList P ops Q rest (a.put o.1 aj) d):wpList P ops Q (o::rest) a w:=by
 refine wpList_want g λd h=>?_;have g:(storeCells ⟨b,0,none⟩ S.1 0).run P w=.ok () (w.setCells b 0 S.1):=by
  refine run_storeCells_cells (P:=P) b 0 S.1 0 w (λd p=>?_) (λd _=>kH c) f;rw[cI w b _ cs e (0,0) c];rw[rE (by grind)];rfl
 have d:=FL b S.1 0 w _ c bQ;have c:(cs.1.take 0++S.1++cs.1.drop (0+S.1.length)).toArray=S:=aJ
 rw[c]at d;unfold jO;simp[execOp,j,l,m,Instr.storeAt,xA,storeVar,Value.cells,n,k,g];exact h _ _<|i _ (G0 b _ 0 w) d
end
theorem Gu{C:ag->Prop}{K:bK->Prop}(h:∀w,C w->(execOp b7.eval H).run a0 w=.ok (.value k) w)(a:K<|b7.put H.1 k):H.quiet a0 b7 C K:=
 ⟨k,λw b=>by unfold Oper.quietAt;rw[h w b];exact⟨rfl,rfl⟩,a⟩
section
variable{P:bj}{ops:Array bG}{C:ag->Prop}{fx:Nat->Bool}{Q:bK->ag->Prop}{k:Nat}{o:bG}{rest:List bG}{a:bK}{w:ag}{b:Nat}{t:bB}{e:bB}{fr:Nat×Nat}{cs:Array aq}{d:zP}
theorem nU(g:fx k=false)(c:cV o (yielded ops a.1)=true)(x:cL)(f:o.2=.load t x)(m:a.eval x=.pointer (some ⟨b,0,none⟩))(i:∀w,C w->w.1[b]?=some (.cells cs e fr))(h:P.underlying t=some d)(j:(match d with| .struct _| .array _ _=>true|_=>false)=true)(l:(P.info? t).map (·.3)=some cs.size)
  (h:gI P ops C fx Q (k+1) rest (a.put o.1<|.agg cs) w):gI P ops C fx Q k (o::rest) a w:=by
 refine gg g (dh f) c λK g=>Gu (λw c=>?_)<|g _ h;simp[execOp,f,m,xB,xA,(Kg (P:=P) w b e t _ _ d (i w c) _ j l)]
theorem MO{g d:bB}{c h:Type}{e:c->aq}{ok:c->Prop}{enc:h->aq}[DecidableEq c]{f:List _}{y:c}(K:gO P g e ok)(l:P.underlying t=some (.map g d)){z:aq}(p:∀w,(zeroValue d).run P w=.ok z w)(i:fx k=false)(d:cV o (yielded ops a.1)=true)(m x:cL)(c:Bool)(g:o.2=.lookup t m x c)(j:a.eval m=L)
  (H:∀w,C w->ai.map (λb=>w.1[b]?) ok e enc L f)(m:a.eval x=e y)(n:ok y)(h:gI P ops C fx Q (k+1) rest (a.put o.1 (if c then .tuple #[(aB f y).elim z enc,.bool (aB f y).isSome]else(aB f y).elim z enc)) w):gI P ops C fx Q k (o::rest) a w:=by
 refine gg i (dh g) d λe e=>Gu (λw d=>?_)<|e _ h;simp[execOp,g,j,m,(GL K l (p w) (bU w) (H w d) n c)]
theorem yn{h f:bB}{c g:Type}{d:c->aq}{ok:c->Prop}{e:g->aq}[DecidableEq c]{g:List _}{y:c}(K:gO P h d ok)(j:P.underlying t=some (.map h f)){z:aq}(q:∀w,(zeroValue f).run P w=.ok z w)(c:fx k=false)(l:cV o (yielded ops a.1)=true)(m x:cL)(i:o.2=.lookup t m x false){v:aq}(f:a.eval m=v)
  (H:∀w,C w->ai.map (λb=>w.1[b]?) ok d e v g)(n:a.eval x=d y)(p:ok y){u:aq}(d:(aB g y).elim z e=u)(h:gI P ops C fx Q (k+1) rest (a.put o.1 u) w):gI P ops C fx Q k (o::rest) a w:=
 MO K j q c l m x false i f H n p (by rw[if_neg aA,d];exact h)
end
def bu(b:List Nat):Array Value:=(b.map λn=>rI .u64 (n:Nat)).toArray
theorem kC(b:List Nat):(bu b).size=b:=by simp[bu]
theorem aag(b:List Nat)(i:Nat):(bu b)[i]?=(b[i]?).map λn=>rI .u64 (n:Nat):=by simp[bu]
theorem aai(b:List Nat)(i x):(bu b).setIfInBounds i (.int .u64 (x:Nat))=bu (b.set i x):=by
 unfold bu;grind
theorem lf(b:List Nat):∀v∈(bu b).1,v.oneCell'=true:=by
 intro v a;simp[bu]at a;obtain⟨n,_,rfl⟩:=a;rfl
theorem Tp(h:a<65536)(k):(bits RF zL ((a) /2^k) 1==0)= !a.testBit k:=by
 have b:((a:Int) /2^k)=((a/2^k:Nat):Int):=af;have c:a/2^k<65536:=J0 (Kh _ _) h;rw[b];rw[show(1:Int)=((1:Nat):Int)from rfl,(D7 _ 1 c aA),nat_mask1,Nat.testBit_eq_decide_div_mod_eq];grind
def dc(w:ag)(b:Nat)(t:bB)(l:List Nat):Prop:=w.1[b]?=some (.cells (bu l) t)
theorem dc.I{w:ag}(h:dc w a t y)(b:y[g]?=some l):w.cell? ⟨a,g,none⟩=some (.int .u64 l)∧w.frozen? ⟨a,g,none⟩=false:=
 ⟨(cI w a g _ t (0,0) h).trans (by rw[aag,b];rfl),kH h⟩
theorem dc.U(h:dc b a t y)(i x):dc (b.setCell ⟨a,i,none⟩<|.int .u64 (x:Nat)) a t<|y.set i x:=by
 have c:=fQ (o:=i) h<|.int .u64 (x:Nat);rw[aai]at c;exact c
theorem dc.V(h:dc b a t y):a<b:=(fU.1 h).1
theorem dc.O{w w':ag}{b:Nat}(h:dc w b t y)(c:ae N w w')(a: ¬N b):dc w' b t y:=c.O h a
theorem cell_far(h:b.cell? ⟨g,l,fL⟩=some L)(c:g≠a):(b.setCell ⟨a,x,none⟩ k).cell? ⟨g,l,fL⟩=some L:=
 ((ae.T (·=a) b).U (p:=⟨a,x,none⟩) (.inr rfl) k).Y h c
theorem X2{x:Obj}(h:b.1[g]?=some x)(c:g≠a):(b.setCell ⟨a,l,none⟩ k).1[g]?=some x:=
 ((ae.T (·=a) b).U (p:=⟨a,l,none⟩) (.inr rfl) k).O h c
theorem dc.T(h:dc b a t y)(c:a≠g):dc (b.setCell ⟨g,l,none⟩ k) a t y:=X2 h c
theorem dc.B(h:dc b a t y){o:Obj}:dc (b.alloc o) a t y:=h.O ((ae.T bE b).I o) id
abbrev bS:=List Nat
def cu(b:bS):Value:=.agg (bu b)
abbrev okB(b:bS):Prop:=b.length=12∧∀x∈b,x<18446744073709551616
def ep:bS:=List.replicate 12 0
def eh(b:bS)(a:Nat):bS:=b.mapIdx λj x=>if a.testBit j then x else 0
def ji(b:bS)(a k:Nat):bS:=b.mapIdx λj x=>if j<k&& !a.testBit j then 0 else x
theorem aaA(b:bS)(a):ji b a 0=b:=by
 unfold ji;apply rH;grind
theorem N5(b:bS)(a k):(ji b a k)=b.length:=by simp[ji]
variable{h z:bS}
theorem N4{a k:Nat}(b:h<=k):ji h a k=eh h a:=by
 unfold ji eh;apply rH;grind
theorem aaz(b:a.testBit g=true):ji h a (g+1)=ji h a g:=by
 unfold ji;grind
theorem aay(b:g.testBit a=false):ji h g (a+1)=(ji h g a).set a 0:=by
 unfold ji;apply rH;grind
theorem Bv(w:ag)(g:h.length=12)(a:Nat)(f:a<65536):
  aH 374 #[cu h,.int .u16 a] w λe b=>e=.returned (cu<|eh h a)∧au w b:=by
 unfold cu;have b:dc ((w.alloc<|.cells _ _).alloc<|.cells (bu ep) 467) _ 467 h:=ic _ _ _;have c:dc ((w.alloc<|.cells (bu h) 467).alloc<|.cells _ 467) _ _ ep:=eK _ _ _;go_enter func374,ntmps374;go_wp2;go_loopw [6] (λi wr=>∃(k:Nat),k<=12∧i=.int .i64 k∧au w wr∧dc wr w.1.size 467 (ji h a k)∧dc wr (w.1.size+1) 467 ep) (λi _=>12-(intOf i).toNat);exact⟨0,aa,rfl,(((ae.T _ w).I<|.cells _ _).I<|.cells _ _),aw aaA b,c⟩;obtain⟨k,b,rfl,d,b,e⟩:=hrel;by_cases c:k<12;obtain⟨x,c⟩:∃x,(ji h a k)[k]?=some x:=⟨_,cy<|dT N5⟩;obtain⟨i,i⟩:=b.I c;have c:=Tp f k;have f:ay<|a.testBit k=true->ji h _ _=ji h _ k:=aaz;have c:ay<|a.testBit k=false->ji h _ _=(ji h _ k).set k 0:=aay;cases i:a.testBit k with
 |true=>
  have c:=f.out i;rw[<-c]at b;go_wp2;go_roundw;grind;exact dK
 |false=>
  have c:ay<|ji h a (k+1)=(ji h a k).set k 0:=aJ;go_wp2;go_roundw;exact⟨k+1,aa,ba,d.U af _,aw c.out<|b.U k 0,(uT _ _ _ _ af).trans e⟩;exact dK
 obtain rfl:k=12:=aa;rw[N4 aa]at b;have c:(bu<|eh h a).size=12:=by rw[kC,<-N4 (k:=12) aa,N5];exact g
 go_wp2_with (first|refine oC rfl (.tmp 2) rfl rfl b underlying467 rfl (by rw[c];kernel_rfl) ?_|(refine iV rfl (.tmp 4) (.tmp 17) rfl rfl e rfl sizeOf467 (dh c) (lf _) ?_;intro w3 b a));exact fl (si rfl _ _ _ _ _ _ _ rfl a underlying467 rfl (by rw[c];kernel_rfl)) rfl ⟨rfl,d.V b aa⟩
def kv(b o:bS):bS:=b.mapIdx λj x=>x|||o.getD j 0
def mq(b o:bS)(k:Nat):bS:=b.mapIdx λj x=>if j<k then x|||o.getD j 0 else x
theorem SU(b o:bS):mq b o 0=b:=by
 unfold mq;apply rH;grind
theorem SR(b o:bS)(k):(mq b o k)=b.length:=by simp[mq]
theorem KQ{k:Nat}(a:h<=k):mq h z k=kv h z:=by
 unfold mq kv;apply rH;grind
theorem SQ(b:h[a]?=some g):(mq h z a)[a]?=some g:=by
 unfold mq;grind
theorem SS(b:h[a]?=some g)(b:z[a]?=some l):mq h z (a+1)=(mq h z a).set a (g|||l):=by
 unfold mq;apply rH;grind
structure dP where
 c:Nat
 v:Nat
 deriving DecidableEq
def dV(_:ai)(c:List aq)(x:dP):Prop:=c= [.int .u64 (x.c),.int .i64 (x.v)]
structure kM where
 n:ByteArray
 ts:List dP
 deriving DecidableEq
def mn(h:ai)(c:List aq)(a:kM):Prop:=∃v,c= [.string a.n,v]∧h.list 2 dV v a.2
def jE(t:dP):Prop:=t.c<18446744073709551616∧t.v<12
def qa(a:Nat)(t:dP):Nat:=if t.c=0 then a|||2^t.v else a
def c5(ts:List dP):Nat:=ts.foldl qa 0
variable{w:List dP}{b5:dP}
theorem ad1(b:w[a]?=some b5):c5 (w.take<|a+1)=qa (c5<|w.take a) b5:=by
 unfold c5;rw[eA,b,iZ];rfl
theorem adY(h:a<4096)(b:b5.v<12):qa a b5<4096:=by
 unfold qa;split;exact ID (n:=12) h<|Nat.pow_lt_pow_right aa b;omega
theorem oB{ts:List dP}(h:∀t∈ts,jE t):c5 ts<4096:=by
 have b:∀(ts:List _)(a:Nat),(∀t∈ts,jE t)->a<4096->ts.foldl qa a<4096:=by
  intro ts;induction ts with
  |nil=>grind
  |cons t ts d=>exact λa h c=>d _ (λt a=>h t<|rz _ a)<|adY c (h t<|jM ..).2
 exact b _ 0 h aA
theorem U1(w:ag)(c:okB h)(n:okB z):
  aH 376 #[cu h,cu z] w λp C=>p=.returned (cu<|kv h z)∧au w C:=by
 unfold cu;have q:dc (((w.alloc<|.cells _ _).alloc<|.cells (bu z) 467).alloc<|.cells (bu ep) 467) _ 467 h:=(lZ _ _ _ bQ).trans<|ic _ _ _;have r:dc (((w.alloc<|.cells (bu h) 467).alloc<|.cells _ _).alloc<|.cells (bu ep) 467) _ 467 z:=(lZ _ _ _ af).trans<|eK _ _ _;have t:dc (((w.alloc<|.cells (bu h) 467).alloc<|.cells (bu z) 467).alloc<|.cells (bu ep) 467) (w.1.size+2) 467 ep:=by have:=eK (w.alloc<|.cells (bu h) 467) (.cells (bu z) 467)<|.cells (bu ep) 467;rwa [fV]at this
 go_enter func376,ntmps376;go_wp2
 go_loopw [6] (λi wr=>∃(k:Nat),k<=12∧i=.int .i64 k∧au w wr∧dc wr w.1.size 467 (mq h z k)∧dc wr (w.1.size+1) 467 z∧dc wr (w.1.size+2) 467 ep) (λi _=>12-(intOf i).toNat)
 case atStart=>exact⟨0,aa,rfl,((((ae.T _ w).I<|.cells _ _).I<|.cells _ _).I<|.cells _ _),aw SU q,r,t⟩
 case round=>
  obtain⟨k,O,rfl,m,a,l,b⟩:=hrel;by_cases Q:k<12
  ·obtain⟨x,e⟩:∃x,h[k]?=some x:=⟨_,cy<|aI c.1⟩;obtain⟨y,f⟩:∃x,z[k]?=some x:=⟨_,cy<|aI n.1⟩;obtain⟨v,K⟩:=a.I<|SQ e;obtain⟨A,L⟩:=l.I f;have o:ay<|mq h z _=(mq h z k).set k _:=SS e f;have R:=u64_or_nat x y (c.2 x<|cA e)<|n.2 y<|cA f;have P:=b.V;have J:decide ((k:Int)<12)=true:=dT decide_eq_true_eq
   go_wp2;refine dG (λi=>i==8) ah ah ?_;intro S g I j F G E;have M:∀x,(g x).cell? ⟨w.1.size,k,none⟩=_:=λx=>(j x _ k aa).trans v;have N:∀x,(g x).cell? ⟨w.1.size+1,k,none⟩=_:=λx=>(j x _ k aa).trans A;iterate 8 (refine aD ?_)
   refine a_ λD s=>?_;go_wp2;refine s _ _ ah (cS ah) ?_;refine cR ?_;go_wp2;go_roundw
   case rel=>exact⟨k+1,aa,ba,(m.m).U (.inl<|cP _) _,aw o.out<|(show dc wr.drew w.1.size 467 _ from a).U k _,(uT _ _ _ _ af).trans l,(uT _ _ _ _ af).trans b⟩
   case measure=>simp[intOf];omega
  ·obtain rfl:k=12:=aa
   rw[KQ aa]at a;have d:(bu<|kv h z).size=12:=by rw[kC,<-KQ (k:=12) aa,SR];exact c.1
   go_wp2_with (first|refine oC rfl (.tmp 2) rfl rfl a underlying467 rfl (by rw[d];kernel_rfl) ?_|(refine iV rfl (.tmp 4) (.tmp 18) rfl rfl b rfl sizeOf467 (dh d) (lf _) ?_;intro w3 B u));exact fl (si rfl _ _ (w.1.size+2) 467 _ _ _ rfl u underlying467 rfl (by rw[d];kernel_rfl)) rfl ⟨rfl,m.V B λh (H:h=w.1.size+2)=>.inl aa⟩
theorem aaC(h:g<4096)(c:a<12):bits Ke zL g (zL.wrap<|2^a)=((g|||2^a:Nat)):=by
 have b:2^a<2^12:=Nat.pow_lt_pow_right aa c;have c:=b;have e:((2:Int) ^a)=((2^a:Nat):Int):=af;rw[e];generalize 2^a=q at c⊢;have b:zL.wrap (q:Int)=(q:Int):=dT IntKind.wrap_u16;rw[b,AJ _ q aa aa]
theorem vV(I:e.In b){l g:Nat}{a:kM}(A:mn e [.string c,.slice j l g] a)(S:a.2.length<=3)(r:∀t∈a.2,jE t):
  aH 322 #[.agg #[c,.slice j l g]] b λz L=>z=.returned (.int .u16 (c5 a.2))∧au b L:=by
 obtain⟨v,H,F⟩:=A;obtain⟨rfl,rfl⟩:c=a.n∧ .slice j l g=v:=aV H;obtain⟨w,x,G,B⟩:=F.U I;obtain⟨rfl,rfl,rfl⟩:j=w∧l=a.2.length∧g=x:=aV G;go_enter func322,ntmps322;go_wp2;go_loopw [3,9] (λv o wr=>∃(k:Nat),k<=a.2.length∧o=.int .i64 k∧v=.int .u16 (c5 (a.2.take k):Nat)∧au b wr) (λ_ o _=>a.2.length-(intOf o).toNat);exact⟨0,aa,rfl,rfl,((ae.T _ b).I<|.cells _ _)⟩;obtain⟨k,R,rfl,rfl,h⟩:=hrel;obtain⟨D,y,n⟩|D:=jf a.2 k;obtain⟨O,T,cc,rfl,Q,rfl,P⟩:=B k y n;obtain⟨M,N⟩:=h.cB aa id;have i:ay<|c5 (a.2.take<|k+1)=qa (c5<|a.2.take k) y:=ad1 n;have K:=r y<|cA n;have q:=oB (ts:=a.2.take k) λt E=>r t<|qq E;generalize c5 (a.2.take k)=d at i q;obtain⟨s,f⟩:=y;have J:f<12:=K.2;by_cases p:s=0;subst p;have m:ay (qa d ⟨0,f⟩=d|||2^f):=rfl;have u:ay<|bits Ke zL (d:Int) (zL.wrap<|2^f)=((d|||2^f:Nat):Int):=aaC q J;go_wp2;go_roundw;exact⟨k+1,aa,ba,by rw[i.out,m.out,u.out],(h.I _)⟩;exact dK;have m:ay<|qa d ⟨s,f⟩=d:=if_neg p;go_wp2;go_roundw;exact⟨k+1,aa,ba,by rw[i.out,m.out],(h.I _)⟩;exact dK;have C:a.2.take k=a.2:=fo aa;rw[C];go_wp2;go_ret;exact⟨rfl,h⟩
end
section
def lr(ts:List dP)(b:bS)(i:Nat):Nat:=(ts[i]?).elim 0 λt=>if t.c=0 then b.getD t.v 0 else t.c
def ou(ts:List dP)(b:bS)(k:Nat):List Nat:=(iK 3).map λi=>if i<k then lr ts b i else 0
def dL(ts:List dP)(b:bS):Nat×Nat×Nat:=(lr ts b 0,lr ts b 1,lr ts b 2)
variable{h z:bS}{g4 g5 q:ByteArray->List aC}{g1 g2:Ending->ag->Prop}{e1:Fence}{w:List dP}{b3 f4 f5:List aC}{p:kM}{b5:dP}{b9:aC}
theorem adt(b:a<3):ou w h (a+1)=(ou w h a).set a (lr w h a):=by
 unfold ou;obtain rfl|rfl|rfl:a=0∨a=1∨a=2:=aa;all_goals simp[iK,Iz]
theorem adq(b:w<=a):lr w h a=0:=by
 unfold lr;grind
theorem adr:ou w h w= [(dL w h).1,(dL w h).2.1,(dL w h).2.2]:=by
 have a:∀i,(if i<w.length then lr w h i else 0)=lr _ h i:=λi=>by
  split;rfl;exact(adq aa).symm
 simp[ou,iK,Iz,a,dL]
theorem ads(ts:List dP)(b:bS)(k):(ou ts b k).length=3:=by simp[ou]
theorem G_(d:∀t∈w,jE t)(c:okB h)(i):lr w h i<18446744073709551616:=by
 unfold lr;cases a:w[i]? with
 |none=>grind
 |some t=>
  show(if t.c=0 then h.getD t.v 0 else t.c)<_
  split;rw[D8];cases b:h[t.v]? with
  |none=>grind
  |some x=>exact c.2 x<|cA b
  exact (d t<|cA a).1
theorem LS(a1:e.In b)(O:mn e [.string c,.slice j g a] p)(b5:p.2.length<=3)(Y:∀a3∈p.2,jE a3)(Q:okB h):
  aH 366 #[.agg #[c,.slice j g a],cu h] b λH a5=>H=.returned (.agg<|bu [(dL p.2 h).1,(dL p.2 h).2.1,(dL p.2 h).2.2])∧au b a5:=by
 obtain⟨a4,a0,W⟩:=O;obtain⟨rfl,rfl⟩:c=p.n∧ .slice j g a=a4:=aV a0
 obtain⟨E,G,Z,P⟩:=W.U a1;obtain⟨rfl,rfl,rfl⟩:j=E∧g=p.2.length∧a=G:=aV Z
 unfold cu;obtain⟨l,T⟩:=aT<|Dm #[p.n,.slice j p.2.length a] 315;have N:=((((ae.T bE b).I l).I<|.cells (bu h) 467).I<|.cells (bu [0,0,0]) 116).I<|.cells (bu [0,0,0]) 116;have K:dc ((((b.alloc l).alloc<|.cells (bu h) 467).alloc<|.cells (bu [0,0,0]) 116).alloc<|.cells (bu [0,0,0]) 116) (b.1.size+1) 467 h:=by
  refine(lZ _ _ _ af).trans<|(lZ _ _ _ af).trans<|eK _ _ _
 have M:dc ((((b.alloc l).alloc<|.cells (bu h) 467).alloc<|.cells (bu [0,0,0]) 116).alloc<|.cells (bu [0,0,0]) 116) (b.1.size+2) 116 [0,0,0]:=by
  have:=ic ((b.alloc l).alloc<|.cells (bu h) 467) (.cells (bu [0,0,0]) 116)<|.cells (bu [0,0,0]) 116;simp only[fV,tI,Nat.reduceAdd]at this;exact this
 have L:dc ((((b.alloc l).alloc<|.cells (bu h) 467).alloc<|.cells (bu [0,0,0]) 116).alloc<|.cells (bu [0,0,0]) 116) (b.1.size+3) 116<|ou p.2 h 0:=by
  have:=eK ((b.alloc l).alloc<|.cells (bu h) 467) (.cells (bu [0,0,0]) 116)<|.cells (bu [0,0,0]) 116;simp only[fV,tI,Nat.reduceAdd]at this;exact this
 subst T;go_enter func366,ntmps366;go_wp2
 go_loopw [6,11] (λ_ u wr=>∃(k:Nat),k<=p.2.length∧u=.int .i64 k∧au b wr∧dc wr (b.1.size+1) 467 h∧dc wr (b.1.size+2) 116 [0,0,0]∧dc wr (b.1.size+3) 116 (ou p.2 h k)) (λ_ u _=>p.2.length-(intOf u).toNat)
 case atStart=>exact⟨0,aa,rfl,N,K,M,L⟩
 case round=>
  obtain⟨k,b3,rfl,m,q,r,f⟩:=hrel;by_cases S:k<p.2.length
  ·obtain⟨y,t⟩:∃y,p.2[k]?=some y:=⟨_,cy S⟩;obtain⟨a8,b7,cc,rfl,b0,rfl,a9⟩:=P k y t;obtain⟨I,J⟩:=m.cB aa id;have a2:=Y y<|cA t;have w:ay<|ou _ h _=(ou p.2 h k).set k _:=adt aa;have v:ay<|lr p.2 h k=if y.c=0 then h.getD y.v 0 else y.c:=by show _=_;unfold lr;rw[t];rfl
   obtain⟨d,i⟩:=y;simp only at I J;let⟨z,A⟩:∃z,h[i]?=some z:=⟨_,cy (by have:=Q.1;have:i<12:=a2.2;omega)⟩;have a6:ay<|h.getD i 0=z:=by show _=_;rw[D8,A];rfl
   let⟨b1,b2⟩:=q.I A;have b6:i<12:=aJ;obtain⟨C,X⟩:∃C,(ou p.2 h k)[k]?=some C:=⟨_,cy<|dT ads⟩;let⟨c1,c2⟩:=f.I X;have b4:=f.V;have F:(wr.setCell ⟨b+1+1+1,k,_⟩<|.int .u64 (d:Nat)).cell? _=some _:=cell_far b1 aa;have a7:=((ae.T bE _).I<|.cells #[.int .u64 (d:Nat),.int .i64 (i:Nat)] 413).Y F id;by_cases x:d=0
   ·have U:((d:Int)==0)=true:=aJ
    have o:ay<|(if d=0 then h.getD i 0 else d)=z:=aJ
    clear x;go_wp2;go_roundw
    case rel=>
     refine⟨k+1,aa,ba,((m.U (.inl<|IE _ 3) _).U (.inl<|IE _ 3) _).I _,((q.T aa).T aa).B,((r.T aa).T aa).B,?_⟩;have:=(f.U k d).U k z;rw[List.set_set]at this;rw[w.out,v.out,o.out];exact this.B
    case measure=>simp[intOf];omega
   ·have U:((d:Int)==0)=false:=aJ
    have o:ay<|(if d=0 then h.getD i 0 else d)=d:=by show _=_;rw[if_neg x]
    go_wp2;go_roundw
    case rel=>
     refine⟨k+1,aa,ba,(m.U (.inl<|IE _ 3) _).I _,(q.T aa).B,(r.T aa).B,?_⟩;rw[w.out,v.out,o.out];exact(f.U k _).B
    case measure=>simp[intOf];omega
  ·obtain rfl:k=p.2:=aa
   rw[adr]at f;obtain⟨B,n⟩:=aT<|[(dL p.2 h).1,(dL p.2 h).2.1,(dL p.2 h).2.2];have s:(bu B).size=3:=by rw[kC,n];rfl
   rw[<-n]at f;have D:ay<|B= [(dL _ h).1,(dL p.2 h).2.1,(dL p.2 h).2.2]:=n;clear n;go_wp2_with (first|refine oC rfl (.tmp 5) rfl rfl f underlying116 rfl (by rw[s];kernel_rfl) ?_|(refine iV rfl (.tmp 4) (.tmp 30) rfl rfl r rfl sizeOf116 (dh s) (lf _) ?_;intro w3 V R));refine fl (si rfl _ _ (b.1.size+2) 116 _ _ _ rfl R underlying116 rfl (by rw[s];kernel_rfl)) rfl ?_;exact⟨fN D.out,m.V V λh (e:h=b.1.size+2)=>.inl aa⟩
theorem KL(x y c)(a:c<=1)(w:ag):(callFunc 350 #[.int .u64 (x:Nat),.int .u64 (y:Nat),.int .u64 (c:Nat)]).run Tryz.prog w=.ok (.value<|.tuple #[.int .u64 (((x+y+c) % 18446744073709551616:Nat)),.int .u64 (((x+y+c) /18446744073709551616:Nat))]) w:=by
 rw[run_callFunc_extern func350 ah ah ah (e:=add64Entry) ah,run_add64 x y c aa aa aa aa];simp_all
def cg(n:Nat):Value:=.agg #[.int .u64 (n/18446744073709551616:Nat),.int .u64 (n % 18446744073709551616:Nat)]
abbrev dA:Nat:=340282366920938463463374607431768211456
theorem UU(n)(a:n<18446744073709551616)(w:ag):aH 364 #[.int .u64 (n:Nat)] w λe b=>e=.returned (cg n)∧au w b:=by
 have b:=Nat.div_eq_of_lt a;have c:=D9 a;unfold cg;rw[b,c];go_enter func364,ntmps364;go_wp2;exact fl (si rfl _ _ _ _ _ _ _ rfl (cz w _) underlying112 rfl ah) rfl ⟨rfl,ae.al⟩
theorem aaV(a b):(a % 18446744073709551616+b % 18446744073709551616+0) % 18446744073709551616=(a+b) % dA % 18446744073709551616:=by grind
theorem aaU(a b):(a/18446744073709551616+b/18446744073709551616+(a % 18446744073709551616+b % 18446744073709551616+0) /18446744073709551616) % 18446744073709551616=(a+b) % dA/18446744073709551616:=by unfold dA;omega
theorem LK(a b)(w:ag):aH 334 #[cg a,cg b] w λe c=>e=.returned (cg<|(a+b) % dA)∧au w c:=by
 unfold cg;rw[<-aaV,<-aaU];have c:(a % 18446744073709551616+b % 18446744073709551616+0) /18446744073709551616<=1:=aa;generalize a/18446744073709551616=eT;generalize b/18446744073709551616=ud;generalize a % 18446744073709551616=al at c⊢;generalize b % 18446744073709551616=aS at c⊢;have a:=λw=>KL al aS 0 aa w;obtain⟨qL,b⟩:=gB<|(al+aS+0) /18446744073709551616;obtain⟨f,d⟩:=gB<|(al+aS+0) % 18446744073709551616;rw[b]at c;simp only[b,d]at a⊢;have b:=λw=>KL eT ud _ c w;obtain⟨e,c⟩:=gB<|(eT+ud+qL) % 18446744073709551616;obtain⟨d,d⟩:=gB<|(eT+ud+qL) /18446744073709551616;simp[c,d]at b⊢;have b:∀w,(callFunc _ #[.int _ _,.int _ _,.int _ 0]).run _ w=.ok _ w:=a;go_enter func334,ntmps334;go_wp2;exact fl (si rfl _ _ _ _ _ _ _ rfl (by have:=eK (w.alloc<|.cells #[.int .u64 eT,.int .u64 al] 112) (.cells #[.int .u64 ud,.int .u64 aS] 112)<|.cells #[.int .u64 e,.int .u64 f] 112;rwa [fV]at this) underlying112 rfl ah) rfl ⟨rfl,(ae.al.I _).I _⟩
theorem xT{n:ByteArray}{a1 a2:Option bC}{l1 l2 k1 k2:Nat}w:aH 323 #[.agg #[n,.slice a1 l1 k1,.slice a2 l2 k2]] w λe a=>e=.returned n∧au w a:=by
 go_enter func323,ntmps323;go_wp2;go_ret;exact⟨rfl,ae.al⟩
theorem UR{n:ByteArray}{a1 a2:Option bC}{l1 l2 k1 k2:Nat}w:aH 359 #[.agg #[n,.slice a1 l1 k1,.slice a2 l2 k2]] w λe a=>e=.returned (.int .i64 l2)∧au w a:=by
 go_enter func359,ntmps359;go_wp2;go_ret;exact⟨rfl,ae.al⟩
theorem UM(d:b.1[a]?=some (.cells #[c,k,r,L,d8,f7,f8,f9] 479)):
  aH 353 #[a] b λe f=>e=.returned c∧f=b:=by
 obtain⟨e,-⟩:=uw d;go_enter func353,ntmps353;go_wp2;go_ret;simp_all
theorem UN(d:b.1[a]?=some (.cells #[r,k,c,L,d8,f7,f8,f9] 479)):
  aH 354 #[a] b λe f=>e=.returned c∧f=b:=by
 obtain⟨-,-,e,-⟩:=uw d;go_enter func354,ntmps354;go_wp2;go_ret;simp_all
theorem xV(m:Option Nat)(w:ag):aH 331 #[m] w λe a=>e=.returned (.agg #[m,.map none,.map none])∧au w a:=by
 go_enter func331,ntmps331;go_wp2;exact fl (si rfl _ _ _ _ _ _ _ rfl (cz w _) underlying444 rfl ah) rfl ⟨rfl,ae.al⟩
theorem UF(m c g:Option Nat)(w:ag):aH 336 #[m,.agg #[c,g]] w λe a=>e=.returned (.agg #[m,c,g])∧au w a:=by
 go_enter func336,ntmps336;go_wp2;exact fl (si rfl _ _ _ _ _ _ _ rfl (eK w _ _) underlying444 rfl ah) rfl ⟨rfl,ae.al.I _⟩
theorem UG(c g:Option Nat)(w:ag):aH 338 #[.agg #[c,g]] w λe a=>e=.returned (.agg #[g,c])∧au w a:=by
 go_enter func338,ntmps338;go_wp2;exact fl (si rfl _ _ _ _ _ _ _ rfl (eK w _ _) underlying158 rfl ah) rfl ⟨rfl,ae.al.I _⟩
theorem UQ(t:aC)(c:bF t)(w:ag):aH 358 #[bh t] w λe a=>∃b,e=.returned (some b)∧w.1.size<=b∧au w a∧aF a bF bh bX b [(t,())]:=by
 have a:= @iW Tryz.prog;obtain⟨x,y,z⟩:=t;have a:=by
  have:=aF.I (w:=w.alloc<|.cells #[.int .u64 x,.int .u64 y,.int .u64 z] 116) (ok:=bF) (key:=bh) (enc:=bX);rwa [fV]at this
 unfold bh;go_enter func358,ntmps358;go_wp2_with (refine zk iQ underlying123 rfl (.tmp 3) (.tmp 4) (.tmp 5) rfl rfl a rfl c () rfl ?_;intro w4 b a);go_ret;exact⟨_,rfl,aa,(ae.al.I _).V b aa,a⟩
def sV(x:Nat):Nat:=(vH ((x/256:Nat))).toNat+(vH ((x % 256:Nat))).toNat
theorem Gq:∀i:Nat,i<256->0<=vH i∧(vH i).toNat<=8:=bb
theorem aaZ:∀i:Nat,i<16->(vH i).toNat<=4:=bb
theorem Om(h:a<4096):sV a<=12:=by
 have b:=aaZ (a/256) aa;have b:=(Gq (a % 256) aa).2;unfold sV;omega
theorem U3(x)(t:x<4096)(w:ag):Calls Tryz.prog 378 #[.int .u16 (x:Nat)] w λe g=>e=.returned (.int .i64 (sV x))∧ae (λ_=>False) w g:=by
 have n:(0:Int)<=(x:Int) /256:=aa
 have o:(x:Int) /256<=255:=aa
 have p:bits RF zL (x:Int) 255=(x:Int) % 256:=by
  rw[show(255:Int)=((255:Nat):Int)from rfl,D7 x 255 aa aA,nat_mask8];rfl
 have p1:=Gq (x/256) aa;have p2:=Gq (x % 256) aa;have b:ay (sV x=(vH _).toNat+(vH _).toNat):=rfl;have d:((x/256:Nat):Int)=(x:Int) /256:=aa
 have f:((x % 256:Nat):Int)=(x:Int) % 256:=aa
 rw[d]at p1 b;rw[f]at p2 b;let⟨a,r⟩:∃a:Nat,vH _=(a:Int):=⟨_,(Int.toNat_of_nonneg p1.1).symm⟩;let⟨h,s⟩:∃a:Nat,vH _=(a:Int):=⟨_,(Int.toNat_of_nonneg p2.1).symm⟩;go_wp2;refine dG (λ_=>false) ah ah ?_;intro S i q k l m j;iterate 9 (refine gg ah bf bf λK c=>?_;go_big_quiet_op;refine c _ ?_;clear c K)
 apply cR;go_wp2;go_ret;exact⟨by rw[b.out];go_num,(ae.T _ w).m⟩
theorem UY(x)(b:x<4096)(w:ag):aH 369 #[.int .u16 (x:Nat)] w λe a=>e=.returned (.int .i64 (sV x))∧au w a:=by
 have a:=λw=>U3 x b w;go_enter func369,ntmps369;go_wp2_with (go_at_call 378;refine(a _).mono ?_;rintro e w2 ⟨rfl,a⟩);go_ret;simp_all
def mJ(x:Nat):Nat:=2^ (5*sV x)
theorem Gs(h:a<4096):mJ a<=1152921504606846976:=by
 have:=Nat.pow_le_pow_right (n:=2) aa (show 5*sV a<=60 by have:=Om h;omega);exact this
theorem LQ(x)(b:x<4096)(w:ag):aH 357 #[.int .u16 (x:Nat)] w λe a=>e=.returned (.int .i64 (mJ x))∧au w a:=by
 have c:=λw=>UY x b w;have a:=Gs b;have d:=Om b;unfold mJ at a⊢;generalize sV x=n at c a d⊢;go_enter func357,ntmps357;go_wp2_with (go_at_call 369;refine(c _).mono ?_;rintro e w2 ⟨rfl,b⟩);have b:wrap64 ((2:Int) ^ (5*n))=((2^ (5*n):Nat):Int):=by
  have:((2:Int) ^ (5*n))=((2^ (5*n):Nat):Int):=af;rw[this];generalize 2^ (5*n)=z at a;unfold wrap64;omega
 go_ret;simp_all
abbrev fT:=Option Nat×Option Nat×Option Nat
structure cO where
 a:kM
 neg:Bool
 side:Bool
 deriving DecidableEq
def cF(V:Bool->ByteArray->fT)(h:ai)(c:List aq)(p:cO):Prop:=
 ∃v,c= [.string p.a.n,v,.bool p.2,.map (V p.3 p.a.n).1,.map (V p.3 p.a.n).2.1,.map (V p.3 p.a.n).2.2]∧h.list 2 dV v p.a.2
variable{A:Bool->ByteArray->fT}{u:List cO}{J:cO}
theorem cF.B{h k:ai}(e:h.le k){c:List aq}(H:cF A h c J):cF A k c J:=by
 obtain⟨v,a,b⟩:=H;exact⟨v,a,ai.list.B (h:=h) (k:=k) (λ_ _ q=>q) b e⟩
theorem cF.I{c:List aq}(H:cF A e c J):∃a b,c= [.string J.a.n,.slice a J.a.2 b,.bool J.2,.map (A J.3 J.a.n).1,.map (A J.3 J.a.n).2.1,.map (A J.3 J.a.n).2.2]∧mn e [.string J.a.n,.slice a J.a.2 b] J.a:=by
 obtain⟨v,d,c⟩:=H;obtain⟨a,b,rfl⟩:=c.I;exact⟨a,b,d,_,rfl,c⟩
def fw(p:cO):Prop:=p.a.2.length<=3∧(∀t∈p.a.2,jE t)∧aL p.a.n
def ze(a:Nat)(p:cO):Nat:=a|||c5 p.a.2
def mN(a:List cO):Nat:=a.foldl ze 0
theorem adZ(b:u[a]?=some J):mN (u.take<|a+1)=ze (mN<|u.take a) J:=by
 unfold mN;rw[eA,b,iZ];rfl
theorem G5{ps:List cO}(h:∀p∈ps,fw p):mN ps<4096:=by
 have b:∀(ps:List _)(a:Nat),(∀p∈ps,fw p)->a<4096->ps.foldl ze a<4096:=by
  intro ts;induction ts with
  |nil=>grind
  |cons t ts d=>exact λa h c=>d _ (λt a=>h t<|rz _ a)<|ID (n:=12) c<|oB (h t<|jM ..).2.1
 exact b _ 0 h aA
theorem LX(r:e.In b)(C:e.list 6 (cF A) (.slice j a g) u)(V:u.length<=16)(q:∀H∈u,fw H):
  aH 379 #[.slice j a g] b λp l=>p=.returned (.int .u16 (mN u))∧au b l:=by
 obtain⟨rfl,B⟩:=C.O r;go_enter func379,ntmps379;go_wp2;go_loopw [3,8] (λK i wr=>∃(k:Nat),k<=u.length∧i=.int .i64 k∧K=.int .u16 (mN (u.take k):Nat)∧au b wr) (λ_ i _=>u.length-(intOf i).toNat);exact⟨0,aa,rfl,rfl,ae.T _ b⟩;obtain⟨k,T,rfl,rfl,c⟩:=hrel;obtain⟨D,y,f⟩|D:=jf u k;obtain⟨Q,W,cc,rfl,S,x,R⟩:=B k y f;obtain⟨a0,a1,rfl,z⟩:=x.I;obtain⟨N,O,P,t,v,w⟩:=c.am aa id;have o:ay<|mN _=ze _ y:=adZ f;have h:=q y<|cA f;have F:=G5 (ps:=u.take k) λJ d=>q J<|qq d;have E:=oB h.2.1;generalize mN (u.take k)=s at o F;have n:ay (ze _ y=s|||c5 _):=rfl;have m:=λ(l:ag)(d:au b l)=>vV (r.B d i3) z h.1 h.2.1;generalize c5 y.a.2=I at m E n;have M:=AJ s I aa aa;generalize(A y.3 y.a.n)=L at t v w;obtain⟨X,Y,Z⟩:=L;go_wp2_with (go_at_call 322;refine(m _<|c.I _).mono ?_;rintro p w2 ⟨rfl,G⟩);go_roundw;exact⟨k+1,aa,ba,by rw[o.out,n.out],(c.I _).B G⟩;exact dK;have U:u.take k=u:=aJ;go_ret;simp_all
def mF(b:bS)(t:dP)(u:Nat):Option bS:=
 let x:=if t.c=0 then b.getD t.v 0 else t.c
 if x=0 then some (b.set t.v u)else if x=u then some b else none
def ee(ts:List dP)(a:List Nat):Option bS:=(ts.zip a).foldl (λa p=>a.bind λb=>mF b p.1 p.2) (some ep)
theorem ZF(d:w[a]?=some b5)(c:y[a]?=some g):ee (w.take<|a+1) (y.take<|a+1)=(ee (w.take a)<|y.take a).bind λb=>mF b b5 g:=by
 have b:(w.take<|a+1).zip (y.take<|a+1)=(w.take a).zip (y.take a)++ [(b5,g)]:=by
  rw[eA,eA,d,c];rw[List.zip_append (by grind)];rfl
 unfold ee;grind
theorem XK{l:List (dP×Nat)}:l.foldl (λa p=>a.bind λb=>mF b p.1 p.2) (none:Option bS)=none:=by
 induction l with
 |nil=>rfl
 |cons p l a=>grind
theorem ZG{ts:List dP}{ws:List Nat}(k)(h:ee (ts.take<|k+1) (ws.take<|k+1)=none):ee ts ws=none:=by
 unfold ee at*;have a:ts.zip ws=(ts.take<|k+1).zip (ws.take<|k+1)++(ts.drop<|k+1).zip (ws.drop<|k+1):=by
  rw[Ki,Ki,Ki,<-Ea,<-List.drop_zipWith,List.take_append_drop]
 rw[a,iZ,h,XK]
theorem ZI(c:okB h)(b:a<18446744073709551616)(b:mF h b5 a=some z):okB z:=by
 unfold mF at b;simp only at b;generalize(if b5.c=0 then h.getD b5.v 0 else b5.c)=x at b;split at b;cases dw b;grind;split at b;cases dw b;exact c;cases b
theorem Hg:okB ep:=⟨rfl,λx a=>by rw[List.eq_of_mem_replicate a];omega⟩
theorem Cj(i:∀u∈y,u<18446744073709551616)(e:ee w y=some h):okB h:=by
 have f:∀(l:List<|dP×Nat)(a:Option _),(∀p∈l,p.2<18446744073709551616)->(∀c,a=some c->okB c)->∀c,l.foldl (λa p=>a.bind λh=>mF h p.1 p.2) a=some c->okB c:=by
  intro l;induction l with
  |nil=>grind
  |cons p l b=>
   intro a d g;refine b _ (λq b=>d q<|rz _ b) λc b=>?_;cases a with
   |none=>cases b
   |some a=>exact ZI (g a rfl) (d p<|jM ..) b
 exact f _ _ (λp a=>i _ (List.of_mem_zip a).2) (λc b=>by cases dw b;exact Hg) h e
theorem yU{P:bj}{fn:Func}{p q:Tmp}{ty:bB}(h:fn.8= #[.cell p ty,.tmp q])(tmps:Array aq)(w:ag)(g:Nat)(t:bB)(cs:Array aq)(fr:Nat×Nat)(d:zP)
  (e:tmps.getD p aj=.pointer (some ⟨g,0,none⟩)) (b:w.1[g]?=some (.cells cs t fr))
  (a:P.underlying ty=some d) (a:(match d with| .struct _| .array _ _=>true|_=>false)=true) (c:(P.info? ty).map (·.3)=some cs.size) (v:aq) (f:tmps.getD q aj=v):
  (results fn tmps).run P w=.ok (.tuple #[.agg cs,v]) w:=by
 have f:tmps[p]?.getD _=.pointer _:=aV e;have e:tmps[q]?.getD aj=v:=iq;simp[results,h,f,e,asAddr,Kg w g t _ _ _ d b _ a c]
def fS(t:aC):List Nat:= [t.1,t.2.1,t.2.2]
theorem adT(t:aC):bh t=.agg (bu<|fS t):=rfl
theorem P7:∀(l:List n)(k:List Q),l.zip (k.take l)=l.zip k
 | [],k=>af
 |x::l,[]=>af
 |x::l,y::k=>by simp[P7 l k]
def Ck(o:Option bS):Value:=.tuple #[cu (o.getD ep),.bool o.isSome]
theorem E_(ax:e.In b)(a5:mn e [.string c,.slice j g a] p)(d6:p.2.length<=3)(b8:∀b9∈p.2,jE b9)(b6:bF b9):
  aH 351 #[.agg #[c,.slice j g a],bh b9] b λW aK=>W=.returned (Ck<|ee p.2<|fS b9)∧au b aK:=by
 rw[adT];have c3:(fS b9).length=3:=rfl;have Q:∀u∈fS b9,u<18446744073709551616:=by
  intro u m;simp only[fS,pF,List.mem_nil_iff,or_false]at m;obtain rfl|rfl|rfl:=m
  ·omega
  ·omega
  ·omega
 generalize fS b9=ws at c3 Q;clear b6;obtain⟨c4,P,b7⟩:=a5;obtain⟨rfl,rfl⟩:c=p.n∧ .slice j g a=c4:=aV P
 obtain⟨T,V,O,a6⟩:=b7.U ax;obtain⟨rfl,rfl,rfl⟩:j=T∧g=p.2.length∧a=V:=aV O
 clear O P;obtain⟨t,b3⟩:=aT<|Dm #[p.n,.slice j p.2.length a] 315;have a3:=((((ae.T bE b).I t).I<|.cells (bu ws) 116).I<|.cells (bu ep) 467).I<|.cells (bu ep) 467;have a4:dc ((((b.alloc t).alloc<|.cells (bu ws) 116).alloc<|.cells (bu ep) 467).alloc<|.cells (bu ep) 467) (b.1.size+1) 116 ws:=
  (lZ _ _ _ af).trans<|(lZ _ _ _ af).trans<|eK _ _ _
 have a2:dc ((((b.alloc t).alloc<|.cells (bu ws) 116).alloc<|.cells (bu ep) 467).alloc<|.cells (bu ep) 467) (b.1.size+2) 467 ep:=by
  have:=ic ((b.alloc t).alloc<|.cells (bu ws) 116) (.cells (bu ep) 467)<|.cells (bu ep) 467;simp only[fV,tI,Nat.reduceAdd]at this;exact this
 have a0:dc ((((b.alloc t).alloc<|.cells (bu ws) 116).alloc<|.cells (bu ep) 467).alloc<|.cells (bu ep) 467) (b.1.size+3) 467 ep:=by
  have:=eK ((b.alloc t).alloc<|.cells (bu ws) 116) (.cells (bu ep) 467)<|.cells (bu ep) 467;simp only[fV,tI,Nat.reduceAdd]at this;exact this
 subst b3;have N:=λk=>ZG (ts:=p.2) (ws:=ws) k;have L:ay (∀k,ee (p.2.take<|k+1) (ws.take<|k+1)=none->ee p.2 ws=none):=N;clear N;go_enter func351,ntmps351;go_wp2
 go_loopw [7,9,13] (λ_ _ C wr=>∃(k:Nat)(d:bS),k<=p.2.length∧C=.int .i64 k∧au b wr∧dc wr (b.1.size+1) 116 ws∧dc wr (b.1.size+2) 467 ep∧dc wr (b.1.size+3) 467 d∧okB d∧ay (ee (p.2.take k) (ws.take k)=some d)) (λ_ _ C _=>p.2.length-(intOf C).toNat)
 case atStart=>exact⟨0,_,aa,rfl,a3,a4,a2,a0,Hg,rfl⟩
 case round=>
  obtain⟨k,d,d5,rfl,l,D,o,n,E,K⟩:=hrel;by_cases b0:k<p.2.length
  ·obtain⟨y,G⟩:∃y,p.2[k]?=some y:=⟨_,cy b0⟩;obtain⟨u,m⟩:∃y,ws[k]?=some y:=⟨_,cy aa⟩;obtain⟨M,d9,cc,rfl,a9,rfl,a8⟩:=a6 k y G;obtain⟨X,Y⟩:=l.cB aa id;have I:=b8 y<|cA G;have w:ay<|ee (p.2.take<|k+1) (ws.take<|k+1)=mF d y u:=by show _=_;rw[ZF G m,K.out];rfl
   obtain⟨z,J⟩:∃z,d[y.v]?=some z:=⟨_,cy (by have:=E.1;have:y.v<12:=I.2;omega)⟩;have R:d.getD y.v 0=z:=by rw[D8,J];rfl
   have d7:=Q u<|cA m;have v:ay<|mF d y u=if(if y.c=0 then z else y.c)=0 then some (d.set y.v u)else if(if y.c=0 then z else y.c)=u then some d else none:=by show _=_;rw[<-R];rfl
   obtain⟨c1,c2⟩:=D.I m;obtain⟨b1,b2⟩:=n.I J;clear G a8 a9 R J m;obtain⟨f,i⟩:=y;dsimp only at X Y b1 b2 v;have d8:i<12:=I.2;clear I;have d4:decide ((k:Int)<(p.2.length:Int))=true:=dT decide_eq_true_eq
   have d3:=n.V;have S:au wr<|wr.alloc<|.cells #[.int .u64 (f:Nat),.int .i64 (i:Nat)] 413:=ae.al;have U:=S.Y c1 id;have c8:=S.Y b1 id;obtain⟨c,B⟩:=gB (if f=0 then z else f);rw[B]at v;by_cases s:f=0
   ·have b4:((f:Int)==0)=true:=aJ
    rw[if_pos s]at B;clear s;subst B;by_cases q:z=0
    ·have b5:((z:Int)==0)=true:=aJ
     have h:ay<|mF d ⟨f,i⟩ u=some (d.set i u):=aJ
     have a7:okB<|d.set i u:=aJ
     go_wp2;apply dG (λC=>C==6) ah ah;intro c7 M d2 Z d0 d1 c9;have e0:∀c,(M c).cell? ⟨wr.1.size,1,none⟩=some (.int .i64 (i:Nat)):=iq;have e1:=λc=>(Z c _ k bQ).trans U;refine aD ?_;refine aD ?_;refine aD ?_;refine aD ?_;refine aD ?_;refine aD ?_
     refine a_ λc6 a1=>?_;go_wp2;apply a1 _ _ ah (cS ah);apply cR;go_wp2;go_roundw
     case rel=>
      exact⟨k+1,d.set i u,aa,ba,((l.U (.inl<|IE _ 3) _).I _).m,(D.T aa).B,(o.T aa).B,(n.U i u).B,a7,by show _=_;rw[w.out,h.out]⟩
     case measure=>simp[intOf];omega
    ·have b5:((z:Int)==0)=false:=aJ
     by_cases r:z=u
     ·skip
      have H:((z:Int)== (u:Int))=true:=aJ
      have h:ay<|mF d ⟨f,i⟩ u=some d:=aJ
      go_wp2;go_roundw
      case rel=>exact⟨k+1,d,aa,ba,l.I _,D.B,o.B,n.B,E,by show _=_;rw[w.out,h.out]⟩
      case measure=>simp[intOf];omega
     ·have H:((z:Int)== (u:Int))=false:=aJ
      have h:ay<|ee p.2 ws=none:=L.out k (by rw[w.out,v.out,if_neg q,if_neg r]);go_wp2_with (refine iV rfl (.tmp 4) (.tmp 39) rfl rfl o.B rfl sizeOf467 rfl (lf ep) ?_;intro w3 A x);apply fl (yU rfl _ _ _ _ _ _ _ rfl x underlying467 rfl ah _ rfl) rfl;exact⟨dh h.out,(l.I _).V A aa⟩
   ·have b4:((f:Int)==0)=false:=aV s
    rw[if_neg s]at B;subst B;have q:=s;clear s;by_cases r:f=u
    ·skip
     have H:((f:Int)== (u:Int))=true:=dT beq_iff_eq
     have h:ay<|mF d ⟨f,i⟩ u=some d:=by show _=_;rw[v.out,if_neg q,if_pos r]
     clear r q;go_wp2;go_roundw
     case rel=>exact⟨k+1,d,aa,ba,l.I _,D.B,o.B,n.B,E,by show _=_;rw[w.out,h.out]⟩
     case measure=>simp[intOf];omega
    ·skip
     have H:((f:Int)== (u:Int))=false:=dT beq_eq_false_iff_ne
     have h:ay<|ee p.2 ws=none:=L.out k (by rw[w.out,v.out,if_neg q,if_neg r]);clear r q;have F:(bu ep).size=12:=rfl;go_wp2_with (refine iV rfl (.tmp 4) (.tmp 39) rfl rfl o.B rfl sizeOf467 rfl (lf ep) ?_;intro w3 A x);refine fl (yU rfl _ _ (b.1.size+2) 467 _ _ _ rfl x underlying467 rfl ah _ rfl) rfl ?_;exact⟨dh h.out,(l.I _).V A λd (e:d=b.1.size+2)=>.inl aa⟩
  ·obtain rfl:k=p.2.length:=aa
   have h:ay<|ee p.2 ws=some d:=by
    show _=_;rw[<-K.out,zG];unfold ee;rw[P7]
   have F:(bu d).size=12:=aw kC E.1
   go_wp2_with (first|refine oC rfl (.tmp 6) rfl rfl n underlying467 rfl (by rw[F];kernel_rfl) ?_|(refine iV rfl (.tmp 4) (.tmp 41) rfl rfl o rfl sizeOf467 (dh F) (lf _) ?_;intro w3 A x));refine fl (yU rfl _ _ (b.1.size+2) 467 _ _ _ rfl x underlying467 rfl (by rw[F];kernel_rfl) _ rfl) rfl ?_;exact⟨dh h.out,l.V A λd (e:d=b.1.size+2)=>.inl aa⟩
theorem adJ(a f):a % 18446744073709551616*f % 18446744073709551616=a*f % dA % 18446744073709551616:=by
 rw[Nat.mod_mod_of_dvd _ aA,Nat.mod_mul_mod]
theorem adI(a f):(a % 18446744073709551616*f/18446744073709551616+a/18446744073709551616*f) % 18446744073709551616=a*f % dA/18446744073709551616:=by
 have b:a*f=(a/18446744073709551616*f)*18446744073709551616+a % 18446744073709551616*f:=by
  conv=>lhs;rw[<-Nat.div_add_mod a 18446744073709551616]
  rw[IG,Nat.mul_comm 18446744073709551616,Nat.mul_right_comm]
 unfold dA;omega
theorem U2(a f)(c:f<18446744073709551616)(w:ag):aH 377 #[cg a,.int .u64 (f:Nat)] w λe b=>e=.returned (cg<|a*f % dA)∧au w b:=by
 unfold cg;rw[<-adJ,<-adI];have b:a % 18446744073709551616<18446744073709551616:=aa;generalize a/18446744073709551616=eT;generalize a % 18446744073709551616=al at b⊢;have a:=λw=>Tryz.bits_Mul64 _ f b c w;obtain⟨p,b⟩:=gB<|al*f/18446744073709551616;obtain⟨q,c⟩:=gB<|al*f % 18446744073709551616;simp[b]at a⊢;have b:ay<|se.wrap ((p:Int)+se.wrap ((eT:Int)*(f:Int)))=(((p+eT*f) % 18446744073709551616:Nat):Int):=by
  show _=_;have:((eT:Int)*(f:Int))=((eT*f:Nat):Int):=af;rw[this];generalize eT*f=z;simp[RD,Iy,Kd]
 go_enter func377,ntmps377;go_wp2_with (go_at_call 382;refine(a _).mono ?_;rintro e w2 ⟨rfl,rfl⟩);rw[b.out];exact fl (si rfl _ _ _ _ _ _ _ rfl (eK _ _ _) underlying112 rfl ah) rfl ⟨rfl,ae.al.I _⟩
def dD(w:ag)(m:Option Nat)(a:List (ByteArray×Nat))(F:ByteArray->List aC):Prop:=(m=none∧a= [])∨∃b,m=some b∧aO w b a F
theorem dD.I{w w':ag}{F:ByteArray->List aC}{D:Nat->Prop}(h:dD w K f F)(g:ae D w w')(c:∀a,K=some a->¬D a)(d:∀p∈f,¬D p.2):dD w' K f F:=by
 obtain h|⟨a,b,e⟩:=h;exact .inl h;exact .inr ⟨a,b,e.O g (c _ b) d⟩
theorem dD.Y{w:ag}(h:dD w K f q):ai.map (λb=>w.1[b]?) aL cr eF K f:=by
 obtain⟨rfl,rfl⟩|⟨a,rfl,a⟩:=h;exact .inl af;exact a.1.T
theorem pZ(o:Option Nat):o.elim (.map none) eF=.map o:=by cases o<;>rfl
theorem dD.O{w:ag}(h:dD w K f q)(n:ByteArray):ai.map (λb=>w.1[b]?) bF bh bX (.map<|aB f n)<|aR<|cd f q n:=by
 obtain⟨rfl,rfl⟩|⟨a,rfl,a⟩:=h;exact .inl ⟨rfl,rfl⟩;rw[<-pZ];exact a.Z n
theorem UZ(g:dD b K f q)(h:dD b e4 d2 g4)(i:dD b e5 f6 g5)(d:aL c):
  aH 370 #[.agg #[K,e4,e5],c] b λe a=>e=.returned (.agg #[.map<|aB f c,.map<|aB d2 c,.map<|aB f6 c])∧au b a:=by
 have a:=((ae.T bE b).I<|.cells #[K,e4,e5] 444).I<|.cells #[.map none,.map none,.map none] 491;have j:=(g.I a i2 i2).Y;have k:=(h.I a i2 i2).Y;have h:=(i.I a i2 i2).Y;have a:=pZ<|aB f c;have e:=pZ<|aB d2 c;have g:=pZ<|aB f6 c;go_enter func370,ntmps370;go_wp2_with (first|(at_lookup;refine iH bZ underlying99 jZ rfl (.tmp 6) (.tmp 7) rfl rfl (bU _) j rfl d a ?_)|(at_lookup;refine iH bZ underlying99 jZ rfl (.tmp 11) (.tmp 12) rfl rfl (bU _) k rfl d e ?_)|(at_lookup;refine iH bZ underlying99 jZ rfl (.tmp 16) (.tmp 17) rfl rfl (bU _) h rfl d g ?_));apply fl (si rfl _ _ _ _ _ _ _ rfl (eK _ _ _) underlying491 rfl ah) rfl;exact⟨rfl,ae.al.I _⟩
theorem ai.B{w w':ag}{v:aq}{f:List _}(h:ai.map (λb=>w.1[b]?) R a7 d3 v f)(c:au w w'):ai.map (λb=>w'.1[b]?) R a7 d3 v f:=
 h.B λ_ _ a=>c.O a id
theorem U'(c:ai.map (λa=>b.1[a]?) bF bh bX K<|aR b3)(h:ai.map (λa=>b.1[a]?) bF bh bX e4<|aR f4)(k:ai.map (λa=>b.1[a]?) bF bh bX e5<|aR f5)(d a e)(g:bF (d,a,e)):
  aH 373 #[.agg #[K,e4,e5],.agg #[.int .u64 d,.int .u64 a,.int .u64 e]] b λi f=>i=.returned (.bool<|bL f5 (d,a,e)||(bL b3 (d,a,e)&& !bL f4 (d,a,e)))∧au b f:=by
 have j:=((ae.T bE b).I<|.cells #[K,e4,e5] 491).I<|.cells #[.int .u64 d,.int .u64 a,.int .u64 e] 116;obtain⟨W,m,-,l,n,-⟩:=nc b _<|.cells #[.int .u64 d,.int .u64 a,.int .u64 e] 116;rw[<-m]at j;have m1:=λ(f:ag)(g:au W f)=>ai.B c<|j.B g;have m2:=λ(f:ag)(g:au W f)=>ai.B h<|j.B g;have c:=λ(f:ag)(g:au W f)=>ai.B k<|j.B g;have k:=qJ (bU _) (c W<|ae.T _ W) d a e g;obtain⟨o,a1,a2,_,_,_⟩:=bq l;obtain⟨b0,b1,b2,_,_,_⟩:=bq n;cases h:bL f5 (d,a,e)with
 |true=>
  go_enter func373,ntmps373;go_wp2_with (first|(rw[<-m])|(go_at_call 144;refine k.mono ?_;rintro i w2 ⟨rfl,c⟩));go_ret;exact⟨rfl,j.B c⟩
 |false=>
  rw[h]at k;cases h:bL b3 (d,a,e)with
  |false=>
   have n:=λ(f:ag)(l:au W f)=>qJ (bU _) (m1 _ l) d a e g;go_enter func373,ntmps373;go_wp2_with (first|(rw[<-m])|(go_at_call 144;refine k.mono ?_;clear k;rintro i w2 ⟨rfl,c⟩;have t:=c.Y o id;have p:=c.Y b0 id;have q:=c.Y b1 id;have r:=c.Y b2 id)|(go_at_call 144;refine(n _ c).mono ?_;rintro i w3 ⟨rfl,h⟩));go_ret;exact⟨rfl,(j.B c).B h⟩
  |true=>
   have n:=λ(f:ag)(l:au W f)=>qJ (bU _) (m1 _ l) d a e g;have s:=λ(f:ag)(l:au W f)=>qJ (bU _) (m2 _ l) d a e g;obtain⟨f,f⟩:=gB<|bL f4 (d,a,e);simp[f]at s⊢;go_enter func373,ntmps373;go_wp2_with (first|(rw[<-m])|(go_at_call 144;refine k.mono ?_;clear k;rintro i w2 ⟨rfl,c⟩;have t:=c.Y o id;have p:=c.Y b0 id;have q:=c.Y b1 id;have r:=c.Y b2 id)|(go_at_call 144;refine(n _ c).mono ?_;clear n;rintro i w3 ⟨rfl,h⟩;have a:=h.Y (c.Y a1 id) id;have a:=h.Y p id;have a:=h.Y q id;have a:=h.Y r id)|(go_at_call 144;refine(s _<|c.B h).mono ?_;rintro i w4 ⟨rfl,a⟩));go_ret;exact⟨rfl,((j.B c).B h).B a⟩
theorem Yt:Dp Tryz.prog 467:=J8 laidOut bb bb ah ah
theorem Mc:Tryz.prog.cellsOf 467=12:=ah
theorem Yn(r:okB h):∃l,keyOf Tryz.prog 467 (cu h)=some l:=by
 obtain⟨c,b⟩:=r;have o:Tryz.prog.keyType 467=true:=ah;have p:(cu h).formed Tryz.prog 467=true:=by
  unfold J9 cu;rw[underlying467,Mc];simp[kC,c]
 have a:∀(d:Nat) {n:Nat},n<18446744073709551616->Tryz.prog.keyLits (d+1) 114 [.int .u64 n]=some [.int .u64 n]:=by
  intro d n t;unfold AB;rw[underlying114];exact if_pos ⟨rfl,by simp[Lit.wf,RA,RB,Kd,Iy];omega⟩
 have q:∀d,∃l,Tryz.prog.keyLits (d+2) 467 (bu h).1=some l:=by
  intro d
  match h,c,b with
  | [u,v,y,z,A,B,C,D,E,F,w,x],_,b=>
   simp at b;obtain⟨e,a1,a2,a3,a4,a5,i,j,k,m,f,g⟩:=b;unfold AB bu;simp[Mc,L9,a d e,a d a1,a d a2,a d a3,a d a4,a d a5,a d i,a d j,a d k,a d m,a d f,a d g,iK,Iz]
 unfold keyOf;simp only[o,p,Bool.and_true,if_true];let⟨l,s⟩:=q 521;show ∃l,(Tryz.prog.keyLits 523 467 (bu h).1).map _=some l;simp_all
theorem aah(h:bu y=bu g3):y=g3:=by
 have a:=by
  have:=congrArg Array.toList h;simpa only[bu]using this
 refine(List.map_inj_right λx b b=>?_).1 a;grind
theorem nY:gO Tryz.prog 467 cu okB:=.B Yt (λ_ h=>Yn h) (λx y _ _ h=>by
 injection h with h1
 exact aah h1)
abbrev Seen:=List aC×List aC×List aC
def CS(s:Seen)(t:aC):Bool:=bL s.2.2 t||(bL s.1 t&& !bL s.2.1 t)
structure mo(w:ag)(N:Nat)(V:Bool->ByteArray->fT)(D:Bool->ByteArray->Seen):Prop where
 now:∀s n,ai.map (λb=>w.1[b]?) bF bh bX (.map (V s n).1) (aR (D s n).1)
 came:∀s n,ai.map (λb=>w.1[b]?) bF bh bX (.map (V s n).2.1) (aR (D s n).2.1)
 gone:∀s n,ai.map (λb=>w.1[b]?) bF bh bX (.map (V s n).2.2) (aR (D s n).2.2)
 low:∀s n b,((V s n).1=some b∨(V s n).2.1=some b∨(V s n).2.2=some b)->b<N
theorem ai.Y{w a:ag}(h:ai.map (λb=>w.1[b]?) R a7 d3 K f)(i:ae N w a)(g:∀b,K=some b->¬N b):ai.map (λb=>a.1[b]?) R a7 d3 K f:=by
 obtain h|⟨b,c,a,a,d,e⟩:=h;exact .inl h;have:K=some b:=by injection a
 exact .inr ⟨b,c,_,a,i.O d<|g b this,e⟩
theorem mo.B{w w':ag}{D:Bool->ByteArray->Seen}(h:mo w a A D)(e:ae N w w')(d:∀b,b<a->¬N b):mo w' a A D:=
 ⟨λs n=>ai.Y (h.1 s n) e λb c=>d b<|h.4 s n b<|.inl c,λs n=>ai.Y (h.2 s n) e λb c=>d b<|h.4 s n b<|.inr<|.inl c,λs n=>ai.Y (h.3 s n) e λb c=>d b<|h.4 s n b<|.inr<|.inr c,h.4⟩
def sD(D:Bool->ByteArray->Seen)(b:bS)(p:cO):Bool:=CS (D p.3 p.a.n) (dL p.a.2 b) != p.2
def rb(D:Bool->ByteArray->Seen)(a:List cO)(b:bS):Bool:=a.all (sD D b)
def od(D:Bool->ByteArray->Seen)(a:List cO)(live:Nat)(f:List (bS×Nat))(b:bS)(n:Nat):List (bS×Nat):=if rb D a b then gT dA f (eh b live,n)else f
variable{a6:Bool->ByteArray->Seen}
theorem aaN(b:u[a]?=some J)(b:sD a6 h J=false):rb a6 u h=false:=by
 unfold rb;grind
theorem Cw(a:okB h)(b):okB<|eh h b:=by
 refine⟨by simp[eh,a.1],λx a=>?_⟩;obtain⟨i,b,rfl⟩:=List.mem_mapIdx.1 a;split;simp_all;omega
theorem P1(w:ag):(zeroValue 112).run Tryz.prog w=.ok (cg 0) w:=ah
theorem PE(b:∀t∈w,jE t)(a:okB h):bF<|dL w h:=⟨G_ b a 0,G_ b a 1,G_ b a 2⟩
theorem LR(c7:e.In b)(f2:mo b x A a6)(c1:aF b okB cu cg a f)
  (f8:e.list 6 (cF A) (.slice j l g) u)(i9:u.length<=16)(g4:∀b1∈u,fw b1)(live:Nat) (i8:live<4096)(t:okB h)(n):
  aH 363 #[some a,.agg #[.slice j l g,.int .u16 live],cu h,cg n] b λd c=>d=.returned (.tuple #[])∧ae (·=a) b c∧aF c okB cu cg a (od a6 u live f h n):=by
 obtain⟨rfl,f4⟩:=f8.O c7;have i6:=c1.O;obtain⟨B,C,a7⟩:∃B C:Nat,cg n=.agg #[.int .u64 B,.int .u64 C]:=⟨_,_,rfl⟩;have d2:ay<|cg n=.agg #[.int .u64 B,.int .u64 C]:=a7;change aH 363 #[some a,.agg #[.slice j u.length g,.int .u16 live],.agg<|bu h,cg n] b _;rw[a7];clear a7;obtain⟨W,S,Q,b7,-⟩:=xQ b (.cells #[.slice j u.length g,.int .u16 live] 476) (.cells (bu h) 467)<|.cells #[.int .u64 B,.int .u64 C] 112
 have e1:dc W (b.1.size+1) 467 h:=aw S<|(lZ _ _ _ af).trans<|eK _ _ _
 have e3:W.1[b.1.size+2]?=some (.cells #[.int .u64 B,.int .u64 C] 112):=by
  rw[S];have:=eK (b.alloc<|.cells #[.slice j u.length g,.int .u16 live] 476) (.cells (bu h) 467)<|.cells #[.int .u64 B,.int .u64 C] 112
  rwa [fV]at this
 have c2:=c1.B Q id;obtain⟨g7,g8,_,_⟩:=bJ b7;go_enter func363,ntmps363;go_wp2_with (rw[<-S]);clear S
 go_loopw [13] (λp wr=>∃(k:Nat),k<=u.length∧p=.int .i64 k∧au W wr∧ay (∀i y,i<k->u[i]?=some y->sD a6 h y=true)) (λp _=>u.length-(intOf p).toNat)
 case atStart=>exact⟨0,aa,rfl,ae.T _ W,λi y T=>aa⟩
 case round=>
  obtain⟨k,i7,rfl,o,b5⟩:=hrel;have e5:=c2.B o id;have h9:=o.O b7 id;have a0:=e1.O o id;have b9:=o.O e3 id;have a3:=Q.B o;have f7:=aP b9;by_cases g0:k<u.length
  ·let⟨y,I⟩:∃y,u[k]?=some y:=⟨_,cy g0⟩;obtain⟨Y,j2,cc,rfl,f7,f0,f6⟩:=f4 k y I;obtain⟨d0,d1,rfl,f1⟩:=f0.I;let⟨h3,h4,h5,h6,h7,h8⟩:=a3.am f6 id;have b0:=g4 y<|cA I;have d4:ay<|sD a6 h y=false->rb a6 _ h=false:=aaN I;have d3:ay (sD a6 h y=true->∀i z,i<k+1->u[i]?=some z->sD a6 h z=true):=λi0 i z T g5=>by
    obtain P|P:=tE i k
    ·exact b5.out i z P g5
    grind
   have M:ay<|sD a6 h y=(CS _ _ != y.2):=rfl;have i5:decide ((k:Int)<(u.length:Int))=true:=aJ
   have aK:=PE b0.2.1 t;have w:∀(c:ag)(_:au wr c),aH 366 #[.agg #[.string y.a.n,.slice d0 y.a.2.length d1],.agg<|bu h] c λd b2=>d=.returned (.agg #[.int .u64 (dL y.a.2 h).1,.int .u64 (dL y.a.2 h).2.1,.int .u64 (dL y.a.2 h).2.2])∧au c b2:=
    λ(c:ag) G=>LS (c7.B (a3.B G) i3) f1 b0.1 b0.2.1 t
   have U:∀(c:ag)(_:au wr c)(J K L:Nat),bF (J,K,L)->aH 373 #[.agg #[.map (A y.3 y.a.n).1,.map (A y.3 y.a.n).2.1,.map (A y.3 y.a.n).2.2],.agg #[.int .u64 J,.int .u64 K,.int .u64 L]] c λd b2=>d=.returned (.bool<|CS (a6 y.3 y.a.n) (J,K,L))∧au c b2:=
    λ(c:ag) G J K L g1=>let X:=f2.B (a3.B G) i2;U' (X.1 y.3 y.a.n) (X.2 y.3 y.a.n) (X.3 y.3 y.a.n) J K L g1
   generalize dL y.a.2 h=b1 at w aK M;obtain⟨p1,p2,p3⟩:=b1;simp only at w;have c8:=λc G=>U c G _ _ _ aK;obtain⟨g6,c6⟩:=gB<|CS (a6 y.3 y.a.n) (p1,p2,p3);rw[c6]at M;simp[c6]at c8;generalize(A y.3 y.a.n).1=g9 at*;generalize(A y.3 y.a.n).2.1=h0 at*;generalize(A y.3 y.a.n).2.2=c9 at*;have F:(bu h).size=12:=aw kC t.1
   go_wp2;obtain⟨q,a9,R,-⟩:=df wr<|.cells #[.string y.a.n,.slice d0 y.a.2.length d1,.bool y.2,g9,h0,c9] 493
   have r:q.1[wr.1.size]?=some _:=aw a9<|cz _ _
   have j0:=aP r;have b8:=a0.O R id;have f5:=b8.V;rw[<-a9];clear a9;apply dG (λp=>p==6||p==7) ah ah;intro d5 Y f3 d8 d9 D O;have j3:q.cell? _=some (.string _):=((cI _ _ 0 _ _ _ r).trans rfl);have j4:q.cell? _=some (.slice _ _ _):=((cI _ _ 1 _ _ _ r).trans rfl);have j5:q.cell? _=some (.bool _):=((cI _ _ 2 _ _ _ r).trans rfl);have j6:q.cell? _=some (.map _):=((cI _ _ 3 _ _ _ r).trans rfl);have j7:q.cell? _=some (.map _):=((cI _ _ 4 _ _ _ r).trans rfl);have j8:q.cell? ⟨wr.1.size,5,none⟩=some (.map c9):=((cI _ _ 5 _ 493 (0,0) r).trans rfl);refine aD ?_;refine aD ?_;refine aD ?_;refine aD ?_;refine aD ?_
   refine nU ah bf (.tmp 6) rfl rfl (λc ⟨m,d⟩=>aw d<|(D m _ f5).trans b8) underlying467 rfl (by rw[F];kernel_rfl) ?_;go_frame;refine a_ λV s=>?_;go_wp2_with (go_at_call 366;refine(w _ R.m).mono ?_;rintro d w2 ⟨rfl,v⟩);have E:au q w2:=ae.ft v;refine s _ _ ah (λ_=>O _ E.below) ?_;refine a_ λV s=>?_;go_wp2_with (go_at_call 373;refine(c8 _<|R.B E).mono ?_;rintro d w3 ⟨rfl,H⟩);have b6:=E.B H;refine s _ _ ah (λ_=>O _ b6.below) ?_;refine aD ?_;refine aD ?_;refine aD ?_;refine aD ?_
   refine cR ?_;have a2:au W w3:=(o.B R).B b6;cases j1:(g6==y.2)with
   |true=>
    have N:ay<|rb a6 u h=false:=d4.out (by rw[M.out];grind);go_wp2;apply fl (DW rfl _ _ _) rfl;exact⟨rfl,(Q.B a2).Z,by unfold od;rw[if_neg (by rw[N.out];grind)];exact c2.B a2 id⟩
   |false=>
    have N:ay (∀i z,i<k+1->u[i]?=some z->sD a6 h z=true):=d3.out (by rw[M.out];grind);go_wp2;go_roundw
    case rel=>exact⟨k+1,aa,ba,a2,aa⟩
    case measure=>simp[intOf];omega
  ·obtain rfl:k=u.length:=aa
   have N:ay<|od a6 u live f h n=gT dA f (eh h live,n):=by
    show _=_;unfold od;rw[if_pos];unfold rb;rw[zB];intro y I;obtain⟨i,T,rfl⟩:=ly I;exact b5.out i _ T<|cy T
   have b3:ay<|gT dA f (eh h live,n)=cK f (eh h live) (((aB f<|eh h live).getD 0+n) % dA):=rfl;have a5:=Cw t live;have F:(bu h).size=12:=aw kC t.1
   have a8:(bu<|eh h live).size=12:=aw kC a5.1
   have w:=λb=>Bv b t.1 live aa;unfold cu at w;have b4:ay<|(aB f<|eh h live).elim (cg 0) cg=cg ((aB f<|eh h live).getD 0):=by
    show _=_;cases aB f (eh h live)<;>rfl
   have c4:=b4.out;generalize(aB f<|eh h live).getD 0=d6 at c4 b3;clear b4;have U:=λb=>LK d6 n b;rw[d2.out]at U;generalize i1:eh h live=eY at*;have s0:=o.Y g7 id;have s1:=o.Y g8 id;go_wp2_with (first|refine oC rfl (.tmp 6) rfl rfl a0 underlying467 rfl (by rw[F];kernel_rfl) ?_|(go_at_call 374;refine(w _).mono ?_;rintro d w2 ⟨rfl,v⟩;have e2:=a0.O v id;have e4:=v.O b9 id;have e6:=e5.B v id)|(refine iV rfl (.tmp 6) (.tmp 33) rfl rfl e2 rfl (λb=>aw F<|sizeOf467 b) (by rw[a8,F]) (lf _) ?_;intro w3 H a4));go_frame;have a1:=e6.B H (λe=>by have e0:a=b.1.size+1:=e;omega);have ax:=H.O e4 (λe=>by have e0:b.1.size+2=b.1.size+1:=e;omega);have f9:=a1.O;have c3:=aP a4;have i4:=aP ax;obtain⟨h1,h2,_,_⟩:=bJ ax;refine dG (λp=>p==6||p==7) ah ah ?_;intro d5 Y f3 d8 d9 D O;have br:∀m,aF (Y m) okB cu cg a f:=λm=>by
    obtain⟨d7,cl,P,E⟩:=a1;exact⟨d7,cl,(D m _ f9).trans P,E⟩
   refine aD ?_;refine nU ah bf (.tmp 6) rfl rfl (λc ⟨m,d⟩=>aw d<|(D m _ c3).trans a4) underlying467 rfl (by rw[a8];kernel_rfl) ?_;go_frame;refine aD ?_;refine nU ah bf (.tmp 6) rfl rfl (λc ⟨m,d⟩=>aw d<|(D m _ c3).trans a4) underlying467 rfl (by rw[a8];kernel_rfl) ?_;go_frame;refine yn nY underlying487 P1 ah bf (.tmp 36) (.tmp 37) rfl rfl (λc ⟨m,d⟩=>aw d<|(br m).T) rfl a5 c4 ?_;go_frame;refine aD ?_;refine a_ λV s=>?_;go_wp2_with (go_at_call 334;refine(U _).mono ?_;rintro d w4 ⟨rfl,g2⟩);have Z:au w3 w4:=ae.ft g2;refine s _ _ ah (λ_=>O _ Z.below) ?_;have e7:=a1.B Z id;refine a_ λV s=>?_;go_wp2_with (at_mapUpdate;refine hZ nY underlying487 rfl (.tmp 34) (.tmp 35) (.tmp 40) rfl rfl e7 rfl a5 _ rfl ?_;intro j9 g3 e8);refine s _ _ ah (cS ah) ?_;refine cR ?_;go_wp2;go_end0;refine⟨rfl,?_,by rw[N.out,b3.out];exact e8⟩;exact((((Q.B o).B v).V H λh (e:h=b.1.size+1)=>.inl aa).B Z).Z.B g3
theorem Dd(E:fW a0 t X a l)(y:H.6=none)(r x:cL)
  (z:H.2=.call {callee:=.builtin .append,args:= #[r,x],argTypes:= #[t,t]})(d:aM b g X a C e k s)(A:b7.eval r=k)(o:e.list a C L d9)(B:b7.eval x=L)
  (M:∀h c,C e h c->∀u∈h,u.oneCell'=true)(T:s+d9<=maxLen)(i:(s+d9)*l<=140737488355328)(c:g<=b)
  (w:∀f c,aM c g X a C e f (s++d9)->ae (λv=>k.ownBlock=some v) b c->(f.ownBlock=k.ownBlock∨f.ownBlock=some b.1.size)->wpList a0 f0 P D (b7.put H.1 f) c):wpList a0 f0 P (H::D) b7 b:=by
 obtain⟨p,⟨q,Y,j,V,m,O,W⟩,U⟩:=E;have S:=d;obtain⟨m1,m2,F,m,m,m,E⟩:=d;obtain⟨K,d,d,I,J,m⟩:=o;obtain⟨rfl,N⟩|⟨d,off,o,G,Q,Q,rfl,R,Q⟩:=m;have m:=Kj.1 N;subst m;refine wpList_plain y λm N=>?_;obtain⟨c,m⟩:∃c,(rZ #[t,t] H.3 #[k,.slice none 0 0]).run a0 b=.ok k c∧c=b:=by
  obtain⟨rfl,_⟩|⟨d,o,G,rfl,_,o,G,_⟩:=E.2;have o:(sizeOf X).run a0 b=.ok q.3 b:=by simp[sizeOf,typeInfo,j]
  simp[rZ,pA p,o,xE,xF];have o:(sizeOf X).run a0 b=.ok q.3 b:=by simp[sizeOf,typeInfo,j,uX]
  simp[rZ,pA p,o,xE,xF,G,storeCells]
 obtain⟨m,rfl⟩:=m;unfold jO execOp;simp[z,resolve,invoke,builtin,A,B,m];exact N _ _<|w k _ (aw vD S) (.T _ _)<|.inl rfl;refine J5 _ y r x t z g X q Y _ _ p j V aa O W U k _ _ A E _ _ _ _ B J ?_ ?_ T i aa ?_;intro j u m;have o:=(iw.1 m).1;have:(⟨d,off,none⟩:bC).add j=⟨d,off+j,none⟩:=by unfold tF;split<;>simp_all
 rw[this,cI _ d _ _ _ _<|m1 d _ R,Q j aa];omega;intro u m;obtain⟨h,d,h⟩:=Kk.1 m;obtain⟨j,o,rfl⟩:=ly d;exact M _ _ (I j _ _ (cy _)<|cy aa) u h;intro f c f h c c;have d:=(ae.T _ _).iz h λe h=>.inr h;refine w _ _ ⟨m1.B d aa,λv H i=>?_,F++K,by grind,?_,?_,?_⟩ d c;obtain c|c:=c;grind;rw[c];intro c;have:=dw c;have c:=m1.O i;omega;grind;grind;rw[D4,kK];exact f
theorem kI(E:fW a0 X t a l)(w:H.6=none)(m o:cL)
  (A:H.2=.call {callee:=.builtin .append,args:= #[m,o],argTypes:= #[X,X]})(z:aM b g t a C e k s)(B:b7.eval m=k)(y:n)
  d (c:C e d.1 y)(c:d.size=a)(r:∀u∈d.1,u.oneCell'=true)(I:b7.eval o=.slice (some ⟨x,0,none⟩) 1 1)(q:b=x)(j:(s+1)*l<=140737488355328)(c:s.length<140737488355328)(c:g<=b)
  (h:∀c i f,aM f g t a C e (.slice (some ⟨c,0,none⟩) (s+1) i) (s++ [y])->ae (λp=>k.ownBlock=some p) b f->(k.ownBlock=some c∨b<=c)->wpList a0 f0 P D (b7.put H.1 (.slice (some ⟨c,0,none⟩) (s+1) i)) f):wpList a0 f0 P (H::D) b7 (b.alloc (.cells d t)):=by
 subst q;obtain⟨G,⟨L,M,y,J,q,v,K⟩,F⟩:=E;obtain⟨m1,m2,q,E,E,E,E⟩:=z;refine J5 _ w m o X A g t L M _ _ G y J aa v K F k _ _ B (E.alloc _) _ 1 1 _ I (by grind) ?_ r (by unfold maxLen;omega) j bQ ?_
 ·intro m u o;have:(⟨b.1.size,0,none⟩:bC).add m=⟨b.1.size,m,none⟩:=by unfold tF;split<;>simp_all
  simp_all
 ·intro m f m o r f;rcases m.2 with⟨rfl,_⟩|⟨c,i,i,rfl,_⟩
  ·have:=(r.1 rfl).2;cases this
  ·have i:=((ae.T _ _).I _).iz o λe o=>.inr o;refine h c _ _ ⟨m1.B i aa,λp H j=>?_,q++ [d.1],by grind,?_,?_,?_⟩ i (f.imp (λh=>h.symm) λh=>by have:=dw h;simp_all)
   ·rcases f with f|f
    grind
    ·rw[f];intro c;have:=dw c;have c:=m1.O j;simp at this;omega
   grind
   grind
   ·simpa using m
theorem aM.T(h:aM b a g l C e k s)(j:ae N b b6)(z:∀c,k.ownBlock=some c->¬N c)(A:∀c o,e c=some o->¬N c):aM b6 a g l C e k s:=by
 obtain⟨r,t,p,u,v,w,f⟩:=h;refine⟨r.B j A,t,p,u,v,w,f.1,?_⟩;obtain i|⟨d,m,q,rfl,i,x,y⟩:=f.2;grind;exact .inr ⟨d,m,q,rfl,i,j.O x<|z d rfl,y⟩
theorem aM.an{α:Type}{N e sz:Nat}{R:ai->List aq->α->Prop}{k:ai}(a:k.In b)(d:N<=b):aM (b.alloc<|.cells #[] e) N e sz R k (.slice (some ⟨b,0,none⟩) 0 0) []:=by
 refine⟨a.B ae.al i3,λc o f h=>?_,[],rfl,af,af,?_⟩;have:=a.O f;have a:b.1.size=c:=dw h;omega;exact⟨af,.inr ⟨_,0,#[],rfl,d,cz b _,af,aa,af,af⟩⟩
theorem aM.ac(h:aM b a g l C e k s)(c:s≠ []):∃d c,k=.slice (some ⟨d,0,none⟩) s c∧s<=c∧c<=maxLen:=by
 obtain⟨_,_,f,_,_,_,f⟩:=h;obtain⟨_,h⟩|⟨d,c,c,rfl,_,_,c,c,_⟩:=f.2;grind;grind
theorem MN(h:∀c∈a8,c=a)(i)(b:i<=a8.length):a8.flatten.take (i*a)=(a8.take i).flatten:=by
 induction a8 generalizing i with
 |nil=>simp
 |cons c cs b=>
  cases i with
  |zero=>simp
  |succ i=>
   have b:=h c<|jM ..;rw[IH,List.take_succ_cons,IH,List.take_append,b,fo (by grind)]
   grind
theorem FA(h:∀c∈a8,c=a)(i):a8.flatten.drop (i*a)=(a8.drop i).flatten:=by
 induction a8 generalizing i with
 |nil=>simp
 |cons c cs b=>
  cases i with
  |zero=>simp
  |succ i=>
   have b:=h c<|jM ..;rw[IH,List.drop_succ_cons,List.drop_append,b,xj (by grind),Eb];grind
theorem BI(h:∀c∈a8,c=a):a8.flatten=a8.length*a:=by
 induction a8 with
 |nil=>simp
 |cons c cs b=>grind
section
variable{α:Type}{P:bj}{ops:Array bG}{rest:List bG}{o:bG}{a:bK}{Q:kh->bK->ag->Prop}{w0:ag}{t e:bB}{size bytes:Nat}
theorem PW(E:fW P t e size bytes)(C:o.6=none)(s m:cL)
  (G:o.2=.call {callee:=.builtin .append,args:= #[s,m],argTypes:= #[t,t]}){R:ai->List aq->α->Prop}{p:ai}{g f n:Nat}{d:List α}(b:aM w0 x e size R p (.slice (some ⟨g,0,none⟩) n f) d)(r:n=d)(i) (F:i<n)(c:n<=f)
  (J:a.eval s=.slice (some ⟨g,0,none⟩) i f)(j:e3=n-(i+1))(H:e3=0∨d5=(i+1)*size)(M:a.eval m=.slice (some ⟨g,d5,none⟩) e3 f1)
  (z:∀c y,R p c y->∀u∈c,u.oneCell'=true)
  (y:∀l,aM l x e size R p (.slice (some ⟨g,0,none⟩) (n- 1) f) (d.eraseIdx i)->ae (·=g) w0 l->wpList P ops Q rest (a.put o.1<|.slice (some ⟨g,0,none⟩) (n- 1) f) l):wpList P ops Q (o::rest) a w0:=by
 obtain⟨L,⟨h,h,D,h,K,h,h⟩,h⟩:=E;obtain⟨m1,m2,h,w,k,q,E⟩:=b;subst r j;obtain⟨n,_⟩|⟨b,b,r,n,j,s,b,A,B,v⟩:=E.2;cases n;obtain⟨rfl,rfl⟩:=n;have E:i*size<=d.length*size:=xi _ aa;have I:w0.ownsRow x e size (.slice (some ⟨g,0,none⟩) i f) i (h.take i).flatten:=by
  refine⟨by rw[BI λc b=>k c<|qq b,ix];grind,.inr ⟨g,f,r,rfl,j,s,aa,A,B,?_⟩⟩;rw[<-MN k i aa,<-v,List.take_take,D5 E]
 have A:∀j u,((h.drop<|i+1).flatten)[j]?=some u->w0.cell? ((⟨g,d5,none⟩:bC).add j)=some u:=by
  intro j u f;obtain n|rfl:=H;have:h.drop (i+1)= []:=xj aa;rw[this]at f;cases f;have:(⟨g,(i+1)*size,none⟩:bC).add j=⟨g,(i+1)*size+j,none⟩:=by unfold tF;split<;>simp_all
  rw[this,cI w0 g _ r e (0,0) s];rw[<-FA k,<-v,Ax,Aq]at f;split at f;rw[<-f];simp;cases f
 have r:((h.drop<|i+1).flatten).length=(d.length-(i+1))*size:=by
  rw[BI λc b=>k c<|tK b,uY,w]
 have v:∀u∈(h.drop<|i+1).flatten,u.oneCell'=true:=by
  intro u f;obtain⟨c,b,s⟩:=Kk.1 f;obtain⟨j,n,rfl⟩:=ly<|tK b;exact z _ _ (q j _ (d[j]'aa) (cy n)<|cy aa) u s
 obtain⟨l,f,s,u⟩:=run_append_fits (P:=P) _ x t o.3 e _ _ L D K g i _ _ I ⟨g,d5,none⟩ (d.length-(i+1)) f1 _ r A v aa;have r:ae (·=g) w0 l:=(ae.T _ w0).iz u λp g=>.inr (by cases g;rfl);have g:i+(d.length-(i+1))=d.length- 1:=aa;rw[g]at f s;have p:=List.eraseIdx_eq_take_drop_succ d i;refine wpList_plain C λK g=>?_;unfold jO execOp;simp only[G,resolve,invoke,builtin,Ih,Sem.run_pure,Result.andThen_ok,JF,rV,List.map_nil,J,M,f];refine g _ _<|y l ⟨m1.B r λf o g e=>m2 f o g<|dh e,λf o g e=>m2 f o g e,h.take i++h.drop (i+1),?_,?_,?_,?_⟩ r;rw[p,kK,kK,ix,ix,uY,uY,w];intro c b;obtain b|b:=gX.1 b;exact k c<|qq b;exact k c<|tK b;intro j c m b f;rw[p]at f;obtain n|n:=tE j i;rw[Hv<|dT ix,II n]at b f;exact q j c m b f;rw[Jm<|dT ix,ix,Ax]at b f;rw[D5 aa]at b f;exact q _ c m b f;rw[D4];have b:(d.eraseIdx i).length=d.length- 1:=by rw[List.length_eraseIdx];rw[if_pos F]
 rw[b];exact s
theorem PV(z:P.underlying t=some (.slice e))(B:∀w,(zeroValue e).run P w=.ok k w)(C:k.cells=size)(i:∀v∈k.cells.1,v.oneCell'=true)(h:cV o (yielded ops a.1)=true)(d:cL)
  (y:o.2=.call {callee:=.builtin .clear,args:= #[d],argTypes:= #[t]}){R:ai->List aq->α->Prop}{f:ai}{g b m:Nat}{c:List α}(p:aM w0 x e size R f (.slice (some ⟨g,0,none⟩) m b) c)(s:m=c)(j) (v:m<=j)(ig:j<b)(r:d5=j*size)
  (A:a.eval d=.slice (some ⟨g,d5,none⟩) 1 e3)
  (n:∀d,aM d x e size R f (.slice (some ⟨g,0,none⟩) m b) c->ae (·=g) w0 d->wpList P ops Q rest (a.put o.1<|.tuple #[]) d):wpList P ops Q (o::rest) a w0:=by
 refine wpList_want h λK q=>?_;obtain⟨m1,m2,m,E,F,G,l⟩:=p;subst s r;obtain⟨d,_⟩|⟨f,f,h,d,r,f,w,s,p,u⟩:=l.2;cases d;obtain⟨rfl,rfl⟩:=d;have u:j*size+k.cells.1.length<=h.size:=by
  rw[p,rY,C,<-D_];exact xi _ ig
 have C:(qd k.cells 1).1=k.cells.1:=by
  simp[qd];apply List.ext_getElem;simp;intro D i p;have d:D<k.cells.size:=aV p;simp[D9 d,d]
 have p:=by
  have:=run_storeCells_cells (P:=P) g (j*size) k.cells.1 0 w0 (λd D=>by
   rw[cI w0 g _ h e (0,0) f,rE aa];rfl) (λd _=>kH f) i
  rwa [rA]at this
 have d:=G0 g k.cells.1 (j*size) w0;unfold jO;simp[execOp,y,resolve,invoke,builtin,A,Builtin.clear_,pA z,B,C,p];have h:c.length*size<=j*size:=xi _ v;refine q _ _<|n _ ⟨m1.B d λc o h e=>m2 c o h<|dh e,m2,m,E,F,G,l.1,.inr ⟨g,b,_,rfl,r,(FL g _ _ _ _ f u),w,s,?_,?_⟩⟩ d;grind;grind
end
theorem ai.list.Y{a:Type}{h:ai}{sz g o n c:Nat}{R:ai->List aq->a->Prop}{b:List a}(H:h.list sz R (.slice (some ⟨g,o,fL⟩) n c) b)(i)(p:i<=b.length):h.list sz R (.slice (some ⟨g,o,fL⟩) i c)<|b.take i:=by
 obtain⟨a,f,c,k,d,l⟩:=H;refine⟨a.take i,by grind,λd a=>c d<|qq a,λj d x a e=>?_,?_,?_⟩;by_cases m:j<i;rw[II m]at a e;exact k j d x a e;rw[List.getElem?_take_eq_none aa]at a;cases a;rw[BI λd a=>c d<|qq a,ix,ix,f];obtain⟨a,_⟩|⟨d,d,d,e,f,j,a,k,m⟩:=l;grind;cases a;have d:(b.take i).length=i:=aJ;refine .inr ⟨g,o,_,e,f,j,fN d,k,λk a=>?_⟩;rw[d]at a;rw[m k<|kJ a<|xi _ p,<-MN c i aa,II a]
theorem ai.list.Z(H:e.list a C (.slice (some ⟨l,d5,fL⟩) e3 f1) s)(i)(b)(o:g=s- i)(p:g=0∨x=d5+i*a):e.list a C (.slice (some ⟨l,x,fL⟩) g b)<|s.drop i:=by
 obtain⟨b,h,c,j,d,k⟩:=H;refine⟨b.drop i,by grind,λd b=>c d<|tK b,λf d m b f=>?_,?_,?_⟩;rw[Ax]at b f;exact j _ d m b f;rw[BI λd b=>c d<|tK b,uY,uY,h];obtain⟨b,_⟩|⟨d,d,d,d,f,h,b,j,m⟩:=k;grind;cases b;have b:(s.drop i).length=g:=aJ;refine .inr ⟨l,x,_,d,f,h,fN b,j,λk d=>?_⟩;rw[b]at d;obtain rfl|rfl:=p;omega;subst o;have b:i<=s.length:=aJ
 have b:i*a+(s.length- i)*a=s.length*a:=by rw[<-IG];congr 1;omega
 rw[tI,m _ aa,<-FA c i,Ax]
def Cs:Obj->Bool| .map _ _=>true|_=>false
def aal:Obj->Bool| .loop _=>true|_=>false
def aaj:Obj->Bool| .loop _| .deferred _| .mapIter _ _ _ _=>true|_=>false
theorem wR(w:ag)(r)(o:Obj):ae (·=r) w<|w.putObj r o:=
 ⟨rfl,rfl,rfl,af,λ_ _ a=>World.putObj_heap_other a⟩
abbrev rS(c:Obj->Bool)(a:Nat->Prop)(A:ag)(b:Nat):Prop:=¬a b∧∃o,A.1[b]?=some o∧(c o=true∨aal o=true)
abbrev tM(A:ag)(b:Nat):Prop:=∃o,A.1[b]?=some o∧aaj o=true
def zX(f:Obj->Bool)(P:bj)(g:Nat)(d:Array aq)(c:n->Array aq)(S:List n->Prop)(G:n->Prop)(N:Nat)(a:Nat->Prop)(w:ag):Prop:=
 ∀(l) (J:List n->ag->Prop)(W:ag),au w W->
  (∀pre A B,J pre A->ae (λb=>W<=b∧tM A b) A B->J pre B)->
  (∀pre x A,J pre A->pre<N->G x->Ec mU 1 P l (c x) A λe B=>e=.returned true∧J (pre++ [x]) B∧ae (rS f a A) A B)->
  J [] W->Calls P g (#[.func (.yield l) #[] #[]]++d) W λe B=>(∃v,e=.returned v)∧∃a,S a∧J a B
section
variable{ob:Obj->Bool}{α:Type}{P:bj}{g:cL}{ps:Array Tmp}{assign body:eN}{Q:kh->bK->ag->Prop}{a:bK}{w:ag}{gf:Nat}{lb:Array aq}{encs:α->Array aq}{S:List α->Prop}{G:α->Prop}{N:Nat}{Reads:Nat->Prop}{w0:ag}
theorem PY(q:a.eval g=.func (.func gf) #[] lb)(h:∀args w,(callFunc gf args).run P w=.ok (.enter gf args) w)(u:zX ob P gf lb encs S G N Reads w0)(p:ae (λ_=>False) w0 w)(b:∀x,(encs x).size=ps.size)
  (b:∀b,Reads b->b<w.1.size)
  (I:List α->ag->Prop) (j:∀pre A B,I pre A->ae (λb=>w.1.size<=b∧tM A b) A B->I pre B) (i:I [] w)
  (e:α->bK->ag->Prop) (F:∀x d A B,e x d A->ae (λb=>w.1.size<=b∧tM A b) A B->e x d B)
  (o:∀(l:Nat)(pre:List α)(x:α)(A:ag)(K:bK->ag->Prop),I pre A->G x->(∀d c,ae (λ_=>False) A c->I pre c->e x d c->K d c)->
   assign.wpIn (mU.inRound l) 1 P (Exit.then K (λ_ _ _=>False)) {tmps:=(ps.zip (encs x)).foldl (λt (c,C)=>t.setIfInBounds c C) a.1,defers:= []} A)
  (J:∀(l:Nat)(pre:List α)(x:α)(d:bK)(A:ag),I pre A->e x d A->pre.length<N->G x->
   body.wpIn (mU.inRound l) 1 P (λt _ B=>t=.normal∧ae (λb=>¬Reads b∧∃r,A.1[b]?=some r∧ob r=true) A B∧I (pre++ [x]) B) d A)
  (K:∀(D:Nat)(s:List α)(B:ag),w.1.size<=D->S s->I s B->B.1[D]?=some (.deferred (some []))->Q .normal {a with defers:={target:=.collected D,args:= #[]}::a.2} B)(c:∀l,ob (.loop l)=false:=by intro _;rfl)(c:∀l,ob (.deferred l)=false:=by intro _;rfl):
  (Code.rangeFunc g ps assign body).wp P Q a w:=by
 refine(IJ (n:=2)).1 (wpIn_rangeFunc λfn _=>?_);obtain⟨f,m⟩:∃f:LoopState->Option _->Loop,f=λst c=>{state:=st,pending:=c,fn,tmps:=a.1,params:=ps,assign,body,defers:=w.1.size}:=⟨_,rfl⟩;obtain⟨W1,c⟩:∃W1,(w.alloc (.deferred (some []))).alloc (.loop (f .ready none))=W1:=⟨_,rfl⟩;have l:W1.1[w.1.size+1]?=some (.loop (f .ready none)):=by rw[<-c];exact eK _ _ _
 have k:W1.1[w.1.size]?=some (.deferred (some [])):=by rw[<-c];exact ic _ _ _
 have e:ae (λ_=>False) w W1:=by rw[<-c];exact((ae.T _ w).I _).I _
 have v:W1.1.size=w.1.size+2:=by rw[<-c];simp
 refine⟨w.1.size+1,[{target:=.collected w.1.size,args:= #[]}],W1,{target:=.fn (.func gf) lb,args:= #[.func (.yield (w.1.size+1)) #[] #[]]},W1,gf,
  #[.func (.yield (w.1.size+1)) #[] #[]]++lb,W1,?_,?_,λ_ _=>trivial,?_,aa,?_⟩
 rw[<-c,m];exact run_enterLoop_outer _ _ _ _ _;simp only[resolve,q];simp[go_sem];simp[go_sem,h]
 refine CallsIn.mono ((xn (n:=1)).2 (u _
  (λpre W=>I pre W∧W.1[w.1.size+1]?=some _∧W.1[w.1.size]?=some _∧w.1.size+2<=W.1.size)
  _ (p.B e) ?_ ?_ ⟨(j _ _ _ i e.Z),l,k,aa⟩)) ?_
 intro pre A B ⟨k,e,l,v⟩ h;refine⟨j _ _ _ k (h.cW λb _ c=>⟨aa,c.2⟩),h.O e aa,h.O l aa,dI v h.4⟩;intro pre x A ⟨k,e,l,v⟩ O y;have i:=run_yield (P:=P) (args:=encs x) e (by grind);rw[m]at i;refine⟨fn,_,_,body,i,roundIn_of_wpIn aa (o _ _ x A _ k y ?_)⟩;intro d q p I H;have z:=p.O e id;have i:=p.4;refine⟨_,run_beginRound z (by grind),?_⟩;obtain⟨i,u⟩:∃i,i=q.putObj (w.1.size+1) (.loop {f .ready none with state:=.busy}):=⟨_,rfl⟩;rw[<-u];have o:ae (·=w.1.size+1) q i:=by rw[u];exact wR _ _ _
 have M:i.1[w.1.size+1]?=some (.loop {f .ready none with state:=.busy}):=by rw[u];exact World.putObj_heap_same aa
 have L:=o.O (p.O l id) aa;have u:ae (λb=>w.1.size<=b∧tM q b) q i:=o.cW λb _ c=>by subst c;exact⟨aa,_,z,rfl⟩
 refine IK (J _ pre x d i (j _ _ _ I u) (F _ _ _ _ H u) O y) ?_;rintro t a3 B ⟨rfl,d,u⟩;have q:=d.O M λc=>by
  grind
 have x:=d.O L λc=>by
  grind
 refine⟨_,_,(run_endRound (P:=P) (none:Option eN) q),rfl,?_,?_⟩;have i:=wR B (w.1.size+1) (.loop { {f .ready none with state:=.busy}with state:=if(none:Option eN).isNone then .ready else .done,pending:=none});have y:=d.4;have y:=o.4;refine⟨j _ _ _ u (i.cW λb _ c=>by subst c;exact⟨aa,_,q,rfl⟩),?_,i.O x aa,dI aa i.4⟩;rw[World.putObj_heap_same aa,m];rfl;have q:rS ob Reads A (w.1.size+1):=⟨λi=>by grind,_,e,.inr rfl⟩;refine(((p.cW (E:=rS ob Reads A) λ_ _ i=>i.elim).V o (λb c=>?_)).V (D:=rS ob Reads A) d (λb c=>?_)).V (wR B (w.1.size+1) (.loop { {f .ready none with state:=.busy}with state:=if(none:Option eN).isNone then .ready else .done,pending:=none})) (λb c=>?_);subst c;exact .inr q;obtain⟨i,r,d,u⟩:=c;by_cases x:b<A.1.size;refine .inr ⟨i,?_⟩;by_cases i:b=w.1.size+1;subst i;exact⟨_,e,.inr rfl⟩;rw[(o.5 b aa i),(p.5 b x id)]at d;exact⟨r,d,.inl u⟩;exact .inl aa;subst c;exact .inr q;rintro t B ⟨⟨C,rfl⟩,s,d,k,e,l,v⟩;have h:=wR B (w.1.size+1) (.loop {f .ready none with state:=.exhausted});refine⟨none,_,by have:=run_endLoop (P:=P) e (by grind);rw[m]at this;exact this,?_⟩;rw[m]at h;exact K _ s _ (cP _) d (j _ _ _ k (h.cW λb _ c=>by subst c;exact⟨aa,_,e,rfl⟩)) (h.O l aa)
end
def mI(o:bG):Bool:=match o.2 with| .defer _=>false|_=>true
theorem semAt_plain(h:mI H=true)(b:Option Nat)(a:cL->aq):Oper.semAt b a H=execOp a H:=
 Oper.semAt_eq _ _ _ λc a=>by unfold mI at h;grind
def Fr(a:Option Nat):Fence:={mU with round:=a}
section
variable{l n:Nat}{ro:Option Nat}{P:bj}{ops:Array bG}{K:bK->ag->Prop}{a:bK}{w:ag}
theorem Cr: ¬LetsOut (Exit.then f2 λ_ _ _=>False):=λ⟨_,_,h⟩=>h
theorem MS:(Fr ro).2.isSome=true->1<=n:=λh=>by cases h
theorem ab3{row:String}{R:aq->ag->Prop}(h:Rows P row S w R):RowsIn (Fr ro) n P row S w R:=
 λc cs _=>let⟨v,a,r,s⟩:=h c cs; ⟨v,a,r,stepsIn_wide.2 s⟩
theorem PH r(h:H.upon P a f2 (Exit.then K λ_ _ _=>False) r):
  H.uponIn (Fr ro) n P a f2 (Exit.then K λ_ _ _=>False) r:=by
 cases r with
 |ok x b=>
  cases x<;>simp[tD]at h⊢ <;>try exact h
  exact⟨MS,(xn (n:=n- 1)).2 h⟩;exact⟨MS,ab3 h⟩
 |halt x b=>cases x<;>simp only[tD,Kl]at h⊢ <;>exact h
theorem Gj(e:ops.all mI=true)(s:List Nat):∀a(w:ag),wpOps P ops (Exit.then K λ_ _ _=>False) s a w->
  wpOpsIn (Fr ro) n P ops (Exit.then K λ_ _ _=>False) s a w:=by
 induction s with
 |nil=>exact λa w h=>h
 |cons i f d=>
  intro a w h;simp[wpOps,wpOpsIn]at h⊢;cases b:ops[i]? with
  |none=>simp[b]at h⊢;exact d _ _ h
  |some o=>
   simp[b]at h⊢;split;rename_i c;rw[if_pos c]at h;obtain h|⟨-,h⟩:=h;refine Km (K:=wpOps P _ _ _) aa ⟨λ_ _=>trivial,?_⟩;rw[semAt_plain ((rW.1 e) o<|Au b)];exact PH _ h;exact(Cr h).elim;rename_i c;rw[if_neg c]at h;exact⟨λ_ _=>trivial,d _ _ h⟩
theorem Ny(s:List bG)(b:s.all mI=true):∀a(w:ag),wpList P ops (Exit.then K λ_ _ _=>False) s a w->
  wpListIn (Fr ro) n P ops (Exit.then K λ_ _ _=>False) s a w:=by
 induction s with
 |nil=>exact λa w h=>h
 |cons o f d=>
  intro a w h;simp only[List.all_cons,j_]at b;unfold wpList at h;unfold wpListIn;split;rename_i c;rw[if_pos c]at h;obtain h|⟨-,h⟩:=h;refine Km (K:=wpList P _ _ _) (λa w e=>d b.2 a w e) ⟨λ_ _=>trivial,?_⟩;rw[semAt_plain b.1];exact PH _ h;exact(Cr h).elim;rename_i c;rw[if_neg c]at h;exact⟨λ_ _=>trivial,d b.2 _ _ h⟩
theorem Nx{Q:kh->bK->ag->Prop}(s t:List bG):∀a(w:ag),wpListIn e1 n P ops (Exit.then (wpListIn e1 n P ops Q t) λ_ _ _=>False) s a w->wpListIn e1 n P ops Q (s++t) a w:=by
 induction s with
 |nil=>exact λa w h=>h
 |cons o k j=>
  intro a w h;rw[Kn];unfold wpListIn at h⊢;split;rename_i f;rw[if_pos f]at h;have d:=Km aa h;refine⟨d.1,?_⟩;have b:=d.2;generalize(o.semAt e1.4 a.eval).run P w=r at*;cases r with
  |ok x g=>
   cases x<;>simp[Kl]at b⊢ <;>try exact b
   exact⟨b.1,b.2.mono λe i c=>by cases e<;>first|exact c|exact c.elim|exact(Cr c).elim⟩;exact⟨b.1,b.2.mono λe i c=>by cases e<;>first|exact c|exact c.elim|exact(Cr c).elim⟩
  |halt x g=>cases x<;>simp only[Kl]at b⊢ <;>exact b.elim
  grind
theorem YieldAt.B{m:Nat}{l:Nat}(h:Ec e1 m P l S b g1)(d:∀e w,g1 e w->g2 e w):Ec e1 m P l S b g2:=
 let⟨fn,tmps,e,iA,a,c⟩:=h; ⟨fn,tmps,e,iA,a,c.mono d⟩
theorem aer{id:Nat}{Q:kh->bK->ag->Prop}d(o:bG)(b:List bG)(c:D=d++o::b)(l:d.all mI=true)(k:mI o=true)(m:b.all mI=true)
  (h:∀K,(∀a w c f,cV o (yielded D.toArray a.1)=true->
    (∀g tm i iA,(Dj c f).run P w=.ok (.round c g tm i iA) w->(execOp a.eval o).run P w=.ok (.round c g tm i iA) w)->
    Ec mU 1 P c f w (λe B=>e=.returned true∧∀j,(∀a w,Q .normal a w->j a w)->wpList P D.toArray (Exit.then j λ_ _ _=>False) b (a.put o.1 true) B)->K a w)->
   wpList P D.toArray (Exit.then K λ_ _ _=>False) d a w):(bH id D.toArray false).wp P Q a w:=by
 refine(IJ (n:=2)).1 (wpIn_region_list ?_);have e:D.toArray.1=d++o::b:=aa;rw[e];refine Nx _ _ a w (Ny (ro:=none) _ l a w (h _ ?_));rintro d d c f d f ⟨g,tm,i,iA,g,c⟩;unfold wpListIn;rw[if_pos d];refine⟨λ_ _=>trivial,?_⟩;rw[semAt_plain k,f _ _ _ _ g];refine⟨aa,c.mono ?_⟩;rintro e B ⟨rfl,c⟩;rw[((vD b).symm)];exact Nx _ _ _ _ ((Ny (ro:=none) (n:=2) _ m _ _ (c _ λ_ _ h=>h)))
theorem Hc{id:Nat}{Q:kh->bK->ag->Prop}b(o:bG)(c:List bG)(l:D=b++o::c)(j:b.all mI=true)(i:mI o=true)(k:c.all mI=true)
  (h:∀K,(∀a w d e,cV o (yielded D.toArray a.1)=true->
    (∀f tm g iA,(Dj d e).run P w=.ok (.round d f tm g iA) w->(execOp a.eval o).run P w=.ok (.round d f tm g iA) w)->
    Ec mU 1 P d e w (λe B=>e=.returned true∧∀d,(∀a w,e6.wp P Q a w->d a w)->wpList P D.toArray (Exit.then d λ_ _ _=>False) c (a.put o.1<|.bool true) B)->K a w)->
   wpList P D.toArray (Exit.then K λ_ _ _=>False) b a w):(RG (bH id D.toArray false) e6).wp P Q a w:=
 wp_seq<|aer (Q:=Exit.then (e6.wp P Q) Q) b o c l j i k h
theorem yx{id:Nat}{Q:kh->bK->ag->Prop}(b:D.toArray.all mI=true)
  (h:∀K,(∀a w,e6.wpIn (mU.inRound l) n P Q a w->K a w)->wpList P D.toArray (Exit.then K λ_ _ _=>False) D a w):
  (RG (.region id D.toArray false) e6).wpIn (mU.inRound l) n P Q a w:=by
 refine wpIn_seq (IK (Q:=Exit.then (e6.wpIn (mU.inRound l) n P Q) λ_ _ _=>False) (wpIn_region ?_) ?_);rw[List.range_eq_range',<-rY];apply Gj (ro:=some l) b _ _ _;rw[wpOps_eq_wpList _ 0 af];exact h _ af;intro e a w h;cases e<;>first|exact h|exact h.elim
end
end
