import Derived.Test.YtkdljbnllgpfhaaGreatA6
set_option maxRecDepth 100000
set_option maxHeartbeats 8000000
open List renaming range->iK
namespace Go.Proofs
open Go.RowKit
variable{b:ByteArray}{a:List bk}
deriving instance DecidableEq for dW,fg,fj,bk
def NS(i:Nat):ByteArray:=⟨#[112,UInt8.ofNat (48+i)]⟩
def qG(n:ByteArray):fg:=⟨n,[⟨⟨#[88]⟩,true⟩]⟩
def WE(n a i:Nat):bk:=⟨qG (NS i),[⟨qG ⟨#[100]⟩,false⟩,⟨qG (NS ((i+1) % n)),decide (a=i)⟩]⟩
def vY(n a c:Nat):List bk:=(iK c).map (WE n a)
def uz(a:ByteArray)(cs:List bk):Bool:=decide (a.size<=600)&&decide (yN (a.size+1) (a.size+1) [] (yQ (aS a))=some cs)
theorem OJ(h:uz b a=true)(c:(iB a).1=0):eE b=(some a,0,0):=by
 unfold uz at h;simp only[j_,decide_eq_true_eq]at h;exact OH aa (N9 h.2) c
theorem OL{tx:ByteArray}{cs:List bk}(h:uz tx cs=true)(a: ¬(iB cs).1=0):eE tx=(none,iB cs):=by
 unfold uz at h;simp only[j_,decide_eq_true_eq]at h;exact OI aa (N9 h.2) a
def BN(cs:List bk):Bool:=decide ((iB cs).1=0)&&Fx cs
def La(cs:List bk):Bool:=decide (iB cs=(7,0))
def yi(n a:Nat):Bool:=uz (jY n a n).1 (vY n a n)&&(if(jY n a n).2 then La (vY n a n)else BN (vY n a n))&&uz (jY n a (n- 1)).1 (vY n a (n- 1))&&BN (vY n a (n- 1))
def ug(n:Nat):Bool:=(iK 9).all (yi n)
theorem Xe:ug 2=true:=bb
theorem Xf:ug 3=true:=bb
theorem Xg:ug 4=true:=bb
theorem Xh:ug 5=true:=bb
theorem Xi:ug 6=true:=bb
theorem Xj:ug 7=true:=bb
theorem Fy{n a:Nat}(b:2<=n)(b:n<=7)(b:a<9):yi n a=true:=by
 have c:ug n=true:=by
  obtain rfl|rfl|rfl|rfl|rfl|rfl:n=2∨n=3∨n=4∨n=5∨n=6∨n=7:=aa;exact Xe;exact Xf;exact Xg;exact Xh;exact Xi;exact Xj
 exact zB.1 c a<|List.mem_range.2 b
theorem M0(h:uz b a=true)(c:BN a=true):∃a d R,eE b=(some a,0,0)∧qx a d R:=by
 unfold BN at c;simp only[j_,decide_eq_true_eq]at c;obtain⟨d,R,e⟩:=Y6 c.2;exact⟨a,d,R,OJ h c.1,e⟩
theorem Xd:xw:=by
 refine⟨λn d a b c e=>?_,λn d a b c e=>?_,λn d a b c=>?_⟩;have h:=Fy a b c;unfold yi at h;rw[e,if_pos rfl]at h;simp only[j_]at h;have f:iB (vY n d n)=(7,0):=by
  have:=h.1.1.2;unfold La at this;exact of_decide_eq_true this
 have d:=OL h.1.1.1 (by rw[f];decide);rw[f]at d;exact d;have h:=Fy a b c;unfold yi at h;rw[e,if_neg aA]at h;simp only[j_]at h;exact M0 h.1.1.1 h.1.1.2;have h:=Fy a b c;unfold yi at h;simp only[j_]at h;exact M0 h.1.2 h.2
