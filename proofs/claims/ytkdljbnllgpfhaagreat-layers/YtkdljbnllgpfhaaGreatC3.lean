import Derived.Test.YtkdljbnllgpfhaaGreatC2
set_option maxRecDepth 100000
set_option maxHeartbeats 8000000
open Bool renaming and_eq_true→anh
open List renaming range→at0
section
namespace Go.Proofs.YtkdljbnllgpfhaaGreat
open Go Go.RowKit Go.Upr
deriving instance DecidableEq for Tm,qI,sK,cS
def nmP(i:Nat):ByteArray:=⟨#[112,UInt8.ofNat (48+i)]⟩
def XP(n:ByteArray):qI:=⟨n,[⟨⟨#[88]⟩,true⟩]⟩
def aiS(n a i:Nat):cS:=⟨XP (nmP i),[⟨XP ⟨#[100]⟩,false⟩,⟨XP (nmP ((i+1) % n)),decide (a=i)⟩]⟩
def csF(n a c:Nat):List cS:=(at0 c).map (aiS n a)
def vL(tx:ByteArray)(cs:List cS):Bool:=decide (tx.size≤600)&&decide (BP (tx.size+1) (tx.size+1) [] (BO (bl tx))=some cs)
theorem Em{tx:ByteArray}{cs:List cS}(h:vL tx cs=true)(hc:(gM cs).1=0):eE tx=(some cs,0,0):=by
 unfold vL at h;simp only[anh,decide_eq_true_eq]at h;exact CE aj (I5 h.2) hc
theorem CC{tx:ByteArray}{cs:List cS}(h:vL tx cs=true)(hc: ¬(gM cs).1=0):eE tx=(none,gM cs):=by
 unfold vL at h;simp only[anh,decide_eq_true_eq]at h;exact zL aj (I5 h.2) hc
def N8(cs:List cS):Bool:=decide ((gM cs).1=0)&&ab3 cs
def aeV(cs:List cS):Bool:=decide (gM cs=(7,0))
def Tk(n a:Nat):Bool:=vL (jK n a n).1 (csF n a n)&&(if(jK n a n).2 then aeV (csF n a n)else N8 (csF n a n))&&vL (jK n a (n- 1)).1 (csF n a (n- 1))&&N8 (csF n a (n- 1))
def Ll(n:Nat):Bool:=(at0 9).all (Tk n)
theorem agO:Ll 2=true:=by decide+kernel
theorem agN:Ll 3=true:=by decide+kernel
theorem agM:Ll 4=true:=by decide+kernel
theorem agL:Ll 5=true:=by decide+kernel
theorem agK:Ll 6=true:=by decide+kernel
theorem agJ:Ll 7=true:=by decide+kernel
theorem LS{n a:Nat}(h2:2≤n)(h7:n≤7)(ha:a<9):Tk n a=true:=by
 have key:Ll n=true:=by
  obtain rfl|rfl|rfl|rfl|rfl|rfl:n=2∨n=3∨n=4∨n=5∨n=6∨n=7:=by omega
  ·exact agO
  ·exact agN
  ·exact agM
  ·exact agL
  ·exact agK
  ·exact agJ
 exact List.all_eq_true.1 key a (List.mem_range.2 ha)
theorem OY{tx:ByteArray}{cs:List cS}(h:vL tx cs=true)(hg:N8 cs=true): ∃cs Ls R,eE tx=(some cs,0,0)∧Ld cs Ls R:=by
 unfold N8 at hg;simp only[anh,decide_eq_true_eq]at hg;obtain⟨Ls,R,hL⟩:=aga hg.2;exact⟨cs,Ls,R,Em h hg.1,hL⟩
theorem fam:Fam:=by
 refine⟨λn a h2 h7 ha hb=>?_,λn a h2 h7 ha hb=>?_,λn a h2 h7 ha=>?_⟩
 ·have h:=LS h2 h7 ha;unfold Tk at h;rw[hb,if_pos rfl]at h;simp only[anh]at h;have h1:gM (csF n a n)=(7,0):=by
   have:=h.1.1.2;unfold aeV at this;exact of_decide_eq_true this
  have h3:=CC h.1.1.1 (by rw[h1];decide);rw[h1]at h3;exact h3
 ·have h:=LS h2 h7 ha;unfold Tk at h;rw[hb,if_neg aI]at h;simp only[anh]at h;exact OY h.1.1.1 h.1.1.2
 ·have h:=LS h2 h7 ha;unfold Tk at h;simp only[anh]at h;exact OY h.1.2 h.2
end Go.Proofs.YtkdljbnllgpfhaaGreat
end
