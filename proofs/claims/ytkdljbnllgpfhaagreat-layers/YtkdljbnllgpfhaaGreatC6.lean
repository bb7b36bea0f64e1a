/-
  The statement Layers of upshotkeep: for every three arguments the call returns true, whatever the schedule and the orders that Go leaves open, and without a data race; no condition beyond those of its row.
-/
import Derived.Test.YtkdljbnllgpfhaaGreatC4
import Derived.Test.YtkdljbnllgpfhaaGreatC5
set_option maxRecDepth 100000
set_option maxHeartbeats 8000000
open Go.Proofs.YtkdljbnllgpfhaaGreat.Rows renaming layersRow→axH,layersSpec→axy,LayersSaid→axK
open Go.Proofs.YtkdljbnllgpfhaaGreat.Tryz renaming pinned→axJ
open Go.OpenClaim renaming holds_of_wide_leaving→axL
section
namespace Go.Proofs.YtkdljbnllgpfhaaGreat
open Go Go.RowKit Go.Upr Go.Conc
theorem Q1:axJ.checked.prog.funcNamed axH.func=some 11:=by kernel_rfl
theorem VL:Tryz.f11.isInstance axJ.checked.prog axH.origin axH.targs:=of_decide_eq_true ar
theorem VJ:Tryz.f11.isWrapper axJ.checked.prog axH.wrapper axH.mainSum:=by unfold Func.isWrapper;first|(rw[if_pos mE];kernel_rfl)|(rw[if_neg mE];exact⟨rfl,rfl⟩)
theorem MK(hc:joinedFacts Tryz.prog 11 Tryz.f11 axy axH=true){cs:List cS}{Ls:List Lay}{R:Nat→aN→Prop}{RC:Nat→List Cg→aN→Prop}(S:Su cs Ls R RC)(M:Fam):axK:=
 axL (p:=axJ) (s:=axy) (c:=axH) 11 Tryz.f11 rfl rfl rfl rfl rfl rfl rfl ⟨rfl,rfl,rfl,rfl,rfl⟩ rfl rfl rfl rfl rfl Q1 Tryz.func11 hc VL VJ
  (λos started H enc _=>Dx S M os started H enc)
end Go.Proofs.YtkdljbnllgpfhaaGreat
end
namespace Go.Proofs.YtkdljbnllgpfhaaGreat
theorem layers_holds:axK:=MK MM su fam
end Go.Proofs.YtkdljbnllgpfhaaGreat
