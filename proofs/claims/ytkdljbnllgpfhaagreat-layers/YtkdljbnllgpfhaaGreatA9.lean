/- Layers(length, ring, at) of the package upshotkeep ends and returns true for all arguments, whatever the schedule and the order of maps; no condition. -/
import Derived.Test.YtkdljbnllgpfhaaGreatA8
set_option maxRecDepth 100000
set_option maxHeartbeats 8000000
namespace Go.Proofs
open Tryz
open Go.RowKit
section
open YtkdljbnllgpfhaaGreat
section
open Go.Conc
theorem Wb:(Rows.layersRow.34==Tryz.prog.inPlace 11)=true:=ah
theorem Wc:(Rows.layersRow.35==Tryz.prog.unfollowed 11)=true:=ah
theorem cellC:(Rows.layersRow.36==Tryz.prog.recurses 11)=true:=ah
theorem Wd:(Rows.layersRow.37==Tryz.prog.varsNamed 11)=true:=ah
theorem We:laidOutB Tryz.prog=true:=ah
theorem Wf:mapsRowed Tryz.prog=true:=ah
theorem Wh:(Tryz.prog.stops== [])=true:=ah
theorem Wi:(Tryz.prog.stopKnobs== [])=true:=ah
theorem Wj:(Rows.layersRow.51==Tryz.prog.plainKeys)=true:=ah
theorem Wk:namedTie Tryz.prog Rows.layersRow.37 Rows.layersSpec.2=true:=ah
theorem Wl:Rows.layersRow.wf (OpenSpec.ofChange Rows.layersSpec)=true:=ah
theorem YJ:joinedFacts Tryz.prog 11 f11 Rows.layersSpec Rows.layersRow=true:=by
 unfold joinedFacts;rw[Wb,Wc,cellC,Wd,We,Wf,Wh,Wi,Wj,Wk,Wl];kernel_rfl
end
end
section
open YtkdljbnllgpfhaaGreat
section
open Go.Conc
theorem YL:Tryz.pinned.3.2.funcNamed Rows.layersRow.3=some 11:=ah
theorem YK:f11.isInstance Tryz.pinned.3.2 Rows.layersRow.5 Rows.layersRow.6:=of_decide_eq_true ah
theorem YP:f11.isWrapper Tryz.pinned.3.2 Rows.layersRow.7 Rows.layersRow.8:=by unfold Func.isWrapper;first|(rw[if_pos bb];kernel_rfl)|(rw[if_neg bb];exact⟨rfl,rfl⟩)
theorem YR(e:joinedFacts Tryz.prog 11 f11 Rows.layersSpec Rows.layersRow=true){cs:List bk}{a:List Lay}{R:Nat->aW->Prop}{b:Nat->List bV->aW->Prop}(S:vN cs a R b)(M:xw):Rows.LayersSaid:=
 OpenClaim.holds_of_wide_leaving (p:=Tryz.pinned) (s:=Rows.layersSpec) (c:=Rows.layersRow) 11 f11 rfl rfl rfl rfl rfl rfl rfl ⟨rfl,rfl,rfl,rfl,rfl⟩ rfl rfl rfl rfl rfl YL func11 e YK YP
  (λos f H d _=>YQ S M os f H d)
end
theorem YtkdljbnllgpfhaaGreat.layers_holds:Rows.LayersSaid:=YR YJ ac8 Xd
end
