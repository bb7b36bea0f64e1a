import Derived.Test.YtkdljbnllgpfhaaGreatC4
set_option maxRecDepth 100000
set_option maxHeartbeats 8000000
open Go.Proofs.YtkdljbnllgpfhaaGreat.Rows renaming layersRow→axH,layersSpec→axy
open Go.OpenSpec renaming ofChange→axI
section
namespace Go.Proofs.YtkdljbnllgpfhaaGreat
open Go Go.RowKit Go.Upr Go.Conc
theorem ag0:(axH.inPlace==Tryz.prog.inPlace 11)=true:=by kernel_rfl
theorem agZ:(axH.unfollowed==Tryz.prog.unfollowed 11)=true:=by kernel_rfl
theorem cellC:(axH.recurses==Tryz.prog.recurses 11)=true:=by kernel_rfl
theorem agY:(axH.named==Tryz.prog.varsNamed 11)=true:=by kernel_rfl
theorem agX:laidOutB Tryz.prog=true:=by kernel_rfl
theorem agW:mapsRowed Tryz.prog=true:=by kernel_rfl
theorem agV:(Tryz.prog.stops== [])=true:=by kernel_rfl
theorem agU:(Tryz.prog.stopKnobs== [])=true:=by kernel_rfl
theorem agT:(axH.plainKeys==Tryz.prog.plainKeys)=true:=by kernel_rfl
theorem agS:namedTie Tryz.prog axH.named axy.vars=true:=by kernel_rfl
theorem agR:axH.wf (axI axy)=true:=by kernel_rfl
theorem MM:joinedFacts Tryz.prog 11 Tryz.f11 axy axH=true:=by
 unfold joinedFacts;rw[ag0,agZ,cellC,agY,agX,agW,agV,agU,agT,agS,agR]
 kernel_rfl
end Go.Proofs.YtkdljbnllgpfhaaGreat
end
