import Derived.Test.YtkiclbnbnjbcaaaDoorBD2
import Derived.Deep.DeepCutAuto
namespace Go.Proofs.YtkiclbnbnjbcaaaDoor.Bd
open Go.ChangeShapes Go.WideShapes Go.ChangeAt Go.RowKit Go.Maps
set_option linter.unusedSimpArgs false
set_option linter.unusedVariables false
set_option maxRecDepth 8000
set_option maxHeartbeats 4000000 in
theorem swap_walk (b q mb g c n0 i j:Nat) (x y:Int) (w w2 w3:World) (c0:w.cell? ⟨b,q,none⟩=some (.map (some mb))) (c1:w.cell? ⟨b,q+1,none⟩=some (.slice (some ⟨g,0,none⟩) n0 c)) (ri:w.cell? ⟨g,i,none⟩=some (.int .i64 x)) (rj:w.cell? ⟨g,j,none⟩=some (.int .i64 y))
 (fi:w.frozen? ⟨g,i,none⟩=false) (fj:w.frozen? ⟨g,j,none⟩=false) (hi:i<n0) (hj:j<n0) (ne:i≠j) (lg:g<w.heap.size) (lb:b<w.heap.size) (gb:g≠b) (v1 v2:Value) (s1 s2:Int)
 (r1:(Instr.mapEntry 108 (.map (some mb)) (.int .i64 y)).run Tryd.prog ((w.setCell ⟨g,i,none⟩ (.int .i64 y)).setCell ⟨g,j,none⟩ (.int .i64 x)).drew.drew=.ok (.tuple #[v1,.int .i64 s1]) ((w.setCell ⟨g,i,none⟩ (.int .i64 y)).setCell ⟨g,j,none⟩ (.int .i64 x)).drew.drew)
 (e1:(Instr.entryStore 108 (.map (some mb)) (.int .i64 s1) (.int .i64 i)).run Tryd.prog ((w.setCell ⟨g,i,none⟩ (.int .i64 y)).setCell ⟨g,j,none⟩ (.int .i64 x)).drew.drew=.ok () w2)
 (r2:(Instr.mapEntry 108 (.map (some mb)) (.int .i64 x)).run Tryd.prog w2=.ok (.tuple #[v2,.int .i64 s2]) w2)
 (e2:(Instr.entryStore 108 (.map (some mb)) (.int .i64 s2) (.int .i64 j)).run Tryd.prog w2=.ok () w3) :
 Calls Tryd.prog 118 #[.pointer (some ⟨b,q,none⟩),.int .i64 i,.int .i64 j] w fun e w'=>e=.returned (.tuple #[])/\w'=w3:=by
 have i0:decide ((i:Int)<0)=false:=by simp
 have j0:decide ((j:Int)<0)=false:=by simp
 have i1:decide ((i:Int)<(n0:Int))=true:=by simp;omega
 have j1:decide ((j:Int)<(n0:Int))=true:=by simp;omega
 have gb':b≠g:=fun e=>gb e.symm
 have ne':j≠i:=fun e=>ne e.symm
 have R1:Hid _:=r1
 have E1:Hid _:=e1
 clear r1 e1
 go_enter Tryd.func118,Tryd.ntmps118
 go_wp2_with fail
 go_upto_region 0 with fail
 go_cut [] (fun wx=>Hid (wx=((w.setCell ⟨g,i,none⟩ (.int .i64 y)).setCell ⟨g,j,none⟩ (.int .i64 x)).drew))
 case first =>
  go_region
  all_goals (try go_wp2_with fail)
  all_goals go_meet
  all_goals rfl
 have hw:=hcut.out
 have d0:wc.cell? ⟨b,q,none⟩=some (.map (some mb)):=by rw [hw];show (((w.setCell ⟨g,i,none⟩ (.int .i64 y)).setCell ⟨g,j,none⟩ (.int .i64 x))).cell? ⟨b,q,none⟩=_;rw [World.cell?_setCell_other _ _ _ _ (by intro h;cases h;exact gb rfl),World.cell?_setCell_other _ _ _ _ (by intro h;cases h;exact gb rfl)];exact c0
 have d1:wc.cell? ⟨b,q+1,none⟩=some (.slice (some ⟨g,0,none⟩) n0 c):=by rw [hw];show (((w.setCell ⟨g,i,none⟩ (.int .i64 y)).setCell ⟨g,j,none⟩ (.int .i64 x))).cell? ⟨b,q+1,none⟩=_;rw [World.cell?_setCell_other _ _ _ _ (by intro h;cases h;exact gb rfl),World.cell?_setCell_other _ _ _ _ (by intro h;cases h;exact gb rfl)];exact c1
 have di:wc.cell? ⟨g,i,none⟩=some (.int .i64 y):=by
  rw [hw];show (((w.setCell ⟨g,i,none⟩ (.int .i64 y)).setCell ⟨g,j,none⟩ (.int .i64 x))).cell? ⟨g,i,none⟩=_
  rw [World.cell?_setCell_other _ _ _ _ (by intro h;cases h;exact ne rfl)]
  exact World.cell?_setCell_same _ _ _ ri
 have dj:wc.cell? ⟨g,j,none⟩=some (.int .i64 x):=by
  rw [hw];show (((w.setCell ⟨g,i,none⟩ (.int .i64 y)).setCell ⟨g,j,none⟩ (.int .i64 x))).cell? ⟨g,j,none⟩=_
  exact World.cell?_setCell_same _ _ _ (u:=.int .i64 y) (by rw [World.cell?_setCell_other _ _ _ _ (by intro h;cases h;exact ne rfl)];exact rj)
 have lb2:b<wc.heap.size:=by rw [hw];simpa using lb
 have lg2:g<wc.heap.size:=by rw [hw];simpa using lg
 have r1:=R1.out
 have e1:=E1.out
 rw [<- hw] at r1 e1
 clear hw hcut R1 E1 c0 c1 ri rj fi fj lg lb
 go_upto_region 1 with fail
 go_region
 all_goals (try go_wp2_with fail)
 all_goals go_end0
 all_goals exact ⟨rfl,rfl⟩
end Go.Proofs.YtkiclbnbnjbcaaaDoor.Bd
