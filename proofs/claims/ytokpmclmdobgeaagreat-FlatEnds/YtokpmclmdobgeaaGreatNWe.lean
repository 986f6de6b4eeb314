import Derived.Test.YtokpmclmdobgeaaGreatJ1e
import Derived.Test.YtokpmclmdobgeaaGreatJMe
set_option linter.unusedSimpArgs false
set_option linter.unusedVariables false
set_option maxRecDepth 8000
set_option maxHeartbeats 4000000
open Go.ChangeShapes Go.WideShapes Go.ChangeAt Go.RowKit Go.Maps
namespace Go.Proofs.YtokpmclmdobgeaaGreat.Fl
def PA0:Pr:={ P0 with L:=[⟨0,4,true,true,false,0⟩] }
def PB:Pr:={ PA0 with F:=put PA0.F 0 (some 0),G:=bumpN 0 0 0 PA0.G 3 }
def sA:Sa:=(bootS 59 2 2).one 0 PA0
def sB:Sa:={ sA.one 0 PB with T:=Qo.chargeT sA.T 1 4,B:=updB sA.B 0 (cset (fun _=>0) 8 8 5),nx:=1 }
theorem five:le (cset (fun _=>0) 8 8 5) 8 8=5:=by simp [le,cset]
theorem mayB:Qo.mayN (bootS 59 2 2).T 1 4=0:=by decide +kernel
theorem usB:(Qo.getN sB.T PB.k).used=5:=by decide +kernel
theorem rest4 {x0 x1 x2 x3:Int} {n:Nat} (h0:3<=n) (h:n<=3->x3=0):Ca.restZ ⟨x0,x1,x2,x3,0,0⟩ n:=fun i a b=>by
 match i,b with
 | 0, _ => omega
 | 1, _ => omega
 | 2, _ => omega
 | 3, _ => exact h (by omega)
 | 4, _ => rfl
 | 5, _ => rfl
theorem one_add:Re.errA (Re.addN [] ⟨0,4,true,true,false,0⟩) (Re.addL [] ⟨0,4,true,true,false,0⟩)=0/\Re.outL (Re.addN [] ⟨0,4,true,true,false,0⟩) (Re.addL [] ⟨0,4,true,true,false,0⟩)=[⟨0,4,true,true,false,0⟩]:=⟨by decide +kernel,by kernel_rfl⟩
theorem aw1:DoIs ⟨1,0,4,1,0,0⟩ (bootS 59 2 2) (Rv 0 0 0 0 0 false) sA:=by
 refine do_srv (i:=0) (c:=⟨1,0,4,true,true,false,0,0,0,0,0,0,0⟩) rfl (lit_wf (by omega) (by omega) (by omega) (by omega) (by omega) (by omega)) ⟨4,rfl,rest4 (by omega) (by omega)⟩ fun M root=> ?_
 have q:=srv1 M root (i:=0) kh ⟨1,0,4,true,true,false,0,0,0,0,0,0,0⟩ rfl (bootS 59 2 2) (P:=P0) rfl one_add.1 (by show (Re.outL (Re.addN [] ⟨0,4,true,true,false,0⟩) (Re.addL [] ⟨0,4,true,true,false,0⟩)).length<=100;rw [one_add.2];decide)
 have e:(bootS 59 2 2).one 0 { P0 with L:=Re.outL (Re.addN P0.L ⟨0,4,true,true,false,0⟩) (Re.addL P0.L ⟨0,4,true,true,false,0⟩) }=sA:=by
  show (bootS 59 2 2).one 0 { P0 with L:=Re.outL (Re.addN [] ⟨0,4,true,true,false,0⟩) (Re.addL [] ⟨0,4,true,true,false,0⟩) }=sA
  rw [one_add.2];rfl
 rw [<- e]
 exact q
theorem aw2:DoIs ⟨5,8,8,5,0,0⟩ sA (Rv 0 0 0 0 0 false) sB :=
 do_srv (i:=0) (c:=⟨5,0,0,false,false,false,8,8,5,0,0,0,0⟩) rfl (lit_wf (by omega) (by omega) (by omega) (by omega) (by omega) (by omega)) ⟨4,rfl,rest4 (by omega) (by omega)⟩ fun M root =>
  srv5_new M root (i:=0) kh ⟨5,0,0,false,false,false,8,8,5,0,0,0,0⟩ rfl sA (P:=PA0) rfl 0 rfl kh kh 0 4 0 true true false rfl rfl kh kh kh kh kh rfl mayB
theorem aw3:DoIs ⟨4,8,8,0,0,0⟩ sB (Rv 0 5 0 0 0 false) sB:=by
 refine do_srv (i:=0) (c:=⟨4,0,0,false,false,false,8,8,0,0,0,0,0⟩) rfl (lit_wf (by omega) (by omega) (by omega) (by omega) (by omega) (by omega)) ⟨3,rfl,rest4 (by omega) (fun _=>rfl)⟩ fun M root=> ?_
 have q:=srv4_there M root (i:=0) kh ⟨4,0,0,false,false,false,8,8,0,0,0,0,0⟩ rfl sB (P:=PB) rfl 0 rfl kh kh 0 4 0 true true false rfl rfl kh kh kh 0 rfl
 have e:le (sB.B 0) ((8:Int) % 4096).toNat (8:Int).toNat=5:=five
 rw [<- e]
 exact q
theorem awake_all (w:World):Calls Tryz.prog 5 #[] w (re (.bool true) w):=by
 have BO:=Is.boot 59 2 2 (by omega) (by omega) (by omega) (by omega) (by omega) w
 have BH:Hid (Calls Tryz.prog 6 #[.int .i64 59,.int .i64 2,.int .i64 2] w _):=BO
 clear BO
 go_enter Tryz.func5,Tryz.ntmps5
 go_wp2_with fail
 refine Calls.mono BH.out ?_
 rintro e u0 ⟨O0,M,rfl,hF,hO,hb⟩
 have E0:Hid (Low O0 w u0):=⟨hb,hO⟩
 have D1:Hid (Calls Tryz.prog 7 #[pp M.mb,.agg (sf1 1 0 4 1 0 0)] u0 fun e w'=>e=.returned (.agg sl1)/\Tx O0 u0 (fun O' V=>Is O' (1+400000*(0+1)) V M 59 sA) w'):=aw1 O0 0 u0 M 59 (by omega) hF
 clear hF hO hb BH
 go_wp2_with fail
 refine Calls.mono D1.out ?_
 rintro e u1 ⟨rfl,O1,hF,e1,l1,k1⟩
 have s1:bc u1 (u1.alloc (.cells sl1 36)):=baa
 have E1:Hid (Low O1 w (u1.alloc (.cells sl1 36))/\Bx O1 (u1.alloc (.cells sl1 36)) u1.heap.size sm1 36):=⟨(E0.out.on e1 k1).below s1,Bx.made l1 _ _⟩
 have D2:Hid (Calls Tryz.prog 7 #[pp M.mb,.agg (sf1 5 8 8 5 0 0)] (u1.alloc (.cells sl1 36)) fun e w'=>e=.returned (.agg sl1)/\Tx O1 (u1.alloc (.cells sl1 36)) (fun O' V=>Is O' (1+400000*(1+1)) V M 59 sB) w'):=aw2 O1 1 _ M 59 (by omega) (hF.below s1)
 clear hF e1 l1 k1 s1 D1
 go_wp2_with fail
 refine Calls.mono D2.out ?_
 rintro e u2 ⟨rfl,O2,hF,e1,l1,k1⟩
 have s1:bc u2 (u2.alloc (.cells sl1 36)):=baa
 have E2:Hid (Low O2 w (u2.alloc (.cells sl1 36))/\Bx O2 (u2.alloc (.cells sl1 36)) u1.heap.size sm1 36/\Bx O2 (u2.alloc (.cells sl1 36)) u2.heap.size sm1 36):=⟨(E1.out.1.on e1 k1).below s1,(E1.out.2.on e1 k1).below s1,Bx.made l1 _ _⟩
 have D3:Hid (Calls Tryz.prog 7 #[pp M.mb,.agg (sf1 4 8 8 0 0 0)] (u2.alloc (.cells sl1 36)) fun e w'=>e=.returned (.agg (sw 0 5 0 0 0 false))/\Tx O2 (u2.alloc (.cells sl1 36)) (fun O' V=>Is O' (1+400000*(2+1)) V M 59 sB) w'):=aw3 O2 2 _ M 59 (by omega) (hF.below s1)
 clear hF e1 l1 k1 s1 D2 E1
 go_wp2_with fail
 refine Calls.mono D3.out ?_
 rintro e u3 ⟨rfl,O3,hF,e1,l1,k1⟩
 have s1:bc u3 (u3.alloc (.cells (sw 0 5 0 0 0 false) 36)):=baa
 have E3:Hid (Low O3 w (u3.alloc (.cells (sw 0 5 0 0 0 false) 36))/\Bx O3 u3 u1.heap.size sm1 36/\Bx O3 u3 u2.heap.size sm1 36):=⟨(E2.out.1.on e1 k1).below s1,E2.out.2.1.on e1 k1,E2.out.2.2.on e1 k1⟩
 have US:Hid (Calls Tryz.prog 11 #[pp M.mb,.int .i64 0] (u3.alloc (.cells (sw 0 5 0 0 0 false) 36)) (re (.int .i64 5) (u3.alloc (.cells (sw 0 5 0 0 0 false) 36)))):=by
  refine Calls.mono ((hF.below s1).used (i:=0) kh (P:=PB) rfl) ?_
  rintro e w' ⟨he,hb⟩
  exact ⟨he.trans (congrArg (fun z=>Ending.returned (.int .i64 z)) usB),hb⟩
 clear hF e1 l1 k1 s1 D3 E2
 have c1:u3.cell? ⟨u1.heap.size,2,none⟩=some (.int .i64 0):=E3.out.2.1.1.cell 2
 have c2:u3.cell? ⟨u2.heap.size,2,none⟩=some (.int .i64 0):=E3.out.2.2.1.cell 2
 have lt1:u1.heap.size<u3.heap.size:=E3.out.2.1.1.lt
 have lt2:u2.heap.size<u3.heap.size:=E3.out.2.2.1.lt
 go_wp2_with fail
 refine Calls.mono US.out ?_
 rintro e u4 ⟨rfl,hb⟩
 have E4:Hid (bc w u4):=below_then E3.out.1.1 hb
 clear hb E3 US c1 c2 lt1 lt2
 go_wp2_with fail
 go_returns
 exact ⟨rfl,E4.out⟩
end Go.Proofs.YtokpmclmdobgeaaGreat.Fl
