import Derived.Test.YthmobfelhpbllaaGreatDoorSUb
import Derived.Test.YthmobfelhpbllaaGreatDoorSWb
import Derived.Shelf.SlIterI.Nil
import Derived.Shelf.SortM.Plain
import Derived.Shelf.SortM.SortNone
import Derived.Ground.GgzProg
import Derived.Ground.SlgmProg
import Derived.Test.YthmobfelhpbllaaGreatDoorOUb
namespace Go.Proofs.YthmobfelhpbllaaGreatDoor.Sp
open Go.ChangeShapes Go.WideShapes Go.ChangeAt Go.RowKit Go.Maps
open Go.Proofs.YthmobfelhpbllaaGreatDoor.Tt Go.Proofs.YthmobfelhpbllaaGreatDoor.Gv
set_option linter.unusedSimpArgs false
set_option linter.unusedVariables false
set_option maxRecDepth 8000
def BootedN (Cn:Nat) (tags:Int) (W w':World) (M:Mb) (m:Pm) (s:Ps):Prop :=
 ∃ O,Mc (fun j=>j<W.heap.size) O 0 w' M m s Tl.T0 (Pc.freshS tags) []/\Nums m s 0 ((Cn:Int)-2) 2 (Cn-2)/\Below W.heap.size W w'
theorem sound1 {rb b tb:Nat} {F may:Int} {Fr:Nat->Prop} (h1:F<=1000000) (hlt: ∀ i:Nat,Fr i->(i:Int)<F) (m0:0<=may) (m1:may<=1048576):Sound (pm0 rb b tb F) (ps0 Fr may) :=
 ⟨fun k hk=>(has_is F k).1 hk,h1,fun i hi=>(has_is F i).2 ⟨by omega,hlt i hi⟩,(fun x hx=>by cases hx),(Qu.root_good may m0 m1).okT,fun i _=>rfl⟩
theorem nums1 (m:Pm) (Fr:Nat->Prop) (may:Int) (Cn:Nat) (h:Bd.cnt Fr 1048576=Cn):Nums m (ps0 Fr may) 0 may 0 Cn:=by
 refine ⟨by omega,?_,?_,?_,h⟩
 . show (Qu.rootT may 0).live=true;rw [root0]
 . show (Qu.rootT may 0).room=may;rw [root0];show may-0-0=may;omega
 . show (Qu.rootT may 0).used=0;rw [root0]
set_option maxHeartbeats 2000000 in
theorem boot_z (F k1 k2 tags z:Int) (hz:z≠0) (g n c:Nat) (W:World) (FC0: ∀ w:World,Below W.heap.size W w->Calls Tryz.prog 67 #[.slice (some ⟨g,0,none⟩) n c,.int .i64 F,.agg #[.int .i64 k1,.int .i64 k2]] w fun e w'=> ∃ v',e=.returned (.tuple #[v',.int .i64 z])/\Below w.heap.size w w') :
 Calls Tryz.prog 26 #[.agg #[.int .i64 F,.int .i64 k1,.int .i64 k2,.int .i64 tags,.slice (some ⟨g,0,none⟩) n c]] W fun e w'=>e=.returned (.tuple #[.pointer none,.int .i64 z])/\Below W.heap.size W w':=by
 have FC:Hid (_):=FC0
 have dz:decide (z=0)=false:=by simp [hz]
 clear FC0
 have BP:Hid (Blk (W.alloc (.cells #[.int .i64 F,.int .i64 k1,.int .i64 k2,.int .i64 tags,.slice (some ⟨g,0,none⟩) n c] 75)) W.heap.size [.int .i64 F,.int .i64 k1,.int .i64 k2,.int .i64 tags,.slice (some ⟨g,0,none⟩) n c] 75/\Below W.heap.size W (W.alloc (.cells #[.int .i64 F,.int .i64 k1,.int .i64 k2,.int .i64 tags,.slice (some ⟨g,0,none⟩) n c] 75))):=⟨Blk.made _ _ _,Go.Joins.below_alloc1 _ _⟩
 go_enter Tryz.func26,Tryz.ntmps26
 go_upto_region 1 with fail
 generalize (W.alloc (.cells #[.int .i64 F,.int .i64 k1,.int .i64 k2,.int .i64 tags,.slice (some ⟨g,0,none⟩) n c] 75))=W0 at BP |-
 obtain ⟨P,hP⟩: ∃ P,P=W.heap.size:=⟨_,rfl⟩
 have BQ:Hid (Below W.heap.size W W0):=BP.out.2
 rw [<- hP] at BP |-
 have HP:Hid (P=W.heap.size):=hP
 clear hP
 have BX:=BP.out.1
 have c0:W0.cell? ⟨P,0,none⟩=some (.int .i64 F):=BX.cell 0
 have c1:W0.cell? ⟨P,1,none⟩=some (.int .i64 k1):=BX.cell 1
 have c2:W0.cell? ⟨P,2,none⟩=some (.int .i64 k2):=BX.cell 2
 have c4:W0.cell? ⟨P,4,none⟩=some (.slice (some ⟨g,0,none⟩) n c):=BX.cell 4
 clear BX
 go_wp2_with fail
 refine Calls.mono (FC.out _ BQ.out) ?_
 rintro e w1 ⟨v',rfl,hb1⟩
 have B1:Hid (Below W.heap.size W w1):=below_then BQ.out hb1
 clear hb1 c0 c1 c2 c4 BP BQ FC
 go_wp2_with fail
 go_returns
 exact ⟨rfl,B1.out⟩
set_option maxHeartbeats 2000000 in
theorem boot_t (F k1 k2 tags:Int) (nl:Nat) (R:Nat->Int × Int) (ht:tags<1\/4095<tags) (g n c:Nat) (W:World) (FC0: ∀ w:World,Below W.heap.size W w->Calls Tryz.prog 67 #[.slice (some ⟨g,0,none⟩) n c,.int .i64 F,.agg #[.int .i64 k1,.int .i64 k2]] w fun e w'=> ∃ g' c',e=.returned (.tuple #[.slice (some ⟨g',0,none⟩) nl c',.int .i64 0])/\Bd.Rgs w' g' nl R/\Below w.heap.size w w') :
 Calls Tryz.prog 26 #[.agg #[.int .i64 F,.int .i64 k1,.int .i64 k2,.int .i64 tags,.slice (some ⟨g,0,none⟩) n c]] W fun e w'=>e=.returned (.tuple #[.pointer none,.int .i64 1])/\Below W.heap.size W w':=by
 have FC:Hid (_):=FC0
 have NT:Hid (∀ w:World,_):=fun w=>Pc.new_no tags ht w
 clear FC0 ht
 have BP:Hid (Blk (W.alloc (.cells #[.int .i64 F,.int .i64 k1,.int .i64 k2,.int .i64 tags,.slice (some ⟨g,0,none⟩) n c] 75)) W.heap.size [.int .i64 F,.int .i64 k1,.int .i64 k2,.int .i64 tags,.slice (some ⟨g,0,none⟩) n c] 75/\Below W.heap.size W (W.alloc (.cells #[.int .i64 F,.int .i64 k1,.int .i64 k2,.int .i64 tags,.slice (some ⟨g,0,none⟩) n c] 75))):=⟨Blk.made _ _ _,Go.Joins.below_alloc1 _ _⟩
 go_enter Tryz.func26,Tryz.ntmps26
 go_upto_region 1 with fail
 generalize (W.alloc (.cells #[.int .i64 F,.int .i64 k1,.int .i64 k2,.int .i64 tags,.slice (some ⟨g,0,none⟩) n c] 75))=W0 at BP |-
 obtain ⟨P,hP⟩: ∃ P,P=W.heap.size:=⟨_,rfl⟩
 have BQ:Hid (Below W.heap.size W W0):=BP.out.2
 rw [<- hP] at BP |-
 have HP:Hid (P=W.heap.size):=hP
 clear hP
 have BX:=BP.out.1
 have c0:W0.cell? ⟨P,0,none⟩=some (.int .i64 F):=BX.cell 0
 have c1:W0.cell? ⟨P,1,none⟩=some (.int .i64 k1):=BX.cell 1
 have c2:W0.cell? ⟨P,2,none⟩=some (.int .i64 k2):=BX.cell 2
 have c4:W0.cell? ⟨P,4,none⟩=some (.slice (some ⟨g,0,none⟩) n c):=BX.cell 4
 clear BX
 go_wp2_with fail
 refine Calls.mono (FC.out _ BQ.out) ?_
 rintro e w1 ⟨g',c',rfl,hr,hb1⟩
 have B1:Hid (Blk w1 P [.int .i64 F,.int .i64 k1,.int .i64 k2,.int .i64 tags,.slice (some ⟨g,0,none⟩) n c] 75/\Bd.Rgs w1 g' nl R/\Below W.heap.size W w1):=⟨BP.out.1.below hb1,hr,below_then BQ.out hb1⟩
 have c3:w1.cell? ⟨P,3,none⟩=some (.int .i64 tags):=B1.out.1.cell 3
 clear hr hb1 c0 c1 c2 c4 BP BQ FC
 go_wp2_with fail
 refine Calls.mono (NT.out _) ?_
 rintro e w2 ⟨rfl,hu⟩
 have hu2:=hu.symm
 subst hu2
 go_wp2_with fail
 go_returns
 exact ⟨rfl,B1.out.2.2⟩
set_option maxHeartbeats 2000000 in
theorem boot_b (F k1 k2 tags:Int) (nl:Nat) (R:Nat->Int × Int) (t0:1<=tags) (t1:tags<=4095) (hn:64<nl) (g n c:Nat) (W:World) (FC0: ∀ w:World,Below W.heap.size W w->Calls Tryz.prog 67 #[.slice (some ⟨g,0,none⟩) n c,.int .i64 F,.agg #[.int .i64 k1,.int .i64 k2]] w fun e w'=> ∃ g' c',e=.returned (.tuple #[.slice (some ⟨g',0,none⟩) nl c',.int .i64 0])/\Bd.Rgs w' g' nl R/\Below w.heap.size w w') :
 Calls Tryz.prog 26 #[.agg #[.int .i64 F,.int .i64 k1,.int .i64 k2,.int .i64 tags,.slice (some ⟨g,0,none⟩) n c]] W fun e w'=>e=.returned (.tuple #[.pointer none,.int .i64 4])/\Below W.heap.size W w':=by
 have FC:Hid (_):=FC0
 have NT:Hid (∀ w:World,_):=fun w=>Pc.new_ok tags t0 t1 w
 have NB:Hid (∀ (w:World) (g' c':Nat),Calls Tryz.prog 68 #[.slice (some ⟨g',0,none⟩) nl c'] w fun e w'=>e=.returned (.tuple #[.pointer none,.int .i64 4])/\w'=w):=fun w g' c'=>Bd.new_big g' nl c' hn w
 clear FC0 t0 t1 hn
 have BP:Hid (Blk (W.alloc (.cells #[.int .i64 F,.int .i64 k1,.int .i64 k2,.int .i64 tags,.slice (some ⟨g,0,none⟩) n c] 75)) W.heap.size [.int .i64 F,.int .i64 k1,.int .i64 k2,.int .i64 tags,.slice (some ⟨g,0,none⟩) n c] 75/\Below W.heap.size W (W.alloc (.cells #[.int .i64 F,.int .i64 k1,.int .i64 k2,.int .i64 tags,.slice (some ⟨g,0,none⟩) n c] 75))):=⟨Blk.made _ _ _,Go.Joins.below_alloc1 _ _⟩
 go_enter Tryz.func26,Tryz.ntmps26
 go_upto_region 1 with fail
 generalize (W.alloc (.cells #[.int .i64 F,.int .i64 k1,.int .i64 k2,.int .i64 tags,.slice (some ⟨g,0,none⟩) n c] 75))=W0 at BP |-
 obtain ⟨P,hP⟩: ∃ P,P=W.heap.size:=⟨_,rfl⟩
 have BQ:Hid (Below W.heap.size W W0):=BP.out.2
 rw [<- hP] at BP |-
 have HP:Hid (P=W.heap.size):=hP
 clear hP
 have BX:=BP.out.1
 have c0:W0.cell? ⟨P,0,none⟩=some (.int .i64 F):=BX.cell 0
 have c1:W0.cell? ⟨P,1,none⟩=some (.int .i64 k1):=BX.cell 1
 have c2:W0.cell? ⟨P,2,none⟩=some (.int .i64 k2):=BX.cell 2
 have c4:W0.cell? ⟨P,4,none⟩=some (.slice (some ⟨g,0,none⟩) n c):=BX.cell 4
 clear BX
 go_wp2_with fail
 refine Calls.mono (FC.out _ BQ.out) ?_
 rintro e w1 ⟨g',c',rfl,hr,hb1⟩
 have B1:Hid (Blk w1 P [.int .i64 F,.int .i64 k1,.int .i64 k2,.int .i64 tags,.slice (some ⟨g,0,none⟩) n c] 75/\Bd.Rgs w1 g' nl R/\Below W.heap.size W w1):=⟨BP.out.1.below hb1,hr,below_then BQ.out hb1⟩
 have c3:w1.cell? ⟨P,3,none⟩=some (.int .i64 tags):=B1.out.1.cell 3
 clear hr hb1 c0 c1 c2 c4 BP BQ FC
 go_wp2_with fail
 refine Calls.mono (NT.out _) ?_
 rintro e w2 ⟨rfl,ho⟩
 have B2:Hid (Blk w2 P [.int .i64 F,.int .i64 k1,.int .i64 k2,.int .i64 tags,.slice (some ⟨g,0,none⟩) n c] 75/\Bd.Rgs w2 g' nl R/\Below W.heap.size W w2/\Pc.IsTags w2 (w1.heap.size+2) w1.heap.size (w1.heap.size+1) 0 (Pc.freshS tags)/\W.heap.size<=w1.heap.size):=⟨B1.out.1.below ho.2.1,B1.out.2.1.below ho.2.1,below_then B1.out.2.2 ho.2.1,ho.1,B1.out.2.2.size⟩
 generalize w1.heap.size=t at B2 |-
 clear ho c3 B1 NT
 go_wp2_with fail
 refine Calls.mono (NB.out _ g' c') ?_
 rintro e w3 ⟨rfl,hu⟩
 have hu2:=hu.symm
 subst hu2
 go_wp2_with fail
 go_returns
 exact ⟨rfl,B2.out.2.2.1⟩
set_option maxHeartbeats 4000000 in
theorem boot_n (F k1 k2 tags:Int) (nl Cn:Nat) (R:Nat->Int × Int) (g n c:Nat) (W:World) (tb0:Tab W) (FC0: ∀ w:World,Below W.heap.size W w->Calls Tryz.prog 67 #[.slice (some ⟨g,0,none⟩) n c,.int .i64 F,.agg #[.int .i64 k1,.int .i64 k2]] w fun e w'=> ∃ g' c',e=.returned (.tuple #[.slice (some ⟨g',0,none⟩) nl c',.int .i64 0])/\Bd.Rgs w' g' nl R/\Below w.heap.size w w') (f0:1<=F) (f1:F<=3000) (t0:1<=tags) (t1:tags<=4095) (hn:nl<=64) (hF:Bd.Form R nl) (hlt: ∀ i:Nat,Bd.RU R nl i->(i:Int)<F) (hcn:Bd.cnt (Bd.RU R nl) 1048576=Cn) (hC:Cn<=1048576) (h2:Cn<2) :
 Calls Tryz.prog 26 #[.agg #[.int .i64 F,.int .i64 k1,.int .i64 k2,.int .i64 tags,.slice (some ⟨g,0,none⟩) n c]] W fun e w'=>e=.returned (.tuple #[.pointer none,.int .i64 8])/\Below W.heap.size W w':=by
 have FC:Hid (_):=FC0
 have NT:Hid (∀ w:World,_):=fun w=>Pc.new_ok tags t0 t1 w
 have NB:Hid (∀ (w:World) (g' c':Nat),Bd.Rgs w g' nl R->Calls Tryz.prog 68 #[.slice (some ⟨g',0,none⟩) nl c'] w fun e w'=> ∃ b N,e=.returned (.tuple #[.pointer (some ⟨b,0,none⟩),.int .i64 0])/\Bd.Bu (fun j=>j<w.heap.size) w' b N (Bd.RU R nl) Bd.noneF/\Below w.heap.size w w'):=fun w g' c' hr=>by
  refine (Bd.new_ok g' nl c' hn _ w hr hF).mono ?_
  rintro e w' ⟨b,he,hB,hb⟩
  exact ⟨b,_,he,hB,hb⟩
 have NR:Hid (∀ w:World,_):=fun w=>new5 F (by omega) (by omega) w
 have NQ:Hid (∀ w:World,_):=fun w=>Qu.new_ok (Cn:Nat) (by omega) (by omega) w
 obtain ⟨Zs,hz,hs,hzz⟩:=Tl.zero30
 have HZ:Hid (Zs.size=144/\ ∀ q r,q<16->r<9->Zs[q*9+r]? =Tl.Ln.zero.enc[r]?):=⟨hs,hzz⟩
 have hmm:= @run_makeMap Tryz.prog
 have BP:Hid (Blk (W.alloc (.cells #[.int .i64 F,.int .i64 k1,.int .i64 k2,.int .i64 tags,.slice (some ⟨g,0,none⟩) n c] 75)) W.heap.size [.int .i64 F,.int .i64 k1,.int .i64 k2,.int .i64 tags,.slice (some ⟨g,0,none⟩) n c] 75/\Below W.heap.size W (W.alloc (.cells #[.int .i64 F,.int .i64 k1,.int .i64 k2,.int .i64 tags,.slice (some ⟨g,0,none⟩) n c] 75))):=⟨Blk.made _ _ _,Go.Joins.below_alloc1 _ _⟩
 have H0:Hid (Tab W/\(1<=F/\F<=3000/\Cn<2/\Cn<=1048576)/\(∀ i:Nat,Bd.RU R nl i->(i:Int)<F)/\Bd.cnt (Bd.RU R nl) 1048576=Cn):=⟨tb0,⟨f0,f1,h2,hC⟩,hlt,hcn⟩
 clear tb0 FC0 hs hzz f0 f1 t0 t1 hn hF hlt hcn hC h2
 go_enter Tryz.func26,Tryz.ntmps26
 go_upto_region 1 with fail
 generalize (W.alloc (.cells #[.int .i64 F,.int .i64 k1,.int .i64 k2,.int .i64 tags,.slice (some ⟨g,0,none⟩) n c] 75))=W0 at BP |-
 obtain ⟨P,hP⟩: ∃ P,P=W.heap.size:=⟨_,rfl⟩
 have BQ:Hid (Below W.heap.size W W0):=BP.out.2
 rw [<- hP] at BP |-
 have HP:Hid (P=W.heap.size):=hP
 clear hP
 have BX:=BP.out.1
 have c0:W0.cell? ⟨P,0,none⟩=some (.int .i64 F):=BX.cell 0
 have c1:W0.cell? ⟨P,1,none⟩=some (.int .i64 k1):=BX.cell 1
 have c2:W0.cell? ⟨P,2,none⟩=some (.int .i64 k2):=BX.cell 2
 have c4:W0.cell? ⟨P,4,none⟩=some (.slice (some ⟨g,0,none⟩) n c):=BX.cell 4
 clear BX
 go_wp2_with fail
 refine Calls.mono (FC.out _ BQ.out) ?_
 rintro e w1 ⟨g',c',rfl,hr,hb1⟩
 have B1:Hid (Blk w1 P [.int .i64 F,.int .i64 k1,.int .i64 k2,.int .i64 tags,.slice (some ⟨g,0,none⟩) n c] 75/\Bd.Rgs w1 g' nl R/\Below W.heap.size W w1):=⟨BP.out.1.below hb1,hr,below_then BQ.out hb1⟩
 have c3:w1.cell? ⟨P,3,none⟩=some (.int .i64 tags):=B1.out.1.cell 3
 clear hr hb1 c0 c1 c2 c4 BP BQ FC
 go_wp2_with fail
 refine Calls.mono (NT.out _) ?_
 rintro e w2 ⟨rfl,ho⟩
 have B2:Hid (Blk w2 P [.int .i64 F,.int .i64 k1,.int .i64 k2,.int .i64 tags,.slice (some ⟨g,0,none⟩) n c] 75/\Bd.Rgs w2 g' nl R/\Below W.heap.size W w2/\Pc.IsTags w2 (w1.heap.size+2) w1.heap.size (w1.heap.size+1) 0 (Pc.freshS tags)/\W.heap.size<=w1.heap.size):=⟨B1.out.1.below ho.2.1,B1.out.2.1.below ho.2.1,below_then B1.out.2.2 ho.2.1,ho.1,B1.out.2.2.size⟩
 generalize w1.heap.size=t at B2 |-
 clear ho c3 B1 NT
 go_wp2_with fail
 refine Calls.mono (NB.out _ g' c' B2.out.2.1) ?_
 rintro e w3 ⟨b,NN,rfl,hB,hb3⟩
 have B3:Hid (Bd.Bu (fun j=>j<w2.heap.size) w3 b NN (Bd.RU R nl) Bd.noneF/\Below w2.heap.size w2 w3):=⟨hB,hb3⟩
 clear hB hb3 NB
 have G4:Hid (Below w3.heap.size w3 (((w3.alloc (.cells Zs 94)).alloc (.map #[] 0)).alloc (.cells #[.pointer none,pp b,.pointer none,pp w3.heap.size,pp (t+2),.int .i64 0,.map (some (w3.heap.size+1))] 45))/\Tl.IsTlb (((w3.alloc (.cells Zs 94)).alloc (.map #[] 0)).alloc (.cells #[.pointer none,pp b,.pointer none,pp w3.heap.size,pp (t+2),.int .i64 0,.map (some (w3.heap.size+1))] 45)) w3.heap.size Tl.T0/\MapP (((w3.alloc (.cells Zs 94)).alloc (.map #[] 0)).alloc (.cells #[.pointer none,pp b,.pointer none,pp w3.heap.size,pp (t+2),.int .i64 0,.map (some (w3.heap.size+1))] 45)) (w3.heap.size+1) 0 (fun _=>none)/\Blk (((w3.alloc (.cells Zs 94)).alloc (.map #[] 0)).alloc (.cells #[.pointer none,pp b,.pointer none,pp w3.heap.size,pp (t+2),.int .i64 0,.map (some (w3.heap.size+1))] 45)) (w3.heap.size+2) [.pointer none,pp b,.pointer none,pp w3.heap.size,pp (t+2),.int .i64 0,.map (some (w3.heap.size+1))] 45/\(((w3.alloc (.cells Zs 94)).alloc (.map #[] 0)).alloc (.cells #[.pointer none,pp b,.pointer none,pp w3.heap.size,pp (t+2),.int .i64 0,.map (some (w3.heap.size+1))] 45)).heap.size=w3.heap.size+3):=three_new w3 Zs HZ.out.1 HZ.out.2 _
 go_upto_region 11 with fail
 generalize (((w3.alloc (.cells Zs 94)).alloc (.map #[] 0)).alloc (.cells #[.pointer none,pp b,.pointer none,pp w3.heap.size,pp (t+2),.int .i64 0,.map (some (w3.heap.size+1))] 45))=w4 at G4 |-
 obtain ⟨l,hl⟩: ∃ l,l=w3.heap.size:=⟨_,rfl⟩
 rw [<- hl] at G4 |-
 obtain ⟨mb,hmb⟩: ∃ mb,mb=l+1+1:=⟨_,rfl⟩
 rw [<- hmb]
 have G5:Hid (Below w3.heap.size w3 w4/\Tl.IsTlb w4 l Tl.T0/\MapP w4 (l+1) 0 (fun _=>none)/\Blk w4 mb [.pointer none,pp b,.pointer none,pp l,pp (t+2),.int .i64 0,.map (some (l+1))] 45/\w4.heap.size=l+3/\l=w3.heap.size/\mb=l+2):=by
  have q:=G4.out
  rw [hl] at q
  rw [hl,hmb,hl]
  exact ⟨q.1,q.2.1,q.2.2.1,q.2.2.2.1,q.2.2.2.2,rfl,rfl⟩
 clear hl hmb G4 HZ hz hmm
 have B4:Hid (Blk w4 P [.int .i64 F,.int .i64 k1,.int .i64 k2,.int .i64 tags,.slice (some ⟨g,0,none⟩) n c] 75/\Below W.heap.size W w4/\Below w2.heap.size w2 w4):=⟨(B2.out.1.below B3.out.2).below G5.out.1,below_then B2.out.2.2.1 (below_then B3.out.2 G5.out.1),below_then B3.out.2 G5.out.1⟩
 have c0:w4.cell? ⟨P,0,none⟩=some (.int .i64 F):=B4.out.1.cell 0
 go_wp2_with fail
 refine Calls.mono (NR.out _) ?_
 rintro e w5 ⟨rb,K,S,rfl,h5,hK,hS,b45⟩
 obtain ⟨X,hX⟩: ∃ X:Nat->Prop,X=fun j=>(j<w2.heap.size\/(w3.heap.size<=j/\j<w4.heap.size))/\j≠mb:=⟨_,rfl⟩
 have HX:Hid (X=fun j=>(j<w2.heap.size\/(w3.heap.size<=j/\j<w4.heap.size))/\j≠mb):=hX
 have XL:Hid (∀ j,X j->j<w4.heap.size/\j≠mb):=fun j hj=>by
  rw [hX] at hj
  have:=B4.out.2.2.size
  exact ⟨by omega,hj.2⟩
 clear hX
 have R5:Hid (Ram5 w5 K S rb (hasF F) F (fun _=>0) 0/\(∀ j,j<w4.heap.size->K j)/\(∀ s,s∈S->w4.heap.size<=s)/\Below w4.heap.size w4 w5):=⟨h5,hK,hS,b45⟩
 have M5:Hid (Blk w5 mb [.pointer none,pp b,.pointer none,pp l,pp (t+2),.int .i64 0,.map (some (l+1))] 45/\Kept X w4 w5):=⟨G5.out.2.2.2.1.below b45,kept_of_below b45 (fun j hj=>(XL.out j hj).1)⟩
 have c1:w5.cell? ⟨mb,0,none⟩=some (.pointer none):=M5.out.1.cell 0
 have z1:w5.frozen? ⟨mb,0,none⟩=false:=M5.out.1.free 0
 clear h5 hK hS b45 c0 NR
 have N5:Hid (Blk (w5.setCell ⟨mb,0,none⟩ (pp rb)) mb [pp rb,pp b,.pointer none,pp l,pp (t+2),.int .i64 0,.map (some (l+1))] 45/\Kept X w4 (w5.setCell ⟨mb,0,none⟩ (pp rb))/\w5.grownBy (w5.setCell ⟨mb,0,none⟩ (pp rb)) (some mb)):=⟨M5.out.1.set 0 (pp rb),M5.out.2.trans (kept_one (Qu.grown_setCell1 _ _ _ _) fun j hj=>⟨(XL.out j hj).2,Nat.lt_of_lt_of_le (XL.out j hj).1 M5.out.2.size⟩),Qu.grown_setCell1 _ _ _ _⟩
 go_upto_region 12 with fail
 generalize (w5.setCell ⟨mb,0,none⟩ (pp rb))=v5 at N5 |-
 clear c1 z1 M5
 have FB:Hid (Calls Tryz.prog 15 #[pp b] v5 fun e w'=>e=.returned (.int .i64 (Cn:Nat))/\w'=v5):=by
  have q:=(B3.out.1.next (W':=v5) (Nat.le_trans (Nat.le_trans G5.out.1.size R5.out.2.2.2.size) N5.out.2.2.size) (fun j hj _=>by
   have:=G5.out.2.2.2.2.2
   have s4:=G5.out.1.size
   exact (N5.out.2.2.block j (by have:=R5.out.2.2.2.size;omega) (fun e=>by have:=Option.some.inj e;omega)).trans ((R5.out.2.2.2.block j (by omega)).trans (G5.out.1.block j hj)))).free
  refine q.mono ?_
  rintro e w' ⟨rfl,rfl⟩
  rw [H0.out.2.2.2]
  exact ⟨rfl,rfl⟩
 go_wp2_with fail
 refine Calls.mono FB.out ?_
 rintro e w' ⟨rfl,hu⟩
 have hu2:=hu.symm
 subst hu2
 clear FB
 go_wp2_with fail
 refine Calls.mono (NQ.out _) ?_
 rintro e w6 ⟨rfl,hq⟩
 obtain ⟨tb,htb⟩: ∃ tb,tb=v5.heap.size:=⟨_,rfl⟩
 rw [<- htb] at hq |-
 have Q6:Hid (Qu.IsTree w6 tb (Qu.rootT (Cn:Nat))/\Below v5.heap.size v5 w6/\tb=v5.heap.size/\w5.heap.size<=tb):=⟨hq.1,hq.2.1,htb,by rw [htb];exact N5.out.2.2.size⟩
 clear hq htb NQ
 have ML:Hid (mb<w5.heap.size/\w5.heap.size<=v5.heap.size):=⟨by have:=G5.out.2.2.2.2;have:=R5.out.2.2.2.size;omega,N5.out.2.2.size⟩
 have M6:Hid (Blk w6 mb [pp rb,pp b,.pointer none,pp l,pp (t+2),.int .i64 0,.map (some (l+1))] 45/\Kept X w4 w6):=⟨N5.out.1.below Q6.out.2.1,N5.out.2.1.trans (kept_of_below Q6.out.2.1 (fun j hj=>Nat.lt_of_lt_of_le (XL.out j hj).1 N5.out.2.1.size))⟩
 have c1:w6.cell? ⟨mb,2,none⟩=some (.pointer none):=M6.out.1.cell 2
 have z1:w6.frozen? ⟨mb,2,none⟩=false:=M6.out.1.free 2
 have N6:Hid (Blk (w6.setCell ⟨mb,2,none⟩ (pp tb)) mb [pp rb,pp b,pp tb,pp l,pp (t+2),.int .i64 0,.map (some (l+1))] 45/\Kept X w4 (w6.setCell ⟨mb,2,none⟩ (pp tb))/\w6.grownBy (w6.setCell ⟨mb,2,none⟩ (pp tb)) (some mb)):=⟨M6.out.1.set 2 (pp tb),M6.out.2.trans (kept_one (Qu.grown_setCell1 _ _ _ _) fun j hj=>⟨(XL.out j hj).2,Nat.lt_of_lt_of_le (XL.out j hj).1 M6.out.2.size⟩),Qu.grown_setCell1 _ _ _ _⟩
 go_upto_region 13 with fail
 generalize (w6.setCell ⟨mb,2,none⟩ (pp tb))=v6 at N6 |-
 clear c1 z1 M6
 have P6:Hid (Pu (fun j=>j<w2.heap.size\/(w3.heap.size<=j/\j<w4.heap.size)) v6 (pm0 rb b tb F) (ps0 (Bd.RU R nl) (Cn:Nat))):=by
  have h10:=H0.out.2.1
  have g5:=G5.out.2.2.2.2
  have ml:=ML.out
  have q6:=Q6.out.2.2
  have s1:=N5.out.2.2.size
  have s2:=Q6.out.2.1.size
  have s3:=N6.out.2.2.size
  have sz:=B2.out.2.2.1.size
  have sb:=B4.out.2.2.size
  have w0:=H0.out.1.1
  have e0:v6.heap[0]? =W.heap[0]? :=(N6.out.2.1.block 0 (by rw [HX.out];exact ⟨by omega,by omega⟩)).trans (B4.out.2.1.block 0 w0)
  refine pu_make2 B3.out.1 B3.out.2 G5.out.1 R5.out.1 R5.out.2.1 R5.out.2.2.1 R5.out.2.2.2 (Tt.tree_block Q6.out.1 s3 (N6.out.2.2.block tb (by have:=Q6.out.1.2.2;omega) (fun e=>by have:=Option.some.inj e;omega))) (by omega) (by omega) (fun j hj hn=> ?_) (tab_block H0.out.1 (by have:=R5.out.2.2.2.size;have:=B4.out.2.1.size;omega) e0) (sound1 (by omega) H0.out.2.2.1 (by omega) (by omega)) (by omega)
  have jm:j≠mb:=by omega
  exact (N6.out.2.2.block j (by omega) (fun e=>jm (Option.some.inj e))).trans ((Q6.out.2.1.block j (by omega)).trans (N5.out.2.2.block j hj (fun e=>jm (Option.some.inj e))))
 have PC:Hid _:=purse_any mb rb b tb 0 _ _ _ _ v6 N6.out.1
 have KC:Hid (∀ w:World,Below v6.heap.size v6 w->Calls Tryz.prog 71 #[pv (pm0 rb b tb F) (0:Nat)] w fun e w'=>e=.returned (.tuple #[.int .i64 0,.int .i64 8])/\Kx (fun j=>j<w2.heap.size\/(w3.heap.size<=j/\j<w4.heap.size)) w w'):=fun w hb=>by
  have h10:=H0.out.2.1
  have nm:Nums (pm0 rb b tb F) (ps0 (Bd.RU R nl) (Cn:Nat)) 0 (Cn:Nat) 0 Cn:=nums1 _ _ _ _ H0.out.2.2.2
  refine (kernel_no (P6.out.below hb) (by show (1:Int)<=F;omega) 0 (nm.box (Or.inr (by omega))) (by rw [nm.room];show _<1+(F+262143) / 262144;omega) (by rw [nm.room];omega)).mono ?_
  rintro e w' ⟨he,_,q⟩
  exact ⟨he,q⟩
 go_wp2_with fail
 refine Calls.mono PC.out ?_
 rintro e w6p ⟨rfl,hb6⟩
 have HB6:Hid (Below v6.heap.size v6 w6p):=hb6
 clear hb6 PC
 go_wp2_with fail
 refine Calls.mono (KC.out _ HB6.out) ?_
 rintro e w7 ⟨rfl,hk7⟩
 have XX:Hid (∀ j,X j->j<w2.heap.size\/(w3.heap.size<=j/\j<w4.heap.size)):=fun j hj=>by rw [HX.out] at hj;exact hj.1
 have MM:Hid (w3.heap.size<=mb/\mb<w4.heap.size):=by have:=G5.out.2.2.2.2;show _/\_;omega
 have M7:Hid (Blk w7 mb [pp rb,pp b,pp tb,pp l,pp (t+2),.int .i64 0,.map (some (l+1))] 45/\Kept X w4 w7):=⟨(N6.out.1.below HB6.out).kx hk7 (Or.inr MM.out),(N6.out.2.1.trans (kept_of_below HB6.out (fun j hj=>Nat.lt_of_lt_of_le (XL.out j hj).1 N6.out.2.1.size))).trans (hk7.sub XX.out)⟩
 have c1:w7.cell? ⟨mb,5,none⟩=some (.int .i64 0):=M7.out.1.cell 5
 have z1:w7.frozen? ⟨mb,5,none⟩=false:=M7.out.1.free 5
 have N7:Hid (Blk (w7.setCell ⟨mb,5,none⟩ (.int .i64 0)) mb [pp rb,pp b,pp tb,pp l,pp (t+2),.int .i64 0,.map (some (l+1))] 45/\Kept X w4 (w7.setCell ⟨mb,5,none⟩ (.int .i64 0))/\w7.grownBy (w7.setCell ⟨mb,5,none⟩ (.int .i64 0)) (some mb)):=⟨M7.out.1.set 5 (.int .i64 0),M7.out.2.trans (kept_one (Qu.grown_setCell1 _ _ _ _) fun j hj=>⟨(XL.out j hj).2,Nat.lt_of_lt_of_le (XL.out j hj).1 M7.out.2.size⟩),Qu.grown_setCell1 _ _ _ _⟩
 clear hk7 KC
 go_upto_region 14 with fail
 generalize (w7.setCell ⟨mb,5,none⟩ (.int .i64 0))=v7 at N7 |-
 clear c1 z1
 go_wp2_with fail
 go_returns
 refine ⟨rfl,?_⟩
 have h10:=H0.out
 have g5:=G5.out.2.2.2.2
 have b2:=B2.out
 have s23:=B3.out.2.size
 have s34:=G5.out.1.size
 have sW:=b2.2.2.2.2
 have sV:=b2.2.2.1.size
 have k7:=N7.out.2.1
 have nx: ∀ j,(j<w2.heap.size\/(w3.heap.size<=j/\j<w4.heap.size))->j≠mb->v7.heap[j]? =w4.heap[j]? :=fun j h1 h2=>k7.block j (by rw [HX.out];exact ⟨h1,h2⟩)
 exact ⟨k7.os.trans B4.out.2.1.os,k7.tape.trans B4.out.2.1.tape,k7.output.trans B4.out.2.1.output,Nat.le_trans B4.out.2.1.size k7.size,fun j hj=>(nx j (Or.inl (by have:=b2.2.2.1.size;omega)) (by omega)).trans (B4.out.2.1.block j hj)⟩
set_option maxHeartbeats 4000000 in
theorem boot_y (F k1 k2 tags:Int) (nl Cn:Nat) (R:Nat->Int × Int) (g n c:Nat) (W:World) (tb0:Tab W) (FC0: ∀ w:World,Below W.heap.size W w->Calls Tryz.prog 67 #[.slice (some ⟨g,0,none⟩) n c,.int .i64 F,.agg #[.int .i64 k1,.int .i64 k2]] w fun e w'=> ∃ g' c',e=.returned (.tuple #[.slice (some ⟨g',0,none⟩) nl c',.int .i64 0])/\Bd.Rgs w' g' nl R/\Below w.heap.size w w') (f0:1<=F) (f1:F<=3000) (t0:1<=tags) (t1:tags<=4095) (hn:nl<=64) (hF:Bd.Form R nl) (hlt: ∀ i:Nat,Bd.RU R nl i->(i:Int)<F) (hcn:Bd.cnt (Bd.RU R nl) 1048576=Cn) (hC:Cn<=1048576) (h2:2<=Cn) :
 Calls Tryz.prog 26 #[.agg #[.int .i64 F,.int .i64 k1,.int .i64 k2,.int .i64 tags,.slice (some ⟨g,0,none⟩) n c]] W fun e w'=> ∃ M m s,e=.returned (.tuple #[pp M.mb,.int .i64 0])/\BootedN Cn tags W w' M m s:=by
 have FC:Hid (_):=FC0
 have NT:Hid (∀ w:World,_):=fun w=>Pc.new_ok tags t0 t1 w
 have NB:Hid (∀ (w:World) (g' c':Nat),Bd.Rgs w g' nl R->Calls Tryz.prog 68 #[.slice (some ⟨g',0,none⟩) nl c'] w fun e w'=> ∃ b N,e=.returned (.tuple #[.pointer (some ⟨b,0,none⟩),.int .i64 0])/\Bd.Bu (fun j=>j<w.heap.size) w' b N (Bd.RU R nl) Bd.noneF/\Below w.heap.size w w'):=fun w g' c' hr=>by
  refine (Bd.new_ok g' nl c' hn _ w hr hF).mono ?_
  rintro e w' ⟨b,he,hB,hb⟩
  exact ⟨b,_,he,hB,hb⟩
 have NR:Hid (∀ w:World,_):=fun w=>new5 F (by omega) (by omega) w
 have NQ:Hid (∀ w:World,_):=fun w=>Qu.new_ok (Cn:Nat) (by omega) (by omega) w
 obtain ⟨Zs,hz,hs,hzz⟩:=Tl.zero30
 have HZ:Hid (Zs.size=144/\ ∀ q r,q<16->r<9->Zs[q*9+r]? =Tl.Ln.zero.enc[r]?):=⟨hs,hzz⟩
 have hmm:= @run_makeMap Tryz.prog
 have BP:Hid (Blk (W.alloc (.cells #[.int .i64 F,.int .i64 k1,.int .i64 k2,.int .i64 tags,.slice (some ⟨g,0,none⟩) n c] 75)) W.heap.size [.int .i64 F,.int .i64 k1,.int .i64 k2,.int .i64 tags,.slice (some ⟨g,0,none⟩) n c] 75/\Below W.heap.size W (W.alloc (.cells #[.int .i64 F,.int .i64 k1,.int .i64 k2,.int .i64 tags,.slice (some ⟨g,0,none⟩) n c] 75))):=⟨Blk.made _ _ _,Go.Joins.below_alloc1 _ _⟩
 have H0:Hid (Tab W/\(1<=F/\F<=3000/\2<=Cn/\Cn<=1048576)/\(∀ i:Nat,Bd.RU R nl i->(i:Int)<F)/\Bd.cnt (Bd.RU R nl) 1048576=Cn):=⟨tb0,⟨f0,f1,h2,hC⟩,hlt,hcn⟩
 clear tb0 FC0 hs hzz f0 f1 t0 t1 hn hF hlt hcn hC h2
 go_enter Tryz.func26,Tryz.ntmps26
 go_upto_region 1 with fail
 generalize (W.alloc (.cells #[.int .i64 F,.int .i64 k1,.int .i64 k2,.int .i64 tags,.slice (some ⟨g,0,none⟩) n c] 75))=W0 at BP |-
 obtain ⟨P,hP⟩: ∃ P,P=W.heap.size:=⟨_,rfl⟩
 have BQ:Hid (Below W.heap.size W W0):=BP.out.2
 rw [<- hP] at BP |-
 have HP:Hid (P=W.heap.size):=hP
 clear hP
 have BX:=BP.out.1
 have c0:W0.cell? ⟨P,0,none⟩=some (.int .i64 F):=BX.cell 0
 have c1:W0.cell? ⟨P,1,none⟩=some (.int .i64 k1):=BX.cell 1
 have c2:W0.cell? ⟨P,2,none⟩=some (.int .i64 k2):=BX.cell 2
 have c4:W0.cell? ⟨P,4,none⟩=some (.slice (some ⟨g,0,none⟩) n c):=BX.cell 4
 clear BX
 go_wp2_with fail
 refine Calls.mono (FC.out _ BQ.out) ?_
 rintro e w1 ⟨g',c',rfl,hr,hb1⟩
 have B1:Hid (Blk w1 P [.int .i64 F,.int .i64 k1,.int .i64 k2,.int .i64 tags,.slice (some ⟨g,0,none⟩) n c] 75/\Bd.Rgs w1 g' nl R/\Below W.heap.size W w1):=⟨BP.out.1.below hb1,hr,below_then BQ.out hb1⟩
 have c3:w1.cell? ⟨P,3,none⟩=some (.int .i64 tags):=B1.out.1.cell 3
 clear hr hb1 c0 c1 c2 c4 BP BQ FC
 go_wp2_with fail
 refine Calls.mono (NT.out _) ?_
 rintro e w2 ⟨rfl,ho⟩
 have B2:Hid (Blk w2 P [.int .i64 F,.int .i64 k1,.int .i64 k2,.int .i64 tags,.slice (some ⟨g,0,none⟩) n c] 75/\Bd.Rgs w2 g' nl R/\Below W.heap.size W w2/\Pc.IsTags w2 (w1.heap.size+2) w1.heap.size (w1.heap.size+1) 0 (Pc.freshS tags)/\W.heap.size<=w1.heap.size):=⟨B1.out.1.below ho.2.1,B1.out.2.1.below ho.2.1,below_then B1.out.2.2 ho.2.1,ho.1,B1.out.2.2.size⟩
 generalize w1.heap.size=t at B2 |-
 clear ho c3 B1 NT
 go_wp2_with fail
 refine Calls.mono (NB.out _ g' c' B2.out.2.1) ?_
 rintro e w3 ⟨b,NN,rfl,hB,hb3⟩
 have B3:Hid (Bd.Bu (fun j=>j<w2.heap.size) w3 b NN (Bd.RU R nl) Bd.noneF/\Below w2.heap.size w2 w3):=⟨hB,hb3⟩
 clear hB hb3 NB
 have G4:Hid (Below w3.heap.size w3 (((w3.alloc (.cells Zs 94)).alloc (.map #[] 0)).alloc (.cells #[.pointer none,pp b,.pointer none,pp w3.heap.size,pp (t+2),.int .i64 0,.map (some (w3.heap.size+1))] 45))/\Tl.IsTlb (((w3.alloc (.cells Zs 94)).alloc (.map #[] 0)).alloc (.cells #[.pointer none,pp b,.pointer none,pp w3.heap.size,pp (t+2),.int .i64 0,.map (some (w3.heap.size+1))] 45)) w3.heap.size Tl.T0/\MapP (((w3.alloc (.cells Zs 94)).alloc (.map #[] 0)).alloc (.cells #[.pointer none,pp b,.pointer none,pp w3.heap.size,pp (t+2),.int .i64 0,.map (some (w3.heap.size+1))] 45)) (w3.heap.size+1) 0 (fun _=>none)/\Blk (((w3.alloc (.cells Zs 94)).alloc (.map #[] 0)).alloc (.cells #[.pointer none,pp b,.pointer none,pp w3.heap.size,pp (t+2),.int .i64 0,.map (some (w3.heap.size+1))] 45)) (w3.heap.size+2) [.pointer none,pp b,.pointer none,pp w3.heap.size,pp (t+2),.int .i64 0,.map (some (w3.heap.size+1))] 45/\(((w3.alloc (.cells Zs 94)).alloc (.map #[] 0)).alloc (.cells #[.pointer none,pp b,.pointer none,pp w3.heap.size,pp (t+2),.int .i64 0,.map (some (w3.heap.size+1))] 45)).heap.size=w3.heap.size+3):=three_new w3 Zs HZ.out.1 HZ.out.2 _
 go_upto_region 11 with fail
 generalize (((w3.alloc (.cells Zs 94)).alloc (.map #[] 0)).alloc (.cells #[.pointer none,pp b,.pointer none,pp w3.heap.size,pp (t+2),.int .i64 0,.map (some (w3.heap.size+1))] 45))=w4 at G4 |-
 obtain ⟨l,hl⟩: ∃ l,l=w3.heap.size:=⟨_,rfl⟩
 rw [<- hl] at G4 |-
 obtain ⟨mb,hmb⟩: ∃ mb,mb=l+1+1:=⟨_,rfl⟩
 rw [<- hmb]
 have G5:Hid (Below w3.heap.size w3 w4/\Tl.IsTlb w4 l Tl.T0/\MapP w4 (l+1) 0 (fun _=>none)/\Blk w4 mb [.pointer none,pp b,.pointer none,pp l,pp (t+2),.int .i64 0,.map (some (l+1))] 45/\w4.heap.size=l+3/\l=w3.heap.size/\mb=l+2):=by
  have q:=G4.out
  rw [hl] at q
  rw [hl,hmb,hl]
  exact ⟨q.1,q.2.1,q.2.2.1,q.2.2.2.1,q.2.2.2.2,rfl,rfl⟩
 clear hl hmb G4 HZ hz hmm
 have B4:Hid (Blk w4 P [.int .i64 F,.int .i64 k1,.int .i64 k2,.int .i64 tags,.slice (some ⟨g,0,none⟩) n c] 75/\Below W.heap.size W w4/\Below w2.heap.size w2 w4):=⟨(B2.out.1.below B3.out.2).below G5.out.1,below_then B2.out.2.2.1 (below_then B3.out.2 G5.out.1),below_then B3.out.2 G5.out.1⟩
 have c0:w4.cell? ⟨P,0,none⟩=some (.int .i64 F):=B4.out.1.cell 0
 go_wp2_with fail
 refine Calls.mono (NR.out _) ?_
 rintro e w5 ⟨rb,K,S,rfl,h5,hK,hS,b45⟩
 obtain ⟨X,hX⟩: ∃ X:Nat->Prop,X=fun j=>(j<w2.heap.size\/(w3.heap.size<=j/\j<w4.heap.size))/\j≠mb:=⟨_,rfl⟩
 have HX:Hid (X=fun j=>(j<w2.heap.size\/(w3.heap.size<=j/\j<w4.heap.size))/\j≠mb):=hX
 have XL:Hid (∀ j,X j->j<w4.heap.size/\j≠mb):=fun j hj=>by
  rw [hX] at hj
  have:=B4.out.2.2.size
  exact ⟨by omega,hj.2⟩
 clear hX
 have R5:Hid (Ram5 w5 K S rb (hasF F) F (fun _=>0) 0/\(∀ j,j<w4.heap.size->K j)/\(∀ s,s∈S->w4.heap.size<=s)/\Below w4.heap.size w4 w5):=⟨h5,hK,hS,b45⟩
 have M5:Hid (Blk w5 mb [.pointer none,pp b,.pointer none,pp l,pp (t+2),.int .i64 0,.map (some (l+1))] 45/\Kept X w4 w5):=⟨G5.out.2.2.2.1.below b45,kept_of_below b45 (fun j hj=>(XL.out j hj).1)⟩
 have c1:w5.cell? ⟨mb,0,none⟩=some (.pointer none):=M5.out.1.cell 0
 have z1:w5.frozen? ⟨mb,0,none⟩=false:=M5.out.1.free 0
 clear h5 hK hS b45 c0 NR
 have N5:Hid (Blk (w5.setCell ⟨mb,0,none⟩ (pp rb)) mb [pp rb,pp b,.pointer none,pp l,pp (t+2),.int .i64 0,.map (some (l+1))] 45/\Kept X w4 (w5.setCell ⟨mb,0,none⟩ (pp rb))/\w5.grownBy (w5.setCell ⟨mb,0,none⟩ (pp rb)) (some mb)):=⟨M5.out.1.set 0 (pp rb),M5.out.2.trans (kept_one (Qu.grown_setCell1 _ _ _ _) fun j hj=>⟨(XL.out j hj).2,Nat.lt_of_lt_of_le (XL.out j hj).1 M5.out.2.size⟩),Qu.grown_setCell1 _ _ _ _⟩
 go_upto_region 12 with fail
 generalize (w5.setCell ⟨mb,0,none⟩ (pp rb))=v5 at N5 |-
 clear c1 z1 M5
 have FB:Hid (Calls Tryz.prog 15 #[pp b] v5 fun e w'=>e=.returned (.int .i64 (Cn:Nat))/\w'=v5):=by
  have q:=(B3.out.1.next (W':=v5) (Nat.le_trans (Nat.le_trans G5.out.1.size R5.out.2.2.2.size) N5.out.2.2.size) (fun j hj _=>by
   have:=G5.out.2.2.2.2.2
   have s4:=G5.out.1.size
   exact (N5.out.2.2.block j (by have:=R5.out.2.2.2.size;omega) (fun e=>by have:=Option.some.inj e;omega)).trans ((R5.out.2.2.2.block j (by omega)).trans (G5.out.1.block j hj)))).free
  refine q.mono ?_
  rintro e w' ⟨rfl,rfl⟩
  rw [H0.out.2.2.2]
  exact ⟨rfl,rfl⟩
 go_wp2_with fail
 refine Calls.mono FB.out ?_
 rintro e w' ⟨rfl,hu⟩
 have hu2:=hu.symm
 subst hu2
 clear FB
 go_wp2_with fail
 refine Calls.mono (NQ.out _) ?_
 rintro e w6 ⟨rfl,hq⟩
 obtain ⟨tb,htb⟩: ∃ tb,tb=v5.heap.size:=⟨_,rfl⟩
 rw [<- htb] at hq |-
 have Q6:Hid (Qu.IsTree w6 tb (Qu.rootT (Cn:Nat))/\Below v5.heap.size v5 w6/\tb=v5.heap.size/\w5.heap.size<=tb):=⟨hq.1,hq.2.1,htb,by rw [htb];exact N5.out.2.2.size⟩
 clear hq htb NQ
 have ML:Hid (mb<w5.heap.size/\w5.heap.size<=v5.heap.size):=⟨by have:=G5.out.2.2.2.2;have:=R5.out.2.2.2.size;omega,N5.out.2.2.size⟩
 have M6:Hid (Blk w6 mb [pp rb,pp b,.pointer none,pp l,pp (t+2),.int .i64 0,.map (some (l+1))] 45/\Kept X w4 w6):=⟨N5.out.1.below Q6.out.2.1,N5.out.2.1.trans (kept_of_below Q6.out.2.1 (fun j hj=>Nat.lt_of_lt_of_le (XL.out j hj).1 N5.out.2.1.size))⟩
 have c1:w6.cell? ⟨mb,2,none⟩=some (.pointer none):=M6.out.1.cell 2
 have z1:w6.frozen? ⟨mb,2,none⟩=false:=M6.out.1.free 2
 have N6:Hid (Blk (w6.setCell ⟨mb,2,none⟩ (pp tb)) mb [pp rb,pp b,pp tb,pp l,pp (t+2),.int .i64 0,.map (some (l+1))] 45/\Kept X w4 (w6.setCell ⟨mb,2,none⟩ (pp tb))/\w6.grownBy (w6.setCell ⟨mb,2,none⟩ (pp tb)) (some mb)):=⟨M6.out.1.set 2 (pp tb),M6.out.2.trans (kept_one (Qu.grown_setCell1 _ _ _ _) fun j hj=>⟨(XL.out j hj).2,Nat.lt_of_lt_of_le (XL.out j hj).1 M6.out.2.size⟩),Qu.grown_setCell1 _ _ _ _⟩
 go_upto_region 13 with fail
 generalize (w6.setCell ⟨mb,2,none⟩ (pp tb))=v6 at N6 |-
 clear c1 z1 M6
 have P6:Hid (Pu (fun j=>j<w2.heap.size\/(w3.heap.size<=j/\j<w4.heap.size)) v6 (pm0 rb b tb F) (ps0 (Bd.RU R nl) (Cn:Nat))):=by
  have h10:=H0.out.2.1
  have g5:=G5.out.2.2.2.2
  have ml:=ML.out
  have q6:=Q6.out.2.2
  have s1:=N5.out.2.2.size
  have s2:=Q6.out.2.1.size
  have s3:=N6.out.2.2.size
  have sz:=B2.out.2.2.1.size
  have sb:=B4.out.2.2.size
  have w0:=H0.out.1.1
  have e0:v6.heap[0]? =W.heap[0]? :=(N6.out.2.1.block 0 (by rw [HX.out];exact ⟨by omega,by omega⟩)).trans (B4.out.2.1.block 0 w0)
  refine pu_make2 B3.out.1 B3.out.2 G5.out.1 R5.out.1 R5.out.2.1 R5.out.2.2.1 R5.out.2.2.2 (Tt.tree_block Q6.out.1 s3 (N6.out.2.2.block tb (by have:=Q6.out.1.2.2;omega) (fun e=>by have:=Option.some.inj e;omega))) (by omega) (by omega) (fun j hj hn=> ?_) (tab_block H0.out.1 (by have:=R5.out.2.2.2.size;have:=B4.out.2.1.size;omega) e0) (sound1 (by omega) H0.out.2.2.1 (by omega) (by omega)) (by omega)
  have jm:j≠mb:=by omega
  exact (N6.out.2.2.block j (by omega) (fun e=>jm (Option.some.inj e))).trans ((Q6.out.2.1.block j (by omega)).trans (N5.out.2.2.block j hj (fun e=>jm (Option.some.inj e))))
 have PC:Hid _:=purse_any mb rb b tb 0 _ _ _ _ v6 N6.out.1
 have KC:Hid (∀ w:World,Below v6.heap.size v6 w->Calls Tryz.prog 71 #[pv (pm0 rb b tb F) (0:Nat)] w fun e w'=> ∃ (L:List Nat) (kf:Nat),e=.returned (.tuple #[.int .i64 kf,.int .i64 0])/\(L.length=2/\InL (ps0 (Bd.RU R nl) (Cn:Nat)) L/\kf∈L)/\ ∃ M':Int->Int,Pu (fun j=>j<w2.heap.size\/(w3.heap.size<=j/\j<w4.heap.size)) w' (pm0 rb b tb F) { takeS (ps0 (Bd.RU R nl) (Cn:Nat)) 0 L with M:=M',q:=0+5000 }/\Kx (fun j=>j<w2.heap.size\/(w3.heap.size<=j/\j<w4.heap.size)) w w'):=fun w hb=>by
  have h10:=H0.out.2.1
  have nm:Nums (pm0 rb b tb F) (ps0 (Bd.RU R nl) (Cn:Nat)) 0 (Cn:Nat) 0 Cn:=nums1 _ _ _ _ H0.out.2.2.2
  have e2:1+(F+262143) / 262144=2:=by omega
  refine (kernel_ok (P6.out.below hb) (by show (1:Int)<=F;omega) 0 (nm.box (Or.inr (by omega))) (by show (0:Nat)<_;omega) (by rw [nm.room];show 1+(F+262143) / 262144<=_;omega)).mono ?_
  rintro e w' ⟨L,kf,he,⟨hl,hi,hk⟩,M',q1,q2,_⟩
  have hl2:(L.length:Int)=1+(F+262143) / 262144:=hl
  exact ⟨L,kf,he,⟨by omega,hi,hk⟩,M',q1,q2⟩
 go_wp2_with fail
 refine Calls.mono PC.out ?_
 rintro e w6p ⟨rfl,hb6⟩
 have HB6:Hid (Below v6.heap.size v6 w6p):=hb6
 clear hb6 PC
 go_wp2_with fail
 refine Calls.mono (KC.out _ HB6.out) ?_
 rintro e w7 ⟨L,kf,rfl,IN,M',hp7,hk7⟩
 have P7:Hid ((L.length=2/\InL (ps0 (Bd.RU R nl) (Cn:Nat)) L/\kf∈L)/\Pu (fun j=>j<w2.heap.size\/(w3.heap.size<=j/\j<w4.heap.size)) w7 (pm0 rb b tb F) { takeS (ps0 (Bd.RU R nl) (Cn:Nat)) 0 L with M:=M',q:=0+5000 }):=⟨IN,hp7⟩
 have XX:Hid (∀ j,X j->j<w2.heap.size\/(w3.heap.size<=j/\j<w4.heap.size)):=fun j hj=>by rw [HX.out] at hj;exact hj.1
 have MM:Hid (w3.heap.size<=mb/\mb<w4.heap.size):=by have:=G5.out.2.2.2.2;show _/\_;omega
 have M7:Hid (Blk w7 mb [pp rb,pp b,pp tb,pp l,pp (t+2),.int .i64 0,.map (some (l+1))] 45/\Kept X w4 w7):=⟨(N6.out.1.below HB6.out).kx hk7 (Or.inr MM.out),(N6.out.2.1.trans (kept_of_below HB6.out (fun j hj=>Nat.lt_of_lt_of_le (XL.out j hj).1 N6.out.2.1.size))).trans (hk7.sub XX.out)⟩
 have c1:w7.cell? ⟨mb,5,none⟩=some (.int .i64 0):=M7.out.1.cell 5
 have z1:w7.frozen? ⟨mb,5,none⟩=false:=M7.out.1.free 5
 have N7:Hid (Blk (w7.setCell ⟨mb,5,none⟩ (.int .i64 kf)) mb [pp rb,pp b,pp tb,pp l,pp (t+2),.int .i64 kf,.map (some (l+1))] 45/\Kept X w4 (w7.setCell ⟨mb,5,none⟩ (.int .i64 kf))/\w7.grownBy (w7.setCell ⟨mb,5,none⟩ (.int .i64 kf)) (some mb)):=⟨M7.out.1.set 5 (.int .i64 kf),M7.out.2.trans (kept_one (Qu.grown_setCell1 _ _ _ _) fun j hj=>⟨(XL.out j hj).2,Nat.lt_of_lt_of_le (XL.out j hj).1 M7.out.2.size⟩),Qu.grown_setCell1 _ _ _ _⟩
 clear IN hp7 hk7 KC
 go_upto_region 14 with fail
 generalize (w7.setCell ⟨mb,5,none⟩ (.int .i64 kf))=v7 at N7 |-
 clear c1 z1
 go_wp2_with fail
 go_returns
 refine ⟨⟨mb,l,t+2,t,t+1,l+1,kf⟩,pm0 rb b tb F,{ takeS (ps0 (Bd.RU R nl) (Cn:Nat)) 0 L with M:=M',q:=0+5000 },rfl,own0 t l (l+1) mb,?_⟩
 have h10:=H0.out
 have g5:=G5.out.2.2.2.2
 have b2:=B2.out
 have lt1:=Pc.blk_lt b2.2.2.2.1.blk
 have lt2:t<w2.heap.size:=by obtain ⟨_,q⟩:=b2.2.2.2.1.tags;exact q.lt
 have lt3:t+1<w2.heap.size:=by obtain ⟨_,q⟩:=b2.2.2.2.1.owns;exact q.lt
 have s23:=B3.out.2.size
 have s34:=G5.out.1.size
 have sW:=b2.2.2.2.2
 have k7:=N7.out.2.1
 have nx: ∀ j,(j<w2.heap.size\/(w3.heap.size<=j/\j<w4.heap.size))->j≠mb->v7.heap[j]? =w4.heap[j]? :=fun j h1 h2=>k7.block j (by rw [HX.out];exact ⟨h1,h2⟩)
 have bel:Below W.heap.size W v7:=⟨k7.os.trans B4.out.2.1.os,k7.tape.trans B4.out.2.1.tape,k7.output.trans B4.out.2.1.output,Nat.le_trans B4.out.2.1.size k7.size,fun j hj=>(nx j (Or.inl (by have:=b2.2.2.1.size;omega)) (by omega)).trans (B4.out.2.1.block j hj)⟩
 have so:=P7.out.2.so
 have nm:Nums (pm0 rb b tb F) (ps0 (Bd.RU R nl) (Cn:Nat)) 0 (Cn:Nat) 0 Cn:=nums1 _ _ _ _ H0.out.2.2.2
 have so0:Sound (pm0 rb b tb F) (ps0 (Bd.RU R nl) (Cn:Nat)):=sound1 (by omega) h10.2.2.1 (by omega) (by omega)
 have nm2:=nm.take so0 P7.out.1.2.1 M' (0+5000)
 have kfl:kf<1048576:=by
  have:=so0.frb kf (P7.out.1.2.1.2 kf P7.out.1.2.2)
  omega
 refine ⟨⟨(P7.out.2.poke (j:=mb) (Or.inr MM.out) (by omega) N7.out.2.2).less (fun j hj=> ?_) (Or.inl h10.1.1),h10.1.1,fun j hj=> ?_,N7.out.1,tlb_block G5.out.2.1 k7.size (nx l (Or.inr (by omega)) (by omega)),b2.2.2.2.1.kept (fun j hj hh=> ?_),G5.out.2.2.1.block (nx (l+1) (Or.inr (by omega)) (by omega)),?_,?_,?_,?_,by simp,by simp,by simp,by simp,by simp,by simp,kfl⟩,?_,bel⟩
 . rcases hj with c | c
   . exact Or.inl (by omega)
   . unfold own0 at c
     by_cases c1:j=mb
     . exact Or.inr (by omega)
     . rw [if_neg c1] at c
       by_cases c2:j=l
       . exact Or.inr (by omega)
       . rw [if_neg c2] at c
         by_cases c3:j=t\/j=t+1\/j=t+2
         . exact Or.inl (by omega)
         . rw [if_neg c3] at c
           by_cases c4:j=l+1
           . exact Or.inr (by omega)
           . rw [if_neg c4] at c;exact absurd rfl c
 . unfold own0
   have:j<W.heap.size:=hj
   rw [if_neg (by omega),if_neg (by omega),if_neg (by omega),if_neg (by omega)]
 . exact (nx j (Or.inl (by omega)) (by omega)).trans ((G5.out.1.block j (by omega)).trans (B3.out.2.block j hj))
 . unfold own0;rw [if_pos rfl]
 . show own0 t l (l+1) mb l=2
   unfold own0;rw [if_neg (by omega),if_pos rfl]
 . show own0 t l (l+1) mb (t+2)=3/\own0 t l (l+1) mb t=3/\own0 t l (l+1) mb (t+1)=3
   unfold own0
   refine ⟨?_,?_,?_⟩ <;> rw [if_neg (by omega),if_neg (by omega),if_pos (by omega)]
 . show own0 t l (l+1) mb (l+1)=4
   unfold own0;rw [if_neg (by omega),if_neg (by omega),if_neg (by omega),if_pos rfl]
 . rw [P7.out.1.1] at nm2
   have e2:((0:Int)+((2:Nat):Int))=2:=by simp
   rw [e2] at nm2
   exact nm2
end Go.Proofs.YthmobfelhpbllaaGreatDoor.Sp
namespace Go.Proofs.YthmobfelhpbllaaGreatDoor.Sp
open Go.ChangeShapes Go.WideShapes Go.ChangeAt Go.RowKit Go.Maps Go.Sort Go.Shelf
open Go.Proofs.YthmobfelhpbllaaGreatDoor.Tt
set_option linter.unusedSimpArgs false
set_option linter.unusedVariables false
set_option maxRecDepth 8000
def sortedA_ren:Go.Shelf.Ren:=⟨fun | 6=>57 | 8=>101 | 9=>102 | 11=>138 | 13=>140 | 12=>139 | 23=>168 | 24=>169 | 14=>159 | 15=>160 | 16=>161 | 17=>162 | 18=>163 | 19=>164 | 20=>165 | 21=>166 | 22=>167 | 25=>179 | 26=>180 | 27=>181 | 28=>182 | 29=>183 | 30=>184 | 31=>189 | n=>n,fun | 26=>3 | 28=>137 | 24=>22 | 0=>0 | 3=>3 | 37=>210 | 48=>158 | 50=>157 | 4=>4 | 40=>251 | 39=>250 | 45=>35 | 5=>5 | 9=>9 | 51=>265 | 55=>268 | 57=>276 | 58=>277 | 33=>63 | n=>n,fun | n=>n⟩
theorem sortedA:Go.Proofs.SlLaysZI.n6 Tryz.prog sortedA_ren:={
 mixed:=by kernel_rfl
 f6:=⟨Tryz.f57.name,by decide,Tryz.func57.trans (congrArg some (by kernel_rfl))⟩
 f8:=⟨Tryz.f101.name,by decide,Tryz.func101.trans (congrArg some (by kernel_rfl))⟩
 f11:=⟨Tryz.f138.name,by decide,Tryz.func138.trans (congrArg some (by kernel_rfl))⟩
 t0:=Tryz.underlying0
 a0:=Tryz.isAgg0
 z0:=Tryz.sizeOf0
 v0:=Tryz.zeroValue0
 t24:=Tryz.underlying22
 a24:=Tryz.isAgg22
 z24:=Tryz.sizeOf22
 v24:=Tryz.zeroValue22
 t26:=Tryz.underlying3
 a26:=Tryz.isAgg3
 z26:=Tryz.sizeOf3
 v26:=Tryz.zeroValue3
 t28:=Tryz.underlying137
 a28:=Tryz.isAgg137
 z28:=Tryz.sizeOf137
 v28:=Tryz.zeroValue137
 i26:=by kernel_rfl }
def sortA_ren:Go.Shelf.Ren:=⟨fun | 5=>102 | 8=>140 | 7=>139 | 19=>168 | 20=>169 | 10=>159 | 11=>160 | 12=>161 | 13=>162 | 14=>163 | 15=>164 | 16=>165 | 17=>166 | 18=>167 | 30=>179 | 31=>180 | 32=>181 | 33=>182 | 34=>183 | 35=>184 | 40=>189 | n=>n,fun | 23=>22 | 25=>3 | 3=>3 | 32=>210 | 22=>22 | 0=>0 | 44=>158 | 46=>157 | 4=>4 | 36=>251 | 35=>250 | 41=>35 | 5=>5 | 9=>9 | 53=>265 | 57=>268 | 63=>276 | 64=>277 | n=>n,fun | n=>n⟩
theorem sortA:Go.Proofs.SlLaysM.n5 Tryz.prog sortA_ren:={
 mixed:=by kernel_rfl
 f5:=⟨Tryz.f102.name,by decide,Tryz.func102.trans (congrArg some (by kernel_rfl))⟩
 f7:=⟨Tryz.f139.name,by decide,Tryz.func139.trans (congrArg some (by kernel_rfl))⟩
 f8:=Tryz.func140.trans (congrArg some (by kernel_rfl))
 f10:=⟨Tryz.f159.name,by decide,Tryz.func159.trans (congrArg some (by kernel_rfl))⟩
 f11:=⟨Tryz.f160.name,by decide,Tryz.func160.trans (congrArg some (by kernel_rfl))⟩
 f12:=⟨Tryz.f161.name,by decide,Tryz.func161.trans (congrArg some (by kernel_rfl))⟩
 f13:=⟨Tryz.f162.name,by decide,Tryz.func162.trans (congrArg some (by kernel_rfl))⟩
 f14:=⟨Tryz.f163.name,by decide,Tryz.func163.trans (congrArg some (by kernel_rfl))⟩
 f15:=⟨Tryz.f164.name,by decide,Tryz.func164.trans (congrArg some (by kernel_rfl))⟩
 f16:=⟨Tryz.f165.name,by decide,Tryz.func165.trans (congrArg some (by kernel_rfl))⟩
 f17:=⟨Tryz.f166.name,by decide,Tryz.func166.trans (congrArg some (by kernel_rfl))⟩
 f18:=⟨Tryz.f167.name,by decide,Tryz.func167.trans (congrArg some (by kernel_rfl))⟩
 f19:=Tryz.func168.trans (congrArg some (by kernel_rfl))
 f20:=Tryz.func169.trans (congrArg some (by kernel_rfl))
 f30:=⟨Tryz.f179.name,by decide,Tryz.func179.trans (congrArg some (by kernel_rfl))⟩
 f31:=Tryz.func180.trans (congrArg some (by kernel_rfl))
 f32:=Tryz.func181.trans (congrArg some (by kernel_rfl))
 f33:=⟨Tryz.f182.name,by decide,Tryz.func182.trans (congrArg some (by kernel_rfl))⟩
 f34:=⟨Tryz.f183.name,by decide,Tryz.func183.trans (congrArg some (by kernel_rfl))⟩
 f35:=⟨Tryz.f184.name,by decide,Tryz.func184.trans (congrArg some (by kernel_rfl))⟩
 f40:=⟨Tryz.f189.name,by decide,Tryz.func189.trans (congrArg some (by kernel_rfl))⟩
 t0:=Tryz.underlying0
 a0:=Tryz.isAgg0
 z0:=Tryz.sizeOf0
 v0:=Tryz.zeroValue0
 t3:=Tryz.underlying3
 a3:=Tryz.isAgg3
 z3:=Tryz.sizeOf3
 v3:=Tryz.zeroValue3
 t4:=Tryz.underlying4
 a4:=Tryz.isAgg4
 z4:=Tryz.sizeOf4
 v4:=Tryz.zeroValue4
 t5:=Tryz.underlying5
 a5:=Tryz.isAgg5
 z5:=Tryz.sizeOf5
 v5:=Tryz.zeroValue5
 t9:=Tryz.underlying9
 a9:=Tryz.isAgg9
 z9:=Tryz.sizeOf9
 v9:=Tryz.zeroValue9
 t22:=Tryz.underlying22
 a22:=Tryz.isAgg22
 z22:=Tryz.sizeOf22
 v22:=Tryz.zeroValue22
 t23:=Tryz.underlying22
 a23:=Tryz.isAgg22
 z23:=Tryz.sizeOf22
 v23:=Tryz.zeroValue22
 t25:=Tryz.underlying3
 a25:=Tryz.isAgg3
 z25:=Tryz.sizeOf3
 v25:=Tryz.zeroValue3
 t32:=Tryz.underlying210
 a32:=Tryz.isAgg210
 z32:=Tryz.sizeOf210
 v32:=Tryz.zeroValue210
 t35:=Tryz.underlying250
 a35:=Tryz.isAgg250
 z35:=Tryz.sizeOf250
 v35:=Tryz.zeroValue250
 t36:=Tryz.underlying251
 a36:=Tryz.isAgg251
 z36:=Tryz.sizeOf251
 v36:=Tryz.zeroValue251
 t41:=Tryz.underlying35
 a41:=Tryz.isAgg35
 z41:=Tryz.sizeOf35
 v41:=Tryz.zeroValue35
 t44:=Tryz.underlying158
 a44:=Tryz.isAgg158
 z44:=Tryz.sizeOf158
 v44:=Tryz.zeroValue158
 t46:=Tryz.underlying157
 a46:=Tryz.isAgg157
 z46:=Tryz.sizeOf157
 v46:=Tryz.zeroValue157
 t53:=Tryz.underlying265
 a53:=Tryz.isAgg265
 z53:=Tryz.sizeOf265
 v53:=Tryz.zeroValue265
 t57:=Tryz.underlying268
 a57:=Tryz.isAgg268
 z57:=Tryz.sizeOf268
 v57:=Tryz.zeroValue268
 t63:=Tryz.underlying276
 a63:=Tryz.isAgg276
 z63:=Tryz.sizeOf276
 v63:=Tryz.zeroValue276
 t64:=Tryz.underlying277
 a64:=Tryz.isAgg277
 z64:=Tryz.sizeOf277
 v64:=Tryz.zeroValue277 }
def keysS_ren:Go.Shelf.Ren:=⟨fun | 7=>78 | 10=>122 | n=>n,fun | 23=>43 | 26=>3 | 3=>98 | 28=>137 | 0=>0 | 27=>136 | 33=>63 | 4=>4 | n=>n,fun | n=>n⟩
theorem keysS:Go.Proofs.SlLaysZI.n7 Tryz.prog keysS_ren:={
 mixed:=by kernel_rfl
 f7:=⟨Tryz.f78.name,by decide,Tryz.func78.trans (congrArg some (by kernel_rfl))⟩
 f10:=⟨Tryz.f122.name,by decide,Tryz.func122.trans (congrArg some (by kernel_rfl))⟩
 t0:=Tryz.underlying0
 a0:=Tryz.isAgg0
 z0:=Tryz.sizeOf0
 v0:=Tryz.zeroValue0
 t4:=Tryz.underlying4
 a4:=Tryz.isAgg4
 z4:=Tryz.sizeOf4
 v4:=Tryz.zeroValue4
 t23:=Tryz.underlying43
 a23:=Tryz.isAgg43
 z23:=Tryz.sizeOf43
 v23:=Tryz.zeroValue43
 t26:=Tryz.underlying3
 a26:=Tryz.isAgg3
 z26:=Tryz.sizeOf3
 v26:=Tryz.zeroValue3
 t27:=Tryz.underlying136
 a27:=Tryz.isAgg136
 z27:=Tryz.sizeOf136
 v27:=Tryz.zeroValue136
 t28:=Tryz.underlying137
 a28:=Tryz.isAgg137
 z28:=Tryz.sizeOf137
 v28:=Tryz.zeroValue137
 t33:=Tryz.underlying63
 a33:=Tryz.isAgg63
 z33:=Tryz.sizeOf63
 v33:=Tryz.zeroValue63 }
theorem sortsA (m:Nat):AnyZI.SortsIn Tryz.prog sortedA_ren Fence.wide m :=
 ⟨fun blk off cap ss W hH hblk hsz=>callsIn_wide.2 (AnyM.slices_Sort_int sortA blk off cap ss W hH hblk hsz),
  fun p cap W=>callsIn_wide.2 (AnyM.slices_Sort_int_none sortA p cap W)⟩
theorem keysS_any (mb:Option Nat) (W:World):Calls Tryz.prog 78 #[.map mb] W fun e w'=>e=.returned (.func (.func 122) #[] #[.pointer (some ⟨W.heap.size,0,none⟩)])/\w'=W.alloc (.cells #[.map mb] 43) :=
 (callsIn_wide (n:=5)).1 (AnyZI.keys_in keysS Fence.wide 5 trivial rfl mb W)
set_option maxHeartbeats 1000000 in
theorem sorted_none (b:Nat) (f:Int->Option Nat) (w:World) (h:MapP w b 0 f) :
 Calls Tryz.prog 57 #[.func (.func 122) #[] #[.pointer (some ⟨w.heap.size,0,none⟩)]] (w.alloc (.cells #[.map (some b)] 43)) fun e w'=> ∃ pf cf,e=.returned (.slice pf 0 cf)/\Below w.heap.size w w':=by
 obtain ⟨D0,hown,hD⟩:=h
 have hs:Maps.size D0<=0:=hown.size_le
 have hbl:=hown.lt
 obtain ⟨es,hE,_⟩:=hown.entries keyLaw
 subst hE
 have he:es=[]:=List.length_eq_zero_iff.1 (Nat.le_zero.1 hs)
 subst he
 have hseq:SeqGives Fence.wide 2 Tryz.prog 122 #[.pointer (some ⟨w.heap.size,0,none⟩)] encZ (fun ss=>ss.Perm (intKeys (.map []:DataW Unit))) (Maps.size (.map []:DataW Unit)) (w.alloc (.cells #[.map (some b)] 43)) :=
  AnyZI.keys_gives (ρ :=keysS_ren) { keysS with } Fence.wide _ trivial rfl (by omega) w.heap.size b 0 (.map []) _ (by simp) (by simp) (by
   obtain ⟨es,clock,hb,Ft,hs,hD⟩:=hown
   exact ⟨es,clock,(Below.heap_alloc _ _ b hbl).trans hb,Ft,hs,hD⟩)
 have cS:=AnyZI.sorted_in sortedA Fence.wide 5 trivial trivial trivial trivial rfl (by omega) (sortsA _) (enters_of Tryz.func102 (by kernel_rfl) rfl) 122 #[.pointer (some ⟨w.heap.size,0,none⟩)] trivial (enters_of Tryz.func122 (by kernel_rfl) rfl) _ _ (by unfold maxLen;omega) (by omega) _ hseq
 change CallsIn _ _ Tryz.prog 57 _ _ _ at cS
 refine ((callsIn_wide (n:=5)).1 cS).mono ?_
 rintro e w' ⟨v,ss,rfl,hS,hrow,hnil,hb⟩
 have e0:ss=[]:=List.Perm.eq_nil hS
 subst e0
 obtain ⟨pf,cf,rfl⟩:=Tl.own_len hrow
 exact ⟨pf,cf,rfl,((Below.refl _ w).alloc (Nat.le_refl _) _).trans (hb.mono (by simp))⟩
set_option maxHeartbeats 1000000 in
theorem spaces_none {Y:Nat->Prop} {O:Nat->Nat} {W:World} {M:Mb} {m:Pm} {s:Ps} {T:Nat->Tl.Ln} {S:Pc.Tg} {A:List Sr} (h:Mc Y O 0 W M m s T S A) :
 Calls Tryz.prog 29 #[pp M.mb] W fun e w'=> ∃ pf cf,e=.returned (.slice pf 0 cf)/\Below W.heap.size W w':=by
 have c6:W.cell? ⟨M.mb,6,none⟩=some (.map (some M.sm)):=h.mac.cell 6
 have SC:Hid _:=sorted_none M.sm _ W h.map
 have KC:Hid _:=keysS_any (some M.sm) W
 clear h
 go_enter Tryz.func29,Tryz.ntmps29
 go_wp2_with fail
 refine Calls.mono KC.out ?_
 rintro e w1 ⟨rfl,hu⟩
 subst hu
 clear KC
 go_wp2_with fail
 refine Calls.mono SC.out ?_
 rintro e w2 ⟨pf,cf,rfl,hb⟩
 have HB:Hid (Below W.heap.size W w2):=hb
 clear hb SC
 go_wp2_with fail
 go_returns
 exact ⟨_,_,rfl,HB.out⟩
set_option maxHeartbeats 1000000 in
theorem stale_none {Y:Nat->Prop} {O:Nat->Nat} {n:Nat} {W:World} {M:Mb} {m:Pm} {s:Ps} {S:Pc.Tg} {A:List Sr} (h:Mc Y O n W M m s Tl.T0 S A) :
 Calls Tryz.prog 30 #[pp M.mb] W fun e w'=> ∃ pf cf,e=.returned (.slice pf 0 cf)/\Below W.heap.size W w':=by
 have c3:W.cell? ⟨M.mb,3,none⟩=some (pp M.tl):=h.mac.cell 3
 have LC:Hid (Calls Tryz.prog 12 #[pp M.tl] W fun e w'=> ∃ sp sc,e=.returned (.slice sp 0 sc)/\Below W.heap.size W w'):=by
  refine (Tl.lines_any M.tl Tl.T0 W h.tlb).mono ?_
  rintro e w' ⟨v,he,hr,hb⟩
  rw [lines_zero 16 (fun _ _=>rfl)] at hr
  obtain ⟨p,c,hv⟩:=Tl.own_len hr
  exact ⟨p,c,by rw [he,hv];rfl,hb⟩
 clear h
 go_enter Tryz.func30,Tryz.ntmps30
 go_wp2_with fail
 refine Calls.mono LC.out ?_
 rintro e w1 ⟨sp,sc,rfl,hb⟩
 have HB:Hid (Below W.heap.size W w1):=hb
 clear hb LC c3
 go_wp2_with fail
 go_loopw [3,12] (fun sv iv wr=>sv=.slice none 0 0/\iv=.int .i64 0/\Hid (Below W.heap.size W wr)) (fun _ _ _=>0)
 case atStart=>exact ⟨rfl,rfl,HB⟩
 case round =>
  obtain ⟨rfl,rfl,hB⟩:=hrel
  go_wp2_with fail
  go_returns
  exact ⟨_,_,rfl,hB.out⟩
end Go.Proofs.YthmobfelhpbllaaGreatDoor.Sp
namespace Go.Proofs.YthmobfelhpbllaaGreatDoor.Sp
open Go.ChangeShapes Go.WideShapes Go.ChangeAt Go.RowKit Go.Maps
open Go.Proofs.YthmobfelhpbllaaGreatDoor.Tt Go.Proofs.YthmobfelhpbllaaGreatDoor.Gv
set_option linter.unusedSimpArgs false
set_option linter.unusedVariables false
set_option maxRecDepth 8000
theorem open_bytes1 {H:Type} {enc:TypeId × Value->H} {W:World} {base:Nat} {sp:Nat->Bool} {held:Bool} {v:Value} {x:DataW H} {ps:List MemPlace} {fuel:Nat} (hf:DataW.trod enc Tryz.prog W base sp held fuel 73 [v]=some (x,ps)) :
 ∃ (p:Option Addr) (n c:Nat) (A:Nat->Int),v=.slice p n c/\n<=maxLen/\n<=c/\Bm.IsByts W p n A:=by
 rcases Go.Deep.open_slice Tryz.underlying73 hf with ⟨e,_⟩ | ⟨a,len,cap,m,k,D,Pl,e,hb,hl,hm,hmm,hx,hel⟩
 . have e':v=.slice none 0 0:=(List.cons.inj (show [v]=[.slice none 0 0] from e)).1
   exact ⟨none,0,0,fun _=>0,e',by omega,by omega,fun i hi=>absurd hi (Nat.not_lt_zero _)⟩
 . have e':v=.slice (some a) len cap:=(List.cons.inj (show [v]=[.slice (some a) len cap] from e)).1
   have hlm:len<=m:=by rw [hmm];split <;> omega
   rw [e']
   have each: ∀ i,i<len-> ∃ q:Int,a.spot=none/\a.block<W.heap.size/\W.cell? ⟨a.block,a.off+i,none⟩=some (.int .u8 q)/\(Lit.int .u8 q).wf=true:=fun i hi=>by
    obtain ⟨cs',h1,h2⟩:=hel i (by omega)
    obtain ⟨c2',h3,_⟩:=hel 0 (by omega)
    rw [Bm.cellsB] at h1 h3
    obtain ⟨_,hlen,hcell⟩:=World.cells?_some h1
    obtain ⟨_,hlen3,hcell3⟩:=World.cells?_some h3
    have hspot:a.spot=none:=by
     have:=hcell3 0 (by omega)
     simpa [Addr.add] using World.cell?_spot (this.trans (List.getElem?_eq_getElem (by omega)))
    obtain ⟨q1,e1,_,w1⟩:=DataW.trod_int Tryz.underlying5 h2
    have ad:(a.add (i*1)).add 0=⟨a.block,a.off+i,none⟩:=by
     rw [Go.Deep.add_add]
     unfold Addr.add
     by_cases c:i*1+0=0
     . rw [if_pos c]
       have:i=0:=by omega
       obtain ⟨bb,oo,ss⟩:=a
       simp only at hspot
       subst hspot
       simp [this]
     . rw [if_neg c];simp;try omega
    have c1:=hcell 0 (by omega)
    rw [ad,e1] at c1
    have c2:W.cell? ⟨a.block,a.off+i,none⟩=some (.int .u8 q1):=c1
    exact ⟨q1,hspot,(by have:=Bm.lt_of_cell c2;exact this),c2,w1⟩
   obtain ⟨q,hq⟩:=Go.Deep.choose_lt each
   refine ⟨some a,len,cap,q,rfl,by omega,hl,fun i hi=> ?_⟩
   obtain ⟨s,l,c1,w1⟩:=hq i hi
   obtain ⟨bb,oo,ss⟩:=a
   simp only at s
   subst s
   exact ⟨bb,oo,rfl,l,c1,w1⟩
theorem cellsPl:Tryz.prog.cellsOf 75=5:=by kernel_rfl
theorem arr5 {α :Type} {a:Array α} (h:a.size=5): ∃ x0 x1 x2 x3 x4,a= #[x0,x1,x2,x3,x4]:=by
 obtain ⟨l⟩:=a
 match l,h with
 | [x0, x1, x2, x3, x4], _ => exact ⟨x0, x1, x2, x3, x4, rfl⟩
theorem open_plan {H:Type} {enc:TypeId × Value->H} {W:World} {base:Nat} {sp:Nat->Bool} {held:Bool} {r:Reach} {b0:Nat} {v:Value} {x:DataW H} {ps:List MemPlace}
 (hv:Value.okWide Tryz.prog W r b0 75 v) (h:DataW.Trod enc Tryz.prog W base sp held 75 v x ps) :
 ∃ (F k1 k2 tags:Int) (p:Option Addr) (n c:Nat) (A:Nat->Int),v=.agg #[.int .i64 F,.int .i64 k1,.int .i64 k2,.int .i64 tags,.slice p n c]/\(Lit.int .i64 F).wf=true/\n<=maxLen/\n<=c/\Bm.IsByts W p n A:=by
 obtain ⟨cs,rfl,hsz⟩:=okWide_struct Tryz.underlying75 hv
 obtain ⟨c0,c1,c2,c3,c4,rfl⟩:=arr5 (hsz.trans cellsPl)
 obtain ⟨fuel,hf⟩:=h
 obtain ⟨xs,n,_,_,hl,hlen,hf⟩:=DataW.trod_struct Tryz.underlying75 hf
 have hg: ∀ i,i<4-> ∃ y,xs[i]? =some y:=fun i hi=>⟨_,List.getElem?_eq_getElem (by rw [hlen];exact hi)⟩
 obtain ⟨y0,k0⟩:=hg 0 (by omega)
 obtain ⟨y1,k1⟩:=hg 1 (by omega)
 obtain ⟨y2,k2⟩:=hg 2 (by omega)
 obtain ⟨⟨y3,q3⟩,k3⟩:=hg 3 (by omega)
 obtain ⟨a,e0,_,wa⟩:=DataW.trod_int Tryz.underlying3 ((hf 0 _ rfl).trans k0)
 obtain ⟨d,e2,_,wd⟩:=DataW.trod_int Tryz.underlying3 ((hf 2 _ rfl).trans k2)
 have f1:=(hf 1 _ rfl).trans k1
 obtain ⟨zs,n1,_,_,hl1,hlen1,hf1⟩:=DataW.trod_struct Tryz.underlying56 f1
 have hg1: ∀ i,i<2-> ∃ y,zs[i]? =some y:=fun i hi=>⟨_,List.getElem?_eq_getElem (by rw [hlen1];exact hi)⟩
 obtain ⟨u0,l0⟩:=hg1 0 (by omega)
 obtain ⟨u1,l1⟩:=hg1 1 (by omega)
 obtain ⟨b,g0,_,wb⟩:=DataW.trod_int Tryz.underlying3 ((hf1 0 _ rfl).trans l0)
 obtain ⟨b',g1,_,wb'⟩:=DataW.trod_int Tryz.underlying3 ((hf1 1 _ rfl).trans l1)
 have f3:=(hf 3 _ rfl).trans k3
 obtain rfl:=Bm.cell_of Bm.cellsI e0 (c:=c0) rfl
 obtain rfl:c3=.int .i64 d:=Bm.cell_of Bm.cellsI e2 rfl
 obtain rfl:c1=.int .i64 b:=Bm.cell_of Bm.cellsI g0 rfl
 obtain rfl:c2=.int .i64 b':=Bm.cell_of Bm.cellsI g1 rfl
 obtain ⟨p,n,c,A,rfl,h1,h2,h3⟩:=open_bytes1 (v:=c4) f3
 exact ⟨_,_,_,_,p,n,c,A,rfl,wa,h1,h2,h3⟩
def sm:List (Int × Int)->Int
 | [] => 0
 | r :: L => (r.2 - r.1) + sm L
theorem sm_app (L:List (Int × Int)) (r:Int × Int):sm (L++[r])=sm L+(r.2-r.1):=by
 induction L with
 | nil => show (r.2 - r.1) + 0 = 0 + (r.2 - r.1); omega
 | cons q L ih => show (q.2 - q.1) + sm (L ++ [r]) = (q.2 - q.1) + sm L + (r.2 - r.1); rw [ih]; omega
theorem cnt_has: ∀ M:List (Int × Int),Bm.Can M->(∀ x,Bm.Has M x->0<=x/\x<1048576)->(Bd.cnt (fun i:Nat=>Bm.Has M i) 1048576:Int)=sm M
 | [], _, _ => by rw [cnt_empty (fun i hi => Bm.has_nil _ hi)]; rfl
 | r :: L, hc, hb => by
  have hr:r.1<r.2:=hc.1 r List.mem_cons_self
  have b1:=hb r.1 ((Bm.has_cons r L _).2 (Or.inl ⟨Int.le_refl _,hr⟩))
  have b2:=hb (r.2-1) ((Bm.has_cons r L _).2 (Or.inl ⟨by omega,by omega⟩))
  have hL:Bm.Can L:=⟨fun q hq=>hc.1 q (List.mem_cons_of_mem _ hq),(List.pairwise_cons.1 hc.2).2⟩
  have ih:=cnt_has L hL (fun x hx=>hb x ((Bm.has_cons r L x).2 (Or.inr hx)))
  have e:(fun i:Nat=>Bm.Has (r::L) i)=fun i:Nat=>(r.1.toNat<=i/\i<r.2.toNat)\/Bm.Has L i:=by
   funext i;apply propext
   rw [Bm.has_cons]
   constructor
   . rintro (⟨x,y⟩ | x)
     . exact Or.inl ⟨by omega,by omega⟩
     . exact Or.inr x
   . rintro (⟨x,y⟩ | x)
     . exact Or.inl ⟨by omega,by omega⟩
     . exact Or.inr x
  rw [e,Bd.cnt_or _ _ (fun i h1 h2=>by
   obtain ⟨q,hq,q1,q2⟩:=h2
   have:=(List.pairwise_cons.1 hc.2).1 q hq
   omega),Bd.cnt_seg _ _ (by omega)]
  show _=(r.2-r.1)+sm L
  rw [<- ih]
  omega
theorem can_take {M:List (Int × Int)} (h:Bm.Can M) (i:Nat):Bm.Can (M.take i):=⟨fun q hq=>h.1 q (List.mem_of_mem_take hq),h.2.sublist (List.take_sublist _ _)⟩
theorem has_take {M:List (Int × Int)} {i:Nat} {x:Int} (h:Bm.Has (M.take i) x):Bm.Has M x:=by obtain ⟨q,hq,r⟩:=h;exact ⟨q,List.mem_of_mem_take hq,r⟩
theorem sm_bd {M:List (Int × Int)} (hc:Bm.Can M) (hb: ∀ x,Bm.Has M x->0<=x/\x<1048576) (i:Nat):0<=sm (M.take i)/\sm (M.take i)<=1048576:=by
 have q:=cnt_has (M.take i) (can_take hc i) (fun x hx=>hb x (has_take hx))
 have r:=cnt_bound (F:=fun j:Nat=>Bm.Has (M.take i) j) (b:=1048576) (fun j hj=>by have:=hb j (has_take hj);omega) 1048576
 omega
theorem sm_next {M:List (Int × Int)} {i:Nat} (h:i<M.length):sm (M.take (i+1))=sm (M.take i)+(M[i].2-M[i].1):=by
 rw [List.take_succ_eq_append_getElem h,sm_app]
theorem fz_total (B:Nat->Int) (n:Nat) (F:Int) (k:Int × Int): ∃ z M,Bm.FZ B n F k z M:=by
 by_cases hG:Bm.Good F k
 rotate_left
 . exact ⟨1,[],Or.inl ⟨hG,rfl,rfl⟩⟩
 by_cases c1:1280<n
 . exact ⟨4,[],Or.inr (Or.inl ⟨hG,4,[],Or.inl ⟨c1,rfl,rfl⟩,by decide,rfl,rfl⟩)⟩
 by_cases c2:n % 20=0
 rotate_left
 . exact ⟨14,[],Or.inr (Or.inl ⟨hG,14,[],Or.inr (Or.inl ⟨by omega,c2,rfl,rfl⟩),by decide,rfl,rfl⟩)⟩
 by_cases c3: ∃ x∈Bm.areasL B (n / 20),¬ Bm.Fit x
 . exact ⟨3,[],Or.inr (Or.inl ⟨hG,3,[],Or.inr (Or.inr (Or.inl ⟨by omega,c2,c3,rfl,rfl⟩)),by decide,rfl,rfl⟩)⟩
 have c4: ∀ x∈Bm.areasL B (n / 20),Bm.Fit x:=fun x hx=>Classical.byContradiction fun q=>c3 ⟨x,hx,q⟩
 obtain ⟨q1,q2⟩:=Bm.lessV_all (Bm.ruseL F (Bm.areasL B (n / 20))) (Bm.rawayL F k (Bm.areasL B (n / 20)))
 exact ⟨_,_,Or.inr (Or.inr ⟨hG,_,Or.inr (Or.inr (Or.inr ⟨by omega,c2,c4,rfl,rfl⟩)),q1,fun x=>(q2 x).trans (Bm.clip_any F k _ x),rfl⟩)⟩
def errB (z tags:Int) (nl cn:Nat):Int:=if z≠0 then z else if tags<1\/4095<tags then 1 else if 64<nl then 4 else if cn<2 then 8 else 0
def BR (W:World) (mp:Value) (eB tags:Int) (cn:Nat) (w':World):Prop :=
 Below W.heap.size W w'/\Tab w'/\((eB≠0/\mp=.pointer none)\/(eB=0/\ ∃ O M m s,mp=pp M.mb/\Mc (fun j=>j<W.heap.size) O 0 w' M m s Tl.T0 (Pc.freshS tags) []/\Nums m s 0 ((cn:Int)-2) 2 (cn-2)))
theorem BR.below {W w' w'':World} {mp:Value} {eB tags:Int} {cn:Nat} (h:BR W mp eB tags cn w') (hb:Below w'.heap.size w' w''):BR W mp eB tags cn w'':=by
 obtain ⟨h1,h2,h3⟩:=h
 refine ⟨below_then h1 hb,tab_block h2 hb.size (hb.block 0 h2.1),?_⟩
 rcases h3 with q | ⟨q,O,M,m,s,a,b,c⟩
 . exact Or.inl q
 . exact Or.inr ⟨q,O,M,m,s,a,b.below hb,c⟩
theorem boot_any (F k1 k2 tags z:Int) (Ml:List (Int × Int)) (g n c base:Nat) (L:List Int) (hn:n=L.length) (hL:Bm.Byt L) (hz:Bm.FZ (Bm.BL L) n F (k1,k2) z Ml) (f1:F<=3000\/1048576<F) (W:World) (tb:Tab W) (O:Bm.OL 5 1 Bm.eB W base (.slice (some ⟨g,0,none⟩) n c) L) :
 Calls Tryz.prog 26 #[.agg #[.int .i64 F,.int .i64 k1,.int .i64 k2,.int .i64 tags,.slice (some ⟨g,0,none⟩) n c]] W fun e w'=> ∃ mp,e=.returned (.tuple #[mp,.int .i64 (errB z tags Ml.length (sm Ml).toNat)])/\BR W mp (errB z tags Ml.length (sm Ml).toNat) tags (sm Ml).toNat w':=by
 have FZ0: ∀ w:World,Below W.heap.size W w->Calls Tryz.prog 67 #[.slice (some ⟨g,0,none⟩) n c,.int .i64 F,.agg #[.int .i64 k1,.int .i64 k2]] w fun e w'=> ∃ v',e=.returned (.tuple #[v',.int .i64 z])/\(Bm.RL w' w.heap.size v' Ml/\Bm.At0 v')/\Below w.heap.size w w':=fun w hb=>by
  refine (Bm.frames_own_z g n c base L hn hL F k1 k2 w (Bm.row_below O hb)).mono ?_
  rintro e w' ⟨v',z',M',he,h1,h2,_,h4⟩
  obtain ⟨rfl,rfl⟩:=hz.one h2
  exact ⟨v',he,h1,h4⟩
 by_cases z0:z=0
 rotate_left
 . have eq:errB z tags Ml.length (sm Ml).toNat=z:=if_pos z0
   rw [eq]
   refine (boot_z F k1 k2 tags z z0 g n c W (fun w hb=>(FZ0 w hb).mono fun e w' ⟨v',a,_,b⟩=>⟨v',a,b⟩)).mono ?_
   rintro e w' ⟨he,hb⟩
   exact ⟨_,he,hb,tab_block tb hb.size (hb.block 0 tb.1),Or.inl ⟨z0,rfl⟩⟩
 subst z0
 obtain ⟨q1,q2,q3⟩:=fz_bounds hz (Bm.bl_bd hL)
 have hG:Bm.Good F (k1,k2):=by
  rcases hz with ⟨_,b,_⟩ | ⟨_,_,_,_,q,b,_⟩ | ⟨a,_⟩
  . cases b
  . exact absurd b.symm q
  . exact a
 obtain ⟨hF1,hF2,_⟩:=hG
 have hF3:F<=3000:=by omega
 have FC: ∀ w:World,Below W.heap.size W w->Calls Tryz.prog 67 #[.slice (some ⟨g,0,none⟩) n c,.int .i64 F,.agg #[.int .i64 k1,.int .i64 k2]] w fun e w'=> ∃ g' c',e=.returned (.tuple #[.slice (some ⟨g',0,none⟩) Ml.length c',.int .i64 0])/\Bd.Rgs w' g' Ml.length (rg Ml)/\Below w.heap.size w w':=fun w hb=>by
  refine (FZ0 w hb).mono ?_
  rintro e w' ⟨v',rfl,⟨h1,h1'⟩,h4⟩
  obtain ⟨g',c',rfl,hr⟩:=rgs_of (h1.low (Nat.zero_le _)) h1' q3
  exact ⟨g',c',rfl,hr,h4⟩
 have e0:errB 0 tags Ml.length (sm Ml).toNat=if tags<1\/4095<tags then 1 else if 64<Ml.length then 4 else if (sm Ml).toNat<2 then 8 else 0:=if_neg (by simp)
 by_cases ht:tags<1\/4095<tags
 . rw [e0,if_pos ht]
   refine (boot_t F k1 k2 tags Ml.length (rg Ml) ht g n c W FC).mono ?_
   rintro e w' ⟨he,hb⟩
   exact ⟨_,he,hb,tab_block tb hb.size (hb.block 0 tb.1),Or.inl ⟨by decide,rfl⟩⟩
 rw [if_neg ht] at e0
 by_cases h64:64<Ml.length
 . rw [e0,if_pos h64]
   refine (boot_b F k1 k2 tags Ml.length (rg Ml) (by omega) (by omega) h64 g n c W FC).mono ?_
   rintro e w' ⟨he,hb⟩
   exact ⟨_,he,hb,tab_block tb hb.size (hb.block 0 tb.1),Or.inl ⟨by decide,rfl⟩⟩
 rw [if_neg h64] at e0
 have hbb: ∀ x,Bm.Has Ml x->0<=x/\x<F:=fun x hx=>⟨(q1 x hx).1,(q1 x hx).2.1⟩
 have fo:=form_can q2 hbb hF2
 have ru:Bd.RU (rg Ml) Ml.length=fun i:Nat=>Bm.Has Ml i:=by funext i;exact propext (ru_has i)
 have cn:=cnt_has Ml q2 (fun x hx=>⟨(q1 x hx).1,by have:=(q1 x hx).2.1;omega⟩)
 have cn2:Bd.cnt (Bd.RU (rg Ml) Ml.length) 1048576=(sm Ml).toNat:=by rw [ru];omega
 have bd:=sm_bd q2 (fun x hx=>⟨(q1 x hx).1,by have:=(q1 x hx).2.1;omega⟩) Ml.length
 rw [List.take_length] at bd
 have hlt: ∀ i:Nat,Bd.RU (rg Ml) Ml.length i->(i:Int)<F:=fun i hi=>(q1 i ((ru_has i).1 hi)).2.1
 by_cases c2:(sm Ml).toNat<2
 . rw [e0,if_pos c2]
   refine (boot_n F k1 k2 tags Ml.length (sm Ml).toNat (rg Ml) g n c W tb FC hF1 hF3 (by omega) (by omega) (by omega) fo hlt cn2 (by omega) c2).mono ?_
   rintro e w' ⟨he,hb⟩
   exact ⟨_,he,hb,tab_block tb hb.size (hb.block 0 tb.1),Or.inl ⟨by decide,rfl⟩⟩
 . rw [e0,if_neg c2]
   refine (boot_y F k1 k2 tags Ml.length (sm Ml).toNat (rg Ml) g n c W tb FC hF1 hF3 (by omega) (by omega) (by omega) fo hlt cn2 (by omega) (by omega)).mono ?_
   rintro e w' ⟨M,m,s,he,O',hM,hN,hb⟩
   exact ⟨_,he,hb,hM.pu.tab,Or.inr ⟨rfl,O',M,m,s,rfl,hM,hN⟩⟩
end Go.Proofs.YthmobfelhpbllaaGreatDoor.Sp
