import Derived.Test.YtlaiadheelgbdaaGreatMCc
import Derived.Test.YtlaiadheelgbdaaGreatKZc
import Derived.Defers
import Derived.Recover
import Derived.Deep.MidRow
import Derived.Deep.DeepCutAuto
namespace Go.Proofs.YtlaiadheelgbdaaGreat.Ca
open Go.ChangeShapes Go.WideShapes Go.ChangeAt Go.RowKit Go.Maps
set_option linter.unusedSimpArgs false
set_option linter.unusedVariables false
set_option maxRecDepth 8000
set_option maxHeartbeats 4000000 in
theorem call1 (b:Nat) (W:Wd) (hw:W.wf) (h0:W.at 0=1) (l1:(pagesOk (W.at 1) (W.at 2))) (l2:(W.at 3<4)) (w:World) (h:IsR w b W 0):Calls Tryz.prog 24 #[.pointer (some ⟨b,0,none⟩)] w fun e w'=>e=.returned (.agg #[.int .i64 1,.int .i64 (W.at 1),.int .i64 (W.at 1+W.at 2),.bool (permW (W.at 3)),.bool true,.bool (permX (W.at 3)),.int .u64 0,.int .i64 0,.int .u64 0,.int .i64 0,.int .i64 0,.int .i64 0,.int .i64 0])/\IsR w' b W 4/\Kb b w w':=by
 have N0:Hid (∀ w:World,IsR w b W (0)->Calls Tryz.prog 37 #[.pointer (some ⟨b,0,none⟩),.int .u64 17] w fun e w'=>e=.returned (.int .i64 (W.at (0)))/\IsR w' b W (0+1)/\Kb b w w'):=fun w h=>number_yes b W (0) (by omega) hw 17 (by omega) (by omega) w h
 rw [h0] at N0
 have N1:Hid (∀ w:World,IsR w b W (1)->Calls Tryz.prog 38 #[.pointer (some ⟨b,0,none⟩)] w fun e w'=>e=.returned (.agg #[.int .i64 (W.at 1),.int .i64 (W.at 1+W.at 2)])/\IsR w' b W (3)/\Kb b w w'):=fun w h=>pages_yes b W 1 (by omega) hw l1 w h
 have N2:Hid (∀ w:World,IsR w b W (3)->Calls Tryz.prog 39 #[.pointer (some ⟨b,0,none⟩)] w fun e w'=>e=.returned (.agg #[.bool (permW (W.at 3)),.bool true,.bool (permX (W.at 3))])/\IsR w' b W (4)/\Kb b w w'):=fun w h=>perm_yes b W 3 (by omega) hw l2 w h
 have p1:=(hw 1).1
 have H0:Hid (IsR w b W 0):=h
 have lt0:=blk_lt h
 clear h hw h0
 generalize W.at 1=x1 at *
 generalize W.at 2=x2 at *
 generalize W.at 3=x3 at *
 have A0:Hid (IsR (w.alloc (.cells [.int .i64 0,.int .i64 0,.int .i64 0,.bool false,.bool false,.bool false,.int .u64 0,.int .i64 0,.int .u64 0,.int .i64 0,.int .i64 0,.int .i64 0,.int .i64 0].toArray 59)) b W 0):=H0.out.below (Go.Joins.below_alloc1 _ _)
 have Z0:Hid (Blk (w.alloc (.cells [.int .i64 0,.int .i64 0,.int .i64 0,.bool false,.bool false,.bool false,.int .u64 0,.int .i64 0,.int .u64 0,.int .i64 0,.int .i64 0,.int .i64 0,.int .i64 0].toArray 59)) w.heap.size [.int .i64 0,.int .i64 0,.int .i64 0,.bool false,.bool false,.bool false,.int .u64 0,.int .i64 0,.int .u64 0,.int .i64 0,.int .i64 0,.int .i64 0,.int .i64 0] 59):=Blk.made w _ _
 have K0:Hid (Kb b w (w.alloc (.cells [.int .i64 0,.int .i64 0,.int .i64 0,.bool false,.bool false,.bool false,.int .u64 0,.int .i64 0,.int .u64 0,.int .i64 0,.int .i64 0,.int .i64 0,.int .i64 0].toArray 59))):=kb_alloc b w _
 go_enter Tryz.func24,Tryz.ntmps24
 go_wp2_with fail
 refine (N0.out _ A0.out).mono ?_
 rintro e u0 ⟨rfl,h1,k1⟩
 have A1:Hid (IsR u0 b W 1):=h1
 have K1:Hid (Kb b w u0):=K0.out.trans k1
 have Z1:Hid (Blk u0 w.heap.size [.int .i64 0,.int .i64 0,.int .i64 0,.bool false,.bool false,.bool false,.int .u64 0,.int .i64 0,.int .u64 0,.int .i64 0,.int .i64 0,.int .i64 0,.int .i64 0] 59):=Z0.out.kb k1 (by omega)
 clear h1 k1 A0 K0 Z0
 have y4:w.heap.size<u0.heap.size:=blk_lt Z1.out
 go_wp2_with fail
 have A2:Hid (IsR (u0.alloc (.cells #[.int .i64 1,.int .i64 0,.int .i64 0,.bool false,.bool false,.bool false,.int .u64 0,.int .i64 0,.int .u64 0,.int .i64 0,.int .i64 0,.int .i64 0,.int .i64 0] 59)) b W 1):=A1.out.below (Go.Joins.below_alloc1 _ _)
 have K2:Hid (Kb b w (u0.alloc (.cells #[.int .i64 1,.int .i64 0,.int .i64 0,.bool false,.bool false,.bool false,.int .u64 0,.int .i64 0,.int .u64 0,.int .i64 0,.int .i64 0,.int .i64 0,.int .i64 0] 59))):=K1.out.trans (kb_alloc b u0 _)
 have R2:Hid (Blk (u0.alloc (.cells #[.int .i64 1,.int .i64 0,.int .i64 0,.bool false,.bool false,.bool false,.int .u64 0,.int .i64 0,.int .u64 0,.int .i64 0,.int .i64 0,.int .i64 0,.int .i64 0] 59)) w.heap.size [.int .i64 0,.int .i64 0,.int .i64 0,.bool false,.bool false,.bool false,.int .u64 0,.int .i64 0,.int .u64 0,.int .i64 0,.int .i64 0,.int .i64 0,.int .i64 0] 59):=Z1.out.below (Go.Joins.below_alloc1 _ _)
 have C2:Hid (Blk (u0.alloc (.cells #[.int .i64 1,.int .i64 0,.int .i64 0,.bool false,.bool false,.bool false,.int .u64 0,.int .i64 0,.int .u64 0,.int .i64 0,.int .i64 0,.int .i64 0,.int .i64 0] 59)) u0.heap.size [.int .i64 1,.int .i64 0,.int .i64 0,.bool false,.bool false,.bool false,.int .u64 0,.int .i64 0,.int .u64 0,.int .i64 0,.int .i64 0,.int .i64 0,.int .i64 0] 59):=Blk.made u0 _ _
 refine (N1.out _ A2.out).mono ?_
 rintro e u1 ⟨rfl,h1,k1⟩
 have B2:Hid (IsR u1 b W 3):=h1
 have J2:Hid (Kb b w u1):=K2.out.trans k1
 have S2:Hid (Blk u1 w.heap.size [.int .i64 0,.int .i64 0,.int .i64 0,.bool false,.bool false,.bool false,.int .u64 0,.int .i64 0,.int .u64 0,.int .i64 0,.int .i64 0,.int .i64 0,.int .i64 0] 59):=R2.out.kb k1 (by omega)
 have D2:Hid (Blk u1 u0.heap.size [.int .i64 1,.int .i64 0,.int .i64 0,.bool false,.bool false,.bool false,.int .u64 0,.int .i64 0,.int .u64 0,.int .i64 0,.int .i64 0,.int .i64 0,.int .i64 0] 59):=C2.out.kb k1 (by omega)
 have ll2:u0.heap.size<u1.heap.size:=blk_lt D2.out
 clear h1 k1 A2 K2 R2 C2
 have c0_1:u1.cell? ⟨u0.heap.size,1,none⟩=some (.int .i64 0):=D2.out.cell 1
 have f0_1:u1.frozen? ⟨u0.heap.size,1,none⟩=false:=D2.out.free 1
 have c0_2:u1.cell? ⟨u0.heap.size,2,none⟩=some (.int .i64 0):=D2.out.cell 2
 have f0_2:u1.frozen? ⟨u0.heap.size,2,none⟩=false:=D2.out.free 2
 go_wp2_with fail
 have A3:Hid (IsR ((u1.setCell ⟨u0.heap.size,1,none⟩ (.int .i64 x1)).setCell ⟨u0.heap.size,2,none⟩ (.int .i64 (x1+x2))) b W 3):=((B2.out.blk.far 1 (.int .i64 x1) (c:=u0.heap.size) (by omega)).far 2 (.int .i64 (x1+x2)) (c:=u0.heap.size) (by omega))
 have K3:Hid (Kb b w ((u1.setCell ⟨u0.heap.size,1,none⟩ (.int .i64 x1)).setCell ⟨u0.heap.size,2,none⟩ (.int .i64 (x1+x2)))):=(kb_set (kb_set J2.out (by omega) 1 (.int .i64 x1)) (by omega) 2 (.int .i64 (x1+x2)))
 have R3:Hid (Blk ((u1.setCell ⟨u0.heap.size,1,none⟩ (.int .i64 x1)).setCell ⟨u0.heap.size,2,none⟩ (.int .i64 (x1+x2))) w.heap.size [.int .i64 0,.int .i64 0,.int .i64 0,.bool false,.bool false,.bool false,.int .u64 0,.int .i64 0,.int .u64 0,.int .i64 0,.int .i64 0,.int .i64 0,.int .i64 0] 59):=((S2.out.far 1 (.int .i64 x1) (by omega)).far 2 (.int .i64 (x1+x2)) (by omega))
 have C3:Hid (Blk ((u1.setCell ⟨u0.heap.size,1,none⟩ (.int .i64 x1)).setCell ⟨u0.heap.size,2,none⟩ (.int .i64 (x1+x2))) u0.heap.size [.int .i64 1,.int .i64 x1,.int .i64 (x1+x2),.bool false,.bool false,.bool false,.int .u64 0,.int .i64 0,.int .u64 0,.int .i64 0,.int .i64 0,.int .i64 0,.int .i64 0] 59):=((D2.out.set 1 (.int .i64 x1)).set 2 (.int .i64 (x1+x2)))
 refine (N2.out _ A3.out).mono ?_
 rintro e u2 ⟨rfl,h1,k1⟩
 have B3:Hid (IsR u2 b W 4):=h1
 have J3:Hid (Kb b w u2):=K3.out.trans k1
 have S3:Hid (Blk u2 w.heap.size [.int .i64 0,.int .i64 0,.int .i64 0,.bool false,.bool false,.bool false,.int .u64 0,.int .i64 0,.int .u64 0,.int .i64 0,.int .i64 0,.int .i64 0,.int .i64 0] 59):=R3.out.kb k1 (by omega)
 have D3:Hid (Blk u2 u0.heap.size [.int .i64 1,.int .i64 x1,.int .i64 (x1+x2),.bool false,.bool false,.bool false,.int .u64 0,.int .i64 0,.int .u64 0,.int .i64 0,.int .i64 0,.int .i64 0,.int .i64 0] 59):=C3.out.kb k1 (by omega)
 have ll3:u0.heap.size<u2.heap.size:=blk_lt D3.out
 clear h1 k1 A3 K3 R3 C3
 have c1_3:u2.cell? ⟨u0.heap.size,3,none⟩=some (.bool false):=D3.out.cell 3
 have f1_3:u2.frozen? ⟨u0.heap.size,3,none⟩=false:=D3.out.free 3
 have c1_4:u2.cell? ⟨u0.heap.size,4,none⟩=some (.bool false):=D3.out.cell 4
 have f1_4:u2.frozen? ⟨u0.heap.size,4,none⟩=false:=D3.out.free 4
 have c1_5:u2.cell? ⟨u0.heap.size,5,none⟩=some (.bool false):=D3.out.cell 5
 have f1_5:u2.frozen? ⟨u0.heap.size,5,none⟩=false:=D3.out.free 5
 go_upto_region 40 with fail
 have AV:Hid (IsR (((u2.setCell ⟨u0.heap.size,3,none⟩ (.bool (permW x3))).setCell ⟨u0.heap.size,4,none⟩ (.bool true)).setCell ⟨u0.heap.size,5,none⟩ (.bool (permX x3))) b W 4):=(((B3.out.blk.far 3 (.bool (permW x3)) (c:=u0.heap.size) (by omega)).far 4 (.bool true) (c:=u0.heap.size) (by omega)).far 5 (.bool (permX x3)) (c:=u0.heap.size) (by omega))
 have KV:Hid (Kb b w (((u2.setCell ⟨u0.heap.size,3,none⟩ (.bool (permW x3))).setCell ⟨u0.heap.size,4,none⟩ (.bool true)).setCell ⟨u0.heap.size,5,none⟩ (.bool (permX x3)))):=(kb_set (kb_set (kb_set J3.out (by omega) 3 (.bool (permW x3))) (by omega) 4 (.bool true)) (by omega) 5 (.bool (permX x3)))
 have ZR:Hid (Blk (((u2.setCell ⟨u0.heap.size,3,none⟩ (.bool (permW x3))).setCell ⟨u0.heap.size,4,none⟩ (.bool true)).setCell ⟨u0.heap.size,5,none⟩ (.bool (permX x3))) w.heap.size [.int .i64 0,.int .i64 0,.int .i64 0,.bool false,.bool false,.bool false,.int .u64 0,.int .i64 0,.int .u64 0,.int .i64 0,.int .i64 0,.int .i64 0,.int .i64 0] 59):=(((S3.out.far 3 (.bool (permW x3)) (by omega)).far 4 (.bool true) (by omega)).far 5 (.bool (permX x3)) (by omega))
 have ZV:Hid (Blk (((u2.setCell ⟨u0.heap.size,3,none⟩ (.bool (permW x3))).setCell ⟨u0.heap.size,4,none⟩ (.bool true)).setCell ⟨u0.heap.size,5,none⟩ (.bool (permX x3))) u0.heap.size [.int .i64 1,.int .i64 x1,.int .i64 (x1+x2),.bool (permW x3),.bool true,.bool (permX x3),.int .u64 0,.int .i64 0,.int .u64 0,.int .i64 0,.int .i64 0,.int .i64 0,.int .i64 0] 59):=(((D3.out.set 3 (.bool (permW x3))).set 4 (.bool true)).set 5 (.bool (permX x3)))
 generalize (((u2.setCell ⟨u0.heap.size,3,none⟩ (.bool (permW x3))).setCell ⟨u0.heap.size,4,none⟩ (.bool true)).setCell ⟨u0.heap.size,5,none⟩ (.bool (permX x3)))=V at AV KV ZR ZV |-
 refine wp_region_lit ?_
 refine load_pat (u0.heap.size) 0 [.int .i64 1,.int .i64 x1,.int .i64 (x1+x2),.bool (permW x3),.bool true,.bool (permX x3),.int .u64 0,.int .i64 0,.int .u64 0,.int .i64 0,.int .i64 0,.int .i64 0,.int .i64 0] _ rfl ZV.out.range Tryz.underlying59 rfl call_info ?_
 refine store_pat w.heap.size 0 #[.int .i64 1,.int .i64 x1,.int .i64 (x1+x2),.bool (permW x3),.bool true,.bool (permX x3),.int .u64 0,.int .i64 0,.int .u64 0,.int .i64 0,.int .i64 0,.int .i64 0,.int .i64 0] rfl rfl ZR.out.there call_info (by simp [Value.oneCell']) ?_
 have RV:Hid ((V.setCells w.heap.size 0 ((#[.int .i64 1,.int .i64 x1,.int .i64 (x1+x2),.bool (permW x3),.bool true,.bool (permX x3),.int .u64 0,.int .i64 0,.int .u64 0,.int .i64 0,.int .i64 0,.int .i64 0,.int .i64 0]:Array Value).toList)).rangeAt w.heap.size 0 [.int .i64 1,.int .i64 x1,.int .i64 (x1+x2),.bool (permW x3),.bool true,.bool (permX x3),.int .u64 0,.int .i64 0,.int .u64 0,.int .i64 0,.int .i64 0,.int .i64 0,.int .i64 0]):=World.rangeAt_setCells_same _ w.heap.size 0 [.int .i64 1,.int .i64 x1,.int .i64 (x1+x2),.bool (permW x3),.bool true,.bool (permX x3),.int .u64 0,.int .i64 0,.int .u64 0,.int .i64 0,.int .i64 0,.int .i64 0,.int .i64 0] (show V.there w.heap.size 0 13 from ZR.out.there)
 have AV2:Hid (IsR (V.setCells w.heap.size 0 ((#[.int .i64 1,.int .i64 x1,.int .i64 (x1+x2),.bool (permW x3),.bool true,.bool (permX x3),.int .u64 0,.int .i64 0,.int .u64 0,.int .i64 0,.int .i64 0,.int .i64 0,.int .i64 0]:Array Value).toList)) b W 4):=AV.out.scs (by omega) _ _
 have KV2:Hid (Kb b w (V.setCells w.heap.size 0 ((#[.int .i64 1,.int .i64 x1,.int .i64 (x1+x2),.bool (permW x3),.bool true,.bool (permX x3),.int .u64 0,.int .i64 0,.int .u64 0,.int .i64 0,.int .i64 0,.int .i64 0,.int .i64 0]:Array Value).toList))):=kb_scs KV.out (Nat.le_refl _) _ _
 generalize V.setCells w.heap.size 0 ((#[.int .i64 1,.int .i64 x1,.int .i64 (x1+x2),.bool (permW x3),.bool true,.bool (permX x3),.int .u64 0,.int .i64 0,.int .u64 0,.int .i64 0,.int .i64 0,.int .i64 0,.int .i64 0]:Array Value).toList)=V2 at RV AV2 KV2 |-
 clear AV KV ZR ZV
 go_wp2_with fail
 have hr:=run_loadVar_mid (P:=Tryz.prog) V2 w.heap.size 0 59 [.int .i64 1,.int .i64 x1,.int .i64 (x1+x2),.bool (permW x3),.bool true,.bool (permX x3),.int .u64 0,.int .i64 0,.int .u64 0,.int .i64 0,.int .i64 0,.int .i64 0,.int .i64 0] _ RV.out Tryz.underlying59 rfl call_info
 refine bodyPost_ret (v:=.agg #[.int .i64 1,.int .i64 x1,.int .i64 (x1+x2),.bool (permW x3),.bool true,.bool (permX x3),.int .u64 0,.int .i64 0,.int .u64 0,.int .i64 0,.int .i64 0,.int .i64 0,.int .i64 0]) ?_ rfl ⟨rfl,AV2.out,KV2.out⟩
 exact results_one Tryz.results24 _ _ _ _ _ rfl hr
set_option maxHeartbeats 4000000 in
theorem call2 (b:Nat) (W:Wd) (hw:W.wf) (h0:W.at 0=2) (l1:(pagesOk (W.at 1) (W.at 2))) (w:World) (h:IsR w b W 0):Calls Tryz.prog 24 #[.pointer (some ⟨b,0,none⟩)] w fun e w'=>e=.returned (.agg #[.int .i64 2,.int .i64 (W.at 1),.int .i64 (W.at 1+W.at 2),.bool false,.bool false,.bool false,.int .u64 0,.int .i64 0,.int .u64 0,.int .i64 0,.int .i64 0,.int .i64 0,.int .i64 0])/\IsR w' b W 3/\Kb b w w':=by
 have N0:Hid (∀ w:World,IsR w b W (0)->Calls Tryz.prog 37 #[.pointer (some ⟨b,0,none⟩),.int .u64 17] w fun e w'=>e=.returned (.int .i64 (W.at (0)))/\IsR w' b W (0+1)/\Kb b w w'):=fun w h=>number_yes b W (0) (by omega) hw 17 (by omega) (by omega) w h
 rw [h0] at N0
 have N1:Hid (∀ w:World,IsR w b W (1)->Calls Tryz.prog 38 #[.pointer (some ⟨b,0,none⟩)] w fun e w'=>e=.returned (.agg #[.int .i64 (W.at 1),.int .i64 (W.at 1+W.at 2)])/\IsR w' b W (3)/\Kb b w w'):=fun w h=>pages_yes b W 1 (by omega) hw l1 w h
 have p1:=(hw 1).1
 have H0:Hid (IsR w b W 0):=h
 have lt0:=blk_lt h
 clear h hw h0
 generalize W.at 1=x1 at *
 generalize W.at 2=x2 at *
 have A0:Hid (IsR (w.alloc (.cells [.int .i64 0,.int .i64 0,.int .i64 0,.bool false,.bool false,.bool false,.int .u64 0,.int .i64 0,.int .u64 0,.int .i64 0,.int .i64 0,.int .i64 0,.int .i64 0].toArray 59)) b W 0):=H0.out.below (Go.Joins.below_alloc1 _ _)
 have Z0:Hid (Blk (w.alloc (.cells [.int .i64 0,.int .i64 0,.int .i64 0,.bool false,.bool false,.bool false,.int .u64 0,.int .i64 0,.int .u64 0,.int .i64 0,.int .i64 0,.int .i64 0,.int .i64 0].toArray 59)) w.heap.size [.int .i64 0,.int .i64 0,.int .i64 0,.bool false,.bool false,.bool false,.int .u64 0,.int .i64 0,.int .u64 0,.int .i64 0,.int .i64 0,.int .i64 0,.int .i64 0] 59):=Blk.made w _ _
 have K0:Hid (Kb b w (w.alloc (.cells [.int .i64 0,.int .i64 0,.int .i64 0,.bool false,.bool false,.bool false,.int .u64 0,.int .i64 0,.int .u64 0,.int .i64 0,.int .i64 0,.int .i64 0,.int .i64 0].toArray 59))):=kb_alloc b w _
 go_enter Tryz.func24,Tryz.ntmps24
 go_wp2_with fail
 refine (N0.out _ A0.out).mono ?_
 rintro e u0 ⟨rfl,h1,k1⟩
 have A1:Hid (IsR u0 b W 1):=h1
 have K1:Hid (Kb b w u0):=K0.out.trans k1
 have Z1:Hid (Blk u0 w.heap.size [.int .i64 0,.int .i64 0,.int .i64 0,.bool false,.bool false,.bool false,.int .u64 0,.int .i64 0,.int .u64 0,.int .i64 0,.int .i64 0,.int .i64 0,.int .i64 0] 59):=Z0.out.kb k1 (by omega)
 clear h1 k1 A0 K0 Z0
 have y4:w.heap.size<u0.heap.size:=blk_lt Z1.out
 go_wp2_with fail
 have A2:Hid (IsR (u0.alloc (.cells #[.int .i64 2,.int .i64 0,.int .i64 0,.bool false,.bool false,.bool false,.int .u64 0,.int .i64 0,.int .u64 0,.int .i64 0,.int .i64 0,.int .i64 0,.int .i64 0] 59)) b W 1):=A1.out.below (Go.Joins.below_alloc1 _ _)
 have K2:Hid (Kb b w (u0.alloc (.cells #[.int .i64 2,.int .i64 0,.int .i64 0,.bool false,.bool false,.bool false,.int .u64 0,.int .i64 0,.int .u64 0,.int .i64 0,.int .i64 0,.int .i64 0,.int .i64 0] 59))):=K1.out.trans (kb_alloc b u0 _)
 have R2:Hid (Blk (u0.alloc (.cells #[.int .i64 2,.int .i64 0,.int .i64 0,.bool false,.bool false,.bool false,.int .u64 0,.int .i64 0,.int .u64 0,.int .i64 0,.int .i64 0,.int .i64 0,.int .i64 0] 59)) w.heap.size [.int .i64 0,.int .i64 0,.int .i64 0,.bool false,.bool false,.bool false,.int .u64 0,.int .i64 0,.int .u64 0,.int .i64 0,.int .i64 0,.int .i64 0,.int .i64 0] 59):=Z1.out.below (Go.Joins.below_alloc1 _ _)
 have C2:Hid (Blk (u0.alloc (.cells #[.int .i64 2,.int .i64 0,.int .i64 0,.bool false,.bool false,.bool false,.int .u64 0,.int .i64 0,.int .u64 0,.int .i64 0,.int .i64 0,.int .i64 0,.int .i64 0] 59)) u0.heap.size [.int .i64 2,.int .i64 0,.int .i64 0,.bool false,.bool false,.bool false,.int .u64 0,.int .i64 0,.int .u64 0,.int .i64 0,.int .i64 0,.int .i64 0,.int .i64 0] 59):=Blk.made u0 _ _
 refine (N1.out _ A2.out).mono ?_
 rintro e u1 ⟨rfl,h1,k1⟩
 have B2:Hid (IsR u1 b W 3):=h1
 have J2:Hid (Kb b w u1):=K2.out.trans k1
 have S2:Hid (Blk u1 w.heap.size [.int .i64 0,.int .i64 0,.int .i64 0,.bool false,.bool false,.bool false,.int .u64 0,.int .i64 0,.int .u64 0,.int .i64 0,.int .i64 0,.int .i64 0,.int .i64 0] 59):=R2.out.kb k1 (by omega)
 have D2:Hid (Blk u1 u0.heap.size [.int .i64 2,.int .i64 0,.int .i64 0,.bool false,.bool false,.bool false,.int .u64 0,.int .i64 0,.int .u64 0,.int .i64 0,.int .i64 0,.int .i64 0,.int .i64 0] 59):=C2.out.kb k1 (by omega)
 have ll2:u0.heap.size<u1.heap.size:=blk_lt D2.out
 clear h1 k1 A2 K2 R2 C2
 have c0_1:u1.cell? ⟨u0.heap.size,1,none⟩=some (.int .i64 0):=D2.out.cell 1
 have f0_1:u1.frozen? ⟨u0.heap.size,1,none⟩=false:=D2.out.free 1
 have c0_2:u1.cell? ⟨u0.heap.size,2,none⟩=some (.int .i64 0):=D2.out.cell 2
 have f0_2:u1.frozen? ⟨u0.heap.size,2,none⟩=false:=D2.out.free 2
 go_upto_region 40 with fail
 have AV:Hid (IsR ((u1.setCell ⟨u0.heap.size,1,none⟩ (.int .i64 x1)).setCell ⟨u0.heap.size,2,none⟩ (.int .i64 (x1+x2))) b W 3):=((B2.out.blk.far 1 (.int .i64 x1) (c:=u0.heap.size) (by omega)).far 2 (.int .i64 (x1+x2)) (c:=u0.heap.size) (by omega))
 have KV:Hid (Kb b w ((u1.setCell ⟨u0.heap.size,1,none⟩ (.int .i64 x1)).setCell ⟨u0.heap.size,2,none⟩ (.int .i64 (x1+x2)))):=(kb_set (kb_set J2.out (by omega) 1 (.int .i64 x1)) (by omega) 2 (.int .i64 (x1+x2)))
 have ZR:Hid (Blk ((u1.setCell ⟨u0.heap.size,1,none⟩ (.int .i64 x1)).setCell ⟨u0.heap.size,2,none⟩ (.int .i64 (x1+x2))) w.heap.size [.int .i64 0,.int .i64 0,.int .i64 0,.bool false,.bool false,.bool false,.int .u64 0,.int .i64 0,.int .u64 0,.int .i64 0,.int .i64 0,.int .i64 0,.int .i64 0] 59):=((S2.out.far 1 (.int .i64 x1) (by omega)).far 2 (.int .i64 (x1+x2)) (by omega))
 have ZV:Hid (Blk ((u1.setCell ⟨u0.heap.size,1,none⟩ (.int .i64 x1)).setCell ⟨u0.heap.size,2,none⟩ (.int .i64 (x1+x2))) u0.heap.size [.int .i64 2,.int .i64 x1,.int .i64 (x1+x2),.bool false,.bool false,.bool false,.int .u64 0,.int .i64 0,.int .u64 0,.int .i64 0,.int .i64 0,.int .i64 0,.int .i64 0] 59):=((D2.out.set 1 (.int .i64 x1)).set 2 (.int .i64 (x1+x2)))
 generalize ((u1.setCell ⟨u0.heap.size,1,none⟩ (.int .i64 x1)).setCell ⟨u0.heap.size,2,none⟩ (.int .i64 (x1+x2)))=V at AV KV ZR ZV |-
 refine wp_region_lit ?_
 refine load_pat (u0.heap.size) 0 [.int .i64 2,.int .i64 x1,.int .i64 (x1+x2),.bool false,.bool false,.bool false,.int .u64 0,.int .i64 0,.int .u64 0,.int .i64 0,.int .i64 0,.int .i64 0,.int .i64 0] _ rfl ZV.out.range Tryz.underlying59 rfl call_info ?_
 refine store_pat w.heap.size 0 #[.int .i64 2,.int .i64 x1,.int .i64 (x1+x2),.bool false,.bool false,.bool false,.int .u64 0,.int .i64 0,.int .u64 0,.int .i64 0,.int .i64 0,.int .i64 0,.int .i64 0] rfl rfl ZR.out.there call_info (by simp [Value.oneCell']) ?_
 have RV:Hid ((V.setCells w.heap.size 0 ((#[.int .i64 2,.int .i64 x1,.int .i64 (x1+x2),.bool false,.bool false,.bool false,.int .u64 0,.int .i64 0,.int .u64 0,.int .i64 0,.int .i64 0,.int .i64 0,.int .i64 0]:Array Value).toList)).rangeAt w.heap.size 0 [.int .i64 2,.int .i64 x1,.int .i64 (x1+x2),.bool false,.bool false,.bool false,.int .u64 0,.int .i64 0,.int .u64 0,.int .i64 0,.int .i64 0,.int .i64 0,.int .i64 0]):=World.rangeAt_setCells_same _ w.heap.size 0 [.int .i64 2,.int .i64 x1,.int .i64 (x1+x2),.bool false,.bool false,.bool false,.int .u64 0,.int .i64 0,.int .u64 0,.int .i64 0,.int .i64 0,.int .i64 0,.int .i64 0] (show V.there w.heap.size 0 13 from ZR.out.there)
 have AV2:Hid (IsR (V.setCells w.heap.size 0 ((#[.int .i64 2,.int .i64 x1,.int .i64 (x1+x2),.bool false,.bool false,.bool false,.int .u64 0,.int .i64 0,.int .u64 0,.int .i64 0,.int .i64 0,.int .i64 0,.int .i64 0]:Array Value).toList)) b W 3):=AV.out.scs (by omega) _ _
 have KV2:Hid (Kb b w (V.setCells w.heap.size 0 ((#[.int .i64 2,.int .i64 x1,.int .i64 (x1+x2),.bool false,.bool false,.bool false,.int .u64 0,.int .i64 0,.int .u64 0,.int .i64 0,.int .i64 0,.int .i64 0,.int .i64 0]:Array Value).toList))):=kb_scs KV.out (Nat.le_refl _) _ _
 generalize V.setCells w.heap.size 0 ((#[.int .i64 2,.int .i64 x1,.int .i64 (x1+x2),.bool false,.bool false,.bool false,.int .u64 0,.int .i64 0,.int .u64 0,.int .i64 0,.int .i64 0,.int .i64 0,.int .i64 0]:Array Value).toList)=V2 at RV AV2 KV2 |-
 clear AV KV ZR ZV
 go_wp2_with fail
 have hr:=run_loadVar_mid (P:=Tryz.prog) V2 w.heap.size 0 59 [.int .i64 2,.int .i64 x1,.int .i64 (x1+x2),.bool false,.bool false,.bool false,.int .u64 0,.int .i64 0,.int .u64 0,.int .i64 0,.int .i64 0,.int .i64 0,.int .i64 0] _ RV.out Tryz.underlying59 rfl call_info
 refine bodyPost_ret (v:=.agg #[.int .i64 2,.int .i64 x1,.int .i64 (x1+x2),.bool false,.bool false,.bool false,.int .u64 0,.int .i64 0,.int .u64 0,.int .i64 0,.int .i64 0,.int .i64 0,.int .i64 0]) ?_ rfl ⟨rfl,AV2.out,KV2.out⟩
 exact results_one Tryz.results24 _ _ _ _ _ rfl hr
set_option maxHeartbeats 4000000 in
theorem call3 (b:Nat) (W:Wd) (hw:W.wf) (h0:W.at 0=3) (l1:(pagesOk (W.at 1) (W.at 2))) (l2:(W.at 3<4)) (w:World) (h:IsR w b W 0):Calls Tryz.prog 24 #[.pointer (some ⟨b,0,none⟩)] w fun e w'=>e=.returned (.agg #[.int .i64 3,.int .i64 (W.at 1),.int .i64 (W.at 1+W.at 2),.bool (permW (W.at 3)),.bool true,.bool (permX (W.at 3)),.int .u64 0,.int .i64 0,.int .u64 0,.int .i64 0,.int .i64 0,.int .i64 0,.int .i64 0])/\IsR w' b W 4/\Kb b w w':=by
 have N0:Hid (∀ w:World,IsR w b W (0)->Calls Tryz.prog 37 #[.pointer (some ⟨b,0,none⟩),.int .u64 17] w fun e w'=>e=.returned (.int .i64 (W.at (0)))/\IsR w' b W (0+1)/\Kb b w w'):=fun w h=>number_yes b W (0) (by omega) hw 17 (by omega) (by omega) w h
 rw [h0] at N0
 have N1:Hid (∀ w:World,IsR w b W (1)->Calls Tryz.prog 38 #[.pointer (some ⟨b,0,none⟩)] w fun e w'=>e=.returned (.agg #[.int .i64 (W.at 1),.int .i64 (W.at 1+W.at 2)])/\IsR w' b W (3)/\Kb b w w'):=fun w h=>pages_yes b W 1 (by omega) hw l1 w h
 have N2:Hid (∀ w:World,IsR w b W (3)->Calls Tryz.prog 39 #[.pointer (some ⟨b,0,none⟩)] w fun e w'=>e=.returned (.agg #[.bool (permW (W.at 3)),.bool true,.bool (permX (W.at 3))])/\IsR w' b W (4)/\Kb b w w'):=fun w h=>perm_yes b W 3 (by omega) hw l2 w h
 have p1:=(hw 1).1
 have H0:Hid (IsR w b W 0):=h
 have lt0:=blk_lt h
 clear h hw h0
 generalize W.at 1=x1 at *
 generalize W.at 2=x2 at *
 generalize W.at 3=x3 at *
 have A0:Hid (IsR (w.alloc (.cells [.int .i64 0,.int .i64 0,.int .i64 0,.bool false,.bool false,.bool false,.int .u64 0,.int .i64 0,.int .u64 0,.int .i64 0,.int .i64 0,.int .i64 0,.int .i64 0].toArray 59)) b W 0):=H0.out.below (Go.Joins.below_alloc1 _ _)
 have Z0:Hid (Blk (w.alloc (.cells [.int .i64 0,.int .i64 0,.int .i64 0,.bool false,.bool false,.bool false,.int .u64 0,.int .i64 0,.int .u64 0,.int .i64 0,.int .i64 0,.int .i64 0,.int .i64 0].toArray 59)) w.heap.size [.int .i64 0,.int .i64 0,.int .i64 0,.bool false,.bool false,.bool false,.int .u64 0,.int .i64 0,.int .u64 0,.int .i64 0,.int .i64 0,.int .i64 0,.int .i64 0] 59):=Blk.made w _ _
 have K0:Hid (Kb b w (w.alloc (.cells [.int .i64 0,.int .i64 0,.int .i64 0,.bool false,.bool false,.bool false,.int .u64 0,.int .i64 0,.int .u64 0,.int .i64 0,.int .i64 0,.int .i64 0,.int .i64 0].toArray 59))):=kb_alloc b w _
 go_enter Tryz.func24,Tryz.ntmps24
 go_wp2_with fail
 refine (N0.out _ A0.out).mono ?_
 rintro e u0 ⟨rfl,h1,k1⟩
 have A1:Hid (IsR u0 b W 1):=h1
 have K1:Hid (Kb b w u0):=K0.out.trans k1
 have Z1:Hid (Blk u0 w.heap.size [.int .i64 0,.int .i64 0,.int .i64 0,.bool false,.bool false,.bool false,.int .u64 0,.int .i64 0,.int .u64 0,.int .i64 0,.int .i64 0,.int .i64 0,.int .i64 0] 59):=Z0.out.kb k1 (by omega)
 clear h1 k1 A0 K0 Z0
 have y4:w.heap.size<u0.heap.size:=blk_lt Z1.out
 go_wp2_with fail
 have A2:Hid (IsR (u0.alloc (.cells #[.int .i64 3,.int .i64 0,.int .i64 0,.bool false,.bool false,.bool false,.int .u64 0,.int .i64 0,.int .u64 0,.int .i64 0,.int .i64 0,.int .i64 0,.int .i64 0] 59)) b W 1):=A1.out.below (Go.Joins.below_alloc1 _ _)
 have K2:Hid (Kb b w (u0.alloc (.cells #[.int .i64 3,.int .i64 0,.int .i64 0,.bool false,.bool false,.bool false,.int .u64 0,.int .i64 0,.int .u64 0,.int .i64 0,.int .i64 0,.int .i64 0,.int .i64 0] 59))):=K1.out.trans (kb_alloc b u0 _)
 have R2:Hid (Blk (u0.alloc (.cells #[.int .i64 3,.int .i64 0,.int .i64 0,.bool false,.bool false,.bool false,.int .u64 0,.int .i64 0,.int .u64 0,.int .i64 0,.int .i64 0,.int .i64 0,.int .i64 0] 59)) w.heap.size [.int .i64 0,.int .i64 0,.int .i64 0,.bool false,.bool false,.bool false,.int .u64 0,.int .i64 0,.int .u64 0,.int .i64 0,.int .i64 0,.int .i64 0,.int .i64 0] 59):=Z1.out.below (Go.Joins.below_alloc1 _ _)
 have C2:Hid (Blk (u0.alloc (.cells #[.int .i64 3,.int .i64 0,.int .i64 0,.bool false,.bool false,.bool false,.int .u64 0,.int .i64 0,.int .u64 0,.int .i64 0,.int .i64 0,.int .i64 0,.int .i64 0] 59)) u0.heap.size [.int .i64 3,.int .i64 0,.int .i64 0,.bool false,.bool false,.bool false,.int .u64 0,.int .i64 0,.int .u64 0,.int .i64 0,.int .i64 0,.int .i64 0,.int .i64 0] 59):=Blk.made u0 _ _
 refine (N1.out _ A2.out).mono ?_
 rintro e u1 ⟨rfl,h1,k1⟩
 have B2:Hid (IsR u1 b W 3):=h1
 have J2:Hid (Kb b w u1):=K2.out.trans k1
 have S2:Hid (Blk u1 w.heap.size [.int .i64 0,.int .i64 0,.int .i64 0,.bool false,.bool false,.bool false,.int .u64 0,.int .i64 0,.int .u64 0,.int .i64 0,.int .i64 0,.int .i64 0,.int .i64 0] 59):=R2.out.kb k1 (by omega)
 have D2:Hid (Blk u1 u0.heap.size [.int .i64 3,.int .i64 0,.int .i64 0,.bool false,.bool false,.bool false,.int .u64 0,.int .i64 0,.int .u64 0,.int .i64 0,.int .i64 0,.int .i64 0,.int .i64 0] 59):=C2.out.kb k1 (by omega)
 have ll2:u0.heap.size<u1.heap.size:=blk_lt D2.out
 clear h1 k1 A2 K2 R2 C2
 have c0_1:u1.cell? ⟨u0.heap.size,1,none⟩=some (.int .i64 0):=D2.out.cell 1
 have f0_1:u1.frozen? ⟨u0.heap.size,1,none⟩=false:=D2.out.free 1
 have c0_2:u1.cell? ⟨u0.heap.size,2,none⟩=some (.int .i64 0):=D2.out.cell 2
 have f0_2:u1.frozen? ⟨u0.heap.size,2,none⟩=false:=D2.out.free 2
 go_wp2_with fail
 have A3:Hid (IsR ((u1.setCell ⟨u0.heap.size,1,none⟩ (.int .i64 x1)).setCell ⟨u0.heap.size,2,none⟩ (.int .i64 (x1+x2))) b W 3):=((B2.out.blk.far 1 (.int .i64 x1) (c:=u0.heap.size) (by omega)).far 2 (.int .i64 (x1+x2)) (c:=u0.heap.size) (by omega))
 have K3:Hid (Kb b w ((u1.setCell ⟨u0.heap.size,1,none⟩ (.int .i64 x1)).setCell ⟨u0.heap.size,2,none⟩ (.int .i64 (x1+x2)))):=(kb_set (kb_set J2.out (by omega) 1 (.int .i64 x1)) (by omega) 2 (.int .i64 (x1+x2)))
 have R3:Hid (Blk ((u1.setCell ⟨u0.heap.size,1,none⟩ (.int .i64 x1)).setCell ⟨u0.heap.size,2,none⟩ (.int .i64 (x1+x2))) w.heap.size [.int .i64 0,.int .i64 0,.int .i64 0,.bool false,.bool false,.bool false,.int .u64 0,.int .i64 0,.int .u64 0,.int .i64 0,.int .i64 0,.int .i64 0,.int .i64 0] 59):=((S2.out.far 1 (.int .i64 x1) (by omega)).far 2 (.int .i64 (x1+x2)) (by omega))
 have C3:Hid (Blk ((u1.setCell ⟨u0.heap.size,1,none⟩ (.int .i64 x1)).setCell ⟨u0.heap.size,2,none⟩ (.int .i64 (x1+x2))) u0.heap.size [.int .i64 3,.int .i64 x1,.int .i64 (x1+x2),.bool false,.bool false,.bool false,.int .u64 0,.int .i64 0,.int .u64 0,.int .i64 0,.int .i64 0,.int .i64 0,.int .i64 0] 59):=((D2.out.set 1 (.int .i64 x1)).set 2 (.int .i64 (x1+x2)))
 refine (N2.out _ A3.out).mono ?_
 rintro e u2 ⟨rfl,h1,k1⟩
 have B3:Hid (IsR u2 b W 4):=h1
 have J3:Hid (Kb b w u2):=K3.out.trans k1
 have S3:Hid (Blk u2 w.heap.size [.int .i64 0,.int .i64 0,.int .i64 0,.bool false,.bool false,.bool false,.int .u64 0,.int .i64 0,.int .u64 0,.int .i64 0,.int .i64 0,.int .i64 0,.int .i64 0] 59):=R3.out.kb k1 (by omega)
 have D3:Hid (Blk u2 u0.heap.size [.int .i64 3,.int .i64 x1,.int .i64 (x1+x2),.bool false,.bool false,.bool false,.int .u64 0,.int .i64 0,.int .u64 0,.int .i64 0,.int .i64 0,.int .i64 0,.int .i64 0] 59):=C3.out.kb k1 (by omega)
 have ll3:u0.heap.size<u2.heap.size:=blk_lt D3.out
 clear h1 k1 A3 K3 R3 C3
 have c1_3:u2.cell? ⟨u0.heap.size,3,none⟩=some (.bool false):=D3.out.cell 3
 have f1_3:u2.frozen? ⟨u0.heap.size,3,none⟩=false:=D3.out.free 3
 have c1_4:u2.cell? ⟨u0.heap.size,4,none⟩=some (.bool false):=D3.out.cell 4
 have f1_4:u2.frozen? ⟨u0.heap.size,4,none⟩=false:=D3.out.free 4
 have c1_5:u2.cell? ⟨u0.heap.size,5,none⟩=some (.bool false):=D3.out.cell 5
 have f1_5:u2.frozen? ⟨u0.heap.size,5,none⟩=false:=D3.out.free 5
 go_upto_region 40 with fail
 have AV:Hid (IsR (((u2.setCell ⟨u0.heap.size,3,none⟩ (.bool (permW x3))).setCell ⟨u0.heap.size,4,none⟩ (.bool true)).setCell ⟨u0.heap.size,5,none⟩ (.bool (permX x3))) b W 4):=(((B3.out.blk.far 3 (.bool (permW x3)) (c:=u0.heap.size) (by omega)).far 4 (.bool true) (c:=u0.heap.size) (by omega)).far 5 (.bool (permX x3)) (c:=u0.heap.size) (by omega))
 have KV:Hid (Kb b w (((u2.setCell ⟨u0.heap.size,3,none⟩ (.bool (permW x3))).setCell ⟨u0.heap.size,4,none⟩ (.bool true)).setCell ⟨u0.heap.size,5,none⟩ (.bool (permX x3)))):=(kb_set (kb_set (kb_set J3.out (by omega) 3 (.bool (permW x3))) (by omega) 4 (.bool true)) (by omega) 5 (.bool (permX x3)))
 have ZR:Hid (Blk (((u2.setCell ⟨u0.heap.size,3,none⟩ (.bool (permW x3))).setCell ⟨u0.heap.size,4,none⟩ (.bool true)).setCell ⟨u0.heap.size,5,none⟩ (.bool (permX x3))) w.heap.size [.int .i64 0,.int .i64 0,.int .i64 0,.bool false,.bool false,.bool false,.int .u64 0,.int .i64 0,.int .u64 0,.int .i64 0,.int .i64 0,.int .i64 0,.int .i64 0] 59):=(((S3.out.far 3 (.bool (permW x3)) (by omega)).far 4 (.bool true) (by omega)).far 5 (.bool (permX x3)) (by omega))
 have ZV:Hid (Blk (((u2.setCell ⟨u0.heap.size,3,none⟩ (.bool (permW x3))).setCell ⟨u0.heap.size,4,none⟩ (.bool true)).setCell ⟨u0.heap.size,5,none⟩ (.bool (permX x3))) u0.heap.size [.int .i64 3,.int .i64 x1,.int .i64 (x1+x2),.bool (permW x3),.bool true,.bool (permX x3),.int .u64 0,.int .i64 0,.int .u64 0,.int .i64 0,.int .i64 0,.int .i64 0,.int .i64 0] 59):=(((D3.out.set 3 (.bool (permW x3))).set 4 (.bool true)).set 5 (.bool (permX x3)))
 generalize (((u2.setCell ⟨u0.heap.size,3,none⟩ (.bool (permW x3))).setCell ⟨u0.heap.size,4,none⟩ (.bool true)).setCell ⟨u0.heap.size,5,none⟩ (.bool (permX x3)))=V at AV KV ZR ZV |-
 refine wp_region_lit ?_
 refine load_pat (u0.heap.size) 0 [.int .i64 3,.int .i64 x1,.int .i64 (x1+x2),.bool (permW x3),.bool true,.bool (permX x3),.int .u64 0,.int .i64 0,.int .u64 0,.int .i64 0,.int .i64 0,.int .i64 0,.int .i64 0] _ rfl ZV.out.range Tryz.underlying59 rfl call_info ?_
 refine store_pat w.heap.size 0 #[.int .i64 3,.int .i64 x1,.int .i64 (x1+x2),.bool (permW x3),.bool true,.bool (permX x3),.int .u64 0,.int .i64 0,.int .u64 0,.int .i64 0,.int .i64 0,.int .i64 0,.int .i64 0] rfl rfl ZR.out.there call_info (by simp [Value.oneCell']) ?_
 have RV:Hid ((V.setCells w.heap.size 0 ((#[.int .i64 3,.int .i64 x1,.int .i64 (x1+x2),.bool (permW x3),.bool true,.bool (permX x3),.int .u64 0,.int .i64 0,.int .u64 0,.int .i64 0,.int .i64 0,.int .i64 0,.int .i64 0]:Array Value).toList)).rangeAt w.heap.size 0 [.int .i64 3,.int .i64 x1,.int .i64 (x1+x2),.bool (permW x3),.bool true,.bool (permX x3),.int .u64 0,.int .i64 0,.int .u64 0,.int .i64 0,.int .i64 0,.int .i64 0,.int .i64 0]):=World.rangeAt_setCells_same _ w.heap.size 0 [.int .i64 3,.int .i64 x1,.int .i64 (x1+x2),.bool (permW x3),.bool true,.bool (permX x3),.int .u64 0,.int .i64 0,.int .u64 0,.int .i64 0,.int .i64 0,.int .i64 0,.int .i64 0] (show V.there w.heap.size 0 13 from ZR.out.there)
 have AV2:Hid (IsR (V.setCells w.heap.size 0 ((#[.int .i64 3,.int .i64 x1,.int .i64 (x1+x2),.bool (permW x3),.bool true,.bool (permX x3),.int .u64 0,.int .i64 0,.int .u64 0,.int .i64 0,.int .i64 0,.int .i64 0,.int .i64 0]:Array Value).toList)) b W 4):=AV.out.scs (by omega) _ _
 have KV2:Hid (Kb b w (V.setCells w.heap.size 0 ((#[.int .i64 3,.int .i64 x1,.int .i64 (x1+x2),.bool (permW x3),.bool true,.bool (permX x3),.int .u64 0,.int .i64 0,.int .u64 0,.int .i64 0,.int .i64 0,.int .i64 0,.int .i64 0]:Array Value).toList))):=kb_scs KV.out (Nat.le_refl _) _ _
 generalize V.setCells w.heap.size 0 ((#[.int .i64 3,.int .i64 x1,.int .i64 (x1+x2),.bool (permW x3),.bool true,.bool (permX x3),.int .u64 0,.int .i64 0,.int .u64 0,.int .i64 0,.int .i64 0,.int .i64 0,.int .i64 0]:Array Value).toList)=V2 at RV AV2 KV2 |-
 clear AV KV ZR ZV
 go_wp2_with fail
 have hr:=run_loadVar_mid (P:=Tryz.prog) V2 w.heap.size 0 59 [.int .i64 3,.int .i64 x1,.int .i64 (x1+x2),.bool (permW x3),.bool true,.bool (permX x3),.int .u64 0,.int .i64 0,.int .u64 0,.int .i64 0,.int .i64 0,.int .i64 0,.int .i64 0] _ RV.out Tryz.underlying59 rfl call_info
 refine bodyPost_ret (v:=.agg #[.int .i64 3,.int .i64 x1,.int .i64 (x1+x2),.bool (permW x3),.bool true,.bool (permX x3),.int .u64 0,.int .i64 0,.int .u64 0,.int .i64 0,.int .i64 0,.int .i64 0,.int .i64 0]) ?_ rfl ⟨rfl,AV2.out,KV2.out⟩
 exact results_one Tryz.results24 _ _ _ _ _ rfl hr
set_option maxHeartbeats 4000000 in
theorem call4 (b:Nat) (W:Wd) (hw:W.wf) (h0:W.at 0=4) (l1:(spotOk (W.at 1) (W.at 2))) (w:World) (h:IsR w b W 0):Calls Tryz.prog 24 #[.pointer (some ⟨b,0,none⟩)] w fun e w'=>e=.returned (.agg #[.int .i64 4,.int .i64 0,.int .i64 0,.bool false,.bool false,.bool false,.int .u64 (W.at 1),.int .i64 (W.at 2),.int .u64 0,.int .i64 0,.int .i64 0,.int .i64 0,.int .i64 0])/\IsR w' b W 3/\Kb b w w':=by
 have N0:Hid (∀ w:World,IsR w b W (0)->Calls Tryz.prog 37 #[.pointer (some ⟨b,0,none⟩),.int .u64 17] w fun e w'=>e=.returned (.int .i64 (W.at (0)))/\IsR w' b W (0+1)/\Kb b w w'):=fun w h=>number_yes b W (0) (by omega) hw 17 (by omega) (by omega) w h
 rw [h0] at N0
 have N1:Hid (∀ w:World,IsR w b W (1)->Calls Tryz.prog 40 #[.pointer (some ⟨b,0,none⟩)] w fun e w'=>e=.returned (.tuple #[.int .u64 (W.at 1),.int .i64 (W.at 2)])/\IsR w' b W (3)/\Kb b w w'):=fun w h=>place_yes b W 1 (by omega) hw l1 w h
 have p1:=(hw 1).1
 have H0:Hid (IsR w b W 0):=h
 have lt0:=blk_lt h
 clear h hw h0
 generalize W.at 1=x1 at *
 generalize W.at 2=x2 at *
 have A0:Hid (IsR (w.alloc (.cells [.int .i64 0,.int .i64 0,.int .i64 0,.bool false,.bool false,.bool false,.int .u64 0,.int .i64 0,.int .u64 0,.int .i64 0,.int .i64 0,.int .i64 0,.int .i64 0].toArray 59)) b W 0):=H0.out.below (Go.Joins.below_alloc1 _ _)
 have Z0:Hid (Blk (w.alloc (.cells [.int .i64 0,.int .i64 0,.int .i64 0,.bool false,.bool false,.bool false,.int .u64 0,.int .i64 0,.int .u64 0,.int .i64 0,.int .i64 0,.int .i64 0,.int .i64 0].toArray 59)) w.heap.size [.int .i64 0,.int .i64 0,.int .i64 0,.bool false,.bool false,.bool false,.int .u64 0,.int .i64 0,.int .u64 0,.int .i64 0,.int .i64 0,.int .i64 0,.int .i64 0] 59):=Blk.made w _ _
 have K0:Hid (Kb b w (w.alloc (.cells [.int .i64 0,.int .i64 0,.int .i64 0,.bool false,.bool false,.bool false,.int .u64 0,.int .i64 0,.int .u64 0,.int .i64 0,.int .i64 0,.int .i64 0,.int .i64 0].toArray 59))):=kb_alloc b w _
 go_enter Tryz.func24,Tryz.ntmps24
 go_wp2_with fail
 refine (N0.out _ A0.out).mono ?_
 rintro e u0 ⟨rfl,h1,k1⟩
 have A1:Hid (IsR u0 b W 1):=h1
 have K1:Hid (Kb b w u0):=K0.out.trans k1
 have Z1:Hid (Blk u0 w.heap.size [.int .i64 0,.int .i64 0,.int .i64 0,.bool false,.bool false,.bool false,.int .u64 0,.int .i64 0,.int .u64 0,.int .i64 0,.int .i64 0,.int .i64 0,.int .i64 0] 59):=Z0.out.kb k1 (by omega)
 clear h1 k1 A0 K0 Z0
 have y4:w.heap.size<u0.heap.size:=blk_lt Z1.out
 go_wp2_with fail
 have A2:Hid (IsR (u0.alloc (.cells #[.int .i64 4,.int .i64 0,.int .i64 0,.bool false,.bool false,.bool false,.int .u64 0,.int .i64 0,.int .u64 0,.int .i64 0,.int .i64 0,.int .i64 0,.int .i64 0] 59)) b W 1):=A1.out.below (Go.Joins.below_alloc1 _ _)
 have K2:Hid (Kb b w (u0.alloc (.cells #[.int .i64 4,.int .i64 0,.int .i64 0,.bool false,.bool false,.bool false,.int .u64 0,.int .i64 0,.int .u64 0,.int .i64 0,.int .i64 0,.int .i64 0,.int .i64 0] 59))):=K1.out.trans (kb_alloc b u0 _)
 have R2:Hid (Blk (u0.alloc (.cells #[.int .i64 4,.int .i64 0,.int .i64 0,.bool false,.bool false,.bool false,.int .u64 0,.int .i64 0,.int .u64 0,.int .i64 0,.int .i64 0,.int .i64 0,.int .i64 0] 59)) w.heap.size [.int .i64 0,.int .i64 0,.int .i64 0,.bool false,.bool false,.bool false,.int .u64 0,.int .i64 0,.int .u64 0,.int .i64 0,.int .i64 0,.int .i64 0,.int .i64 0] 59):=Z1.out.below (Go.Joins.below_alloc1 _ _)
 have C2:Hid (Blk (u0.alloc (.cells #[.int .i64 4,.int .i64 0,.int .i64 0,.bool false,.bool false,.bool false,.int .u64 0,.int .i64 0,.int .u64 0,.int .i64 0,.int .i64 0,.int .i64 0,.int .i64 0] 59)) u0.heap.size [.int .i64 4,.int .i64 0,.int .i64 0,.bool false,.bool false,.bool false,.int .u64 0,.int .i64 0,.int .u64 0,.int .i64 0,.int .i64 0,.int .i64 0,.int .i64 0] 59):=Blk.made u0 _ _
 refine (N1.out _ A2.out).mono ?_
 rintro e u1 ⟨rfl,h1,k1⟩
 have B2:Hid (IsR u1 b W 3):=h1
 have J2:Hid (Kb b w u1):=K2.out.trans k1
 have S2:Hid (Blk u1 w.heap.size [.int .i64 0,.int .i64 0,.int .i64 0,.bool false,.bool false,.bool false,.int .u64 0,.int .i64 0,.int .u64 0,.int .i64 0,.int .i64 0,.int .i64 0,.int .i64 0] 59):=R2.out.kb k1 (by omega)
 have D2:Hid (Blk u1 u0.heap.size [.int .i64 4,.int .i64 0,.int .i64 0,.bool false,.bool false,.bool false,.int .u64 0,.int .i64 0,.int .u64 0,.int .i64 0,.int .i64 0,.int .i64 0,.int .i64 0] 59):=C2.out.kb k1 (by omega)
 have ll2:u0.heap.size<u1.heap.size:=blk_lt D2.out
 clear h1 k1 A2 K2 R2 C2
 have c0_6:u1.cell? ⟨u0.heap.size,6,none⟩=some (.int .u64 0):=D2.out.cell 6
 have f0_6:u1.frozen? ⟨u0.heap.size,6,none⟩=false:=D2.out.free 6
 have c0_7:u1.cell? ⟨u0.heap.size,7,none⟩=some (.int .i64 0):=D2.out.cell 7
 have f0_7:u1.frozen? ⟨u0.heap.size,7,none⟩=false:=D2.out.free 7
 go_upto_region 40 with fail
 have AV:Hid (IsR ((u1.setCell ⟨u0.heap.size,6,none⟩ (.int .u64 x1)).setCell ⟨u0.heap.size,7,none⟩ (.int .i64 x2)) b W 3):=((B2.out.blk.far 6 (.int .u64 x1) (c:=u0.heap.size) (by omega)).far 7 (.int .i64 x2) (c:=u0.heap.size) (by omega))
 have KV:Hid (Kb b w ((u1.setCell ⟨u0.heap.size,6,none⟩ (.int .u64 x1)).setCell ⟨u0.heap.size,7,none⟩ (.int .i64 x2))):=(kb_set (kb_set J2.out (by omega) 6 (.int .u64 x1)) (by omega) 7 (.int .i64 x2))
 have ZR:Hid (Blk ((u1.setCell ⟨u0.heap.size,6,none⟩ (.int .u64 x1)).setCell ⟨u0.heap.size,7,none⟩ (.int .i64 x2)) w.heap.size [.int .i64 0,.int .i64 0,.int .i64 0,.bool false,.bool false,.bool false,.int .u64 0,.int .i64 0,.int .u64 0,.int .i64 0,.int .i64 0,.int .i64 0,.int .i64 0] 59):=((S2.out.far 6 (.int .u64 x1) (by omega)).far 7 (.int .i64 x2) (by omega))
 have ZV:Hid (Blk ((u1.setCell ⟨u0.heap.size,6,none⟩ (.int .u64 x1)).setCell ⟨u0.heap.size,7,none⟩ (.int .i64 x2)) u0.heap.size [.int .i64 4,.int .i64 0,.int .i64 0,.bool false,.bool false,.bool false,.int .u64 x1,.int .i64 x2,.int .u64 0,.int .i64 0,.int .i64 0,.int .i64 0,.int .i64 0] 59):=((D2.out.set 6 (.int .u64 x1)).set 7 (.int .i64 x2))
 generalize ((u1.setCell ⟨u0.heap.size,6,none⟩ (.int .u64 x1)).setCell ⟨u0.heap.size,7,none⟩ (.int .i64 x2))=V at AV KV ZR ZV |-
 refine wp_region_lit ?_
 refine load_pat (u0.heap.size) 0 [.int .i64 4,.int .i64 0,.int .i64 0,.bool false,.bool false,.bool false,.int .u64 x1,.int .i64 x2,.int .u64 0,.int .i64 0,.int .i64 0,.int .i64 0,.int .i64 0] _ rfl ZV.out.range Tryz.underlying59 rfl call_info ?_
 refine store_pat w.heap.size 0 #[.int .i64 4,.int .i64 0,.int .i64 0,.bool false,.bool false,.bool false,.int .u64 x1,.int .i64 x2,.int .u64 0,.int .i64 0,.int .i64 0,.int .i64 0,.int .i64 0] rfl rfl ZR.out.there call_info (by simp [Value.oneCell']) ?_
 have RV:Hid ((V.setCells w.heap.size 0 ((#[.int .i64 4,.int .i64 0,.int .i64 0,.bool false,.bool false,.bool false,.int .u64 x1,.int .i64 x2,.int .u64 0,.int .i64 0,.int .i64 0,.int .i64 0,.int .i64 0]:Array Value).toList)).rangeAt w.heap.size 0 [.int .i64 4,.int .i64 0,.int .i64 0,.bool false,.bool false,.bool false,.int .u64 x1,.int .i64 x2,.int .u64 0,.int .i64 0,.int .i64 0,.int .i64 0,.int .i64 0]):=World.rangeAt_setCells_same _ w.heap.size 0 [.int .i64 4,.int .i64 0,.int .i64 0,.bool false,.bool false,.bool false,.int .u64 x1,.int .i64 x2,.int .u64 0,.int .i64 0,.int .i64 0,.int .i64 0,.int .i64 0] (show V.there w.heap.size 0 13 from ZR.out.there)
 have AV2:Hid (IsR (V.setCells w.heap.size 0 ((#[.int .i64 4,.int .i64 0,.int .i64 0,.bool false,.bool false,.bool false,.int .u64 x1,.int .i64 x2,.int .u64 0,.int .i64 0,.int .i64 0,.int .i64 0,.int .i64 0]:Array Value).toList)) b W 3):=AV.out.scs (by omega) _ _
 have KV2:Hid (Kb b w (V.setCells w.heap.size 0 ((#[.int .i64 4,.int .i64 0,.int .i64 0,.bool false,.bool false,.bool false,.int .u64 x1,.int .i64 x2,.int .u64 0,.int .i64 0,.int .i64 0,.int .i64 0,.int .i64 0]:Array Value).toList))):=kb_scs KV.out (Nat.le_refl _) _ _
 generalize V.setCells w.heap.size 0 ((#[.int .i64 4,.int .i64 0,.int .i64 0,.bool false,.bool false,.bool false,.int .u64 x1,.int .i64 x2,.int .u64 0,.int .i64 0,.int .i64 0,.int .i64 0,.int .i64 0]:Array Value).toList)=V2 at RV AV2 KV2 |-
 clear AV KV ZR ZV
 go_wp2_with fail
 have hr:=run_loadVar_mid (P:=Tryz.prog) V2 w.heap.size 0 59 [.int .i64 4,.int .i64 0,.int .i64 0,.bool false,.bool false,.bool false,.int .u64 x1,.int .i64 x2,.int .u64 0,.int .i64 0,.int .i64 0,.int .i64 0,.int .i64 0] _ RV.out Tryz.underlying59 rfl call_info
 refine bodyPost_ret (v:=.agg #[.int .i64 4,.int .i64 0,.int .i64 0,.bool false,.bool false,.bool false,.int .u64 x1,.int .i64 x2,.int .u64 0,.int .i64 0,.int .i64 0,.int .i64 0,.int .i64 0]) ?_ rfl ⟨rfl,AV2.out,KV2.out⟩
 exact results_one Tryz.results24 _ _ _ _ _ rfl hr
end Go.Proofs.YtlaiadheelgbdaaGreat.Ca
namespace Go.Proofs.YtlaiadheelgbdaaGreat.Ca
open Go.ChangeShapes Go.WideShapes Go.ChangeAt Go.RowKit Go.Maps
set_option linter.unusedSimpArgs false
set_option linter.unusedVariables false
set_option maxRecDepth 8000
set_option maxHeartbeats 4000000 in
theorem call6 (b:Nat) (W:Wd) (hw:W.wf) (h0:W.at 0=6) (l1:(W.at 1<34359738368)) (l2:(W.at 2<16)) (l3:(W.at 3<2)) (w:World) (h:IsR w b W 0):Calls Tryz.prog 24 #[.pointer (some ⟨b,0,none⟩)] w fun e w'=>e=.returned (.agg #[.int .i64 6,.int .i64 (W.at 1),.int .i64 (W.at 1+1),.bool (W.at 3==1),.bool false,.bool false,.int .u64 0,.int .i64 0,.int .u64 0,.int .i64 (W.at 2),.int .i64 0,.int .i64 0,.int .i64 0])/\IsR w' b W 4/\Kb b w w':=by
 have N0:Hid (∀ w:World,IsR w b W (0)->Calls Tryz.prog 37 #[.pointer (some ⟨b,0,none⟩),.int .u64 17] w fun e w'=>e=.returned (.int .i64 (W.at (0)))/\IsR w' b W (0+1)/\Kb b w w'):=fun w h=>number_yes b W (0) (by omega) hw 17 (by omega) (by omega) w h
 rw [h0] at N0
 have N1:Hid (∀ w:World,IsR w b W (1)->Calls Tryz.prog 42 #[.pointer (some ⟨b,0,none⟩)] w fun e w'=>e=.returned (.agg #[.int .i64 (W.at 1),.int .i64 (W.at 1+1)])/\IsR w' b W (2)/\Kb b w w'):=fun w h=>page_yes b W 1 (by omega) hw l1 w h
 have N2:Hid (∀ w:World,IsR w b W (2)->Calls Tryz.prog 37 #[.pointer (some ⟨b,0,none⟩),.int .u64 16] w fun e w'=>e=.returned (.int .i64 (W.at 2))/\IsR w' b W (3)/\Kb b w w'):=fun w h=>number_yes b W 2 (by omega) hw 16 (by omega) l2 w h
 have N3:Hid (∀ w:World,IsR w b W (3)->Calls Tryz.prog 43 #[.pointer (some ⟨b,0,none⟩),.int .u64 2] w fun e w'=>e=.returned (.int .u64 (W.at 3))/\IsR w' b W (4)/\Kb b w w'):=fun w h=>below_yes b W 3 (by omega) 2 l3 w h
 have p1:=(hw 1).1
 have H0:Hid (IsR w b W 0):=h
 have lt0:=blk_lt h
 clear h hw h0
 generalize W.at 1=x1 at *
 generalize W.at 2=x2 at *
 generalize W.at 3=x3 at *
 have A0:Hid (IsR (w.alloc (.cells [.int .i64 0,.int .i64 0,.int .i64 0,.bool false,.bool false,.bool false,.int .u64 0,.int .i64 0,.int .u64 0,.int .i64 0,.int .i64 0,.int .i64 0,.int .i64 0].toArray 59)) b W 0):=H0.out.below (Go.Joins.below_alloc1 _ _)
 have Z0:Hid (Blk (w.alloc (.cells [.int .i64 0,.int .i64 0,.int .i64 0,.bool false,.bool false,.bool false,.int .u64 0,.int .i64 0,.int .u64 0,.int .i64 0,.int .i64 0,.int .i64 0,.int .i64 0].toArray 59)) w.heap.size [.int .i64 0,.int .i64 0,.int .i64 0,.bool false,.bool false,.bool false,.int .u64 0,.int .i64 0,.int .u64 0,.int .i64 0,.int .i64 0,.int .i64 0,.int .i64 0] 59):=Blk.made w _ _
 have K0:Hid (Kb b w (w.alloc (.cells [.int .i64 0,.int .i64 0,.int .i64 0,.bool false,.bool false,.bool false,.int .u64 0,.int .i64 0,.int .u64 0,.int .i64 0,.int .i64 0,.int .i64 0,.int .i64 0].toArray 59))):=kb_alloc b w _
 go_enter Tryz.func24,Tryz.ntmps24
 go_wp2_with fail
 refine (N0.out _ A0.out).mono ?_
 rintro e u0 ⟨rfl,h1,k1⟩
 have A1:Hid (IsR u0 b W 1):=h1
 have K1:Hid (Kb b w u0):=K0.out.trans k1
 have Z1:Hid (Blk u0 w.heap.size [.int .i64 0,.int .i64 0,.int .i64 0,.bool false,.bool false,.bool false,.int .u64 0,.int .i64 0,.int .u64 0,.int .i64 0,.int .i64 0,.int .i64 0,.int .i64 0] 59):=Z0.out.kb k1 (by omega)
 clear h1 k1 A0 K0 Z0
 have y4:w.heap.size<u0.heap.size:=blk_lt Z1.out
 go_wp2_with fail
 have A2:Hid (IsR (u0.alloc (.cells #[.int .i64 6,.int .i64 0,.int .i64 0,.bool false,.bool false,.bool false,.int .u64 0,.int .i64 0,.int .u64 0,.int .i64 0,.int .i64 0,.int .i64 0,.int .i64 0] 59)) b W 1):=A1.out.below (Go.Joins.below_alloc1 _ _)
 have K2:Hid (Kb b w (u0.alloc (.cells #[.int .i64 6,.int .i64 0,.int .i64 0,.bool false,.bool false,.bool false,.int .u64 0,.int .i64 0,.int .u64 0,.int .i64 0,.int .i64 0,.int .i64 0,.int .i64 0] 59))):=K1.out.trans (kb_alloc b u0 _)
 have R2:Hid (Blk (u0.alloc (.cells #[.int .i64 6,.int .i64 0,.int .i64 0,.bool false,.bool false,.bool false,.int .u64 0,.int .i64 0,.int .u64 0,.int .i64 0,.int .i64 0,.int .i64 0,.int .i64 0] 59)) w.heap.size [.int .i64 0,.int .i64 0,.int .i64 0,.bool false,.bool false,.bool false,.int .u64 0,.int .i64 0,.int .u64 0,.int .i64 0,.int .i64 0,.int .i64 0,.int .i64 0] 59):=Z1.out.below (Go.Joins.below_alloc1 _ _)
 have C2:Hid (Blk (u0.alloc (.cells #[.int .i64 6,.int .i64 0,.int .i64 0,.bool false,.bool false,.bool false,.int .u64 0,.int .i64 0,.int .u64 0,.int .i64 0,.int .i64 0,.int .i64 0,.int .i64 0] 59)) u0.heap.size [.int .i64 6,.int .i64 0,.int .i64 0,.bool false,.bool false,.bool false,.int .u64 0,.int .i64 0,.int .u64 0,.int .i64 0,.int .i64 0,.int .i64 0,.int .i64 0] 59):=Blk.made u0 _ _
 refine (N1.out _ A2.out).mono ?_
 rintro e u1 ⟨rfl,h1,k1⟩
 have B2:Hid (IsR u1 b W 2):=h1
 have J2:Hid (Kb b w u1):=K2.out.trans k1
 have S2:Hid (Blk u1 w.heap.size [.int .i64 0,.int .i64 0,.int .i64 0,.bool false,.bool false,.bool false,.int .u64 0,.int .i64 0,.int .u64 0,.int .i64 0,.int .i64 0,.int .i64 0,.int .i64 0] 59):=R2.out.kb k1 (by omega)
 have D2:Hid (Blk u1 u0.heap.size [.int .i64 6,.int .i64 0,.int .i64 0,.bool false,.bool false,.bool false,.int .u64 0,.int .i64 0,.int .u64 0,.int .i64 0,.int .i64 0,.int .i64 0,.int .i64 0] 59):=C2.out.kb k1 (by omega)
 have ll2:u0.heap.size<u1.heap.size:=blk_lt D2.out
 clear h1 k1 A2 K2 R2 C2
 have c0_1:u1.cell? ⟨u0.heap.size,1,none⟩=some (.int .i64 0):=D2.out.cell 1
 have f0_1:u1.frozen? ⟨u0.heap.size,1,none⟩=false:=D2.out.free 1
 have c0_2:u1.cell? ⟨u0.heap.size,2,none⟩=some (.int .i64 0):=D2.out.cell 2
 have f0_2:u1.frozen? ⟨u0.heap.size,2,none⟩=false:=D2.out.free 2
 go_wp2_with fail
 have A3:Hid (IsR ((u1.setCell ⟨u0.heap.size,1,none⟩ (.int .i64 x1)).setCell ⟨u0.heap.size,2,none⟩ (.int .i64 (x1+1))) b W 2):=((B2.out.blk.far 1 (.int .i64 x1) (c:=u0.heap.size) (by omega)).far 2 (.int .i64 (x1+1)) (c:=u0.heap.size) (by omega))
 have K3:Hid (Kb b w ((u1.setCell ⟨u0.heap.size,1,none⟩ (.int .i64 x1)).setCell ⟨u0.heap.size,2,none⟩ (.int .i64 (x1+1)))):=(kb_set (kb_set J2.out (by omega) 1 (.int .i64 x1)) (by omega) 2 (.int .i64 (x1+1)))
 have R3:Hid (Blk ((u1.setCell ⟨u0.heap.size,1,none⟩ (.int .i64 x1)).setCell ⟨u0.heap.size,2,none⟩ (.int .i64 (x1+1))) w.heap.size [.int .i64 0,.int .i64 0,.int .i64 0,.bool false,.bool false,.bool false,.int .u64 0,.int .i64 0,.int .u64 0,.int .i64 0,.int .i64 0,.int .i64 0,.int .i64 0] 59):=((S2.out.far 1 (.int .i64 x1) (by omega)).far 2 (.int .i64 (x1+1)) (by omega))
 have C3:Hid (Blk ((u1.setCell ⟨u0.heap.size,1,none⟩ (.int .i64 x1)).setCell ⟨u0.heap.size,2,none⟩ (.int .i64 (x1+1))) u0.heap.size [.int .i64 6,.int .i64 x1,.int .i64 (x1+1),.bool false,.bool false,.bool false,.int .u64 0,.int .i64 0,.int .u64 0,.int .i64 0,.int .i64 0,.int .i64 0,.int .i64 0] 59):=((D2.out.set 1 (.int .i64 x1)).set 2 (.int .i64 (x1+1)))
 refine (N2.out _ A3.out).mono ?_
 rintro e u2 ⟨rfl,h1,k1⟩
 have B3:Hid (IsR u2 b W 3):=h1
 have J3:Hid (Kb b w u2):=K3.out.trans k1
 have S3:Hid (Blk u2 w.heap.size [.int .i64 0,.int .i64 0,.int .i64 0,.bool false,.bool false,.bool false,.int .u64 0,.int .i64 0,.int .u64 0,.int .i64 0,.int .i64 0,.int .i64 0,.int .i64 0] 59):=R3.out.kb k1 (by omega)
 have D3:Hid (Blk u2 u0.heap.size [.int .i64 6,.int .i64 x1,.int .i64 (x1+1),.bool false,.bool false,.bool false,.int .u64 0,.int .i64 0,.int .u64 0,.int .i64 0,.int .i64 0,.int .i64 0,.int .i64 0] 59):=C3.out.kb k1 (by omega)
 have ll3:u0.heap.size<u2.heap.size:=blk_lt D3.out
 clear h1 k1 A3 K3 R3 C3
 have c1_9:u2.cell? ⟨u0.heap.size,9,none⟩=some (.int .i64 0):=D3.out.cell 9
 have f1_9:u2.frozen? ⟨u0.heap.size,9,none⟩=false:=D3.out.free 9
 go_wp2_with fail
 have A4:Hid (IsR (u2.setCell ⟨u0.heap.size,9,none⟩ (.int .i64 x2)) b W 3):=(B3.out.blk.far 9 (.int .i64 x2) (c:=u0.heap.size) (by omega))
 have K4:Hid (Kb b w (u2.setCell ⟨u0.heap.size,9,none⟩ (.int .i64 x2))):=(kb_set J3.out (by omega) 9 (.int .i64 x2))
 have R4:Hid (Blk (u2.setCell ⟨u0.heap.size,9,none⟩ (.int .i64 x2)) w.heap.size [.int .i64 0,.int .i64 0,.int .i64 0,.bool false,.bool false,.bool false,.int .u64 0,.int .i64 0,.int .u64 0,.int .i64 0,.int .i64 0,.int .i64 0,.int .i64 0] 59):=(S3.out.far 9 (.int .i64 x2) (by omega))
 have C4:Hid (Blk (u2.setCell ⟨u0.heap.size,9,none⟩ (.int .i64 x2)) u0.heap.size [.int .i64 6,.int .i64 x1,.int .i64 (x1+1),.bool false,.bool false,.bool false,.int .u64 0,.int .i64 0,.int .u64 0,.int .i64 x2,.int .i64 0,.int .i64 0,.int .i64 0] 59):=(D3.out.set 9 (.int .i64 x2))
 refine (N3.out _ A4.out).mono ?_
 rintro e u3 ⟨rfl,h1,k1⟩
 have B4:Hid (IsR u3 b W 4):=h1
 have J4:Hid (Kb b w u3):=K4.out.trans k1
 have S4:Hid (Blk u3 w.heap.size [.int .i64 0,.int .i64 0,.int .i64 0,.bool false,.bool false,.bool false,.int .u64 0,.int .i64 0,.int .u64 0,.int .i64 0,.int .i64 0,.int .i64 0,.int .i64 0] 59):=R4.out.kb k1 (by omega)
 have D4:Hid (Blk u3 u0.heap.size [.int .i64 6,.int .i64 x1,.int .i64 (x1+1),.bool false,.bool false,.bool false,.int .u64 0,.int .i64 0,.int .u64 0,.int .i64 x2,.int .i64 0,.int .i64 0,.int .i64 0] 59):=C4.out.kb k1 (by omega)
 have ll4:u0.heap.size<u3.heap.size:=blk_lt D4.out
 clear h1 k1 A4 K4 R4 C4
 have c2_3:u3.cell? ⟨u0.heap.size,3,none⟩=some (.bool false):=D4.out.cell 3
 have f2_3:u3.frozen? ⟨u0.heap.size,3,none⟩=false:=D4.out.free 3
 go_upto_region 40 with fail
 have AV:Hid (IsR (u3.setCell ⟨u0.heap.size,3,none⟩ (.bool (x3==1))) b W 4):=(B4.out.blk.far 3 (.bool (x3==1)) (c:=u0.heap.size) (by omega))
 have KV:Hid (Kb b w (u3.setCell ⟨u0.heap.size,3,none⟩ (.bool (x3==1)))):=(kb_set J4.out (by omega) 3 (.bool (x3==1)))
 have ZR:Hid (Blk (u3.setCell ⟨u0.heap.size,3,none⟩ (.bool (x3==1))) w.heap.size [.int .i64 0,.int .i64 0,.int .i64 0,.bool false,.bool false,.bool false,.int .u64 0,.int .i64 0,.int .u64 0,.int .i64 0,.int .i64 0,.int .i64 0,.int .i64 0] 59):=(S4.out.far 3 (.bool (x3==1)) (by omega))
 have ZV:Hid (Blk (u3.setCell ⟨u0.heap.size,3,none⟩ (.bool (x3==1))) u0.heap.size [.int .i64 6,.int .i64 x1,.int .i64 (x1+1),.bool (x3==1),.bool false,.bool false,.int .u64 0,.int .i64 0,.int .u64 0,.int .i64 x2,.int .i64 0,.int .i64 0,.int .i64 0] 59):=(D4.out.set 3 (.bool (x3==1)))
 generalize (u3.setCell ⟨u0.heap.size,3,none⟩ (.bool (x3==1)))=V at AV KV ZR ZV |-
 refine wp_region_lit ?_
 refine load_pat (u0.heap.size) 0 [.int .i64 6,.int .i64 x1,.int .i64 (x1+1),.bool (x3==1),.bool false,.bool false,.int .u64 0,.int .i64 0,.int .u64 0,.int .i64 x2,.int .i64 0,.int .i64 0,.int .i64 0] _ rfl ZV.out.range Tryz.underlying59 rfl call_info ?_
 refine store_pat w.heap.size 0 #[.int .i64 6,.int .i64 x1,.int .i64 (x1+1),.bool (x3==1),.bool false,.bool false,.int .u64 0,.int .i64 0,.int .u64 0,.int .i64 x2,.int .i64 0,.int .i64 0,.int .i64 0] rfl rfl ZR.out.there call_info (by simp [Value.oneCell']) ?_
 have RV:Hid ((V.setCells w.heap.size 0 ((#[.int .i64 6,.int .i64 x1,.int .i64 (x1+1),.bool (x3==1),.bool false,.bool false,.int .u64 0,.int .i64 0,.int .u64 0,.int .i64 x2,.int .i64 0,.int .i64 0,.int .i64 0]:Array Value).toList)).rangeAt w.heap.size 0 [.int .i64 6,.int .i64 x1,.int .i64 (x1+1),.bool (x3==1),.bool false,.bool false,.int .u64 0,.int .i64 0,.int .u64 0,.int .i64 x2,.int .i64 0,.int .i64 0,.int .i64 0]):=World.rangeAt_setCells_same _ w.heap.size 0 [.int .i64 6,.int .i64 x1,.int .i64 (x1+1),.bool (x3==1),.bool false,.bool false,.int .u64 0,.int .i64 0,.int .u64 0,.int .i64 x2,.int .i64 0,.int .i64 0,.int .i64 0] (show V.there w.heap.size 0 13 from ZR.out.there)
 have AV2:Hid (IsR (V.setCells w.heap.size 0 ((#[.int .i64 6,.int .i64 x1,.int .i64 (x1+1),.bool (x3==1),.bool false,.bool false,.int .u64 0,.int .i64 0,.int .u64 0,.int .i64 x2,.int .i64 0,.int .i64 0,.int .i64 0]:Array Value).toList)) b W 4):=AV.out.scs (by omega) _ _
 have KV2:Hid (Kb b w (V.setCells w.heap.size 0 ((#[.int .i64 6,.int .i64 x1,.int .i64 (x1+1),.bool (x3==1),.bool false,.bool false,.int .u64 0,.int .i64 0,.int .u64 0,.int .i64 x2,.int .i64 0,.int .i64 0,.int .i64 0]:Array Value).toList))):=kb_scs KV.out (Nat.le_refl _) _ _
 generalize V.setCells w.heap.size 0 ((#[.int .i64 6,.int .i64 x1,.int .i64 (x1+1),.bool (x3==1),.bool false,.bool false,.int .u64 0,.int .i64 0,.int .u64 0,.int .i64 x2,.int .i64 0,.int .i64 0,.int .i64 0]:Array Value).toList)=V2 at RV AV2 KV2 |-
 clear AV KV ZR ZV
 go_wp2_with fail
 have hr:=run_loadVar_mid (P:=Tryz.prog) V2 w.heap.size 0 59 [.int .i64 6,.int .i64 x1,.int .i64 (x1+1),.bool (x3==1),.bool false,.bool false,.int .u64 0,.int .i64 0,.int .u64 0,.int .i64 x2,.int .i64 0,.int .i64 0,.int .i64 0] _ RV.out Tryz.underlying59 rfl call_info
 refine bodyPost_ret (v:=.agg #[.int .i64 6,.int .i64 x1,.int .i64 (x1+1),.bool (x3==1),.bool false,.bool false,.int .u64 0,.int .i64 0,.int .u64 0,.int .i64 x2,.int .i64 0,.int .i64 0,.int .i64 0]) ?_ rfl ⟨rfl,AV2.out,KV2.out⟩
 exact results_one Tryz.results24 _ _ _ _ _ rfl hr
set_option maxHeartbeats 4000000 in
theorem call7 (b:Nat) (W:Wd) (hw:W.wf) (h0:W.at 0=7) (l1:(W.at 1<256)) (l2:(W.at 2<34359738368)) (w:World) (h:IsR w b W 0):Calls Tryz.prog 24 #[.pointer (some ⟨b,0,none⟩)] w fun e w'=>e=.returned (.agg #[.int .i64 7,.int .i64 (W.at 2),.int .i64 (W.at 2+1),.bool false,.bool false,.bool false,.int .u64 0,.int .i64 0,.int .u64 0,.int .i64 (W.at 1),.int .i64 0,.int .i64 0,.int .i64 0])/\IsR w' b W 3/\Kb b w w':=by
 have N0:Hid (∀ w:World,IsR w b W (0)->Calls Tryz.prog 37 #[.pointer (some ⟨b,0,none⟩),.int .u64 17] w fun e w'=>e=.returned (.int .i64 (W.at (0)))/\IsR w' b W (0+1)/\Kb b w w'):=fun w h=>number_yes b W (0) (by omega) hw 17 (by omega) (by omega) w h
 rw [h0] at N0
 have N1:Hid (∀ w:World,IsR w b W (1)->Calls Tryz.prog 37 #[.pointer (some ⟨b,0,none⟩),.int .u64 256] w fun e w'=>e=.returned (.int .i64 (W.at 1))/\IsR w' b W (2)/\Kb b w w'):=fun w h=>number_yes b W 1 (by omega) hw 256 (by omega) l1 w h
 have N2:Hid (∀ w:World,IsR w b W (2)->Calls Tryz.prog 42 #[.pointer (some ⟨b,0,none⟩)] w fun e w'=>e=.returned (.agg #[.int .i64 (W.at 2),.int .i64 (W.at 2+1)])/\IsR w' b W (3)/\Kb b w w'):=fun w h=>page_yes b W 2 (by omega) hw l2 w h
 have p1:=(hw 1).1
 have H0:Hid (IsR w b W 0):=h
 have lt0:=blk_lt h
 clear h hw h0
 generalize W.at 1=x1 at *
 generalize W.at 2=x2 at *
 have A0:Hid (IsR (w.alloc (.cells [.int .i64 0,.int .i64 0,.int .i64 0,.bool false,.bool false,.bool false,.int .u64 0,.int .i64 0,.int .u64 0,.int .i64 0,.int .i64 0,.int .i64 0,.int .i64 0].toArray 59)) b W 0):=H0.out.below (Go.Joins.below_alloc1 _ _)
 have Z0:Hid (Blk (w.alloc (.cells [.int .i64 0,.int .i64 0,.int .i64 0,.bool false,.bool false,.bool false,.int .u64 0,.int .i64 0,.int .u64 0,.int .i64 0,.int .i64 0,.int .i64 0,.int .i64 0].toArray 59)) w.heap.size [.int .i64 0,.int .i64 0,.int .i64 0,.bool false,.bool false,.bool false,.int .u64 0,.int .i64 0,.int .u64 0,.int .i64 0,.int .i64 0,.int .i64 0,.int .i64 0] 59):=Blk.made w _ _
 have K0:Hid (Kb b w (w.alloc (.cells [.int .i64 0,.int .i64 0,.int .i64 0,.bool false,.bool false,.bool false,.int .u64 0,.int .i64 0,.int .u64 0,.int .i64 0,.int .i64 0,.int .i64 0,.int .i64 0].toArray 59))):=kb_alloc b w _
 go_enter Tryz.func24,Tryz.ntmps24
 go_wp2_with fail
 refine (N0.out _ A0.out).mono ?_
 rintro e u0 ⟨rfl,h1,k1⟩
 have A1:Hid (IsR u0 b W 1):=h1
 have K1:Hid (Kb b w u0):=K0.out.trans k1
 have Z1:Hid (Blk u0 w.heap.size [.int .i64 0,.int .i64 0,.int .i64 0,.bool false,.bool false,.bool false,.int .u64 0,.int .i64 0,.int .u64 0,.int .i64 0,.int .i64 0,.int .i64 0,.int .i64 0] 59):=Z0.out.kb k1 (by omega)
 clear h1 k1 A0 K0 Z0
 have y4:w.heap.size<u0.heap.size:=blk_lt Z1.out
 go_wp2_with fail
 have A2:Hid (IsR (u0.alloc (.cells #[.int .i64 7,.int .i64 0,.int .i64 0,.bool false,.bool false,.bool false,.int .u64 0,.int .i64 0,.int .u64 0,.int .i64 0,.int .i64 0,.int .i64 0,.int .i64 0] 59)) b W 1):=A1.out.below (Go.Joins.below_alloc1 _ _)
 have K2:Hid (Kb b w (u0.alloc (.cells #[.int .i64 7,.int .i64 0,.int .i64 0,.bool false,.bool false,.bool false,.int .u64 0,.int .i64 0,.int .u64 0,.int .i64 0,.int .i64 0,.int .i64 0,.int .i64 0] 59))):=K1.out.trans (kb_alloc b u0 _)
 have R2:Hid (Blk (u0.alloc (.cells #[.int .i64 7,.int .i64 0,.int .i64 0,.bool false,.bool false,.bool false,.int .u64 0,.int .i64 0,.int .u64 0,.int .i64 0,.int .i64 0,.int .i64 0,.int .i64 0] 59)) w.heap.size [.int .i64 0,.int .i64 0,.int .i64 0,.bool false,.bool false,.bool false,.int .u64 0,.int .i64 0,.int .u64 0,.int .i64 0,.int .i64 0,.int .i64 0,.int .i64 0] 59):=Z1.out.below (Go.Joins.below_alloc1 _ _)
 have C2:Hid (Blk (u0.alloc (.cells #[.int .i64 7,.int .i64 0,.int .i64 0,.bool false,.bool false,.bool false,.int .u64 0,.int .i64 0,.int .u64 0,.int .i64 0,.int .i64 0,.int .i64 0,.int .i64 0] 59)) u0.heap.size [.int .i64 7,.int .i64 0,.int .i64 0,.bool false,.bool false,.bool false,.int .u64 0,.int .i64 0,.int .u64 0,.int .i64 0,.int .i64 0,.int .i64 0,.int .i64 0] 59):=Blk.made u0 _ _
 refine (N1.out _ A2.out).mono ?_
 rintro e u1 ⟨rfl,h1,k1⟩
 have B2:Hid (IsR u1 b W 2):=h1
 have J2:Hid (Kb b w u1):=K2.out.trans k1
 have S2:Hid (Blk u1 w.heap.size [.int .i64 0,.int .i64 0,.int .i64 0,.bool false,.bool false,.bool false,.int .u64 0,.int .i64 0,.int .u64 0,.int .i64 0,.int .i64 0,.int .i64 0,.int .i64 0] 59):=R2.out.kb k1 (by omega)
 have D2:Hid (Blk u1 u0.heap.size [.int .i64 7,.int .i64 0,.int .i64 0,.bool false,.bool false,.bool false,.int .u64 0,.int .i64 0,.int .u64 0,.int .i64 0,.int .i64 0,.int .i64 0,.int .i64 0] 59):=C2.out.kb k1 (by omega)
 have ll2:u0.heap.size<u1.heap.size:=blk_lt D2.out
 clear h1 k1 A2 K2 R2 C2
 have c0_9:u1.cell? ⟨u0.heap.size,9,none⟩=some (.int .i64 0):=D2.out.cell 9
 have f0_9:u1.frozen? ⟨u0.heap.size,9,none⟩=false:=D2.out.free 9
 go_wp2_with fail
 have A3:Hid (IsR (u1.setCell ⟨u0.heap.size,9,none⟩ (.int .i64 x1)) b W 2):=(B2.out.blk.far 9 (.int .i64 x1) (c:=u0.heap.size) (by omega))
 have K3:Hid (Kb b w (u1.setCell ⟨u0.heap.size,9,none⟩ (.int .i64 x1))):=(kb_set J2.out (by omega) 9 (.int .i64 x1))
 have R3:Hid (Blk (u1.setCell ⟨u0.heap.size,9,none⟩ (.int .i64 x1)) w.heap.size [.int .i64 0,.int .i64 0,.int .i64 0,.bool false,.bool false,.bool false,.int .u64 0,.int .i64 0,.int .u64 0,.int .i64 0,.int .i64 0,.int .i64 0,.int .i64 0] 59):=(S2.out.far 9 (.int .i64 x1) (by omega))
 have C3:Hid (Blk (u1.setCell ⟨u0.heap.size,9,none⟩ (.int .i64 x1)) u0.heap.size [.int .i64 7,.int .i64 0,.int .i64 0,.bool false,.bool false,.bool false,.int .u64 0,.int .i64 0,.int .u64 0,.int .i64 x1,.int .i64 0,.int .i64 0,.int .i64 0] 59):=(D2.out.set 9 (.int .i64 x1))
 refine (N2.out _ A3.out).mono ?_
 rintro e u2 ⟨rfl,h1,k1⟩
 have B3:Hid (IsR u2 b W 3):=h1
 have J3:Hid (Kb b w u2):=K3.out.trans k1
 have S3:Hid (Blk u2 w.heap.size [.int .i64 0,.int .i64 0,.int .i64 0,.bool false,.bool false,.bool false,.int .u64 0,.int .i64 0,.int .u64 0,.int .i64 0,.int .i64 0,.int .i64 0,.int .i64 0] 59):=R3.out.kb k1 (by omega)
 have D3:Hid (Blk u2 u0.heap.size [.int .i64 7,.int .i64 0,.int .i64 0,.bool false,.bool false,.bool false,.int .u64 0,.int .i64 0,.int .u64 0,.int .i64 x1,.int .i64 0,.int .i64 0,.int .i64 0] 59):=C3.out.kb k1 (by omega)
 have ll3:u0.heap.size<u2.heap.size:=blk_lt D3.out
 clear h1 k1 A3 K3 R3 C3
 have c1_1:u2.cell? ⟨u0.heap.size,1,none⟩=some (.int .i64 0):=D3.out.cell 1
 have f1_1:u2.frozen? ⟨u0.heap.size,1,none⟩=false:=D3.out.free 1
 have c1_2:u2.cell? ⟨u0.heap.size,2,none⟩=some (.int .i64 0):=D3.out.cell 2
 have f1_2:u2.frozen? ⟨u0.heap.size,2,none⟩=false:=D3.out.free 2
 go_upto_region 40 with fail
 have AV:Hid (IsR ((u2.setCell ⟨u0.heap.size,1,none⟩ (.int .i64 x2)).setCell ⟨u0.heap.size,2,none⟩ (.int .i64 (x2+1))) b W 3):=((B3.out.blk.far 1 (.int .i64 x2) (c:=u0.heap.size) (by omega)).far 2 (.int .i64 (x2+1)) (c:=u0.heap.size) (by omega))
 have KV:Hid (Kb b w ((u2.setCell ⟨u0.heap.size,1,none⟩ (.int .i64 x2)).setCell ⟨u0.heap.size,2,none⟩ (.int .i64 (x2+1)))):=(kb_set (kb_set J3.out (by omega) 1 (.int .i64 x2)) (by omega) 2 (.int .i64 (x2+1)))
 have ZR:Hid (Blk ((u2.setCell ⟨u0.heap.size,1,none⟩ (.int .i64 x2)).setCell ⟨u0.heap.size,2,none⟩ (.int .i64 (x2+1))) w.heap.size [.int .i64 0,.int .i64 0,.int .i64 0,.bool false,.bool false,.bool false,.int .u64 0,.int .i64 0,.int .u64 0,.int .i64 0,.int .i64 0,.int .i64 0,.int .i64 0] 59):=((S3.out.far 1 (.int .i64 x2) (by omega)).far 2 (.int .i64 (x2+1)) (by omega))
 have ZV:Hid (Blk ((u2.setCell ⟨u0.heap.size,1,none⟩ (.int .i64 x2)).setCell ⟨u0.heap.size,2,none⟩ (.int .i64 (x2+1))) u0.heap.size [.int .i64 7,.int .i64 x2,.int .i64 (x2+1),.bool false,.bool false,.bool false,.int .u64 0,.int .i64 0,.int .u64 0,.int .i64 x1,.int .i64 0,.int .i64 0,.int .i64 0] 59):=((D3.out.set 1 (.int .i64 x2)).set 2 (.int .i64 (x2+1)))
 generalize ((u2.setCell ⟨u0.heap.size,1,none⟩ (.int .i64 x2)).setCell ⟨u0.heap.size,2,none⟩ (.int .i64 (x2+1)))=V at AV KV ZR ZV |-
 refine wp_region_lit ?_
 refine load_pat (u0.heap.size) 0 [.int .i64 7,.int .i64 x2,.int .i64 (x2+1),.bool false,.bool false,.bool false,.int .u64 0,.int .i64 0,.int .u64 0,.int .i64 x1,.int .i64 0,.int .i64 0,.int .i64 0] _ rfl ZV.out.range Tryz.underlying59 rfl call_info ?_
 refine store_pat w.heap.size 0 #[.int .i64 7,.int .i64 x2,.int .i64 (x2+1),.bool false,.bool false,.bool false,.int .u64 0,.int .i64 0,.int .u64 0,.int .i64 x1,.int .i64 0,.int .i64 0,.int .i64 0] rfl rfl ZR.out.there call_info (by simp [Value.oneCell']) ?_
 have RV:Hid ((V.setCells w.heap.size 0 ((#[.int .i64 7,.int .i64 x2,.int .i64 (x2+1),.bool false,.bool false,.bool false,.int .u64 0,.int .i64 0,.int .u64 0,.int .i64 x1,.int .i64 0,.int .i64 0,.int .i64 0]:Array Value).toList)).rangeAt w.heap.size 0 [.int .i64 7,.int .i64 x2,.int .i64 (x2+1),.bool false,.bool false,.bool false,.int .u64 0,.int .i64 0,.int .u64 0,.int .i64 x1,.int .i64 0,.int .i64 0,.int .i64 0]):=World.rangeAt_setCells_same _ w.heap.size 0 [.int .i64 7,.int .i64 x2,.int .i64 (x2+1),.bool false,.bool false,.bool false,.int .u64 0,.int .i64 0,.int .u64 0,.int .i64 x1,.int .i64 0,.int .i64 0,.int .i64 0] (show V.there w.heap.size 0 13 from ZR.out.there)
 have AV2:Hid (IsR (V.setCells w.heap.size 0 ((#[.int .i64 7,.int .i64 x2,.int .i64 (x2+1),.bool false,.bool false,.bool false,.int .u64 0,.int .i64 0,.int .u64 0,.int .i64 x1,.int .i64 0,.int .i64 0,.int .i64 0]:Array Value).toList)) b W 3):=AV.out.scs (by omega) _ _
 have KV2:Hid (Kb b w (V.setCells w.heap.size 0 ((#[.int .i64 7,.int .i64 x2,.int .i64 (x2+1),.bool false,.bool false,.bool false,.int .u64 0,.int .i64 0,.int .u64 0,.int .i64 x1,.int .i64 0,.int .i64 0,.int .i64 0]:Array Value).toList))):=kb_scs KV.out (Nat.le_refl _) _ _
 generalize V.setCells w.heap.size 0 ((#[.int .i64 7,.int .i64 x2,.int .i64 (x2+1),.bool false,.bool false,.bool false,.int .u64 0,.int .i64 0,.int .u64 0,.int .i64 x1,.int .i64 0,.int .i64 0,.int .i64 0]:Array Value).toList)=V2 at RV AV2 KV2 |-
 clear AV KV ZR ZV
 go_wp2_with fail
 have hr:=run_loadVar_mid (P:=Tryz.prog) V2 w.heap.size 0 59 [.int .i64 7,.int .i64 x2,.int .i64 (x2+1),.bool false,.bool false,.bool false,.int .u64 0,.int .i64 0,.int .u64 0,.int .i64 x1,.int .i64 0,.int .i64 0,.int .i64 0] _ RV.out Tryz.underlying59 rfl call_info
 refine bodyPost_ret (v:=.agg #[.int .i64 7,.int .i64 x2,.int .i64 (x2+1),.bool false,.bool false,.bool false,.int .u64 0,.int .i64 0,.int .u64 0,.int .i64 x1,.int .i64 0,.int .i64 0,.int .i64 0]) ?_ rfl ⟨rfl,AV2.out,KV2.out⟩
 exact results_one Tryz.results24 _ _ _ _ _ rfl hr
set_option maxHeartbeats 4000000 in
theorem call8 (b:Nat) (W:Wd) (hw:W.wf) (h0:W.at 0=8) (l1:(W.at 1<256)) (w:World) (h:IsR w b W 0):Calls Tryz.prog 24 #[.pointer (some ⟨b,0,none⟩)] w fun e w'=>e=.returned (.agg #[.int .i64 8,.int .i64 0,.int .i64 0,.bool false,.bool false,.bool false,.int .u64 0,.int .i64 0,.int .u64 0,.int .i64 (W.at 1),.int .i64 0,.int .i64 0,.int .i64 0])/\IsR w' b W 2/\Kb b w w':=by
 have N0:Hid (∀ w:World,IsR w b W (0)->Calls Tryz.prog 37 #[.pointer (some ⟨b,0,none⟩),.int .u64 17] w fun e w'=>e=.returned (.int .i64 (W.at (0)))/\IsR w' b W (0+1)/\Kb b w w'):=fun w h=>number_yes b W (0) (by omega) hw 17 (by omega) (by omega) w h
 rw [h0] at N0
 have N1:Hid (∀ w:World,IsR w b W (1)->Calls Tryz.prog 37 #[.pointer (some ⟨b,0,none⟩),.int .u64 256] w fun e w'=>e=.returned (.int .i64 (W.at 1))/\IsR w' b W (2)/\Kb b w w'):=fun w h=>number_yes b W 1 (by omega) hw 256 (by omega) l1 w h
 have p1:=(hw 1).1
 have H0:Hid (IsR w b W 0):=h
 have lt0:=blk_lt h
 clear h hw h0
 generalize W.at 1=x1 at *
 have A0:Hid (IsR (w.alloc (.cells [.int .i64 0,.int .i64 0,.int .i64 0,.bool false,.bool false,.bool false,.int .u64 0,.int .i64 0,.int .u64 0,.int .i64 0,.int .i64 0,.int .i64 0,.int .i64 0].toArray 59)) b W 0):=H0.out.below (Go.Joins.below_alloc1 _ _)
 have Z0:Hid (Blk (w.alloc (.cells [.int .i64 0,.int .i64 0,.int .i64 0,.bool false,.bool false,.bool false,.int .u64 0,.int .i64 0,.int .u64 0,.int .i64 0,.int .i64 0,.int .i64 0,.int .i64 0].toArray 59)) w.heap.size [.int .i64 0,.int .i64 0,.int .i64 0,.bool false,.bool false,.bool false,.int .u64 0,.int .i64 0,.int .u64 0,.int .i64 0,.int .i64 0,.int .i64 0,.int .i64 0] 59):=Blk.made w _ _
 have K0:Hid (Kb b w (w.alloc (.cells [.int .i64 0,.int .i64 0,.int .i64 0,.bool false,.bool false,.bool false,.int .u64 0,.int .i64 0,.int .u64 0,.int .i64 0,.int .i64 0,.int .i64 0,.int .i64 0].toArray 59))):=kb_alloc b w _
 go_enter Tryz.func24,Tryz.ntmps24
 go_wp2_with fail
 refine (N0.out _ A0.out).mono ?_
 rintro e u0 ⟨rfl,h1,k1⟩
 have A1:Hid (IsR u0 b W 1):=h1
 have K1:Hid (Kb b w u0):=K0.out.trans k1
 have Z1:Hid (Blk u0 w.heap.size [.int .i64 0,.int .i64 0,.int .i64 0,.bool false,.bool false,.bool false,.int .u64 0,.int .i64 0,.int .u64 0,.int .i64 0,.int .i64 0,.int .i64 0,.int .i64 0] 59):=Z0.out.kb k1 (by omega)
 clear h1 k1 A0 K0 Z0
 have y4:w.heap.size<u0.heap.size:=blk_lt Z1.out
 go_wp2_with fail
 have A2:Hid (IsR (u0.alloc (.cells #[.int .i64 8,.int .i64 0,.int .i64 0,.bool false,.bool false,.bool false,.int .u64 0,.int .i64 0,.int .u64 0,.int .i64 0,.int .i64 0,.int .i64 0,.int .i64 0] 59)) b W 1):=A1.out.below (Go.Joins.below_alloc1 _ _)
 have K2:Hid (Kb b w (u0.alloc (.cells #[.int .i64 8,.int .i64 0,.int .i64 0,.bool false,.bool false,.bool false,.int .u64 0,.int .i64 0,.int .u64 0,.int .i64 0,.int .i64 0,.int .i64 0,.int .i64 0] 59))):=K1.out.trans (kb_alloc b u0 _)
 have R2:Hid (Blk (u0.alloc (.cells #[.int .i64 8,.int .i64 0,.int .i64 0,.bool false,.bool false,.bool false,.int .u64 0,.int .i64 0,.int .u64 0,.int .i64 0,.int .i64 0,.int .i64 0,.int .i64 0] 59)) w.heap.size [.int .i64 0,.int .i64 0,.int .i64 0,.bool false,.bool false,.bool false,.int .u64 0,.int .i64 0,.int .u64 0,.int .i64 0,.int .i64 0,.int .i64 0,.int .i64 0] 59):=Z1.out.below (Go.Joins.below_alloc1 _ _)
 have C2:Hid (Blk (u0.alloc (.cells #[.int .i64 8,.int .i64 0,.int .i64 0,.bool false,.bool false,.bool false,.int .u64 0,.int .i64 0,.int .u64 0,.int .i64 0,.int .i64 0,.int .i64 0,.int .i64 0] 59)) u0.heap.size [.int .i64 8,.int .i64 0,.int .i64 0,.bool false,.bool false,.bool false,.int .u64 0,.int .i64 0,.int .u64 0,.int .i64 0,.int .i64 0,.int .i64 0,.int .i64 0] 59):=Blk.made u0 _ _
 refine (N1.out _ A2.out).mono ?_
 rintro e u1 ⟨rfl,h1,k1⟩
 have B2:Hid (IsR u1 b W 2):=h1
 have J2:Hid (Kb b w u1):=K2.out.trans k1
 have S2:Hid (Blk u1 w.heap.size [.int .i64 0,.int .i64 0,.int .i64 0,.bool false,.bool false,.bool false,.int .u64 0,.int .i64 0,.int .u64 0,.int .i64 0,.int .i64 0,.int .i64 0,.int .i64 0] 59):=R2.out.kb k1 (by omega)
 have D2:Hid (Blk u1 u0.heap.size [.int .i64 8,.int .i64 0,.int .i64 0,.bool false,.bool false,.bool false,.int .u64 0,.int .i64 0,.int .u64 0,.int .i64 0,.int .i64 0,.int .i64 0,.int .i64 0] 59):=C2.out.kb k1 (by omega)
 have ll2:u0.heap.size<u1.heap.size:=blk_lt D2.out
 clear h1 k1 A2 K2 R2 C2
 have c0_9:u1.cell? ⟨u0.heap.size,9,none⟩=some (.int .i64 0):=D2.out.cell 9
 have f0_9:u1.frozen? ⟨u0.heap.size,9,none⟩=false:=D2.out.free 9
 go_upto_region 40 with fail
 have AV:Hid (IsR (u1.setCell ⟨u0.heap.size,9,none⟩ (.int .i64 x1)) b W 2):=(B2.out.blk.far 9 (.int .i64 x1) (c:=u0.heap.size) (by omega))
 have KV:Hid (Kb b w (u1.setCell ⟨u0.heap.size,9,none⟩ (.int .i64 x1))):=(kb_set J2.out (by omega) 9 (.int .i64 x1))
 have ZR:Hid (Blk (u1.setCell ⟨u0.heap.size,9,none⟩ (.int .i64 x1)) w.heap.size [.int .i64 0,.int .i64 0,.int .i64 0,.bool false,.bool false,.bool false,.int .u64 0,.int .i64 0,.int .u64 0,.int .i64 0,.int .i64 0,.int .i64 0,.int .i64 0] 59):=(S2.out.far 9 (.int .i64 x1) (by omega))
 have ZV:Hid (Blk (u1.setCell ⟨u0.heap.size,9,none⟩ (.int .i64 x1)) u0.heap.size [.int .i64 8,.int .i64 0,.int .i64 0,.bool false,.bool false,.bool false,.int .u64 0,.int .i64 0,.int .u64 0,.int .i64 x1,.int .i64 0,.int .i64 0,.int .i64 0] 59):=(D2.out.set 9 (.int .i64 x1))
 generalize (u1.setCell ⟨u0.heap.size,9,none⟩ (.int .i64 x1))=V at AV KV ZR ZV |-
 refine wp_region_lit ?_
 refine load_pat (u0.heap.size) 0 [.int .i64 8,.int .i64 0,.int .i64 0,.bool false,.bool false,.bool false,.int .u64 0,.int .i64 0,.int .u64 0,.int .i64 x1,.int .i64 0,.int .i64 0,.int .i64 0] _ rfl ZV.out.range Tryz.underlying59 rfl call_info ?_
 refine store_pat w.heap.size 0 #[.int .i64 8,.int .i64 0,.int .i64 0,.bool false,.bool false,.bool false,.int .u64 0,.int .i64 0,.int .u64 0,.int .i64 x1,.int .i64 0,.int .i64 0,.int .i64 0] rfl rfl ZR.out.there call_info (by simp [Value.oneCell']) ?_
 have RV:Hid ((V.setCells w.heap.size 0 ((#[.int .i64 8,.int .i64 0,.int .i64 0,.bool false,.bool false,.bool false,.int .u64 0,.int .i64 0,.int .u64 0,.int .i64 x1,.int .i64 0,.int .i64 0,.int .i64 0]:Array Value).toList)).rangeAt w.heap.size 0 [.int .i64 8,.int .i64 0,.int .i64 0,.bool false,.bool false,.bool false,.int .u64 0,.int .i64 0,.int .u64 0,.int .i64 x1,.int .i64 0,.int .i64 0,.int .i64 0]):=World.rangeAt_setCells_same _ w.heap.size 0 [.int .i64 8,.int .i64 0,.int .i64 0,.bool false,.bool false,.bool false,.int .u64 0,.int .i64 0,.int .u64 0,.int .i64 x1,.int .i64 0,.int .i64 0,.int .i64 0] (show V.there w.heap.size 0 13 from ZR.out.there)
 have AV2:Hid (IsR (V.setCells w.heap.size 0 ((#[.int .i64 8,.int .i64 0,.int .i64 0,.bool false,.bool false,.bool false,.int .u64 0,.int .i64 0,.int .u64 0,.int .i64 x1,.int .i64 0,.int .i64 0,.int .i64 0]:Array Value).toList)) b W 2):=AV.out.scs (by omega) _ _
 have KV2:Hid (Kb b w (V.setCells w.heap.size 0 ((#[.int .i64 8,.int .i64 0,.int .i64 0,.bool false,.bool false,.bool false,.int .u64 0,.int .i64 0,.int .u64 0,.int .i64 x1,.int .i64 0,.int .i64 0,.int .i64 0]:Array Value).toList))):=kb_scs KV.out (Nat.le_refl _) _ _
 generalize V.setCells w.heap.size 0 ((#[.int .i64 8,.int .i64 0,.int .i64 0,.bool false,.bool false,.bool false,.int .u64 0,.int .i64 0,.int .u64 0,.int .i64 x1,.int .i64 0,.int .i64 0,.int .i64 0]:Array Value).toList)=V2 at RV AV2 KV2 |-
 clear AV KV ZR ZV
 go_wp2_with fail
 have hr:=run_loadVar_mid (P:=Tryz.prog) V2 w.heap.size 0 59 [.int .i64 8,.int .i64 0,.int .i64 0,.bool false,.bool false,.bool false,.int .u64 0,.int .i64 0,.int .u64 0,.int .i64 x1,.int .i64 0,.int .i64 0,.int .i64 0] _ RV.out Tryz.underlying59 rfl call_info
 refine bodyPost_ret (v:=.agg #[.int .i64 8,.int .i64 0,.int .i64 0,.bool false,.bool false,.bool false,.int .u64 0,.int .i64 0,.int .u64 0,.int .i64 x1,.int .i64 0,.int .i64 0,.int .i64 0]) ?_ rfl ⟨rfl,AV2.out,KV2.out⟩
 exact results_one Tryz.results24 _ _ _ _ _ rfl hr
set_option maxHeartbeats 4000000 in
theorem call9 (b:Nat) (W:Wd) (hw:W.wf) (h0:W.at 0=9) (l1:(W.at 1<256)) (w:World) (h:IsR w b W 0):Calls Tryz.prog 24 #[.pointer (some ⟨b,0,none⟩)] w fun e w'=>e=.returned (.agg #[.int .i64 9,.int .i64 0,.int .i64 0,.bool false,.bool false,.bool false,.int .u64 0,.int .i64 0,.int .u64 0,.int .i64 (W.at 1),.int .i64 0,.int .i64 0,.int .i64 0])/\IsR w' b W 2/\Kb b w w':=by
 have N0:Hid (∀ w:World,IsR w b W (0)->Calls Tryz.prog 37 #[.pointer (some ⟨b,0,none⟩),.int .u64 17] w fun e w'=>e=.returned (.int .i64 (W.at (0)))/\IsR w' b W (0+1)/\Kb b w w'):=fun w h=>number_yes b W (0) (by omega) hw 17 (by omega) (by omega) w h
 rw [h0] at N0
 have N1:Hid (∀ w:World,IsR w b W (1)->Calls Tryz.prog 37 #[.pointer (some ⟨b,0,none⟩),.int .u64 256] w fun e w'=>e=.returned (.int .i64 (W.at 1))/\IsR w' b W (2)/\Kb b w w'):=fun w h=>number_yes b W 1 (by omega) hw 256 (by omega) l1 w h
 have p1:=(hw 1).1
 have H0:Hid (IsR w b W 0):=h
 have lt0:=blk_lt h
 clear h hw h0
 generalize W.at 1=x1 at *
 have A0:Hid (IsR (w.alloc (.cells [.int .i64 0,.int .i64 0,.int .i64 0,.bool false,.bool false,.bool false,.int .u64 0,.int .i64 0,.int .u64 0,.int .i64 0,.int .i64 0,.int .i64 0,.int .i64 0].toArray 59)) b W 0):=H0.out.below (Go.Joins.below_alloc1 _ _)
 have Z0:Hid (Blk (w.alloc (.cells [.int .i64 0,.int .i64 0,.int .i64 0,.bool false,.bool false,.bool false,.int .u64 0,.int .i64 0,.int .u64 0,.int .i64 0,.int .i64 0,.int .i64 0,.int .i64 0].toArray 59)) w.heap.size [.int .i64 0,.int .i64 0,.int .i64 0,.bool false,.bool false,.bool false,.int .u64 0,.int .i64 0,.int .u64 0,.int .i64 0,.int .i64 0,.int .i64 0,.int .i64 0] 59):=Blk.made w _ _
 have K0:Hid (Kb b w (w.alloc (.cells [.int .i64 0,.int .i64 0,.int .i64 0,.bool false,.bool false,.bool false,.int .u64 0,.int .i64 0,.int .u64 0,.int .i64 0,.int .i64 0,.int .i64 0,.int .i64 0].toArray 59))):=kb_alloc b w _
 go_enter Tryz.func24,Tryz.ntmps24
 go_wp2_with fail
 refine (N0.out _ A0.out).mono ?_
 rintro e u0 ⟨rfl,h1,k1⟩
 have A1:Hid (IsR u0 b W 1):=h1
 have K1:Hid (Kb b w u0):=K0.out.trans k1
 have Z1:Hid (Blk u0 w.heap.size [.int .i64 0,.int .i64 0,.int .i64 0,.bool false,.bool false,.bool false,.int .u64 0,.int .i64 0,.int .u64 0,.int .i64 0,.int .i64 0,.int .i64 0,.int .i64 0] 59):=Z0.out.kb k1 (by omega)
 clear h1 k1 A0 K0 Z0
 have y4:w.heap.size<u0.heap.size:=blk_lt Z1.out
 go_wp2_with fail
 have A2:Hid (IsR (u0.alloc (.cells #[.int .i64 9,.int .i64 0,.int .i64 0,.bool false,.bool false,.bool false,.int .u64 0,.int .i64 0,.int .u64 0,.int .i64 0,.int .i64 0,.int .i64 0,.int .i64 0] 59)) b W 1):=A1.out.below (Go.Joins.below_alloc1 _ _)
 have K2:Hid (Kb b w (u0.alloc (.cells #[.int .i64 9,.int .i64 0,.int .i64 0,.bool false,.bool false,.bool false,.int .u64 0,.int .i64 0,.int .u64 0,.int .i64 0,.int .i64 0,.int .i64 0,.int .i64 0] 59))):=K1.out.trans (kb_alloc b u0 _)
 have R2:Hid (Blk (u0.alloc (.cells #[.int .i64 9,.int .i64 0,.int .i64 0,.bool false,.bool false,.bool false,.int .u64 0,.int .i64 0,.int .u64 0,.int .i64 0,.int .i64 0,.int .i64 0,.int .i64 0] 59)) w.heap.size [.int .i64 0,.int .i64 0,.int .i64 0,.bool false,.bool false,.bool false,.int .u64 0,.int .i64 0,.int .u64 0,.int .i64 0,.int .i64 0,.int .i64 0,.int .i64 0] 59):=Z1.out.below (Go.Joins.below_alloc1 _ _)
 have C2:Hid (Blk (u0.alloc (.cells #[.int .i64 9,.int .i64 0,.int .i64 0,.bool false,.bool false,.bool false,.int .u64 0,.int .i64 0,.int .u64 0,.int .i64 0,.int .i64 0,.int .i64 0,.int .i64 0] 59)) u0.heap.size [.int .i64 9,.int .i64 0,.int .i64 0,.bool false,.bool false,.bool false,.int .u64 0,.int .i64 0,.int .u64 0,.int .i64 0,.int .i64 0,.int .i64 0,.int .i64 0] 59):=Blk.made u0 _ _
 refine (N1.out _ A2.out).mono ?_
 rintro e u1 ⟨rfl,h1,k1⟩
 have B2:Hid (IsR u1 b W 2):=h1
 have J2:Hid (Kb b w u1):=K2.out.trans k1
 have S2:Hid (Blk u1 w.heap.size [.int .i64 0,.int .i64 0,.int .i64 0,.bool false,.bool false,.bool false,.int .u64 0,.int .i64 0,.int .u64 0,.int .i64 0,.int .i64 0,.int .i64 0,.int .i64 0] 59):=R2.out.kb k1 (by omega)
 have D2:Hid (Blk u1 u0.heap.size [.int .i64 9,.int .i64 0,.int .i64 0,.bool false,.bool false,.bool false,.int .u64 0,.int .i64 0,.int .u64 0,.int .i64 0,.int .i64 0,.int .i64 0,.int .i64 0] 59):=C2.out.kb k1 (by omega)
 have ll2:u0.heap.size<u1.heap.size:=blk_lt D2.out
 clear h1 k1 A2 K2 R2 C2
 have c0_9:u1.cell? ⟨u0.heap.size,9,none⟩=some (.int .i64 0):=D2.out.cell 9
 have f0_9:u1.frozen? ⟨u0.heap.size,9,none⟩=false:=D2.out.free 9
 go_upto_region 40 with fail
 have AV:Hid (IsR (u1.setCell ⟨u0.heap.size,9,none⟩ (.int .i64 x1)) b W 2):=(B2.out.blk.far 9 (.int .i64 x1) (c:=u0.heap.size) (by omega))
 have KV:Hid (Kb b w (u1.setCell ⟨u0.heap.size,9,none⟩ (.int .i64 x1))):=(kb_set J2.out (by omega) 9 (.int .i64 x1))
 have ZR:Hid (Blk (u1.setCell ⟨u0.heap.size,9,none⟩ (.int .i64 x1)) w.heap.size [.int .i64 0,.int .i64 0,.int .i64 0,.bool false,.bool false,.bool false,.int .u64 0,.int .i64 0,.int .u64 0,.int .i64 0,.int .i64 0,.int .i64 0,.int .i64 0] 59):=(S2.out.far 9 (.int .i64 x1) (by omega))
 have ZV:Hid (Blk (u1.setCell ⟨u0.heap.size,9,none⟩ (.int .i64 x1)) u0.heap.size [.int .i64 9,.int .i64 0,.int .i64 0,.bool false,.bool false,.bool false,.int .u64 0,.int .i64 0,.int .u64 0,.int .i64 x1,.int .i64 0,.int .i64 0,.int .i64 0] 59):=(D2.out.set 9 (.int .i64 x1))
 generalize (u1.setCell ⟨u0.heap.size,9,none⟩ (.int .i64 x1))=V at AV KV ZR ZV |-
 refine wp_region_lit ?_
 refine load_pat (u0.heap.size) 0 [.int .i64 9,.int .i64 0,.int .i64 0,.bool false,.bool false,.bool false,.int .u64 0,.int .i64 0,.int .u64 0,.int .i64 x1,.int .i64 0,.int .i64 0,.int .i64 0] _ rfl ZV.out.range Tryz.underlying59 rfl call_info ?_
 refine store_pat w.heap.size 0 #[.int .i64 9,.int .i64 0,.int .i64 0,.bool false,.bool false,.bool false,.int .u64 0,.int .i64 0,.int .u64 0,.int .i64 x1,.int .i64 0,.int .i64 0,.int .i64 0] rfl rfl ZR.out.there call_info (by simp [Value.oneCell']) ?_
 have RV:Hid ((V.setCells w.heap.size 0 ((#[.int .i64 9,.int .i64 0,.int .i64 0,.bool false,.bool false,.bool false,.int .u64 0,.int .i64 0,.int .u64 0,.int .i64 x1,.int .i64 0,.int .i64 0,.int .i64 0]:Array Value).toList)).rangeAt w.heap.size 0 [.int .i64 9,.int .i64 0,.int .i64 0,.bool false,.bool false,.bool false,.int .u64 0,.int .i64 0,.int .u64 0,.int .i64 x1,.int .i64 0,.int .i64 0,.int .i64 0]):=World.rangeAt_setCells_same _ w.heap.size 0 [.int .i64 9,.int .i64 0,.int .i64 0,.bool false,.bool false,.bool false,.int .u64 0,.int .i64 0,.int .u64 0,.int .i64 x1,.int .i64 0,.int .i64 0,.int .i64 0] (show V.there w.heap.size 0 13 from ZR.out.there)
 have AV2:Hid (IsR (V.setCells w.heap.size 0 ((#[.int .i64 9,.int .i64 0,.int .i64 0,.bool false,.bool false,.bool false,.int .u64 0,.int .i64 0,.int .u64 0,.int .i64 x1,.int .i64 0,.int .i64 0,.int .i64 0]:Array Value).toList)) b W 2):=AV.out.scs (by omega) _ _
 have KV2:Hid (Kb b w (V.setCells w.heap.size 0 ((#[.int .i64 9,.int .i64 0,.int .i64 0,.bool false,.bool false,.bool false,.int .u64 0,.int .i64 0,.int .u64 0,.int .i64 x1,.int .i64 0,.int .i64 0,.int .i64 0]:Array Value).toList))):=kb_scs KV.out (Nat.le_refl _) _ _
 generalize V.setCells w.heap.size 0 ((#[.int .i64 9,.int .i64 0,.int .i64 0,.bool false,.bool false,.bool false,.int .u64 0,.int .i64 0,.int .u64 0,.int .i64 x1,.int .i64 0,.int .i64 0,.int .i64 0]:Array Value).toList)=V2 at RV AV2 KV2 |-
 clear AV KV ZR ZV
 go_wp2_with fail
 have hr:=run_loadVar_mid (P:=Tryz.prog) V2 w.heap.size 0 59 [.int .i64 9,.int .i64 0,.int .i64 0,.bool false,.bool false,.bool false,.int .u64 0,.int .i64 0,.int .u64 0,.int .i64 x1,.int .i64 0,.int .i64 0,.int .i64 0] _ RV.out Tryz.underlying59 rfl call_info
 refine bodyPost_ret (v:=.agg #[.int .i64 9,.int .i64 0,.int .i64 0,.bool false,.bool false,.bool false,.int .u64 0,.int .i64 0,.int .u64 0,.int .i64 x1,.int .i64 0,.int .i64 0,.int .i64 0]) ?_ rfl ⟨rfl,AV2.out,KV2.out⟩
 exact results_one Tryz.results24 _ _ _ _ _ rfl hr
end Go.Proofs.YtlaiadheelgbdaaGreat.Ca
namespace Go.Proofs.YtlaiadheelgbdaaGreat.Ca
open Go.ChangeShapes Go.WideShapes Go.ChangeAt Go.RowKit Go.Maps
set_option linter.unusedSimpArgs false
set_option linter.unusedVariables false
set_option maxRecDepth 8000
set_option maxHeartbeats 4000000 in
theorem call10 (b:Nat) (W:Wd) (hw:W.wf) (h0:W.at 0=10) (l1:(W.at 1<140737488355328)) (w:World) (h:IsR w b W 0):Calls Tryz.prog 24 #[.pointer (some ⟨b,0,none⟩)] w fun e w'=>e=.returned (.agg #[.int .i64 10,.int .i64 0,.int .i64 0,.bool false,.bool false,.bool false,.int .u64 (W.at 1),.int .i64 0,.int .u64 0,.int .i64 0,.int .i64 0,.int .i64 0,.int .i64 0])/\IsR w' b W 2/\Kb b w w':=by
 have N0:Hid (∀ w:World,IsR w b W (0)->Calls Tryz.prog 37 #[.pointer (some ⟨b,0,none⟩),.int .u64 17] w fun e w'=>e=.returned (.int .i64 (W.at (0)))/\IsR w' b W (0+1)/\Kb b w w'):=fun w h=>number_yes b W (0) (by omega) hw 17 (by omega) (by omega) w h
 rw [h0] at N0
 have N1:Hid (∀ w:World,IsR w b W (1)->Calls Tryz.prog 43 #[.pointer (some ⟨b,0,none⟩),.int .u64 140737488355328] w fun e w'=>e=.returned (.int .u64 (W.at 1))/\IsR w' b W (2)/\Kb b w w'):=fun w h=>below_yes b W 1 (by omega) 140737488355328 l1 w h
 have p1:=(hw 1).1
 have H0:Hid (IsR w b W 0):=h
 have lt0:=blk_lt h
 clear h hw h0
 generalize W.at 1=x1 at *
 have A0:Hid (IsR (w.alloc (.cells [.int .i64 0,.int .i64 0,.int .i64 0,.bool false,.bool false,.bool false,.int .u64 0,.int .i64 0,.int .u64 0,.int .i64 0,.int .i64 0,.int .i64 0,.int .i64 0].toArray 59)) b W 0):=H0.out.below (Go.Joins.below_alloc1 _ _)
 have Z0:Hid (Blk (w.alloc (.cells [.int .i64 0,.int .i64 0,.int .i64 0,.bool false,.bool false,.bool false,.int .u64 0,.int .i64 0,.int .u64 0,.int .i64 0,.int .i64 0,.int .i64 0,.int .i64 0].toArray 59)) w.heap.size [.int .i64 0,.int .i64 0,.int .i64 0,.bool false,.bool false,.bool false,.int .u64 0,.int .i64 0,.int .u64 0,.int .i64 0,.int .i64 0,.int .i64 0,.int .i64 0] 59):=Blk.made w _ _
 have K0:Hid (Kb b w (w.alloc (.cells [.int .i64 0,.int .i64 0,.int .i64 0,.bool false,.bool false,.bool false,.int .u64 0,.int .i64 0,.int .u64 0,.int .i64 0,.int .i64 0,.int .i64 0,.int .i64 0].toArray 59))):=kb_alloc b w _
 go_enter Tryz.func24,Tryz.ntmps24
 go_wp2_with fail
 refine (N0.out _ A0.out).mono ?_
 rintro e u0 ⟨rfl,h1,k1⟩
 have A1:Hid (IsR u0 b W 1):=h1
 have K1:Hid (Kb b w u0):=K0.out.trans k1
 have Z1:Hid (Blk u0 w.heap.size [.int .i64 0,.int .i64 0,.int .i64 0,.bool false,.bool false,.bool false,.int .u64 0,.int .i64 0,.int .u64 0,.int .i64 0,.int .i64 0,.int .i64 0,.int .i64 0] 59):=Z0.out.kb k1 (by omega)
 clear h1 k1 A0 K0 Z0
 have y4:w.heap.size<u0.heap.size:=blk_lt Z1.out
 go_wp2_with fail
 have A2:Hid (IsR (u0.alloc (.cells #[.int .i64 10,.int .i64 0,.int .i64 0,.bool false,.bool false,.bool false,.int .u64 0,.int .i64 0,.int .u64 0,.int .i64 0,.int .i64 0,.int .i64 0,.int .i64 0] 59)) b W 1):=A1.out.below (Go.Joins.below_alloc1 _ _)
 have K2:Hid (Kb b w (u0.alloc (.cells #[.int .i64 10,.int .i64 0,.int .i64 0,.bool false,.bool false,.bool false,.int .u64 0,.int .i64 0,.int .u64 0,.int .i64 0,.int .i64 0,.int .i64 0,.int .i64 0] 59))):=K1.out.trans (kb_alloc b u0 _)
 have R2:Hid (Blk (u0.alloc (.cells #[.int .i64 10,.int .i64 0,.int .i64 0,.bool false,.bool false,.bool false,.int .u64 0,.int .i64 0,.int .u64 0,.int .i64 0,.int .i64 0,.int .i64 0,.int .i64 0] 59)) w.heap.size [.int .i64 0,.int .i64 0,.int .i64 0,.bool false,.bool false,.bool false,.int .u64 0,.int .i64 0,.int .u64 0,.int .i64 0,.int .i64 0,.int .i64 0,.int .i64 0] 59):=Z1.out.below (Go.Joins.below_alloc1 _ _)
 have C2:Hid (Blk (u0.alloc (.cells #[.int .i64 10,.int .i64 0,.int .i64 0,.bool false,.bool false,.bool false,.int .u64 0,.int .i64 0,.int .u64 0,.int .i64 0,.int .i64 0,.int .i64 0,.int .i64 0] 59)) u0.heap.size [.int .i64 10,.int .i64 0,.int .i64 0,.bool false,.bool false,.bool false,.int .u64 0,.int .i64 0,.int .u64 0,.int .i64 0,.int .i64 0,.int .i64 0,.int .i64 0] 59):=Blk.made u0 _ _
 refine (N1.out _ A2.out).mono ?_
 rintro e u1 ⟨rfl,h1,k1⟩
 have B2:Hid (IsR u1 b W 2):=h1
 have J2:Hid (Kb b w u1):=K2.out.trans k1
 have S2:Hid (Blk u1 w.heap.size [.int .i64 0,.int .i64 0,.int .i64 0,.bool false,.bool false,.bool false,.int .u64 0,.int .i64 0,.int .u64 0,.int .i64 0,.int .i64 0,.int .i64 0,.int .i64 0] 59):=R2.out.kb k1 (by omega)
 have D2:Hid (Blk u1 u0.heap.size [.int .i64 10,.int .i64 0,.int .i64 0,.bool false,.bool false,.bool false,.int .u64 0,.int .i64 0,.int .u64 0,.int .i64 0,.int .i64 0,.int .i64 0,.int .i64 0] 59):=C2.out.kb k1 (by omega)
 have ll2:u0.heap.size<u1.heap.size:=blk_lt D2.out
 clear h1 k1 A2 K2 R2 C2
 have c0_6:u1.cell? ⟨u0.heap.size,6,none⟩=some (.int .u64 0):=D2.out.cell 6
 have f0_6:u1.frozen? ⟨u0.heap.size,6,none⟩=false:=D2.out.free 6
 go_upto_region 40 with fail
 have AV:Hid (IsR (u1.setCell ⟨u0.heap.size,6,none⟩ (.int .u64 x1)) b W 2):=(B2.out.blk.far 6 (.int .u64 x1) (c:=u0.heap.size) (by omega))
 have KV:Hid (Kb b w (u1.setCell ⟨u0.heap.size,6,none⟩ (.int .u64 x1))):=(kb_set J2.out (by omega) 6 (.int .u64 x1))
 have ZR:Hid (Blk (u1.setCell ⟨u0.heap.size,6,none⟩ (.int .u64 x1)) w.heap.size [.int .i64 0,.int .i64 0,.int .i64 0,.bool false,.bool false,.bool false,.int .u64 0,.int .i64 0,.int .u64 0,.int .i64 0,.int .i64 0,.int .i64 0,.int .i64 0] 59):=(S2.out.far 6 (.int .u64 x1) (by omega))
 have ZV:Hid (Blk (u1.setCell ⟨u0.heap.size,6,none⟩ (.int .u64 x1)) u0.heap.size [.int .i64 10,.int .i64 0,.int .i64 0,.bool false,.bool false,.bool false,.int .u64 x1,.int .i64 0,.int .u64 0,.int .i64 0,.int .i64 0,.int .i64 0,.int .i64 0] 59):=(D2.out.set 6 (.int .u64 x1))
 generalize (u1.setCell ⟨u0.heap.size,6,none⟩ (.int .u64 x1))=V at AV KV ZR ZV |-
 refine wp_region_lit ?_
 refine load_pat (u0.heap.size) 0 [.int .i64 10,.int .i64 0,.int .i64 0,.bool false,.bool false,.bool false,.int .u64 x1,.int .i64 0,.int .u64 0,.int .i64 0,.int .i64 0,.int .i64 0,.int .i64 0] _ rfl ZV.out.range Tryz.underlying59 rfl call_info ?_
 refine store_pat w.heap.size 0 #[.int .i64 10,.int .i64 0,.int .i64 0,.bool false,.bool false,.bool false,.int .u64 x1,.int .i64 0,.int .u64 0,.int .i64 0,.int .i64 0,.int .i64 0,.int .i64 0] rfl rfl ZR.out.there call_info (by simp [Value.oneCell']) ?_
 have RV:Hid ((V.setCells w.heap.size 0 ((#[.int .i64 10,.int .i64 0,.int .i64 0,.bool false,.bool false,.bool false,.int .u64 x1,.int .i64 0,.int .u64 0,.int .i64 0,.int .i64 0,.int .i64 0,.int .i64 0]:Array Value).toList)).rangeAt w.heap.size 0 [.int .i64 10,.int .i64 0,.int .i64 0,.bool false,.bool false,.bool false,.int .u64 x1,.int .i64 0,.int .u64 0,.int .i64 0,.int .i64 0,.int .i64 0,.int .i64 0]):=World.rangeAt_setCells_same _ w.heap.size 0 [.int .i64 10,.int .i64 0,.int .i64 0,.bool false,.bool false,.bool false,.int .u64 x1,.int .i64 0,.int .u64 0,.int .i64 0,.int .i64 0,.int .i64 0,.int .i64 0] (show V.there w.heap.size 0 13 from ZR.out.there)
 have AV2:Hid (IsR (V.setCells w.heap.size 0 ((#[.int .i64 10,.int .i64 0,.int .i64 0,.bool false,.bool false,.bool false,.int .u64 x1,.int .i64 0,.int .u64 0,.int .i64 0,.int .i64 0,.int .i64 0,.int .i64 0]:Array Value).toList)) b W 2):=AV.out.scs (by omega) _ _
 have KV2:Hid (Kb b w (V.setCells w.heap.size 0 ((#[.int .i64 10,.int .i64 0,.int .i64 0,.bool false,.bool false,.bool false,.int .u64 x1,.int .i64 0,.int .u64 0,.int .i64 0,.int .i64 0,.int .i64 0,.int .i64 0]:Array Value).toList))):=kb_scs KV.out (Nat.le_refl _) _ _
 generalize V.setCells w.heap.size 0 ((#[.int .i64 10,.int .i64 0,.int .i64 0,.bool false,.bool false,.bool false,.int .u64 x1,.int .i64 0,.int .u64 0,.int .i64 0,.int .i64 0,.int .i64 0,.int .i64 0]:Array Value).toList)=V2 at RV AV2 KV2 |-
 clear AV KV ZR ZV
 go_wp2_with fail
 have hr:=run_loadVar_mid (P:=Tryz.prog) V2 w.heap.size 0 59 [.int .i64 10,.int .i64 0,.int .i64 0,.bool false,.bool false,.bool false,.int .u64 x1,.int .i64 0,.int .u64 0,.int .i64 0,.int .i64 0,.int .i64 0,.int .i64 0] _ RV.out Tryz.underlying59 rfl call_info
 refine bodyPost_ret (v:=.agg #[.int .i64 10,.int .i64 0,.int .i64 0,.bool false,.bool false,.bool false,.int .u64 x1,.int .i64 0,.int .u64 0,.int .i64 0,.int .i64 0,.int .i64 0,.int .i64 0]) ?_ rfl ⟨rfl,AV2.out,KV2.out⟩
 exact results_one Tryz.results24 _ _ _ _ _ rfl hr
set_option maxHeartbeats 4000000 in
theorem call12 (b:Nat) (W:Wd) (hw:W.wf) (h0:W.at 0=12) (l1:(W.at 1<1048577)) (w:World) (h:IsR w b W 0):Calls Tryz.prog 24 #[.pointer (some ⟨b,0,none⟩)] w fun e w'=>e=.returned (.agg #[.int .i64 12,.int .i64 0,.int .i64 0,.bool false,.bool false,.bool false,.int .u64 0,.int .i64 0,.int .u64 0,.int .i64 (W.at 1),.int .i64 0,.int .i64 0,.int .i64 0])/\IsR w' b W 2/\Kb b w w':=by
 have N0:Hid (∀ w:World,IsR w b W (0)->Calls Tryz.prog 37 #[.pointer (some ⟨b,0,none⟩),.int .u64 17] w fun e w'=>e=.returned (.int .i64 (W.at (0)))/\IsR w' b W (0+1)/\Kb b w w'):=fun w h=>number_yes b W (0) (by omega) hw 17 (by omega) (by omega) w h
 rw [h0] at N0
 have N1:Hid (∀ w:World,IsR w b W (1)->Calls Tryz.prog 37 #[.pointer (some ⟨b,0,none⟩),.int .u64 1048577] w fun e w'=>e=.returned (.int .i64 (W.at 1))/\IsR w' b W (2)/\Kb b w w'):=fun w h=>number_yes b W 1 (by omega) hw 1048577 (by omega) l1 w h
 have p1:=(hw 1).1
 have H0:Hid (IsR w b W 0):=h
 have lt0:=blk_lt h
 clear h hw h0
 generalize W.at 1=x1 at *
 have A0:Hid (IsR (w.alloc (.cells [.int .i64 0,.int .i64 0,.int .i64 0,.bool false,.bool false,.bool false,.int .u64 0,.int .i64 0,.int .u64 0,.int .i64 0,.int .i64 0,.int .i64 0,.int .i64 0].toArray 59)) b W 0):=H0.out.below (Go.Joins.below_alloc1 _ _)
 have Z0:Hid (Blk (w.alloc (.cells [.int .i64 0,.int .i64 0,.int .i64 0,.bool false,.bool false,.bool false,.int .u64 0,.int .i64 0,.int .u64 0,.int .i64 0,.int .i64 0,.int .i64 0,.int .i64 0].toArray 59)) w.heap.size [.int .i64 0,.int .i64 0,.int .i64 0,.bool false,.bool false,.bool false,.int .u64 0,.int .i64 0,.int .u64 0,.int .i64 0,.int .i64 0,.int .i64 0,.int .i64 0] 59):=Blk.made w _ _
 have K0:Hid (Kb b w (w.alloc (.cells [.int .i64 0,.int .i64 0,.int .i64 0,.bool false,.bool false,.bool false,.int .u64 0,.int .i64 0,.int .u64 0,.int .i64 0,.int .i64 0,.int .i64 0,.int .i64 0].toArray 59))):=kb_alloc b w _
 go_enter Tryz.func24,Tryz.ntmps24
 go_wp2_with fail
 refine (N0.out _ A0.out).mono ?_
 rintro e u0 ⟨rfl,h1,k1⟩
 have A1:Hid (IsR u0 b W 1):=h1
 have K1:Hid (Kb b w u0):=K0.out.trans k1
 have Z1:Hid (Blk u0 w.heap.size [.int .i64 0,.int .i64 0,.int .i64 0,.bool false,.bool false,.bool false,.int .u64 0,.int .i64 0,.int .u64 0,.int .i64 0,.int .i64 0,.int .i64 0,.int .i64 0] 59):=Z0.out.kb k1 (by omega)
 clear h1 k1 A0 K0 Z0
 have y4:w.heap.size<u0.heap.size:=blk_lt Z1.out
 go_wp2_with fail
 have A2:Hid (IsR (u0.alloc (.cells #[.int .i64 12,.int .i64 0,.int .i64 0,.bool false,.bool false,.bool false,.int .u64 0,.int .i64 0,.int .u64 0,.int .i64 0,.int .i64 0,.int .i64 0,.int .i64 0] 59)) b W 1):=A1.out.below (Go.Joins.below_alloc1 _ _)
 have K2:Hid (Kb b w (u0.alloc (.cells #[.int .i64 12,.int .i64 0,.int .i64 0,.bool false,.bool false,.bool false,.int .u64 0,.int .i64 0,.int .u64 0,.int .i64 0,.int .i64 0,.int .i64 0,.int .i64 0] 59))):=K1.out.trans (kb_alloc b u0 _)
 have R2:Hid (Blk (u0.alloc (.cells #[.int .i64 12,.int .i64 0,.int .i64 0,.bool false,.bool false,.bool false,.int .u64 0,.int .i64 0,.int .u64 0,.int .i64 0,.int .i64 0,.int .i64 0,.int .i64 0] 59)) w.heap.size [.int .i64 0,.int .i64 0,.int .i64 0,.bool false,.bool false,.bool false,.int .u64 0,.int .i64 0,.int .u64 0,.int .i64 0,.int .i64 0,.int .i64 0,.int .i64 0] 59):=Z1.out.below (Go.Joins.below_alloc1 _ _)
 have C2:Hid (Blk (u0.alloc (.cells #[.int .i64 12,.int .i64 0,.int .i64 0,.bool false,.bool false,.bool false,.int .u64 0,.int .i64 0,.int .u64 0,.int .i64 0,.int .i64 0,.int .i64 0,.int .i64 0] 59)) u0.heap.size [.int .i64 12,.int .i64 0,.int .i64 0,.bool false,.bool false,.bool false,.int .u64 0,.int .i64 0,.int .u64 0,.int .i64 0,.int .i64 0,.int .i64 0,.int .i64 0] 59):=Blk.made u0 _ _
 refine (N1.out _ A2.out).mono ?_
 rintro e u1 ⟨rfl,h1,k1⟩
 have B2:Hid (IsR u1 b W 2):=h1
 have J2:Hid (Kb b w u1):=K2.out.trans k1
 have S2:Hid (Blk u1 w.heap.size [.int .i64 0,.int .i64 0,.int .i64 0,.bool false,.bool false,.bool false,.int .u64 0,.int .i64 0,.int .u64 0,.int .i64 0,.int .i64 0,.int .i64 0,.int .i64 0] 59):=R2.out.kb k1 (by omega)
 have D2:Hid (Blk u1 u0.heap.size [.int .i64 12,.int .i64 0,.int .i64 0,.bool false,.bool false,.bool false,.int .u64 0,.int .i64 0,.int .u64 0,.int .i64 0,.int .i64 0,.int .i64 0,.int .i64 0] 59):=C2.out.kb k1 (by omega)
 have ll2:u0.heap.size<u1.heap.size:=blk_lt D2.out
 clear h1 k1 A2 K2 R2 C2
 have c0_9:u1.cell? ⟨u0.heap.size,9,none⟩=some (.int .i64 0):=D2.out.cell 9
 have f0_9:u1.frozen? ⟨u0.heap.size,9,none⟩=false:=D2.out.free 9
 go_upto_region 40 with fail
 have AV:Hid (IsR (u1.setCell ⟨u0.heap.size,9,none⟩ (.int .i64 x1)) b W 2):=(B2.out.blk.far 9 (.int .i64 x1) (c:=u0.heap.size) (by omega))
 have KV:Hid (Kb b w (u1.setCell ⟨u0.heap.size,9,none⟩ (.int .i64 x1))):=(kb_set J2.out (by omega) 9 (.int .i64 x1))
 have ZR:Hid (Blk (u1.setCell ⟨u0.heap.size,9,none⟩ (.int .i64 x1)) w.heap.size [.int .i64 0,.int .i64 0,.int .i64 0,.bool false,.bool false,.bool false,.int .u64 0,.int .i64 0,.int .u64 0,.int .i64 0,.int .i64 0,.int .i64 0,.int .i64 0] 59):=(S2.out.far 9 (.int .i64 x1) (by omega))
 have ZV:Hid (Blk (u1.setCell ⟨u0.heap.size,9,none⟩ (.int .i64 x1)) u0.heap.size [.int .i64 12,.int .i64 0,.int .i64 0,.bool false,.bool false,.bool false,.int .u64 0,.int .i64 0,.int .u64 0,.int .i64 x1,.int .i64 0,.int .i64 0,.int .i64 0] 59):=(D2.out.set 9 (.int .i64 x1))
 generalize (u1.setCell ⟨u0.heap.size,9,none⟩ (.int .i64 x1))=V at AV KV ZR ZV |-
 refine wp_region_lit ?_
 refine load_pat (u0.heap.size) 0 [.int .i64 12,.int .i64 0,.int .i64 0,.bool false,.bool false,.bool false,.int .u64 0,.int .i64 0,.int .u64 0,.int .i64 x1,.int .i64 0,.int .i64 0,.int .i64 0] _ rfl ZV.out.range Tryz.underlying59 rfl call_info ?_
 refine store_pat w.heap.size 0 #[.int .i64 12,.int .i64 0,.int .i64 0,.bool false,.bool false,.bool false,.int .u64 0,.int .i64 0,.int .u64 0,.int .i64 x1,.int .i64 0,.int .i64 0,.int .i64 0] rfl rfl ZR.out.there call_info (by simp [Value.oneCell']) ?_
 have RV:Hid ((V.setCells w.heap.size 0 ((#[.int .i64 12,.int .i64 0,.int .i64 0,.bool false,.bool false,.bool false,.int .u64 0,.int .i64 0,.int .u64 0,.int .i64 x1,.int .i64 0,.int .i64 0,.int .i64 0]:Array Value).toList)).rangeAt w.heap.size 0 [.int .i64 12,.int .i64 0,.int .i64 0,.bool false,.bool false,.bool false,.int .u64 0,.int .i64 0,.int .u64 0,.int .i64 x1,.int .i64 0,.int .i64 0,.int .i64 0]):=World.rangeAt_setCells_same _ w.heap.size 0 [.int .i64 12,.int .i64 0,.int .i64 0,.bool false,.bool false,.bool false,.int .u64 0,.int .i64 0,.int .u64 0,.int .i64 x1,.int .i64 0,.int .i64 0,.int .i64 0] (show V.there w.heap.size 0 13 from ZR.out.there)
 have AV2:Hid (IsR (V.setCells w.heap.size 0 ((#[.int .i64 12,.int .i64 0,.int .i64 0,.bool false,.bool false,.bool false,.int .u64 0,.int .i64 0,.int .u64 0,.int .i64 x1,.int .i64 0,.int .i64 0,.int .i64 0]:Array Value).toList)) b W 2):=AV.out.scs (by omega) _ _
 have KV2:Hid (Kb b w (V.setCells w.heap.size 0 ((#[.int .i64 12,.int .i64 0,.int .i64 0,.bool false,.bool false,.bool false,.int .u64 0,.int .i64 0,.int .u64 0,.int .i64 x1,.int .i64 0,.int .i64 0,.int .i64 0]:Array Value).toList))):=kb_scs KV.out (Nat.le_refl _) _ _
 generalize V.setCells w.heap.size 0 ((#[.int .i64 12,.int .i64 0,.int .i64 0,.bool false,.bool false,.bool false,.int .u64 0,.int .i64 0,.int .u64 0,.int .i64 x1,.int .i64 0,.int .i64 0,.int .i64 0]:Array Value).toList)=V2 at RV AV2 KV2 |-
 clear AV KV ZR ZV
 go_wp2_with fail
 have hr:=run_loadVar_mid (P:=Tryz.prog) V2 w.heap.size 0 59 [.int .i64 12,.int .i64 0,.int .i64 0,.bool false,.bool false,.bool false,.int .u64 0,.int .i64 0,.int .u64 0,.int .i64 x1,.int .i64 0,.int .i64 0,.int .i64 0] _ RV.out Tryz.underlying59 rfl call_info
 refine bodyPost_ret (v:=.agg #[.int .i64 12,.int .i64 0,.int .i64 0,.bool false,.bool false,.bool false,.int .u64 0,.int .i64 0,.int .u64 0,.int .i64 x1,.int .i64 0,.int .i64 0,.int .i64 0]) ?_ rfl ⟨rfl,AV2.out,KV2.out⟩
 exact results_one Tryz.results24 _ _ _ _ _ rfl hr
set_option maxHeartbeats 4000000 in
theorem call13 (b:Nat) (W:Wd) (hw:W.wf) (h0:W.at 0=13) (w:World) (h:IsR w b W 0):Calls Tryz.prog 24 #[.pointer (some ⟨b,0,none⟩)] w fun e w'=>e=.returned (.agg #[.int .i64 13,.int .i64 0,.int .i64 0,.bool false,.bool false,.bool false,.int .u64 0,.int .i64 0,.int .u64 0,.int .i64 0,.int .i64 0,.int .i64 0,.int .i64 0])/\IsR w' b W 1/\Kb b w w':=by
 have N0:Hid (∀ w:World,IsR w b W (0)->Calls Tryz.prog 37 #[.pointer (some ⟨b,0,none⟩),.int .u64 17] w fun e w'=>e=.returned (.int .i64 (W.at (0)))/\IsR w' b W (0+1)/\Kb b w w'):=fun w h=>number_yes b W (0) (by omega) hw 17 (by omega) (by omega) w h
 rw [h0] at N0
 have p1:=(hw 1).1
 have H0:Hid (IsR w b W 0):=h
 have lt0:=blk_lt h
 clear h hw h0
 have A0:Hid (IsR (w.alloc (.cells [.int .i64 0,.int .i64 0,.int .i64 0,.bool false,.bool false,.bool false,.int .u64 0,.int .i64 0,.int .u64 0,.int .i64 0,.int .i64 0,.int .i64 0,.int .i64 0].toArray 59)) b W 0):=H0.out.below (Go.Joins.below_alloc1 _ _)
 have Z0:Hid (Blk (w.alloc (.cells [.int .i64 0,.int .i64 0,.int .i64 0,.bool false,.bool false,.bool false,.int .u64 0,.int .i64 0,.int .u64 0,.int .i64 0,.int .i64 0,.int .i64 0,.int .i64 0].toArray 59)) w.heap.size [.int .i64 0,.int .i64 0,.int .i64 0,.bool false,.bool false,.bool false,.int .u64 0,.int .i64 0,.int .u64 0,.int .i64 0,.int .i64 0,.int .i64 0,.int .i64 0] 59):=Blk.made w _ _
 have K0:Hid (Kb b w (w.alloc (.cells [.int .i64 0,.int .i64 0,.int .i64 0,.bool false,.bool false,.bool false,.int .u64 0,.int .i64 0,.int .u64 0,.int .i64 0,.int .i64 0,.int .i64 0,.int .i64 0].toArray 59))):=kb_alloc b w _
 go_enter Tryz.func24,Tryz.ntmps24
 go_wp2_with fail
 refine (N0.out _ A0.out).mono ?_
 rintro e u0 ⟨rfl,h1,k1⟩
 have A1:Hid (IsR u0 b W 1):=h1
 have K1:Hid (Kb b w u0):=K0.out.trans k1
 have Z1:Hid (Blk u0 w.heap.size [.int .i64 0,.int .i64 0,.int .i64 0,.bool false,.bool false,.bool false,.int .u64 0,.int .i64 0,.int .u64 0,.int .i64 0,.int .i64 0,.int .i64 0,.int .i64 0] 59):=Z0.out.kb k1 (by omega)
 clear h1 k1 A0 K0 Z0
 have y4:w.heap.size<u0.heap.size:=blk_lt Z1.out
 go_upto_region 40 with fail
 have AV:Hid (IsR (u0.alloc (.cells #[.int .i64 13,.int .i64 0,.int .i64 0,.bool false,.bool false,.bool false,.int .u64 0,.int .i64 0,.int .u64 0,.int .i64 0,.int .i64 0,.int .i64 0,.int .i64 0] 59)) b W 1):=A1.out.below (Go.Joins.below_alloc1 _ _)
 have KV:Hid (Kb b w (u0.alloc (.cells #[.int .i64 13,.int .i64 0,.int .i64 0,.bool false,.bool false,.bool false,.int .u64 0,.int .i64 0,.int .u64 0,.int .i64 0,.int .i64 0,.int .i64 0,.int .i64 0] 59))):=K1.out.trans (kb_alloc b u0 _)
 have ZR:Hid (Blk (u0.alloc (.cells #[.int .i64 13,.int .i64 0,.int .i64 0,.bool false,.bool false,.bool false,.int .u64 0,.int .i64 0,.int .u64 0,.int .i64 0,.int .i64 0,.int .i64 0,.int .i64 0] 59)) w.heap.size [.int .i64 0,.int .i64 0,.int .i64 0,.bool false,.bool false,.bool false,.int .u64 0,.int .i64 0,.int .u64 0,.int .i64 0,.int .i64 0,.int .i64 0,.int .i64 0] 59):=Z1.out.below (Go.Joins.below_alloc1 _ _)
 have ZV:Hid (Blk (u0.alloc (.cells #[.int .i64 13,.int .i64 0,.int .i64 0,.bool false,.bool false,.bool false,.int .u64 0,.int .i64 0,.int .u64 0,.int .i64 0,.int .i64 0,.int .i64 0,.int .i64 0] 59)) u0.heap.size [.int .i64 13,.int .i64 0,.int .i64 0,.bool false,.bool false,.bool false,.int .u64 0,.int .i64 0,.int .u64 0,.int .i64 0,.int .i64 0,.int .i64 0,.int .i64 0] 59):=Blk.made u0 _ _
 generalize (u0.alloc (.cells #[.int .i64 13,.int .i64 0,.int .i64 0,.bool false,.bool false,.bool false,.int .u64 0,.int .i64 0,.int .u64 0,.int .i64 0,.int .i64 0,.int .i64 0,.int .i64 0] 59))=V at AV KV ZR ZV |-
 refine wp_region_lit ?_
 refine load_pat (u0.heap.size) 0 [.int .i64 13,.int .i64 0,.int .i64 0,.bool false,.bool false,.bool false,.int .u64 0,.int .i64 0,.int .u64 0,.int .i64 0,.int .i64 0,.int .i64 0,.int .i64 0] _ rfl ZV.out.range Tryz.underlying59 rfl call_info ?_
 refine store_pat w.heap.size 0 #[.int .i64 13,.int .i64 0,.int .i64 0,.bool false,.bool false,.bool false,.int .u64 0,.int .i64 0,.int .u64 0,.int .i64 0,.int .i64 0,.int .i64 0,.int .i64 0] rfl rfl ZR.out.there call_info (by simp [Value.oneCell']) ?_
 have RV:Hid ((V.setCells w.heap.size 0 ((#[.int .i64 13,.int .i64 0,.int .i64 0,.bool false,.bool false,.bool false,.int .u64 0,.int .i64 0,.int .u64 0,.int .i64 0,.int .i64 0,.int .i64 0,.int .i64 0]:Array Value).toList)).rangeAt w.heap.size 0 [.int .i64 13,.int .i64 0,.int .i64 0,.bool false,.bool false,.bool false,.int .u64 0,.int .i64 0,.int .u64 0,.int .i64 0,.int .i64 0,.int .i64 0,.int .i64 0]):=World.rangeAt_setCells_same _ w.heap.size 0 [.int .i64 13,.int .i64 0,.int .i64 0,.bool false,.bool false,.bool false,.int .u64 0,.int .i64 0,.int .u64 0,.int .i64 0,.int .i64 0,.int .i64 0,.int .i64 0] (show V.there w.heap.size 0 13 from ZR.out.there)
 have AV2:Hid (IsR (V.setCells w.heap.size 0 ((#[.int .i64 13,.int .i64 0,.int .i64 0,.bool false,.bool false,.bool false,.int .u64 0,.int .i64 0,.int .u64 0,.int .i64 0,.int .i64 0,.int .i64 0,.int .i64 0]:Array Value).toList)) b W 1):=AV.out.scs (by omega) _ _
 have KV2:Hid (Kb b w (V.setCells w.heap.size 0 ((#[.int .i64 13,.int .i64 0,.int .i64 0,.bool false,.bool false,.bool false,.int .u64 0,.int .i64 0,.int .u64 0,.int .i64 0,.int .i64 0,.int .i64 0,.int .i64 0]:Array Value).toList))):=kb_scs KV.out (Nat.le_refl _) _ _
 generalize V.setCells w.heap.size 0 ((#[.int .i64 13,.int .i64 0,.int .i64 0,.bool false,.bool false,.bool false,.int .u64 0,.int .i64 0,.int .u64 0,.int .i64 0,.int .i64 0,.int .i64 0,.int .i64 0]:Array Value).toList)=V2 at RV AV2 KV2 |-
 clear AV KV ZR ZV
 go_wp2_with fail
 have hr:=run_loadVar_mid (P:=Tryz.prog) V2 w.heap.size 0 59 [.int .i64 13,.int .i64 0,.int .i64 0,.bool false,.bool false,.bool false,.int .u64 0,.int .i64 0,.int .u64 0,.int .i64 0,.int .i64 0,.int .i64 0,.int .i64 0] _ RV.out Tryz.underlying59 rfl call_info
 refine bodyPost_ret (v:=.agg #[.int .i64 13,.int .i64 0,.int .i64 0,.bool false,.bool false,.bool false,.int .u64 0,.int .i64 0,.int .u64 0,.int .i64 0,.int .i64 0,.int .i64 0,.int .i64 0]) ?_ rfl ⟨rfl,AV2.out,KV2.out⟩
 exact results_one Tryz.results24 _ _ _ _ _ rfl hr
set_option maxHeartbeats 4000000 in
theorem call14 (b:Nat) (W:Wd) (hw:W.wf) (h0:W.at 0=14) (w:World) (h:IsR w b W 0):Calls Tryz.prog 24 #[.pointer (some ⟨b,0,none⟩)] w fun e w'=>e=.returned (.agg #[.int .i64 14,.int .i64 0,.int .i64 0,.bool false,.bool false,.bool false,.int .u64 0,.int .i64 0,.int .u64 0,.int .i64 0,.int .i64 0,.int .i64 0,.int .i64 0])/\IsR w' b W 1/\Kb b w w':=by
 have N0:Hid (∀ w:World,IsR w b W (0)->Calls Tryz.prog 37 #[.pointer (some ⟨b,0,none⟩),.int .u64 17] w fun e w'=>e=.returned (.int .i64 (W.at (0)))/\IsR w' b W (0+1)/\Kb b w w'):=fun w h=>number_yes b W (0) (by omega) hw 17 (by omega) (by omega) w h
 rw [h0] at N0
 have p1:=(hw 1).1
 have H0:Hid (IsR w b W 0):=h
 have lt0:=blk_lt h
 clear h hw h0
 have A0:Hid (IsR (w.alloc (.cells [.int .i64 0,.int .i64 0,.int .i64 0,.bool false,.bool false,.bool false,.int .u64 0,.int .i64 0,.int .u64 0,.int .i64 0,.int .i64 0,.int .i64 0,.int .i64 0].toArray 59)) b W 0):=H0.out.below (Go.Joins.below_alloc1 _ _)
 have Z0:Hid (Blk (w.alloc (.cells [.int .i64 0,.int .i64 0,.int .i64 0,.bool false,.bool false,.bool false,.int .u64 0,.int .i64 0,.int .u64 0,.int .i64 0,.int .i64 0,.int .i64 0,.int .i64 0].toArray 59)) w.heap.size [.int .i64 0,.int .i64 0,.int .i64 0,.bool false,.bool false,.bool false,.int .u64 0,.int .i64 0,.int .u64 0,.int .i64 0,.int .i64 0,.int .i64 0,.int .i64 0] 59):=Blk.made w _ _
 have K0:Hid (Kb b w (w.alloc (.cells [.int .i64 0,.int .i64 0,.int .i64 0,.bool false,.bool false,.bool false,.int .u64 0,.int .i64 0,.int .u64 0,.int .i64 0,.int .i64 0,.int .i64 0,.int .i64 0].toArray 59))):=kb_alloc b w _
 go_enter Tryz.func24,Tryz.ntmps24
 go_wp2_with fail
 refine (N0.out _ A0.out).mono ?_
 rintro e u0 ⟨rfl,h1,k1⟩
 have A1:Hid (IsR u0 b W 1):=h1
 have K1:Hid (Kb b w u0):=K0.out.trans k1
 have Z1:Hid (Blk u0 w.heap.size [.int .i64 0,.int .i64 0,.int .i64 0,.bool false,.bool false,.bool false,.int .u64 0,.int .i64 0,.int .u64 0,.int .i64 0,.int .i64 0,.int .i64 0,.int .i64 0] 59):=Z0.out.kb k1 (by omega)
 clear h1 k1 A0 K0 Z0
 have y4:w.heap.size<u0.heap.size:=blk_lt Z1.out
 go_upto_region 40 with fail
 have AV:Hid (IsR (u0.alloc (.cells #[.int .i64 14,.int .i64 0,.int .i64 0,.bool false,.bool false,.bool false,.int .u64 0,.int .i64 0,.int .u64 0,.int .i64 0,.int .i64 0,.int .i64 0,.int .i64 0] 59)) b W 1):=A1.out.below (Go.Joins.below_alloc1 _ _)
 have KV:Hid (Kb b w (u0.alloc (.cells #[.int .i64 14,.int .i64 0,.int .i64 0,.bool false,.bool false,.bool false,.int .u64 0,.int .i64 0,.int .u64 0,.int .i64 0,.int .i64 0,.int .i64 0,.int .i64 0] 59))):=K1.out.trans (kb_alloc b u0 _)
 have ZR:Hid (Blk (u0.alloc (.cells #[.int .i64 14,.int .i64 0,.int .i64 0,.bool false,.bool false,.bool false,.int .u64 0,.int .i64 0,.int .u64 0,.int .i64 0,.int .i64 0,.int .i64 0,.int .i64 0] 59)) w.heap.size [.int .i64 0,.int .i64 0,.int .i64 0,.bool false,.bool false,.bool false,.int .u64 0,.int .i64 0,.int .u64 0,.int .i64 0,.int .i64 0,.int .i64 0,.int .i64 0] 59):=Z1.out.below (Go.Joins.below_alloc1 _ _)
 have ZV:Hid (Blk (u0.alloc (.cells #[.int .i64 14,.int .i64 0,.int .i64 0,.bool false,.bool false,.bool false,.int .u64 0,.int .i64 0,.int .u64 0,.int .i64 0,.int .i64 0,.int .i64 0,.int .i64 0] 59)) u0.heap.size [.int .i64 14,.int .i64 0,.int .i64 0,.bool false,.bool false,.bool false,.int .u64 0,.int .i64 0,.int .u64 0,.int .i64 0,.int .i64 0,.int .i64 0,.int .i64 0] 59):=Blk.made u0 _ _
 generalize (u0.alloc (.cells #[.int .i64 14,.int .i64 0,.int .i64 0,.bool false,.bool false,.bool false,.int .u64 0,.int .i64 0,.int .u64 0,.int .i64 0,.int .i64 0,.int .i64 0,.int .i64 0] 59))=V at AV KV ZR ZV |-
 refine wp_region_lit ?_
 refine load_pat (u0.heap.size) 0 [.int .i64 14,.int .i64 0,.int .i64 0,.bool false,.bool false,.bool false,.int .u64 0,.int .i64 0,.int .u64 0,.int .i64 0,.int .i64 0,.int .i64 0,.int .i64 0] _ rfl ZV.out.range Tryz.underlying59 rfl call_info ?_
 refine store_pat w.heap.size 0 #[.int .i64 14,.int .i64 0,.int .i64 0,.bool false,.bool false,.bool false,.int .u64 0,.int .i64 0,.int .u64 0,.int .i64 0,.int .i64 0,.int .i64 0,.int .i64 0] rfl rfl ZR.out.there call_info (by simp [Value.oneCell']) ?_
 have RV:Hid ((V.setCells w.heap.size 0 ((#[.int .i64 14,.int .i64 0,.int .i64 0,.bool false,.bool false,.bool false,.int .u64 0,.int .i64 0,.int .u64 0,.int .i64 0,.int .i64 0,.int .i64 0,.int .i64 0]:Array Value).toList)).rangeAt w.heap.size 0 [.int .i64 14,.int .i64 0,.int .i64 0,.bool false,.bool false,.bool false,.int .u64 0,.int .i64 0,.int .u64 0,.int .i64 0,.int .i64 0,.int .i64 0,.int .i64 0]):=World.rangeAt_setCells_same _ w.heap.size 0 [.int .i64 14,.int .i64 0,.int .i64 0,.bool false,.bool false,.bool false,.int .u64 0,.int .i64 0,.int .u64 0,.int .i64 0,.int .i64 0,.int .i64 0,.int .i64 0] (show V.there w.heap.size 0 13 from ZR.out.there)
 have AV2:Hid (IsR (V.setCells w.heap.size 0 ((#[.int .i64 14,.int .i64 0,.int .i64 0,.bool false,.bool false,.bool false,.int .u64 0,.int .i64 0,.int .u64 0,.int .i64 0,.int .i64 0,.int .i64 0,.int .i64 0]:Array Value).toList)) b W 1):=AV.out.scs (by omega) _ _
 have KV2:Hid (Kb b w (V.setCells w.heap.size 0 ((#[.int .i64 14,.int .i64 0,.int .i64 0,.bool false,.bool false,.bool false,.int .u64 0,.int .i64 0,.int .u64 0,.int .i64 0,.int .i64 0,.int .i64 0,.int .i64 0]:Array Value).toList))):=kb_scs KV.out (Nat.le_refl _) _ _
 generalize V.setCells w.heap.size 0 ((#[.int .i64 14,.int .i64 0,.int .i64 0,.bool false,.bool false,.bool false,.int .u64 0,.int .i64 0,.int .u64 0,.int .i64 0,.int .i64 0,.int .i64 0,.int .i64 0]:Array Value).toList)=V2 at RV AV2 KV2 |-
 clear AV KV ZR ZV
 go_wp2_with fail
 have hr:=run_loadVar_mid (P:=Tryz.prog) V2 w.heap.size 0 59 [.int .i64 14,.int .i64 0,.int .i64 0,.bool false,.bool false,.bool false,.int .u64 0,.int .i64 0,.int .u64 0,.int .i64 0,.int .i64 0,.int .i64 0,.int .i64 0] _ RV.out Tryz.underlying59 rfl call_info
 refine bodyPost_ret (v:=.agg #[.int .i64 14,.int .i64 0,.int .i64 0,.bool false,.bool false,.bool false,.int .u64 0,.int .i64 0,.int .u64 0,.int .i64 0,.int .i64 0,.int .i64 0,.int .i64 0]) ?_ rfl ⟨rfl,AV2.out,KV2.out⟩
 exact results_one Tryz.results24 _ _ _ _ _ rfl hr
set_option maxHeartbeats 4000000 in
theorem call16 (b:Nat) (W:Wd) (hw:W.wf) (h0:W.at 0=16) (l1:(W.at 1<4)) (w:World) (h:IsR w b W 0):Calls Tryz.prog 24 #[.pointer (some ⟨b,0,none⟩)] w fun e w'=>e=.returned (.agg #[.int .i64 16,.int .i64 0,.int .i64 0,.bool false,.bool false,.bool false,.int .u64 0,.int .i64 0,.int .u64 (W.at 2),.int .i64 (W.at 1),.int .i64 0,.int .i64 0,.int .i64 0])/\IsR w' b W 3/\Kb b w w':=by
 have N0:Hid (∀ w:World,IsR w b W (0)->Calls Tryz.prog 37 #[.pointer (some ⟨b,0,none⟩),.int .u64 17] w fun e w'=>e=.returned (.int .i64 (W.at (0)))/\IsR w' b W (0+1)/\Kb b w w'):=fun w h=>number_yes b W (0) (by omega) hw 17 (by omega) (by omega) w h
 rw [h0] at N0
 have N1:Hid (∀ w:World,IsR w b W (1)->Calls Tryz.prog 37 #[.pointer (some ⟨b,0,none⟩),.int .u64 4] w fun e w'=>e=.returned (.int .i64 (W.at 1))/\IsR w' b W (2)/\Kb b w w'):=fun w h=>number_yes b W 1 (by omega) hw 4 (by omega) l1 w h
 have N2:Hid (∀ w:World,IsR w b W (2)->Calls Tryz.prog 44 #[.pointer (some ⟨b,0,none⟩)] w fun e w'=>e=.returned (.int .u64 (W.at 2))/\IsR w' b W (3)/\Kb b w w'):=fun w h=>word_any b W 2 (by omega) w h
 have p1:=(hw 1).1
 have H0:Hid (IsR w b W 0):=h
 have lt0:=blk_lt h
 clear h hw h0
 generalize W.at 1=x1 at *
 generalize W.at 2=x2 at *
 have A0:Hid (IsR (w.alloc (.cells [.int .i64 0,.int .i64 0,.int .i64 0,.bool false,.bool false,.bool false,.int .u64 0,.int .i64 0,.int .u64 0,.int .i64 0,.int .i64 0,.int .i64 0,.int .i64 0].toArray 59)) b W 0):=H0.out.below (Go.Joins.below_alloc1 _ _)
 have Z0:Hid (Blk (w.alloc (.cells [.int .i64 0,.int .i64 0,.int .i64 0,.bool false,.bool false,.bool false,.int .u64 0,.int .i64 0,.int .u64 0,.int .i64 0,.int .i64 0,.int .i64 0,.int .i64 0].toArray 59)) w.heap.size [.int .i64 0,.int .i64 0,.int .i64 0,.bool false,.bool false,.bool false,.int .u64 0,.int .i64 0,.int .u64 0,.int .i64 0,.int .i64 0,.int .i64 0,.int .i64 0] 59):=Blk.made w _ _
 have K0:Hid (Kb b w (w.alloc (.cells [.int .i64 0,.int .i64 0,.int .i64 0,.bool false,.bool false,.bool false,.int .u64 0,.int .i64 0,.int .u64 0,.int .i64 0,.int .i64 0,.int .i64 0,.int .i64 0].toArray 59))):=kb_alloc b w _
 go_enter Tryz.func24,Tryz.ntmps24
 go_wp2_with fail
 refine (N0.out _ A0.out).mono ?_
 rintro e u0 ⟨rfl,h1,k1⟩
 have A1:Hid (IsR u0 b W 1):=h1
 have K1:Hid (Kb b w u0):=K0.out.trans k1
 have Z1:Hid (Blk u0 w.heap.size [.int .i64 0,.int .i64 0,.int .i64 0,.bool false,.bool false,.bool false,.int .u64 0,.int .i64 0,.int .u64 0,.int .i64 0,.int .i64 0,.int .i64 0,.int .i64 0] 59):=Z0.out.kb k1 (by omega)
 clear h1 k1 A0 K0 Z0
 have y4:w.heap.size<u0.heap.size:=blk_lt Z1.out
 go_wp2_with fail
 have A2:Hid (IsR (u0.alloc (.cells #[.int .i64 16,.int .i64 0,.int .i64 0,.bool false,.bool false,.bool false,.int .u64 0,.int .i64 0,.int .u64 0,.int .i64 0,.int .i64 0,.int .i64 0,.int .i64 0] 59)) b W 1):=A1.out.below (Go.Joins.below_alloc1 _ _)
 have K2:Hid (Kb b w (u0.alloc (.cells #[.int .i64 16,.int .i64 0,.int .i64 0,.bool false,.bool false,.bool false,.int .u64 0,.int .i64 0,.int .u64 0,.int .i64 0,.int .i64 0,.int .i64 0,.int .i64 0] 59))):=K1.out.trans (kb_alloc b u0 _)
 have R2:Hid (Blk (u0.alloc (.cells #[.int .i64 16,.int .i64 0,.int .i64 0,.bool false,.bool false,.bool false,.int .u64 0,.int .i64 0,.int .u64 0,.int .i64 0,.int .i64 0,.int .i64 0,.int .i64 0] 59)) w.heap.size [.int .i64 0,.int .i64 0,.int .i64 0,.bool false,.bool false,.bool false,.int .u64 0,.int .i64 0,.int .u64 0,.int .i64 0,.int .i64 0,.int .i64 0,.int .i64 0] 59):=Z1.out.below (Go.Joins.below_alloc1 _ _)
 have C2:Hid (Blk (u0.alloc (.cells #[.int .i64 16,.int .i64 0,.int .i64 0,.bool false,.bool false,.bool false,.int .u64 0,.int .i64 0,.int .u64 0,.int .i64 0,.int .i64 0,.int .i64 0,.int .i64 0] 59)) u0.heap.size [.int .i64 16,.int .i64 0,.int .i64 0,.bool false,.bool false,.bool false,.int .u64 0,.int .i64 0,.int .u64 0,.int .i64 0,.int .i64 0,.int .i64 0,.int .i64 0] 59):=Blk.made u0 _ _
 refine (N1.out _ A2.out).mono ?_
 rintro e u1 ⟨rfl,h1,k1⟩
 have B2:Hid (IsR u1 b W 2):=h1
 have J2:Hid (Kb b w u1):=K2.out.trans k1
 have S2:Hid (Blk u1 w.heap.size [.int .i64 0,.int .i64 0,.int .i64 0,.bool false,.bool false,.bool false,.int .u64 0,.int .i64 0,.int .u64 0,.int .i64 0,.int .i64 0,.int .i64 0,.int .i64 0] 59):=R2.out.kb k1 (by omega)
 have D2:Hid (Blk u1 u0.heap.size [.int .i64 16,.int .i64 0,.int .i64 0,.bool false,.bool false,.bool false,.int .u64 0,.int .i64 0,.int .u64 0,.int .i64 0,.int .i64 0,.int .i64 0,.int .i64 0] 59):=C2.out.kb k1 (by omega)
 have ll2:u0.heap.size<u1.heap.size:=blk_lt D2.out
 clear h1 k1 A2 K2 R2 C2
 have c0_9:u1.cell? ⟨u0.heap.size,9,none⟩=some (.int .i64 0):=D2.out.cell 9
 have f0_9:u1.frozen? ⟨u0.heap.size,9,none⟩=false:=D2.out.free 9
 go_wp2_with fail
 have A3:Hid (IsR (u1.setCell ⟨u0.heap.size,9,none⟩ (.int .i64 x1)) b W 2):=(B2.out.blk.far 9 (.int .i64 x1) (c:=u0.heap.size) (by omega))
 have K3:Hid (Kb b w (u1.setCell ⟨u0.heap.size,9,none⟩ (.int .i64 x1))):=(kb_set J2.out (by omega) 9 (.int .i64 x1))
 have R3:Hid (Blk (u1.setCell ⟨u0.heap.size,9,none⟩ (.int .i64 x1)) w.heap.size [.int .i64 0,.int .i64 0,.int .i64 0,.bool false,.bool false,.bool false,.int .u64 0,.int .i64 0,.int .u64 0,.int .i64 0,.int .i64 0,.int .i64 0,.int .i64 0] 59):=(S2.out.far 9 (.int .i64 x1) (by omega))
 have C3:Hid (Blk (u1.setCell ⟨u0.heap.size,9,none⟩ (.int .i64 x1)) u0.heap.size [.int .i64 16,.int .i64 0,.int .i64 0,.bool false,.bool false,.bool false,.int .u64 0,.int .i64 0,.int .u64 0,.int .i64 x1,.int .i64 0,.int .i64 0,.int .i64 0] 59):=(D2.out.set 9 (.int .i64 x1))
 refine (N2.out _ A3.out).mono ?_
 rintro e u2 ⟨rfl,h1,k1⟩
 have B3:Hid (IsR u2 b W 3):=h1
 have J3:Hid (Kb b w u2):=K3.out.trans k1
 have S3:Hid (Blk u2 w.heap.size [.int .i64 0,.int .i64 0,.int .i64 0,.bool false,.bool false,.bool false,.int .u64 0,.int .i64 0,.int .u64 0,.int .i64 0,.int .i64 0,.int .i64 0,.int .i64 0] 59):=R3.out.kb k1 (by omega)
 have D3:Hid (Blk u2 u0.heap.size [.int .i64 16,.int .i64 0,.int .i64 0,.bool false,.bool false,.bool false,.int .u64 0,.int .i64 0,.int .u64 0,.int .i64 x1,.int .i64 0,.int .i64 0,.int .i64 0] 59):=C3.out.kb k1 (by omega)
 have ll3:u0.heap.size<u2.heap.size:=blk_lt D3.out
 clear h1 k1 A3 K3 R3 C3
 have c1_8:u2.cell? ⟨u0.heap.size,8,none⟩=some (.int .u64 0):=D3.out.cell 8
 have f1_8:u2.frozen? ⟨u0.heap.size,8,none⟩=false:=D3.out.free 8
 go_upto_region 40 with fail
 have AV:Hid (IsR (u2.setCell ⟨u0.heap.size,8,none⟩ (.int .u64 x2)) b W 3):=(B3.out.blk.far 8 (.int .u64 x2) (c:=u0.heap.size) (by omega))
 have KV:Hid (Kb b w (u2.setCell ⟨u0.heap.size,8,none⟩ (.int .u64 x2))):=(kb_set J3.out (by omega) 8 (.int .u64 x2))
 have ZR:Hid (Blk (u2.setCell ⟨u0.heap.size,8,none⟩ (.int .u64 x2)) w.heap.size [.int .i64 0,.int .i64 0,.int .i64 0,.bool false,.bool false,.bool false,.int .u64 0,.int .i64 0,.int .u64 0,.int .i64 0,.int .i64 0,.int .i64 0,.int .i64 0] 59):=(S3.out.far 8 (.int .u64 x2) (by omega))
 have ZV:Hid (Blk (u2.setCell ⟨u0.heap.size,8,none⟩ (.int .u64 x2)) u0.heap.size [.int .i64 16,.int .i64 0,.int .i64 0,.bool false,.bool false,.bool false,.int .u64 0,.int .i64 0,.int .u64 x2,.int .i64 x1,.int .i64 0,.int .i64 0,.int .i64 0] 59):=(D3.out.set 8 (.int .u64 x2))
 generalize (u2.setCell ⟨u0.heap.size,8,none⟩ (.int .u64 x2))=V at AV KV ZR ZV |-
 refine wp_region_lit ?_
 refine load_pat (u0.heap.size) 0 [.int .i64 16,.int .i64 0,.int .i64 0,.bool false,.bool false,.bool false,.int .u64 0,.int .i64 0,.int .u64 x2,.int .i64 x1,.int .i64 0,.int .i64 0,.int .i64 0] _ rfl ZV.out.range Tryz.underlying59 rfl call_info ?_
 refine store_pat w.heap.size 0 #[.int .i64 16,.int .i64 0,.int .i64 0,.bool false,.bool false,.bool false,.int .u64 0,.int .i64 0,.int .u64 x2,.int .i64 x1,.int .i64 0,.int .i64 0,.int .i64 0] rfl rfl ZR.out.there call_info (by simp [Value.oneCell']) ?_
 have RV:Hid ((V.setCells w.heap.size 0 ((#[.int .i64 16,.int .i64 0,.int .i64 0,.bool false,.bool false,.bool false,.int .u64 0,.int .i64 0,.int .u64 x2,.int .i64 x1,.int .i64 0,.int .i64 0,.int .i64 0]:Array Value).toList)).rangeAt w.heap.size 0 [.int .i64 16,.int .i64 0,.int .i64 0,.bool false,.bool false,.bool false,.int .u64 0,.int .i64 0,.int .u64 x2,.int .i64 x1,.int .i64 0,.int .i64 0,.int .i64 0]):=World.rangeAt_setCells_same _ w.heap.size 0 [.int .i64 16,.int .i64 0,.int .i64 0,.bool false,.bool false,.bool false,.int .u64 0,.int .i64 0,.int .u64 x2,.int .i64 x1,.int .i64 0,.int .i64 0,.int .i64 0] (show V.there w.heap.size 0 13 from ZR.out.there)
 have AV2:Hid (IsR (V.setCells w.heap.size 0 ((#[.int .i64 16,.int .i64 0,.int .i64 0,.bool false,.bool false,.bool false,.int .u64 0,.int .i64 0,.int .u64 x2,.int .i64 x1,.int .i64 0,.int .i64 0,.int .i64 0]:Array Value).toList)) b W 3):=AV.out.scs (by omega) _ _
 have KV2:Hid (Kb b w (V.setCells w.heap.size 0 ((#[.int .i64 16,.int .i64 0,.int .i64 0,.bool false,.bool false,.bool false,.int .u64 0,.int .i64 0,.int .u64 x2,.int .i64 x1,.int .i64 0,.int .i64 0,.int .i64 0]:Array Value).toList))):=kb_scs KV.out (Nat.le_refl _) _ _
 generalize V.setCells w.heap.size 0 ((#[.int .i64 16,.int .i64 0,.int .i64 0,.bool false,.bool false,.bool false,.int .u64 0,.int .i64 0,.int .u64 x2,.int .i64 x1,.int .i64 0,.int .i64 0,.int .i64 0]:Array Value).toList)=V2 at RV AV2 KV2 |-
 clear AV KV ZR ZV
 go_wp2_with fail
 have hr:=run_loadVar_mid (P:=Tryz.prog) V2 w.heap.size 0 59 [.int .i64 16,.int .i64 0,.int .i64 0,.bool false,.bool false,.bool false,.int .u64 0,.int .i64 0,.int .u64 x2,.int .i64 x1,.int .i64 0,.int .i64 0,.int .i64 0] _ RV.out Tryz.underlying59 rfl call_info
 refine bodyPost_ret (v:=.agg #[.int .i64 16,.int .i64 0,.int .i64 0,.bool false,.bool false,.bool false,.int .u64 0,.int .i64 0,.int .u64 x2,.int .i64 x1,.int .i64 0,.int .i64 0,.int .i64 0]) ?_ rfl ⟨rfl,AV2.out,KV2.out⟩
 exact results_one Tryz.results24 _ _ _ _ _ rfl hr
set_option maxHeartbeats 4000000 in
theorem call15 (b:Nat) (W:Wd) (hw:W.wf) (h0:W.at 0=15) (l1:(W.at 1<8)) (l2:(W.at 2<4)) (l3:(W.at 3<4)) (l4:(W.at 4<4)) (w:World) (h:IsR w b W 0):Calls Tryz.prog 24 #[.pointer (some ⟨b,0,none⟩)] w fun e w'=>e=.returned (.agg #[.int .i64 15,.int .i64 0,.int .i64 0,.bool false,.bool false,.bool false,.int .u64 0,.int .i64 0,.int .u64 0,.int .i64 (W.at 1+1),.int .i64 (W.at 2),.int .i64 (W.at 3),.int .i64 (W.at 4)])/\IsR w' b W 5/\Kb b w w':=by
 have N0:Hid (∀ w:World,IsR w b W (0)->Calls Tryz.prog 37 #[.pointer (some ⟨b,0,none⟩),.int .u64 17] w fun e w'=>e=.returned (.int .i64 (W.at (0)))/\IsR w' b W (0+1)/\Kb b w w'):=fun w h=>number_yes b W (0) (by omega) hw 17 (by omega) (by omega) w h
 rw [h0] at N0
 have N1:Hid (∀ w:World,IsR w b W (1)->Calls Tryz.prog 37 #[.pointer (some ⟨b,0,none⟩),.int .u64 8] w fun e w'=>e=.returned (.int .i64 (W.at 1))/\IsR w' b W (2)/\Kb b w w'):=fun w h=>number_yes b W 1 (by omega) hw 8 (by omega) l1 w h
 have N2:Hid (∀ w:World,IsR w b W (2)->Calls Tryz.prog 37 #[.pointer (some ⟨b,0,none⟩),.int .u64 4] w fun e w'=>e=.returned (.int .i64 (W.at 2))/\IsR w' b W (3)/\Kb b w w'):=fun w h=>number_yes b W 2 (by omega) hw 4 (by omega) l2 w h
 have N3:Hid (∀ w:World,IsR w b W (3)->Calls Tryz.prog 37 #[.pointer (some ⟨b,0,none⟩),.int .u64 4] w fun e w'=>e=.returned (.int .i64 (W.at 3))/\IsR w' b W (4)/\Kb b w w'):=fun w h=>number_yes b W 3 (by omega) hw 4 (by omega) l3 w h
 have N4:Hid (∀ w:World,IsR w b W (4)->Calls Tryz.prog 37 #[.pointer (some ⟨b,0,none⟩),.int .u64 4] w fun e w'=>e=.returned (.int .i64 (W.at 4))/\IsR w' b W (5)/\Kb b w w'):=fun w h=>number_yes b W 4 (by omega) hw 4 (by omega) l4 w h
 have p1:=(hw 1).1
 have H0:Hid (IsR w b W 0):=h
 have lt0:=blk_lt h
 clear h hw h0
 generalize W.at 1=x1 at *
 generalize W.at 2=x2 at *
 generalize W.at 3=x3 at *
 generalize W.at 4=x4 at *
 have A0:Hid (IsR (w.alloc (.cells [.int .i64 0,.int .i64 0,.int .i64 0,.bool false,.bool false,.bool false,.int .u64 0,.int .i64 0,.int .u64 0,.int .i64 0,.int .i64 0,.int .i64 0,.int .i64 0].toArray 59)) b W 0):=H0.out.below (Go.Joins.below_alloc1 _ _)
 have Z0:Hid (Blk (w.alloc (.cells [.int .i64 0,.int .i64 0,.int .i64 0,.bool false,.bool false,.bool false,.int .u64 0,.int .i64 0,.int .u64 0,.int .i64 0,.int .i64 0,.int .i64 0,.int .i64 0].toArray 59)) w.heap.size [.int .i64 0,.int .i64 0,.int .i64 0,.bool false,.bool false,.bool false,.int .u64 0,.int .i64 0,.int .u64 0,.int .i64 0,.int .i64 0,.int .i64 0,.int .i64 0] 59):=Blk.made w _ _
 have K0:Hid (Kb b w (w.alloc (.cells [.int .i64 0,.int .i64 0,.int .i64 0,.bool false,.bool false,.bool false,.int .u64 0,.int .i64 0,.int .u64 0,.int .i64 0,.int .i64 0,.int .i64 0,.int .i64 0].toArray 59))):=kb_alloc b w _
 go_enter Tryz.func24,Tryz.ntmps24
 go_wp2_with fail
 refine (N0.out _ A0.out).mono ?_
 rintro e u0 ⟨rfl,h1,k1⟩
 have A1:Hid (IsR u0 b W 1):=h1
 have K1:Hid (Kb b w u0):=K0.out.trans k1
 have Z1:Hid (Blk u0 w.heap.size [.int .i64 0,.int .i64 0,.int .i64 0,.bool false,.bool false,.bool false,.int .u64 0,.int .i64 0,.int .u64 0,.int .i64 0,.int .i64 0,.int .i64 0,.int .i64 0] 59):=Z0.out.kb k1 (by omega)
 clear h1 k1 A0 K0 Z0
 have y4:w.heap.size<u0.heap.size:=blk_lt Z1.out
 go_wp2_with fail
 have A2:Hid (IsR (u0.alloc (.cells #[.int .i64 15,.int .i64 0,.int .i64 0,.bool false,.bool false,.bool false,.int .u64 0,.int .i64 0,.int .u64 0,.int .i64 0,.int .i64 0,.int .i64 0,.int .i64 0] 59)) b W 1):=A1.out.below (Go.Joins.below_alloc1 _ _)
 have K2:Hid (Kb b w (u0.alloc (.cells #[.int .i64 15,.int .i64 0,.int .i64 0,.bool false,.bool false,.bool false,.int .u64 0,.int .i64 0,.int .u64 0,.int .i64 0,.int .i64 0,.int .i64 0,.int .i64 0] 59))):=K1.out.trans (kb_alloc b u0 _)
 have R2:Hid (Blk (u0.alloc (.cells #[.int .i64 15,.int .i64 0,.int .i64 0,.bool false,.bool false,.bool false,.int .u64 0,.int .i64 0,.int .u64 0,.int .i64 0,.int .i64 0,.int .i64 0,.int .i64 0] 59)) w.heap.size [.int .i64 0,.int .i64 0,.int .i64 0,.bool false,.bool false,.bool false,.int .u64 0,.int .i64 0,.int .u64 0,.int .i64 0,.int .i64 0,.int .i64 0,.int .i64 0] 59):=Z1.out.below (Go.Joins.below_alloc1 _ _)
 have C2:Hid (Blk (u0.alloc (.cells #[.int .i64 15,.int .i64 0,.int .i64 0,.bool false,.bool false,.bool false,.int .u64 0,.int .i64 0,.int .u64 0,.int .i64 0,.int .i64 0,.int .i64 0,.int .i64 0] 59)) u0.heap.size [.int .i64 15,.int .i64 0,.int .i64 0,.bool false,.bool false,.bool false,.int .u64 0,.int .i64 0,.int .u64 0,.int .i64 0,.int .i64 0,.int .i64 0,.int .i64 0] 59):=Blk.made u0 _ _
 refine (N1.out _ A2.out).mono ?_
 rintro e u1 ⟨rfl,h1,k1⟩
 have B2:Hid (IsR u1 b W 2):=h1
 have J2:Hid (Kb b w u1):=K2.out.trans k1
 have S2:Hid (Blk u1 w.heap.size [.int .i64 0,.int .i64 0,.int .i64 0,.bool false,.bool false,.bool false,.int .u64 0,.int .i64 0,.int .u64 0,.int .i64 0,.int .i64 0,.int .i64 0,.int .i64 0] 59):=R2.out.kb k1 (by omega)
 have D2:Hid (Blk u1 u0.heap.size [.int .i64 15,.int .i64 0,.int .i64 0,.bool false,.bool false,.bool false,.int .u64 0,.int .i64 0,.int .u64 0,.int .i64 0,.int .i64 0,.int .i64 0,.int .i64 0] 59):=C2.out.kb k1 (by omega)
 have ll2:u0.heap.size<u1.heap.size:=blk_lt D2.out
 clear h1 k1 A2 K2 R2 C2
 have c0_9:u1.cell? ⟨u0.heap.size,9,none⟩=some (.int .i64 0):=D2.out.cell 9
 have f0_9:u1.frozen? ⟨u0.heap.size,9,none⟩=false:=D2.out.free 9
 go_wp2_with fail
 have A3:Hid (IsR (u1.setCell ⟨u0.heap.size,9,none⟩ (.int .i64 (x1+1))) b W 2):=(B2.out.blk.far 9 (.int .i64 (x1+1)) (c:=u0.heap.size) (by omega))
 have K3:Hid (Kb b w (u1.setCell ⟨u0.heap.size,9,none⟩ (.int .i64 (x1+1)))):=(kb_set J2.out (by omega) 9 (.int .i64 (x1+1)))
 have R3:Hid (Blk (u1.setCell ⟨u0.heap.size,9,none⟩ (.int .i64 (x1+1))) w.heap.size [.int .i64 0,.int .i64 0,.int .i64 0,.bool false,.bool false,.bool false,.int .u64 0,.int .i64 0,.int .u64 0,.int .i64 0,.int .i64 0,.int .i64 0,.int .i64 0] 59):=(S2.out.far 9 (.int .i64 (x1+1)) (by omega))
 have C3:Hid (Blk (u1.setCell ⟨u0.heap.size,9,none⟩ (.int .i64 (x1+1))) u0.heap.size [.int .i64 15,.int .i64 0,.int .i64 0,.bool false,.bool false,.bool false,.int .u64 0,.int .i64 0,.int .u64 0,.int .i64 (x1+1),.int .i64 0,.int .i64 0,.int .i64 0] 59):=(D2.out.set 9 (.int .i64 (x1+1)))
 refine (N2.out _ A3.out).mono ?_
 rintro e u2 ⟨rfl,h1,k1⟩
 have B3:Hid (IsR u2 b W 3):=h1
 have J3:Hid (Kb b w u2):=K3.out.trans k1
 have S3:Hid (Blk u2 w.heap.size [.int .i64 0,.int .i64 0,.int .i64 0,.bool false,.bool false,.bool false,.int .u64 0,.int .i64 0,.int .u64 0,.int .i64 0,.int .i64 0,.int .i64 0,.int .i64 0] 59):=R3.out.kb k1 (by omega)
 have D3:Hid (Blk u2 u0.heap.size [.int .i64 15,.int .i64 0,.int .i64 0,.bool false,.bool false,.bool false,.int .u64 0,.int .i64 0,.int .u64 0,.int .i64 (x1+1),.int .i64 0,.int .i64 0,.int .i64 0] 59):=C3.out.kb k1 (by omega)
 have ll3:u0.heap.size<u2.heap.size:=blk_lt D3.out
 clear h1 k1 A3 K3 R3 C3
 have c1_10:u2.cell? ⟨u0.heap.size,10,none⟩=some (.int .i64 0):=D3.out.cell 10
 have f1_10:u2.frozen? ⟨u0.heap.size,10,none⟩=false:=D3.out.free 10
 go_wp2_with fail
 have A4:Hid (IsR (u2.setCell ⟨u0.heap.size,10,none⟩ (.int .i64 x2)) b W 3):=(B3.out.blk.far 10 (.int .i64 x2) (c:=u0.heap.size) (by omega))
 have K4:Hid (Kb b w (u2.setCell ⟨u0.heap.size,10,none⟩ (.int .i64 x2))):=(kb_set J3.out (by omega) 10 (.int .i64 x2))
 have R4:Hid (Blk (u2.setCell ⟨u0.heap.size,10,none⟩ (.int .i64 x2)) w.heap.size [.int .i64 0,.int .i64 0,.int .i64 0,.bool false,.bool false,.bool false,.int .u64 0,.int .i64 0,.int .u64 0,.int .i64 0,.int .i64 0,.int .i64 0,.int .i64 0] 59):=(S3.out.far 10 (.int .i64 x2) (by omega))
 have C4:Hid (Blk (u2.setCell ⟨u0.heap.size,10,none⟩ (.int .i64 x2)) u0.heap.size [.int .i64 15,.int .i64 0,.int .i64 0,.bool false,.bool false,.bool false,.int .u64 0,.int .i64 0,.int .u64 0,.int .i64 (x1+1),.int .i64 x2,.int .i64 0,.int .i64 0] 59):=(D3.out.set 10 (.int .i64 x2))
 refine (N3.out _ A4.out).mono ?_
 rintro e u3 ⟨rfl,h1,k1⟩
 have B4:Hid (IsR u3 b W 4):=h1
 have J4:Hid (Kb b w u3):=K4.out.trans k1
 have S4:Hid (Blk u3 w.heap.size [.int .i64 0,.int .i64 0,.int .i64 0,.bool false,.bool false,.bool false,.int .u64 0,.int .i64 0,.int .u64 0,.int .i64 0,.int .i64 0,.int .i64 0,.int .i64 0] 59):=R4.out.kb k1 (by omega)
 have D4:Hid (Blk u3 u0.heap.size [.int .i64 15,.int .i64 0,.int .i64 0,.bool false,.bool false,.bool false,.int .u64 0,.int .i64 0,.int .u64 0,.int .i64 (x1+1),.int .i64 x2,.int .i64 0,.int .i64 0] 59):=C4.out.kb k1 (by omega)
 have ll4:u0.heap.size<u3.heap.size:=blk_lt D4.out
 clear h1 k1 A4 K4 R4 C4
 have c2_11:u3.cell? ⟨u0.heap.size,11,none⟩=some (.int .i64 0):=D4.out.cell 11
 have f2_11:u3.frozen? ⟨u0.heap.size,11,none⟩=false:=D4.out.free 11
 go_wp2_with fail
 have A5:Hid (IsR (u3.setCell ⟨u0.heap.size,11,none⟩ (.int .i64 x3)) b W 4):=(B4.out.blk.far 11 (.int .i64 x3) (c:=u0.heap.size) (by omega))
 have K5:Hid (Kb b w (u3.setCell ⟨u0.heap.size,11,none⟩ (.int .i64 x3))):=(kb_set J4.out (by omega) 11 (.int .i64 x3))
 have R5:Hid (Blk (u3.setCell ⟨u0.heap.size,11,none⟩ (.int .i64 x3)) w.heap.size [.int .i64 0,.int .i64 0,.int .i64 0,.bool false,.bool false,.bool false,.int .u64 0,.int .i64 0,.int .u64 0,.int .i64 0,.int .i64 0,.int .i64 0,.int .i64 0] 59):=(S4.out.far 11 (.int .i64 x3) (by omega))
 have C5:Hid (Blk (u3.setCell ⟨u0.heap.size,11,none⟩ (.int .i64 x3)) u0.heap.size [.int .i64 15,.int .i64 0,.int .i64 0,.bool false,.bool false,.bool false,.int .u64 0,.int .i64 0,.int .u64 0,.int .i64 (x1+1),.int .i64 x2,.int .i64 x3,.int .i64 0] 59):=(D4.out.set 11 (.int .i64 x3))
 refine (N4.out _ A5.out).mono ?_
 rintro e u4 ⟨rfl,h1,k1⟩
 have B5:Hid (IsR u4 b W 5):=h1
 have J5:Hid (Kb b w u4):=K5.out.trans k1
 have S5:Hid (Blk u4 w.heap.size [.int .i64 0,.int .i64 0,.int .i64 0,.bool false,.bool false,.bool false,.int .u64 0,.int .i64 0,.int .u64 0,.int .i64 0,.int .i64 0,.int .i64 0,.int .i64 0] 59):=R5.out.kb k1 (by omega)
 have D5:Hid (Blk u4 u0.heap.size [.int .i64 15,.int .i64 0,.int .i64 0,.bool false,.bool false,.bool false,.int .u64 0,.int .i64 0,.int .u64 0,.int .i64 (x1+1),.int .i64 x2,.int .i64 x3,.int .i64 0] 59):=C5.out.kb k1 (by omega)
 have ll5:u0.heap.size<u4.heap.size:=blk_lt D5.out
 clear h1 k1 A5 K5 R5 C5
 have c3_12:u4.cell? ⟨u0.heap.size,12,none⟩=some (.int .i64 0):=D5.out.cell 12
 have f3_12:u4.frozen? ⟨u0.heap.size,12,none⟩=false:=D5.out.free 12
 go_upto_region 40 with fail
 have AV:Hid (IsR (u4.setCell ⟨u0.heap.size,12,none⟩ (.int .i64 x4)) b W 5):=(B5.out.blk.far 12 (.int .i64 x4) (c:=u0.heap.size) (by omega))
 have KV:Hid (Kb b w (u4.setCell ⟨u0.heap.size,12,none⟩ (.int .i64 x4))):=(kb_set J5.out (by omega) 12 (.int .i64 x4))
 have ZR:Hid (Blk (u4.setCell ⟨u0.heap.size,12,none⟩ (.int .i64 x4)) w.heap.size [.int .i64 0,.int .i64 0,.int .i64 0,.bool false,.bool false,.bool false,.int .u64 0,.int .i64 0,.int .u64 0,.int .i64 0,.int .i64 0,.int .i64 0,.int .i64 0] 59):=(S5.out.far 12 (.int .i64 x4) (by omega))
 have ZV:Hid (Blk (u4.setCell ⟨u0.heap.size,12,none⟩ (.int .i64 x4)) u0.heap.size [.int .i64 15,.int .i64 0,.int .i64 0,.bool false,.bool false,.bool false,.int .u64 0,.int .i64 0,.int .u64 0,.int .i64 (x1+1),.int .i64 x2,.int .i64 x3,.int .i64 x4] 59):=(D5.out.set 12 (.int .i64 x4))
 generalize (u4.setCell ⟨u0.heap.size,12,none⟩ (.int .i64 x4))=V at AV KV ZR ZV |-
 refine wp_region_lit ?_
 refine load_pat (u0.heap.size) 0 [.int .i64 15,.int .i64 0,.int .i64 0,.bool false,.bool false,.bool false,.int .u64 0,.int .i64 0,.int .u64 0,.int .i64 (x1+1),.int .i64 x2,.int .i64 x3,.int .i64 x4] _ rfl ZV.out.range Tryz.underlying59 rfl call_info ?_
 refine store_pat w.heap.size 0 #[.int .i64 15,.int .i64 0,.int .i64 0,.bool false,.bool false,.bool false,.int .u64 0,.int .i64 0,.int .u64 0,.int .i64 (x1+1),.int .i64 x2,.int .i64 x3,.int .i64 x4] rfl rfl ZR.out.there call_info (by simp [Value.oneCell']) ?_
 have RV:Hid ((V.setCells w.heap.size 0 ((#[.int .i64 15,.int .i64 0,.int .i64 0,.bool false,.bool false,.bool false,.int .u64 0,.int .i64 0,.int .u64 0,.int .i64 (x1+1),.int .i64 x2,.int .i64 x3,.int .i64 x4]:Array Value).toList)).rangeAt w.heap.size 0 [.int .i64 15,.int .i64 0,.int .i64 0,.bool false,.bool false,.bool false,.int .u64 0,.int .i64 0,.int .u64 0,.int .i64 (x1+1),.int .i64 x2,.int .i64 x3,.int .i64 x4]):=World.rangeAt_setCells_same _ w.heap.size 0 [.int .i64 15,.int .i64 0,.int .i64 0,.bool false,.bool false,.bool false,.int .u64 0,.int .i64 0,.int .u64 0,.int .i64 (x1+1),.int .i64 x2,.int .i64 x3,.int .i64 x4] (show V.there w.heap.size 0 13 from ZR.out.there)
 have AV2:Hid (IsR (V.setCells w.heap.size 0 ((#[.int .i64 15,.int .i64 0,.int .i64 0,.bool false,.bool false,.bool false,.int .u64 0,.int .i64 0,.int .u64 0,.int .i64 (x1+1),.int .i64 x2,.int .i64 x3,.int .i64 x4]:Array Value).toList)) b W 5):=AV.out.scs (by omega) _ _
 have KV2:Hid (Kb b w (V.setCells w.heap.size 0 ((#[.int .i64 15,.int .i64 0,.int .i64 0,.bool false,.bool false,.bool false,.int .u64 0,.int .i64 0,.int .u64 0,.int .i64 (x1+1),.int .i64 x2,.int .i64 x3,.int .i64 x4]:Array Value).toList))):=kb_scs KV.out (Nat.le_refl _) _ _
 generalize V.setCells w.heap.size 0 ((#[.int .i64 15,.int .i64 0,.int .i64 0,.bool false,.bool false,.bool false,.int .u64 0,.int .i64 0,.int .u64 0,.int .i64 (x1+1),.int .i64 x2,.int .i64 x3,.int .i64 x4]:Array Value).toList)=V2 at RV AV2 KV2 |-
 clear AV KV ZR ZV
 go_wp2_with fail
 have hr:=run_loadVar_mid (P:=Tryz.prog) V2 w.heap.size 0 59 [.int .i64 15,.int .i64 0,.int .i64 0,.bool false,.bool false,.bool false,.int .u64 0,.int .i64 0,.int .u64 0,.int .i64 (x1+1),.int .i64 x2,.int .i64 x3,.int .i64 x4] _ RV.out Tryz.underlying59 rfl call_info
 refine bodyPost_ret (v:=.agg #[.int .i64 15,.int .i64 0,.int .i64 0,.bool false,.bool false,.bool false,.int .u64 0,.int .i64 0,.int .u64 0,.int .i64 (x1+1),.int .i64 x2,.int .i64 x3,.int .i64 x4]) ?_ rfl ⟨rfl,AV2.out,KV2.out⟩
 exact results_one Tryz.results24 _ _ _ _ _ rfl hr
end Go.Proofs.YtlaiadheelgbdaaGreat.Ca
namespace Go.Proofs.YtlaiadheelgbdaaGreat.Ca
open Go.ChangeShapes Go.WideShapes Go.ChangeAt Go.RowKit Go.Maps
set_option linter.unusedSimpArgs false
set_option linter.unusedVariables false
set_option maxRecDepth 8000
set_option maxHeartbeats 4000000 in
theorem call5_1 (b:Nat) (W:Wd) (hw:W.wf) (h0:W.at 0=5) (hs:W.at 2=1) (l1:(spotOk (W.at 1) (W.at 2))) (l2:(W.at 3<256)) (w:World) (h:IsR w b W 0):Calls Tryz.prog 24 #[.pointer (some ⟨b,0,none⟩)] w fun e w'=>e=.returned (.agg #[.int .i64 5,.int .i64 0,.int .i64 0,.bool false,.bool false,.bool false,.int .u64 (W.at 1),.int .i64 (1),.int .u64 (W.at 3),.int .i64 0,.int .i64 0,.int .i64 0,.int .i64 0])/\IsR w' b W 4/\Kb b w w':=by
 have N0:Hid (∀ w:World,IsR w b W (0)->Calls Tryz.prog 37 #[.pointer (some ⟨b,0,none⟩),.int .u64 17] w fun e w'=>e=.returned (.int .i64 (W.at (0)))/\IsR w' b W (0+1)/\Kb b w w'):=fun w h=>number_yes b W (0) (by omega) hw 17 (by omega) (by omega) w h
 rw [h0] at N0
 have N1:Hid (∀ w:World,IsR w b W (1)->Calls Tryz.prog 40 #[.pointer (some ⟨b,0,none⟩)] w fun e w'=>e=.returned (.tuple #[.int .u64 (W.at 1),.int .i64 (W.at 2)])/\IsR w' b W (3)/\Kb b w w'):=fun w h=>place_yes b W 1 (by omega) hw l1 w h
 have N2:Hid (∀ w:World,IsR w b W (3)->Calls Tryz.prog 41 #[.pointer (some ⟨b,0,none⟩),.int .i64 1] w fun e w'=>e=.returned (.int .u64 (W.at 3))/\IsR w' b W (4)/\Kb b w w'):=fun w h=>sized_yes1 b W 3 (by omega) hw l2 w h
 rw [hs] at N1
 have p1:=(hw 1).1
 have H0:Hid (IsR w b W 0):=h
 have lt0:=blk_lt h
 clear h hw h0
 generalize W.at 1=x1 at *
 generalize W.at 2=x2 at *
 generalize W.at 3=x3 at *
 have A0:Hid (IsR (w.alloc (.cells [.int .i64 0,.int .i64 0,.int .i64 0,.bool false,.bool false,.bool false,.int .u64 0,.int .i64 0,.int .u64 0,.int .i64 0,.int .i64 0,.int .i64 0,.int .i64 0].toArray 59)) b W 0):=H0.out.below (Go.Joins.below_alloc1 _ _)
 have Z0:Hid (Blk (w.alloc (.cells [.int .i64 0,.int .i64 0,.int .i64 0,.bool false,.bool false,.bool false,.int .u64 0,.int .i64 0,.int .u64 0,.int .i64 0,.int .i64 0,.int .i64 0,.int .i64 0].toArray 59)) w.heap.size [.int .i64 0,.int .i64 0,.int .i64 0,.bool false,.bool false,.bool false,.int .u64 0,.int .i64 0,.int .u64 0,.int .i64 0,.int .i64 0,.int .i64 0,.int .i64 0] 59):=Blk.made w _ _
 have K0:Hid (Kb b w (w.alloc (.cells [.int .i64 0,.int .i64 0,.int .i64 0,.bool false,.bool false,.bool false,.int .u64 0,.int .i64 0,.int .u64 0,.int .i64 0,.int .i64 0,.int .i64 0,.int .i64 0].toArray 59))):=kb_alloc b w _
 go_enter Tryz.func24,Tryz.ntmps24
 go_wp2_with fail
 refine (N0.out _ A0.out).mono ?_
 rintro e u0 ⟨rfl,h1,k1⟩
 have A1:Hid (IsR u0 b W 1):=h1
 have K1:Hid (Kb b w u0):=K0.out.trans k1
 have Z1:Hid (Blk u0 w.heap.size [.int .i64 0,.int .i64 0,.int .i64 0,.bool false,.bool false,.bool false,.int .u64 0,.int .i64 0,.int .u64 0,.int .i64 0,.int .i64 0,.int .i64 0,.int .i64 0] 59):=Z0.out.kb k1 (by omega)
 clear h1 k1 A0 K0 Z0
 have y4:w.heap.size<u0.heap.size:=blk_lt Z1.out
 go_wp2_with fail
 have A2:Hid (IsR (u0.alloc (.cells #[.int .i64 5,.int .i64 0,.int .i64 0,.bool false,.bool false,.bool false,.int .u64 0,.int .i64 0,.int .u64 0,.int .i64 0,.int .i64 0,.int .i64 0,.int .i64 0] 59)) b W 1):=A1.out.below (Go.Joins.below_alloc1 _ _)
 have K2:Hid (Kb b w (u0.alloc (.cells #[.int .i64 5,.int .i64 0,.int .i64 0,.bool false,.bool false,.bool false,.int .u64 0,.int .i64 0,.int .u64 0,.int .i64 0,.int .i64 0,.int .i64 0,.int .i64 0] 59))):=K1.out.trans (kb_alloc b u0 _)
 have R2:Hid (Blk (u0.alloc (.cells #[.int .i64 5,.int .i64 0,.int .i64 0,.bool false,.bool false,.bool false,.int .u64 0,.int .i64 0,.int .u64 0,.int .i64 0,.int .i64 0,.int .i64 0,.int .i64 0] 59)) w.heap.size [.int .i64 0,.int .i64 0,.int .i64 0,.bool false,.bool false,.bool false,.int .u64 0,.int .i64 0,.int .u64 0,.int .i64 0,.int .i64 0,.int .i64 0,.int .i64 0] 59):=Z1.out.below (Go.Joins.below_alloc1 _ _)
 have C2:Hid (Blk (u0.alloc (.cells #[.int .i64 5,.int .i64 0,.int .i64 0,.bool false,.bool false,.bool false,.int .u64 0,.int .i64 0,.int .u64 0,.int .i64 0,.int .i64 0,.int .i64 0,.int .i64 0] 59)) u0.heap.size [.int .i64 5,.int .i64 0,.int .i64 0,.bool false,.bool false,.bool false,.int .u64 0,.int .i64 0,.int .u64 0,.int .i64 0,.int .i64 0,.int .i64 0,.int .i64 0] 59):=Blk.made u0 _ _
 refine (N1.out _ A2.out).mono ?_
 rintro e u1 ⟨rfl,h1,k1⟩
 have B2:Hid (IsR u1 b W 3):=h1
 have J2:Hid (Kb b w u1):=K2.out.trans k1
 have S2:Hid (Blk u1 w.heap.size [.int .i64 0,.int .i64 0,.int .i64 0,.bool false,.bool false,.bool false,.int .u64 0,.int .i64 0,.int .u64 0,.int .i64 0,.int .i64 0,.int .i64 0,.int .i64 0] 59):=R2.out.kb k1 (by omega)
 have D2:Hid (Blk u1 u0.heap.size [.int .i64 5,.int .i64 0,.int .i64 0,.bool false,.bool false,.bool false,.int .u64 0,.int .i64 0,.int .u64 0,.int .i64 0,.int .i64 0,.int .i64 0,.int .i64 0] 59):=C2.out.kb k1 (by omega)
 have ll2:u0.heap.size<u1.heap.size:=blk_lt D2.out
 clear h1 k1 A2 K2 R2 C2
 have c0_6:u1.cell? ⟨u0.heap.size,6,none⟩=some (.int .u64 0):=D2.out.cell 6
 have f0_6:u1.frozen? ⟨u0.heap.size,6,none⟩=false:=D2.out.free 6
 have c0_7:u1.cell? ⟨u0.heap.size,7,none⟩=some (.int .i64 0):=D2.out.cell 7
 have f0_7:u1.frozen? ⟨u0.heap.size,7,none⟩=false:=D2.out.free 7
 go_wp2_with fail
 have A3:Hid (IsR ((u1.setCell ⟨u0.heap.size,6,none⟩ (.int .u64 x1)).setCell ⟨u0.heap.size,7,none⟩ (.int .i64 (1))) b W 3):=((B2.out.blk.far 6 (.int .u64 x1) (c:=u0.heap.size) (by omega)).far 7 (.int .i64 (1)) (c:=u0.heap.size) (by omega))
 have K3:Hid (Kb b w ((u1.setCell ⟨u0.heap.size,6,none⟩ (.int .u64 x1)).setCell ⟨u0.heap.size,7,none⟩ (.int .i64 (1)))):=(kb_set (kb_set J2.out (by omega) 6 (.int .u64 x1)) (by omega) 7 (.int .i64 (1)))
 have R3:Hid (Blk ((u1.setCell ⟨u0.heap.size,6,none⟩ (.int .u64 x1)).setCell ⟨u0.heap.size,7,none⟩ (.int .i64 (1))) w.heap.size [.int .i64 0,.int .i64 0,.int .i64 0,.bool false,.bool false,.bool false,.int .u64 0,.int .i64 0,.int .u64 0,.int .i64 0,.int .i64 0,.int .i64 0,.int .i64 0] 59):=((S2.out.far 6 (.int .u64 x1) (by omega)).far 7 (.int .i64 (1)) (by omega))
 have C3:Hid (Blk ((u1.setCell ⟨u0.heap.size,6,none⟩ (.int .u64 x1)).setCell ⟨u0.heap.size,7,none⟩ (.int .i64 (1))) u0.heap.size [.int .i64 5,.int .i64 0,.int .i64 0,.bool false,.bool false,.bool false,.int .u64 x1,.int .i64 (1),.int .u64 0,.int .i64 0,.int .i64 0,.int .i64 0,.int .i64 0] 59):=((D2.out.set 6 (.int .u64 x1)).set 7 (.int .i64 (1)))
 refine (N2.out _ A3.out).mono ?_
 rintro e u2 ⟨rfl,h1,k1⟩
 have B3:Hid (IsR u2 b W 4):=h1
 have J3:Hid (Kb b w u2):=K3.out.trans k1
 have S3:Hid (Blk u2 w.heap.size [.int .i64 0,.int .i64 0,.int .i64 0,.bool false,.bool false,.bool false,.int .u64 0,.int .i64 0,.int .u64 0,.int .i64 0,.int .i64 0,.int .i64 0,.int .i64 0] 59):=R3.out.kb k1 (by omega)
 have D3:Hid (Blk u2 u0.heap.size [.int .i64 5,.int .i64 0,.int .i64 0,.bool false,.bool false,.bool false,.int .u64 x1,.int .i64 (1),.int .u64 0,.int .i64 0,.int .i64 0,.int .i64 0,.int .i64 0] 59):=C3.out.kb k1 (by omega)
 have ll3:u0.heap.size<u2.heap.size:=blk_lt D3.out
 clear h1 k1 A3 K3 R3 C3
 have c1_8:u2.cell? ⟨u0.heap.size,8,none⟩=some (.int .u64 0):=D3.out.cell 8
 have f1_8:u2.frozen? ⟨u0.heap.size,8,none⟩=false:=D3.out.free 8
 go_upto_region 40 with fail
 have AV:Hid (IsR (u2.setCell ⟨u0.heap.size,8,none⟩ (.int .u64 x3)) b W 4):=(B3.out.blk.far 8 (.int .u64 x3) (c:=u0.heap.size) (by omega))
 have KV:Hid (Kb b w (u2.setCell ⟨u0.heap.size,8,none⟩ (.int .u64 x3))):=(kb_set J3.out (by omega) 8 (.int .u64 x3))
 have ZR:Hid (Blk (u2.setCell ⟨u0.heap.size,8,none⟩ (.int .u64 x3)) w.heap.size [.int .i64 0,.int .i64 0,.int .i64 0,.bool false,.bool false,.bool false,.int .u64 0,.int .i64 0,.int .u64 0,.int .i64 0,.int .i64 0,.int .i64 0,.int .i64 0] 59):=(S3.out.far 8 (.int .u64 x3) (by omega))
 have ZV:Hid (Blk (u2.setCell ⟨u0.heap.size,8,none⟩ (.int .u64 x3)) u0.heap.size [.int .i64 5,.int .i64 0,.int .i64 0,.bool false,.bool false,.bool false,.int .u64 x1,.int .i64 (1),.int .u64 x3,.int .i64 0,.int .i64 0,.int .i64 0,.int .i64 0] 59):=(D3.out.set 8 (.int .u64 x3))
 generalize (u2.setCell ⟨u0.heap.size,8,none⟩ (.int .u64 x3))=V at AV KV ZR ZV |-
 refine wp_region_lit ?_
 refine load_pat (u0.heap.size) 0 [.int .i64 5,.int .i64 0,.int .i64 0,.bool false,.bool false,.bool false,.int .u64 x1,.int .i64 (1),.int .u64 x3,.int .i64 0,.int .i64 0,.int .i64 0,.int .i64 0] _ rfl ZV.out.range Tryz.underlying59 rfl call_info ?_
 refine store_pat w.heap.size 0 #[.int .i64 5,.int .i64 0,.int .i64 0,.bool false,.bool false,.bool false,.int .u64 x1,.int .i64 (1),.int .u64 x3,.int .i64 0,.int .i64 0,.int .i64 0,.int .i64 0] rfl rfl ZR.out.there call_info (by simp [Value.oneCell']) ?_
 have RV:Hid ((V.setCells w.heap.size 0 ((#[.int .i64 5,.int .i64 0,.int .i64 0,.bool false,.bool false,.bool false,.int .u64 x1,.int .i64 (1),.int .u64 x3,.int .i64 0,.int .i64 0,.int .i64 0,.int .i64 0]:Array Value).toList)).rangeAt w.heap.size 0 [.int .i64 5,.int .i64 0,.int .i64 0,.bool false,.bool false,.bool false,.int .u64 x1,.int .i64 (1),.int .u64 x3,.int .i64 0,.int .i64 0,.int .i64 0,.int .i64 0]):=World.rangeAt_setCells_same _ w.heap.size 0 [.int .i64 5,.int .i64 0,.int .i64 0,.bool false,.bool false,.bool false,.int .u64 x1,.int .i64 (1),.int .u64 x3,.int .i64 0,.int .i64 0,.int .i64 0,.int .i64 0] (show V.there w.heap.size 0 13 from ZR.out.there)
 have AV2:Hid (IsR (V.setCells w.heap.size 0 ((#[.int .i64 5,.int .i64 0,.int .i64 0,.bool false,.bool false,.bool false,.int .u64 x1,.int .i64 (1),.int .u64 x3,.int .i64 0,.int .i64 0,.int .i64 0,.int .i64 0]:Array Value).toList)) b W 4):=AV.out.scs (by omega) _ _
 have KV2:Hid (Kb b w (V.setCells w.heap.size 0 ((#[.int .i64 5,.int .i64 0,.int .i64 0,.bool false,.bool false,.bool false,.int .u64 x1,.int .i64 (1),.int .u64 x3,.int .i64 0,.int .i64 0,.int .i64 0,.int .i64 0]:Array Value).toList))):=kb_scs KV.out (Nat.le_refl _) _ _
 generalize V.setCells w.heap.size 0 ((#[.int .i64 5,.int .i64 0,.int .i64 0,.bool false,.bool false,.bool false,.int .u64 x1,.int .i64 (1),.int .u64 x3,.int .i64 0,.int .i64 0,.int .i64 0,.int .i64 0]:Array Value).toList)=V2 at RV AV2 KV2 |-
 clear AV KV ZR ZV
 go_wp2_with fail
 have hr:=run_loadVar_mid (P:=Tryz.prog) V2 w.heap.size 0 59 [.int .i64 5,.int .i64 0,.int .i64 0,.bool false,.bool false,.bool false,.int .u64 x1,.int .i64 (1),.int .u64 x3,.int .i64 0,.int .i64 0,.int .i64 0,.int .i64 0] _ RV.out Tryz.underlying59 rfl call_info
 refine bodyPost_ret (v:=.agg #[.int .i64 5,.int .i64 0,.int .i64 0,.bool false,.bool false,.bool false,.int .u64 x1,.int .i64 (1),.int .u64 x3,.int .i64 0,.int .i64 0,.int .i64 0,.int .i64 0]) ?_ rfl ⟨rfl,AV2.out,KV2.out⟩
 exact results_one Tryz.results24 _ _ _ _ _ rfl hr
set_option maxHeartbeats 4000000 in
theorem call5_2 (b:Nat) (W:Wd) (hw:W.wf) (h0:W.at 0=5) (hs:W.at 2=2) (l1:(spotOk (W.at 1) (W.at 2))) (l2:(W.at 3<65536)) (w:World) (h:IsR w b W 0):Calls Tryz.prog 24 #[.pointer (some ⟨b,0,none⟩)] w fun e w'=>e=.returned (.agg #[.int .i64 5,.int .i64 0,.int .i64 0,.bool false,.bool false,.bool false,.int .u64 (W.at 1),.int .i64 (2),.int .u64 (W.at 3),.int .i64 0,.int .i64 0,.int .i64 0,.int .i64 0])/\IsR w' b W 4/\Kb b w w':=by
 have N0:Hid (∀ w:World,IsR w b W (0)->Calls Tryz.prog 37 #[.pointer (some ⟨b,0,none⟩),.int .u64 17] w fun e w'=>e=.returned (.int .i64 (W.at (0)))/\IsR w' b W (0+1)/\Kb b w w'):=fun w h=>number_yes b W (0) (by omega) hw 17 (by omega) (by omega) w h
 rw [h0] at N0
 have N1:Hid (∀ w:World,IsR w b W (1)->Calls Tryz.prog 40 #[.pointer (some ⟨b,0,none⟩)] w fun e w'=>e=.returned (.tuple #[.int .u64 (W.at 1),.int .i64 (W.at 2)])/\IsR w' b W (3)/\Kb b w w'):=fun w h=>place_yes b W 1 (by omega) hw l1 w h
 have N2:Hid (∀ w:World,IsR w b W (3)->Calls Tryz.prog 41 #[.pointer (some ⟨b,0,none⟩),.int .i64 2] w fun e w'=>e=.returned (.int .u64 (W.at 3))/\IsR w' b W (4)/\Kb b w w'):=fun w h=>sized_yes2 b W 3 (by omega) hw l2 w h
 rw [hs] at N1
 have p1:=(hw 1).1
 have H0:Hid (IsR w b W 0):=h
 have lt0:=blk_lt h
 clear h hw h0
 generalize W.at 1=x1 at *
 generalize W.at 2=x2 at *
 generalize W.at 3=x3 at *
 have A0:Hid (IsR (w.alloc (.cells [.int .i64 0,.int .i64 0,.int .i64 0,.bool false,.bool false,.bool false,.int .u64 0,.int .i64 0,.int .u64 0,.int .i64 0,.int .i64 0,.int .i64 0,.int .i64 0].toArray 59)) b W 0):=H0.out.below (Go.Joins.below_alloc1 _ _)
 have Z0:Hid (Blk (w.alloc (.cells [.int .i64 0,.int .i64 0,.int .i64 0,.bool false,.bool false,.bool false,.int .u64 0,.int .i64 0,.int .u64 0,.int .i64 0,.int .i64 0,.int .i64 0,.int .i64 0].toArray 59)) w.heap.size [.int .i64 0,.int .i64 0,.int .i64 0,.bool false,.bool false,.bool false,.int .u64 0,.int .i64 0,.int .u64 0,.int .i64 0,.int .i64 0,.int .i64 0,.int .i64 0] 59):=Blk.made w _ _
 have K0:Hid (Kb b w (w.alloc (.cells [.int .i64 0,.int .i64 0,.int .i64 0,.bool false,.bool false,.bool false,.int .u64 0,.int .i64 0,.int .u64 0,.int .i64 0,.int .i64 0,.int .i64 0,.int .i64 0].toArray 59))):=kb_alloc b w _
 go_enter Tryz.func24,Tryz.ntmps24
 go_wp2_with fail
 refine (N0.out _ A0.out).mono ?_
 rintro e u0 ⟨rfl,h1,k1⟩
 have A1:Hid (IsR u0 b W 1):=h1
 have K1:Hid (Kb b w u0):=K0.out.trans k1
 have Z1:Hid (Blk u0 w.heap.size [.int .i64 0,.int .i64 0,.int .i64 0,.bool false,.bool false,.bool false,.int .u64 0,.int .i64 0,.int .u64 0,.int .i64 0,.int .i64 0,.int .i64 0,.int .i64 0] 59):=Z0.out.kb k1 (by omega)
 clear h1 k1 A0 K0 Z0
 have y4:w.heap.size<u0.heap.size:=blk_lt Z1.out
 go_wp2_with fail
 have A2:Hid (IsR (u0.alloc (.cells #[.int .i64 5,.int .i64 0,.int .i64 0,.bool false,.bool false,.bool false,.int .u64 0,.int .i64 0,.int .u64 0,.int .i64 0,.int .i64 0,.int .i64 0,.int .i64 0] 59)) b W 1):=A1.out.below (Go.Joins.below_alloc1 _ _)
 have K2:Hid (Kb b w (u0.alloc (.cells #[.int .i64 5,.int .i64 0,.int .i64 0,.bool false,.bool false,.bool false,.int .u64 0,.int .i64 0,.int .u64 0,.int .i64 0,.int .i64 0,.int .i64 0,.int .i64 0] 59))):=K1.out.trans (kb_alloc b u0 _)
 have R2:Hid (Blk (u0.alloc (.cells #[.int .i64 5,.int .i64 0,.int .i64 0,.bool false,.bool false,.bool false,.int .u64 0,.int .i64 0,.int .u64 0,.int .i64 0,.int .i64 0,.int .i64 0,.int .i64 0] 59)) w.heap.size [.int .i64 0,.int .i64 0,.int .i64 0,.bool false,.bool false,.bool false,.int .u64 0,.int .i64 0,.int .u64 0,.int .i64 0,.int .i64 0,.int .i64 0,.int .i64 0] 59):=Z1.out.below (Go.Joins.below_alloc1 _ _)
 have C2:Hid (Blk (u0.alloc (.cells #[.int .i64 5,.int .i64 0,.int .i64 0,.bool false,.bool false,.bool false,.int .u64 0,.int .i64 0,.int .u64 0,.int .i64 0,.int .i64 0,.int .i64 0,.int .i64 0] 59)) u0.heap.size [.int .i64 5,.int .i64 0,.int .i64 0,.bool false,.bool false,.bool false,.int .u64 0,.int .i64 0,.int .u64 0,.int .i64 0,.int .i64 0,.int .i64 0,.int .i64 0] 59):=Blk.made u0 _ _
 refine (N1.out _ A2.out).mono ?_
 rintro e u1 ⟨rfl,h1,k1⟩
 have B2:Hid (IsR u1 b W 3):=h1
 have J2:Hid (Kb b w u1):=K2.out.trans k1
 have S2:Hid (Blk u1 w.heap.size [.int .i64 0,.int .i64 0,.int .i64 0,.bool false,.bool false,.bool false,.int .u64 0,.int .i64 0,.int .u64 0,.int .i64 0,.int .i64 0,.int .i64 0,.int .i64 0] 59):=R2.out.kb k1 (by omega)
 have D2:Hid (Blk u1 u0.heap.size [.int .i64 5,.int .i64 0,.int .i64 0,.bool false,.bool false,.bool false,.int .u64 0,.int .i64 0,.int .u64 0,.int .i64 0,.int .i64 0,.int .i64 0,.int .i64 0] 59):=C2.out.kb k1 (by omega)
 have ll2:u0.heap.size<u1.heap.size:=blk_lt D2.out
 clear h1 k1 A2 K2 R2 C2
 have c0_6:u1.cell? ⟨u0.heap.size,6,none⟩=some (.int .u64 0):=D2.out.cell 6
 have f0_6:u1.frozen? ⟨u0.heap.size,6,none⟩=false:=D2.out.free 6
 have c0_7:u1.cell? ⟨u0.heap.size,7,none⟩=some (.int .i64 0):=D2.out.cell 7
 have f0_7:u1.frozen? ⟨u0.heap.size,7,none⟩=false:=D2.out.free 7
 go_wp2_with fail
 have A3:Hid (IsR ((u1.setCell ⟨u0.heap.size,6,none⟩ (.int .u64 x1)).setCell ⟨u0.heap.size,7,none⟩ (.int .i64 (2))) b W 3):=((B2.out.blk.far 6 (.int .u64 x1) (c:=u0.heap.size) (by omega)).far 7 (.int .i64 (2)) (c:=u0.heap.size) (by omega))
 have K3:Hid (Kb b w ((u1.setCell ⟨u0.heap.size,6,none⟩ (.int .u64 x1)).setCell ⟨u0.heap.size,7,none⟩ (.int .i64 (2)))):=(kb_set (kb_set J2.out (by omega) 6 (.int .u64 x1)) (by omega) 7 (.int .i64 (2)))
 have R3:Hid (Blk ((u1.setCell ⟨u0.heap.size,6,none⟩ (.int .u64 x1)).setCell ⟨u0.heap.size,7,none⟩ (.int .i64 (2))) w.heap.size [.int .i64 0,.int .i64 0,.int .i64 0,.bool false,.bool false,.bool false,.int .u64 0,.int .i64 0,.int .u64 0,.int .i64 0,.int .i64 0,.int .i64 0,.int .i64 0] 59):=((S2.out.far 6 (.int .u64 x1) (by omega)).far 7 (.int .i64 (2)) (by omega))
 have C3:Hid (Blk ((u1.setCell ⟨u0.heap.size,6,none⟩ (.int .u64 x1)).setCell ⟨u0.heap.size,7,none⟩ (.int .i64 (2))) u0.heap.size [.int .i64 5,.int .i64 0,.int .i64 0,.bool false,.bool false,.bool false,.int .u64 x1,.int .i64 (2),.int .u64 0,.int .i64 0,.int .i64 0,.int .i64 0,.int .i64 0] 59):=((D2.out.set 6 (.int .u64 x1)).set 7 (.int .i64 (2)))
 refine (N2.out _ A3.out).mono ?_
 rintro e u2 ⟨rfl,h1,k1⟩
 have B3:Hid (IsR u2 b W 4):=h1
 have J3:Hid (Kb b w u2):=K3.out.trans k1
 have S3:Hid (Blk u2 w.heap.size [.int .i64 0,.int .i64 0,.int .i64 0,.bool false,.bool false,.bool false,.int .u64 0,.int .i64 0,.int .u64 0,.int .i64 0,.int .i64 0,.int .i64 0,.int .i64 0] 59):=R3.out.kb k1 (by omega)
 have D3:Hid (Blk u2 u0.heap.size [.int .i64 5,.int .i64 0,.int .i64 0,.bool false,.bool false,.bool false,.int .u64 x1,.int .i64 (2),.int .u64 0,.int .i64 0,.int .i64 0,.int .i64 0,.int .i64 0] 59):=C3.out.kb k1 (by omega)
 have ll3:u0.heap.size<u2.heap.size:=blk_lt D3.out
 clear h1 k1 A3 K3 R3 C3
 have c1_8:u2.cell? ⟨u0.heap.size,8,none⟩=some (.int .u64 0):=D3.out.cell 8
 have f1_8:u2.frozen? ⟨u0.heap.size,8,none⟩=false:=D3.out.free 8
 go_upto_region 40 with fail
 have AV:Hid (IsR (u2.setCell ⟨u0.heap.size,8,none⟩ (.int .u64 x3)) b W 4):=(B3.out.blk.far 8 (.int .u64 x3) (c:=u0.heap.size) (by omega))
 have KV:Hid (Kb b w (u2.setCell ⟨u0.heap.size,8,none⟩ (.int .u64 x3))):=(kb_set J3.out (by omega) 8 (.int .u64 x3))
 have ZR:Hid (Blk (u2.setCell ⟨u0.heap.size,8,none⟩ (.int .u64 x3)) w.heap.size [.int .i64 0,.int .i64 0,.int .i64 0,.bool false,.bool false,.bool false,.int .u64 0,.int .i64 0,.int .u64 0,.int .i64 0,.int .i64 0,.int .i64 0,.int .i64 0] 59):=(S3.out.far 8 (.int .u64 x3) (by omega))
 have ZV:Hid (Blk (u2.setCell ⟨u0.heap.size,8,none⟩ (.int .u64 x3)) u0.heap.size [.int .i64 5,.int .i64 0,.int .i64 0,.bool false,.bool false,.bool false,.int .u64 x1,.int .i64 (2),.int .u64 x3,.int .i64 0,.int .i64 0,.int .i64 0,.int .i64 0] 59):=(D3.out.set 8 (.int .u64 x3))
 generalize (u2.setCell ⟨u0.heap.size,8,none⟩ (.int .u64 x3))=V at AV KV ZR ZV |-
 refine wp_region_lit ?_
 refine load_pat (u0.heap.size) 0 [.int .i64 5,.int .i64 0,.int .i64 0,.bool false,.bool false,.bool false,.int .u64 x1,.int .i64 (2),.int .u64 x3,.int .i64 0,.int .i64 0,.int .i64 0,.int .i64 0] _ rfl ZV.out.range Tryz.underlying59 rfl call_info ?_
 refine store_pat w.heap.size 0 #[.int .i64 5,.int .i64 0,.int .i64 0,.bool false,.bool false,.bool false,.int .u64 x1,.int .i64 (2),.int .u64 x3,.int .i64 0,.int .i64 0,.int .i64 0,.int .i64 0] rfl rfl ZR.out.there call_info (by simp [Value.oneCell']) ?_
 have RV:Hid ((V.setCells w.heap.size 0 ((#[.int .i64 5,.int .i64 0,.int .i64 0,.bool false,.bool false,.bool false,.int .u64 x1,.int .i64 (2),.int .u64 x3,.int .i64 0,.int .i64 0,.int .i64 0,.int .i64 0]:Array Value).toList)).rangeAt w.heap.size 0 [.int .i64 5,.int .i64 0,.int .i64 0,.bool false,.bool false,.bool false,.int .u64 x1,.int .i64 (2),.int .u64 x3,.int .i64 0,.int .i64 0,.int .i64 0,.int .i64 0]):=World.rangeAt_setCells_same _ w.heap.size 0 [.int .i64 5,.int .i64 0,.int .i64 0,.bool false,.bool false,.bool false,.int .u64 x1,.int .i64 (2),.int .u64 x3,.int .i64 0,.int .i64 0,.int .i64 0,.int .i64 0] (show V.there w.heap.size 0 13 from ZR.out.there)
 have AV2:Hid (IsR (V.setCells w.heap.size 0 ((#[.int .i64 5,.int .i64 0,.int .i64 0,.bool false,.bool false,.bool false,.int .u64 x1,.int .i64 (2),.int .u64 x3,.int .i64 0,.int .i64 0,.int .i64 0,.int .i64 0]:Array Value).toList)) b W 4):=AV.out.scs (by omega) _ _
 have KV2:Hid (Kb b w (V.setCells w.heap.size 0 ((#[.int .i64 5,.int .i64 0,.int .i64 0,.bool false,.bool false,.bool false,.int .u64 x1,.int .i64 (2),.int .u64 x3,.int .i64 0,.int .i64 0,.int .i64 0,.int .i64 0]:Array Value).toList))):=kb_scs KV.out (Nat.le_refl _) _ _
 generalize V.setCells w.heap.size 0 ((#[.int .i64 5,.int .i64 0,.int .i64 0,.bool false,.bool false,.bool false,.int .u64 x1,.int .i64 (2),.int .u64 x3,.int .i64 0,.int .i64 0,.int .i64 0,.int .i64 0]:Array Value).toList)=V2 at RV AV2 KV2 |-
 clear AV KV ZR ZV
 go_wp2_with fail
 have hr:=run_loadVar_mid (P:=Tryz.prog) V2 w.heap.size 0 59 [.int .i64 5,.int .i64 0,.int .i64 0,.bool false,.bool false,.bool false,.int .u64 x1,.int .i64 (2),.int .u64 x3,.int .i64 0,.int .i64 0,.int .i64 0,.int .i64 0] _ RV.out Tryz.underlying59 rfl call_info
 refine bodyPost_ret (v:=.agg #[.int .i64 5,.int .i64 0,.int .i64 0,.bool false,.bool false,.bool false,.int .u64 x1,.int .i64 (2),.int .u64 x3,.int .i64 0,.int .i64 0,.int .i64 0,.int .i64 0]) ?_ rfl ⟨rfl,AV2.out,KV2.out⟩
 exact results_one Tryz.results24 _ _ _ _ _ rfl hr
set_option maxHeartbeats 4000000 in
theorem call5_4 (b:Nat) (W:Wd) (hw:W.wf) (h0:W.at 0=5) (hs:W.at 2=4) (l1:(spotOk (W.at 1) (W.at 2))) (l2:(W.at 3<4294967296)) (w:World) (h:IsR w b W 0):Calls Tryz.prog 24 #[.pointer (some ⟨b,0,none⟩)] w fun e w'=>e=.returned (.agg #[.int .i64 5,.int .i64 0,.int .i64 0,.bool false,.bool false,.bool false,.int .u64 (W.at 1),.int .i64 (4),.int .u64 (W.at 3),.int .i64 0,.int .i64 0,.int .i64 0,.int .i64 0])/\IsR w' b W 4/\Kb b w w':=by
 have N0:Hid (∀ w:World,IsR w b W (0)->Calls Tryz.prog 37 #[.pointer (some ⟨b,0,none⟩),.int .u64 17] w fun e w'=>e=.returned (.int .i64 (W.at (0)))/\IsR w' b W (0+1)/\Kb b w w'):=fun w h=>number_yes b W (0) (by omega) hw 17 (by omega) (by omega) w h
 rw [h0] at N0
 have N1:Hid (∀ w:World,IsR w b W (1)->Calls Tryz.prog 40 #[.pointer (some ⟨b,0,none⟩)] w fun e w'=>e=.returned (.tuple #[.int .u64 (W.at 1),.int .i64 (W.at 2)])/\IsR w' b W (3)/\Kb b w w'):=fun w h=>place_yes b W 1 (by omega) hw l1 w h
 have N2:Hid (∀ w:World,IsR w b W (3)->Calls Tryz.prog 41 #[.pointer (some ⟨b,0,none⟩),.int .i64 4] w fun e w'=>e=.returned (.int .u64 (W.at 3))/\IsR w' b W (4)/\Kb b w w'):=fun w h=>sized_yes4 b W 3 (by omega) hw l2 w h
 rw [hs] at N1
 have p1:=(hw 1).1
 have H0:Hid (IsR w b W 0):=h
 have lt0:=blk_lt h
 clear h hw h0
 generalize W.at 1=x1 at *
 generalize W.at 2=x2 at *
 generalize W.at 3=x3 at *
 have A0:Hid (IsR (w.alloc (.cells [.int .i64 0,.int .i64 0,.int .i64 0,.bool false,.bool false,.bool false,.int .u64 0,.int .i64 0,.int .u64 0,.int .i64 0,.int .i64 0,.int .i64 0,.int .i64 0].toArray 59)) b W 0):=H0.out.below (Go.Joins.below_alloc1 _ _)
 have Z0:Hid (Blk (w.alloc (.cells [.int .i64 0,.int .i64 0,.int .i64 0,.bool false,.bool false,.bool false,.int .u64 0,.int .i64 0,.int .u64 0,.int .i64 0,.int .i64 0,.int .i64 0,.int .i64 0].toArray 59)) w.heap.size [.int .i64 0,.int .i64 0,.int .i64 0,.bool false,.bool false,.bool false,.int .u64 0,.int .i64 0,.int .u64 0,.int .i64 0,.int .i64 0,.int .i64 0,.int .i64 0] 59):=Blk.made w _ _
 have K0:Hid (Kb b w (w.alloc (.cells [.int .i64 0,.int .i64 0,.int .i64 0,.bool false,.bool false,.bool false,.int .u64 0,.int .i64 0,.int .u64 0,.int .i64 0,.int .i64 0,.int .i64 0,.int .i64 0].toArray 59))):=kb_alloc b w _
 go_enter Tryz.func24,Tryz.ntmps24
 go_wp2_with fail
 refine (N0.out _ A0.out).mono ?_
 rintro e u0 ⟨rfl,h1,k1⟩
 have A1:Hid (IsR u0 b W 1):=h1
 have K1:Hid (Kb b w u0):=K0.out.trans k1
 have Z1:Hid (Blk u0 w.heap.size [.int .i64 0,.int .i64 0,.int .i64 0,.bool false,.bool false,.bool false,.int .u64 0,.int .i64 0,.int .u64 0,.int .i64 0,.int .i64 0,.int .i64 0,.int .i64 0] 59):=Z0.out.kb k1 (by omega)
 clear h1 k1 A0 K0 Z0
 have y4:w.heap.size<u0.heap.size:=blk_lt Z1.out
 go_wp2_with fail
 have A2:Hid (IsR (u0.alloc (.cells #[.int .i64 5,.int .i64 0,.int .i64 0,.bool false,.bool false,.bool false,.int .u64 0,.int .i64 0,.int .u64 0,.int .i64 0,.int .i64 0,.int .i64 0,.int .i64 0] 59)) b W 1):=A1.out.below (Go.Joins.below_alloc1 _ _)
 have K2:Hid (Kb b w (u0.alloc (.cells #[.int .i64 5,.int .i64 0,.int .i64 0,.bool false,.bool false,.bool false,.int .u64 0,.int .i64 0,.int .u64 0,.int .i64 0,.int .i64 0,.int .i64 0,.int .i64 0] 59))):=K1.out.trans (kb_alloc b u0 _)
 have R2:Hid (Blk (u0.alloc (.cells #[.int .i64 5,.int .i64 0,.int .i64 0,.bool false,.bool false,.bool false,.int .u64 0,.int .i64 0,.int .u64 0,.int .i64 0,.int .i64 0,.int .i64 0,.int .i64 0] 59)) w.heap.size [.int .i64 0,.int .i64 0,.int .i64 0,.bool false,.bool false,.bool false,.int .u64 0,.int .i64 0,.int .u64 0,.int .i64 0,.int .i64 0,.int .i64 0,.int .i64 0] 59):=Z1.out.below (Go.Joins.below_alloc1 _ _)
 have C2:Hid (Blk (u0.alloc (.cells #[.int .i64 5,.int .i64 0,.int .i64 0,.bool false,.bool false,.bool false,.int .u64 0,.int .i64 0,.int .u64 0,.int .i64 0,.int .i64 0,.int .i64 0,.int .i64 0] 59)) u0.heap.size [.int .i64 5,.int .i64 0,.int .i64 0,.bool false,.bool false,.bool false,.int .u64 0,.int .i64 0,.int .u64 0,.int .i64 0,.int .i64 0,.int .i64 0,.int .i64 0] 59):=Blk.made u0 _ _
 refine (N1.out _ A2.out).mono ?_
 rintro e u1 ⟨rfl,h1,k1⟩
 have B2:Hid (IsR u1 b W 3):=h1
 have J2:Hid (Kb b w u1):=K2.out.trans k1
 have S2:Hid (Blk u1 w.heap.size [.int .i64 0,.int .i64 0,.int .i64 0,.bool false,.bool false,.bool false,.int .u64 0,.int .i64 0,.int .u64 0,.int .i64 0,.int .i64 0,.int .i64 0,.int .i64 0] 59):=R2.out.kb k1 (by omega)
 have D2:Hid (Blk u1 u0.heap.size [.int .i64 5,.int .i64 0,.int .i64 0,.bool false,.bool false,.bool false,.int .u64 0,.int .i64 0,.int .u64 0,.int .i64 0,.int .i64 0,.int .i64 0,.int .i64 0] 59):=C2.out.kb k1 (by omega)
 have ll2:u0.heap.size<u1.heap.size:=blk_lt D2.out
 clear h1 k1 A2 K2 R2 C2
 have c0_6:u1.cell? ⟨u0.heap.size,6,none⟩=some (.int .u64 0):=D2.out.cell 6
 have f0_6:u1.frozen? ⟨u0.heap.size,6,none⟩=false:=D2.out.free 6
 have c0_7:u1.cell? ⟨u0.heap.size,7,none⟩=some (.int .i64 0):=D2.out.cell 7
 have f0_7:u1.frozen? ⟨u0.heap.size,7,none⟩=false:=D2.out.free 7
 go_wp2_with fail
 have A3:Hid (IsR ((u1.setCell ⟨u0.heap.size,6,none⟩ (.int .u64 x1)).setCell ⟨u0.heap.size,7,none⟩ (.int .i64 (4))) b W 3):=((B2.out.blk.far 6 (.int .u64 x1) (c:=u0.heap.size) (by omega)).far 7 (.int .i64 (4)) (c:=u0.heap.size) (by omega))
 have K3:Hid (Kb b w ((u1.setCell ⟨u0.heap.size,6,none⟩ (.int .u64 x1)).setCell ⟨u0.heap.size,7,none⟩ (.int .i64 (4)))):=(kb_set (kb_set J2.out (by omega) 6 (.int .u64 x1)) (by omega) 7 (.int .i64 (4)))
 have R3:Hid (Blk ((u1.setCell ⟨u0.heap.size,6,none⟩ (.int .u64 x1)).setCell ⟨u0.heap.size,7,none⟩ (.int .i64 (4))) w.heap.size [.int .i64 0,.int .i64 0,.int .i64 0,.bool false,.bool false,.bool false,.int .u64 0,.int .i64 0,.int .u64 0,.int .i64 0,.int .i64 0,.int .i64 0,.int .i64 0] 59):=((S2.out.far 6 (.int .u64 x1) (by omega)).far 7 (.int .i64 (4)) (by omega))
 have C3:Hid (Blk ((u1.setCell ⟨u0.heap.size,6,none⟩ (.int .u64 x1)).setCell ⟨u0.heap.size,7,none⟩ (.int .i64 (4))) u0.heap.size [.int .i64 5,.int .i64 0,.int .i64 0,.bool false,.bool false,.bool false,.int .u64 x1,.int .i64 (4),.int .u64 0,.int .i64 0,.int .i64 0,.int .i64 0,.int .i64 0] 59):=((D2.out.set 6 (.int .u64 x1)).set 7 (.int .i64 (4)))
 refine (N2.out _ A3.out).mono ?_
 rintro e u2 ⟨rfl,h1,k1⟩
 have B3:Hid (IsR u2 b W 4):=h1
 have J3:Hid (Kb b w u2):=K3.out.trans k1
 have S3:Hid (Blk u2 w.heap.size [.int .i64 0,.int .i64 0,.int .i64 0,.bool false,.bool false,.bool false,.int .u64 0,.int .i64 0,.int .u64 0,.int .i64 0,.int .i64 0,.int .i64 0,.int .i64 0] 59):=R3.out.kb k1 (by omega)
 have D3:Hid (Blk u2 u0.heap.size [.int .i64 5,.int .i64 0,.int .i64 0,.bool false,.bool false,.bool false,.int .u64 x1,.int .i64 (4),.int .u64 0,.int .i64 0,.int .i64 0,.int .i64 0,.int .i64 0] 59):=C3.out.kb k1 (by omega)
 have ll3:u0.heap.size<u2.heap.size:=blk_lt D3.out
 clear h1 k1 A3 K3 R3 C3
 have c1_8:u2.cell? ⟨u0.heap.size,8,none⟩=some (.int .u64 0):=D3.out.cell 8
 have f1_8:u2.frozen? ⟨u0.heap.size,8,none⟩=false:=D3.out.free 8
 go_upto_region 40 with fail
 have AV:Hid (IsR (u2.setCell ⟨u0.heap.size,8,none⟩ (.int .u64 x3)) b W 4):=(B3.out.blk.far 8 (.int .u64 x3) (c:=u0.heap.size) (by omega))
 have KV:Hid (Kb b w (u2.setCell ⟨u0.heap.size,8,none⟩ (.int .u64 x3))):=(kb_set J3.out (by omega) 8 (.int .u64 x3))
 have ZR:Hid (Blk (u2.setCell ⟨u0.heap.size,8,none⟩ (.int .u64 x3)) w.heap.size [.int .i64 0,.int .i64 0,.int .i64 0,.bool false,.bool false,.bool false,.int .u64 0,.int .i64 0,.int .u64 0,.int .i64 0,.int .i64 0,.int .i64 0,.int .i64 0] 59):=(S3.out.far 8 (.int .u64 x3) (by omega))
 have ZV:Hid (Blk (u2.setCell ⟨u0.heap.size,8,none⟩ (.int .u64 x3)) u0.heap.size [.int .i64 5,.int .i64 0,.int .i64 0,.bool false,.bool false,.bool false,.int .u64 x1,.int .i64 (4),.int .u64 x3,.int .i64 0,.int .i64 0,.int .i64 0,.int .i64 0] 59):=(D3.out.set 8 (.int .u64 x3))
 generalize (u2.setCell ⟨u0.heap.size,8,none⟩ (.int .u64 x3))=V at AV KV ZR ZV |-
 refine wp_region_lit ?_
 refine load_pat (u0.heap.size) 0 [.int .i64 5,.int .i64 0,.int .i64 0,.bool false,.bool false,.bool false,.int .u64 x1,.int .i64 (4),.int .u64 x3,.int .i64 0,.int .i64 0,.int .i64 0,.int .i64 0] _ rfl ZV.out.range Tryz.underlying59 rfl call_info ?_
 refine store_pat w.heap.size 0 #[.int .i64 5,.int .i64 0,.int .i64 0,.bool false,.bool false,.bool false,.int .u64 x1,.int .i64 (4),.int .u64 x3,.int .i64 0,.int .i64 0,.int .i64 0,.int .i64 0] rfl rfl ZR.out.there call_info (by simp [Value.oneCell']) ?_
 have RV:Hid ((V.setCells w.heap.size 0 ((#[.int .i64 5,.int .i64 0,.int .i64 0,.bool false,.bool false,.bool false,.int .u64 x1,.int .i64 (4),.int .u64 x3,.int .i64 0,.int .i64 0,.int .i64 0,.int .i64 0]:Array Value).toList)).rangeAt w.heap.size 0 [.int .i64 5,.int .i64 0,.int .i64 0,.bool false,.bool false,.bool false,.int .u64 x1,.int .i64 (4),.int .u64 x3,.int .i64 0,.int .i64 0,.int .i64 0,.int .i64 0]):=World.rangeAt_setCells_same _ w.heap.size 0 [.int .i64 5,.int .i64 0,.int .i64 0,.bool false,.bool false,.bool false,.int .u64 x1,.int .i64 (4),.int .u64 x3,.int .i64 0,.int .i64 0,.int .i64 0,.int .i64 0] (show V.there w.heap.size 0 13 from ZR.out.there)
 have AV2:Hid (IsR (V.setCells w.heap.size 0 ((#[.int .i64 5,.int .i64 0,.int .i64 0,.bool false,.bool false,.bool false,.int .u64 x1,.int .i64 (4),.int .u64 x3,.int .i64 0,.int .i64 0,.int .i64 0,.int .i64 0]:Array Value).toList)) b W 4):=AV.out.scs (by omega) _ _
 have KV2:Hid (Kb b w (V.setCells w.heap.size 0 ((#[.int .i64 5,.int .i64 0,.int .i64 0,.bool false,.bool false,.bool false,.int .u64 x1,.int .i64 (4),.int .u64 x3,.int .i64 0,.int .i64 0,.int .i64 0,.int .i64 0]:Array Value).toList))):=kb_scs KV.out (Nat.le_refl _) _ _
 generalize V.setCells w.heap.size 0 ((#[.int .i64 5,.int .i64 0,.int .i64 0,.bool false,.bool false,.bool false,.int .u64 x1,.int .i64 (4),.int .u64 x3,.int .i64 0,.int .i64 0,.int .i64 0,.int .i64 0]:Array Value).toList)=V2 at RV AV2 KV2 |-
 clear AV KV ZR ZV
 go_wp2_with fail
 have hr:=run_loadVar_mid (P:=Tryz.prog) V2 w.heap.size 0 59 [.int .i64 5,.int .i64 0,.int .i64 0,.bool false,.bool false,.bool false,.int .u64 x1,.int .i64 (4),.int .u64 x3,.int .i64 0,.int .i64 0,.int .i64 0,.int .i64 0] _ RV.out Tryz.underlying59 rfl call_info
 refine bodyPost_ret (v:=.agg #[.int .i64 5,.int .i64 0,.int .i64 0,.bool false,.bool false,.bool false,.int .u64 x1,.int .i64 (4),.int .u64 x3,.int .i64 0,.int .i64 0,.int .i64 0,.int .i64 0]) ?_ rfl ⟨rfl,AV2.out,KV2.out⟩
 exact results_one Tryz.results24 _ _ _ _ _ rfl hr
set_option maxHeartbeats 4000000 in
theorem call5_8 (b:Nat) (W:Wd) (hw:W.wf) (h0:W.at 0=5) (hs:W.at 2=8) (l1:(spotOk (W.at 1) (W.at 2))) (l2:(W.at 3<18446744073709551616)) (w:World) (h:IsR w b W 0):Calls Tryz.prog 24 #[.pointer (some ⟨b,0,none⟩)] w fun e w'=>e=.returned (.agg #[.int .i64 5,.int .i64 0,.int .i64 0,.bool false,.bool false,.bool false,.int .u64 (W.at 1),.int .i64 (8),.int .u64 (W.at 3),.int .i64 0,.int .i64 0,.int .i64 0,.int .i64 0])/\IsR w' b W 4/\Kb b w w':=by
 have N0:Hid (∀ w:World,IsR w b W (0)->Calls Tryz.prog 37 #[.pointer (some ⟨b,0,none⟩),.int .u64 17] w fun e w'=>e=.returned (.int .i64 (W.at (0)))/\IsR w' b W (0+1)/\Kb b w w'):=fun w h=>number_yes b W (0) (by omega) hw 17 (by omega) (by omega) w h
 rw [h0] at N0
 have N1:Hid (∀ w:World,IsR w b W (1)->Calls Tryz.prog 40 #[.pointer (some ⟨b,0,none⟩)] w fun e w'=>e=.returned (.tuple #[.int .u64 (W.at 1),.int .i64 (W.at 2)])/\IsR w' b W (3)/\Kb b w w'):=fun w h=>place_yes b W 1 (by omega) hw l1 w h
 have N2:Hid (∀ w:World,IsR w b W (3)->Calls Tryz.prog 41 #[.pointer (some ⟨b,0,none⟩),.int .i64 8] w fun e w'=>e=.returned (.int .u64 (W.at 3))/\IsR w' b W (4)/\Kb b w w'):=fun w h=>sized_yes8 b W 3 (by omega) hw l2 w h
 rw [hs] at N1
 have p1:=(hw 1).1
 have H0:Hid (IsR w b W 0):=h
 have lt0:=blk_lt h
 clear h hw h0
 generalize W.at 1=x1 at *
 generalize W.at 2=x2 at *
 generalize W.at 3=x3 at *
 have A0:Hid (IsR (w.alloc (.cells [.int .i64 0,.int .i64 0,.int .i64 0,.bool false,.bool false,.bool false,.int .u64 0,.int .i64 0,.int .u64 0,.int .i64 0,.int .i64 0,.int .i64 0,.int .i64 0].toArray 59)) b W 0):=H0.out.below (Go.Joins.below_alloc1 _ _)
 have Z0:Hid (Blk (w.alloc (.cells [.int .i64 0,.int .i64 0,.int .i64 0,.bool false,.bool false,.bool false,.int .u64 0,.int .i64 0,.int .u64 0,.int .i64 0,.int .i64 0,.int .i64 0,.int .i64 0].toArray 59)) w.heap.size [.int .i64 0,.int .i64 0,.int .i64 0,.bool false,.bool false,.bool false,.int .u64 0,.int .i64 0,.int .u64 0,.int .i64 0,.int .i64 0,.int .i64 0,.int .i64 0] 59):=Blk.made w _ _
 have K0:Hid (Kb b w (w.alloc (.cells [.int .i64 0,.int .i64 0,.int .i64 0,.bool false,.bool false,.bool false,.int .u64 0,.int .i64 0,.int .u64 0,.int .i64 0,.int .i64 0,.int .i64 0,.int .i64 0].toArray 59))):=kb_alloc b w _
 go_enter Tryz.func24,Tryz.ntmps24
 go_wp2_with fail
 refine (N0.out _ A0.out).mono ?_
 rintro e u0 ⟨rfl,h1,k1⟩
 have A1:Hid (IsR u0 b W 1):=h1
 have K1:Hid (Kb b w u0):=K0.out.trans k1
 have Z1:Hid (Blk u0 w.heap.size [.int .i64 0,.int .i64 0,.int .i64 0,.bool false,.bool false,.bool false,.int .u64 0,.int .i64 0,.int .u64 0,.int .i64 0,.int .i64 0,.int .i64 0,.int .i64 0] 59):=Z0.out.kb k1 (by omega)
 clear h1 k1 A0 K0 Z0
 have y4:w.heap.size<u0.heap.size:=blk_lt Z1.out
 go_wp2_with fail
 have A2:Hid (IsR (u0.alloc (.cells #[.int .i64 5,.int .i64 0,.int .i64 0,.bool false,.bool false,.bool false,.int .u64 0,.int .i64 0,.int .u64 0,.int .i64 0,.int .i64 0,.int .i64 0,.int .i64 0] 59)) b W 1):=A1.out.below (Go.Joins.below_alloc1 _ _)
 have K2:Hid (Kb b w (u0.alloc (.cells #[.int .i64 5,.int .i64 0,.int .i64 0,.bool false,.bool false,.bool false,.int .u64 0,.int .i64 0,.int .u64 0,.int .i64 0,.int .i64 0,.int .i64 0,.int .i64 0] 59))):=K1.out.trans (kb_alloc b u0 _)
 have R2:Hid (Blk (u0.alloc (.cells #[.int .i64 5,.int .i64 0,.int .i64 0,.bool false,.bool false,.bool false,.int .u64 0,.int .i64 0,.int .u64 0,.int .i64 0,.int .i64 0,.int .i64 0,.int .i64 0] 59)) w.heap.size [.int .i64 0,.int .i64 0,.int .i64 0,.bool false,.bool false,.bool false,.int .u64 0,.int .i64 0,.int .u64 0,.int .i64 0,.int .i64 0,.int .i64 0,.int .i64 0] 59):=Z1.out.below (Go.Joins.below_alloc1 _ _)
 have C2:Hid (Blk (u0.alloc (.cells #[.int .i64 5,.int .i64 0,.int .i64 0,.bool false,.bool false,.bool false,.int .u64 0,.int .i64 0,.int .u64 0,.int .i64 0,.int .i64 0,.int .i64 0,.int .i64 0] 59)) u0.heap.size [.int .i64 5,.int .i64 0,.int .i64 0,.bool false,.bool false,.bool false,.int .u64 0,.int .i64 0,.int .u64 0,.int .i64 0,.int .i64 0,.int .i64 0,.int .i64 0] 59):=Blk.made u0 _ _
 refine (N1.out _ A2.out).mono ?_
 rintro e u1 ⟨rfl,h1,k1⟩
 have B2:Hid (IsR u1 b W 3):=h1
 have J2:Hid (Kb b w u1):=K2.out.trans k1
 have S2:Hid (Blk u1 w.heap.size [.int .i64 0,.int .i64 0,.int .i64 0,.bool false,.bool false,.bool false,.int .u64 0,.int .i64 0,.int .u64 0,.int .i64 0,.int .i64 0,.int .i64 0,.int .i64 0] 59):=R2.out.kb k1 (by omega)
 have D2:Hid (Blk u1 u0.heap.size [.int .i64 5,.int .i64 0,.int .i64 0,.bool false,.bool false,.bool false,.int .u64 0,.int .i64 0,.int .u64 0,.int .i64 0,.int .i64 0,.int .i64 0,.int .i64 0] 59):=C2.out.kb k1 (by omega)
 have ll2:u0.heap.size<u1.heap.size:=blk_lt D2.out
 clear h1 k1 A2 K2 R2 C2
 have c0_6:u1.cell? ⟨u0.heap.size,6,none⟩=some (.int .u64 0):=D2.out.cell 6
 have f0_6:u1.frozen? ⟨u0.heap.size,6,none⟩=false:=D2.out.free 6
 have c0_7:u1.cell? ⟨u0.heap.size,7,none⟩=some (.int .i64 0):=D2.out.cell 7
 have f0_7:u1.frozen? ⟨u0.heap.size,7,none⟩=false:=D2.out.free 7
 go_wp2_with fail
 have A3:Hid (IsR ((u1.setCell ⟨u0.heap.size,6,none⟩ (.int .u64 x1)).setCell ⟨u0.heap.size,7,none⟩ (.int .i64 (8))) b W 3):=((B2.out.blk.far 6 (.int .u64 x1) (c:=u0.heap.size) (by omega)).far 7 (.int .i64 (8)) (c:=u0.heap.size) (by omega))
 have K3:Hid (Kb b w ((u1.setCell ⟨u0.heap.size,6,none⟩ (.int .u64 x1)).setCell ⟨u0.heap.size,7,none⟩ (.int .i64 (8)))):=(kb_set (kb_set J2.out (by omega) 6 (.int .u64 x1)) (by omega) 7 (.int .i64 (8)))
 have R3:Hid (Blk ((u1.setCell ⟨u0.heap.size,6,none⟩ (.int .u64 x1)).setCell ⟨u0.heap.size,7,none⟩ (.int .i64 (8))) w.heap.size [.int .i64 0,.int .i64 0,.int .i64 0,.bool false,.bool false,.bool false,.int .u64 0,.int .i64 0,.int .u64 0,.int .i64 0,.int .i64 0,.int .i64 0,.int .i64 0] 59):=((S2.out.far 6 (.int .u64 x1) (by omega)).far 7 (.int .i64 (8)) (by omega))
 have C3:Hid (Blk ((u1.setCell ⟨u0.heap.size,6,none⟩ (.int .u64 x1)).setCell ⟨u0.heap.size,7,none⟩ (.int .i64 (8))) u0.heap.size [.int .i64 5,.int .i64 0,.int .i64 0,.bool false,.bool false,.bool false,.int .u64 x1,.int .i64 (8),.int .u64 0,.int .i64 0,.int .i64 0,.int .i64 0,.int .i64 0] 59):=((D2.out.set 6 (.int .u64 x1)).set 7 (.int .i64 (8)))
 refine (N2.out _ A3.out).mono ?_
 rintro e u2 ⟨rfl,h1,k1⟩
 have B3:Hid (IsR u2 b W 4):=h1
 have J3:Hid (Kb b w u2):=K3.out.trans k1
 have S3:Hid (Blk u2 w.heap.size [.int .i64 0,.int .i64 0,.int .i64 0,.bool false,.bool false,.bool false,.int .u64 0,.int .i64 0,.int .u64 0,.int .i64 0,.int .i64 0,.int .i64 0,.int .i64 0] 59):=R3.out.kb k1 (by omega)
 have D3:Hid (Blk u2 u0.heap.size [.int .i64 5,.int .i64 0,.int .i64 0,.bool false,.bool false,.bool false,.int .u64 x1,.int .i64 (8),.int .u64 0,.int .i64 0,.int .i64 0,.int .i64 0,.int .i64 0] 59):=C3.out.kb k1 (by omega)
 have ll3:u0.heap.size<u2.heap.size:=blk_lt D3.out
 clear h1 k1 A3 K3 R3 C3
 have c1_8:u2.cell? ⟨u0.heap.size,8,none⟩=some (.int .u64 0):=D3.out.cell 8
 have f1_8:u2.frozen? ⟨u0.heap.size,8,none⟩=false:=D3.out.free 8
 go_upto_region 40 with fail
 have AV:Hid (IsR (u2.setCell ⟨u0.heap.size,8,none⟩ (.int .u64 x3)) b W 4):=(B3.out.blk.far 8 (.int .u64 x3) (c:=u0.heap.size) (by omega))
 have KV:Hid (Kb b w (u2.setCell ⟨u0.heap.size,8,none⟩ (.int .u64 x3))):=(kb_set J3.out (by omega) 8 (.int .u64 x3))
 have ZR:Hid (Blk (u2.setCell ⟨u0.heap.size,8,none⟩ (.int .u64 x3)) w.heap.size [.int .i64 0,.int .i64 0,.int .i64 0,.bool false,.bool false,.bool false,.int .u64 0,.int .i64 0,.int .u64 0,.int .i64 0,.int .i64 0,.int .i64 0,.int .i64 0] 59):=(S3.out.far 8 (.int .u64 x3) (by omega))
 have ZV:Hid (Blk (u2.setCell ⟨u0.heap.size,8,none⟩ (.int .u64 x3)) u0.heap.size [.int .i64 5,.int .i64 0,.int .i64 0,.bool false,.bool false,.bool false,.int .u64 x1,.int .i64 (8),.int .u64 x3,.int .i64 0,.int .i64 0,.int .i64 0,.int .i64 0] 59):=(D3.out.set 8 (.int .u64 x3))
 generalize (u2.setCell ⟨u0.heap.size,8,none⟩ (.int .u64 x3))=V at AV KV ZR ZV |-
 refine wp_region_lit ?_
 refine load_pat (u0.heap.size) 0 [.int .i64 5,.int .i64 0,.int .i64 0,.bool false,.bool false,.bool false,.int .u64 x1,.int .i64 (8),.int .u64 x3,.int .i64 0,.int .i64 0,.int .i64 0,.int .i64 0] _ rfl ZV.out.range Tryz.underlying59 rfl call_info ?_
 refine store_pat w.heap.size 0 #[.int .i64 5,.int .i64 0,.int .i64 0,.bool false,.bool false,.bool false,.int .u64 x1,.int .i64 (8),.int .u64 x3,.int .i64 0,.int .i64 0,.int .i64 0,.int .i64 0] rfl rfl ZR.out.there call_info (by simp [Value.oneCell']) ?_
 have RV:Hid ((V.setCells w.heap.size 0 ((#[.int .i64 5,.int .i64 0,.int .i64 0,.bool false,.bool false,.bool false,.int .u64 x1,.int .i64 (8),.int .u64 x3,.int .i64 0,.int .i64 0,.int .i64 0,.int .i64 0]:Array Value).toList)).rangeAt w.heap.size 0 [.int .i64 5,.int .i64 0,.int .i64 0,.bool false,.bool false,.bool false,.int .u64 x1,.int .i64 (8),.int .u64 x3,.int .i64 0,.int .i64 0,.int .i64 0,.int .i64 0]):=World.rangeAt_setCells_same _ w.heap.size 0 [.int .i64 5,.int .i64 0,.int .i64 0,.bool false,.bool false,.bool false,.int .u64 x1,.int .i64 (8),.int .u64 x3,.int .i64 0,.int .i64 0,.int .i64 0,.int .i64 0] (show V.there w.heap.size 0 13 from ZR.out.there)
 have AV2:Hid (IsR (V.setCells w.heap.size 0 ((#[.int .i64 5,.int .i64 0,.int .i64 0,.bool false,.bool false,.bool false,.int .u64 x1,.int .i64 (8),.int .u64 x3,.int .i64 0,.int .i64 0,.int .i64 0,.int .i64 0]:Array Value).toList)) b W 4):=AV.out.scs (by omega) _ _
 have KV2:Hid (Kb b w (V.setCells w.heap.size 0 ((#[.int .i64 5,.int .i64 0,.int .i64 0,.bool false,.bool false,.bool false,.int .u64 x1,.int .i64 (8),.int .u64 x3,.int .i64 0,.int .i64 0,.int .i64 0,.int .i64 0]:Array Value).toList))):=kb_scs KV.out (Nat.le_refl _) _ _
 generalize V.setCells w.heap.size 0 ((#[.int .i64 5,.int .i64 0,.int .i64 0,.bool false,.bool false,.bool false,.int .u64 x1,.int .i64 (8),.int .u64 x3,.int .i64 0,.int .i64 0,.int .i64 0,.int .i64 0]:Array Value).toList)=V2 at RV AV2 KV2 |-
 clear AV KV ZR ZV
 go_wp2_with fail
 have hr:=run_loadVar_mid (P:=Tryz.prog) V2 w.heap.size 0 59 [.int .i64 5,.int .i64 0,.int .i64 0,.bool false,.bool false,.bool false,.int .u64 x1,.int .i64 (8),.int .u64 x3,.int .i64 0,.int .i64 0,.int .i64 0,.int .i64 0] _ RV.out Tryz.underlying59 rfl call_info
 refine bodyPost_ret (v:=.agg #[.int .i64 5,.int .i64 0,.int .i64 0,.bool false,.bool false,.bool false,.int .u64 x1,.int .i64 (8),.int .u64 x3,.int .i64 0,.int .i64 0,.int .i64 0,.int .i64 0]) ?_ rfl ⟨rfl,AV2.out,KV2.out⟩
 exact results_one Tryz.results24 _ _ _ _ _ rfl hr
end Go.Proofs.YtlaiadheelgbdaaGreat.Ca
namespace Go.Proofs.YtlaiadheelgbdaaGreat.Ca
open Go.ChangeShapes Go.WideShapes Go.ChangeAt Go.RowKit Go.Maps
set_option linter.unusedSimpArgs false
set_option linter.unusedVariables false
set_option maxRecDepth 8000
end Go.Proofs.YtlaiadheelgbdaaGreat.Ca
namespace Go.Proofs.YtlaiadheelgbdaaGreat.Ca
open Go.ChangeShapes Go.WideShapes Go.ChangeAt Go.RowKit Go.Maps
set_option linter.unusedSimpArgs false
set_option linter.unusedVariables false
set_option maxRecDepth 8000
end Go.Proofs.YtlaiadheelgbdaaGreat.Ca
namespace Go.Proofs.YtlaiadheelgbdaaGreat.Ca
open Go.ChangeShapes Go.WideShapes Go.ChangeAt Go.RowKit Go.Maps
set_option linter.unusedSimpArgs false
set_option linter.unusedVariables false
set_option maxRecDepth 8000
def callV (W:Wd):Option (Cl × Nat) :=
 if W.at 0=1 then (if pagesOk (W.at 1) (W.at 2)/\W.at 3<4 then some (⟨1,(W.at 1),(W.at 1+W.at 2),(permW (W.at 3)),true,(permX (W.at 3)),0,0,0,0,0,0,0⟩,4) else none) else
 if W.at 0=2 then (if pagesOk (W.at 1) (W.at 2) then some (⟨2,(W.at 1),(W.at 1+W.at 2),false,false,false,0,0,0,0,0,0,0⟩,3) else none) else
 if W.at 0=3 then (if pagesOk (W.at 1) (W.at 2)/\W.at 3<4 then some (⟨3,(W.at 1),(W.at 1+W.at 2),(permW (W.at 3)),true,(permX (W.at 3)),0,0,0,0,0,0,0⟩,4) else none) else
 if W.at 0=4 then (if spotOk (W.at 1) (W.at 2) then some (⟨4,0,0,false,false,false,(W.at 1),(W.at 2),0,0,0,0,0⟩,3) else none) else
 if W.at 0=6 then (if W.at 1<34359738368/\W.at 2<16/\W.at 3<2 then some (⟨6,(W.at 1),(W.at 1+1),(W.at 3==1),false,false,0,0,0,(W.at 2),0,0,0⟩,4) else none) else
 if W.at 0=7 then (if W.at 1<256/\W.at 2<34359738368 then some (⟨7,(W.at 2),(W.at 2+1),false,false,false,0,0,0,(W.at 1),0,0,0⟩,3) else none) else
 if W.at 0=8 then (if W.at 1<256 then some (⟨8,0,0,false,false,false,0,0,0,(W.at 1),0,0,0⟩,2) else none) else
 if W.at 0=9 then (if W.at 1<256 then some (⟨9,0,0,false,false,false,0,0,0,(W.at 1),0,0,0⟩,2) else none) else
 if W.at 0=10 then (if W.at 1<140737488355328 then some (⟨10,0,0,false,false,false,(W.at 1),0,0,0,0,0,0⟩,2) else none) else
 if W.at 0=11 then (some (⟨11,0,0,false,false,false,0,0,0,0,0,0,0⟩,1)) else
 if W.at 0=12 then (if W.at 1<1048577 then some (⟨12,0,0,false,false,false,0,0,0,(W.at 1),0,0,0⟩,2) else none) else
 if W.at 0=13 then (some (⟨13,0,0,false,false,false,0,0,0,0,0,0,0⟩,1)) else
 if W.at 0=14 then (some (⟨14,0,0,false,false,false,0,0,0,0,0,0,0⟩,1)) else
 if W.at 0=15 then (if W.at 1<8/\W.at 2<4/\W.at 3<4/\W.at 4<4 then some (⟨15,0,0,false,false,false,0,0,0,(W.at 1+1),(W.at 2),(W.at 3),(W.at 4)⟩,5) else none) else
 if W.at 0=16 then (if W.at 1<4 then some (⟨16,0,0,false,false,false,0,0,(W.at 2),(W.at 1),0,0,0⟩,3) else none) else
 if W.at 0=5 then (if spotOk (W.at 1) (W.at 2) then (if (W.at 2=1/\W.at 3<256)\/(W.at 2=2/\W.at 3<65536)\/(W.at 2=4/\W.at 3<4294967296)\/(W.at 2=8/\W.at 3<18446744073709551616) then some (⟨5,0,0,false,false,false,W.at 1,W.at 2,W.at 3,0,0,0,0⟩,4) else none) else none) else none
theorem call_some (b:Nat) (W:Wd) (hw:W.wf) (c:Cl) (n:Nat) (hc:callV W=some (c,n)) (w:World) (h:IsR w b W 0):Calls Tryz.prog 24 #[.pointer (some ⟨b,0,none⟩)] w fun e w'=>e=.returned c.val/\IsR w' b W n/\Kb b w w':=by
 unfold callV at hc
 by_cases z1:W.at 0=1
 . rw [if_pos z1] at hc
   by_cases hq:pagesOk (W.at 1) (W.at 2)/\W.at 3<4
   . rw [if_pos hq] at hc
     obtain ⟨rfl,rfl⟩:=Prod.mk.inj (Option.some.inj hc)
     exact call1 b W hw z1 hq.1 hq.2 w h
   . rw [if_neg hq] at hc;cases hc
 rw [if_neg z1] at hc
 by_cases z2:W.at 0=2
 . rw [if_pos z2] at hc
   by_cases hq:pagesOk (W.at 1) (W.at 2)
   . rw [if_pos hq] at hc
     obtain ⟨rfl,rfl⟩:=Prod.mk.inj (Option.some.inj hc)
     exact call2 b W hw z2 hq w h
   . rw [if_neg hq] at hc;cases hc
 rw [if_neg z2] at hc
 by_cases z3:W.at 0=3
 . rw [if_pos z3] at hc
   by_cases hq:pagesOk (W.at 1) (W.at 2)/\W.at 3<4
   . rw [if_pos hq] at hc
     obtain ⟨rfl,rfl⟩:=Prod.mk.inj (Option.some.inj hc)
     exact call3 b W hw z3 hq.1 hq.2 w h
   . rw [if_neg hq] at hc;cases hc
 rw [if_neg z3] at hc
 by_cases z4:W.at 0=4
 . rw [if_pos z4] at hc
   by_cases hq:spotOk (W.at 1) (W.at 2)
   . rw [if_pos hq] at hc
     obtain ⟨rfl,rfl⟩:=Prod.mk.inj (Option.some.inj hc)
     exact call4 b W hw z4 hq w h
   . rw [if_neg hq] at hc;cases hc
 rw [if_neg z4] at hc
 by_cases z6:W.at 0=6
 . rw [if_pos z6] at hc
   by_cases hq:W.at 1<34359738368/\W.at 2<16/\W.at 3<2
   . rw [if_pos hq] at hc
     obtain ⟨rfl,rfl⟩:=Prod.mk.inj (Option.some.inj hc)
     exact call6 b W hw z6 hq.1 hq.2.1 hq.2.2 w h
   . rw [if_neg hq] at hc;cases hc
 rw [if_neg z6] at hc
 by_cases z7:W.at 0=7
 . rw [if_pos z7] at hc
   by_cases hq:W.at 1<256/\W.at 2<34359738368
   . rw [if_pos hq] at hc
     obtain ⟨rfl,rfl⟩:=Prod.mk.inj (Option.some.inj hc)
     exact call7 b W hw z7 hq.1 hq.2 w h
   . rw [if_neg hq] at hc;cases hc
 rw [if_neg z7] at hc
 by_cases z8:W.at 0=8
 . rw [if_pos z8] at hc
   by_cases hq:W.at 1<256
   . rw [if_pos hq] at hc
     obtain ⟨rfl,rfl⟩:=Prod.mk.inj (Option.some.inj hc)
     exact call8 b W hw z8 hq w h
   . rw [if_neg hq] at hc;cases hc
 rw [if_neg z8] at hc
 by_cases z9:W.at 0=9
 . rw [if_pos z9] at hc
   by_cases hq:W.at 1<256
   . rw [if_pos hq] at hc
     obtain ⟨rfl,rfl⟩:=Prod.mk.inj (Option.some.inj hc)
     exact call9 b W hw z9 hq w h
   . rw [if_neg hq] at hc;cases hc
 rw [if_neg z9] at hc
 by_cases z10:W.at 0=10
 . rw [if_pos z10] at hc
   by_cases hq:W.at 1<140737488355328
   . rw [if_pos hq] at hc
     obtain ⟨rfl,rfl⟩:=Prod.mk.inj (Option.some.inj hc)
     exact call10 b W hw z10 hq w h
   . rw [if_neg hq] at hc;cases hc
 rw [if_neg z10] at hc
 by_cases z11:W.at 0=11
 . rw [if_pos z11] at hc
   obtain ⟨rfl,rfl⟩:=Prod.mk.inj (Option.some.inj hc)
   exact call11 b W hw z11 w h
 rw [if_neg z11] at hc
 by_cases z12:W.at 0=12
 . rw [if_pos z12] at hc
   by_cases hq:W.at 1<1048577
   . rw [if_pos hq] at hc
     obtain ⟨rfl,rfl⟩:=Prod.mk.inj (Option.some.inj hc)
     exact call12 b W hw z12 hq w h
   . rw [if_neg hq] at hc;cases hc
 rw [if_neg z12] at hc
 by_cases z13:W.at 0=13
 . rw [if_pos z13] at hc
   obtain ⟨rfl,rfl⟩:=Prod.mk.inj (Option.some.inj hc)
   exact call13 b W hw z13 w h
 rw [if_neg z13] at hc
 by_cases z14:W.at 0=14
 . rw [if_pos z14] at hc
   obtain ⟨rfl,rfl⟩:=Prod.mk.inj (Option.some.inj hc)
   exact call14 b W hw z14 w h
 rw [if_neg z14] at hc
 by_cases z15:W.at 0=15
 . rw [if_pos z15] at hc
   by_cases hq:W.at 1<8/\W.at 2<4/\W.at 3<4/\W.at 4<4
   . rw [if_pos hq] at hc
     obtain ⟨rfl,rfl⟩:=Prod.mk.inj (Option.some.inj hc)
     exact call15 b W hw z15 hq.1 hq.2.1 hq.2.2.1 hq.2.2.2 w h
   . rw [if_neg hq] at hc;cases hc
 rw [if_neg z15] at hc
 by_cases z16:W.at 0=16
 . rw [if_pos z16] at hc
   by_cases hq:W.at 1<4
   . rw [if_pos hq] at hc
     obtain ⟨rfl,rfl⟩:=Prod.mk.inj (Option.some.inj hc)
     exact call16 b W hw z16 hq w h
   . rw [if_neg hq] at hc;cases hc
 rw [if_neg z16] at hc
 by_cases z5:W.at 0=5
 . rw [if_pos z5] at hc
   by_cases hq:spotOk (W.at 1) (W.at 2)
   . rw [if_pos hq] at hc
     by_cases hr:(W.at 2=1/\W.at 3<256)\/(W.at 2=2/\W.at 3<65536)\/(W.at 2=4/\W.at 3<4294967296)\/(W.at 2=8/\W.at 3<18446744073709551616)
     . rw [if_pos hr] at hc
       obtain ⟨rfl,rfl⟩:=Prod.mk.inj (Option.some.inj hc)
       rcases hr with ⟨r1,r2⟩ | ⟨r1,r2⟩ | ⟨r1,r2⟩ | ⟨r1,r2⟩
       . have:=call5_1 b W hw z5 r1 hq r2 w h
         rw [<- r1] at this;exact this
       . have:=call5_2 b W hw z5 r1 hq r2 w h
         rw [<- r1] at this;exact this
       . have:=call5_4 b W hw z5 r1 hq r2 w h
         rw [<- r1] at this;exact this
       . have:=call5_8 b W hw z5 r1 hq r2 w h
         rw [<- r1] at this;exact this
     . rw [if_neg hr] at hc;cases hc
   . rw [if_neg hq] at hc;cases hc
 rw [if_neg z5] at hc
 cases hc
end Go.Proofs.YtlaiadheelgbdaaGreat.Ca
namespace Go.Proofs.YtlaiadheelgbdaaGreat.Ca
open Go.ChangeShapes Go.WideShapes Go.ChangeAt Go.RowKit Go.Maps
set_option linter.unusedSimpArgs false
set_option linter.unusedVariables false
set_option maxRecDepth 8000
def restZ (W:Wd) (n:Nat):Prop:= ∀ i,n<=i->i<6->W.at i=0
theorem lenW:Tryz.prog.arrayLen 24=6:=by kernel_rfl
theorem elemW:Tryz.prog.elem 24=22:=by kernel_rfl
theorem sizeU (W:World):(sizeOf 22).run Tryz.prog W=.ok 1 W:=by kernel_rfl
theorem sliceW (b i m:Nat) (hi:i+m=6) (hm:0<m) (W:World):(Instr.sliceAt 24 (.pointer (some ⟨b,0,none⟩)) (some (.int .i64 (i:Int))) none none).run Tryz.prog W=.ok (.slice (some ⟨b,i,none⟩) m m) W:=by
 rw [run_sliceAt_array_l W _ _ (by kernel_rfl) .i64 (i:Int) (by omega) (by rw [lenW];omega),elemW,sizeU,lenW]
 have e:(i:Int).toNat=i:=by simp
 have e2:6-i=m:=by omega
 show Result.ok (slicedAt _ _ _ _ _) W=_
 rw [slicedAt,e,e2,if_neg (by omega),Addr.add_mid]
 simp
set_option maxHeartbeats 1000000 in
theorem end_yes (b:Nat) (W:Wd) (n:Nat) (hn:n<6) (hz:restZ W n) (w:World) (h:IsR w b W n):Calls Tryz.prog 25 #[.pointer (some ⟨b,0,none⟩)] w fun e w'=>e=.returned (.tuple #[])/\Kb b w w':=by
 have IY:Hid (∀ w:World,Calls Tryz.prog 45 #[.bool true] w fun e w'=>e=.returned (.tuple #[])/\w'=w):=insist_yes
 have H:Hid (IsR w b W n):=h
 have HZ:Hid (restZ W n):=hz
 have lt0:=blk_lt h
 have c6:=h.next
 obtain ⟨m,hm⟩: ∃ m,n+m=6:=⟨6-n,by omega⟩
 have sl:=sliceW b n m hm (by omega)
 have HM:Hid (n+m=6):=hm
 have m6:m<=6:=by omega
 clear h hz hm
 go_enter Tryz.func25,Tryz.ntmps25
 go_wp2_with fail
 go_quiet (fail)
 go_wp2_with fail
 go_loopw [13] (fun x V=> ∃ k:Nat,k<=m/\x=.int .i64 k/\Hid (IsR V b W n)/\Hid (Kb b w V)) (fun x _=>m-(intOf x).toNat)
 case atStart=>exact ⟨0,by omega,rfl,H.out.kept (fun _=>rfl),kb_drewN _ _ _⟩
 case round =>
  obtain ⟨k,hk,rfl,hR,hK⟩:=hrel
  by_cases hlt:k<m
  . have hd:decide ((k:Int)<(m:Int))=true:=by simp;omega
    have c0:=hR.out.cell (n+k) (by have:=HM.out;omega)
    rw [HZ.out (n+k) (by omega) (by have:=HM.out;omega)] at c0
    have ltw:b<wr.heap.size:=blk_lt hR.out
    go_wp2_with fail
    refine (IY.out _).mono ?_
    rintro e u8 ⟨rfl,hu⟩
    have hu2:=hu.symm
    subst hu2
    go_wp2_with fail
    go_roundw
    case rel=>exact ⟨k+1,by omega,by go_num,hR,hK⟩
    case measure=>simp [intOf];omega
  . obtain rfl:k=m:=by omega
    have hd:decide ((k:Int)<(k:Int))=false:=by simp
    go_wp2_with fail
    go_returns
    exact ⟨rfl,hK.out⟩
end Go.Proofs.YtlaiadheelgbdaaGreat.Ca
namespace Go.Proofs.YtlaiadheelgbdaaGreat.Ca
open Go.ChangeShapes Go.WideShapes Go.ChangeAt Go.RowKit Go.Maps
set_option linter.unusedSimpArgs false
set_option linter.unusedVariables false
set_option maxRecDepth 8000
set_option maxHeartbeats 400000 in
theorem catch_idle (p q:Addr) (w:World) :
 CallsD Tryz.prog 23 #[.pointer (some p),.pointer (some q)] .returning w fun e u' w'=>e=.returned (.tuple #[])/\u'=.returning/\w'=w:=by
 refine callsD_of_wpS Tryz.func23 rfl fun c₀ cs hu=> ?_
 apply wpS_seq
 apply wpS_region
 simp [wpOpsS,go_sem,recoverD,hu,Tryz.ntmps23,Exit.thenS]
 apply wpS_seq
 apply wpS_seq
 apply wpS_region
 simp [wpOpsS,go_sem,Exit.thenS]
 refine wpS_cond (t:=true) (by simp [Act.eval,Array.replicate]) ?_
 simp only [if_true]
 refine wpS_of_wp (wp_ret ?_)
 cases c₀
 simp_all [bodyPostS,results,Tryz.results23,Exit.thenS]
theorem cell_setCells_ne {w:World} {b o:Nat} {vs:List Value} {x:Addr} (h:x.block≠b):(w.setCells b o vs).cell? x=w.cell? x:=World.cell?_setCells_out b vs o w x (fun hb _=>absurd hb h)
end Go.Proofs.YtlaiadheelgbdaaGreat.Ca
namespace Go.Proofs.YtlaiadheelgbdaaGreat.Ca
open Go.ChangeShapes Go.WideShapes Go.ChangeAt Go.RowKit Go.Maps
set_option linter.unusedSimpArgs false
set_option linter.unusedVariables false
set_option maxRecDepth 8000
structure Door (w W:World):Prop where
 f:W.there (w.heap.size+1) 0 13
 e:W.cell? ⟨w.heap.size+1+1,0,none⟩=some (.int .i64 0)
 z:W.frozen? ⟨w.heap.size+1+1,0,none⟩=false
 l:w.heap.size+1+1<W.heap.size
 b:Below w.heap.size w W
theorem there_kb {W W':World} {b o n x:Nat} (h:W.there b o n) (hb:Kb x W W') (l:b<W.heap.size) (ne:b≠x):W'.there b o n:=fun j hj=>by
 obtain ⟨h1,h2⟩:=h j hj
 exact ⟨by rw [World.cell?_of_block (a:=⟨b,o+j,none⟩) (hb.block b l ne)];exact h1,by rw [World.frozen?_of_block (a:=⟨b,o+j,none⟩) (hb.block b l ne)];exact h2⟩
theorem Door.kb {w W W':World} (h:Door w W) (hb:Kb (w.heap.size+1+1+1) W W'):Door w W' :=
 ⟨there_kb h.f hb (by have:=h.l;omega) (by omega),(hb.cell h.l (by omega)).trans h.e,(World.frozen?_of_block (a:=⟨w.heap.size+1+1,0,none⟩) (hb.block (w.heap.size+1+1) h.l (by omega))).trans h.z,Nat.lt_of_lt_of_le h.l hb.size,
  h.b.trans ⟨hb.os,hb.tape,hb.output,hb.size,fun k hk=>hb.block k (Nat.lt_of_lt_of_le hk h.b.size) (by omega)⟩⟩
theorem size_scs (W:World) (c:Nat): ∀ (vs:List Value) (o:Nat),(W.setCells c o vs).heap.size=W.heap.size:=fun vs=>by
 induction vs generalizing W with
 | nil => intro o; rfl
 | cons v r ih =>
  intro o
  rw [World.setCells,ih]
  simp
theorem Door.scs {w W:World} (h:Door w W) (vs:List Value):Door w (W.setCells (w.heap.size+1) 0 vs):=by
 have k:=kb_scs (x:=w.heap.size+1) (w:=w) (⟨h.b.os,h.b.tape,h.b.output,h.b.size,fun j hj _=>h.b.block j hj⟩:Kb (w.heap.size+1) w W) (c:=w.heap.size+1) (by omega) vs 0
 refine ⟨World.there_setCells h.f _ _ _,(cell_setCells_ne (by show w.heap.size+1+1≠_;omega)).trans h.e,(World.frozen?_setCells _ _ _ _ _).trans h.z,?_,⟨k.os,k.tape,k.output,k.size,fun j hj=>k.block j hj (by omega)⟩⟩
 rw [size_scs];exact h.l
theorem own2a (w:World) (a b c d:Obj):((((w.alloc a).alloc b).alloc c).alloc d).heap[w.heap.size+1]? =some b:=by
 have h:=own1 (w.alloc a) b
 rw [World.size_alloc] at h
 have h2:=(Go.Joins.below_alloc2 ((w.alloc a).alloc b) c d).block (w.heap.size+1) (by simp)
 exact h2.trans h
theorem own2b (w:World) (a b c d:Obj):((((w.alloc a).alloc b).alloc c).alloc d).heap[w.heap.size+1+1]? =some c:=by
 have h:=own1 ((w.alloc a).alloc b) c
 simp only [World.size_alloc] at h
 have h2:=(Go.Joins.below_alloc1 (((w.alloc a).alloc b).alloc c) d).block (w.heap.size+1+1) (by simp)
 exact h2.trans h
theorem own2c (w:World) (a b c d:Obj):((((w.alloc a).alloc b).alloc c).alloc d).heap[w.heap.size+1+1+1]? =some d:=by
 have h:=own1 (((w.alloc a).alloc b).alloc c) d
 simp only [World.size_alloc] at h
 exact h
theorem Door.made (w:World) (a d:Obj):Door w ((((w.alloc a).alloc (.cells #[.int .i64 0,.int .i64 0,.int .i64 0,.bool false,.bool false,.bool false,.int .u64 0,.int .i64 0,.int .u64 0,.int .i64 0,.int .i64 0,.int .i64 0,.int .i64 0] 59)).alloc (.cells #[.int .i64 0] 35)).alloc d):=by
 have h1:Blk _ _ [.int .i64 0,.int .i64 0,.int .i64 0,.bool false,.bool false,.bool false,.int .u64 0,.int .i64 0,.int .u64 0,.int .i64 0,.int .i64 0,.int .i64 0,.int .i64 0] 59:=own2a w a (.cells #[.int .i64 0,.int .i64 0,.int .i64 0,.bool false,.bool false,.bool false,.int .u64 0,.int .i64 0,.int .u64 0,.int .i64 0,.int .i64 0,.int .i64 0,.int .i64 0] 59) (.cells #[.int .i64 0] 35) d
 have h2:Blk _ _ [.int .i64 0] 35:=own2b w a (.cells #[.int .i64 0,.int .i64 0,.int .i64 0,.bool false,.bool false,.bool false,.int .u64 0,.int .i64 0,.int .u64 0,.int .i64 0,.int .i64 0,.int .i64 0,.int .i64 0] 59) (.cells #[.int .i64 0] 35) d
 exact ⟨h1.there,h2.cell 0,h2.free 0,by simp,(((((Below.refl _ _).alloc (by simp) _).alloc (by simp;try omega) _).alloc (by simp;try omega) _).alloc (by simp;try omega) _)⟩
theorem range_cell {w:World} {b:Nat} {v:Value} (h:w.rangeAt b 0 [v]):w.cell? ⟨b,0,none⟩=some v:=by have:=h 0 v rfl;rwa [Nat.zero_add] at this
theorem load_errno (W:World) (b:Nat) (er:Int) (h:W.cell? ⟨b,0,none⟩=some (.int .i64 er)):(loadVar 35 ⟨b,0,none⟩).run Tryz.prog W=.ok (.int .i64 er) W:=by
 simp [loadVar,go_sem,h]
theorem results_cell2 {fn:Func} {p q:Tmp} {t1 t2:TypeId} (h:fn.results= #[.cell p t1,.cell q t2]) (tmps:Array Value) (P:Program) (w:World) (a b:Addr) (x y:Value)
 (ha:tmps.getD p undef=.pointer (some a)) (hb:tmps.getD q undef=.pointer (some b))
 (hx:(loadVar t1 a).run P w=.ok x w) (hy:(loadVar t2 b).run P w=.ok y w) :
 (results fn tmps).run P w=.ok (.tuple #[x,y]) w:=by
 simp only [results,h]
 have e1: ∀ W:World,(asAddr (Value.pointer (some a))).run P W=.ok a W:=fun _=>rfl
 have e2: ∀ W:World,(asAddr (Value.pointer (some b))).run P W=.ok b W:=fun _=>rfl
 simp at ha hb
 simp [Sem.run_bind,Result.andThen,ha,hb,e1,e2,hx,hy]
theorem read_end (w X:World) (vs:List Value) (hl:vs.length=13) (tmps:Array Value) (R:Ending->World->Prop)
 (h2:tmps.getD 2 undef=.pointer (some ⟨w.heap.size+1,0,none⟩)) (h3:tmps.getD 3 undef=.pointer (some ⟨w.heap.size+1+1,0,none⟩))
 (r1:X.rangeAt (w.heap.size+1) 0 vs) (r2:X.cell? ⟨w.heap.size+1+1,0,none⟩=some (.int .i64 0))
 (hR:R (.returned (.tuple #[.agg vs.toArray,.int .i64 0])) X) :
 bodyPostD Tryz.prog Tryz.f13 R Exit.ret { tmps:=tmps,defers:=[{ target:=Target.fn (Fn.func 23) #[.pointer (some ⟨w.heap.size+1,0,none⟩),.pointer (some ⟨w.heap.size+1+1,0,none⟩)],args:= #[] }] } X:=by
 refine leaves_cons (f:=23) (args:= #[.pointer (some ⟨w.heap.size+1,0,none⟩),.pointer (some ⟨w.heap.size+1+1,0,none⟩)]) (by simp) (by simp [go_sem]) ?_
 refine (catch_idle _ _ _).mono ?_
 rintro e u' w'' ⟨rfl,rfl,rfl⟩
 exact ⟨_,results_cell2 Tryz.results13 tmps Tryz.prog w'' _ _ _ _ h2 h3 (run_loadVar_mid w'' _ 0 59 vs _ r1 Tryz.underlying59 rfl (by rw [hl];exact call_info)) (load_errno w'' _ 0 r2),hR⟩
set_option maxHeartbeats 1000000 in
theorem read_ok (W:Wd) (hw:W.wf) (c:Cl) (n:Nat) (hc:callV W=some (c,n)) (hn:n<6) (hz:restZ W n) (w:World):Calls Tryz.prog 13 #[W.val] w fun e w'=>e=.returned (.tuple #[c.val,.int .i64 0])/\Below w.heap.size w w':=by
 have CA:Hid (∀ (b:Nat) (w:World),IsR w b W 0->Calls Tryz.prog 24 #[.pointer (some ⟨b,0,none⟩)] w fun e w'=>e=.returned c.val/\IsR w' b W n/\Kb b w w'):=fun b w h=>call_some b W hw c n hc w h
 have EN:Hid (∀ (b:Nat) (w:World),IsR w b W n->Calls Tryz.prog 25 #[.pointer (some ⟨b,0,none⟩)] w fun e w'=>e=.returned (.tuple #[])/\Kb b w w'):=fun b w h=>end_yes b W n hn hz w h
 clear hw hc hz
 obtain ⟨c0,c1,c2,c3,c4,c5,c6,c7,c8,c9,c10,c11,c12⟩:=c
 have hmf: ∀ (fn:Fn) (first cap:Array Value) (w:World),(Instr.makeFunc fn first cap).run Tryz.prog w=.ok (.func fn first cap) w:=fun _ _ _ _=>rfl
 obtain ⟨x0,x1,x2,x3,x4,x5⟩:=W
 have R0:Hid (IsR ((((w.alloc (.cells #[.int .u64 x0,.int .u64 x1,.int .u64 x2,.int .u64 x3,.int .u64 x4,.int .u64 x5] 24)).alloc (.cells #[.int .i64 0,.int .i64 0,.int .i64 0,.bool false,.bool false,.bool false,.int .u64 0,.int .i64 0,.int .u64 0,.int .i64 0,.int .i64 0,.int .i64 0,.int .i64 0] 59)).alloc (.cells #[.int .i64 0] 35)).alloc (.cells #[.int .u64 x0,.int .u64 x1,.int .u64 x2,.int .u64 x3,.int .u64 x4,.int .u64 x5,.int .i64 0] 93)) (w.heap.size+1+1+1) ⟨x0,x1,x2,x3,x4,x5⟩ 0):=own2c w _ _ _ _
 have D0:Hid (Door w ((((w.alloc (.cells #[.int .u64 x0,.int .u64 x1,.int .u64 x2,.int .u64 x3,.int .u64 x4,.int .u64 x5] 24)).alloc (.cells #[.int .i64 0,.int .i64 0,.int .i64 0,.bool false,.bool false,.bool false,.int .u64 0,.int .i64 0,.int .u64 0,.int .i64 0,.int .i64 0,.int .i64 0,.int .i64 0] 59)).alloc (.cells #[.int .i64 0] 35)).alloc (.cells #[.int .u64 x0,.int .u64 x1,.int .u64 x2,.int .u64 x3,.int .u64 x4,.int .u64 x5,.int .i64 0] 93))):=Door.made w _ _
 go_enter_defers Tryz.func13,Tryz.ntmps13
 go_wp2_with fail
 refine (CA.out _ _ R0.out).mono ?_
 rintro e u1 ⟨rfl,h1,k1⟩
 have A1:Hid (IsR u1 (w.heap.size+1+1+1) ⟨x0,x1,x2,x3,x4,x5⟩ n):=h1
 have D1:Hid (Door w u1):=D0.out.kb k1
 clear h1 k1 R0 D0
 rename_i hcont
 refine hcont _ _ ?_
 refine store_pat (w.heap.size+1) 0 #[.int .i64 c0,.int .i64 c1,.int .i64 c2,.bool c3,.bool c4,.bool c5,.int .u64 c6,.int .i64 c7,.int .u64 c8,.int .i64 c9,.int .i64 c10,.int .i64 c11,.int .i64 c12] rfl rfl D1.out.f call_info (by simp [Value.oneCell']) ?_
 have A2:Hid (IsR (u1.setCells (w.heap.size+1) 0 (#[.int .i64 c0,.int .i64 c1,.int .i64 c2,.bool c3,.bool c4,.bool c5,.int .u64 c6,.int .i64 c7,.int .u64 c8,.int .i64 c9,.int .i64 c10,.int .i64 c11,.int .i64 c12]:Array Value).toList) (w.heap.size+1+1+1) ⟨x0,x1,x2,x3,x4,x5⟩ n):=A1.out.scs (by omega) _ _
 have D2:Hid (Door w (u1.setCells (w.heap.size+1) 0 (#[.int .i64 c0,.int .i64 c1,.int .i64 c2,.bool c3,.bool c4,.bool c5,.int .u64 c6,.int .i64 c7,.int .u64 c8,.int .i64 c9,.int .i64 c10,.int .i64 c11,.int .i64 c12]:Array Value).toList)):=D1.out.scs _
 have G2:Hid ((u1.setCells (w.heap.size+1) 0 (#[.int .i64 c0,.int .i64 c1,.int .i64 c2,.bool c3,.bool c4,.bool c5,.int .u64 c6,.int .i64 c7,.int .u64 c8,.int .i64 c9,.int .i64 c10,.int .i64 c11,.int .i64 c12]:Array Value).toList).rangeAt (w.heap.size+1) 0 [.int .i64 c0,.int .i64 c1,.int .i64 c2,.bool c3,.bool c4,.bool c5,.int .u64 c6,.int .i64 c7,.int .u64 c8,.int .i64 c9,.int .i64 c10,.int .i64 c11,.int .i64 c12]):=World.rangeAt_setCells_same _ _ 0 _ D1.out.f
 generalize u1.setCells (w.heap.size+1) 0 (#[.int .i64 c0,.int .i64 c1,.int .i64 c2,.bool c3,.bool c4,.bool c5,.int .u64 c6,.int .i64 c7,.int .u64 c8,.int .i64 c9,.int .i64 c10,.int .i64 c11,.int .i64 c12]:Array Value).toList=V at A2 D2 G2 |-
 clear A1 D1
 go_wp2_with fail
 refine (EN.out _ _ A2.out).mono ?_
 rintro e u2 ⟨rfl,k1⟩
 have D3:Hid (Door w u2):=D2.out.kb k1
 have G3:Hid (u2.rangeAt (w.heap.size+1) 0 [.int .i64 c0,.int .i64 c1,.int .i64 c2,.bool c3,.bool c4,.bool c5,.int .u64 c6,.int .i64 c7,.int .u64 c8,.int .i64 c9,.int .i64 c10,.int .i64 c11,.int .i64 c12]):=fun j v hv=>(k1.cell (by have:=D2.out.l;omega) (by omega)).trans (G2.out j v hv)
 clear k1 A2 D2 G2
 go_upto_region 5 with fail
 refine wp_region_lit ?_
 refine load_pat (w.heap.size+1) 0 [.int .i64 c0,.int .i64 c1,.int .i64 c2,.bool c3,.bool c4,.bool c5,.int .u64 c6,.int .i64 c7,.int .u64 c8,.int .i64 c9,.int .i64 c10,.int .i64 c11,.int .i64 c12] _ rfl G3.out Tryz.underlying59 rfl call_info ?_
 refine store_pat (w.heap.size+1) 0 #[.int .i64 c0,.int .i64 c1,.int .i64 c2,.bool c3,.bool c4,.bool c5,.int .u64 c6,.int .i64 c7,.int .u64 c8,.int .i64 c9,.int .i64 c10,.int .i64 c11,.int .i64 c12] rfl rfl D3.out.f call_info (by simp [Value.oneCell']) ?_
 have D4:Hid (Door w (u2.setCells (w.heap.size+1) 0 (#[.int .i64 c0,.int .i64 c1,.int .i64 c2,.bool c3,.bool c4,.bool c5,.int .u64 c6,.int .i64 c7,.int .u64 c8,.int .i64 c9,.int .i64 c10,.int .i64 c11,.int .i64 c12]:Array Value).toList)):=D3.out.scs _
 have G4:Hid ((u2.setCells (w.heap.size+1) 0 (#[.int .i64 c0,.int .i64 c1,.int .i64 c2,.bool c3,.bool c4,.bool c5,.int .u64 c6,.int .i64 c7,.int .u64 c8,.int .i64 c9,.int .i64 c10,.int .i64 c11,.int .i64 c12]:Array Value).toList).rangeAt (w.heap.size+1) 0 [.int .i64 c0,.int .i64 c1,.int .i64 c2,.bool c3,.bool c4,.bool c5,.int .u64 c6,.int .i64 c7,.int .u64 c8,.int .i64 c9,.int .i64 c10,.int .i64 c11,.int .i64 c12]):=World.rangeAt_setCells_same _ _ 0 _ D3.out.f
 generalize u2.setCells (w.heap.size+1) 0 (#[.int .i64 c0,.int .i64 c1,.int .i64 c2,.bool c3,.bool c4,.bool c5,.int .u64 c6,.int .i64 c7,.int .u64 c8,.int .i64 c9,.int .i64 c10,.int .i64 c11,.int .i64 c12]:Array Value).toList=V4 at D4 G4 |-
 clear D3 G3
 have ce:V4.cell? ⟨w.heap.size+1+1,0,none⟩=some (.int .i64 0):=D4.out.e
 have cz:V4.frozen? ⟨w.heap.size+1+1,0,none⟩=false:=D4.out.z
 have cl:w.heap.size+1+1<V4.heap.size:=D4.out.l
 have G5:Hid ((V4.setCell ⟨w.heap.size+1+1,0,none⟩ (.int .i64 0)).rangeAt (w.heap.size+1) 0 [.int .i64 c0,.int .i64 c1,.int .i64 c2,.bool c3,.bool c4,.bool c5,.int .u64 c6,.int .i64 c7,.int .u64 c8,.int .i64 c9,.int .i64 c10,.int .i64 c11,.int .i64 c12]):=World.rangeAt_setCells_apart G4.out (w.heap.size+1+1) 0 [.int .i64 0] (Or.inl (by omega))
 have E5:Hid ((V4.setCell ⟨w.heap.size+1+1,0,none⟩ (.int .i64 0)).cell? ⟨w.heap.size+1+1,0,none⟩=some (.int .i64 0)):=(range_cell (World.rangeAt_setCells_same V4 (w.heap.size+1+1) 0 [.int .i64 0] (fun j hj=>by
  obtain rfl:j=0:=by simp at hj;omega
  exact ⟨by rw [Nat.zero_add,ce];rfl,cz⟩)))
 have L5:Hid (Below w.heap.size w (V4.setCell ⟨w.heap.size+1+1,0,none⟩ (.int .i64 0))):=D4.out.b.setCell (by show w.heap.size<=w.heap.size+1+1;omega) _
 go_wp2_with fail
 exact read_end w _ [.int .i64 c0,.int .i64 c1,.int .i64 c2,.bool c3,.bool c4,.bool c5,.int .u64 c6,.int .i64 c7,.int .u64 c8,.int .i64 c9,.int .i64 c10,.int .i64 c11,.int .i64 c12] rfl _ _ rfl rfl G5.out E5.out ⟨rfl,L5.out⟩
end Go.Proofs.YtlaiadheelgbdaaGreat.Ca
