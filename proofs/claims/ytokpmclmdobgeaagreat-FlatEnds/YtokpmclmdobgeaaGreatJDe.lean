import Derived.Test.YtokpmclmdobgeaaGreatJCe
import Derived.Test.YtokpmclmdobgeaaGreatKZe
import Derived.Defers
import Derived.Recover
import Derived.Deep.MidRow
import Derived.Deep.DeepCutAuto
set_option linter.unusedSimpArgs false
set_option linter.unusedVariables false
set_option maxRecDepth 8000
set_option maxHeartbeats 4000000
open Go.ChangeShapes Go.WideShapes Go.ChangeAt Go.RowKit Go.Maps
namespace Go.Proofs.YtokpmclmdobgeaaGreat.Ca
abbrev cL (c:Cl):List Value:=(su c.op c.fr c.til c.pw c.pu c.px c.ad c.sz c.x c.id c.a c.b c.d)
abbrev cZ (op:Int):List Value:=(su op 0 0 false false false 0 0 0 0 0 0 0)
def Rd (c A B:Prop):Prop:=(c->A)/\(¬ c->B)
theorem Rd.y {c A B:Prop} (h:c) (a:A):Rd c A B:=⟨fun _=>a,fun n=>absurd h n⟩
theorem Rd.n {c A B:Prop} (h: ¬ c) (b:B):Rd c A B:=⟨fun y=>absurd y h,fun _=>b⟩
theorem cL_one (c:Cl):(cL c).toArray.all (fun x=>x.oneCell')=true:=kq1
structure RV (b:Nat) (W:Wd) (k:Nat) (w V:World) (z c:Nat) (C:List Value):Prop where
 isr:IsR V b W k
 kb:Kb b w V
 zr:Blk V z (cZ 0) 70
 zc:Blk V c C 70
 bl:b<w.heap.size
 zl:w.heap.size<=z
 cl:z<c
section
variable {b:Nat} {W:Wd} {k:Nat} {w V:World} {z c:Nat} {C:List Value}
theorem RV.start (h:IsR w b W 0) {u:World} (h1:IsR u b W 1) (k1:Kb b (w.alloc (.cells (cZ 0).toArray 70)) u) (op:Int):RV b W 1 w (u.alloc (.cells (cZ op).toArray 70)) w.heap.size u.heap.size (cZ op):=by
 have lt0:=blk_lt h
 have zr:Blk u w.heap.size (cZ 0) 70:=(Blk.made w (cZ 0) 70).kb k1 (by omega)
 have lz:=blk_lt zr
 exact ⟨h1.below baa,((kb_alloc b w _).trans k1).trans (kb_alloc b u _),zr.below baa,Blk.made u _ _,lt0,Nat.le_refl _,lz⟩
theorem RV.call (h:RV b W k w V z c C) {u:World} {k':Nat} (h1:IsR u b W k') (k1:Kb b V u):RV b W k' w u z c C:=by
 have:=h.bl;have:=h.zl;have:=h.cl
 exact ⟨h1,h.kb.trans k1,h.zr.kb k1 (by omega),h.zc.kb k1 (by omega),h.bl,h.zl,h.cl⟩
theorem RV.set (h:RV b W k w V z c C) (o:Nat) (v:Value):RV b W k w (V.setCell ⟨c,o,none⟩ v) z c (C.set o v):=by
 have:=h.bl;have:=h.zl;have:=h.cl
 exact ⟨h.isr.blk.far o v (by omega),kb_set h.kb (by omega) o v,h.zr.far o v (by omega),h.zc.set o v,h.bl,h.zl,h.cl⟩
theorem RV.fin (h:RV b W k w V z c C) (d:Cl) {P:World->Prop} (hP: ∀ V2,V2.rangeAt z 0 (cL d)->IsR V2 b W k->Kb b w V2->P V2):P (V.setCells z 0 (cL d)):=by
 have:=h.bl;have:=h.zl
 exact hP _ (World.rangeAt_setCells_same _ z 0 (cL d) (show V.there z 0 13 from h.zr.there)) (h.isr.scs (by omega) _ _) (kb_scs h.kb h.zl _ _)
end
theorem op1 (b:Nat) (W:Wd) (hw:W.wf) (h0:W.at 0=1) (w:World) (h:IsR w b W 0):Calls Tryz.prog 31 #[.pointer (some ⟨b,0,none⟩)] w fun e w'=>Rd ((pagesOk (W.at 1) (W.at 2))/\(W.at 3<4)) (e=.returned (Cl.val ⟨1,(W.at 1),(W.at 1+W.at 2),(permW (W.at 3)),true,(permX (W.at 3)),0,0,0,0,0,0,0⟩)/\IsR w' b W 4/\Kb b w w') (e=.panicked [refv]/\Kb b w w'):=by
 have N0:=fun w h=>number_yes b W 0 (by omega) hw 17 (by omega) (by omega) w h
 rw [h0] at N0
 obtain ⟨q,hq⟩: ∃ q,q=((pagesOk (W.at 1) (W.at 2))/\(W.at 3<4)):=⟨_,rfl⟩
 rw [<- hq]
 have HQ:Hid (q=((pagesOk (W.at 1) (W.at 2))/\(W.at 3<4))):=hq
 clear hq
 go_enter Tryz.func31,Tryz.ntmps31
 go_wp2_with fail
 refine (N0 _ (h.below baa)).mono ?_
 rintro e u0 ⟨rfl,h1,k1⟩
 have E:=RV.start h h1 k1 1
 have y4:=E.cl
 clear h1 k1 N0
 go_wp2_with fail
 by_cases l1:pagesOk (W.at 1) (W.at 2)
 rotate_left
 . refine (pages_no b W 1 (by omega) hw l1 _ E.isr).mono ?_
   rintro e u9 ⟨rfl,k1⟩
   exact ⟨rfl,Rd.n (fun z=>absurd (HQ.out.mp z).1 l1) ⟨rfl,E.kb.trans k1⟩⟩
 refine (pages_yes b W 1 (by omega) hw l1 _ E.isr).mono ?_
 rintro e u1 ⟨rfl,h1,k1⟩
 have E:=E.call h1 k1
 have y5:=blk_lt E.zc
 clear h1 k1
 have c01:u1.cell? ⟨u0.heap.size,1,none⟩=some (.int .i64 0):=E.zc.cell 1
 have f01:=E.zc.free 1
 have c02:u1.cell? ⟨u0.heap.size,2,none⟩=some (.int .i64 0):=E.zc.cell 2
 have f02:=E.zc.free 2
 have E:=(E.set 1 (.int .i64 (W.at 1))).set 2 (.int .i64 (W.at 1+W.at 2))
 go_wp2_with fail
 by_cases l2:W.at 3<4
 rotate_left
 . refine (perm_no b W 3 (by omega) hw l2 _ E.isr).mono ?_
   rintro e u9 ⟨rfl,k1⟩
   exact ⟨rfl,Rd.n (fun z=>absurd (HQ.out.mp z).2 l2) ⟨rfl,E.kb.trans k1⟩⟩
 refine (perm_yes b W 3 (by omega) hw l2 _ E.isr).mono ?_
 rintro e u2 ⟨rfl,h1,k1⟩
 have E:=E.call h1 k1
 have y6:=blk_lt E.zc
 clear h1 k1
 have c13:u2.cell? ⟨u0.heap.size,3,none⟩=some (.bool false):=E.zc.cell 3
 have f13:=E.zc.free 3
 have c14:u2.cell? ⟨u0.heap.size,4,none⟩=some (.bool false):=E.zc.cell 4
 have f14:=E.zc.free 4
 have c15:u2.cell? ⟨u0.heap.size,5,none⟩=some (.bool false):=E.zc.cell 5
 have f15:=E.zc.free 5
 have E:=((E.set 3 (.bool (permW (W.at 3)))).set 4 (.bool true)).set 5 (.bool (permX (W.at 3)))
 go_upto_region 40 with fail
 refine wp_region_lit ?_
 refine load_pat u0.heap.size 0 (cL ⟨1,(W.at 1),(W.at 1+W.at 2),(permW (W.at 3)),true,(permX (W.at 3)),0,0,0,0,0,0,0⟩) _ rfl E.zc.range Tryz.underlying70 rfl call_info ?_
 refine store_pat w.heap.size 0 (cL ⟨1,(W.at 1),(W.at 1+W.at 2),(permW (W.at 3)),true,(permX (W.at 3)),0,0,0,0,0,0,0⟩).toArray rfl rfl E.zr.there call_info (cL_one _) ?_
 refine E.fin ⟨1,(W.at 1),(W.at 1+W.at 2),(permW (W.at 3)),true,(permX (W.at 3)),0,0,0,0,0,0,0⟩ (P:=fun V2=>wpList _ _ _ _ _ V2) ?_
 intro V2 RV AV KV
 go_wp2_with fail
 refine bodyPost_ret (v:=Cl.val ⟨1,(W.at 1),(W.at 1+W.at 2),(permW (W.at 3)),true,(permX (W.at 3)),0,0,0,0,0,0,0⟩) (results_one Tryz.results31 _ _ _ _ _ rfl (run_loadVar_mid (P:=Tryz.prog) V2 w.heap.size 0 70 (cL ⟨1,(W.at 1),(W.at 1+W.at 2),(permW (W.at 3)),true,(permX (W.at 3)),0,0,0,0,0,0,0⟩) _ RV Tryz.underlying70 rfl call_info)) rfl (Rd.y (HQ.out.mpr ⟨l1,l2⟩) ⟨rfl,AV,KV⟩)
theorem op2 (b:Nat) (W:Wd) (hw:W.wf) (h0:W.at 0=2) (w:World) (h:IsR w b W 0):Calls Tryz.prog 31 #[.pointer (some ⟨b,0,none⟩)] w fun e w'=>Rd ((pagesOk (W.at 1) (W.at 2))) (e=.returned (Cl.val ⟨2,(W.at 1),(W.at 1+W.at 2),false,false,false,0,0,0,0,0,0,0⟩)/\IsR w' b W 3/\Kb b w w') (e=.panicked [refv]/\Kb b w w'):=by
 have N0:=fun w h=>number_yes b W 0 (by omega) hw 17 (by omega) (by omega) w h
 rw [h0] at N0
 obtain ⟨q,hq⟩: ∃ q,q=((pagesOk (W.at 1) (W.at 2))):=⟨_,rfl⟩
 rw [<- hq]
 have HQ:Hid (q=((pagesOk (W.at 1) (W.at 2)))):=hq
 clear hq
 go_enter Tryz.func31,Tryz.ntmps31
 go_wp2_with fail
 refine (N0 _ (h.below baa)).mono ?_
 rintro e u0 ⟨rfl,h1,k1⟩
 have E:=RV.start h h1 k1 2
 have y4:=E.cl
 clear h1 k1 N0
 go_wp2_with fail
 by_cases l1:pagesOk (W.at 1) (W.at 2)
 rotate_left
 . refine (pages_no b W 1 (by omega) hw l1 _ E.isr).mono ?_
   rintro e u9 ⟨rfl,k1⟩
   exact ⟨rfl,Rd.n (fun z=>absurd (HQ.out.mp z) l1) ⟨rfl,E.kb.trans k1⟩⟩
 refine (pages_yes b W 1 (by omega) hw l1 _ E.isr).mono ?_
 rintro e u1 ⟨rfl,h1,k1⟩
 have E:=E.call h1 k1
 have y5:=blk_lt E.zc
 clear h1 k1
 have c01:u1.cell? ⟨u0.heap.size,1,none⟩=some (.int .i64 0):=E.zc.cell 1
 have f01:=E.zc.free 1
 have c02:u1.cell? ⟨u0.heap.size,2,none⟩=some (.int .i64 0):=E.zc.cell 2
 have f02:=E.zc.free 2
 have E:=(E.set 1 (.int .i64 (W.at 1))).set 2 (.int .i64 (W.at 1+W.at 2))
 go_upto_region 40 with fail
 refine wp_region_lit ?_
 refine load_pat u0.heap.size 0 (cL ⟨2,(W.at 1),(W.at 1+W.at 2),false,false,false,0,0,0,0,0,0,0⟩) _ rfl E.zc.range Tryz.underlying70 rfl call_info ?_
 refine store_pat w.heap.size 0 (cL ⟨2,(W.at 1),(W.at 1+W.at 2),false,false,false,0,0,0,0,0,0,0⟩).toArray rfl rfl E.zr.there call_info (cL_one _) ?_
 refine E.fin ⟨2,(W.at 1),(W.at 1+W.at 2),false,false,false,0,0,0,0,0,0,0⟩ (P:=fun V2=>wpList _ _ _ _ _ V2) ?_
 intro V2 RV AV KV
 go_wp2_with fail
 refine bodyPost_ret (v:=Cl.val ⟨2,(W.at 1),(W.at 1+W.at 2),false,false,false,0,0,0,0,0,0,0⟩) (results_one Tryz.results31 _ _ _ _ _ rfl (run_loadVar_mid (P:=Tryz.prog) V2 w.heap.size 0 70 (cL ⟨2,(W.at 1),(W.at 1+W.at 2),false,false,false,0,0,0,0,0,0,0⟩) _ RV Tryz.underlying70 rfl call_info)) rfl (Rd.y (HQ.out.mpr l1) ⟨rfl,AV,KV⟩)
theorem op3 (b:Nat) (W:Wd) (hw:W.wf) (h0:W.at 0=3) (w:World) (h:IsR w b W 0):Calls Tryz.prog 31 #[.pointer (some ⟨b,0,none⟩)] w fun e w'=>Rd ((pagesOk (W.at 1) (W.at 2))/\(W.at 3<4)) (e=.returned (Cl.val ⟨3,(W.at 1),(W.at 1+W.at 2),(permW (W.at 3)),true,(permX (W.at 3)),0,0,0,0,0,0,0⟩)/\IsR w' b W 4/\Kb b w w') (e=.panicked [refv]/\Kb b w w'):=by
 have N0:=fun w h=>number_yes b W 0 (by omega) hw 17 (by omega) (by omega) w h
 rw [h0] at N0
 obtain ⟨q,hq⟩: ∃ q,q=((pagesOk (W.at 1) (W.at 2))/\(W.at 3<4)):=⟨_,rfl⟩
 rw [<- hq]
 have HQ:Hid (q=((pagesOk (W.at 1) (W.at 2))/\(W.at 3<4))):=hq
 clear hq
 go_enter Tryz.func31,Tryz.ntmps31
 go_wp2_with fail
 refine (N0 _ (h.below baa)).mono ?_
 rintro e u0 ⟨rfl,h1,k1⟩
 have E:=RV.start h h1 k1 3
 have y4:=E.cl
 clear h1 k1 N0
 go_wp2_with fail
 by_cases l1:pagesOk (W.at 1) (W.at 2)
 rotate_left
 . refine (pages_no b W 1 (by omega) hw l1 _ E.isr).mono ?_
   rintro e u9 ⟨rfl,k1⟩
   exact ⟨rfl,Rd.n (fun z=>absurd (HQ.out.mp z).1 l1) ⟨rfl,E.kb.trans k1⟩⟩
 refine (pages_yes b W 1 (by omega) hw l1 _ E.isr).mono ?_
 rintro e u1 ⟨rfl,h1,k1⟩
 have E:=E.call h1 k1
 have y5:=blk_lt E.zc
 clear h1 k1
 have c01:u1.cell? ⟨u0.heap.size,1,none⟩=some (.int .i64 0):=E.zc.cell 1
 have f01:=E.zc.free 1
 have c02:u1.cell? ⟨u0.heap.size,2,none⟩=some (.int .i64 0):=E.zc.cell 2
 have f02:=E.zc.free 2
 have E:=(E.set 1 (.int .i64 (W.at 1))).set 2 (.int .i64 (W.at 1+W.at 2))
 go_wp2_with fail
 by_cases l2:W.at 3<4
 rotate_left
 . refine (perm_no b W 3 (by omega) hw l2 _ E.isr).mono ?_
   rintro e u9 ⟨rfl,k1⟩
   exact ⟨rfl,Rd.n (fun z=>absurd (HQ.out.mp z).2 l2) ⟨rfl,E.kb.trans k1⟩⟩
 refine (perm_yes b W 3 (by omega) hw l2 _ E.isr).mono ?_
 rintro e u2 ⟨rfl,h1,k1⟩
 have E:=E.call h1 k1
 have y6:=blk_lt E.zc
 clear h1 k1
 have c13:u2.cell? ⟨u0.heap.size,3,none⟩=some (.bool false):=E.zc.cell 3
 have f13:=E.zc.free 3
 have c14:u2.cell? ⟨u0.heap.size,4,none⟩=some (.bool false):=E.zc.cell 4
 have f14:=E.zc.free 4
 have c15:u2.cell? ⟨u0.heap.size,5,none⟩=some (.bool false):=E.zc.cell 5
 have f15:=E.zc.free 5
 have E:=((E.set 3 (.bool (permW (W.at 3)))).set 4 (.bool true)).set 5 (.bool (permX (W.at 3)))
 go_upto_region 40 with fail
 refine wp_region_lit ?_
 refine load_pat u0.heap.size 0 (cL ⟨3,(W.at 1),(W.at 1+W.at 2),(permW (W.at 3)),true,(permX (W.at 3)),0,0,0,0,0,0,0⟩) _ rfl E.zc.range Tryz.underlying70 rfl call_info ?_
 refine store_pat w.heap.size 0 (cL ⟨3,(W.at 1),(W.at 1+W.at 2),(permW (W.at 3)),true,(permX (W.at 3)),0,0,0,0,0,0,0⟩).toArray rfl rfl E.zr.there call_info (cL_one _) ?_
 refine E.fin ⟨3,(W.at 1),(W.at 1+W.at 2),(permW (W.at 3)),true,(permX (W.at 3)),0,0,0,0,0,0,0⟩ (P:=fun V2=>wpList _ _ _ _ _ V2) ?_
 intro V2 RV AV KV
 go_wp2_with fail
 refine bodyPost_ret (v:=Cl.val ⟨3,(W.at 1),(W.at 1+W.at 2),(permW (W.at 3)),true,(permX (W.at 3)),0,0,0,0,0,0,0⟩) (results_one Tryz.results31 _ _ _ _ _ rfl (run_loadVar_mid (P:=Tryz.prog) V2 w.heap.size 0 70 (cL ⟨3,(W.at 1),(W.at 1+W.at 2),(permW (W.at 3)),true,(permX (W.at 3)),0,0,0,0,0,0,0⟩) _ RV Tryz.underlying70 rfl call_info)) rfl (Rd.y (HQ.out.mpr ⟨l1,l2⟩) ⟨rfl,AV,KV⟩)
theorem op4 (b:Nat) (W:Wd) (hw:W.wf) (h0:W.at 0=4) (w:World) (h:IsR w b W 0):Calls Tryz.prog 31 #[.pointer (some ⟨b,0,none⟩)] w fun e w'=>Rd ((spotOk (W.at 1) (W.at 2))) (e=.returned (Cl.val ⟨4,0,0,false,false,false,(W.at 1),(W.at 2),0,0,0,0,0⟩)/\IsR w' b W 3/\Kb b w w') (e=.panicked [refv]/\Kb b w w'):=by
 have N0:=fun w h=>number_yes b W 0 (by omega) hw 17 (by omega) (by omega) w h
 rw [h0] at N0
 obtain ⟨q,hq⟩: ∃ q,q=((spotOk (W.at 1) (W.at 2))):=⟨_,rfl⟩
 rw [<- hq]
 have HQ:Hid (q=((spotOk (W.at 1) (W.at 2)))):=hq
 clear hq
 go_enter Tryz.func31,Tryz.ntmps31
 go_wp2_with fail
 refine (N0 _ (h.below baa)).mono ?_
 rintro e u0 ⟨rfl,h1,k1⟩
 have E:=RV.start h h1 k1 4
 have y4:=E.cl
 clear h1 k1 N0
 go_wp2_with fail
 by_cases l1:spotOk (W.at 1) (W.at 2)
 rotate_left
 . refine (place_no b W 1 (by omega) hw l1 _ E.isr).mono ?_
   rintro e u9 ⟨rfl,k1⟩
   exact ⟨rfl,Rd.n (fun z=>absurd (HQ.out.mp z) l1) ⟨rfl,E.kb.trans k1⟩⟩
 refine (place_yes b W 1 (by omega) hw l1 _ E.isr).mono ?_
 rintro e u1 ⟨rfl,h1,k1⟩
 have E:=E.call h1 k1
 have y5:=blk_lt E.zc
 clear h1 k1
 have c06:u1.cell? ⟨u0.heap.size,6,none⟩=some (.int .u64 0):=E.zc.cell 6
 have f06:=E.zc.free 6
 have c07:u1.cell? ⟨u0.heap.size,7,none⟩=some (.int .i64 0):=E.zc.cell 7
 have f07:=E.zc.free 7
 have E:=(E.set 6 (.int .u64 (W.at 1))).set 7 (.int .i64 (W.at 2))
 go_upto_region 40 with fail
 refine wp_region_lit ?_
 refine load_pat u0.heap.size 0 (cL ⟨4,0,0,false,false,false,(W.at 1),(W.at 2),0,0,0,0,0⟩) _ rfl E.zc.range Tryz.underlying70 rfl call_info ?_
 refine store_pat w.heap.size 0 (cL ⟨4,0,0,false,false,false,(W.at 1),(W.at 2),0,0,0,0,0⟩).toArray rfl rfl E.zr.there call_info (cL_one _) ?_
 refine E.fin ⟨4,0,0,false,false,false,(W.at 1),(W.at 2),0,0,0,0,0⟩ (P:=fun V2=>wpList _ _ _ _ _ V2) ?_
 intro V2 RV AV KV
 go_wp2_with fail
 refine bodyPost_ret (v:=Cl.val ⟨4,0,0,false,false,false,(W.at 1),(W.at 2),0,0,0,0,0⟩) (results_one Tryz.results31 _ _ _ _ _ rfl (run_loadVar_mid (P:=Tryz.prog) V2 w.heap.size 0 70 (cL ⟨4,0,0,false,false,false,(W.at 1),(W.at 2),0,0,0,0,0⟩) _ RV Tryz.underlying70 rfl call_info)) rfl (Rd.y (HQ.out.mpr l1) ⟨rfl,AV,KV⟩)
theorem op6 (b:Nat) (W:Wd) (hw:W.wf) (h0:W.at 0=6) (w:World) (h:IsR w b W 0):Calls Tryz.prog 31 #[.pointer (some ⟨b,0,none⟩)] w fun e w'=>Rd ((W.at 1<34359738368)/\(W.at 2<16)/\(W.at 3<2)) (e=.returned (Cl.val ⟨6,(W.at 1),(W.at 1+1),(W.at 3==1),false,false,0,0,0,(W.at 2),0,0,0⟩)/\IsR w' b W 4/\Kb b w w') (e=.panicked [refv]/\Kb b w w'):=by
 have N0:=fun w h=>number_yes b W 0 (by omega) hw 17 (by omega) (by omega) w h
 rw [h0] at N0
 obtain ⟨q,hq⟩: ∃ q,q=((W.at 1<34359738368)/\(W.at 2<16)/\(W.at 3<2)):=⟨_,rfl⟩
 rw [<- hq]
 have HQ:Hid (q=((W.at 1<34359738368)/\(W.at 2<16)/\(W.at 3<2))):=hq
 clear hq
 go_enter Tryz.func31,Tryz.ntmps31
 go_wp2_with fail
 refine (N0 _ (h.below baa)).mono ?_
 rintro e u0 ⟨rfl,h1,k1⟩
 have E:=RV.start h h1 k1 6
 have y4:=E.cl
 clear h1 k1 N0
 go_wp2_with fail
 by_cases l1:W.at 1<34359738368
 rotate_left
 . refine (page_no b W 1 (by omega) hw l1 _ E.isr).mono ?_
   rintro e u9 ⟨rfl,k1⟩
   exact ⟨rfl,Rd.n (fun z=>absurd (HQ.out.mp z).1 l1) ⟨rfl,E.kb.trans k1⟩⟩
 refine (page_yes b W 1 (by omega) hw l1 _ E.isr).mono ?_
 rintro e u1 ⟨rfl,h1,k1⟩
 have E:=E.call h1 k1
 have y5:=blk_lt E.zc
 clear h1 k1
 have c01:u1.cell? ⟨u0.heap.size,1,none⟩=some (.int .i64 0):=E.zc.cell 1
 have f01:=E.zc.free 1
 have c02:u1.cell? ⟨u0.heap.size,2,none⟩=some (.int .i64 0):=E.zc.cell 2
 have f02:=E.zc.free 2
 have E:=(E.set 1 (.int .i64 (W.at 1))).set 2 (.int .i64 (W.at 1+1))
 go_wp2_with fail
 by_cases l2:W.at 2<16
 rotate_left
 . refine (number_no b W 2 (by omega) 16 l2 _ E.isr).mono ?_
   rintro e u9 ⟨rfl,k1⟩
   exact ⟨rfl,Rd.n (fun z=>absurd (HQ.out.mp z).2.1 l2) ⟨rfl,E.kb.trans k1⟩⟩
 refine (number_yes b W 2 (by omega) hw 16 (by omega) l2 _ E.isr).mono ?_
 rintro e u2 ⟨rfl,h1,k1⟩
 have E:=E.call h1 k1
 have y6:=blk_lt E.zc
 clear h1 k1
 have c19:u2.cell? ⟨u0.heap.size,9,none⟩=some (.int .i64 0):=E.zc.cell 9
 have f19:=E.zc.free 9
 have E:=E.set 9 (.int .i64 (W.at 2))
 go_wp2_with fail
 by_cases l3:W.at 3<2
 rotate_left
 . refine (below_no b W 3 (by omega) 2 l3 _ E.isr).mono ?_
   rintro e u9 ⟨rfl,k1⟩
   exact ⟨rfl,Rd.n (fun z=>absurd (HQ.out.mp z).2.2 l3) ⟨rfl,E.kb.trans k1⟩⟩
 refine (below_yes b W 3 (by omega) 2 l3 _ E.isr).mono ?_
 rintro e u3 ⟨rfl,h1,k1⟩
 have E:=E.call h1 k1
 have y7:=blk_lt E.zc
 clear h1 k1
 have c23:u3.cell? ⟨u0.heap.size,3,none⟩=some (.bool false):=E.zc.cell 3
 have f23:=E.zc.free 3
 have E:=E.set 3 (.bool (W.at 3==1))
 go_upto_region 40 with fail
 refine wp_region_lit ?_
 refine load_pat u0.heap.size 0 (cL ⟨6,(W.at 1),(W.at 1+1),(W.at 3==1),false,false,0,0,0,(W.at 2),0,0,0⟩) _ rfl E.zc.range Tryz.underlying70 rfl call_info ?_
 refine store_pat w.heap.size 0 (cL ⟨6,(W.at 1),(W.at 1+1),(W.at 3==1),false,false,0,0,0,(W.at 2),0,0,0⟩).toArray rfl rfl E.zr.there call_info (cL_one _) ?_
 refine E.fin ⟨6,(W.at 1),(W.at 1+1),(W.at 3==1),false,false,0,0,0,(W.at 2),0,0,0⟩ (P:=fun V2=>wpList _ _ _ _ _ V2) ?_
 intro V2 RV AV KV
 go_wp2_with fail
 refine bodyPost_ret (v:=Cl.val ⟨6,(W.at 1),(W.at 1+1),(W.at 3==1),false,false,0,0,0,(W.at 2),0,0,0⟩) (results_one Tryz.results31 _ _ _ _ _ rfl (run_loadVar_mid (P:=Tryz.prog) V2 w.heap.size 0 70 (cL ⟨6,(W.at 1),(W.at 1+1),(W.at 3==1),false,false,0,0,0,(W.at 2),0,0,0⟩) _ RV Tryz.underlying70 rfl call_info)) rfl (Rd.y (HQ.out.mpr ⟨l1,l2,l3⟩) ⟨rfl,AV,KV⟩)
theorem op7 (b:Nat) (W:Wd) (hw:W.wf) (h0:W.at 0=7) (w:World) (h:IsR w b W 0):Calls Tryz.prog 31 #[.pointer (some ⟨b,0,none⟩)] w fun e w'=>Rd ((W.at 1<256)/\(W.at 2<34359738368)) (e=.returned (Cl.val ⟨7,(W.at 2),(W.at 2+1),false,false,false,0,0,0,(W.at 1),0,0,0⟩)/\IsR w' b W 3/\Kb b w w') (e=.panicked [refv]/\Kb b w w'):=by
 have N0:=fun w h=>number_yes b W 0 (by omega) hw 17 (by omega) (by omega) w h
 rw [h0] at N0
 obtain ⟨q,hq⟩: ∃ q,q=((W.at 1<256)/\(W.at 2<34359738368)):=⟨_,rfl⟩
 rw [<- hq]
 have HQ:Hid (q=((W.at 1<256)/\(W.at 2<34359738368))):=hq
 clear hq
 go_enter Tryz.func31,Tryz.ntmps31
 go_wp2_with fail
 refine (N0 _ (h.below baa)).mono ?_
 rintro e u0 ⟨rfl,h1,k1⟩
 have E:=RV.start h h1 k1 7
 have y4:=E.cl
 clear h1 k1 N0
 go_wp2_with fail
 by_cases l1:W.at 1<256
 rotate_left
 . refine (number_no b W 1 (by omega) 256 l1 _ E.isr).mono ?_
   rintro e u9 ⟨rfl,k1⟩
   exact ⟨rfl,Rd.n (fun z=>absurd (HQ.out.mp z).1 l1) ⟨rfl,E.kb.trans k1⟩⟩
 refine (number_yes b W 1 (by omega) hw 256 (by omega) l1 _ E.isr).mono ?_
 rintro e u1 ⟨rfl,h1,k1⟩
 have E:=E.call h1 k1
 have y5:=blk_lt E.zc
 clear h1 k1
 have c09:u1.cell? ⟨u0.heap.size,9,none⟩=some (.int .i64 0):=E.zc.cell 9
 have f09:=E.zc.free 9
 have E:=E.set 9 (.int .i64 (W.at 1))
 go_wp2_with fail
 by_cases l2:W.at 2<34359738368
 rotate_left
 . refine (page_no b W 2 (by omega) hw l2 _ E.isr).mono ?_
   rintro e u9 ⟨rfl,k1⟩
   exact ⟨rfl,Rd.n (fun z=>absurd (HQ.out.mp z).2 l2) ⟨rfl,E.kb.trans k1⟩⟩
 refine (page_yes b W 2 (by omega) hw l2 _ E.isr).mono ?_
 rintro e u2 ⟨rfl,h1,k1⟩
 have E:=E.call h1 k1
 have y6:=blk_lt E.zc
 clear h1 k1
 have c11:u2.cell? ⟨u0.heap.size,1,none⟩=some (.int .i64 0):=E.zc.cell 1
 have f11:=E.zc.free 1
 have c12:u2.cell? ⟨u0.heap.size,2,none⟩=some (.int .i64 0):=E.zc.cell 2
 have f12:=E.zc.free 2
 have E:=(E.set 1 (.int .i64 (W.at 2))).set 2 (.int .i64 (W.at 2+1))
 go_upto_region 40 with fail
 refine wp_region_lit ?_
 refine load_pat u0.heap.size 0 (cL ⟨7,(W.at 2),(W.at 2+1),false,false,false,0,0,0,(W.at 1),0,0,0⟩) _ rfl E.zc.range Tryz.underlying70 rfl call_info ?_
 refine store_pat w.heap.size 0 (cL ⟨7,(W.at 2),(W.at 2+1),false,false,false,0,0,0,(W.at 1),0,0,0⟩).toArray rfl rfl E.zr.there call_info (cL_one _) ?_
 refine E.fin ⟨7,(W.at 2),(W.at 2+1),false,false,false,0,0,0,(W.at 1),0,0,0⟩ (P:=fun V2=>wpList _ _ _ _ _ V2) ?_
 intro V2 RV AV KV
 go_wp2_with fail
 refine bodyPost_ret (v:=Cl.val ⟨7,(W.at 2),(W.at 2+1),false,false,false,0,0,0,(W.at 1),0,0,0⟩) (results_one Tryz.results31 _ _ _ _ _ rfl (run_loadVar_mid (P:=Tryz.prog) V2 w.heap.size 0 70 (cL ⟨7,(W.at 2),(W.at 2+1),false,false,false,0,0,0,(W.at 1),0,0,0⟩) _ RV Tryz.underlying70 rfl call_info)) rfl (Rd.y (HQ.out.mpr ⟨l1,l2⟩) ⟨rfl,AV,KV⟩)
theorem op8 (b:Nat) (W:Wd) (hw:W.wf) (h0:W.at 0=8) (w:World) (h:IsR w b W 0):Calls Tryz.prog 31 #[.pointer (some ⟨b,0,none⟩)] w fun e w'=>Rd ((W.at 1<256)) (e=.returned (Cl.val ⟨8,0,0,false,false,false,0,0,0,(W.at 1),0,0,0⟩)/\IsR w' b W 2/\Kb b w w') (e=.panicked [refv]/\Kb b w w'):=by
 have N0:=fun w h=>number_yes b W 0 (by omega) hw 17 (by omega) (by omega) w h
 rw [h0] at N0
 obtain ⟨q,hq⟩: ∃ q,q=((W.at 1<256)):=⟨_,rfl⟩
 rw [<- hq]
 have HQ:Hid (q=((W.at 1<256))):=hq
 clear hq
 go_enter Tryz.func31,Tryz.ntmps31
 go_wp2_with fail
 refine (N0 _ (h.below baa)).mono ?_
 rintro e u0 ⟨rfl,h1,k1⟩
 have E:=RV.start h h1 k1 8
 have y4:=E.cl
 clear h1 k1 N0
 go_wp2_with fail
 by_cases l1:W.at 1<256
 rotate_left
 . refine (number_no b W 1 (by omega) 256 l1 _ E.isr).mono ?_
   rintro e u9 ⟨rfl,k1⟩
   exact ⟨rfl,Rd.n (fun z=>absurd (HQ.out.mp z) l1) ⟨rfl,E.kb.trans k1⟩⟩
 refine (number_yes b W 1 (by omega) hw 256 (by omega) l1 _ E.isr).mono ?_
 rintro e u1 ⟨rfl,h1,k1⟩
 have E:=E.call h1 k1
 have y5:=blk_lt E.zc
 clear h1 k1
 have c09:u1.cell? ⟨u0.heap.size,9,none⟩=some (.int .i64 0):=E.zc.cell 9
 have f09:=E.zc.free 9
 have E:=E.set 9 (.int .i64 (W.at 1))
 go_upto_region 40 with fail
 refine wp_region_lit ?_
 refine load_pat u0.heap.size 0 (cL ⟨8,0,0,false,false,false,0,0,0,(W.at 1),0,0,0⟩) _ rfl E.zc.range Tryz.underlying70 rfl call_info ?_
 refine store_pat w.heap.size 0 (cL ⟨8,0,0,false,false,false,0,0,0,(W.at 1),0,0,0⟩).toArray rfl rfl E.zr.there call_info (cL_one _) ?_
 refine E.fin ⟨8,0,0,false,false,false,0,0,0,(W.at 1),0,0,0⟩ (P:=fun V2=>wpList _ _ _ _ _ V2) ?_
 intro V2 RV AV KV
 go_wp2_with fail
 refine bodyPost_ret (v:=Cl.val ⟨8,0,0,false,false,false,0,0,0,(W.at 1),0,0,0⟩) (results_one Tryz.results31 _ _ _ _ _ rfl (run_loadVar_mid (P:=Tryz.prog) V2 w.heap.size 0 70 (cL ⟨8,0,0,false,false,false,0,0,0,(W.at 1),0,0,0⟩) _ RV Tryz.underlying70 rfl call_info)) rfl (Rd.y (HQ.out.mpr l1) ⟨rfl,AV,KV⟩)
theorem op9 (b:Nat) (W:Wd) (hw:W.wf) (h0:W.at 0=9) (w:World) (h:IsR w b W 0):Calls Tryz.prog 31 #[.pointer (some ⟨b,0,none⟩)] w fun e w'=>Rd ((W.at 1<256)) (e=.returned (Cl.val ⟨9,0,0,false,false,false,0,0,0,(W.at 1),0,0,0⟩)/\IsR w' b W 2/\Kb b w w') (e=.panicked [refv]/\Kb b w w'):=by
 have N0:=fun w h=>number_yes b W 0 (by omega) hw 17 (by omega) (by omega) w h
 rw [h0] at N0
 obtain ⟨q,hq⟩: ∃ q,q=((W.at 1<256)):=⟨_,rfl⟩
 rw [<- hq]
 have HQ:Hid (q=((W.at 1<256))):=hq
 clear hq
 go_enter Tryz.func31,Tryz.ntmps31
 go_wp2_with fail
 refine (N0 _ (h.below baa)).mono ?_
 rintro e u0 ⟨rfl,h1,k1⟩
 have E:=RV.start h h1 k1 9
 have y4:=E.cl
 clear h1 k1 N0
 go_wp2_with fail
 by_cases l1:W.at 1<256
 rotate_left
 . refine (number_no b W 1 (by omega) 256 l1 _ E.isr).mono ?_
   rintro e u9 ⟨rfl,k1⟩
   exact ⟨rfl,Rd.n (fun z=>absurd (HQ.out.mp z) l1) ⟨rfl,E.kb.trans k1⟩⟩
 refine (number_yes b W 1 (by omega) hw 256 (by omega) l1 _ E.isr).mono ?_
 rintro e u1 ⟨rfl,h1,k1⟩
 have E:=E.call h1 k1
 have y5:=blk_lt E.zc
 clear h1 k1
 have c09:u1.cell? ⟨u0.heap.size,9,none⟩=some (.int .i64 0):=E.zc.cell 9
 have f09:=E.zc.free 9
 have E:=E.set 9 (.int .i64 (W.at 1))
 go_upto_region 40 with fail
 refine wp_region_lit ?_
 refine load_pat u0.heap.size 0 (cL ⟨9,0,0,false,false,false,0,0,0,(W.at 1),0,0,0⟩) _ rfl E.zc.range Tryz.underlying70 rfl call_info ?_
 refine store_pat w.heap.size 0 (cL ⟨9,0,0,false,false,false,0,0,0,(W.at 1),0,0,0⟩).toArray rfl rfl E.zr.there call_info (cL_one _) ?_
 refine E.fin ⟨9,0,0,false,false,false,0,0,0,(W.at 1),0,0,0⟩ (P:=fun V2=>wpList _ _ _ _ _ V2) ?_
 intro V2 RV AV KV
 go_wp2_with fail
 refine bodyPost_ret (v:=Cl.val ⟨9,0,0,false,false,false,0,0,0,(W.at 1),0,0,0⟩) (results_one Tryz.results31 _ _ _ _ _ rfl (run_loadVar_mid (P:=Tryz.prog) V2 w.heap.size 0 70 (cL ⟨9,0,0,false,false,false,0,0,0,(W.at 1),0,0,0⟩) _ RV Tryz.underlying70 rfl call_info)) rfl (Rd.y (HQ.out.mpr l1) ⟨rfl,AV,KV⟩)
theorem op10 (b:Nat) (W:Wd) (hw:W.wf) (h0:W.at 0=10) (w:World) (h:IsR w b W 0):Calls Tryz.prog 31 #[.pointer (some ⟨b,0,none⟩)] w fun e w'=>Rd ((W.at 1<140737488355328)) (e=.returned (Cl.val ⟨10,0,0,false,false,false,(W.at 1),0,0,0,0,0,0⟩)/\IsR w' b W 2/\Kb b w w') (e=.panicked [refv]/\Kb b w w'):=by
 have N0:=fun w h=>number_yes b W 0 (by omega) hw 17 (by omega) (by omega) w h
 rw [h0] at N0
 obtain ⟨q,hq⟩: ∃ q,q=((W.at 1<140737488355328)):=⟨_,rfl⟩
 rw [<- hq]
 have HQ:Hid (q=((W.at 1<140737488355328))):=hq
 clear hq
 go_enter Tryz.func31,Tryz.ntmps31
 go_wp2_with fail
 refine (N0 _ (h.below baa)).mono ?_
 rintro e u0 ⟨rfl,h1,k1⟩
 have E:=RV.start h h1 k1 10
 have y4:=E.cl
 clear h1 k1 N0
 go_wp2_with fail
 by_cases l1:W.at 1<140737488355328
 rotate_left
 . refine (below_no b W 1 (by omega) 140737488355328 l1 _ E.isr).mono ?_
   rintro e u9 ⟨rfl,k1⟩
   exact ⟨rfl,Rd.n (fun z=>absurd (HQ.out.mp z) l1) ⟨rfl,E.kb.trans k1⟩⟩
 refine (below_yes b W 1 (by omega) 140737488355328 l1 _ E.isr).mono ?_
 rintro e u1 ⟨rfl,h1,k1⟩
 have E:=E.call h1 k1
 have y5:=blk_lt E.zc
 clear h1 k1
 have c06:u1.cell? ⟨u0.heap.size,6,none⟩=some (.int .u64 0):=E.zc.cell 6
 have f06:=E.zc.free 6
 have E:=E.set 6 (.int .u64 (W.at 1))
 go_upto_region 40 with fail
 refine wp_region_lit ?_
 refine load_pat u0.heap.size 0 (cL ⟨10,0,0,false,false,false,(W.at 1),0,0,0,0,0,0⟩) _ rfl E.zc.range Tryz.underlying70 rfl call_info ?_
 refine store_pat w.heap.size 0 (cL ⟨10,0,0,false,false,false,(W.at 1),0,0,0,0,0,0⟩).toArray rfl rfl E.zr.there call_info (cL_one _) ?_
 refine E.fin ⟨10,0,0,false,false,false,(W.at 1),0,0,0,0,0,0⟩ (P:=fun V2=>wpList _ _ _ _ _ V2) ?_
 intro V2 RV AV KV
 go_wp2_with fail
 refine bodyPost_ret (v:=Cl.val ⟨10,0,0,false,false,false,(W.at 1),0,0,0,0,0,0⟩) (results_one Tryz.results31 _ _ _ _ _ rfl (run_loadVar_mid (P:=Tryz.prog) V2 w.heap.size 0 70 (cL ⟨10,0,0,false,false,false,(W.at 1),0,0,0,0,0,0⟩) _ RV Tryz.underlying70 rfl call_info)) rfl (Rd.y (HQ.out.mpr l1) ⟨rfl,AV,KV⟩)
theorem op11 (b:Nat) (W:Wd) (hw:W.wf) (h0:W.at 0=11) (w:World) (h:IsR w b W 0):Calls Tryz.prog 31 #[.pointer (some ⟨b,0,none⟩)] w fun e w'=>e=.returned (Cl.val ⟨11,0,0,false,false,false,0,0,0,0,0,0,0⟩)/\IsR w' b W 1/\Kb b w w':=by
 have N0:=fun w h=>number_yes b W 0 (by omega) hw 17 (by omega) (by omega) w h
 rw [h0] at N0
 go_enter Tryz.func31,Tryz.ntmps31
 go_wp2_with fail
 refine (N0 _ (h.below baa)).mono ?_
 rintro e u0 ⟨rfl,h1,k1⟩
 have E:=RV.start h h1 k1 11
 have y4:=E.cl
 clear h1 k1 N0
 go_upto_region 40 with fail
 refine wp_region_lit ?_
 refine load_pat u0.heap.size 0 (cL ⟨11,0,0,false,false,false,0,0,0,0,0,0,0⟩) _ rfl E.zc.range Tryz.underlying70 rfl call_info ?_
 refine store_pat w.heap.size 0 (cL ⟨11,0,0,false,false,false,0,0,0,0,0,0,0⟩).toArray rfl rfl E.zr.there call_info (cL_one _) ?_
 refine E.fin ⟨11,0,0,false,false,false,0,0,0,0,0,0,0⟩ (P:=fun V2=>wpList _ _ _ _ _ V2) ?_
 intro V2 RV AV KV
 go_wp2_with fail
 refine bodyPost_ret (v:=Cl.val ⟨11,0,0,false,false,false,0,0,0,0,0,0,0⟩) (results_one Tryz.results31 _ _ _ _ _ rfl (run_loadVar_mid (P:=Tryz.prog) V2 w.heap.size 0 70 (cL ⟨11,0,0,false,false,false,0,0,0,0,0,0,0⟩) _ RV Tryz.underlying70 rfl call_info)) rfl ⟨rfl,AV,KV⟩
theorem op12 (b:Nat) (W:Wd) (hw:W.wf) (h0:W.at 0=12) (w:World) (h:IsR w b W 0):Calls Tryz.prog 31 #[.pointer (some ⟨b,0,none⟩)] w fun e w'=>Rd ((W.at 1<1048577)) (e=.returned (Cl.val ⟨12,0,0,false,false,false,0,0,0,(W.at 1),0,0,0⟩)/\IsR w' b W 2/\Kb b w w') (e=.panicked [refv]/\Kb b w w'):=by
 have N0:=fun w h=>number_yes b W 0 (by omega) hw 17 (by omega) (by omega) w h
 rw [h0] at N0
 obtain ⟨q,hq⟩: ∃ q,q=((W.at 1<1048577)):=⟨_,rfl⟩
 rw [<- hq]
 have HQ:Hid (q=((W.at 1<1048577))):=hq
 clear hq
 go_enter Tryz.func31,Tryz.ntmps31
 go_wp2_with fail
 refine (N0 _ (h.below baa)).mono ?_
 rintro e u0 ⟨rfl,h1,k1⟩
 have E:=RV.start h h1 k1 12
 have y4:=E.cl
 clear h1 k1 N0
 go_wp2_with fail
 by_cases l1:W.at 1<1048577
 rotate_left
 . refine (number_no b W 1 (by omega) 1048577 l1 _ E.isr).mono ?_
   rintro e u9 ⟨rfl,k1⟩
   exact ⟨rfl,Rd.n (fun z=>absurd (HQ.out.mp z) l1) ⟨rfl,E.kb.trans k1⟩⟩
 refine (number_yes b W 1 (by omega) hw 1048577 (by omega) l1 _ E.isr).mono ?_
 rintro e u1 ⟨rfl,h1,k1⟩
 have E:=E.call h1 k1
 have y5:=blk_lt E.zc
 clear h1 k1
 have c09:u1.cell? ⟨u0.heap.size,9,none⟩=some (.int .i64 0):=E.zc.cell 9
 have f09:=E.zc.free 9
 have E:=E.set 9 (.int .i64 (W.at 1))
 go_upto_region 40 with fail
 refine wp_region_lit ?_
 refine load_pat u0.heap.size 0 (cL ⟨12,0,0,false,false,false,0,0,0,(W.at 1),0,0,0⟩) _ rfl E.zc.range Tryz.underlying70 rfl call_info ?_
 refine store_pat w.heap.size 0 (cL ⟨12,0,0,false,false,false,0,0,0,(W.at 1),0,0,0⟩).toArray rfl rfl E.zr.there call_info (cL_one _) ?_
 refine E.fin ⟨12,0,0,false,false,false,0,0,0,(W.at 1),0,0,0⟩ (P:=fun V2=>wpList _ _ _ _ _ V2) ?_
 intro V2 RV AV KV
 go_wp2_with fail
 refine bodyPost_ret (v:=Cl.val ⟨12,0,0,false,false,false,0,0,0,(W.at 1),0,0,0⟩) (results_one Tryz.results31 _ _ _ _ _ rfl (run_loadVar_mid (P:=Tryz.prog) V2 w.heap.size 0 70 (cL ⟨12,0,0,false,false,false,0,0,0,(W.at 1),0,0,0⟩) _ RV Tryz.underlying70 rfl call_info)) rfl (Rd.y (HQ.out.mpr l1) ⟨rfl,AV,KV⟩)
theorem op13 (b:Nat) (W:Wd) (hw:W.wf) (h0:W.at 0=13) (w:World) (h:IsR w b W 0):Calls Tryz.prog 31 #[.pointer (some ⟨b,0,none⟩)] w fun e w'=>e=.returned (Cl.val ⟨13,0,0,false,false,false,0,0,0,0,0,0,0⟩)/\IsR w' b W 1/\Kb b w w':=by
 have N0:=fun w h=>number_yes b W 0 (by omega) hw 17 (by omega) (by omega) w h
 rw [h0] at N0
 go_enter Tryz.func31,Tryz.ntmps31
 go_wp2_with fail
 refine (N0 _ (h.below baa)).mono ?_
 rintro e u0 ⟨rfl,h1,k1⟩
 have E:=RV.start h h1 k1 13
 have y4:=E.cl
 clear h1 k1 N0
 go_upto_region 40 with fail
 refine wp_region_lit ?_
 refine load_pat u0.heap.size 0 (cL ⟨13,0,0,false,false,false,0,0,0,0,0,0,0⟩) _ rfl E.zc.range Tryz.underlying70 rfl call_info ?_
 refine store_pat w.heap.size 0 (cL ⟨13,0,0,false,false,false,0,0,0,0,0,0,0⟩).toArray rfl rfl E.zr.there call_info (cL_one _) ?_
 refine E.fin ⟨13,0,0,false,false,false,0,0,0,0,0,0,0⟩ (P:=fun V2=>wpList _ _ _ _ _ V2) ?_
 intro V2 RV AV KV
 go_wp2_with fail
 refine bodyPost_ret (v:=Cl.val ⟨13,0,0,false,false,false,0,0,0,0,0,0,0⟩) (results_one Tryz.results31 _ _ _ _ _ rfl (run_loadVar_mid (P:=Tryz.prog) V2 w.heap.size 0 70 (cL ⟨13,0,0,false,false,false,0,0,0,0,0,0,0⟩) _ RV Tryz.underlying70 rfl call_info)) rfl ⟨rfl,AV,KV⟩
theorem op14 (b:Nat) (W:Wd) (hw:W.wf) (h0:W.at 0=14) (w:World) (h:IsR w b W 0):Calls Tryz.prog 31 #[.pointer (some ⟨b,0,none⟩)] w fun e w'=>e=.returned (Cl.val ⟨14,0,0,false,false,false,0,0,0,0,0,0,0⟩)/\IsR w' b W 1/\Kb b w w':=by
 have N0:=fun w h=>number_yes b W 0 (by omega) hw 17 (by omega) (by omega) w h
 rw [h0] at N0
 go_enter Tryz.func31,Tryz.ntmps31
 go_wp2_with fail
 refine (N0 _ (h.below baa)).mono ?_
 rintro e u0 ⟨rfl,h1,k1⟩
 have E:=RV.start h h1 k1 14
 have y4:=E.cl
 clear h1 k1 N0
 go_upto_region 40 with fail
 refine wp_region_lit ?_
 refine load_pat u0.heap.size 0 (cL ⟨14,0,0,false,false,false,0,0,0,0,0,0,0⟩) _ rfl E.zc.range Tryz.underlying70 rfl call_info ?_
 refine store_pat w.heap.size 0 (cL ⟨14,0,0,false,false,false,0,0,0,0,0,0,0⟩).toArray rfl rfl E.zr.there call_info (cL_one _) ?_
 refine E.fin ⟨14,0,0,false,false,false,0,0,0,0,0,0,0⟩ (P:=fun V2=>wpList _ _ _ _ _ V2) ?_
 intro V2 RV AV KV
 go_wp2_with fail
 refine bodyPost_ret (v:=Cl.val ⟨14,0,0,false,false,false,0,0,0,0,0,0,0⟩) (results_one Tryz.results31 _ _ _ _ _ rfl (run_loadVar_mid (P:=Tryz.prog) V2 w.heap.size 0 70 (cL ⟨14,0,0,false,false,false,0,0,0,0,0,0,0⟩) _ RV Tryz.underlying70 rfl call_info)) rfl ⟨rfl,AV,KV⟩
theorem op15 (b:Nat) (W:Wd) (hw:W.wf) (h0:W.at 0=15) (w:World) (h:IsR w b W 0):Calls Tryz.prog 31 #[.pointer (some ⟨b,0,none⟩)] w fun e w'=>Rd ((W.at 1<8)/\(W.at 2<4)/\(W.at 3<4)/\(W.at 4<4)) (e=.returned (Cl.val ⟨15,0,0,false,false,false,0,0,0,(W.at 1+1),(W.at 2),(W.at 3),(W.at 4)⟩)/\IsR w' b W 5/\Kb b w w') (e=.panicked [refv]/\Kb b w w'):=by
 have N0:=fun w h=>number_yes b W 0 (by omega) hw 17 (by omega) (by omega) w h
 rw [h0] at N0
 obtain ⟨q,hq⟩: ∃ q,q=((W.at 1<8)/\(W.at 2<4)/\(W.at 3<4)/\(W.at 4<4)):=⟨_,rfl⟩
 rw [<- hq]
 have HQ:Hid (q=((W.at 1<8)/\(W.at 2<4)/\(W.at 3<4)/\(W.at 4<4))):=hq
 clear hq
 go_enter Tryz.func31,Tryz.ntmps31
 go_wp2_with fail
 refine (N0 _ (h.below baa)).mono ?_
 rintro e u0 ⟨rfl,h1,k1⟩
 have E:=RV.start h h1 k1 15
 have y4:=E.cl
 clear h1 k1 N0
 have p1:=(hw 1).1
 go_wp2_with fail
 by_cases l1:W.at 1<8
 rotate_left
 . refine (number_no b W 1 (by omega) 8 l1 _ E.isr).mono ?_
   rintro e u9 ⟨rfl,k1⟩
   exact ⟨rfl,Rd.n (fun z=>absurd (HQ.out.mp z).1 l1) ⟨rfl,E.kb.trans k1⟩⟩
 refine (number_yes b W 1 (by omega) hw 8 (by omega) l1 _ E.isr).mono ?_
 rintro e u1 ⟨rfl,h1,k1⟩
 have E:=E.call h1 k1
 have y5:=blk_lt E.zc
 clear h1 k1
 have c09:u1.cell? ⟨u0.heap.size,9,none⟩=some (.int .i64 0):=E.zc.cell 9
 have f09:=E.zc.free 9
 have E:=E.set 9 (.int .i64 (W.at 1+1))
 go_wp2_with fail
 by_cases l2:W.at 2<4
 rotate_left
 . refine (number_no b W 2 (by omega) 4 l2 _ E.isr).mono ?_
   rintro e u9 ⟨rfl,k1⟩
   exact ⟨rfl,Rd.n (fun z=>absurd (HQ.out.mp z).2.1 l2) ⟨rfl,E.kb.trans k1⟩⟩
 refine (number_yes b W 2 (by omega) hw 4 (by omega) l2 _ E.isr).mono ?_
 rintro e u2 ⟨rfl,h1,k1⟩
 have E:=E.call h1 k1
 have y6:=blk_lt E.zc
 clear h1 k1
 have c110:u2.cell? ⟨u0.heap.size,10,none⟩=some (.int .i64 0):=E.zc.cell 10
 have f110:=E.zc.free 10
 have E:=E.set 10 (.int .i64 (W.at 2))
 go_wp2_with fail
 by_cases l3:W.at 3<4
 rotate_left
 . refine (number_no b W 3 (by omega) 4 l3 _ E.isr).mono ?_
   rintro e u9 ⟨rfl,k1⟩
   exact ⟨rfl,Rd.n (fun z=>absurd (HQ.out.mp z).2.2.1 l3) ⟨rfl,E.kb.trans k1⟩⟩
 refine (number_yes b W 3 (by omega) hw 4 (by omega) l3 _ E.isr).mono ?_
 rintro e u3 ⟨rfl,h1,k1⟩
 have E:=E.call h1 k1
 have y7:=blk_lt E.zc
 clear h1 k1
 have c211:u3.cell? ⟨u0.heap.size,11,none⟩=some (.int .i64 0):=E.zc.cell 11
 have f211:=E.zc.free 11
 have E:=E.set 11 (.int .i64 (W.at 3))
 go_wp2_with fail
 by_cases l4:W.at 4<4
 rotate_left
 . refine (number_no b W 4 (by omega) 4 l4 _ E.isr).mono ?_
   rintro e u9 ⟨rfl,k1⟩
   exact ⟨rfl,Rd.n (fun z=>absurd (HQ.out.mp z).2.2.2 l4) ⟨rfl,E.kb.trans k1⟩⟩
 refine (number_yes b W 4 (by omega) hw 4 (by omega) l4 _ E.isr).mono ?_
 rintro e u4 ⟨rfl,h1,k1⟩
 have E:=E.call h1 k1
 have y8:=blk_lt E.zc
 clear h1 k1
 have c312:u4.cell? ⟨u0.heap.size,12,none⟩=some (.int .i64 0):=E.zc.cell 12
 have f312:=E.zc.free 12
 have E:=E.set 12 (.int .i64 (W.at 4))
 go_upto_region 40 with fail
 refine wp_region_lit ?_
 refine load_pat u0.heap.size 0 (cL ⟨15,0,0,false,false,false,0,0,0,(W.at 1+1),(W.at 2),(W.at 3),(W.at 4)⟩) _ rfl E.zc.range Tryz.underlying70 rfl call_info ?_
 refine store_pat w.heap.size 0 (cL ⟨15,0,0,false,false,false,0,0,0,(W.at 1+1),(W.at 2),(W.at 3),(W.at 4)⟩).toArray rfl rfl E.zr.there call_info (cL_one _) ?_
 refine E.fin ⟨15,0,0,false,false,false,0,0,0,(W.at 1+1),(W.at 2),(W.at 3),(W.at 4)⟩ (P:=fun V2=>wpList _ _ _ _ _ V2) ?_
 intro V2 RV AV KV
 go_wp2_with fail
 refine bodyPost_ret (v:=Cl.val ⟨15,0,0,false,false,false,0,0,0,(W.at 1+1),(W.at 2),(W.at 3),(W.at 4)⟩) (results_one Tryz.results31 _ _ _ _ _ rfl (run_loadVar_mid (P:=Tryz.prog) V2 w.heap.size 0 70 (cL ⟨15,0,0,false,false,false,0,0,0,(W.at 1+1),(W.at 2),(W.at 3),(W.at 4)⟩) _ RV Tryz.underlying70 rfl call_info)) rfl (Rd.y (HQ.out.mpr ⟨l1,l2,l3,l4⟩) ⟨rfl,AV,KV⟩)
theorem op16 (b:Nat) (W:Wd) (hw:W.wf) (h0:W.at 0=16) (w:World) (h:IsR w b W 0):Calls Tryz.prog 31 #[.pointer (some ⟨b,0,none⟩)] w fun e w'=>Rd ((W.at 1<4)) (e=.returned (Cl.val ⟨16,0,0,false,false,false,0,0,(W.at 2),(W.at 1),0,0,0⟩)/\IsR w' b W 3/\Kb b w w') (e=.panicked [refv]/\Kb b w w'):=by
 have N0:=fun w h=>number_yes b W 0 (by omega) hw 17 (by omega) (by omega) w h
 rw [h0] at N0
 obtain ⟨q,hq⟩: ∃ q,q=((W.at 1<4)):=⟨_,rfl⟩
 rw [<- hq]
 have HQ:Hid (q=((W.at 1<4))):=hq
 clear hq
 go_enter Tryz.func31,Tryz.ntmps31
 go_wp2_with fail
 refine (N0 _ (h.below baa)).mono ?_
 rintro e u0 ⟨rfl,h1,k1⟩
 have E:=RV.start h h1 k1 16
 have y4:=E.cl
 clear h1 k1 N0
 go_wp2_with fail
 by_cases l1:W.at 1<4
 rotate_left
 . refine (number_no b W 1 (by omega) 4 l1 _ E.isr).mono ?_
   rintro e u9 ⟨rfl,k1⟩
   exact ⟨rfl,Rd.n (fun z=>absurd (HQ.out.mp z) l1) ⟨rfl,E.kb.trans k1⟩⟩
 refine (number_yes b W 1 (by omega) hw 4 (by omega) l1 _ E.isr).mono ?_
 rintro e u1 ⟨rfl,h1,k1⟩
 have E:=E.call h1 k1
 have y5:=blk_lt E.zc
 clear h1 k1
 have c09:u1.cell? ⟨u0.heap.size,9,none⟩=some (.int .i64 0):=E.zc.cell 9
 have f09:=E.zc.free 9
 have E:=E.set 9 (.int .i64 (W.at 1))
 go_wp2_with fail
 refine (word_any b W 2 (by omega) _ E.isr).mono ?_
 rintro e u2 ⟨rfl,h1,k1⟩
 have E:=E.call h1 k1
 have y6:=blk_lt E.zc
 clear h1 k1
 have c18:u2.cell? ⟨u0.heap.size,8,none⟩=some (.int .u64 0):=E.zc.cell 8
 have f18:=E.zc.free 8
 have E:=E.set 8 (.int .u64 (W.at 2))
 go_upto_region 40 with fail
 refine wp_region_lit ?_
 refine load_pat u0.heap.size 0 (cL ⟨16,0,0,false,false,false,0,0,(W.at 2),(W.at 1),0,0,0⟩) _ rfl E.zc.range Tryz.underlying70 rfl call_info ?_
 refine store_pat w.heap.size 0 (cL ⟨16,0,0,false,false,false,0,0,(W.at 2),(W.at 1),0,0,0⟩).toArray rfl rfl E.zr.there call_info (cL_one _) ?_
 refine E.fin ⟨16,0,0,false,false,false,0,0,(W.at 2),(W.at 1),0,0,0⟩ (P:=fun V2=>wpList _ _ _ _ _ V2) ?_
 intro V2 RV AV KV
 go_wp2_with fail
 refine bodyPost_ret (v:=Cl.val ⟨16,0,0,false,false,false,0,0,(W.at 2),(W.at 1),0,0,0⟩) (results_one Tryz.results31 _ _ _ _ _ rfl (run_loadVar_mid (P:=Tryz.prog) V2 w.heap.size 0 70 (cL ⟨16,0,0,false,false,false,0,0,(W.at 2),(W.at 1),0,0,0⟩) _ RV Tryz.underlying70 rfl call_info)) rfl (Rd.y (HQ.out.mpr l1) ⟨rfl,AV,KV⟩)
theorem op5_1 (b:Nat) (W:Wd) (hw:W.wf) (h0:W.at 0=5) (hs:W.at 2=1) (l1:spotOk (W.at 1) (W.at 2)) (w:World) (h:IsR w b W 0):Calls Tryz.prog 31 #[.pointer (some ⟨b,0,none⟩)] w fun e w'=>Rd ((W.at 3<256)) (e=.returned (Cl.val ⟨5,0,0,false,false,false,(W.at 1),(1),(W.at 3),0,0,0,0⟩)/\IsR w' b W 4/\Kb b w w') (e=.panicked [refv]/\Kb b w w'):=by
 have N0:=fun w h=>number_yes b W 0 (by omega) hw 17 (by omega) (by omega) w h
 rw [h0] at N0
 obtain ⟨q,hq⟩: ∃ q,q=((W.at 3<256)):=⟨_,rfl⟩
 rw [<- hq]
 have HQ:Hid (q=((W.at 3<256))):=hq
 clear hq
 go_enter Tryz.func31,Tryz.ntmps31
 go_wp2_with fail
 refine (N0 _ (h.below baa)).mono ?_
 rintro e u0 ⟨rfl,h1,k1⟩
 have E:=RV.start h h1 k1 5
 have y4:=E.cl
 clear h1 k1 N0
 go_wp2_with fail
 have N:=place_yes b W 1 (by omega) hw l1 _ E.isr
 rw [hs] at N
 refine N.mono ?_
 rintro e u1 ⟨rfl,h1,k1⟩
 have E:=E.call h1 k1
 have y5:=blk_lt E.zc
 clear h1 k1
 have c06:u1.cell? ⟨u0.heap.size,6,none⟩=some (.int .u64 0):=E.zc.cell 6
 have f06:=E.zc.free 6
 have c07:u1.cell? ⟨u0.heap.size,7,none⟩=some (.int .i64 0):=E.zc.cell 7
 have f07:=E.zc.free 7
 have E:=(E.set 6 (.int .u64 (W.at 1))).set 7 (.int .i64 (1))
 go_wp2_with fail
 by_cases l2:W.at 3<256
 rotate_left
 . refine (sized_no1 b W 3 (by omega) hw l2 _ E.isr).mono ?_
   rintro e u9 ⟨rfl,k1⟩
   exact ⟨rfl,Rd.n (fun z=>absurd (HQ.out.mp z) l2) ⟨rfl,E.kb.trans k1⟩⟩
 refine (sized_yes1 b W 3 (by omega) hw l2 _ E.isr).mono ?_
 rintro e u2 ⟨rfl,h1,k1⟩
 have E:=E.call h1 k1
 have y6:=blk_lt E.zc
 clear h1 k1
 have c18:u2.cell? ⟨u0.heap.size,8,none⟩=some (.int .u64 0):=E.zc.cell 8
 have f18:=E.zc.free 8
 have E:=E.set 8 (.int .u64 (W.at 3))
 go_upto_region 40 with fail
 refine wp_region_lit ?_
 refine load_pat u0.heap.size 0 (cL ⟨5,0,0,false,false,false,(W.at 1),(1),(W.at 3),0,0,0,0⟩) _ rfl E.zc.range Tryz.underlying70 rfl call_info ?_
 refine store_pat w.heap.size 0 (cL ⟨5,0,0,false,false,false,(W.at 1),(1),(W.at 3),0,0,0,0⟩).toArray rfl rfl E.zr.there call_info (cL_one _) ?_
 refine E.fin ⟨5,0,0,false,false,false,(W.at 1),(1),(W.at 3),0,0,0,0⟩ (P:=fun V2=>wpList _ _ _ _ _ V2) ?_
 intro V2 RV AV KV
 go_wp2_with fail
 refine bodyPost_ret (v:=Cl.val ⟨5,0,0,false,false,false,(W.at 1),(1),(W.at 3),0,0,0,0⟩) (results_one Tryz.results31 _ _ _ _ _ rfl (run_loadVar_mid (P:=Tryz.prog) V2 w.heap.size 0 70 (cL ⟨5,0,0,false,false,false,(W.at 1),(1),(W.at 3),0,0,0,0⟩) _ RV Tryz.underlying70 rfl call_info)) rfl (Rd.y (HQ.out.mpr l2) ⟨rfl,AV,KV⟩)
theorem op5_2 (b:Nat) (W:Wd) (hw:W.wf) (h0:W.at 0=5) (hs:W.at 2=2) (l1:spotOk (W.at 1) (W.at 2)) (w:World) (h:IsR w b W 0):Calls Tryz.prog 31 #[.pointer (some ⟨b,0,none⟩)] w fun e w'=>Rd ((W.at 3<65536)) (e=.returned (Cl.val ⟨5,0,0,false,false,false,(W.at 1),(2),(W.at 3),0,0,0,0⟩)/\IsR w' b W 4/\Kb b w w') (e=.panicked [refv]/\Kb b w w'):=by
 have N0:=fun w h=>number_yes b W 0 (by omega) hw 17 (by omega) (by omega) w h
 rw [h0] at N0
 obtain ⟨q,hq⟩: ∃ q,q=((W.at 3<65536)):=⟨_,rfl⟩
 rw [<- hq]
 have HQ:Hid (q=((W.at 3<65536))):=hq
 clear hq
 go_enter Tryz.func31,Tryz.ntmps31
 go_wp2_with fail
 refine (N0 _ (h.below baa)).mono ?_
 rintro e u0 ⟨rfl,h1,k1⟩
 have E:=RV.start h h1 k1 5
 have y4:=E.cl
 clear h1 k1 N0
 go_wp2_with fail
 have N:=place_yes b W 1 (by omega) hw l1 _ E.isr
 rw [hs] at N
 refine N.mono ?_
 rintro e u1 ⟨rfl,h1,k1⟩
 have E:=E.call h1 k1
 have y5:=blk_lt E.zc
 clear h1 k1
 have c06:u1.cell? ⟨u0.heap.size,6,none⟩=some (.int .u64 0):=E.zc.cell 6
 have f06:=E.zc.free 6
 have c07:u1.cell? ⟨u0.heap.size,7,none⟩=some (.int .i64 0):=E.zc.cell 7
 have f07:=E.zc.free 7
 have E:=(E.set 6 (.int .u64 (W.at 1))).set 7 (.int .i64 (2))
 go_wp2_with fail
 by_cases l2:W.at 3<65536
 rotate_left
 . refine (sized_no2 b W 3 (by omega) hw l2 _ E.isr).mono ?_
   rintro e u9 ⟨rfl,k1⟩
   exact ⟨rfl,Rd.n (fun z=>absurd (HQ.out.mp z) l2) ⟨rfl,E.kb.trans k1⟩⟩
 refine (sized_yes2 b W 3 (by omega) hw l2 _ E.isr).mono ?_
 rintro e u2 ⟨rfl,h1,k1⟩
 have E:=E.call h1 k1
 have y6:=blk_lt E.zc
 clear h1 k1
 have c18:u2.cell? ⟨u0.heap.size,8,none⟩=some (.int .u64 0):=E.zc.cell 8
 have f18:=E.zc.free 8
 have E:=E.set 8 (.int .u64 (W.at 3))
 go_upto_region 40 with fail
 refine wp_region_lit ?_
 refine load_pat u0.heap.size 0 (cL ⟨5,0,0,false,false,false,(W.at 1),(2),(W.at 3),0,0,0,0⟩) _ rfl E.zc.range Tryz.underlying70 rfl call_info ?_
 refine store_pat w.heap.size 0 (cL ⟨5,0,0,false,false,false,(W.at 1),(2),(W.at 3),0,0,0,0⟩).toArray rfl rfl E.zr.there call_info (cL_one _) ?_
 refine E.fin ⟨5,0,0,false,false,false,(W.at 1),(2),(W.at 3),0,0,0,0⟩ (P:=fun V2=>wpList _ _ _ _ _ V2) ?_
 intro V2 RV AV KV
 go_wp2_with fail
 refine bodyPost_ret (v:=Cl.val ⟨5,0,0,false,false,false,(W.at 1),(2),(W.at 3),0,0,0,0⟩) (results_one Tryz.results31 _ _ _ _ _ rfl (run_loadVar_mid (P:=Tryz.prog) V2 w.heap.size 0 70 (cL ⟨5,0,0,false,false,false,(W.at 1),(2),(W.at 3),0,0,0,0⟩) _ RV Tryz.underlying70 rfl call_info)) rfl (Rd.y (HQ.out.mpr l2) ⟨rfl,AV,KV⟩)
theorem op5_4 (b:Nat) (W:Wd) (hw:W.wf) (h0:W.at 0=5) (hs:W.at 2=4) (l1:spotOk (W.at 1) (W.at 2)) (w:World) (h:IsR w b W 0):Calls Tryz.prog 31 #[.pointer (some ⟨b,0,none⟩)] w fun e w'=>Rd ((W.at 3<4294967296)) (e=.returned (Cl.val ⟨5,0,0,false,false,false,(W.at 1),(4),(W.at 3),0,0,0,0⟩)/\IsR w' b W 4/\Kb b w w') (e=.panicked [refv]/\Kb b w w'):=by
 have N0:=fun w h=>number_yes b W 0 (by omega) hw 17 (by omega) (by omega) w h
 rw [h0] at N0
 obtain ⟨q,hq⟩: ∃ q,q=((W.at 3<4294967296)):=⟨_,rfl⟩
 rw [<- hq]
 have HQ:Hid (q=((W.at 3<4294967296))):=hq
 clear hq
 go_enter Tryz.func31,Tryz.ntmps31
 go_wp2_with fail
 refine (N0 _ (h.below baa)).mono ?_
 rintro e u0 ⟨rfl,h1,k1⟩
 have E:=RV.start h h1 k1 5
 have y4:=E.cl
 clear h1 k1 N0
 go_wp2_with fail
 have N:=place_yes b W 1 (by omega) hw l1 _ E.isr
 rw [hs] at N
 refine N.mono ?_
 rintro e u1 ⟨rfl,h1,k1⟩
 have E:=E.call h1 k1
 have y5:=blk_lt E.zc
 clear h1 k1
 have c06:u1.cell? ⟨u0.heap.size,6,none⟩=some (.int .u64 0):=E.zc.cell 6
 have f06:=E.zc.free 6
 have c07:u1.cell? ⟨u0.heap.size,7,none⟩=some (.int .i64 0):=E.zc.cell 7
 have f07:=E.zc.free 7
 have E:=(E.set 6 (.int .u64 (W.at 1))).set 7 (.int .i64 (4))
 go_wp2_with fail
 by_cases l2:W.at 3<4294967296
 rotate_left
 . refine (sized_no4 b W 3 (by omega) hw l2 _ E.isr).mono ?_
   rintro e u9 ⟨rfl,k1⟩
   exact ⟨rfl,Rd.n (fun z=>absurd (HQ.out.mp z) l2) ⟨rfl,E.kb.trans k1⟩⟩
 refine (sized_yes4 b W 3 (by omega) hw l2 _ E.isr).mono ?_
 rintro e u2 ⟨rfl,h1,k1⟩
 have E:=E.call h1 k1
 have y6:=blk_lt E.zc
 clear h1 k1
 have c18:u2.cell? ⟨u0.heap.size,8,none⟩=some (.int .u64 0):=E.zc.cell 8
 have f18:=E.zc.free 8
 have E:=E.set 8 (.int .u64 (W.at 3))
 go_upto_region 40 with fail
 refine wp_region_lit ?_
 refine load_pat u0.heap.size 0 (cL ⟨5,0,0,false,false,false,(W.at 1),(4),(W.at 3),0,0,0,0⟩) _ rfl E.zc.range Tryz.underlying70 rfl call_info ?_
 refine store_pat w.heap.size 0 (cL ⟨5,0,0,false,false,false,(W.at 1),(4),(W.at 3),0,0,0,0⟩).toArray rfl rfl E.zr.there call_info (cL_one _) ?_
 refine E.fin ⟨5,0,0,false,false,false,(W.at 1),(4),(W.at 3),0,0,0,0⟩ (P:=fun V2=>wpList _ _ _ _ _ V2) ?_
 intro V2 RV AV KV
 go_wp2_with fail
 refine bodyPost_ret (v:=Cl.val ⟨5,0,0,false,false,false,(W.at 1),(4),(W.at 3),0,0,0,0⟩) (results_one Tryz.results31 _ _ _ _ _ rfl (run_loadVar_mid (P:=Tryz.prog) V2 w.heap.size 0 70 (cL ⟨5,0,0,false,false,false,(W.at 1),(4),(W.at 3),0,0,0,0⟩) _ RV Tryz.underlying70 rfl call_info)) rfl (Rd.y (HQ.out.mpr l2) ⟨rfl,AV,KV⟩)
theorem op5_8 (b:Nat) (W:Wd) (hw:W.wf) (h0:W.at 0=5) (hs:W.at 2=8) (l1:spotOk (W.at 1) (W.at 2)) (l2:W.at 3<18446744073709551616) (w:World) (h:IsR w b W 0):Calls Tryz.prog 31 #[.pointer (some ⟨b,0,none⟩)] w fun e w'=>e=.returned (Cl.val ⟨5,0,0,false,false,false,(W.at 1),(8),(W.at 3),0,0,0,0⟩)/\IsR w' b W 4/\Kb b w w':=by
 have N0:=fun w h=>number_yes b W 0 (by omega) hw 17 (by omega) (by omega) w h
 rw [h0] at N0
 go_enter Tryz.func31,Tryz.ntmps31
 go_wp2_with fail
 refine (N0 _ (h.below baa)).mono ?_
 rintro e u0 ⟨rfl,h1,k1⟩
 have E:=RV.start h h1 k1 5
 have y4:=E.cl
 clear h1 k1 N0
 go_wp2_with fail
 have N:=place_yes b W 1 (by omega) hw l1 _ E.isr
 rw [hs] at N
 refine N.mono ?_
 rintro e u1 ⟨rfl,h1,k1⟩
 have E:=E.call h1 k1
 have y5:=blk_lt E.zc
 clear h1 k1
 have c06:u1.cell? ⟨u0.heap.size,6,none⟩=some (.int .u64 0):=E.zc.cell 6
 have f06:=E.zc.free 6
 have c07:u1.cell? ⟨u0.heap.size,7,none⟩=some (.int .i64 0):=E.zc.cell 7
 have f07:=E.zc.free 7
 have E:=(E.set 6 (.int .u64 (W.at 1))).set 7 (.int .i64 (8))
 go_wp2_with fail
 refine (sized_yes8 b W 3 (by omega) hw l2 _ E.isr).mono ?_
 rintro e u2 ⟨rfl,h1,k1⟩
 have E:=E.call h1 k1
 have y6:=blk_lt E.zc
 clear h1 k1
 have c18:u2.cell? ⟨u0.heap.size,8,none⟩=some (.int .u64 0):=E.zc.cell 8
 have f18:=E.zc.free 8
 have E:=E.set 8 (.int .u64 (W.at 3))
 go_upto_region 40 with fail
 refine wp_region_lit ?_
 refine load_pat u0.heap.size 0 (cL ⟨5,0,0,false,false,false,(W.at 1),(8),(W.at 3),0,0,0,0⟩) _ rfl E.zc.range Tryz.underlying70 rfl call_info ?_
 refine store_pat w.heap.size 0 (cL ⟨5,0,0,false,false,false,(W.at 1),(8),(W.at 3),0,0,0,0⟩).toArray rfl rfl E.zr.there call_info (cL_one _) ?_
 refine E.fin ⟨5,0,0,false,false,false,(W.at 1),(8),(W.at 3),0,0,0,0⟩ (P:=fun V2=>wpList _ _ _ _ _ V2) ?_
 intro V2 RV AV KV
 go_wp2_with fail
 refine bodyPost_ret (v:=Cl.val ⟨5,0,0,false,false,false,(W.at 1),(8),(W.at 3),0,0,0,0⟩) (results_one Tryz.results31 _ _ _ _ _ rfl (run_loadVar_mid (P:=Tryz.prog) V2 w.heap.size 0 70 (cL ⟨5,0,0,false,false,false,(W.at 1),(8),(W.at 3),0,0,0,0⟩) _ RV Tryz.underlying70 rfl call_info)) rfl ⟨rfl,AV,KV⟩
theorem op5n (b:Nat) (W:Wd) (hw:W.wf) (h0:W.at 0=5) (l1: ¬ (spotOk (W.at 1) (W.at 2))) (w:World) (h:IsR w b W 0):Calls Tryz.prog 31 #[.pointer (some ⟨b,0,none⟩)] w fun e w'=>e=.panicked [refv]/\Kb b w w':=by
 have N0:=fun w h=>number_yes b W 0 (by omega) hw 17 (by omega) (by omega) w h
 rw [h0] at N0
 go_enter Tryz.func31,Tryz.ntmps31
 go_wp2_with fail
 refine (N0 _ (h.below baa)).mono ?_
 rintro e u0 ⟨rfl,h1,k1⟩
 have E:=RV.start h h1 k1 5
 have y4:=E.cl
 clear h1 k1 N0
 go_wp2_with fail
 refine (place_no b W 1 (by omega) hw l1 _ E.isr).mono ?_
 rintro e u9 ⟨rfl,k1⟩
 exact ⟨rfl,rfl,E.kb.trans k1⟩
def callV (W:Wd):Option (Cl × Nat) :=
 if W.at 0=1 then (if pagesOk (W.at 1) (W.at 2)/\W.at 3<4 then some (⟨1,(W.at 1),(W.at 1+W.at 2),(permW (W.at 3)),true,(permX (W.at 3)),0,0,0,0,0,0,0⟩,4) else none) else
 if W.at 0=2 then (if pagesOk (W.at 1) (W.at 2) then some (⟨2,(W.at 1),(W.at 1+W.at 2),false,false,false,0,0,0,0,0,0,0⟩,3) else none) else
 if W.at 0=3 then (if pagesOk (W.at 1) (W.at 2)/\W.at 3<4 then some (⟨3,(W.at 1),(W.at 1+W.at 2),(permW (W.at 3)),true,(permX (W.at 3)),0,0,0,0,0,0,0⟩,4) else none) else
 if W.at 0=4 then (if spotOk (W.at 1) (W.at 2) then some (⟨4,0,0,false,false,false,(W.at 1),(W.at 2),0,0,0,0,0⟩,3) else none) else
 if W.at 0=6 then (if W.at 1<34359738368/\W.at 2<16/\W.at 3<2 then some (⟨6,(W.at 1),(W.at 1+1),(W.at 3==1),false,false,0,0,0,(W.at 2),0,0,0⟩,4) else none) else
 if W.at 0=7 then (if W.at 1<256/\W.at 2<34359738368 then some (⟨7,(W.at 2),(W.at 2+1),false,false,false,0,0,0,(W.at 1),0,0,0⟩,3) else none) else
 if W.at 0=8 then (if W.at 1<256 then some (⟨8,0,0,false,false,false,0,0,0,(W.at 1),0,0,0⟩,2) else none) else
 if W.at 0=9 then (if W.at 1<256 then some (⟨9,0,0,false,false,false,0,0,0,(W.at 1),0,0,0⟩,2) else none) else
 if W.at 0=10 then (if W.at 1<140737488355328 then some (⟨10,0,0,false,false,false,(W.at 1),0,0,0,0,0,0⟩,2) else none) else
 if W.at 0=11 then (some (⟨11,0,0,false,false,false,0,0,0,0,0,0,0⟩,1)) else
 if W.at 0=12 then (if W.at 1<1048577 then some (⟨12,0,0,false,false,false,0,0,0,(W.at 1),0,0,0⟩,2) else none) else
 if W.at 0=13 then (some (⟨13,0,0,false,false,false,0,0,0,0,0,0,0⟩,1)) else
 if W.at 0=14 then (some (⟨14,0,0,false,false,false,0,0,0,0,0,0,0⟩,1)) else
 if W.at 0=15 then (if W.at 1<8/\W.at 2<4/\W.at 3<4/\W.at 4<4 then some (⟨15,0,0,false,false,false,0,0,0,(W.at 1+1),(W.at 2),(W.at 3),(W.at 4)⟩,5) else none) else
 if W.at 0=16 then (if W.at 1<4 then some (⟨16,0,0,false,false,false,0,0,(W.at 2),(W.at 1),0,0,0⟩,3) else none) else
 if W.at 0=5 then (if spotOk (W.at 1) (W.at 2) then (if (W.at 2=1/\W.at 3<256)\/(W.at 2=2/\W.at 3<65536)\/(W.at 2=4/\W.at 3<4294967296)\/(W.at 2=8/\W.at 3<18446744073709551616) then some (⟨5,0,0,false,false,false,W.at 1,W.at 2,W.at 3,0,0,0,0⟩,4) else none) else none) else none
theorem callD (b:Nat) (W:Wd) (hw:W.wf) (h0:W.at 0=0) (w:World) (h:IsR w b W 0):Calls Tryz.prog 31 #[.pointer (some ⟨b,0,none⟩)] w fun e w'=>e=.panicked [refv]/\Kb b w w':=by
 have N0:Hid (∀ w:World,IsR w b W (0)->Calls Tryz.prog 43 #[.pointer (some ⟨b,0,none⟩),.int .u64 17] w fun e w'=>e=.returned (.int .i64 (W.at (0)))/\IsR w' b W (0+1)/\Kb b w w'):=fun w h=>number_yes b W (0) (by omega) hw 17 (by omega) (by omega) w h
 rw [h0] at N0
 have IN:Hid (∀ w:World,Calls Tryz.prog 51 #[.bool false] w fun e w'=>e=.panicked [refv]/\w'=w):=insist_no
 have H0:Hid (IsR w b W 0):=h
 have lt0:=blk_lt h
 clear h hw h0
 have A0:Hid (IsR (w.alloc (.cells sw1.toArray 70)) b W 0):=H0.out.below baa
 have K0:Hid (Kb b w (w.alloc (.cells sw1.toArray 70))):=kb_alloc b w _
 go_enter Tryz.func31,Tryz.ntmps31
 go_wp2_with fail
 refine (N0.out _ A0.out).mono ?_
 rintro e u0 ⟨rfl,h1,k1⟩
 have K1:Hid (Kb b w u0):=K0.out.trans k1
 clear h1 k1 A0 K0
 go_wp2_with fail
 refine (IN.out _).mono ?_
 rintro e u8 ⟨rfl,hu⟩
 rw [hu]
 exact ⟨rfl,rfl,K1.out.trans (kb_alloc b u0 _)⟩
theorem callX (b:Nat) (W:Wd) (h0: ¬ W.at 0<17) (w:World) (h:IsR w b W 0):Calls Tryz.prog 31 #[.pointer (some ⟨b,0,none⟩)] w fun e w'=>e=.panicked [refv]/\Kb b w w':=by
 have N0:Hid (∀ w:World,IsR w b W (0)->Calls Tryz.prog 43 #[.pointer (some ⟨b,0,none⟩),.int .u64 17] w fun e w'=>e=.panicked [refv]/\Kb b w w'):=fun w h=>number_no b W (0) (by omega) 17 h0 w h
 have H0:Hid (IsR w b W 0):=h
 have lt0:=blk_lt h
 clear h h0
 have A0:Hid (IsR (w.alloc (.cells sw1.toArray 70)) b W 0):=H0.out.below baa
 have K0:Hid (Kb b w (w.alloc (.cells sw1.toArray 70))):=kb_alloc b w _
 go_enter Tryz.func31,Tryz.ntmps31
 go_wp2_with fail
 refine (N0.out _ A0.out).mono ?_
 rintro e u0 ⟨rfl,k1⟩
 exact ⟨rfl,rfl,K0.out.trans k1⟩
theorem Rd.yes {c A B:Prop} (h:Rd c A B) (y:c):A:=h.1 y
theorem Rd.no {c A B:Prop} (h:Rd c A B) (y: ¬ c):B:=h.2 y
theorem call_some (b:Nat) (W:Wd) (hw:W.wf) (c:Cl) (n:Nat) (hc:callV W=some (c,n)) (w:World) (h:IsR w b W 0):Calls Tryz.prog 31 #[.pointer (some ⟨b,0,none⟩)] w fun e w'=>e=.returned c.val/\IsR w' b W n/\Kb b w w':=by
 unfold callV at hc
 by_cases z1:W.at 0=1
 . rw [if_pos z1] at hc
   by_cases hq:pagesOk (W.at 1) (W.at 2)/\W.at 3<4
   . rw [if_pos hq] at hc
     obtain ⟨rfl,rfl⟩:=Prod.mk.inj (sia hc)
     exact (op1 b W hw z1 w h).mono fun e w' q=>q.yes hq
   . exact kr1
 rw [if_neg z1] at hc
 by_cases z2:W.at 0=2
 . rw [if_pos z2] at hc
   by_cases hq:pagesOk (W.at 1) (W.at 2)
   . rw [if_pos hq] at hc
     obtain ⟨rfl,rfl⟩:=Prod.mk.inj (sia hc)
     exact (op2 b W hw z2 w h).mono fun e w' q=>q.yes hq
   . exact kr1
 rw [if_neg z2] at hc
 by_cases z3:W.at 0=3
 . rw [if_pos z3] at hc
   by_cases hq:pagesOk (W.at 1) (W.at 2)/\W.at 3<4
   . rw [if_pos hq] at hc
     obtain ⟨rfl,rfl⟩:=Prod.mk.inj (sia hc)
     exact (op3 b W hw z3 w h).mono fun e w' q=>q.yes hq
   . exact kr1
 rw [if_neg z3] at hc
 by_cases z4:W.at 0=4
 . rw [if_pos z4] at hc
   by_cases hq:spotOk (W.at 1) (W.at 2)
   . rw [if_pos hq] at hc
     obtain ⟨rfl,rfl⟩:=Prod.mk.inj (sia hc)
     exact (op4 b W hw z4 w h).mono fun e w' q=>q.yes hq
   . exact kr1
 rw [if_neg z4] at hc
 by_cases z6:W.at 0=6
 . rw [if_pos z6] at hc
   by_cases hq:W.at 1<34359738368/\W.at 2<16/\W.at 3<2
   . rw [if_pos hq] at hc
     obtain ⟨rfl,rfl⟩:=Prod.mk.inj (sia hc)
     exact (op6 b W hw z6 w h).mono fun e w' q=>q.yes hq
   . exact kr1
 rw [if_neg z6] at hc
 by_cases z7:W.at 0=7
 . rw [if_pos z7] at hc
   by_cases hq:W.at 1<256/\W.at 2<34359738368
   . rw [if_pos hq] at hc
     obtain ⟨rfl,rfl⟩:=Prod.mk.inj (sia hc)
     exact (op7 b W hw z7 w h).mono fun e w' q=>q.yes hq
   . exact kr1
 rw [if_neg z7] at hc
 by_cases z8:W.at 0=8
 . rw [if_pos z8] at hc
   by_cases hq:W.at 1<256
   . rw [if_pos hq] at hc
     obtain ⟨rfl,rfl⟩:=Prod.mk.inj (sia hc)
     exact (op8 b W hw z8 w h).mono fun e w' q=>q.yes hq
   . exact kr1
 rw [if_neg z8] at hc
 by_cases z9:W.at 0=9
 . rw [if_pos z9] at hc
   by_cases hq:W.at 1<256
   . rw [if_pos hq] at hc
     obtain ⟨rfl,rfl⟩:=Prod.mk.inj (sia hc)
     exact (op9 b W hw z9 w h).mono fun e w' q=>q.yes hq
   . exact kr1
 rw [if_neg z9] at hc
 by_cases z10:W.at 0=10
 . rw [if_pos z10] at hc
   by_cases hq:W.at 1<140737488355328
   . rw [if_pos hq] at hc
     obtain ⟨rfl,rfl⟩:=Prod.mk.inj (sia hc)
     exact (op10 b W hw z10 w h).mono fun e w' q=>q.yes hq
   . exact kr1
 rw [if_neg z10] at hc
 by_cases z11:W.at 0=11
 . rw [if_pos z11] at hc
   obtain ⟨rfl,rfl⟩:=Prod.mk.inj (sia hc)
   exact op11 b W hw z11 w h
 rw [if_neg z11] at hc
 by_cases z12:W.at 0=12
 . rw [if_pos z12] at hc
   by_cases hq:W.at 1<1048577
   . rw [if_pos hq] at hc
     obtain ⟨rfl,rfl⟩:=Prod.mk.inj (sia hc)
     exact (op12 b W hw z12 w h).mono fun e w' q=>q.yes hq
   . exact kr1
 rw [if_neg z12] at hc
 by_cases z13:W.at 0=13
 . rw [if_pos z13] at hc
   obtain ⟨rfl,rfl⟩:=Prod.mk.inj (sia hc)
   exact op13 b W hw z13 w h
 rw [if_neg z13] at hc
 by_cases z14:W.at 0=14
 . rw [if_pos z14] at hc
   obtain ⟨rfl,rfl⟩:=Prod.mk.inj (sia hc)
   exact op14 b W hw z14 w h
 rw [if_neg z14] at hc
 by_cases z15:W.at 0=15
 . rw [if_pos z15] at hc
   by_cases hq:W.at 1<8/\W.at 2<4/\W.at 3<4/\W.at 4<4
   . rw [if_pos hq] at hc
     obtain ⟨rfl,rfl⟩:=Prod.mk.inj (sia hc)
     exact (op15 b W hw z15 w h).mono fun e w' q=>q.yes hq
   . exact kr1
 rw [if_neg z15] at hc
 by_cases z16:W.at 0=16
 . rw [if_pos z16] at hc
   by_cases hq:W.at 1<4
   . rw [if_pos hq] at hc
     obtain ⟨rfl,rfl⟩:=Prod.mk.inj (sia hc)
     exact (op16 b W hw z16 w h).mono fun e w' q=>q.yes hq
   . exact kr1
 rw [if_neg z16] at hc
 by_cases z5:W.at 0=5
 . rw [if_pos z5] at hc
   by_cases hq:spotOk (W.at 1) (W.at 2)
   . rw [if_pos hq] at hc
     by_cases hr:(W.at 2=1/\W.at 3<256)\/(W.at 2=2/\W.at 3<65536)\/(W.at 2=4/\W.at 3<4294967296)\/(W.at 2=8/\W.at 3<18446744073709551616)
     . rw [if_pos hr] at hc
       obtain ⟨rfl,rfl⟩:=Prod.mk.inj (sia hc)
       rcases hr with ⟨r1,r2⟩ | ⟨r1,r2⟩ | ⟨r1,r2⟩ | ⟨r1,r2⟩
       . have:=(op5_1 b W hw z5 r1 hq w h).mono fun e w' q=>q.yes r2
         rw [<- r1] at this;exact this
       . have:=(op5_2 b W hw z5 r1 hq w h).mono fun e w' q=>q.yes r2
         rw [<- r1] at this;exact this
       . have:=(op5_4 b W hw z5 r1 hq w h).mono fun e w' q=>q.yes r2
         rw [<- r1] at this;exact this
       . have:=op5_8 b W hw z5 r1 hq r2 w h
         rw [<- r1] at this;exact this
     . rw [if_neg hr] at hc;cases hc
   . exact kr1
 rw [if_neg z5] at hc
 cases hc
theorem call_none (b:Nat) (W:Wd) (hw:W.wf) (hc:callV W=none) (w:World) (h:IsR w b W 0):Calls Tryz.prog 31 #[.pointer (some ⟨b,0,none⟩)] w fun e w'=>e=.panicked [refv]/\Kb b w w':=by
 unfold callV at hc
 by_cases z1:W.at 0=1
 . rw [if_pos z1] at hc
   by_cases hq:pagesOk (W.at 1) (W.at 2)/\W.at 3<4
   . exact ks1
   exact (op1 b W hw z1 w h).mono fun e w' q=>q.no hq
 rw [if_neg z1] at hc
 by_cases z2:W.at 0=2
 . rw [if_pos z2] at hc
   by_cases hq:pagesOk (W.at 1) (W.at 2)
   . exact ks1
   exact (op2 b W hw z2 w h).mono fun e w' q=>q.no hq
 rw [if_neg z2] at hc
 by_cases z3:W.at 0=3
 . rw [if_pos z3] at hc
   by_cases hq:pagesOk (W.at 1) (W.at 2)/\W.at 3<4
   . exact ks1
   exact (op3 b W hw z3 w h).mono fun e w' q=>q.no hq
 rw [if_neg z3] at hc
 by_cases z4:W.at 0=4
 . rw [if_pos z4] at hc
   by_cases hq:spotOk (W.at 1) (W.at 2)
   . exact ks1
   exact (op4 b W hw z4 w h).mono fun e w' q=>q.no hq
 rw [if_neg z4] at hc
 by_cases z6:W.at 0=6
 . rw [if_pos z6] at hc
   by_cases hq:W.at 1<34359738368/\W.at 2<16/\W.at 3<2
   . exact ks1
   exact (op6 b W hw z6 w h).mono fun e w' q=>q.no hq
 rw [if_neg z6] at hc
 by_cases z7:W.at 0=7
 . rw [if_pos z7] at hc
   by_cases hq:W.at 1<256/\W.at 2<34359738368
   . exact ks1
   exact (op7 b W hw z7 w h).mono fun e w' q=>q.no hq
 rw [if_neg z7] at hc
 by_cases z8:W.at 0=8
 . rw [if_pos z8] at hc
   by_cases hq:W.at 1<256
   . exact ks1
   exact (op8 b W hw z8 w h).mono fun e w' q=>q.no hq
 rw [if_neg z8] at hc
 by_cases z9:W.at 0=9
 . rw [if_pos z9] at hc
   by_cases hq:W.at 1<256
   . exact ks1
   exact (op9 b W hw z9 w h).mono fun e w' q=>q.no hq
 rw [if_neg z9] at hc
 by_cases z10:W.at 0=10
 . rw [if_pos z10] at hc
   by_cases hq:W.at 1<140737488355328
   . exact ks1
   exact (op10 b W hw z10 w h).mono fun e w' q=>q.no hq
 rw [if_neg z10] at hc
 by_cases z11:W.at 0=11
 . rw [if_pos z11] at hc
   cases hc
 rw [if_neg z11] at hc
 by_cases z12:W.at 0=12
 . rw [if_pos z12] at hc
   by_cases hq:W.at 1<1048577
   . exact ks1
   exact (op12 b W hw z12 w h).mono fun e w' q=>q.no hq
 rw [if_neg z12] at hc
 by_cases z13:W.at 0=13
 . rw [if_pos z13] at hc
   cases hc
 rw [if_neg z13] at hc
 by_cases z14:W.at 0=14
 . rw [if_pos z14] at hc
   cases hc
 rw [if_neg z14] at hc
 by_cases z15:W.at 0=15
 . rw [if_pos z15] at hc
   by_cases hq:W.at 1<8/\W.at 2<4/\W.at 3<4/\W.at 4<4
   . exact ks1
   exact (op15 b W hw z15 w h).mono fun e w' q=>q.no hq
 rw [if_neg z15] at hc
 by_cases z16:W.at 0=16
 . rw [if_pos z16] at hc
   by_cases hq:W.at 1<4
   . exact ks1
   exact (op16 b W hw z16 w h).mono fun e w' q=>q.no hq
 rw [if_neg z16] at hc
 by_cases z5:W.at 0=5
 . rw [if_pos z5] at hc
   by_cases hq:spotOk (W.at 1) (W.at 2)
   rotate_left
   . exact op5n b W hw z5 hq w h
   rw [if_pos hq] at hc
   by_cases hr:(W.at 2=1/\W.at 3<256)\/(W.at 2=2/\W.at 3<65536)\/(W.at 2=4/\W.at 3<4294967296)\/(W.at 2=8/\W.at 3<18446744073709551616)
   . rw [if_pos hr] at hc;cases hc
   clear hc
   have b3:=hw 3
   rcases hq.2.1 with r | r | r | r
   . exact (op5_1 b W hw z5 r hq w h).mono fun e w' q=>q.no (fun z=>hr (by omega))
   . exact (op5_2 b W hw z5 r hq w h).mono fun e w' q=>q.no (fun z=>hr (by omega))
   . exact (op5_4 b W hw z5 r hq w h).mono fun e w' q=>q.no (fun z=>hr (by omega))
   . exact absurd (by omega) hr
 have b0:=hw 0
 by_cases z0:W.at 0=0
 . exact callD b W hw z0 w h
 . exact callX b W (by omega) w h
def restZ (W:Wd) (n:Nat):Prop:= ∀ i,n<=i->i<6->W.at i=0
theorem lenW:Tryz.prog.arrayLen 30=6:=kc
theorem elemW:Tryz.prog.elem 30=28:=kc
theorem sizeU (W:World):(sizeOf 28).run Tryz.prog W=.ok 1 W:=kc
theorem sliceW (b i m:Nat) (hi:i+m=6) (hm:0<m) (W:World):(Instr.sliceAt 30 (.pointer (some ⟨b,0,none⟩)) (some (.int .i64 (i:Int))) none none).run Tryz.prog W=.ok (.slice (some ⟨b,i,none⟩) m m) W:=by
 rw [run_sliceAt_array_l W _ _ kc .i64 (i:Int) (by omega) (by rw [lenW];omega),elemW,sizeU,lenW]
 have e:(i:Int).toNat=i:=by simp
 have e2:6-i=m:=by omega
 show Result.ok (slicedAt _ _ _ _ _) W=_
 rw [slicedAt,e,e2,if_neg (by omega),Addr.add_mid]
 simp
theorem end_yes (b:Nat) (W:Wd) (n:Nat) (hn:n<6) (hz:restZ W n) (w:World) (h:IsR w b W n):Calls Tryz.prog 32 #[.pointer (some ⟨b,0,none⟩)] w fun e w'=>e=.returned (.tuple #[])/\Kb b w w':=by
 have IY:Hid (∀ w:World,Calls Tryz.prog 51 #[.bool true] w fun e w'=>e=.returned (.tuple #[])/\w'=w):=insist_yes
 have H:Hid (IsR w b W n):=h
 have HZ:Hid (restZ W n):=hz
 have lt0:=blk_lt h
 have c6:=h.next
 obtain ⟨m,hm⟩: ∃ m,n+m=6:=⟨6-n,by omega⟩
 have sl:=sliceW b n m hm (by omega)
 have HM:Hid (n+m=6):=hm
 have m6:m<=6:=by omega
 clear h hz hm
 go_enter Tryz.func32,Tryz.ntmps32
 go_wp2_with fail
 go_quiet (fail)
 go_wp2_with fail
 go_loopw [13] (fun x V=> ∃ k:Nat,k<=m/\x=.int .i64 k/\Hid (IsR V b W n)/\Hid (Kb b w V)) (fun x _=>m-(intOf x).toNat)
 case atStart=>exact ⟨0,by omega,rfl,H.out.kept (fun _=>rfl),kb_drewN _ _ _⟩
 case round =>
  obtain ⟨k,hk,rfl,hR,hK⟩:=hrel
  by_cases hlt:k<m
  . have hd:decide ((k:Int)<(m:Int))=true:=by simp;omega
    have c0:=hR.out.cell (n+k) (by have:=HM.out;omega)
    rw [HZ.out (n+k) (by omega) (by have:=HM.out;omega)] at c0
    have ltw:b<wr.heap.size:=blk_lt hR.out
    go_wp2_with fail
    refine (IY.out _).mono ?_
    rintro e u8 ⟨rfl,hu⟩
    have hu2:=hu.symm
    subst hu2
    go_wp2_with fail
    go_roundw
    case rel=>exact ⟨k+1,by omega,by go_num,hR,hK⟩
    case measure=>simp [intOf];omega
  . obtain rfl:k=m:=by omega
    have hd:decide ((k:Int)<(k:Int))=false:=by simp
    go_wp2_with fail
    go_returns
    exact ⟨rfl,hK.out⟩
theorem end_no (b:Nat) (W:Wd) (hw:W.wf) (n:Nat) (hn:n<6) (hz: ¬ restZ W n) (w:World) (h:IsR w b W n):Calls Tryz.prog 32 #[.pointer (some ⟨b,0,none⟩)] w fun e w'=>e=.panicked [refv]/\Kb b w w':=by
 have IY:Hid (∀ w:World,Calls Tryz.prog 51 #[.bool true] w fun e w'=>e=.returned (.tuple #[])/\w'=w):=insist_yes
 have IN:Hid (∀ w:World,Calls Tryz.prog 51 #[.bool false] w fun e w'=>e=.panicked [refv]/\w'=w):=insist_no
 have H:Hid (IsR w b W n):=h
 have HZ:Hid (¬ restZ W n):=hz
 have lt0:=blk_lt h
 have c6:=h.next
 obtain ⟨m,hm⟩: ∃ m,n+m=6:=⟨6-n,by omega⟩
 have sl:=sliceW b n m hm (by omega)
 have HM:Hid (n+m=6):=hm
 have m6:m<=6:=by omega
 clear h hz hm hw
 go_enter Tryz.func32,Tryz.ntmps32
 go_wp2_with fail
 go_quiet (fail)
 go_wp2_with fail
 go_loopw [13] (fun x V=> ∃ k:Nat,k<=m/\x=.int .i64 k/\Hid (∀ j,j<k->W.at (n+j)=0)/\Hid (IsR V b W n)/\Hid (Kb b w V)) (fun x _=>m-(intOf x).toNat)
 case atStart=>exact ⟨0,by omega,rfl,fun j hj=>absurd hj (Nat.not_lt_zero _),H.out.kept (fun _=>rfl),kb_drewN _ _ _⟩
 case round =>
  obtain ⟨k,hk,rfl,hj,hR,hK⟩:=hrel
  by_cases hlt:k<m
  . have hd:decide ((k:Int)<(m:Int))=true:=by simp;omega
    have c0:=hR.out.cell (n+k) (by have:=HM.out;omega)
    have ltw:b<wr.heap.size:=blk_lt hR.out
    by_cases z:W.at (n+k)=0
    . rw [z] at c0
      have HJ:Hid (∀ j,j<k+1->W.at (n+j)=0):=fun j h=>by
       rcases Nat.lt_succ_iff_lt_or_eq.1 h with q | rfl
       . exact hj.out j q
       . exact z
      clear z
      go_wp2_with fail
      refine (IY.out _).mono ?_
      rintro e u8 ⟨rfl,hu⟩
      have hu2:=hu.symm
      subst hu2
      go_wp2_with fail
      go_roundw
      case rel=>exact ⟨k+1,by omega,by go_num,HJ,hR,hK⟩
      case measure=>simp [intOf];omega
    . generalize W.at (n+k)=x at c0 z
      have z2:(x==0)=false:=by simp [z]
      go_wp2_with fail
      refine (IN.out _).mono ?_
      rintro e u8 ⟨rfl,hu⟩
      have hu2:=hu.symm
      subst hu2
      exact ⟨rfl,rfl,hK.out⟩
  . exact absurd (fun i h1 h2=>by
     have:=hj.out (i-n) (by have:=HM.out;omega)
     rw [show n+(i-n)=i by omega] at this
     exact this) HZ.out
theorem catch_idle (p q:Addr) (w:World) :
 CallsD Tryz.prog 30 #[.pointer (some p),.pointer (some q)] .returning w fun e u' w'=>e=.returned (.tuple #[])/\u'=.returning/\w'=w:=by
 refine callsD_of_wpS Tryz.func30 rfl fun c₀ cs hu=> ?_
 apply wpS_seq
 apply wpS_region
 simp [wpOpsS,go_sem,recoverD,hu,Tryz.ntmps30,Exit.thenS]
 apply wpS_seq
 apply wpS_seq
 apply wpS_region
 simp [wpOpsS,go_sem,Exit.thenS]
 refine wpS_cond (t:=true) (by simp [Act.eval,Array.replicate]) ?_
 simp only [if_true]
 refine wpS_of_wp (wp_ret ?_)
 cases c₀
 simp_all [bodyPostS,results,Tryz.results30,Exit.thenS]
structure Kq (x y:Nat) (w w':World):Prop where
 os:w'.os=w.os
 tape:w'.tape=w.tape
 output:w'.output=w.output
 size:w.heap.size<=w'.heap.size
 block: ∀ k,k<w.heap.size->k≠x->k≠y->w'.heap[k]? =w.heap[k]?
theorem Kq.below {x y:Nat} {a b:World} (h:bc a b):Kq x y a b:=⟨h.os,h.tape,h.output,h.size,fun j hj _ _=>h.block j hj⟩
theorem Kq.drew {x y:Nat} {a b:World} (h:Kq x y a b):Kq x y a b.drew:=⟨h.os,h.tape,h.output,h.size,h.block⟩
theorem Kq.set {x y z:Nat} {a b:World} (h:Kq x y a b) (o:Nat) (v:Value) (hz:z=x\/z=y):Kq x y a (b.setCell ⟨z,o,none⟩ v):=by
 have k:=Kb.set b z o v
 exact ⟨k.os.trans h.os,k.tape.trans h.tape,k.output.trans h.output,Nat.le_trans h.size k.size,fun j hj h1 h2=>(k.block j (nla hj h.size) (by omega)).trans (h.block j hj h1 h2)⟩
theorem Kq.scs {x y z:Nat} {a b:World} (h:Kq x y a b) (hz:z=x\/z=y): ∀ (vs:List Value) (o:Nat),Kq x y a (b.setCells z o vs):=fun vs=>by
 induction vs generalizing b with
 | nil => intro o; exact h
 | cons v r ih => intro o; rw [World.setCells]; exact ih (h.set o v hz) _
theorem rep17:Array.replicate 17 undef= #[undef,undef,undef,undef,undef,undef,undef,undef,undef,undef,undef,undef,undef,undef,undef,undef,undef]:=rfl
theorem cell_setCells_ne {w:World} {b o:Nat} {vs:List Value} {x:Addr} (h:x.block≠b):(w.setCells b o vs).cell? x=w.cell? x:=World.cell?_setCells_out b vs o w x (fun hb _=>absurd hb h)
theorem wanted_mp {c:Prop} [Decidable c] {a b:Prop} (h:c) (ha:a):if c then a else b:=by rw [if_pos h];exact ha
theorem call_infoC:(Tryz.prog.info? 70).map (·.size)=some 13:=kc
theorem catch_ref (fb eb:Nat) (w:World) (tf:w.there fb 0 13) (ce:w.cell? ⟨eb,0,none⟩=some (.int .i64 0)) (fe:w.frozen? ⟨eb,0,none⟩=false)
 (lf:fb<w.heap.size) (le:eb<w.heap.size) (nfe:fb≠eb) :
 CallsD Tryz.prog 30 #[.pointer (some ⟨fb,0,none⟩),.pointer (some ⟨eb,0,none⟩)] (.panicking [refv]) w fun e u' w'=>e=.returned (.tuple #[])/\u'=.panicking [{ refv with recovered:=true }] /\
  w'.rangeAt fb 0 sw1/\w'.rangeAt eb 0 [.int .i64 13]/\Kq fb eb w w':=by
 have heq: ∀ (x:Value) (W:World),(binOp .eql 20 (.iface 99 x) .nilIface).run Tryz.prog W=.ok (.bool false) W:=fun _ _=>by kernel_rfl
 have hta: ∀ (W:World),(Instr.typeAssert (.iface 99 (.agg #[.int .i64 13])) 20 99 true).run Tryz.prog W=.ok (.tuple #[.agg #[.int .i64 13],.bool true]) W:=fun _=>by kernel_rfl
 have TF:Hid (w.there fb 0 13):=tf
 clear tf
 unfold refv
 refine callsD_of_wpS Tryz.func30 rfl fun c₀ cs hu=> ?_
 apply wpS_seq
 apply wpS_region
 simp [wpOpsS,go_sem,recoverD,hu,Tryz.ntmps30,Exit.thenS]
 apply wpS_seq
 apply wpS_seq
 apply wpS_region
 simp [wpOpsS,go_sem,Exit.thenS,heq]
 refine wpS_cond (t:=false) (by simp [Act.eval,Array.replicate]) ?_
 simp only [Bool.false_eq_true,if_false]
 refine wpS_of_wp (wp_skip ?_)
 simp only [rep17,Exit.thenS,List.setIfInBounds_toArray,List.set_cons_zero,List.set_cons_succ,List.append_toArray,List.cons_append,List.nil_append]
 refine wpS_of_wp ?_
 go_upto_region 5 with fail
 refine wp_region_noPanic ?_
 refine wp_region_held_drew (S:=fun u=>u.cell? ⟨w.heap.size,0,none⟩=some (.int .i64 13)/\Hid (u.there fb 0 13)/\Hid (∃ x:Int,u.cell? ⟨eb,0,none⟩=some (.int .i64 x))/\u.frozen? ⟨eb,0,none⟩=false) kc ?_ (fun hHeld=> ?_)
 . refine ⟨by simp,World.there_alloc TF.out _,?_,?_⟩
   . exact ⟨0,(World.cell?_alloc_lt _ _ _ le).trans ce⟩
   . exact (World.frozen?_alloc_past _ _ _ le).trans fe
 refine wpAnyH_take (i:=0) (oi:=⟨some 16,.build 70 #[],_,_,_,none⟩) (v:= ?_) rfl kc kc kc (fun _ _ _ h=>h) (Or.inl ⟨by rfl,?_⟩) kj ?_
 rotate_left
 . exact kp
 try simp only [Act.put,zaa,zba,zca]
 refine wpAnyH_take (i:=1) (oi:=⟨some 17,.fieldAddr 99 (.tmp 3) 0,_,_,_,none⟩) (v:= ?_) rfl kc kc kc (fun _ _ _ h=>h) (Or.inl ⟨by rfl,?_⟩) kj ?_
 rotate_left
 . exact kp
 try simp only [Act.put,zaa,zba,zca]
 refine wpAnyH_take (i:=2) (oi:=⟨some 18,.load 25 (.tmp 17),_,_,_,none⟩) (v:= ?_) rfl kc kc kc (fun _ _ _ h=>h) (Or.inl ⟨by rfl,?_⟩) kj ?_
 rotate_left
 . exact kp
 try simp only [Act.put,zaa,zba,zca]
 have K0:Hid (Kq fb eb w (w.alloc (.cells #[.int .i64 13] 99)).drew):=(Kq.below (Go.Joins.below_alloc1 w _)).drew
 generalize (w.alloc (.cells #[.int .i64 13] 99)).drew=W0 at hHeld K0 |-
 refine rda 3 ⟨none,.store 70 (.tmp 0) (.tmp 16),_,_,_,none⟩ rfl fun K hK=> ?_
 refine wanted_mp rfl ?_
 refine wp_store_mid _ _ _ rfl fb 0 sx1 rfl rfl (hHeld.2.1).out call_infoC kq1 ?_
 refine hK.out _ _ ?_ (fun hHeld1=> ?_)
 . exact ⟨(cell_setCells_ne (by exact Nat.ne_of_gt lf)).trans hHeld.1,World.there_setCells hHeld.2.1.out _ _ _,⟨hHeld.2.2.1.out.choose,(cell_setCells_ne (by exact Ne.symm nfe)).trans hHeld.2.2.1.out.choose_spec⟩,(World.frozen?_setCells _ _ _ _ _).trans hHeld.2.2.2⟩
 clear hK K
 try simp only [Act.put,zaa,zba,zca]
 have K1:Hid (Kq fb eb w (W0.setCells fb 0 sw1)):=K0.out.scs (Or.inl rfl) _ _
 have R1:Hid ((W0.setCells fb 0 sw1).rangeAt fb 0 sw1):=World.rangeAt_setCells_same W0 fb 0 _ hHeld.2.1.out
 simp only [List.toList_toArray] at hHeld1 |-
 generalize W0.setCells fb 0 sw1=W2 at hHeld1 K1 R1 |-
 clear hHeld K0
 obtain ⟨x2,c2⟩:=hHeld1.2.2.1.out
 have f2:=hHeld1.2.2.2
 have K3:Hid (Kq fb eb w (W2.setCell ⟨eb,0,none⟩ (.int .i64 13))):=K1.out.set _ _ (Or.inr rfl)
 have RA:Hid ((W2.setCell ⟨eb,0,none⟩ (.int .i64 13)).rangeAt fb 0 sw1):=World.rangeAt_setCells_apart R1.out eb 0 [.int .i64 13] (Or.inl nfe)
 have RC:Hid ((W2.setCell ⟨eb,0,none⟩ (.int .i64 13)).rangeAt eb 0 [.int .i64 13]):=World.rangeAt_setCells_same W2 eb 0 [.int .i64 13] (fun j hj=>by
  obtain rfl:j=0:=by simp at hj;omega
  exact ⟨by rw [Nat.zero_add,c2];rfl,f2⟩)
 have h2:=hHeld1
 clear hHeld1
 refine rda 4 ⟨none,.store 25 (.tmp 1) (.tmp 18),_,_,_,none⟩ rfl fun K hK=> ?_
 go_simp
 refine hK.out _ _ ?_ (fun hHeld3=> ?_)
 . exact ⟨(World.cell?_setCell_other _ _ _ _ (by intro e;injection e with e1;omega)).trans h2.1,World.there_setCells h2.2.1.out eb 0 [.int .i64 13],⟨13,by have:=RC.out 0 _ rfl;rw [Nat.zero_add] at this;exact this⟩,(World.frozen?_setCell _ _ _ _).trans f2⟩
 clear hK K
 try simp only [Act.put,zaa,zba,zca]
 refine wpAnyH_done kc ?_ _
 refine NoPanic.normal ?_
 generalize W2.setCell ⟨eb,0,none⟩ (.int .i64 13)=W3 at RA RC K3 |-
 clear hHeld3 h2 K1 R1 c2 f2 heq hta TF ce fe
 simp (config:={ zetaDelta:=true }) only [bodyPostS]
 exact ⟨trivial,_,rfl,_,results_none rfl _ _ _,rfl,rfl,RA.out,RC.out,K3.out⟩
structure Door (w W:World):Prop where
 f:W.there (w.heap.size+1) 0 13
 e:W.cell? ⟨w.heap.size+1+1,0,none⟩=some (.int .i64 0)
 z:W.frozen? ⟨w.heap.size+1+1,0,none⟩=false
 l:w.heap.size+1+1<W.heap.size
 b:bc w W
theorem there_kb {W W':World} {b o n x:Nat} (h:W.there b o n) (hb:Kb x W W') (l:b<W.heap.size) (ne:b≠x):W'.there b o n:=fun j hj=>by
 obtain ⟨h1,h2⟩:=h j hj
 exact ⟨by rw [World.cell?_of_block (a:=⟨b,o+j,none⟩) (hb.block b l ne)];exact h1,by rw [World.frozen?_of_block (a:=⟨b,o+j,none⟩) (hb.block b l ne)];exact h2⟩
theorem Door.kb {w W W':World} (h:Door w W) (hb:Kb (w.heap.size+1+1+1) W W'):Door w W' :=
 ⟨there_kb h.f hb (by have:=h.l;omega) (by omega),(hb.cell h.l (by omega)).trans h.e,(World.frozen?_of_block (a:=⟨w.heap.size+1+1,0,none⟩) (hb.block (w.heap.size+1+1) h.l (by omega))).trans h.z,nla h.l hb.size,
  h.b.trans ⟨hb.os,hb.tape,hb.output,hb.size,fun k hk=>hb.block k (nla hk h.b.size) (by omega)⟩⟩
theorem size_scs (W:World) (c:Nat): ∀ (vs:List Value) (o:Nat),(W.setCells c o vs).heap.size=W.heap.size:=fun vs=>by
 induction vs generalizing W with
 | nil => intro o; rfl
 | cons v r ih =>
  intro o
  rw [World.setCells,ih]
  simp
theorem Door.scs {w W:World} (h:Door w W) (vs:List Value):Door w (W.setCells (w.heap.size+1) 0 vs):=by
 have k:=kb_scs (x:=w.heap.size+1) (w:=w) (⟨h.b.os,h.b.tape,h.b.output,h.b.size,fun j hj _=>h.b.block j hj⟩:Kb (w.heap.size+1) w W) (c:=w.heap.size+1) (by omega) vs 0
 refine ⟨World.there_setCells h.f _ _ _,(cell_setCells_ne (by show w.heap.size+1+1≠_;omega)).trans h.e,(World.frozen?_setCells _ _ _ _ _).trans h.z,?_,⟨k.os,k.tape,k.output,k.size,fun j hj=>k.block j hj (by omega)⟩⟩
 rw [size_scs];exact h.l
theorem own2a (w:World) (a b c d:Obj):((((w.alloc a).alloc b).alloc c).alloc d).heap[w.heap.size+1]? =some b:=by
 have h:=own1 (w.alloc a) b
 rw [World.size_alloc] at h
 have h2:=(Go.Joins.below_alloc2 ((w.alloc a).alloc b) c d).block (w.heap.size+1) (by simp)
 exact h2.trans h
theorem own2b (w:World) (a b c d:Obj):((((w.alloc a).alloc b).alloc c).alloc d).heap[w.heap.size+1+1]? =some c:=by
 have h:=own1 ((w.alloc a).alloc b) c
 simp only [World.size_alloc] at h
 have h2:=(Go.Joins.below_alloc1 (((w.alloc a).alloc b).alloc c) d).block (w.heap.size+1+1) (by simp)
 exact h2.trans h
theorem own2c (w:World) (a b c d:Obj):((((w.alloc a).alloc b).alloc c).alloc d).heap[w.heap.size+1+1+1]? =some d:=by
 have h:=own1 (((w.alloc a).alloc b).alloc c) d
 simp only [World.size_alloc] at h
 exact h
theorem Door.made (w:World) (a d:Obj):Door w ((((w.alloc a).alloc (.cells sx1 70)).alloc (.cells #[.int .i64 0] 25)).alloc d):=by
 have h1:Blk _ _ sw1 70:=own2a w a (.cells sx1 70) (.cells #[.int .i64 0] 25) d
 have h2:Blk _ _ [.int .i64 0] 25:=own2b w a (.cells sx1 70) (.cells #[.int .i64 0] 25) d
 exact ⟨h1.there,h2.cell 0,h2.free 0,by simp,(((((Below.refl _ _).alloc (by simp) _).alloc (by simp;try omega) _).alloc (by simp;try omega) _).alloc (by simp;try omega) _)⟩
theorem range_cell {w:World} {b:Nat} {v:Value} (h:w.rangeAt b 0 [v]):w.cell? ⟨b,0,none⟩=some v:=by have:=h 0 v rfl;rwa [Nat.zero_add] at this
theorem load_errno (W:World) (b:Nat) (er:Int) (h:W.cell? ⟨b,0,none⟩=some (.int .i64 er)):(loadVar 25 ⟨b,0,none⟩).run Tryz.prog W=.ok (.int .i64 er) W:=by
 simp [loadVar,go_sem,h]
theorem results_cell2 {fn:Func} {p q:Tmp} {t1 t2:TypeId} (h:fn.results= #[.cell p t1,.cell q t2]) (tmps:Array Value) (P:Program) (w:World) (a b:Addr) (x y:Value)
 (ha:tmps.getD p undef=.pointer (some a)) (hb:tmps.getD q undef=.pointer (some b))
 (hx:(loadVar t1 a).run P w=.ok x w) (hy:(loadVar t2 b).run P w=.ok y w) :
 (results fn tmps).run P w=.ok (.tuple #[x,y]) w:=by
 simp only [results,h]
 have e1: ∀ W:World,(asAddr (Value.pointer (some a))).run P W=.ok a W:=fun _=>rfl
 have e2: ∀ W:World,(asAddr (Value.pointer (some b))).run P W=.ok b W:=fun _=>rfl
 simp at ha hb
 simp [Sem.run_bind,Result.andThen,ha,hb,e1,e2,hx,hy]
theorem read_door (w W:World) (tmps:Array Value) (h:Door w W)
 (h2:tmps.getD 2 undef=.pointer (some ⟨w.heap.size+1,0,none⟩)) (h3:tmps.getD 3 undef=.pointer (some ⟨w.heap.size+1+1,0,none⟩)) :
 bodyPostD Tryz.prog Tryz.f19 ((re (.tuple #[Cl.zero.val,.int .i64 13]) w)) (Exit.panic [refv])
  { tmps:=tmps,defers:=[{ target:=Target.fn (Fn.func 30) #[.pointer (some ⟨w.heap.size+1,0,none⟩),.pointer (some ⟨w.heap.size+1+1,0,none⟩)],args:= #[] }] } W:=by
 refine leaves_cons (f:=30) (args:= #[.pointer (some ⟨w.heap.size+1,0,none⟩),.pointer (some ⟨w.heap.size+1+1,0,none⟩)]) (by simp) (by simp [go_sem]) ?_
 refine (catch_ref (w.heap.size+1) (w.heap.size+1+1) W h.f h.e h.z (by have:=h.l;omega) h.l (by omega)).mono ?_
 rintro e u' w'' ⟨rfl,rfl,r1,r2,hk⟩
 have hb:bc w w'':=h.b.trans ⟨hk.os,hk.tape,hk.output,hk.size,fun k l=>hk.block k (nla l h.b.size) (by omega) (by omega)⟩
 have hr:(results Tryz.f19 tmps).run Tryz.prog w''=.ok (.tuple #[Cl.zero.val,.int .i64 13]) w'' :=
  results_cell2 Tryz.results19 tmps Tryz.prog w'' _ _ _ _ h2 h3 (run_loadVar_mid w'' _ 0 70 sw1 _ r1 Tryz.underlying70 rfl call_info) (load_errno w'' _ 13 (range_cell r2))
 exact ⟨_,hr,rfl,hb⟩
theorem read_end (w X:World) (vs:List Value) (hl:vs.length=13) (tmps:Array Value) (R:Ending->World->Prop)
 (h2:tmps.getD 2 undef=.pointer (some ⟨w.heap.size+1,0,none⟩)) (h3:tmps.getD 3 undef=.pointer (some ⟨w.heap.size+1+1,0,none⟩))
 (r1:X.rangeAt (w.heap.size+1) 0 vs) (r2:X.cell? ⟨w.heap.size+1+1,0,none⟩=some (.int .i64 0))
 (hR:R (.returned (.tuple #[.agg vs.toArray,.int .i64 0])) X) :
 bodyPostD Tryz.prog Tryz.f19 R Exit.ret { tmps:=tmps,defers:=[{ target:=Target.fn (Fn.func 30) #[.pointer (some ⟨w.heap.size+1,0,none⟩),.pointer (some ⟨w.heap.size+1+1,0,none⟩)],args:= #[] }] } X:=by
 refine leaves_cons (f:=30) (args:= #[.pointer (some ⟨w.heap.size+1,0,none⟩),.pointer (some ⟨w.heap.size+1+1,0,none⟩)]) (by simp) (by simp [go_sem]) ?_
 refine (catch_idle _ _ _).mono ?_
 rintro e u' w'' ⟨rfl,rfl,rfl⟩
 exact ⟨_,results_cell2 Tryz.results19 tmps Tryz.prog w'' _ _ _ _ h2 h3 (run_loadVar_mid w'' _ 0 70 vs _ r1 Tryz.underlying70 rfl (by rw [hl];exact call_info)) (load_errno w'' _ 0 r2),hR⟩
theorem read_no1 (W:Wd) (hw:W.wf) (hc:callV W=none) (w:World):Calls Tryz.prog 19 #[W.val] w (re (.tuple #[Cl.zero.val,.int .i64 13]) w):=by
 have CA:Hid (∀ (b:Nat) (w:World),IsR w b W 0->Calls Tryz.prog 31 #[.pointer (some ⟨b,0,none⟩)] w fun e w'=>e=.panicked [refv]/\Kb b w w'):=fun b w h=>call_none b W hw hc w h
 clear hw hc
 have hmf: ∀ (fn:Fn) (first cap:Array Value) (w:World),(Instr.makeFunc fn first cap).run Tryz.prog w=.ok (.func fn first cap) w:=fun _ _ _ _=>rfl
 obtain ⟨x0,x1,x2,x3,x4,x5⟩:=W
 have R0:Hid (IsR ((((w.alloc (.cells (sf1 x0 x1 x2 x3 x4 x5) 30)).alloc (.cells sx1 70)).alloc (.cells #[.int .i64 0] 25)).alloc (.cells (sg1 x0 x1 x2 x3 x4 x5 0) 103)) (w.heap.size+1+1+1) ⟨x0,x1,x2,x3,x4,x5⟩ 0):=own2c w _ _ _ _
 have D0:Hid (Door w ((((w.alloc (.cells (sf1 x0 x1 x2 x3 x4 x5) 30)).alloc (.cells sx1 70)).alloc (.cells #[.int .i64 0] 25)).alloc (.cells (sg1 x0 x1 x2 x3 x4 x5 0) 103))):=Door.made w _ _
 go_enter_defers Tryz.func19,Tryz.ntmps19
 go_wp2_with fail
 refine (CA.out _ _ R0.out).mono ?_
 rintro e u1 ⟨rfl,k1⟩
 exact read_door w _ _ (D0.out.kb k1) rfl rfl
theorem read_no2 (W:Wd) (hw:W.wf) (c:Cl) (n:Nat) (hc:callV W=some (c,n)) (hn:n<6) (hz: ¬ restZ W n) (w:World):Calls Tryz.prog 19 #[W.val] w (re (.tuple #[Cl.zero.val,.int .i64 13]) w):=by
 have CA:Hid (∀ (b:Nat) (w:World),IsR w b W 0->Calls Tryz.prog 31 #[.pointer (some ⟨b,0,none⟩)] w fun e w'=>e=.returned c.val/\IsR w' b W n/\Kb b w w'):=fun b w h=>call_some b W hw c n hc w h
 have EN:Hid (∀ (b:Nat) (w:World),IsR w b W n->Calls Tryz.prog 32 #[.pointer (some ⟨b,0,none⟩)] w fun e w'=>e=.panicked [refv]/\Kb b w w'):=fun b w h=>end_no b W hw n hn hz w h
 clear hw hc hz
 obtain ⟨c0,c1,c2,c3,c4,c5,c6,c7,c8,c9,c10,c11,c12⟩:=c
 have hmf: ∀ (fn:Fn) (first cap:Array Value) (w:World),(Instr.makeFunc fn first cap).run Tryz.prog w=.ok (.func fn first cap) w:=fun _ _ _ _=>rfl
 obtain ⟨x0,x1,x2,x3,x4,x5⟩:=W
 have R0:Hid (IsR ((((w.alloc (.cells (sf1 x0 x1 x2 x3 x4 x5) 30)).alloc (.cells sx1 70)).alloc (.cells #[.int .i64 0] 25)).alloc (.cells (sg1 x0 x1 x2 x3 x4 x5 0) 103)) (w.heap.size+1+1+1) ⟨x0,x1,x2,x3,x4,x5⟩ 0):=own2c w _ _ _ _
 have D0:Hid (Door w ((((w.alloc (.cells (sf1 x0 x1 x2 x3 x4 x5) 30)).alloc (.cells sx1 70)).alloc (.cells #[.int .i64 0] 25)).alloc (.cells (sg1 x0 x1 x2 x3 x4 x5 0) 103))):=Door.made w _ _
 go_enter_defers Tryz.func19,Tryz.ntmps19
 go_wp2_with fail
 refine (CA.out _ _ R0.out).mono ?_
 rintro e u1 ⟨rfl,h1,k1⟩
 have A1:Hid (IsR u1 (w.heap.size+1+1+1) ⟨x0,x1,x2,x3,x4,x5⟩ n):=h1
 have D1:Hid (Door w u1):=D0.out.kb k1
 clear h1 k1 R0 D0
 rename_i hcont
 refine hcont _ _ ?_
 refine store_pat (w.heap.size+1) 0 (sq c0 c1 c2 c3 c4 c5 c6 c7 c8 c9 c10 c11 c12) rfl rfl D1.out.f call_info kq1 ?_
 have A2:Hid (IsR (u1.setCells (w.heap.size+1) 0 ((sq c0 c1 c2 c3 c4 c5 c6 c7 c8 c9 c10 c11 c12):Array Value).toList) (w.heap.size+1+1+1) ⟨x0,x1,x2,x3,x4,x5⟩ n):=A1.out.scs (by omega) _ _
 have D2:Hid (Door w (u1.setCells (w.heap.size+1) 0 ((sq c0 c1 c2 c3 c4 c5 c6 c7 c8 c9 c10 c11 c12):Array Value).toList)):=D1.out.scs _
 have G2:Hid ((u1.setCells (w.heap.size+1) 0 ((sq c0 c1 c2 c3 c4 c5 c6 c7 c8 c9 c10 c11 c12):Array Value).toList).rangeAt (w.heap.size+1) 0 (su c0 c1 c2 c3 c4 c5 c6 c7 c8 c9 c10 c11 c12)):=World.rangeAt_setCells_same _ _ 0 _ D1.out.f
 generalize u1.setCells (w.heap.size+1) 0 ((sq c0 c1 c2 c3 c4 c5 c6 c7 c8 c9 c10 c11 c12):Array Value).toList=V at A2 D2 G2 |-
 clear A1 D1
 go_wp2_with fail
 refine (EN.out _ _ A2.out).mono ?_
 rintro e u2 ⟨rfl,k1⟩
 exact read_door w _ _ (D2.out.kb k1) rfl rfl
theorem read_ok (W:Wd) (hw:W.wf) (c:Cl) (n:Nat) (hc:callV W=some (c,n)) (hn:n<6) (hz:restZ W n) (w:World):Calls Tryz.prog 19 #[W.val] w (re (.tuple #[c.val,.int .i64 0]) w):=by
 have CA:Hid (∀ (b:Nat) (w:World),IsR w b W 0->Calls Tryz.prog 31 #[.pointer (some ⟨b,0,none⟩)] w fun e w'=>e=.returned c.val/\IsR w' b W n/\Kb b w w'):=fun b w h=>call_some b W hw c n hc w h
 have EN:Hid (∀ (b:Nat) (w:World),IsR w b W n->Calls Tryz.prog 32 #[.pointer (some ⟨b,0,none⟩)] w fun e w'=>e=.returned (.tuple #[])/\Kb b w w'):=fun b w h=>end_yes b W n hn hz w h
 clear hw hc hz
 obtain ⟨c0,c1,c2,c3,c4,c5,c6,c7,c8,c9,c10,c11,c12⟩:=c
 have hmf: ∀ (fn:Fn) (first cap:Array Value) (w:World),(Instr.makeFunc fn first cap).run Tryz.prog w=.ok (.func fn first cap) w:=fun _ _ _ _=>rfl
 obtain ⟨x0,x1,x2,x3,x4,x5⟩:=W
 have R0:Hid (IsR ((((w.alloc (.cells (sf1 x0 x1 x2 x3 x4 x5) 30)).alloc (.cells sx1 70)).alloc (.cells #[.int .i64 0] 25)).alloc (.cells (sg1 x0 x1 x2 x3 x4 x5 0) 103)) (w.heap.size+1+1+1) ⟨x0,x1,x2,x3,x4,x5⟩ 0):=own2c w _ _ _ _
 have D0:Hid (Door w ((((w.alloc (.cells (sf1 x0 x1 x2 x3 x4 x5) 30)).alloc (.cells sx1 70)).alloc (.cells #[.int .i64 0] 25)).alloc (.cells (sg1 x0 x1 x2 x3 x4 x5 0) 103))):=Door.made w _ _
 go_enter_defers Tryz.func19,Tryz.ntmps19
 go_wp2_with fail
 refine (CA.out _ _ R0.out).mono ?_
 rintro e u1 ⟨rfl,h1,k1⟩
 have A1:Hid (IsR u1 (w.heap.size+1+1+1) ⟨x0,x1,x2,x3,x4,x5⟩ n):=h1
 have D1:Hid (Door w u1):=D0.out.kb k1
 clear h1 k1 R0 D0
 rename_i hcont
 refine hcont _ _ ?_
 refine store_pat (w.heap.size+1) 0 (sq c0 c1 c2 c3 c4 c5 c6 c7 c8 c9 c10 c11 c12) rfl rfl D1.out.f call_info kq1 ?_
 have A2:Hid (IsR (u1.setCells (w.heap.size+1) 0 ((sq c0 c1 c2 c3 c4 c5 c6 c7 c8 c9 c10 c11 c12):Array Value).toList) (w.heap.size+1+1+1) ⟨x0,x1,x2,x3,x4,x5⟩ n):=A1.out.scs (by omega) _ _
 have D2:Hid (Door w (u1.setCells (w.heap.size+1) 0 ((sq c0 c1 c2 c3 c4 c5 c6 c7 c8 c9 c10 c11 c12):Array Value).toList)):=D1.out.scs _
 have G2:Hid ((u1.setCells (w.heap.size+1) 0 ((sq c0 c1 c2 c3 c4 c5 c6 c7 c8 c9 c10 c11 c12):Array Value).toList).rangeAt (w.heap.size+1) 0 (su c0 c1 c2 c3 c4 c5 c6 c7 c8 c9 c10 c11 c12)):=World.rangeAt_setCells_same _ _ 0 _ D1.out.f
 generalize u1.setCells (w.heap.size+1) 0 ((sq c0 c1 c2 c3 c4 c5 c6 c7 c8 c9 c10 c11 c12):Array Value).toList=V at A2 D2 G2 |-
 clear A1 D1
 go_wp2_with fail
 refine (EN.out _ _ A2.out).mono ?_
 rintro e u2 ⟨rfl,k1⟩
 have D3:Hid (Door w u2):=D2.out.kb k1
 have G3:Hid (u2.rangeAt (w.heap.size+1) 0 (su c0 c1 c2 c3 c4 c5 c6 c7 c8 c9 c10 c11 c12)):=fun j v hv=>(k1.cell (by have:=D2.out.l;omega) (by omega)).trans (G2.out j v hv)
 clear k1 A2 D2 G2
 go_upto_region 5 with fail
 refine wp_region_lit ?_
 refine load_pat (w.heap.size+1) 0 (su c0 c1 c2 c3 c4 c5 c6 c7 c8 c9 c10 c11 c12) _ rfl G3.out Tryz.underlying70 rfl call_info ?_
 refine store_pat (w.heap.size+1) 0 (sq c0 c1 c2 c3 c4 c5 c6 c7 c8 c9 c10 c11 c12) rfl rfl D3.out.f call_info kq1 ?_
 have D4:Hid (Door w (u2.setCells (w.heap.size+1) 0 ((sq c0 c1 c2 c3 c4 c5 c6 c7 c8 c9 c10 c11 c12):Array Value).toList)):=D3.out.scs _
 have G4:Hid ((u2.setCells (w.heap.size+1) 0 ((sq c0 c1 c2 c3 c4 c5 c6 c7 c8 c9 c10 c11 c12):Array Value).toList).rangeAt (w.heap.size+1) 0 (su c0 c1 c2 c3 c4 c5 c6 c7 c8 c9 c10 c11 c12)):=World.rangeAt_setCells_same _ _ 0 _ D3.out.f
 generalize u2.setCells (w.heap.size+1) 0 ((sq c0 c1 c2 c3 c4 c5 c6 c7 c8 c9 c10 c11 c12):Array Value).toList=V4 at D4 G4 |-
 clear D3 G3
 have ce:V4.cell? ⟨w.heap.size+1+1,0,none⟩=some (.int .i64 0):=D4.out.e
 have cz:V4.frozen? ⟨w.heap.size+1+1,0,none⟩=false:=D4.out.z
 have cl:w.heap.size+1+1<V4.heap.size:=D4.out.l
 have G5:Hid ((V4.setCell ⟨w.heap.size+1+1,0,none⟩ (.int .i64 0)).rangeAt (w.heap.size+1) 0 (su c0 c1 c2 c3 c4 c5 c6 c7 c8 c9 c10 c11 c12)):=World.rangeAt_setCells_apart G4.out (w.heap.size+1+1) 0 [.int .i64 0] (Or.inl (by omega))
 have E5:Hid ((V4.setCell ⟨w.heap.size+1+1,0,none⟩ (.int .i64 0)).cell? ⟨w.heap.size+1+1,0,none⟩=some (.int .i64 0)):=(range_cell (World.rangeAt_setCells_same V4 (w.heap.size+1+1) 0 [.int .i64 0] (fun j hj=>by
  obtain rfl:j=0:=by simp at hj;omega
  exact ⟨by rw [Nat.zero_add,ce];rfl,cz⟩)))
 have L5:Hid (bc w (V4.setCell ⟨w.heap.size+1+1,0,none⟩ (.int .i64 0))):=D4.out.b.setCell (by show w.heap.size<=w.heap.size+1+1;omega) _
 go_wp2_with fail
 exact read_end w _ (su c0 c1 c2 c3 c4 c5 c6 c7 c8 c9 c10 c11 c12) rfl _ _ rfl rfl G5.out E5.out ⟨rfl,L5.out⟩
end Go.Proofs.YtokpmclmdobgeaaGreat.Ca
