import Derived.Test.YtlaiadheelgbdaaGreatFUc
import Derived.Test.YtlaiadheelgbdaaGreatKZc
import Derived.Test.YtlaiadheelgbdaaGreatMDc
namespace Go.Proofs.YtlaiadheelgbdaaGreat.Fl
open Go.ChangeShapes Go.WideShapes Go.ChangeAt Go.RowKit Go.Maps
set_option linter.unusedSimpArgs false
set_option linter.unusedVariables false
set_option maxRecDepth 8000
def kidT (T:Nat->Qo.Nd) (q:Int):Nat->Qo.Nd:=Qo.putT (Qo.putT T 1 (Qo.Nd.new 0 q)) 0 ((T 0).lend q)
theorem kid_nums {T:Nat->Qo.Nd} {q:Int} (l0:(T 0).live=true) (l1:(T 1).live=false) (q0:0<=q) (hr:q<=(T 0).room):Qo.childN T 0 q=0/\Qo.childI T 0 q=1/\Qo.childT T 0 q=kidT T q:=by
 have f1:Qo.freeN T=1:=Qo.idxF_hit (fun j=> !(T j).live) 64 0 1 (by omega) (by omega) (by simp [l1]) (fun j a b=>by
  have:j=0:=by omega
  subst this;simp [l0])
 have g:Qo.getN T 0=T 0:=by unfold Qo.getN;rw [if_pos ⟨by omega,by omega⟩];rfl
 have m:Qo.mayN T 0 q=0:=by
  unfold Qo.mayN
  rw [g,if_neg (by rw [l0];simp),if_neg (by omega),if_neg (by omega)]
 have n:Qo.childN T 0 q=0:=by unfold Qo.childN;rw [if_pos m,f1,if_neg (by omega)]
 refine ⟨n,?_,?_⟩
 . unfold Qo.childI;rw [if_pos n,f1]
 . unfold Qo.childT;rw [if_pos n,f1];rfl
structure F0 (n:Nat) (W:World) (mb tq tb pm:Nat) (Q:Ca.Qu) (T:Nat->Qo.Nd) (root:Int):Prop where
 mod:Md W mb tq tb pm
 que:Ca.IsQ W tq Q
 tre:Qo.IsTree W tb T
 goo:Qo.Good T root
 prm:MapF W pm n (fun _=>none)
 ne:mb≠tq/\mb≠tb/\mb≠pm/\tq≠tb/\tq≠pm/\tb≠pm
theorem F0.below {n:Nat} {W W':World} {mb tq tb pm:Nat} {Q:Ca.Qu} {T:Nat->Qo.Nd} {root:Int} (h:F0 n W mb tq tb pm Q T root) (hb:Below W.heap.size W W'):F0 n W' mb tq tb pm Q T root :=
 ⟨h.mod.below hb,h.que.below hb,h.tre.below hb,h.goo,h.prm.block (hb.block _ h.prm.lt),h.ne⟩
theorem que_lt {W:World} {b:Nat} {S:Ca.Qu} (h:Ca.IsQ W b S):b<W.heap.size:=Ca.blk_lt h.blk
set_option maxHeartbeats 1000000 in
theorem unused_none {n:Nat} {W:World} {mb tq tb pm:Nat} (hm:Md W mb tq tb pm) (hp:MapF W pm n (fun _=>none)) :
 Calls Tryz.prog 32 #[pp mb] W fun e w'=>e=.returned (.int .i64 0)/\w'=W:=by
 have lk:(Instr.lookup 32 (.map (some pm)) (.int .i64 0) false).run Tryz.prog W=.ok (.pointer none) W:=hp.look (k:=0) (by decide)
 have c3:W.cell? ⟨mb,1538,none⟩=some (.map (some pm)):=hm.2.2.1
 clear hm hp
 go_enter Tryz.func32,Tryz.ntmps32
 go_wp2_with fail
 refine wp_loop_rounds 3 ?_
 rw [rounds_succ]
 go_wp2_with fail
 go_returns
 exact ⟨rfl,rfl⟩
def own7 (mb tq tb pm pb lb wb:Nat):Nat->Nat:=fun j=>if j=mb then 1 else if j=tq then 2 else if j=tb then 3 else if j=pm then 4 else if j=pb then 5 else if j=lb then 7 else if j=wb then 8 else 0
set_option maxHeartbeats 4000000 in
theorem begin_ok {n:Nat} {W:World} {mb tq tb pm:Nat} {T:Nat->Qo.Nd} {root:Int} (qq:Int) (h:F0 n W mb tq tb pm ⟨qq,0,[]⟩ T root) (gq:Ca.Good ⟨qq,0,[]⟩) (t0:(T 0).live=true) (t1:(T 1).live=false) (q:Int) (q1:1<=q) (hq:q<=(T 0).room) (hn:n<1000) :
 Calls Tryz.prog 21 #[pp mb,.int .i64 0,.int .i64 0,.int .i64 q] W fun e w'=>e=.returned (.tuple #[.int .i64 0,.int .i64 0])/\ ∃ (O:Nat->Nat) (M:Fb) (T':Nat->Qo.Nd),M.mb=mb/\Fm O (n+1) w' M ⟨qq,0,[0]⟩ T' root ⟨1,none,0,[],fun _=>none,fun _ _=>0,fun _ _=>none⟩/\(T' 1).live=true/\(T' 1).used=1/\(T' 1).room=q-1/\(∀ j,j<W.heap.size->j≠mb->j≠tq->j≠tb->j≠pm->O j=0)/\Kept (fun j=>j≠mb/\j≠tq/\j≠tb/\j≠pm/\j<W.heap.size) W w':=by
 obtain ⟨cn,ci,ct⟩:=kid_nums t0 t1 (q:=q) (by omega) hq
 have k1:kidT T q 1=Qo.Nd.new 0 q:=by unfold kidT;rw [Qo.put_other _ _ _ _ (by omega),Qo.put_same]
 have g1:Qo.getN (kidT T q) 1=Qo.Nd.new 0 q:=by unfold Qo.getN;rw [if_pos ⟨by omega,by omega⟩];exact k1
 have m1:Qo.mayN (kidT T q) 1 1=0:=by
  unfold Qo.mayN
  rw [g1,if_neg (by simp [Qo.Nd.new]),if_neg (by omega),if_neg (by simp [Qo.Nd.new,Qo.Nd.room];omega)]
 have goo1:Qo.Good (kidT T q) root:=by have:=h.goo.child 0 q;rw [ct] at this;exact this
 obtain ⟨T',hT'⟩: ∃ T',T'=Qo.chargeT (kidT T q) 1 1:=⟨_,rfl⟩
 have TT:Hid (Qo.Good T' root/\(T' 1).live=true/\(T' 1).used=1/\(T' 1).room=q-1):=by
  rw [hT']
  refine ⟨goo1.charge _ _,?_⟩
  have e:Qo.chargeT (kidT T q) 1 1 1=(Qo.Nd.new 0 q).plus 1:=by
   unfold Qo.chargeT
   rw [if_pos m1]
   show Qo.putT (kidT T q) 1 ((kidT T q 1).plus 1) 1=_
   rw [Qo.put_same,k1]
  rw [e]
  exact ⟨rfl,rfl,by show q-(0+1)-0=q-1;omega⟩
 have UC:Hid _:=unused_none h.mod h.prm
 have CC:Hid (Calls Tryz.prog 33 #[pp tb,.int .i64 0,.int .i64 q] W fun e w'=>e=.returned (.tuple #[.int .i64 1,.int .i64 0])/\Qo.IsTree w' tb (kidT T q)/\W.grownBy w' (some tb)):=by
  have r:=Qo.child_any tb T h.goo.okT 0 q W h.tre
  rw [cn,ci,ct] at r;exact r
 have HC:Hid (∀ w:World,Qo.IsTree w tb (kidT T q)->Calls Tryz.prog 20 #[pp tb,.int .i64 1,.int .i64 1] w fun e w'=>e=.returned (.int .i64 0)/\Qo.IsTree w' tb T'/\w.grownBy w' (some tb)):=fun w hw=>by
  have r:=Qo.charge_any tb (kidT T q) goo1.okT 1 1 w hw
  rw [m1,<- hT'] at r;exact r
 have AC:Hid (∀ w:World,Ca.IsQ w tq ⟨qq,0,[]⟩->Calls Tryz.prog 35 #[pp tq,.int .i64 0] w fun e w'=>e=.returned (.int .i64 0)/\Ca.IsQ w' tq ⟨qq,0,[0]⟩/\Ca.Kb tq w w'):=fun w hw=>Ca.add_any tq ⟨qq,0,[]⟩ 0 gq w hw
 have HM:Hid (F0 n W mb tq tb pm ⟨qq,0,[]⟩ T root):=h
 have HN:Hid (n<1000):=hn
 have m1b:W.cell? ⟨mb,1,none⟩=some (pp tb):=h.mod.2.1
 clear h gq t0 t1 q1 hq cn ci ct k1 g1 m1 goo1 hT' hn
 go_enter Tryz.func21,Tryz.ntmps21
 go_wp2_with fail
 refine Calls.mono UC.out ?_
 rintro e W' ⟨rfl,hu⟩
 have hu2:=hu.symm
 subst hu2
 clear hu UC
 go_wp2_with fail
 refine Calls.mono CC.out ?_
 rintro e u1 ⟨rfl,hT1,hg1⟩
 have E1:Hid (Qo.IsTree u1 tb (kidT T q)/\W.grownBy u1 (some tb)):=⟨hT1,hg1⟩
 have m1c:u1.cell? ⟨mb,1,none⟩=some (pp tb):=(World.cell?_of_block (hg1.block mb HM.out.mod.2.2.2 (fun e=>HM.out.ne.2.1 (Option.some.inj e)))).trans HM.out.mod.2.1
 clear hT1 hg1 CC m1b
 go_wp2_with fail
 refine Calls.mono (HC.out _ E1.out.1) ?_
 rintro e u2 ⟨rfl,hT2,hg2⟩
 have E2:Hid (Qo.IsTree u2 tb T'/\W.grownBy u2 (some tb)):=⟨hT2,grown_trans E1.out.2 hg2⟩
 clear hT2 hg2 HC m1c E1
 have kb: ∀ j,j<W.heap.size->j≠tb->u2.heap[j]? =W.heap[j]? :=fun j hj hne=>E2.out.2.block j hj (fun e=>hne (Option.some.inj e))
 have pm2:MapF u2 pm n (fun _=>none):=HM.out.prm.block (kb pm HM.out.prm.lt (fun e=>HM.out.ne.2.2.2.2.2 e.symm))
 have md2:Md u2 mb tq tb pm:=HM.out.mod.block E2.out.2.size (kb mb HM.out.mod.2.2.2 HM.out.ne.2.1)
 have qu2:Ca.IsQ u2 tq ⟨qq,0,[]⟩:=HM.out.que.kept fun _=>kb tq (que_lt HM.out.que) HM.out.ne.2.2.2.1
 have s1:(u2.alloc (.map #[] 0)).heap.size=u2.heap.size+1:=World.size_alloc _ _
 have s2:((u2.alloc (.map #[] 0)).alloc (.map #[] 0)).heap.size=u2.heap.size+1+1:=by rw [World.size_alloc,s1]
 have ba:Below u2.heap.size u2 (((u2.alloc (.map #[] 0)).alloc (.map #[] 0)).alloc (.cells #[.int .i64 0,.int .i64 1,.int .u64 0,.int .u64 0,.int .u64 0,.int .u64 0,.int .i64 0,.int .u64 0,.bool false,.int .u64 0,.int .i64 0,.int .u64 0,.int .u64 0,.int .u64 0,.int .u64 0,.slice none 0 0,.map (some u2.heap.size),.map (some (u2.heap.size+1))] 77)):=below_then (below_then (Go.Joins.below_alloc1 _ _) (Go.Joins.below_alloc1 (u2.alloc (.map #[] 0)) _)) (Go.Joins.below_alloc1 ((u2.alloc (.map #[] 0)).alloc (.map #[] 0)) _)
 have b1:Below (u2.alloc (.map #[] 0)).heap.size (u2.alloc (.map #[] 0)) (((u2.alloc (.map #[] 0)).alloc (.map #[] 0)).alloc (.cells #[.int .i64 0,.int .i64 1,.int .u64 0,.int .u64 0,.int .u64 0,.int .u64 0,.int .i64 0,.int .u64 0,.bool false,.int .u64 0,.int .i64 0,.int .u64 0,.int .u64 0,.int .u64 0,.int .u64 0,.slice none 0 0,.map (some u2.heap.size),.map (some (u2.heap.size+1))] 77)):=below_then (Go.Joins.below_alloc1 (u2.alloc (.map #[] 0)) _) (Go.Joins.below_alloc1 ((u2.alloc (.map #[] 0)).alloc (.map #[] 0)) _)
 have b2:Below ((u2.alloc (.map #[] 0)).alloc (.map #[] 0)).heap.size ((u2.alloc (.map #[] 0)).alloc (.map #[] 0)) (((u2.alloc (.map #[] 0)).alloc (.map #[] 0)).alloc (.cells #[.int .i64 0,.int .i64 1,.int .u64 0,.int .u64 0,.int .u64 0,.int .u64 0,.int .i64 0,.int .u64 0,.bool false,.int .u64 0,.int .i64 0,.int .u64 0,.int .u64 0,.int .u64 0,.int .u64 0,.slice none 0 0,.map (some u2.heap.size),.map (some (u2.heap.size+1))] 77)):=Go.Joins.below_alloc1 _ _
 have ml:MapL (((u2.alloc (.map #[] 0)).alloc (.map #[] 0)).alloc (.cells #[.int .i64 0,.int .i64 1,.int .u64 0,.int .u64 0,.int .u64 0,.int .u64 0,.int .i64 0,.int .u64 0,.bool false,.int .u64 0,.int .i64 0,.int .u64 0,.int .u64 0,.int .u64 0,.int .u64 0,.slice none 0 0,.map (some u2.heap.size),.map (some (u2.heap.size+1))] 77)) u2.heap.size 0 (fun _=>none):=(MapL.made u2).block (b1.block _ (by rw [s1];omega))
 have mw:MapW (((u2.alloc (.map #[] 0)).alloc (.map #[] 0)).alloc (.cells #[.int .i64 0,.int .i64 1,.int .u64 0,.int .u64 0,.int .u64 0,.int .u64 0,.int .i64 0,.int .u64 0,.bool false,.int .u64 0,.int .i64 0,.int .u64 0,.int .u64 0,.int .u64 0,.int .u64 0,.slice none 0 0,.map (some u2.heap.size),.map (some (u2.heap.size+1))] 77)) (u2.heap.size+1) 0 (fun _ _=>none):=by
  have r:=(MapW.made (u2.alloc (.map #[] 0))).block (b2.block _ (by rw [s2,s1];omega))
  rw [s1] at r;exact r
 have bp:Blk (((u2.alloc (.map #[] 0)).alloc (.map #[] 0)).alloc (.cells #[.int .i64 0,.int .i64 1,.int .u64 0,.int .u64 0,.int .u64 0,.int .u64 0,.int .i64 0,.int .u64 0,.bool false,.int .u64 0,.int .i64 0,.int .u64 0,.int .u64 0,.int .u64 0,.int .u64 0,.slice none 0 0,.map (some u2.heap.size),.map (some (u2.heap.size+1))] 77)) (u2.heap.size+1+1) [.int .i64 0,.int .i64 1,.int .u64 0,.int .u64 0,.int .u64 0,.int .u64 0,.int .i64 0,.int .u64 0,.bool false,.int .u64 0,.int .i64 0,.int .u64 0,.int .u64 0,.int .u64 0,.int .u64 0,.slice none 0 0,.map (some u2.heap.size),.map (some (u2.heap.size+1))] 77:=by rw [<- s2];exact Blk.made _ _ _
 have pm3:MapF (((u2.alloc (.map #[] 0)).alloc (.map #[] 0)).alloc (.cells #[.int .i64 0,.int .i64 1,.int .u64 0,.int .u64 0,.int .u64 0,.int .u64 0,.int .i64 0,.int .u64 0,.bool false,.int .u64 0,.int .i64 0,.int .u64 0,.int .u64 0,.int .u64 0,.int .u64 0,.slice none 0 0,.map (some u2.heap.size),.map (some (u2.heap.size+1))] 77)) pm n (fun _=>none):=pm2.block (ba.block _ pm2.lt)
 obtain ⟨u4,upd,pm4,hg4⟩:=pm3.set (k:=0) (by have:=HN.out;unfold maxLen;omega) (by decide) (u2.heap.size+1+1)
 have upd:(Instr.mapUpdate 32 (.map (some pm)) (.int .i64 0) (.pointer (some ⟨u2.heap.size+1+1,0,none⟩))).run Tryz.prog (((u2.alloc (.map #[] 0)).alloc (.map #[] 0)).alloc (.cells #[.int .i64 0,.int .i64 1,.int .u64 0,.int .u64 0,.int .u64 0,.int .u64 0,.int .i64 0,.int .u64 0,.bool false,.int .u64 0,.int .i64 0,.int .u64 0,.int .u64 0,.int .u64 0,.int .u64 0,.slice none 0 0,.map (some u2.heap.size),.map (some (u2.heap.size+1))] 77))=.ok () u4:=upd
 have m4:(((u2.alloc (.map #[] 0)).alloc (.map #[] 0)).alloc (.cells #[.int .i64 0,.int .i64 1,.int .u64 0,.int .u64 0,.int .u64 0,.int .u64 0,.int .i64 0,.int .u64 0,.bool false,.int .u64 0,.int .i64 0,.int .u64 0,.int .u64 0,.int .u64 0,.int .u64 0,.slice none 0 0,.map (some u2.heap.size),.map (some (u2.heap.size+1))] 77)).cell? ⟨mb,1538,none⟩=some (.map (some pm)):=(md2.below ba).2.2.1
 have m2:u2.cell? ⟨mb,1538,none⟩=some (.map (some pm)):=md2.2.2.1
 have sz3:(((u2.alloc (.map #[] 0)).alloc (.map #[] 0)).alloc (.cells #[.int .i64 0,.int .i64 1,.int .u64 0,.int .u64 0,.int .u64 0,.int .u64 0,.int .i64 0,.int .u64 0,.bool false,.int .u64 0,.int .i64 0,.int .u64 0,.int .u64 0,.int .u64 0,.int .u64 0,.slice none 0 0,.map (some u2.heap.size),.map (some (u2.heap.size+1))] 77)).heap.size=u2.heap.size+1+1+1:=by rw [World.size_alloc,s2]
 have k4: ∀ j,j<(((u2.alloc (.map #[] 0)).alloc (.map #[] 0)).alloc (.cells #[.int .i64 0,.int .i64 1,.int .u64 0,.int .u64 0,.int .u64 0,.int .u64 0,.int .i64 0,.int .u64 0,.bool false,.int .u64 0,.int .i64 0,.int .u64 0,.int .u64 0,.int .u64 0,.int .u64 0,.slice none 0 0,.map (some u2.heap.size),.map (some (u2.heap.size+1))] 77)).heap.size->j≠pm->u4.heap[j]? =(((u2.alloc (.map #[] 0)).alloc (.map #[] 0)).alloc (.cells #[.int .i64 0,.int .i64 1,.int .u64 0,.int .u64 0,.int .u64 0,.int .u64 0,.int .i64 0,.int .u64 0,.bool false,.int .u64 0,.int .i64 0,.int .u64 0,.int .u64 0,.int .u64 0,.int .u64 0,.slice none 0 0,.map (some u2.heap.size),.map (some (u2.heap.size+1))] 77)).heap[j]? :=fun j hj hne=>hg4.block j hj (fun e=>hne (Option.some.inj e))
 have lpm:pm<u2.heap.size:=pm2.lt
 have lmb:mb<u2.heap.size:=md2.2.2.2
 have ltq:tq<u2.heap.size:=que_lt qu2
 have ltb:tb<u2.heap.size:=E2.out.1.2.2
 have ez:=hg4.size
 have G4:Hid ((MapF u4 pm (n+1) (put (fun _=>none) 0 (some (u2.heap.size+1+1)))/\Md u4 mb tq tb pm/\Ca.IsQ u4 tq ⟨qq,0,[]⟩/\Qo.IsTree u4 tb T')/\(MapL u4 u2.heap.size 0 (fun _=>none)/\MapW u4 (u2.heap.size+1) 0 (fun _ _=>none)/\Blk u4 (u2.heap.size+1+1) [.int .i64 0,.int .i64 1,.int .u64 0,.int .u64 0,.int .u64 0,.int .u64 0,.int .i64 0,.int .u64 0,.bool false,.int .u64 0,.int .i64 0,.int .u64 0,.int .u64 0,.int .u64 0,.int .u64 0,.slice none 0 0,.map (some u2.heap.size),.map (some (u2.heap.size+1))] 77)/\(W.heap.size<=u2.heap.size/\u2.heap.size+1+1<u4.heap.size)/\Kept (fun j=>j≠tb/\j≠pm/\j<W.heap.size) W u4):=by
  have ne:=HM.out.ne
  refine ⟨⟨pm4,(md2.below ba).block ez (k4 mb (by omega) ne.2.2.1),(qu2.below ba).kept fun _=>k4 tq (by omega) ne.2.2.2.2.1,tree_block (E2.out.1.below ba) ez (k4 tb (by omega) ne.2.2.2.2.2)⟩,⟨ml.block (k4 _ (by omega) (by omega)),mw.block (k4 _ (by omega) (by omega)),(k4 _ (by omega) (by omega)).trans bp⟩,⟨E2.out.2.size,by omega⟩,?_⟩
  refine Kept.trans (kept_grown E2.out.2 fun j hj=>⟨hj.1,hj.2.2⟩) (Kept.trans (kept_of_below ba fun j hj=>Nat.lt_of_lt_of_le hj.2.2 E2.out.2.size) (kept_grown hg4 fun j hj=>⟨hj.2.1,Nat.lt_of_lt_of_le hj.2.2 (Nat.le_trans E2.out.2.size ba.size)⟩))
 clear kb pm2 md2 qu2 s1 s2 ba b1 b2 ml mw bp pm3 pm4 hg4 sz3 k4 lpm lmb ltq ltb ez E2
 have mk1: ∀ w:World,(Instr.makeMap 74 none).run Tryz.prog w=.ok (.map (some w.heap.size)) (w.alloc (.map #[] 0)):=fun w=>by kernel_rfl
 have mk2: ∀ w:World,(Instr.makeMap 75 none).run Tryz.prog w=.ok (.map (some w.heap.size)) (w.alloc (.map #[] 0)):=fun w=>by kernel_rfl
 go_upto_region 12 with fail
 clear upd m4 m2
 obtain ⟨pb,hpb⟩: ∃ pb,pb=u2.heap.size+1+1:=⟨_,rfl⟩
 have m0:u4.cell? ⟨mb,0,none⟩=some (pp tq):=G4.out.1.2.1.1
 go_wp2_with fail
 refine Calls.mono (AC.out _ G4.out.1.2.2.1) ?_
 rintro e u5 ⟨rfl,hq5,hk5⟩
 have HE:Hid (∃ (O:Nat->Nat) (M:Fb) (T':Nat->Qo.Nd),M.mb=mb/\Fm O (n+1) u5 M ⟨qq,0,[0]⟩ T' root ⟨1,none,0,[],fun _=>none,fun _ _=>0,fun _ _=>none⟩/\(T' 1).live=true/\(T' 1).used=1/\(T' 1).room=q-1/\(∀ j,j<W.heap.size->j≠mb->j≠tq->j≠tb->j≠pm->O j=0)/\Kept (fun j=>j≠mb/\j≠tq/\j≠tb/\j≠pm/\j<W.heap.size) W u5):=by
  obtain ⟨⟨a1,a2,a3,a4⟩,⟨b1,b2,b3⟩,⟨c1,c2⟩,kk⟩:=G4.out
  obtain ⟨tt1,tt2,tt3,tt4⟩:=TT.out
  have ne:=HM.out.ne
  have lm:mb<W.heap.size:=HM.out.mod.2.2.2
  have lq:tq<W.heap.size:=que_lt HM.out.que
  have lt:tb<W.heap.size:=HM.out.tre.2.2
  have lp:pm<W.heap.size:=HM.out.prm.lt
  have k5: ∀ j,j<u4.heap.size->j≠tq->u5.heap[j]? =u4.heap[j]? :=fun j hj hne=>hk5.block j hj hne
  have z5:=hk5.size
  obtain ⟨O,hO⟩: ∃ O,O=own7 mb tq tb pm (u2.heap.size+1+1) u2.heap.size (u2.heap.size+1):=⟨_,rfl⟩
  have o1:O mb=1:=by rw [hO];unfold own7;rw [if_pos rfl]
  have o2:O tq=2:=by rw [hO];unfold own7;rw [if_neg (by omega),if_pos rfl]
  have o3:O tb=3:=by rw [hO];unfold own7;rw [if_neg (by omega),if_neg (by omega),if_pos rfl]
  have o4:O pm=4:=by rw [hO];unfold own7;rw [if_neg (by omega),if_neg (by omega),if_neg (by omega),if_pos rfl]
  have o5:O (u2.heap.size+1+1)=5:=by rw [hO];unfold own7;rw [if_neg (by omega),if_neg (by omega),if_neg (by omega),if_neg (by omega),if_pos rfl]
  have o7:O u2.heap.size=7:=by rw [hO];unfold own7;rw [if_neg (by omega),if_neg (by omega),if_neg (by omega),if_neg (by omega),if_neg (by omega),if_pos rfl]
  have o8:O (u2.heap.size+1)=8:=by rw [hO];unfold own7;rw [if_neg (by omega),if_neg (by omega),if_neg (by omega),if_neg (by omega),if_neg (by omega),if_neg (by omega),if_pos rfl]
  have oz: ∀ j,j≠mb->j≠tq->j≠tb->j≠pm->j<u2.heap.size->O j=0:=fun j h1 h2 h3 h4 h5=>by rw [hO];unfold own7;rw [if_neg h1,if_neg h2,if_neg h3,if_neg h4,if_neg (by omega),if_neg (by omega),if_neg (by omega)]
  have ol: ∀ j,O j≠0->j<u5.heap.size:=fun j hj=>by
   by_cases q1:j<u2.heap.size+1+1+1
   . omega
   . exfalso;apply hj;rw [hO];unfold own7
     rw [if_neg (by omega),if_neg (by omega),if_neg (by omega),if_neg (by omega),if_neg (by omega),if_neg (by omega),if_neg (by omega)]
  refine ⟨O,⟨mb,tq,tb,pm,u2.heap.size+1+1,u2.heap.size,u2.heap.size+1⟩,T',rfl,⟨a2.block z5 (k5 mb (by omega) ne.1),hq5,tree_block a4 z5 (k5 tb (by omega) (fun e=>ne.2.2.2.1 e.symm)),tt1,?_,(k5 (u2.heap.size+1+1) (by omega) (by omega)).trans b3,fun i hi=>absurd hi (Nat.not_lt_zero _),Nat.le_refl _,Nat.zero_le _,(b1.mono (Nat.zero_le _)).block (k5 u2.heap.size (by omega) (by omega)),(b2.mono (Nat.zero_le _)).block (k5 (u2.heap.size+1) (by omega) (by omega)),(fun a b=>⟨by show (0:Int)<=0;omega,by show (0:Int)<=((n+1:Nat):Int);omega⟩),(fun p c e=>by cases e),o1,o2,o3,o4,o5,o7,o8,fun g eg hl=>absurd hl (Nat.lt_irrefl 0),ol⟩,tt2,tt3,tt4,fun j hj h1 h2 h3 h4=>oz j h1 h2 h3 h4 (by omega),?_⟩
  . have e:(put (fun _=>none) 0 (some (u2.heap.size+1+1)):Int->Option Nat)=fun i=>if i=0 then some (u2.heap.size+1+1) else none:=rfl
    rw [<- e]
    exact a1.block (k5 pm (by omega) (fun e=>ne.2.2.2.2.1 e.symm))
  . refine (kk.sub fun j hj=>⟨hj.2.2.1,hj.2.2.2.1,hj.2.2.2.2⟩).trans ⟨hk5.os,hk5.tape,hk5.output,hk5.size,fun j hj=>hk5.block j (Nat.lt_of_lt_of_le hj.2.2.2.2 kk.size) hj.2.1⟩
 clear hq5 hk5 AC m0 G4 TT HM
 go_wp2_with fail
 go_returns
 exact ⟨rfl,HE.out⟩
end Go.Proofs.YtlaiadheelgbdaaGreat.Fl
namespace Go.Proofs.YtlaiadheelgbdaaGreat.Fl
open Go.ChangeShapes Go.WideShapes Go.ChangeAt Go.RowKit Go.Maps
set_option linter.unusedSimpArgs false
set_option linter.unusedVariables false
set_option maxRecDepth 8000
set_option maxRecDepth 20000 in
theorem zsize:Tryz.zeroCells34.size=1539:=by kernel_rfl
theorem filled (a b c:Nat):((((Tryz.zeroCells34.setIfInBounds 0 (.pointer (some ⟨a,0,none⟩))).setIfInBounds 1 (.pointer (some ⟨b,0,none⟩))).setIfInBounds 1538 (.map (some c)))[0]? =some (.pointer (some ⟨a,0,none⟩)))/\((((Tryz.zeroCells34.setIfInBounds 0 (.pointer (some ⟨a,0,none⟩))).setIfInBounds 1 (.pointer (some ⟨b,0,none⟩))).setIfInBounds 1538 (.map (some c)))[1]? =some (.pointer (some ⟨b,0,none⟩)))/\((((Tryz.zeroCells34.setIfInBounds 0 (.pointer (some ⟨a,0,none⟩))).setIfInBounds 1 (.pointer (some ⟨b,0,none⟩))).setIfInBounds 1538 (.map (some c)))[1538]? =some (.map (some c))):=by
 have zs:=zsize
 refine ⟨?_,?_,?_⟩ <;> simp [Array.getElem?_setIfInBounds,zs]
theorem root_at (u:Int):Qo.rootT u 0=⟨-1,u,0,0,true⟩/\Qo.rootT u 1=Qo.Nd.zero:=⟨Qo.put_same _ _ _,Qo.put_other _ _ _ _ (by omega)⟩
theorem root_charge {u t:Int} (t0:0<=t) (tu:t<=u):Qo.mayN (Qo.rootT u) 0 t=0/\Qo.chargeT (Qo.rootT u) 0 t 0=⟨-1,u,0+t,0,true⟩/\(Qo.chargeT (Qo.rootT u) 0 t 1).live=false:=by
 have g:Qo.getN (Qo.rootT u) 0=⟨-1,u,0,0,true⟩:=by unfold Qo.getN;rw [if_pos ⟨by omega,by omega⟩];exact (root_at u).1
 have m:Qo.mayN (Qo.rootT u) 0 t=0:=by
  unfold Qo.mayN
  rw [g,if_neg (by simp),if_neg (by omega),if_neg (by simp [Qo.Nd.room];omega)]
 refine ⟨m,?_,?_⟩
 . unfold Qo.chargeT
   rw [if_pos m]
   show Qo.putT (Qo.rootT u) 0 ((Qo.rootT u 0).plus t) 0=_
   rw [Qo.put_same,(root_at u).1];rfl
 . unfold Qo.chargeT
   rw [if_pos m]
   show (Qo.putT (Qo.rootT u) 0 ((Qo.rootT u 0).plus t) 1).live=false
   rw [Qo.put_other _ _ _ _ (by omega),(root_at u).2];rfl
set_option maxHeartbeats 4000000 in
theorem boot_ok (u t q:Int) (t0:0<=t) (tu:t+1<=u) (u1:u<=1048576) (q0:1<=q) (q1:q<=1000) (W:World) :
 Calls Tryz.prog 10 #[.int .i64 u,.int .i64 t,.int .i64 q] W fun e w'=> ∃ (O:Nat->Nat) (M:Fb) (T:Nat->Qo.Nd),e=.returned (.tuple #[pp M.mb,.int .i64 0])/\Fm O 1 w' M ⟨q,0,[0]⟩ T u ⟨1,none,0,[],fun _=>none,fun _ _=>0,fun _ _=>none⟩/\(T 1).live=true/\(T 1).used=1/\(T 1).room=u-t-1/\(∀ j,j<W.heap.size->O j=0)/\Below W.heap.size W w':=by
 obtain ⟨rm,rc,rl⟩:=root_charge t0 (show t<=u by omega)
 obtain ⟨T1,hT1⟩: ∃ T1,T1=Qo.chargeT (Qo.rootT u) 0 t:=⟨_,rfl⟩
 rw [<- hT1] at rc rl
 have d1:decide (t<0)=false:=by simp;omega
 have d2:decide (u<t)=false:=by simp;omega
 have NC:Hid _:=Qo.new_ok u (by omega) u1 W
 have SC:Hid (∀ w:World,_):=fun w=>Ca.new_ok q q0 q1 w
 have gr:Qo.Good (Qo.rootT u) u:=Qo.root_good u (by omega) u1
 have CC:Hid (∀ (w:World) (tb:Nat),Qo.IsTree w tb (Qo.rootT u)->Calls Tryz.prog 20 #[pp tb,.int .i64 0,.int .i64 t] w fun e w'=>e=.returned (.int .i64 0)/\Qo.IsTree w' tb T1/\w.grownBy w' (some tb)):=fun w tb hw=>by
  have r:=Qo.charge_any tb (Qo.rootT u) gr.okT 0 t w hw
  rw [rm,<- hT1] at r;exact r
 have g1:Qo.Good T1 u:=by rw [hT1];exact gr.charge 0 t
 have rr:(Qo.getN T1 0).room=u-t:=by
  have e:Qo.getN T1 0=T1 0:=by unfold Qo.getN;rw [if_pos ⟨by omega,by omega⟩];rfl
  rw [e,rc];show u-(0+t)-0=u-t;omega
 have RC:Hid (∀ (w:World) (tb:Nat),Qo.IsTree w tb T1->Calls Tryz.prog 22 #[pp tb,.int .i64 0] w fun e w'=>e=.returned (.int .i64 (u-t))/\Below w.heap.size w w'):=fun w tb hw=>by
  have r:=Qo.room_any tb T1 g1.okT 0 w hw
  rw [rr] at r;exact r
 have BC:Hid (∀ (w:World) (mb tq tb pm:Nat),F0 0 w mb tq tb pm ⟨q,0,[]⟩ T1 u->Calls Tryz.prog 21 #[pp mb,.int .i64 0,.int .i64 0,.int .i64 (u-t)] w fun e w'=>e=.returned (.tuple #[.int .i64 0,.int .i64 0])/\ ∃ (O:Nat->Nat) (M:Fb) (T':Nat->Qo.Nd),M.mb=mb/\Fm O (0+1) w' M ⟨q,0,[0]⟩ T' u ⟨1,none,0,[],fun _=>none,fun _ _=>0,fun _ _=>none⟩/\(T' 1).live=true/\(T' 1).used=1/\(T' 1).room=u-t-1/\(∀ j,j<w.heap.size->j≠mb->j≠tq->j≠tb->j≠pm->O j=0)/\Kept (fun j=>j≠mb/\j≠tq/\j≠tb/\j≠pm/\j<w.heap.size) w w'):=fun w mb tq tb pm hw=>begin_ok q hw ⟨q0,q1,by show (0:Int)<=0;omega,by show (0:Int)<q;omega,List.nodup_nil,fun x hx=>absurd hx List.not_mem_nil,fun _=>rfl⟩ (by rw [rc]) rl (u-t) (by omega) (by rw [rc];show u-t<=u-(0+t)-0;omega) (by omega)
 have HG:Hid (Qo.Good T1 u):=g1
 clear t0 tu u1 q0 q1 rm rc rl hT1 gr g1 rr
 go_enter Tryz.func10,Tryz.ntmps10
 go_wp2_with fail
 refine Calls.mono NC.out ?_
 rintro e w1 ⟨rfl,hO1⟩
 have E1:Hid (Qo.IsTree w1 W.heap.size (Qo.rootT u)/\Below W.heap.size W w1):=⟨hO1.1,hO1.2.1⟩
 clear hO1 NC
 go_wp2_with fail
 refine Calls.mono (SC.out _) ?_
 rintro e w2 ⟨rfl,hO2⟩
 have E2:Hid (Qo.IsTree w2 W.heap.size (Qo.rootT u)/\Below W.heap.size W w2/\Ca.IsQ w2 w1.heap.size ⟨q,0,[]⟩/\W.heap.size<w1.heap.size):=⟨E1.out.1.below hO2.2.1,below_then E1.out.2 hO2.2.1,hO2.1,E1.out.1.2.2⟩
 clear hO2 SC E1
 go_wp2_with fail
 refine Calls.mono (CC.out _ _ E2.out.1) ?_
 rintro e w3 ⟨rfl,hT3,hg3⟩
 have E3:Hid (F0 0 ((w3.alloc (.map #[] 0)).alloc (.cells (((Tryz.zeroCells34.setIfInBounds 0 (.pointer (some ⟨w1.heap.size,0,none⟩))).setIfInBounds 1 (.pointer (some ⟨W.heap.size,0,none⟩))).setIfInBounds 1538 (.map (some w3.heap.size))) 34)) (w3.heap.size+1) w1.heap.size W.heap.size w3.heap.size ⟨q,0,[]⟩ T1 u/\Below W.heap.size W ((w3.alloc (.map #[] 0)).alloc (.cells (((Tryz.zeroCells34.setIfInBounds 0 (.pointer (some ⟨w1.heap.size,0,none⟩))).setIfInBounds 1 (.pointer (some ⟨W.heap.size,0,none⟩))).setIfInBounds 1538 (.map (some w3.heap.size))) 34))/\W.heap.size<w1.heap.size/\w1.heap.size<w3.heap.size):=by
  obtain ⟨_,b2,iq,l1⟩:=E2.out
  have lq:w1.heap.size<w2.heap.size:=que_lt iq
  have sz:=hg3.size
  have ba:Below w3.heap.size w3 ((w3.alloc (.map #[] 0)).alloc (.cells (((Tryz.zeroCells34.setIfInBounds 0 (.pointer (some ⟨w1.heap.size,0,none⟩))).setIfInBounds 1 (.pointer (some ⟨W.heap.size,0,none⟩))).setIfInBounds 1538 (.map (some w3.heap.size))) 34)):=below_then (Go.Joins.below_alloc1 _ _) (Go.Joins.below_alloc1 (w3.alloc (.map #[] 0)) _)
  have s1:(w3.alloc (.map #[] 0)).heap.size=w3.heap.size+1:=World.size_alloc _ _
  have b1:Below (w3.alloc (.map #[] 0)).heap.size (w3.alloc (.map #[] 0)) ((w3.alloc (.map #[] 0)).alloc (.cells (((Tryz.zeroCells34.setIfInBounds 0 (.pointer (some ⟨w1.heap.size,0,none⟩))).setIfInBounds 1 (.pointer (some ⟨W.heap.size,0,none⟩))).setIfInBounds 1538 (.map (some w3.heap.size))) 34)):=Go.Joins.below_alloc1 _ _
  have iq3:Ca.IsQ w3 w1.heap.size ⟨q,0,[]⟩:=iq.kept fun _=>hg3.block _ lq (fun e=>by have:=Option.some.inj e;omega)
  refine ⟨⟨?_,iq3.below ba,hT3.below ba,HG.out,(MapF.made w3).block (b1.block _ (by rw [s1];omega)),by omega,by omega,by omega,by omega,by omega,by omega⟩,?_,l1,by omega⟩
  . refine ⟨?_,?_,?_,by rw [World.size_alloc,s1];omega⟩
    . rw [<- s1,World.cell?_alloc_at _ _ _ _ rfl];exact (filled _ _ _).1
    . rw [<- s1,World.cell?_alloc_at _ _ _ _ rfl];exact (filled _ _ _).2.1
    . rw [<- s1,World.cell?_alloc_at _ _ _ _ rfl];exact (filled _ _ _).2.2
  . refine ⟨ba.os.trans (hg3.os.trans b2.os),ba.tape.trans (hg3.tape.trans b2.tape),ba.output.trans (hg3.output.trans b2.output),Nat.le_trans b2.size (Nat.le_trans sz ba.size),fun j hj=> ?_⟩
    have l2:j<w2.heap.size:=Nat.lt_of_lt_of_le hj b2.size
    rw [ba.block j (Nat.lt_of_lt_of_le l2 sz),hg3.block j l2 (fun e=>by have:=Option.some.inj e;omega),b2.block j hj]
 clear hT3 hg3 CC E2 HG
 have mk: ∀ w:World,(Instr.makeMap 32 none).run Tryz.prog w=.ok (.map (some w.heap.size)) (w.alloc (.map #[] 0)):=fun w=>by kernel_rfl
 go_upto_region 11 with fail
 generalize ((w3.alloc (.map #[] 0)).alloc (.cells (((Tryz.zeroCells34.setIfInBounds 0 (.pointer (some ⟨w1.heap.size,0,none⟩))).setIfInBounds 1 (.pointer (some ⟨W.heap.size,0,none⟩))).setIfInBounds 1538 (.map (some w3.heap.size))) 34))=V at E3 |-
 clear mk
 obtain ⟨mb,hmb⟩: ∃ mb,mb=w3.heap.size+1:=⟨_,rfl⟩
 obtain ⟨tq,htq⟩: ∃ tq,tq=w1.heap.size:=⟨_,rfl⟩
 obtain ⟨tb,htb⟩: ∃ tb,tb=W.heap.size:=⟨_,rfl⟩
 obtain ⟨pm,hpm⟩: ∃ pm,pm=w3.heap.size:=⟨_,rfl⟩
 have E4:Hid (F0 0 V mb tq tb pm ⟨q,0,[]⟩ T1 u/\Below W.heap.size W V/\(W.heap.size<=mb/\W.heap.size<=tq/\W.heap.size<=tb/\W.heap.size<=pm)):=by
  have l:=E3.out.2.2
  rw [hmb,htq,htb,hpm];exact ⟨E3.out.1,E3.out.2.1,by omega,by omega,by omega,by omega⟩
 rw [<- hmb,<- htq,<- htb]
 clear hmb htq htb hpm E3
 have uw:IntKind.i64.wrap (u-t)=u-t\/True:=Or.inr trivial
 clear uw
 go_wp2_with fail
 refine Calls.mono (RC.out _ _ E4.out.1.tre) ?_
 rintro e V2 ⟨rfl,hb2⟩
 have E5:Hid (F0 0 V2 mb tq tb pm ⟨q,0,[]⟩ T1 u/\Below W.heap.size W V2):=⟨E4.out.1.below hb2,below_then E4.out.2.1 hb2⟩
 clear hb2 RC
 go_wp2_with fail
 refine Calls.mono (BC.out _ _ _ _ _ E5.out.1) ?_
 rintro e V3 ⟨rfl,O,M,T',hm,hF,h1,h2,h3,hO,hK⟩
 have HE:Hid (M.mb=mb/\Fm O 1 V3 M ⟨q,0,[0]⟩ T' u ⟨1,none,0,[],fun _=>none,fun _ _=>0,fun _ _=>none⟩/\(T' 1).live=true/\(T' 1).used=1/\(T' 1).room=u-t-1/\(∀ j,j<W.heap.size->O j=0)/\Below W.heap.size W V3):=by
  obtain ⟨l1,l2,l3,l4⟩:=E4.out.2.2
  have bs:=E5.out.2
  refine ⟨hm,hF,h1,h2,h3,fun j hj=>hO j (Nat.lt_of_lt_of_le hj bs.size) (by omega) (by omega) (by omega) (by omega),⟨hK.os.trans bs.os,hK.tape.trans bs.tape,hK.output.trans bs.output,Nat.le_trans bs.size hK.size,fun j hj=> ?_⟩⟩
  rw [hK.block j ⟨by omega,by omega,by omega,by omega,Nat.lt_of_lt_of_le hj bs.size⟩,bs.block j hj]
 clear hm hF h1 h2 h3 hO hK BC E4 E5
 go_wp2_with fail
 go_returns
 exact ⟨O,M,T',(by rw [HE.out.1] <;> rfl),HE.out.2⟩
set_option maxHeartbeats 4000000 in
theorem used_ok {O:Nat->Nat} {n:Nat} {W:World} {M:Fb} {Q:Ca.Qu} {T:Nat->Qo.Nd} {root:Int} {P:Fp} (h:Fm O n W M Q T root P):Calls Tryz.prog 9 #[pp M.mb,.int .i64 0] W fun e w'=>e=.returned (.int .i64 (Qo.getN T P.k).used)/\Below W.heap.size W w':=by
 have GC0: ∀ w:World,Below W.heap.size W w->Calls Tryz.prog 17 #[pp M.tb,.int .i64 P.k] w fun e w'=>e=.returned (.tuple #[(Qo.getN T P.k).val,.bool (Qo.getN T P.k).live])/\Below w.heap.size w w':=fun w hb=>Qo.get_any M.tb T P.k w (h.tre.below hb)
 generalize Qo.getN T P.k=nd at GC0 |-
 obtain ⟨na,nq,nu,nl,nv⟩:=nd
 have GC:Hid (∀ w:World,Below W.heap.size W w->Calls Tryz.prog 17 #[pp M.tb,.int .i64 P.k] w fun e w'=>e=.returned (.tuple #[.agg #[.int .i64 na,.int .i64 nq,.int .i64 nu,.int .i64 nl,.bool nv],.bool nv])/\Below w.heap.size w w'):=GC0
 have HM:Hid (Fm O n W M Q T root P):=h
 have BS:Hid (Md W M.mb M.tq M.tb M.pm/\Blk W M.pb [.int .i64 0,.int .i64 P.k,.int .u64 0,.int .u64 0,.int .u64 0,.int .u64 0,.int .i64 0,.int .u64 0,.bool false,.int .u64 0,.int .i64 0,.int .u64 0,.int .u64 0,.int .u64 0,.int .u64 0,.slice P.rp P.L.length P.rc,.map (some M.lb),.map (some M.wb)] 77):=⟨h.mod,h.pro⟩
 have lk:=h.proc
 have c3:W.cell? ⟨M.mb,1538,none⟩=some (.map (some M.pm)):=h.mod.2.2.1
 clear h GC0
 go_enter Tryz.func9,Tryz.ntmps9
 go_upto_region 4 with fail
 clear lk c3
 go_cut [6,7] (fun v _ V=> ∃ bx:Nat,v=.pointer (some ⟨bx,0,none⟩)/\Hid (Blk V bx [.int .i64 na,.int .i64 nq,.int .i64 nu,.int .i64 nl,.bool nv] 65/\Below W.heap.size W V))
 case first =>
  refine wp_region_noPanic ?_
  refine wp_region_held_drew (S:=fun cw=>Md cw M.mb M.tq M.tb M.pm/\Blk cw M.pb [.int .i64 0,.int .i64 P.k,.int .u64 0,.int .u64 0,.int .u64 0,.int .u64 0,.int .i64 0,.int .u64 0,.bool false,.int .u64 0,.int .i64 0,.int .u64 0,.int .u64 0,.int .u64 0,.int .u64 0,.slice P.rp P.L.length P.rc,.map (some M.lb),.map (some M.wb)] 77) (by kernel_rfl) ?_ (fun hHeld=> ?_)
  . exact BS.out
  have KU:Hid (Below W.heap.size W W.drew):=below_drew (Below.refl _ _)
  clear BS
  generalize W.drew=U at hHeld KU |-
  refine tk 0 17 ?_ rfl (Or.inl ⟨by rfl,?_⟩) ?_
  rotate_left
  . intro w hSw;(try dsimp only at hSw);go_simp;(try with_reducible rfl)
  try simp only [Act.put,z1,z2,z3]
  refine tk 1 18 ?_ rfl (Or.inl ⟨by rfl,?_⟩) ?_
  rotate_left
  . intro w hSw;(try dsimp only at hSw);go_simp;(try with_reducible rfl)
  try simp only [Act.put,z1,z2,z3]
  refine tk 2 19 ?_ rfl (Or.inl ⟨by rfl,?_⟩) ?_
  rotate_left
  . intro w hSw;(try dsimp only at hSw);go_simp;(try with_reducible rfl)
  try simp only [Act.put,z1,z2,z3]
  refine tk 3 20 (pp M.tb) rfl (Or.inl ⟨by rfl,?_⟩) ?_
  . intro w hSw;(try dsimp only at hSw);have r:=hSw.1.2.1;(try go_simp);(try simp [*])
  try simp only [Act.put,z1,z2,z3]
  refine tk 4 21 ?_ rfl (Or.inl ⟨by rfl,?_⟩) ?_
  rotate_left
  . intro w hSw;(try dsimp only at hSw);go_simp;(try with_reducible rfl)
  try simp only [Act.put,z1,z2,z3]
  refine tk 5 22 ?_ rfl (Or.inl ⟨by rfl,?_⟩) ?_
  rotate_left
  . intro w hSw;(try dsimp only at hSw);go_simp;(try with_reducible rfl)
  try simp only [Act.put,z1,z2,z3]
  refine tk 6 23 ?_ rfl (Or.inl ⟨by rfl,?_⟩) ?_
  rotate_left
  . intro w hSw;(try dsimp only at hSw);go_simp;(try with_reducible rfl)
  try simp only [Act.put,z1,z2,z3]
  refine tk 7 24 (.int .i64 P.k) rfl (Or.inl ⟨by rfl,?_⟩) ?_
  . intro w hSw;(try dsimp only at hSw);have r:=Blk.cell hSw.2 1;(try go_simp);(try simp [*])
  try simp only [Act.put,z1,z2,z3]
  refine wpAnyH_ready (rs:=[8,12]) (by kernel_rfl) (by simp) ?_
  refine AllReadyH.cons (o:=⟨some 25,_,_,_,_,none⟩) rfl (fun K hK=> ?_) (AllReadyH.cons (o:=⟨some 6,_,_,_,_,none⟩) rfl (fun K hK=> ?_) AllReadyH.nil)
  . go_simp
    go_wp2_with (go_at_call 17;refine Calls.mono (GC.out _ KU.out) ?_;rintro e u4 ⟨rfl,hb4⟩)
    have KU4:Hid (Below W.heap.size W u4):=below_then KU.out hb4
    clear KU
    have KU:=KU4
    clear KU4
    refine hK.out _ _ ⟨hHeld.1.below hb4,hHeld.2.below hb4⟩ (fun hHeld2=> ?_)
    clear hK K hHeld hb4
    have hHeld:=hHeld2
    clear hHeld2
    try simp only [Act.put,z1,z2,z3]
    refine tk 9 16 ?_ rfl (Or.inl ⟨by rfl,?_⟩) ?_
    rotate_left
    . intro w hSw;(try dsimp only at hSw);go_simp;(try with_reducible rfl)
    try simp only [Act.put,z1,z2,z3]
    refine tk 10 26 ?_ rfl (Or.inl ⟨by rfl,?_⟩) ?_
    rotate_left
    . intro w hSw;(try dsimp only at hSw);go_simp;(try with_reducible rfl)
    try simp only [Act.put,z1,z2,z3]
    refine tk 11 27 ?_ rfl (Or.inl ⟨by rfl,?_⟩) ?_
    rotate_left
    . intro w hSw;(try dsimp only at hSw);go_simp;(try with_reducible rfl)
    try simp only [Act.put,z1,z2,z3]
    refine wpAnyH_ready (rs:=[12]) (by kernel_rfl) (by simp) ?_
    refine AllReadyH.cons (o:=⟨some 6,_,_,_,_,none⟩) rfl (fun K hK=> ?_) AllReadyH.nil
    go_simp
    have gb:Below u4.heap.size u4 (u4.alloc (.cells #[.int .i64 0,.int .i64 0,.int .i64 0,.int .i64 0,.bool false] 65)):=Go.Joins.below_alloc1 _ _
    have BK:Hid (Blk (u4.alloc (.cells #[.int .i64 0,.int .i64 0,.int .i64 0,.int .i64 0,.bool false] 65)) u4.heap.size [.int .i64 0,.int .i64 0,.int .i64 0,.int .i64 0,.bool false] 65/\Below W.heap.size W (u4.alloc (.cells #[.int .i64 0,.int .i64 0,.int .i64 0,.int .i64 0,.bool false] 65))/\W.heap.size<=u4.heap.size):=⟨Blk.made _ _ _,below_then KU.out gb,KU.out.size⟩
    refine hK.out _ _ ⟨hHeld.1.below gb,hHeld.2.below gb⟩ (fun hHeld2=> ?_)
    clear hK K hHeld gb KU
    have hHeld:=hHeld2
    clear hHeld2
    try simp only [Act.put,z1,z2,z3]
    generalize u4.alloc (.cells #[.int .i64 0,.int .i64 0,.int .i64 0,.int .i64 0,.bool false] 65)=V at hHeld BK |-
    generalize u4.heap.size=bx at BK |-
    refine wpAnyH_ready (rs:=[13]) (by kernel_rfl) (by simp) ?_
    refine AllReadyH.cons (o:=⟨none,.store 65 (.tmp 6) (.tmp 26),_,_,_,none⟩) rfl (fun K hK=> ?_) AllReadyH.nil
    refine wanted_mp rfl ?_
    have th:V.there bx 0 5:=BK.out.1.there
    refine wp_store_mid _ _ _ rfl bx 0 #[.int .i64 na,.int .i64 nq,.int .i64 nu,.int .i64 nl,.bool nv] rfl rfl th (by kernel_rfl) (by simp [Value.oneCell']) ?_
    (try simp only [List.toList_toArray])
    have gk:=grown_setCells bx [.int .i64 na,.int .i64 nq,.int .i64 nu,.int .i64 nl,.bool nv] 0 V
    have NE:Hid (M.mb≠bx/\M.pb≠bx):=by
     have l1:=HM.out.lt M.mb (by rw [HM.out.o1];omega)
     have l5:=HM.out.lt M.pb (by rw [HM.out.o5];omega)
     have:=BK.out.2.2
     exact ⟨by omega,by omega⟩
    have F9:Hid (Blk (V.setCells bx 0 [.int .i64 na,.int .i64 nq,.int .i64 nu,.int .i64 nl,.bool nv]) bx [.int .i64 na,.int .i64 nq,.int .i64 nu,.int .i64 nl,.bool nv] 65/\Below W.heap.size W (V.setCells bx 0 [.int .i64 na,.int .i64 nq,.int .i64 nu,.int .i64 nl,.bool nv])):=⟨BK.out.1.put rfl,below_put BK.out.2.1 BK.out.2.2 _⟩
    have S9:Hid (Md (V.setCells bx 0 [.int .i64 na,.int .i64 nq,.int .i64 nu,.int .i64 nl,.bool nv]) M.mb M.tq M.tb M.pm/\Blk (V.setCells bx 0 [.int .i64 na,.int .i64 nq,.int .i64 nu,.int .i64 nl,.bool nv]) M.pb [.int .i64 0,.int .i64 P.k,.int .u64 0,.int .u64 0,.int .u64 0,.int .u64 0,.int .i64 0,.int .u64 0,.bool false,.int .u64 0,.int .i64 0,.int .u64 0,.int .u64 0,.int .u64 0,.int .u64 0,.slice P.rp P.L.length P.rc,.map (some M.lb),.map (some M.wb)] 77):=⟨hHeld.1.block gk.size (gk.block _ hHeld.1.2.2.2 (fun e=>NE.out.1 (Option.some.inj e))),(gk.block _ hHeld.2.lt (fun e=>NE.out.2 (Option.some.inj e))).trans hHeld.2⟩
    clear gk NE
    generalize V.setCells bx 0 [.int .i64 na,.int .i64 nq,.int .i64 nu,.int .i64 nl,.bool nv]=u9 at *
    refine hK.out _ _ S9.out (fun hHeld2=> ?_)
    clear hK K hHeld th S9 BK
    have hHeld:=hHeld2
    clear hHeld2
    try simp only [Act.put,z1,z2,z3]
    refine tk 14 7 ?_ rfl (Or.inl ⟨by rfl,?_⟩) ?_
    rotate_left
    . intro w hSw;(try dsimp only at hSw);go_simp;(try with_reducible rfl)
    try simp only [Act.put,z1,z2,z3]
    clear hHeld
    refine wpAnyH_done (by kernel_rfl) ?_ _
    refine NoPanic.normal ?_
    go_wp2_with fail
    go_meet
    exact ⟨bx,rfl,F9⟩
  . go_simp
    have gb:Below U.heap.size U (U.alloc (.cells #[.int .i64 0,.int .i64 0,.int .i64 0,.int .i64 0,.bool false] 65)):=Go.Joins.below_alloc1 _ _
    have BK:Hid (Blk (U.alloc (.cells #[.int .i64 0,.int .i64 0,.int .i64 0,.int .i64 0,.bool false] 65)) U.heap.size [.int .i64 0,.int .i64 0,.int .i64 0,.int .i64 0,.bool false] 65/\Below W.heap.size W (U.alloc (.cells #[.int .i64 0,.int .i64 0,.int .i64 0,.int .i64 0,.bool false] 65))/\W.heap.size<=U.heap.size):=⟨Blk.made _ _ _,below_then KU.out gb,KU.out.size⟩
    refine hK.out _ _ ⟨hHeld.1.below gb,hHeld.2.below gb⟩ (fun hHeld2=> ?_)
    clear hK K hHeld gb KU
    have hHeld:=hHeld2
    clear hHeld2
    try simp only [Act.put,z1,z2,z3]
    generalize U.alloc (.cells #[.int .i64 0,.int .i64 0,.int .i64 0,.int .i64 0,.bool false] 65)=V at hHeld BK |-
    generalize U.heap.size=bx at BK |-
    refine wpAnyH_ready (rs:=[8]) (by kernel_rfl) (by simp) ?_
    refine AllReadyH.cons (o:=⟨some 25,_,_,_,_,none⟩) rfl (fun K hK=> ?_) AllReadyH.nil
    go_simp
    go_wp2_with (go_at_call 17;refine Calls.mono (GC.out _ BK.out.2.1) ?_;rintro e u4 ⟨rfl,hb4⟩)
    have BK4:Hid (Blk u4 bx [.int .i64 0,.int .i64 0,.int .i64 0,.int .i64 0,.bool false] 65/\Below W.heap.size W u4/\W.heap.size<=bx):=⟨BK.out.1.below hb4,below_then BK.out.2.1 hb4,BK.out.2.2⟩
    clear BK
    have BK:=BK4
    clear BK4
    refine hK.out _ _ ⟨hHeld.1.below hb4,hHeld.2.below hb4⟩ (fun hHeld2=> ?_)
    clear hK K hHeld hb4
    have hHeld:=hHeld2
    clear hHeld2
    try simp only [Act.put,z1,z2,z3]
    refine tk 9 16 ?_ rfl (Or.inl ⟨by rfl,?_⟩) ?_
    rotate_left
    . intro w hSw;(try dsimp only at hSw);go_simp;(try with_reducible rfl)
    try simp only [Act.put,z1,z2,z3]
    refine tk 10 26 ?_ rfl (Or.inl ⟨by rfl,?_⟩) ?_
    rotate_left
    . intro w hSw;(try dsimp only at hSw);go_simp;(try with_reducible rfl)
    try simp only [Act.put,z1,z2,z3]
    refine tk 11 27 ?_ rfl (Or.inl ⟨by rfl,?_⟩) ?_
    rotate_left
    . intro w hSw;(try dsimp only at hSw);go_simp;(try with_reducible rfl)
    try simp only [Act.put,z1,z2,z3]
    refine wpAnyH_ready (rs:=[13]) (by kernel_rfl) (by simp) ?_
    refine AllReadyH.cons (o:=⟨none,.store 65 (.tmp 6) (.tmp 26),_,_,_,none⟩) rfl (fun K hK=> ?_) AllReadyH.nil
    refine wanted_mp rfl ?_
    have th:u4.there bx 0 5:=BK.out.1.there
    refine wp_store_mid _ _ _ rfl bx 0 #[.int .i64 na,.int .i64 nq,.int .i64 nu,.int .i64 nl,.bool nv] rfl rfl th (by kernel_rfl) (by simp [Value.oneCell']) ?_
    (try simp only [List.toList_toArray])
    have gk:=grown_setCells bx [.int .i64 na,.int .i64 nq,.int .i64 nu,.int .i64 nl,.bool nv] 0 u4
    have NE:Hid (M.mb≠bx/\M.pb≠bx):=by
     have l1:=HM.out.lt M.mb (by rw [HM.out.o1];omega)
     have l5:=HM.out.lt M.pb (by rw [HM.out.o5];omega)
     have:=BK.out.2.2
     exact ⟨by omega,by omega⟩
    have F9:Hid (Blk (u4.setCells bx 0 [.int .i64 na,.int .i64 nq,.int .i64 nu,.int .i64 nl,.bool nv]) bx [.int .i64 na,.int .i64 nq,.int .i64 nu,.int .i64 nl,.bool nv] 65/\Below W.heap.size W (u4.setCells bx 0 [.int .i64 na,.int .i64 nq,.int .i64 nu,.int .i64 nl,.bool nv])):=⟨BK.out.1.put rfl,below_put BK.out.2.1 BK.out.2.2 _⟩
    have S9:Hid (Md (u4.setCells bx 0 [.int .i64 na,.int .i64 nq,.int .i64 nu,.int .i64 nl,.bool nv]) M.mb M.tq M.tb M.pm/\Blk (u4.setCells bx 0 [.int .i64 na,.int .i64 nq,.int .i64 nu,.int .i64 nl,.bool nv]) M.pb [.int .i64 0,.int .i64 P.k,.int .u64 0,.int .u64 0,.int .u64 0,.int .u64 0,.int .i64 0,.int .u64 0,.bool false,.int .u64 0,.int .i64 0,.int .u64 0,.int .u64 0,.int .u64 0,.int .u64 0,.slice P.rp P.L.length P.rc,.map (some M.lb),.map (some M.wb)] 77):=⟨hHeld.1.block gk.size (gk.block _ hHeld.1.2.2.2 (fun e=>NE.out.1 (Option.some.inj e))),(gk.block _ hHeld.2.lt (fun e=>NE.out.2 (Option.some.inj e))).trans hHeld.2⟩
    clear gk NE
    generalize u4.setCells bx 0 [.int .i64 na,.int .i64 nq,.int .i64 nu,.int .i64 nl,.bool nv]=u9 at *
    refine hK.out _ _ S9.out (fun hHeld2=> ?_)
    clear hK K hHeld th S9 BK
    have hHeld:=hHeld2
    clear hHeld2
    try simp only [Act.put,z1,z2,z3]
    refine tk 14 7 ?_ rfl (Or.inl ⟨by rfl,?_⟩) ?_
    rotate_left
    . intro w hSw;(try dsimp only at hSw);go_simp;(try with_reducible rfl)
    try simp only [Act.put,z1,z2,z3]
    clear hHeld
    refine wpAnyH_done (by kernel_rfl) ?_ _
    refine NoPanic.normal ?_
    go_wp2_with fail
    go_meet
    exact ⟨bx,rfl,F9⟩
 obtain ⟨bx,rfl,F9⟩:=hcut
 have x2:wc.cell? ⟨bx,2,none⟩=some (.int .i64 nu):=F9.out.1.cell 2
 go_wp2_with fail
 go_returns
 exact ⟨rfl,F9.out.2⟩
end Go.Proofs.YtlaiadheelgbdaaGreat.Fl
namespace Go.Proofs.YtlaiadheelgbdaaGreat.Fl
open Go.ChangeShapes Go.WideShapes Go.ChangeAt Go.RowKit Go.Maps
set_option linter.unusedSimpArgs false
set_option linter.unusedVariables false
set_option maxRecDepth 8000
theorem add_first (f t:Int) (pa pb pc:Bool) (h0:0<=f) (h1:f<t) (h2:t<=34359738368) (h3:t-f<=65536):Re.errA (Re.addN [] ⟨f,t,pa,pb,pc,0⟩) (Re.addL [] ⟨f,t,pa,pb,pc,0⟩)=0/\Re.addL [] ⟨f,t,pa,pb,pc,0⟩=[⟨f,t,pa,pb,pc,0⟩]:=by
 have e:Re.addL [] ⟨f,t,pa,pb,pc,0⟩=[⟨f,t,pa,pb,pc,0⟩]:=by
  show Re.withL [] ⟨f,t,pa,pb,pc,0⟩=_
  unfold Re.withL
  rw [if_neg (by show ¬ t<=f;omega),if_neg (by simp)]
  rfl
 refine ⟨?_,e⟩
 rw [e]
 have c:Re.checkN [] f t=0:=by
  unfold Re.checkN
  rw [if_pos (by unfold Re.rightB;simp;omega),if_pos (show Re.goodB []=true from rfl)]
 unfold Re.errA Re.addN
 simp only
 rw [c,if_pos rfl]
 rfl
theorem do_map {O:Nat->Nat} {n:Nat} {W:World} {M:Fb} {Q:Ca.Qu} {T:Nat->Qo.Nd} {root:Int} {P:Fp} (h:Fm O n W M Q T root P) (hQ:Ca.nowV Q.L=0) (X:Ca.Wd) (hw:X.wf) (k1 k2:Int) (k3 k4 k5:Bool) (ad sz x k6 k7 k8 k9:Int) (j:Nat) (hc:Ca.callV X=some (⟨1,k1,k2,k3,k4,k5,ad,sz,x,k6,k7,k8,k9⟩,j)) (hj:j<6) (hz:Ca.restZ X j) (L':List Re.Rg) (hE:Re.errA (Re.addN P.L ⟨k1,k2,k3,k4,k5,0⟩) (Re.addL P.L ⟨k1,k2,k3,k4,k5,0⟩)=0) (hM:Re.outL (Re.addN P.L ⟨k1,k2,k3,k4,k5,0⟩) (Re.addL P.L ⟨k1,k2,k3,k4,k5,0⟩)=L') (h64:L'.length<=64) :
 Calls Tryz.prog 5 #[pp M.mb,.agg #[.int .u64 X.x0,.int .u64 X.x1,.int .u64 X.x2,.int .u64 X.x3,.int .u64 X.x4,.int .u64 X.x5]] W fun e w'=>e=.returned (.agg #[.int .i64 0,.int .u64 0,.int .i64 0,.int .u64 0,.int .i64 0,.bool false])/\Tx O W (fun O' w=> ∃ p' c',Fm O' n w M Q T root { P with rp:=p',rc:=c',L:=L' }) w':=by
 have st:Sta (fun O' w=> ∃ p' c',Fm O' n w M Q T root { P with rp:=p',rc:=c',L:=L' }):=fun O V V' ⟨p',c',q⟩ hs hk=>⟨p',c',q.keep hs hk⟩
 refine do_ok h hQ X.x0 X.x1 X.x2 X.x3 X.x4 X.x5 1 k1 k2 k3 k4 k5 ad sz x k6 k7 k8 k9 0 0 0 0 false _ st (fun w=>Ca.read_ok X hw ⟨1,k1,k2,k3,k4,k5,ad,sz,x,k6,k7,k8,k9⟩ j hc hj hz w) (fun w hF=> ?_)
 refine serve_map hF k1 k2 k3 k4 k5 ad sz x k6 k7 k8 k9 0 _ st (fun w2 hF2=> ?_)
 refine change_map hF2 k1 k2 k3 k4 k5 ad sz x k6 k7 k8 k9 0 _ (fun O' w ⟨p',c',q⟩=>⟨q.mod,q.prm⟩) (fun w3 hF3=> ?_)
 refine Calls.mono (add_ok hF3 1 k1 k2 k3 k4 k5 ad sz x k6 k7 k8 k9 L' hE hM h64) ?_
 rintro e w' ⟨he,O',p',c',q1,q2,q3⟩
 exact ⟨he,O',⟨p',c',q1⟩,q2,q1.lt,q3⟩
theorem do_map_no {O:Nat->Nat} {n:Nat} {W:World} {M:Fb} {Q:Ca.Qu} {T:Nat->Qo.Nd} {root:Int} {P:Fp} (h:Fm O n W M Q T root P) (hQ:Ca.nowV Q.L=0) (X:Ca.Wd) (hw:X.wf) (k1 k2:Int) (k3 k4 k5:Bool) (ad sz x k6 k7 k8 k9:Int) (j:Nat) (hc:Ca.callV X=some (⟨1,k1,k2,k3,k4,k5,ad,sz,x,k6,k7,k8,k9⟩,j)) (hj:j<6) (hz:Ca.restZ X j) (E:Int) (E0:E≠0) (hE:Re.errA (Re.addN P.L ⟨k1,k2,k3,k4,k5,0⟩) (Re.addL P.L ⟨k1,k2,k3,k4,k5,0⟩)=E) :
 Calls Tryz.prog 5 #[pp M.mb,.agg #[.int .u64 X.x0,.int .u64 X.x1,.int .u64 X.x2,.int .u64 X.x3,.int .u64 X.x4,.int .u64 X.x5]] W fun e w'=>e=.returned (.agg #[.int .i64 0,.int .u64 0,.int .i64 E,.int .u64 0,.int .i64 0,.bool false])/\Tx O W (fun O' w=>Fm O' n w M Q T root P) w':=by
 have st:=Fm.sta n M Q T root P
 refine do_ok h hQ X.x0 X.x1 X.x2 X.x3 X.x4 X.x5 1 k1 k2 k3 k4 k5 ad sz x k6 k7 k8 k9 0 E 0 0 false _ st (fun w=>Ca.read_ok X hw ⟨1,k1,k2,k3,k4,k5,ad,sz,x,k6,k7,k8,k9⟩ j hc hj hz w) (fun w hF=> ?_)
 refine serve_map hF k1 k2 k3 k4 k5 ad sz x k6 k7 k8 k9 E _ st (fun w2 hF2=> ?_)
 refine change_map hF2 k1 k2 k3 k4 k5 ad sz x k6 k7 k8 k9 E _ (fun O' w q=>⟨q.mod,q.prm⟩) (fun w3 hF3=> ?_)
 refine Calls.mono (add_no hF3 1 k1 k2 k3 k4 k5 ad sz x k6 k7 k8 k9 _ E E0 hE rfl) ?_
 rintro e w' ⟨he,hb⟩
 exact ⟨he,O,hF3.below hb,fun _ _=>rfl,(hF3.below hb).lt,Ko.of_below hb⟩
theorem do_new {O:Nat->Nat} {n:Nat} {W:World} {M:Fb} {Q:Ca.Qu} {T:Nat->Qo.Nd} {root:Int} {P:Fp} (h:Fm O n W M Q T root P) (hQ:Ca.nowV Q.L=0) (X:Ca.Wd) (hw:X.wf) (k1 k2:Int) (k3 k4 k5:Bool) (ad sz x k6 k7 k8 k9:Int) (j:Nat) (hc:Ca.callV X=some (⟨5,k1,k2,k3,k4,k5,ad,sz,x,k6,k7,k8,k9⟩,j)) (hj:j<6) (hz:Ca.restZ X j) (p:Int) (hp:ad / 4096=p) (a0:0<=ad) (a1:ad<140737488355328) (s0:0<=sz) (s8:sz<=8) (am:ad % 4096+sz<=4096) (x0:0<=x) (x1:x<18446744073709551616) (g1 g2 gk:Int) (gx:Bool) (hf:Re.findR P.L p=(⟨g1,g2,true,true,gx,gk⟩,true)) (hF:P.F p=none) (hmay:Qo.mayN T P.k (costN (p / 512) (p / 262144) (p / 134217728) P.G 3)=0) (hn:n<900000) :
 Calls Tryz.prog 5 #[pp M.mb,.agg #[.int .u64 X.x0,.int .u64 X.x1,.int .u64 X.x2,.int .u64 X.x3,.int .u64 X.x4,.int .u64 X.x5]] W fun e w'=>e=.returned (.agg #[.int .i64 0,.int .u64 0,.int .i64 0,.int .u64 0,.int .i64 0,.bool false])/\Tx O W (fun O' w=> ∃ c,Fm O' (n+6) w M Q (Qo.chargeT T P.k (costN (p / 512) (p / 262144) (p / 134217728) P.G 3)) root { P with F:=put P.F p (some c),B:=(fun y9=>if y9=c then (cset (fun _=>0) (ad % 4096).toNat sz.toNat x) else P.B y9),G:=bumpN (p / 512) (p / 262144) (p / 134217728) P.G 3 }) w':=by
 have st:Sta (fun O' w=> ∃ c,Fm O' (n+6) w M Q (Qo.chargeT T P.k (costN (p / 512) (p / 262144) (p / 134217728) P.G 3)) root { P with F:=put P.F p (some c),B:=(fun y9=>if y9=c then (cset (fun _=>0) (ad % 4096).toNat sz.toNat x) else P.B y9),G:=bumpN (p / 512) (p / 262144) (p / 134217728) P.G 3 }):=fun O V V' ⟨c,q⟩ hs hk=>⟨c,q.keep hs hk⟩
 refine do_ok h hQ X.x0 X.x1 X.x2 X.x3 X.x4 X.x5 5 k1 k2 k3 k4 k5 ad sz x k6 k7 k8 k9 0 0 0 0 false _ st (fun w=>Ca.read_ok X hw ⟨5,k1,k2,k3,k4,k5,ad,sz,x,k6,k7,k8,k9⟩ j hc hj hz w) (fun w hW=> ?_)
 refine serve_acc5 hW k1 k2 k3 k4 k5 ad sz x k6 k7 k8 k9 0 0 0 0 0 false (n+6) (by omega) _ st (fun O' w ⟨c,q⟩=>⟨q.mod,q.prm⟩) (fun w2 hW2=> ?_)
 refine Calls.mono (access_new hW2 k1 k2 k3 k4 k5 ad sz x k6 k7 k8 k9 p hp a0 a1 s0 s8 am x0 x1 g1 g2 gk gx hf hF hmay hn) ?_
 rintro e w' ⟨he,O',c,q1,q2,q3⟩
 exact ⟨he,O',⟨c,q1⟩,q2,q1.lt,q3⟩
theorem do_store {O:Nat->Nat} {n:Nat} {W:World} {M:Fb} {Q:Ca.Qu} {T:Nat->Qo.Nd} {root:Int} {P:Fp} (h:Fm O n W M Q T root P) (hQ:Ca.nowV Q.L=0) (X:Ca.Wd) (hw:X.wf) (k1 k2:Int) (k3 k4 k5:Bool) (ad sz x k6 k7 k8 k9:Int) (j:Nat) (hc:Ca.callV X=some (⟨5,k1,k2,k3,k4,k5,ad,sz,x,k6,k7,k8,k9⟩,j)) (hj:j<6) (hz:Ca.restZ X j) (p:Int) (hp:ad / 4096=p) (a0:0<=ad) (a1:ad<140737488355328) (s0:0<=sz) (s8:sz<=8) (am:ad % 4096+sz<=4096) (x0:0<=x) (x1:x<18446744073709551616) (g1 g2 gk:Int) (gx:Bool) (hf:Re.findR P.L p=(⟨g1,g2,true,true,gx,gk⟩,true)) (c:Nat) (hF:P.F p=some c) :
 Calls Tryz.prog 5 #[pp M.mb,.agg #[.int .u64 X.x0,.int .u64 X.x1,.int .u64 X.x2,.int .u64 X.x3,.int .u64 X.x4,.int .u64 X.x5]] W fun e w'=>e=.returned (.agg #[.int .i64 0,.int .u64 0,.int .i64 0,.int .u64 0,.int .i64 0,.bool false])/\Tx O W (fun O' w=>Fm O' n w M Q T root { P with B:=(fun y9=>if y9=c then (cset (P.B c) (ad % 4096).toNat sz.toNat x) else P.B y9) }) w':=by
 have st:=Fm.sta n M Q T root { P with B:=(fun y9=>if y9=c then (cset (P.B c) (ad % 4096).toNat sz.toNat x) else P.B y9) }
 refine do_ok h hQ X.x0 X.x1 X.x2 X.x3 X.x4 X.x5 5 k1 k2 k3 k4 k5 ad sz x k6 k7 k8 k9 0 0 0 0 false _ st (fun w=>Ca.read_ok X hw ⟨5,k1,k2,k3,k4,k5,ad,sz,x,k6,k7,k8,k9⟩ j hc hj hz w) (fun w hW=> ?_)
 refine serve_acc5 hW k1 k2 k3 k4 k5 ad sz x k6 k7 k8 k9 0 0 0 0 0 false n (Nat.le_refl _) _ st (fun O' w q=>⟨q.mod,q.prm⟩) (fun w2 hW2=> ?_)
 refine Calls.mono (access_store hW2 k1 k2 k3 k4 k5 ad sz x k6 k7 k8 k9 p hp a0 a1 s0 s8 am x0 x1 g1 g2 gk gx hf c hF) ?_
 rintro e w' ⟨he,q1,q3⟩
 exact ⟨he,O,q1,fun _ _=>rfl,q1.lt,q3⟩
theorem do_load {O:Nat->Nat} {n:Nat} {W:World} {M:Fb} {Q:Ca.Qu} {T:Nat->Qo.Nd} {root:Int} {P:Fp} (h:Fm O n W M Q T root P) (hQ:Ca.nowV Q.L=0) (X:Ca.Wd) (hw:X.wf) (k1 k2:Int) (k3 k4 k5:Bool) (ad sz x k6 k7 k8 k9:Int) (j:Nat) (hc:Ca.callV X=some (⟨4,k1,k2,k3,k4,k5,ad,sz,x,k6,k7,k8,k9⟩,j)) (hj:j<6) (hz:Ca.restZ X j) (p:Int) (hp:ad / 4096=p) (a0:0<=ad) (a1:ad<140737488355328) (s0:0<=sz) (s8:sz<=8) (am:ad % 4096+sz<=4096) (g1 g2 gk:Int) (gw gx:Bool) (hf:Re.findR P.L p=(⟨g1,g2,gw,true,gx,gk⟩,true)) (c:Nat) (hF:P.F p=some c) :
 Calls Tryz.prog 5 #[pp M.mb,.agg #[.int .u64 X.x0,.int .u64 X.x1,.int .u64 X.x2,.int .u64 X.x3,.int .u64 X.x4,.int .u64 X.x5]] W fun e w'=>e=.returned (.agg #[.int .i64 0,.int .u64 (le (P.B c) (ad % 4096).toNat sz.toNat),.int .i64 0,.int .u64 0,.int .i64 0,.bool false])/\Tx O W (fun O' w=>Fm O' n w M Q T root P) w':=by
 have st:=Fm.sta n M Q T root P
 refine do_ok h hQ X.x0 X.x1 X.x2 X.x3 X.x4 X.x5 4 k1 k2 k3 k4 k5 ad sz x k6 k7 k8 k9 _ 0 0 0 false _ st (fun w=>Ca.read_ok X hw ⟨4,k1,k2,k3,k4,k5,ad,sz,x,k6,k7,k8,k9⟩ j hc hj hz w) (fun w hW=> ?_)
 refine serve_acc4 hW k1 k2 k3 k4 k5 ad sz x k6 k7 k8 k9 0 _ 0 0 0 false n (Nat.le_refl _) _ st (fun O' w q=>⟨q.mod,q.prm⟩) (fun w2 hW2=> ?_)
 refine Calls.mono (access_load hW2 k1 k2 k3 k4 k5 ad sz x k6 k7 k8 k9 p hp a0 a1 s0 s8 am g1 g2 gk gw gx hf c hF) ?_
 rintro e w' ⟨he,hb⟩
 exact ⟨he,O,hW2.below hb,fun _ _=>rfl,(hW2.below hb).lt,Ko.of_below hb⟩
end Go.Proofs.YtlaiadheelgbdaaGreat.Fl
namespace Go.Proofs.YtlaiadheelgbdaaGreat.Fl
open Go.ChangeShapes Go.WideShapes Go.ChangeAt Go.RowKit Go.Maps
set_option linter.unusedSimpArgs false
set_option linter.unusedVariables false
set_option maxRecDepth 8000
theorem wf_lit (a b c d:Int) (ha:0<=a/\a<100) (hb:0<=b/\b<100) (hc:0<=c/\c<100) (hd:0<=d/\d<100):(Ca.Wd.mk a b c d 0 0).wf:=fun k=>by
 match k with
 | 0 => show 0 ≤ a ∧ a < _; omega
 | 1 => show 0 ≤ b ∧ b < _; omega
 | 2 => show 0 ≤ c ∧ c < _; omega
 | 3 => show 0 ≤ d ∧ d < _; omega
 | 4 => show (0 : Int) ≤ 0 ∧ (0 : Int) < _; omega
 | 5 => show (0 : Int) ≤ 0 ∧ (0 : Int) < _; omega
 | k + 6 =>
  have:(Ca.Wd.mk a b c d 0 0).at (k+6)=0:=by simp [Ca.Wd.at,Ca.Wd.list]
  rw [this];omega
def Bx (O:Nat->Nat) (w:World) (b:Nat) (C:List Value) (t:TypeId):Prop:=Blk w b C t/\O b=0
theorem Bx.on {O O':Nat->Nat} {W V:World} {b:Nat} {C:List Value} {t:TypeId} (h:Bx O W b C t) (e: ∀ j,j<W.heap.size->O' j=O j) (k:Ko O W V):Bx O' V b C t:=⟨k.blk h.1 h.2,(e b h.1.lt).trans h.2⟩
theorem Bx.below {O:Nat->Nat} {V V':World} {b:Nat} {C:List Value} {t:TypeId} (h:Bx O V b C t) (hb:Below V.heap.size V V'):Bx O V' b C t:=⟨h.1.below hb,h.2⟩
theorem Bx.made {O:Nat->Nat} {V:World} (lt: ∀ j,O j≠0->j<V.heap.size) (C:List Value) (t:TypeId):Bx O (V.alloc (.cells C.toArray t)) V.heap.size C t:=⟨Blk.made _ _ _,Decidable.byContradiction fun q=>Nat.lt_irrefl _ (lt _ q)⟩
def Low (O:Nat->Nat) (w V:World):Prop:=Below w.heap.size w V/\ ∀ j,j<w.heap.size->O j=0
theorem Low.on {O O':Nat->Nat} {w W V:World} (h:Low O w W) (e: ∀ j,j<W.heap.size->O' j=O j) (k:Ko O W V):Low O' w V :=
 ⟨⟨k.os.trans h.1.os,k.tape.trans h.1.tape,k.output.trans h.1.output,Nat.le_trans h.1.size k.size,fun j hj=>(k.block j ⟨h.2 j hj,Nat.lt_of_lt_of_le hj h.1.size⟩).trans (h.1.block j hj)⟩,fun j hj=>(e j (Nat.lt_of_lt_of_le hj h.1.size)).trans (h.2 j hj)⟩
theorem Low.below {O:Nat->Nat} {w V V':World} (h:Low O w V) (hb:Below V.heap.size V V'):Low O w V':=⟨below_then h.1 hb,h.2⟩
theorem fresh_cost (p:Int):costN (p / 512) (p / 262144) (p / 134217728) (fun _ _=>none) 3=4:=by simp [costN,wayAt,zz]
theorem le_five:le (cset (fun _=>0) 8 8 5) 8 8=5:=by simp [le,cset]
end Go.Proofs.YtlaiadheelgbdaaGreat.Fl
namespace Go.Proofs.YtlaiadheelgbdaaGreat.Fl
open Go.ChangeShapes Go.WideShapes Go.ChangeAt Go.RowKit Go.Maps
set_option linter.unusedSimpArgs false
set_option linter.unusedVariables false
set_option maxRecDepth 8000
theorem room_four {T:Nat->Qo.Nd} (h1:(T 1).live=true) (h2:(T 1).used=1) (h3:(T 1).room=56):Qo.mayN T 1 4=0/\(Qo.getN (Qo.chargeT T 1 4) 1).used=5:=by
 have g:Qo.getN T 1=T 1:=by unfold Qo.getN;rw [if_pos ⟨by omega,by omega⟩];rfl
 have m:Qo.mayN T 1 4=0:=by
  unfold Qo.mayN
  rw [g,h1,h3,if_neg (by decide),if_neg (by omega),if_neg (by omega)]
 refine ⟨m,?_⟩
 have g2:Qo.getN (Qo.chargeT T 1 4) 1=Qo.chargeT T 1 4 1:=by unfold Qo.getN;rw [if_pos ⟨by omega,by omega⟩];rfl
 rw [g2]
 unfold Qo.chargeT
 rw [if_pos m]
 show (Qo.putT T 1 ((T 1).plus 4) 1).used=5
 rw [Qo.put_same]
 show (T 1).used+4=5
 rw [h2];rfl
theorem one_map {O:Nat->Nat} {W:World} {M:Fb} {T:Nat->Qo.Nd} (h:Fm O 1 W M ⟨2,0,[0]⟩ T 59 ⟨1,none,0,[],fun _=>none,fun _ _=>0,fun _ _=>none⟩):Calls Tryz.prog 5 #[pp M.mb,.agg #[.int .u64 1,.int .u64 0,.int .u64 4,.int .u64 1,.int .u64 0,.int .u64 0]] W fun e w'=>e=.returned (.agg #[.int .i64 0,.int .u64 0,.int .i64 0,.int .u64 0,.int .i64 0,.bool false])/\Tx O W (fun O' w=> ∃ p' c',Fm O' 1 w M ⟨2,0,[0]⟩ T 59 ⟨1,p',c',[⟨0,4,true,true,false,0⟩],fun _=>none,fun _ _=>0,fun _ _=>none⟩) w' :=
 do_map h rfl ⟨1,0,4,1,0,0⟩ (wf_lit 1 0 4 1 (by omega) (by omega) (by omega) (by omega)) 0 4 true true false 0 0 0 0 0 0 0 4 (by rfl) (by omega) (fun i h1 h2=>by
  have:i=4\/i=5:=by omega
  rcases this with rfl | rfl <;> rfl) [⟨0,4,true,true,false,0⟩] (add_first 0 4 true true false (by omega) (by omega) (by omega) (by omega)).1 (by
  unfold Re.outL
  rw [if_pos (add_first 0 4 true true false (by omega) (by omega) (by omega) (by omega)).1]
  exact (add_first 0 4 true true false (by omega) (by omega) (by omega) (by omega)).2) (by simp)
theorem one_store {O:Nat->Nat} {W:World} {M:Fb} {T:Nat->Qo.Nd} {p':Option Addr} {c':Nat} (h:Fm O 1 W M ⟨2,0,[0]⟩ T 59 ⟨1,p',c',[⟨0,4,true,true,false,0⟩],fun _=>none,fun _ _=>0,fun _ _=>none⟩) (m:Qo.mayN T 1 4=0):Calls Tryz.prog 5 #[pp M.mb,.agg #[.int .u64 5,.int .u64 8,.int .u64 8,.int .u64 5,.int .u64 0,.int .u64 0]] W fun e w'=>e=.returned (.agg #[.int .i64 0,.int .u64 0,.int .i64 0,.int .u64 0,.int .i64 0,.bool false])/\Tx O W (fun O' w=> ∃ c,Fm O' 7 w M ⟨2,0,[0]⟩ (Qo.chargeT T 1 4) 59 ⟨1,p',c',[⟨0,4,true,true,false,0⟩],put (fun _=>none) 0 (some c),fun y9=>if y9=c then cset (fun _=>0) 8 8 5 else fun _=>0,bumpN 0 0 0 (fun _ _=>none) 3⟩) w':=by
 have fc:costN ((0:Int) / 512) (0 / 262144) (0 / 134217728) (fun _ _=>none) 3=4:=fresh_cost 0
 have q:=do_new h rfl ⟨5,8,8,5,0,0⟩ (wf_lit 5 8 8 5 (by omega) (by omega) (by omega) (by omega)) 0 0 false false false 8 8 5 0 0 0 0 4 (by rfl) (by omega) (fun i h1 h2=>by
  have:i=4\/i=5:=by omega
  rcases this with rfl | rfl <;> rfl) 0 rfl (by omega) (by omega) (by omega) (by omega) (by omega) (by omega) (by omega) 0 4 0 false (by
  show Re.findR [_] 0=_
  unfold Re.findR
  rw [if_pos ⟨by show (0:Int)<=0;omega,by show (0:Int)<4;omega⟩]) rfl (by show Qo.mayN T 1 (costN ((0:Int) / 512) (0 / 262144) (0 / 134217728) (fun _ _=>none) 3)=0;rw [fc];exact m) (by omega)
 refine Calls.mono q ?_
 rintro e w' ⟨he,O',⟨c,hF⟩,r⟩
 refine ⟨he,O',⟨c,?_⟩,r⟩
 have hF2:Fm O' 7 w' M ⟨2,0,[0]⟩ (Qo.chargeT T 1 (costN ((0:Int) / 512) (0 / 262144) (0 / 134217728) (fun _ _=>none) 3)) 59 ⟨1,p',c',[⟨0,4,true,true,false,0⟩],put (fun _=>none) 0 (some c),fun y9=>if y9=c then cset (fun _=>0) 8 8 5 else fun _=>0,bumpN 0 0 0 (fun _ _=>none) 3⟩:=hF
 rw [fc] at hF2;exact hF2
theorem one_load {O:Nat->Nat} {W:World} {M:Fb} {T:Nat->Qo.Nd} {p':Option Addr} {c' c:Nat} (h:Fm O 7 W M ⟨2,0,[0]⟩ T 59 ⟨1,p',c',[⟨0,4,true,true,false,0⟩],put (fun _=>none) 0 (some c),fun y9=>if y9=c then cset (fun _=>0) 8 8 5 else fun _=>0,bumpN 0 0 0 (fun _ _=>none) 3⟩):Calls Tryz.prog 5 #[pp M.mb,.agg #[.int .u64 4,.int .u64 8,.int .u64 8,.int .u64 0,.int .u64 0,.int .u64 0]] W fun e w'=>e=.returned (.agg #[.int .i64 0,.int .u64 5,.int .i64 0,.int .u64 0,.int .i64 0,.bool false])/\Tx O W (fun O' w=>Fm O' 7 w M ⟨2,0,[0]⟩ T 59 ⟨1,p',c',[⟨0,4,true,true,false,0⟩],put (fun _=>none) 0 (some c),fun y9=>if y9=c then cset (fun _=>0) 8 8 5 else fun _=>0,bumpN 0 0 0 (fun _ _=>none) 3⟩) w':=by
 have lf:=le_five
 have q:=do_load h rfl ⟨4,8,8,0,0,0⟩ (wf_lit 4 8 8 0 (by omega) (by omega) (by omega) (by omega)) 0 0 false false false 8 8 0 0 0 0 0 3 (by rfl) (by omega) (fun i h1 h2=>by
  have:i=3\/i=4\/i=5:=by omega
  rcases this with rfl | rfl | rfl <;> rfl) 0 rfl (by omega) (by omega) (by omega) (by omega) (by omega) 0 4 0 true false (by
  show Re.findR [_] 0=_
  unfold Re.findR
  rw [if_pos ⟨by show (0:Int)<=0;omega,by show (0:Int)<4;omega⟩]) c (by show (if (0:Int)=0 then some c else none)=some c;exact if_pos rfl)
 refine Calls.mono q ?_
 rintro e w' ⟨he,r⟩
 refine ⟨?_,r⟩
 have lg:le ((fun y9=>if y9=c then cset (fun _=>0) 8 8 5 else fun _=>0:Nat->Nat->Int) c) ((8:Int) % 4096).toNat (8:Int).toNat=5:=by
  show le (if c=c then cset (fun _=>0) 8 8 5 else fun _=>0) 8 8=5
  rw [if_pos rfl,lf]
 rw [he]
 exact congrArg (fun z=>Ending.returned (.agg #[.int .i64 0,.int .u64 z,.int .i64 0,.int .u64 0,.int .i64 0,.bool false])) lg
set_option maxHeartbeats 4000000 in
theorem awake_any (w:World):Calls Tryz.prog 7 #[] w fun e w'=>e=.returned (.bool true)/\Below w.heap.size w w':=by
 have BO:=boot_ok 59 2 2 (by omega) (by omega) (by omega) (by omega) (by omega) w
 have BH:Hid (Calls Tryz.prog 10 #[.int .i64 59,.int .i64 2,.int .i64 2] w _):=BO
 clear BO
 go_enter Tryz.func7,Tryz.ntmps7
 go_wp2_with fail
 refine Calls.mono BH.out ?_
 rintro e u0 ⟨O0,M,T,rfl,hF,h1,h2,h3,hO,hb⟩
 have RF:=room_four h1 h2 h3
 have E0:Hid (Low O0 w u0/\Qo.mayN T 1 4=0/\(Qo.getN (Qo.chargeT T 1 4) 1).used=5):=⟨⟨hb,hO⟩,RF⟩
 have D1:Hid (Calls Tryz.prog 5 #[pp M.mb,.agg #[.int .u64 1,.int .u64 0,.int .u64 4,.int .u64 1,.int .u64 0,.int .u64 0]] u0 fun e w'=>e=.returned (.agg #[.int .i64 0,.int .u64 0,.int .i64 0,.int .u64 0,.int .i64 0,.bool false])/\Tx O0 u0 (fun O' w=> ∃ p' c',Fm O' 1 w M ⟨2,0,[0]⟩ T 59 ⟨1,p',c',[⟨0,4,true,true,false,0⟩],fun _=>none,fun _ _=>0,fun _ _=>none⟩) w'):=one_map hF
 clear hF h1 h2 h3 hO hb RF BH
 go_wp2_with fail
 refine Calls.mono D1.out ?_
 rintro e u1 ⟨rfl,O1,⟨p',c',hF⟩,e1,l1,k1⟩
 have s1:Below u1.heap.size u1 (u1.alloc (.cells #[.int .i64 0,.int .u64 0,.int .i64 0,.int .u64 0,.int .i64 0,.bool false] 39)):=Go.Joins.below_alloc1 _ _
 have E1:Hid (Low O1 w (u1.alloc (.cells #[.int .i64 0,.int .u64 0,.int .i64 0,.int .u64 0,.int .i64 0,.bool false] 39))/\Bx O1 (u1.alloc (.cells #[.int .i64 0,.int .u64 0,.int .i64 0,.int .u64 0,.int .i64 0,.bool false] 39)) u1.heap.size [.int .i64 0,.int .u64 0,.int .i64 0,.int .u64 0,.int .i64 0,.bool false] 39):=⟨(E0.out.1.on e1 k1).below s1,Bx.made l1 _ _⟩
 have D2:Hid (Calls Tryz.prog 5 #[pp M.mb,.agg #[.int .u64 5,.int .u64 8,.int .u64 8,.int .u64 5,.int .u64 0,.int .u64 0]] (u1.alloc (.cells #[.int .i64 0,.int .u64 0,.int .i64 0,.int .u64 0,.int .i64 0,.bool false] 39)) fun e w'=>e=.returned (.agg #[.int .i64 0,.int .u64 0,.int .i64 0,.int .u64 0,.int .i64 0,.bool false])/\Tx O1 (u1.alloc (.cells #[.int .i64 0,.int .u64 0,.int .i64 0,.int .u64 0,.int .i64 0,.bool false] 39)) (fun O' w=> ∃ c,Fm O' 7 w M ⟨2,0,[0]⟩ (Qo.chargeT T 1 4) 59 ⟨1,p',c',[⟨0,4,true,true,false,0⟩],put (fun _=>none) 0 (some c),fun y9=>if y9=c then cset (fun _=>0) 8 8 5 else fun _=>0,bumpN 0 0 0 (fun _ _=>none) 3⟩) w'):=one_store (hF.below s1) E0.out.2.1
 clear hF e1 l1 k1 s1 D1
 go_wp2_with fail
 refine Calls.mono D2.out ?_
 rintro e u2 ⟨rfl,O2,⟨c,hF⟩,e1,l1,k1⟩
 have s1:Below u2.heap.size u2 (u2.alloc (.cells #[.int .i64 0,.int .u64 0,.int .i64 0,.int .u64 0,.int .i64 0,.bool false] 39)):=Go.Joins.below_alloc1 _ _
 have E2:Hid (Low O2 w (u2.alloc (.cells #[.int .i64 0,.int .u64 0,.int .i64 0,.int .u64 0,.int .i64 0,.bool false] 39))/\Bx O2 (u2.alloc (.cells #[.int .i64 0,.int .u64 0,.int .i64 0,.int .u64 0,.int .i64 0,.bool false] 39)) u1.heap.size [.int .i64 0,.int .u64 0,.int .i64 0,.int .u64 0,.int .i64 0,.bool false] 39/\Bx O2 (u2.alloc (.cells #[.int .i64 0,.int .u64 0,.int .i64 0,.int .u64 0,.int .i64 0,.bool false] 39)) u2.heap.size [.int .i64 0,.int .u64 0,.int .i64 0,.int .u64 0,.int .i64 0,.bool false] 39):=⟨(E1.out.1.on e1 k1).below s1,(E1.out.2.on e1 k1).below s1,Bx.made l1 _ _⟩
 have D3:Hid (Calls Tryz.prog 5 #[pp M.mb,.agg #[.int .u64 4,.int .u64 8,.int .u64 8,.int .u64 0,.int .u64 0,.int .u64 0]] (u2.alloc (.cells #[.int .i64 0,.int .u64 0,.int .i64 0,.int .u64 0,.int .i64 0,.bool false] 39)) fun e w'=>e=.returned (.agg #[.int .i64 0,.int .u64 5,.int .i64 0,.int .u64 0,.int .i64 0,.bool false])/\Tx O2 (u2.alloc (.cells #[.int .i64 0,.int .u64 0,.int .i64 0,.int .u64 0,.int .i64 0,.bool false] 39)) (fun O' w=>Fm O' 7 w M ⟨2,0,[0]⟩ (Qo.chargeT T 1 4) 59 ⟨1,p',c',[⟨0,4,true,true,false,0⟩],put (fun _=>none) 0 (some c),fun y9=>if y9=c then cset (fun _=>0) 8 8 5 else fun _=>0,bumpN 0 0 0 (fun _ _=>none) 3⟩) w'):=one_load (hF.below s1)
 clear hF e1 l1 k1 s1 D2 E1
 go_wp2_with fail
 refine Calls.mono D3.out ?_
 rintro e u3 ⟨rfl,O3,hF,e1,l1,k1⟩
 have s1:Below u3.heap.size u3 (u3.alloc (.cells #[.int .i64 0,.int .u64 5,.int .i64 0,.int .u64 0,.int .i64 0,.bool false] 39)):=Go.Joins.below_alloc1 _ _
 have E3:Hid (Low O3 w (u3.alloc (.cells #[.int .i64 0,.int .u64 5,.int .i64 0,.int .u64 0,.int .i64 0,.bool false] 39))/\Bx O3 u3 u1.heap.size [.int .i64 0,.int .u64 0,.int .i64 0,.int .u64 0,.int .i64 0,.bool false] 39/\Bx O3 u3 u2.heap.size [.int .i64 0,.int .u64 0,.int .i64 0,.int .u64 0,.int .i64 0,.bool false] 39):=⟨(E2.out.1.on e1 k1).below s1,E2.out.2.1.on e1 k1,E2.out.2.2.on e1 k1⟩
 have US:Hid (Calls Tryz.prog 9 #[pp M.mb,.int .i64 0] (u3.alloc (.cells #[.int .i64 0,.int .u64 5,.int .i64 0,.int .u64 0,.int .i64 0,.bool false] 39)) fun e w'=>e=.returned (.int .i64 5)/\Below (u3.alloc (.cells #[.int .i64 0,.int .u64 5,.int .i64 0,.int .u64 0,.int .i64 0,.bool false] 39)).heap.size (u3.alloc (.cells #[.int .i64 0,.int .u64 5,.int .i64 0,.int .u64 0,.int .i64 0,.bool false] 39)) w'):=by
  refine Calls.mono (used_ok (hF.below s1)) ?_
  rintro e w' ⟨he,hb⟩
  exact ⟨he.trans (congrArg (fun z=>Ending.returned (.int .i64 z)) E0.out.2.2),hb⟩
 clear hF e1 l1 k1 s1 D3 E2
 have c1:u3.cell? ⟨u1.heap.size,2,none⟩=some (.int .i64 0):=E3.out.2.1.1.cell 2
 have c2:u3.cell? ⟨u2.heap.size,2,none⟩=some (.int .i64 0):=E3.out.2.2.1.cell 2
 have lt1:u1.heap.size<u3.heap.size:=E3.out.2.1.1.lt
 have lt2:u2.heap.size<u3.heap.size:=E3.out.2.2.1.lt
 go_wp2_with fail
 refine Calls.mono US.out ?_
 rintro e u4 ⟨rfl,hb⟩
 have E4:Hid (Below w.heap.size w u4):=below_then E3.out.1.1 hb
 clear hb E3 US c1 c2 lt1 lt2
 go_wp2_with fail
 go_returns
 exact ⟨rfl,E4.out⟩
end Go.Proofs.YtlaiadheelgbdaaGreat.Fl
