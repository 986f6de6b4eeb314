import Derived.Test.YtgbdnnkkcpkhdaaGreatDoorKZc
import Derived.Test.YtgbdnnkkcpkhdaaGreatDoorCYc
import Derived.Test.YtgbdnnkkcpkhdaaGreatDoorWBc
import Derived.Shelf.SlicesE.Clone
import Derived.Ground.SlgnProg
import Derived.Deep.Upon
import Derived.Laws.Bits64b
set_option linter.unusedSimpArgs false
set_option linter.unusedVariables false
set_option maxRecDepth 8000
set_option maxHeartbeats 4000000
open Go.Proofs.YtgbdnnkkcpkhdaaGreatDoor.Tt
namespace Go.Proofs.YtgbdnnkkcpkhdaaGreatDoor.Sp
open Go.ChangeShapes Go.WideShapes Go.ChangeAt Go.RowKit Go.Maps
theorem rep18:Array.replicate 18 undef= #[undef,undef,undef,undef,undef,undef,undef,undef,undef,undef,undef,undef,undef,undef,undef,undef,undef,undef]:=rfl
theorem idle_c (p q r:Addr) (w:World) :
 CallsD Tryz.prog 15 #[.pointer (some p),.pointer (some q),.pointer (some r)] .returning w fun e u' w'=>e=.returned (.tuple #[])/\u'=.returning/\w'=w:=by
 refine callsD_of_wpS Tryz.func15 rfl fun c₀ cs hu=> ?_
 apply wpS_seq
 apply wpS_region
 simp [wpOpsS,go_sem,recoverD,hu,Tryz.ntmps15,Exit.thenS]
 apply wpS_seq
 apply wpS_seq
 apply wpS_region
 simp [wpOpsS,go_sem,Exit.thenS]
 refine wpS_cond (t:=true) (by simp [Act.eval,Array.replicate]) ?_
 simp only [if_true]
 refine wpS_of_wp (wp_ret ?_)
 cases c₀
 simp_all [bodyPostS,results,Tryz.results15,Exit.thenS]
structure Vr (w:World) (vb gb eb:Nat) (r ad cd er:Int):Prop where
 v:Blk w vb [.int .u64 r] 23
 g:Blk w gb [.int .u64 ad,.int .i64 cd] 47
 e:Blk w eb [.int .i64 er] 37
theorem Vr.below {w w':World} {vb gb eb:Nat} {r ad cd er:Int} (h:Vr w vb gb eb r ad cd er) (b:bc w w'):Vr w' vb gb eb r ad cd er:=⟨h.v.below b,h.g.below b,h.e.below b⟩
theorem catch_c (vb gb eb:Nat) (ad cd er:Int) (w:World) (h:Vr w vb gb eb 0 0 0 0) (n1:vb≠gb) (n2:vb≠eb) (n3:gb≠eb) :
 CallsD Tryz.prog 15 #[.pointer (some ⟨vb,0,none⟩),.pointer (some ⟨gb,0,none⟩),.pointer (some ⟨eb,0,none⟩)] (.panicking [refc ad cd er]) w fun e u' w'=>e=.returned (.tuple #[])/\u'=.panicking [{ (refc ad cd er) with recovered:=true }] /\
  Vr w' vb gb eb 0 ad cd er/\Kept (fun k=>k<w.heap.size/\k≠vb/\k≠gb/\k≠eb) w w':=by
 have heq: ∀ (x:Value) (W:World),(binOp .eql 20 (.iface 77 x) .nilIface).run Tryz.prog W=.ok (.bool false) W:=fun _ _=>by kernel_rfl
 have hta: ∀ (W:World),(Instr.typeAssert (.iface 77 (.agg #[.int .u64 ad,.int .i64 cd,.int .i64 er])) 20 77 true).run Tryz.prog W=.ok (.tuple #[.agg #[.int .u64 ad,.int .i64 cd,.int .i64 er],.bool true]) W:=fun _=>by kernel_rfl
 have H0:Hid (Vr w vb gb eb 0 0 0 0):=h
 have NE:Hid (vb≠gb/\vb≠eb/\gb≠eb):=⟨n1,n2,n3⟩
 clear h n1 n2 n3
 unfold refc
 refine callsD_of_wpS Tryz.func15 rfl fun c₀ cs hu=> ?_
 apply wpS_seq
 apply wpS_region
 simp [wpOpsS,go_sem,recoverD,hu,Tryz.ntmps15,Exit.thenS]
 apply wpS_seq
 apply wpS_seq
 apply wpS_region
 simp [wpOpsS,go_sem,Exit.thenS,heq]
 refine wpS_cond (t:=false) (by simp [Act.eval,Array.replicate]) ?_
 simp only [Bool.false_eq_true,if_false]
 refine wpS_of_wp (wp_skip ?_)
 simp only [rep18,Exit.thenS,List.setIfInBounds_toArray,List.set_cons_zero,List.set_cons_succ,List.append_toArray,List.cons_append,List.nil_append]
 refine wpS_of_wp ?_
 go_wp2_with fail
 have HB:Hid (Blk (w.alloc (.cells #[.int .u64 ad,.int .i64 cd,.int .i64 er] 77)) w.heap.size [.int .u64 ad,.int .i64 cd,.int .i64 er] 77/\Vr (w.alloc (.cells #[.int .u64 ad,.int .i64 cd,.int .i64 er] 77)) vb gb eb 0 0 0 0/\Kept (fun k=>k<w.heap.size/\k≠vb/\k≠gb/\k≠eb) w (w.alloc (.cells #[.int .u64 ad,.int .i64 cd,.int .i64 er] 77))):=⟨Blk.made _ _ _,H0.out.below baa,kept_of_below (Go.Joins.below_alloc1 w _) fun j hj=>hj.1⟩
 have NB:Hid (vb≠w.heap.size/\gb≠w.heap.size/\eb≠w.heap.size):=⟨by have:=H0.out.v.lt;omega,by have:=H0.out.g.lt;omega,by have:=H0.out.e.lt;omega⟩
 generalize w.alloc (.cells #[.int .u64 ad,.int .i64 cd,.int .i64 er] 77)=W0 at HB |-
 obtain ⟨q,hq⟩: ∃ q,q=w.heap.size:=⟨_,rfl⟩
 rw [<- hq] at HB NB |-
 have HQ:Hid (q=w.heap.size):=hq
 clear hq H0
 refine hda (fun cw=>Blk cw q [.int .u64 ad,.int .i64 cd,.int .i64 er] 77) HB.out.1 fun hHeld=> ?_
 have H1:Hid (Vr W0.drew vb gb eb 0 0 0 0/\Kept (fun k=>k<q/\k≠vb/\k≠gb/\k≠eb) w W0.drew):=⟨⟨HB.out.2.1.v,HB.out.2.1.g,HB.out.2.1.e⟩,HB.out.2.2.trans ⟨rfl,rfl,rfl,Nat.le_refl _,fun _ _=>rfl⟩⟩
 clear HB
 generalize W0.drew=U at hHeld H1 |-
 refine tma 0 17 rfl ?_
 refine tla 1 18 (.agg #[.int .u64 ad,.int .i64 cd]) rfl ?_ ?_
 . intro w hSw;(try dsimp only at hSw);have r0:=Blk.cell hSw 0;have r1:=Blk.cell hSw 1;(try go_simp);(try simp [*])
 refine tma 2 19 rfl ?_
 refine tla 3 20 (.int .i64 er) rfl ?_ ?_
 . intro w hSw;(try dsimp only at hSw);have r0:=Blk.cell hSw 2;(try go_simp);(try simp [*])
 refine rda 4 ⟨none,.store 23 (.tmp 0) (.const (.int .u64 0)),_,_,_,none⟩ rfl fun K hK=> ?_
 have c2:U.cell? ⟨vb,0,none⟩=some (.int .u64 0):=H1.out.1.v.cell 0
 have f2:U.frozen? ⟨vb,0,none⟩=false:=H1.out.1.v.free 0
 go_simp
 clear c2 f2
 have H2:Hid (Vr (U.setCell ⟨vb,0,none⟩ (.int .u64 0)) vb gb eb 0 0 0 0/\Kept (fun k=>k<q/\k≠vb/\k≠gb/\k≠eb) w (U.setCell ⟨vb,0,none⟩ (.int .u64 0))/\Blk (U.setCell ⟨vb,0,none⟩ (.int .u64 0)) q [.int .u64 ad,.int .i64 cd,.int .i64 er] 77):=by
  have hg:=Qu.grown_setCells vb [.int .u64 0] 0 U
  exact ⟨⟨(show Blk (U.setCells vb 0 [.int .u64 0]) vb [.int .u64 0] 23 from H1.out.1.v.put rfl),(hg.block _ H1.out.1.g.lt (fun c=>by have:=sia c;have:=NE.out;omega)).trans H1.out.1.g,(hg.block _ H1.out.1.e.lt (fun c=>by have:=sia c;have:=NE.out;omega)).trans H1.out.1.e⟩,H1.out.2.trans (kept_one hg fun k hk=>⟨hk.2.1,by have:=HQ.out;have:=hk.1;have:=H1.out.2.size;omega⟩),(hg.block _ hHeld.lt (fun c=>by have:=sia c;have:=NB.out;omega)).trans hHeld⟩
 refine hK.out _ _ H2.out.2.2 (fun hHeld2=> ?_)
 clear hK K hHeld H1
 generalize U.setCell ⟨vb,0,none⟩ (.int .u64 0)=U1 at hHeld2 H2 |-
 have hHeld:=hHeld2
 clear hHeld2
 try simp only [Act.put,zaa,zba,zca]
 refine rda 5 ⟨none,.store 47 (.tmp 1) (.tmp 18),_,_,_,none⟩ rfl fun K hK=> ?_
 refine wanted_mp rfl ?_
 refine wp_store_mid _ _ _ rfl gb 0 #[.int .u64 ad,.int .i64 cd] rfl rfl H2.out.1.g.there ka kr ?_
 (try simp only [List.toList_toArray])
 have H3:Hid (Vr (U1.setCells gb 0 [.int .u64 ad,.int .i64 cd]) vb gb eb 0 ad cd 0/\Kept (fun k=>k<q/\k≠vb/\k≠gb/\k≠eb) w (U1.setCells gb 0 [.int .u64 ad,.int .i64 cd])/\Blk (U1.setCells gb 0 [.int .u64 ad,.int .i64 cd]) q [.int .u64 ad,.int .i64 cd,.int .i64 er] 77):=by
  have hg:=Qu.grown_setCells gb [.int .u64 ad,.int .i64 cd] 0 U1
  exact ⟨⟨(hg.block _ H2.out.1.v.lt (fun c=>by have:=sia c;have:=NE.out;omega)).trans H2.out.1.v,(show Blk (U1.setCells gb 0 [.int .u64 ad,.int .i64 cd]) gb [.int .u64 ad,.int .i64 cd] 47 from H2.out.1.g.put rfl),(hg.block _ H2.out.1.e.lt (fun c=>by have:=sia c;have:=NE.out;omega)).trans H2.out.1.e⟩,H2.out.2.1.trans (kept_one hg fun k hk=>⟨hk.2.2.1,by have:=HQ.out;have:=hk.1;have:=H2.out.2.1.size;omega⟩),(hg.block _ hHeld.lt (fun c=>by have:=sia c;have:=NB.out;omega)).trans hHeld⟩
 refine hK.out _ _ H3.out.2.2 (fun hHeld2=> ?_)
 clear hK K hHeld H2
 generalize U1.setCells gb 0 [.int .u64 ad,.int .i64 cd]=U2 at hHeld2 H3 |-
 have hHeld:=hHeld2
 clear hHeld2
 try simp only [Act.put,zaa,zba,zca]
 refine rda 6 ⟨none,.store 37 (.tmp 2) (.tmp 20),_,_,_,none⟩ rfl fun K hK=> ?_
 have c2:U2.cell? ⟨eb,0,none⟩=some (.int .i64 0):=H3.out.1.e.cell 0
 have f2:U2.frozen? ⟨eb,0,none⟩=false:=H3.out.1.e.free 0
 go_simp
 clear c2 f2
 have H4:Hid (Vr (U2.setCell ⟨eb,0,none⟩ (.int .i64 er)) vb gb eb 0 ad cd er/\Kept (fun k=>k<q/\k≠vb/\k≠gb/\k≠eb) w (U2.setCell ⟨eb,0,none⟩ (.int .i64 er))/\Blk (U2.setCell ⟨eb,0,none⟩ (.int .i64 er)) q [.int .u64 ad,.int .i64 cd,.int .i64 er] 77):=by
  have hg:=Qu.grown_setCells eb [.int .i64 er] 0 U2
  exact ⟨⟨(hg.block _ H3.out.1.v.lt (fun c=>by have:=sia c;have:=NE.out;omega)).trans H3.out.1.v,(hg.block _ H3.out.1.g.lt (fun c=>by have:=sia c;have:=NE.out;omega)).trans H3.out.1.g,(show Blk (U2.setCells eb 0 [.int .i64 er]) eb [.int .i64 er] 37 from H3.out.1.e.put rfl)⟩,H3.out.2.1.trans (kept_one hg fun k hk=>⟨hk.2.2.2,by have:=HQ.out;have:=hk.1;have:=H3.out.2.1.size;omega⟩),(hg.block _ hHeld.lt (fun c=>by have:=sia c;have:=NB.out;omega)).trans hHeld⟩
 refine hK.out _ _ H4.out.2.2 (fun hHeld2=> ?_)
 clear hK K hHeld H3
 generalize U2.setCell ⟨eb,0,none⟩ (.int .i64 er)=U3 at hHeld2 H4 |-
 have hHeld:=hHeld2
 clear hHeld2
 try simp only [Act.put,zaa,zba,zca]
 clear hHeld
 refine wpAnyH_done ka ?_ _
 refine NoPanic.normal ?_
 have HE:=H4.out
 rw [HQ.out] at HE
 clear heq hta NE NB H4
 simp (config:={ zetaDelta:=true }) only [bodyPostS]
 exact ⟨trivial,_,rfl,_,results_none rfl _ _ _,rfl,rfl,HE.1,HE.2.1⟩
theorem load_u64 (W:World) (b:Nat) (r:Int) (h:W.cell? ⟨b,0,none⟩=some (.int .u64 r)):(loadVar 23 ⟨b,0,none⟩).run Tryz.prog W=.ok (.int .u64 r) W:=by
 simp [loadVar,go_sem,h]
theorem do_res {vb gb eb:Nat} (X:World) (r ad cd er:Int) (tmps:Array Value) (h12:tmps.getD 12 undef=.pointer (some ⟨vb,0,none⟩)) (h13:tmps.getD 13 undef=.pointer (some ⟨gb,0,none⟩)) (h14:tmps.getD 14 undef=.pointer (some ⟨eb,0,none⟩)) (h:Vr X vb gb eb r ad cd er):(results Tryz.f9 tmps).run Tryz.prog X=.ok (.tuple #[.int .u64 r,.agg #[.int .u64 ad,.int .i64 cd],.int .i64 er]) X :=
 results_cell3 Tryz.results9 tmps Tryz.prog X _ _ _ _ _ _ h12 h13 h14 (load_u64 X _ r (h.v.cell 0)) (run_loadVar_mid X _ 0 47 _ _ h.g.range Tryz.underlying47 rfl fault_info) (load_errno X _ er (h.e.cell 0))
theorem do_end {vb gb eb:Nat} (X:World) (r ad cd er:Int) (tmps:Array Value) (R:Ending->World->Prop) (h12:tmps.getD 12 undef=.pointer (some ⟨vb,0,none⟩)) (h13:tmps.getD 13 undef=.pointer (some ⟨gb,0,none⟩)) (h14:tmps.getD 14 undef=.pointer (some ⟨eb,0,none⟩)) (h:Vr X vb gb eb r ad cd er)
 (hR:R (.returned (.tuple #[.int .u64 r,.agg #[.int .u64 ad,.int .i64 cd],.int .i64 er])) X) :
 bodyPostD Tryz.prog Tryz.f9 R Exit.ret { tmps:=tmps,defers:=[{ target:=Target.fn (Fn.func 15) #[.pointer (some ⟨vb,0,none⟩),.pointer (some ⟨gb,0,none⟩),.pointer (some ⟨eb,0,none⟩)],args:= #[] }] } X:=by
 refine leaves_cons (f:=15) (args:= #[.pointer (some ⟨vb,0,none⟩),.pointer (some ⟨gb,0,none⟩),.pointer (some ⟨eb,0,none⟩)]) (by simp) (by simp [go_sem]) ?_
 refine (idle_c _ _ _ _).mono ?_
 rintro e u' w'' ⟨rfl,rfl,rfl⟩
 exact ⟨_,do_res w'' r ad cd er tmps h12 h13 h14 h,hR⟩
theorem do_door {vb gb eb:Nat} (X:World) (ad cd er:Int) (tmps:Array Value) (R:Ending->World->Prop) (h12:tmps.getD 12 undef=.pointer (some ⟨vb,0,none⟩)) (h13:tmps.getD 13 undef=.pointer (some ⟨gb,0,none⟩)) (h14:tmps.getD 14 undef=.pointer (some ⟨eb,0,none⟩)) (h:Vr X vb gb eb 0 0 0 0) (n1:vb≠gb) (n2:vb≠eb) (n3:gb≠eb)
 (hR: ∀ X',Kept (fun k=>k<X.heap.size/\k≠vb/\k≠gb/\k≠eb) X X'->R (.returned (.tuple #[.int .u64 0,.agg #[.int .u64 ad,.int .i64 cd],.int .i64 er])) X') :
 bodyPostD Tryz.prog Tryz.f9 R (Exit.panic [refc ad cd er]) { tmps:=tmps,defers:=[{ target:=Target.fn (Fn.func 15) #[.pointer (some ⟨vb,0,none⟩),.pointer (some ⟨gb,0,none⟩),.pointer (some ⟨eb,0,none⟩)],args:= #[] }] } X:=by
 refine leaves_cons (f:=15) (args:= #[.pointer (some ⟨vb,0,none⟩),.pointer (some ⟨gb,0,none⟩),.pointer (some ⟨eb,0,none⟩)]) (by simp) (by simp [go_sem]) ?_
 refine (catch_c vb gb eb ad cd er X h n1 n2 n3).mono ?_
 rintro e u' w'' ⟨rfl,rfl,hv,hk⟩
 exact ⟨_,do_res w'' 0 ad cd er tmps h12 h13 h14 hv,hR w'' hk⟩
section
variable {Y K:Nat->Prop} {O:Nat->Nat} {n:Nat} {W w w':World} {L:List (Nat × List Value × TypeId)} {cb:Nat} {M:Mb} {m:Pm} {s:Ps} {T:Nat->Tl.Ln} {S:Pc.Tg} {a:Sr} {J R:Nat}
theorem Fx.choose (h:Fx Y K W L O n w cb M m s T S a J R):Calls Tryz.prog 17 #[pp cb] w fun e w'=> ∃ (y:Int) (T':Nat->Tl.Ln),e=.returned (.int .i64 y)/\(-1<=y/\y<=1)/\Fx Y (fun j=>K j/\j≠cb) W L O n w' cb M m s T' S a J R:=by
 obtain ⟨Y',h1,h2,h3⟩:=h.is
 refine h3.choose.mono ?_
 rintro e w' ⟨y,T',he,hy,c⟩
 have lc:=h.lt cb h.c0.y
 refine ⟨y,T',he,hy,h.y0,fun j hj=>h.ky j hj.1,c.z Y h1 h.c0,h.lt,(h.k.sub fun j hj=>hj.1).trans (c.k.sub fun j hj=>⟨h1 j (h.ky j hj.1),hj.2⟩),h.nd,Y',h1,fun e he=>⟨(h2 e he).1,(h2 e he).2.1,?_⟩,c.c⟩
 exact (h2 e he).2.2.kx c.k ⟨(h2 e he).1,by have:=(h2 e he).2.1;omega⟩
theorem Fx.frame (h:Fx Y K W L O n w cb M m s T S a J R) (hJ:J<800000) {p:Nat} (hp:p<=2) {R':Nat} (x:Bool) (hr:p<2->(a.lf p=none/\R=R'+1)\/((∃ f:Nat,a.lf p=some ⟨f,true,true,false⟩)/\R=R')) (hx:p=2->x=false) (A z:Int) (a0:0<=A) (ha:A / 4096=p) (y:Int) (hy: -1<=y/\y<=1) :
 Calls Tryz.prog 18 #[pp cb,nm A z,av x,.int .i64 y] w fun e w'=>(p<2/\ ∃ (f n':Nat) (s':Ps) (T':Nat->Tl.Ln) (S':Pc.Tg) (a':Sr),e=.returned (.int .i64 f)/\Fx Y K W L O n' w' cb M m s' T' S' a' (J+3) R'/\a'.lf p=some ⟨f,true,true,false⟩/\ ∀ f0 B,Dt m s a p f0 B->Dt m s' a' p f0 B)\/(p=2/\e=.panicked [refc A 4 9]/\Kx K W w'/\w.heap.size<=w'.heap.size/\ ∀ e∈L,Blk w' e.1 e.2.1 e.2.2):=by
 obtain ⟨Y',h1,h2,h3⟩:=h.is
 refine (h3.frame hJ hp x hr hx A z a0 ha y hy).mono ?_
 rintro e w' (⟨lp,f,he,n',s',T',S',a',q1,q2,q3,q4⟩ | ⟨lp,he,q3⟩)
 . exact Or.inl ⟨lp,f,n',s',T',S',a',he,⟨h.y0,h.ky,h.c0.kept (q3.sub h1),h.lt,h.k.trans (q3.sub fun j hj=>h1 j (h.ky j hj)),h.nd,Y',h1,fun j hj=>⟨(h2 j hj).1,(h2 j hj).2.1,(h2 j hj).2.2.kx q3 (h2 j hj).1⟩,q2⟩,q1,q4⟩
 . exact Or.inr ⟨lp,he,h.k.trans (q3.sub fun j hj=>h1 j (h.ky j hj)),q3.size,fun j hj=>(h2 j hj).2.2.kx q3 (h2 j hj).1⟩
theorem Fx.move (h:Fx Y K W L O n w cb M m s T S a J R) (hJ:J<900000) {p f:Nat} {B:Int->Int} (D:Dt m s a p f B) {A z v:Int} (a0:0<=A) (hz:z=1\/z=2\/z=4\/z=8) (o1:A % 4096+z<=4096) (v0:0<=v) (v1:v<18446744073709551616) (x:Bool) :
 Calls Tryz.prog 19 #[pp cb,nm A z,.int .i64 f,.bool x,.int .u64 v] w fun e w'=> ∃ (s':Ps) (r:Int),e=.returned (.int .u64 r)/\r=(if x=true then 0 else ld B (A % 4096) z.toNat)/\Fx Y K W L O n w' cb M m s' T S a (J+1) R/\Dt m s' a p f (if x=true then mset B (A % 4096) z v else B):=by
 obtain ⟨Y',h1,h2,h3⟩:=h.is
 cases x with
 | true =>
  refine (h3.mstore hJ D a0 hz o1 v0 v1).mono ?_
  rintro e w' ⟨s',he,q1,q3,q4⟩
  exact ⟨s',0,he,rfl,⟨h.y0,h.ky,h.c0.kept (q3.sub h1),h.lt,h.k.trans (q3.sub fun j hj=>h1 j (h.ky j hj)),h.nd,Y',h1,fun j hj=>⟨(h2 j hj).1,(h2 j hj).2.1,(h2 j hj).2.2.kx q3 (h2 j hj).1⟩,q1⟩,q4⟩
 | false =>
  refine (h3.mload D v a0 hz o1).mono ?_
  rintro e w' ⟨he,q1,q3⟩
  exact ⟨s,_,he,rfl,⟨h.y0,h.ky,h.c0.kept (q3.sub h1),h.lt,h.k.trans (q3.sub fun j hj=>h1 j (h.ky j hj)),h.nd,Y',h1,fun j hj=>⟨(h2 j hj).1,(h2 j hj).2.1,(h2 j hj).2.2.kx q3 (h2 j hj).1⟩,q1.le (by omega)⟩,D⟩
def Did (Y:Nat->Prop) (O:Nat->Nat) (W:World) (cb:Nat) (M:Mb) (m:Pm) (s:Ps) (a:Sr) (J R:Nat) (p:Nat) (x:Bool) (o z v r:Int) (w':World):Prop :=
 ∃ (n':Nat) (s':Ps) (T':Nat->Tl.Ln) (S':Pc.Tg) (a':Sr) (f:Nat) (B:Int->Int),Cw Y O n' w' cb M m s' T' S' a' J R/\Kx (fun j=>Y j/\j≠cb) W w'/\Dt m s' a' p f (if x=true then mset B o z v else B)/\r=(if x=true then 0 else ld B o z.toNat)/\ ∀ f0 B0,Dt m s a p f0 B0-> ∀ i,0<=i->i<4096->B i=B0 i
theorem Cw.does (h:Cw Y O n W cb M m s T S a J R) (hJ:J<700000) {p:Nat} (hp:p<=2) {R':Nat} (x:Bool) (hr:p<2->(a.lf p=none/\R=R'+1)\/((∃ f:Nat,a.lf p=some ⟨f,true,true,false⟩)/\R=R')) (hx:p=2->x=false) {A z v:Int} (a0:0<=A) (ha:A / 4096=p) (hz:z=1\/z=2\/z=4\/z=8) (hd:A % z=0) (v0:0<=v) (v1:v<18446744073709551616) :
 Calls Tryz.prog 9 #[pp cb,.int .i64 1,.int .u64 A,.int .i64 z,.bool x,.int .u64 v] W fun e w'=>(p<2/\ ∃ r:Int,e=.returned (.tuple #[.int .u64 r,.agg #[.int .u64 0,.int .i64 0],.int .i64 0])/\Did Y O W cb M m s a (J+4) R' p x (A % 4096) z v r w')\/(p=2/\e=.returned (.tuple #[.int .u64 0,.agg #[.int .u64 A,.int .i64 4],.int .i64 9])/\Kx (fun j=>Y j/\j≠cb) W w'):=by
 have hmf: ∀ (fn:Fn) (first cap:Array Value) (w:World),(Instr.makeFunc fn first cap).run Tryz.prog w=.ok (.func fn first cap) w:=fun _ _ _ _=>rfl
 have FO:Hid (∀ w:World,_):=fun w=>form_ok A z hz a0 (by omega) hd w
 have o1:A % 4096+z<=4096:=by rcases hz with rfl | rfl | rfl | rfl <;> omega
 have G0:Hid (Fx Y Y W [(W.heap.size+1+1+1,nbl A z,80),(W.heap.size+1+1,[.int .i64 0],37),(W.heap.size+1,[.int .u64 0,.int .i64 0],47),(W.heap.size,[.int .u64 0],23)] O n ((((W.alloc (.cells #[.int .u64 0] 23)).alloc (.cells #[.int .u64 0,.int .i64 0] 47)).alloc (.cells #[.int .i64 0] 37)).alloc (.cells (sf1 1 A z) 80)) cb M m s T S a J R):=by
  have q:=(((h.fx.box [.int .u64 0] 23).box [.int .u64 0,.int .i64 0] 47).box [.int .i64 0] 37).box (nbl A z) 80
  simp only [World.size_alloc] at q
  exact q
 have HX:Hid ((p<2->(a.lf p=none/\R=R'+1)\/((∃ f:Nat,a.lf p=some ⟨f,true,true,false⟩)/\R=R'))/\(p=2->x=false)/\p<=2/\J<700000):=⟨hr,hx,hp,hJ⟩
 have HA:Hid (0<=A/\A / 4096=p/\(z=1\/z=2\/z=4\/z=8)/\A % 4096+z<=4096/\0<=v/\v<18446744073709551616):=⟨a0,ha,hz,o1,v0,v1⟩
 clear h hr hx hp hJ a0 ha hz o1 v0 v1 hd
 go_enter_defers Tryz.func9,Tryz.ntmps9
 go_upto_region 3 with fail
 clear hmf
 obtain ⟨nb,hnb⟩: ∃ b,b=W.heap.size+1+1+1:=⟨_,rfl⟩
 rw [<- hnb] at G0 |-
 obtain ⟨eb,heb⟩: ∃ b,b=W.heap.size+1+1:=⟨_,rfl⟩
 rw [<- heb] at G0 |-
 obtain ⟨gb,hgb⟩: ∃ b,b=W.heap.size+1:=⟨_,rfl⟩
 rw [<- hgb] at G0 |-
 obtain ⟨vb,hvb⟩: ∃ b,b=W.heap.size:=⟨_,rfl⟩
 rw [<- hvb] at G0 |-
 have NE:Hid ((vb≠gb/\vb≠eb/\gb≠eb)/\W.heap.size<=vb/\W.heap.size<=gb/\W.heap.size<=eb):=by refine ⟨⟨?_,?_,?_⟩,?_,?_,?_⟩ <;> omega
 clear hnb heb hgb hvb
 generalize (((W.alloc (.cells #[.int .u64 0] 23)).alloc (.cells #[.int .u64 0,.int .i64 0] 47)).alloc (.cells #[.int .i64 0] 37)).alloc (.cells (sf1 1 A z) 80)=W0 at G0 |-
 have x0:W0.cell? ⟨nb,0,none⟩=some (.int .i64 1):=(G0.out.blk m0).cell 0
 have x1:W0.cell? ⟨nb,1,none⟩=some (.int .u64 A):=(G0.out.blk m0).cell 1
 have x2:W0.cell? ⟨nb,2,none⟩=some (.int .i64 z):=(G0.out.blk m0).cell 2
 go_wp2_with fail
 refine (FO.out _).mono ?_
 rintro e w1 ⟨rfl,hb1⟩
 have U1:Hid (Fx Y Y W [(nb,nbl A z,80),(eb,[.int .i64 0],37),(gb,[.int .u64 0,.int .i64 0],47),(vb,[.int .u64 0],23)] O n w1 cb M m s T S a J R):=G0.out.below hb1
 clear hb1 G0 FO x0 x1 x2
 go_wp2_with fail
 refine U1.out.choose.mono ?_
 rintro e w2 ⟨y,T',rfl,hy,h2⟩
 have U2:Hid (Fx Y (fun j=>Y j/\j≠cb) W [(nb,nbl A z,80),(eb,[.int .i64 0],37),(gb,[.int .u64 0,.int .i64 0],47),(vb,[.int .u64 0],23)] O n w2 cb M m s T' S a J R):=h2
 have HY:Hid (-1<=y/\y<=1):=hy
 clear h2 U1 hy
 have x0:w2.cell? ⟨nb,0,none⟩=some (.int .i64 1):=(U2.out.blk m0).cell 0
 have x1:w2.cell? ⟨nb,1,none⟩=some (.int .u64 A):=(U2.out.blk m0).cell 1
 have x2:w2.cell? ⟨nb,2,none⟩=some (.int .i64 z):=(U2.out.blk m0).cell 2
 go_wp2_with fail
 refine (U2.out.frame (by have:=HX.out;omega) HX.out.2.2.1 x HX.out.1 HX.out.2.1 A z HA.out.1 HA.out.2.1 y HY.out).mono ?_
 rintro e w3 (⟨lp,f,n',s',T2,S',a',rfl,h3,h4,h5⟩ | ⟨rfl,rfl,k3,sz,hb⟩)
 rotate_left
 . exact do_door _ A 4 9 _ _ rfl rfl rfl ⟨hb _ m3,hb _ m2,hb _ m1⟩ NE.out.1.1 NE.out.1.2.1 NE.out.1.2.2 fun X' hk=>Or.inr ⟨rfl,rfl,k3.trans (hk.sub fun j hj=>by
    have l1:=U2.out.lt j hj.1
    have l2:=k3.size
    have l3:=NE.out.2
    exact ⟨by omega,by omega,by omega,by omega⟩)⟩
 have U3:Hid (Fx Y (fun j=>Y j/\j≠cb) W [(nb,nbl A z,80),(eb,[.int .i64 0],37),(gb,[.int .u64 0,.int .i64 0],47),(vb,[.int .u64 0],23)] O n' w3 cb M m s' T2 S' a' (J+3) R'):=h3
 have F3:Hid (p<2/\a'.lf p=some ⟨f,true,true,false⟩/\ ∀ f0 B,Dt m s a p f0 B->Dt m s' a' p f0 B):=⟨lp,h4,h5⟩
 clear lp h3 h4 h5 U2 HY x0 x1 x2
 have D3:Hid (Dt m s' a' p f fun o=>s'.M ((f:Int)*4096+o)):=⟨F3.out.2.1,fun _ _ _=>rfl⟩
 have x0:w3.cell? ⟨nb,0,none⟩=some (.int .i64 1):=(U3.out.blk m0).cell 0
 have x1:w3.cell? ⟨nb,1,none⟩=some (.int .u64 A):=(U3.out.blk m0).cell 1
 have x2:w3.cell? ⟨nb,2,none⟩=some (.int .i64 z):=(U3.out.blk m0).cell 2
 go_wp2_with fail
 refine (U3.out.move (by have:=HX.out;omega) D3.out HA.out.1 HA.out.2.2.1 HA.out.2.2.2.1 HA.out.2.2.2.2.1 HA.out.2.2.2.2.2 x).mono ?_
 rintro e w4 ⟨s2,r,rfl,hr,h6,h7⟩
 have U4:Hid (Fx Y (fun j=>Y j/\j≠cb) W [(nb,nbl A z,80),(eb,[.int .i64 0],37),(gb,[.int .u64 0,.int .i64 0],47),(vb,[.int .u64 0],23)] O n' w4 cb M m s2 T2 S' a' (J+4) R'):=h6
 have D4:Hid (r=(if x=true then 0 else ld (fun o=>s'.M ((f:Int)*4096+o)) (A % 4096) z.toNat)/\Dt m s2 a' p f (if x=true then mset (fun o=>s'.M ((f:Int)*4096+o)) (A % 4096) z v else fun o=>s'.M ((f:Int)*4096+o))):=⟨hr,h7⟩
 clear hr h6 h7 U3 x0 x1 x2
 have UE:Hid (Fx Y (fun j=>Y j/\j≠cb) W [(nb,nbl A z,80),(eb,[.int .i64 0],37),(gb,[.int .u64 0,.int .i64 0],47),(vb,[.int .u64 r],23)] O n' (((w4.setCells vb 0 [.int .u64 r]).setCells gb 0 [.int .u64 0,.int .i64 0]).setCells eb 0 [.int .i64 0]) cb M m s2 T2 S' a' (J+4) R'):=((U4.out.put [(nb,nbl A z,80),(eb,[.int .i64 0],37),(gb,[.int .u64 0,.int .i64 0],47)] (C':=[.int .u64 r]) rfl).put [(nb,nbl A z,80),(eb,[.int .i64 0],37)] (C':=[.int .u64 0,.int .i64 0]) rfl).put [(nb,nbl A z,80)] (C':=[.int .i64 0]) rfl
 have c0:w4.cell? ⟨vb,0,none⟩=some (.int .u64 0):=(U4.out.blk m3).cell 0
 have c1:w4.cell? ⟨gb,0,none⟩=some (.int .u64 0):=(U4.out.blk m2).cell 0
 have c2:w4.cell? ⟨gb,1,none⟩=some (.int .i64 0):=(U4.out.blk m2).cell 1
 have c3:w4.cell? ⟨eb,0,none⟩=some (.int .i64 0):=(U4.out.blk m1).cell 0
 have g0:w4.frozen? ⟨vb,0,none⟩=false:=(U4.out.blk m3).free 0
 have g1:w4.frozen? ⟨gb,0,none⟩=false:=(U4.out.blk m2).free 0
 have g2:w4.frozen? ⟨gb,1,none⟩=false:=(U4.out.blk m2).free 1
 have g3:w4.frozen? ⟨eb,0,none⟩=false:=(U4.out.blk m1).free 0
 have n1:vb≠gb:=NE.out.1.1
 have n2:vb≠eb:=NE.out.1.2.1
 have n3:gb≠eb:=NE.out.1.2.2
 have n4:gb≠vb:=n1.symm
 have n5:eb≠vb:=n2.symm
 have n6:eb≠gb:=n3.symm
 go_wp2_with fail
 refine do_end _ r 0 0 0 _ _ rfl rfl rfl (show Vr (((w4.setCells vb 0 [.int .u64 r]).setCells gb 0 [.int .u64 0,.int .i64 0]).setCells eb 0 [.int .i64 0]) vb gb eb r 0 0 0 from ⟨UE.out.blk m3,UE.out.blk m2,UE.out.blk m1⟩) (Or.inl ⟨F3.out.1,r,rfl,?_⟩)
 refine ⟨n',s2,T2,S',a',f,fun o=>s'.M ((f:Int)*4096+o),UE.out.cw.1,UE.out.cw.2,D4.out.2,D4.out.1,fun f0 B0 hB i i0 i1=> ?_⟩
 have D':=F3.out.2.2 f0 B0 hB
 have e:f0=f:=by have q:=D'.lf;rw [F3.out.2.1] at q;injection q with q;injection q with q;omega
 subst e
 exact D'.b i i0 i1
end
end Go.Proofs.YtgbdnnkkcpkhdaaGreatDoor.Sp
namespace Go.Proofs.YtgbdnnkkcpkhdaaGreatDoor.Sp
open Go.ChangeShapes Go.WideShapes Go.ChangeAt Go.RowKit Go.Maps Go.Shelf
def cloneI_ren:Go.Shelf.Ren:=⟨fun | 41=>22 | n=>n,fun | 22=>22 | 23=>3 | 4=>4 | n=>n,fun | n=>n⟩
theorem cloneI:Go.Proofs.SlLaysE0.n41 Tryz.prog cloneI_ren:={
 mixed:=ka
 f41:=⟨Tryz.f22.name,by decide,Tryz.func22.trans (congrArg some ka)⟩
 t4:=Tryz.underlying4
 a4:=Tryz.isAgg4
 z4:=Tryz.sizeOf4
 v4:=Tryz.zeroValue4
 t22:=Tryz.underlying22
 a22:=Tryz.isAgg22
 z22:=Tryz.sizeOf22
 v22:=Tryz.zeroValue22 }
theorem ints_cap {H:Type} {enc:TypeId × Value->H} {W:World} {base:Nat} {sp:Nat->Bool} {held:Bool} {v:Value} {x:DataW H} {ps:List MemPlace} {r:Reach} {b0:Nat}
 (hv:Value.okWide Tryz.prog W r b0 22 v) (h:DataW.Trod enc Tryz.prog W base sp held 22 v x ps) (p:Option Addr) (n c:Nat) (e0:v=.slice p n c):n<=c:=by
 obtain ⟨a',l',c',rfl⟩:=okWide_slice Tryz.underlying22 hv
 obtain ⟨fuel,hf⟩:=h
 rcases Go.Deep.open_slice Tryz.underlying22 hf with ⟨e,_⟩ | ⟨a,len,cap,m,k,D,Pl,e,hb,hl,_⟩
 . have e':Value.slice a' l' c'=.slice none 0 0:=(List.cons.inj (show [Value.slice a' l' c']=[.slice none 0 0] from e)).1
   rw [e0] at e';cases e';exact Nat.le_refl _
 . have e':Value.slice a' l' c'=.slice (some a) len cap:=(List.cons.inj (show [Value.slice a' l' c']=[.slice (some a) len cap] from e)).1
   rw [e0] at e';cases e';exact hl
theorem open_intc {H:Type} {enc:TypeId × Value->H} {W:World} {base:Nat} {sp:Nat->Bool} {held:Bool} {v:Value} {x:DataW H} {ps:List MemPlace} {r:Reach} {b0:Nat}
 (hv:Value.okWide Tryz.prog W r b0 22 v) (h:DataW.Trod enc Tryz.prog W base sp held 22 v x ps) :
 ∃ (p:Option Addr) (n c:Nat) (A:Nat->Int),v=.slice p n c/\(n<=maxLen/\n<=c)/\IsInts W p n A:=by
 have q:=ints_cap hv h
 obtain ⟨p,n,c,A,e,m,H⟩:=open_ints hv h
 exact ⟨p,n,c,A,e,⟨m,q p n c e⟩,H⟩
theorem clone_int (lo:Nat) (v:Value) (L:List Int) (hL:L.length<=1048576) (w:World) (H:Li.IL w lo v L) :
 Calls Tryz.prog 22 #[v] w fun e w'=> ∃ v',e=.returned v'/\Li.OI w' w.heap.size v' L/\bc w w':=by
 rcases H with ⟨rfl,rfl⟩ | ⟨g,o,c,rfl,hc,l0,lg,h⟩
 . refine (AnyE.slices_Clone_nil cloneI 0 0 w).mono ?_
   rintro e w' ⟨rfl,rfl⟩
   exact ⟨_,rfl,Li.ol_none _ _ _ _ _,Below.refl _ _⟩
 . obtain ⟨i0,hi,hz0,hz1,hz2⟩:=Li.infoI
   refine (AnyE.slices_Clone cloneI i0 _ 1 8 hi hz0 hz1 hz2 rfl (by decide) Tryz.sizeOf3 g o L.length c (L.flatMap Li.eI) w (Li.flat_len Li.eI_len L) (by unfold maxLen;omega) (by omega) (fun j u hu=> ?_) (fun u hu=> ?_)).mono ?_
   . have jl:j<L.length*1:=by rw [<- Li.flat_len Li.eI_len L];exact (List.getElem?_eq_some_iff.1 hu).1
     have i1:j / 1<L.length:=by omega
     have e:j=j / 1*1+j % 1:=by omega
     have q:=Li.flat_get Li.eI_len L (j / 1) i1 (j % 1) (by omega)
     rw [<- e,hu] at q
     have c:=h (j / 1) i1 (j % 1) (by omega)
     rw [Nat.add_assoc,<- e,<- q] at c
     exact c
   . obtain ⟨x,_,hx⟩:=List.mem_flatMap.1 hu
     exact Li.eI_one x u hx
   . rintro e w' ⟨v',rfl,ho,_,hb⟩
     exact ⟨v',rfl,ho,hb⟩
theorem oi_form {w:World} {base:Nat} {v:Value} {L:List Int} (h:Li.OI w base v L): ∃ lp c,v=.slice lp L.length c/\L.length<=c/\ ∀ i,i<L.length-> ∃ b o x,lp=some ⟨b,o,none⟩/\(base<=b/\b<w.heap.size)/\w.cell? ⟨b,o+i,none⟩=some (.int .i64 x):=by
 obtain ⟨p,c,hv,hc,_,hi⟩:=(Li.ol_ll Li.eI_len h).form
 refine ⟨p,c,hv,hc,fun i hl=> ?_⟩
 obtain ⟨g,o,e1,e2,e3,e4⟩:=hi i hl
 have:=e4 0 (by omega)
 rw [Nat.mul_one,Nat.add_zero] at this
 exact ⟨g,o,_,e1,⟨e2,e3⟩,this⟩
theorem new_cpu (mb:Nat) (lo:Nat) (v:Value) (L:List Int) (hL:L.length<=1048576) (W:World) (w0:0<W.heap.size) (H:Li.IL W lo v L) :
 Calls Tryz.prog 11 #[pp mb,v] W fun e w'=> ∃ cb,e=.returned (pp cb)/\bc W w'/\IsCpu (fun j=>W.heap.size<=j/\j<w'.heap.size) w' cb mb:=by
 have CC:Hid _:=clone_int lo v L hL W H
 have HW:Hid (0<W.heap.size):=w0
 clear H w0
 go_enter Tryz.func11,Tryz.ntmps11
 go_wp2_with fail
 refine Calls.mono CC.out ?_
 rintro e w1 ⟨v',rfl,ho,hb⟩
 obtain ⟨lp,c,rfl,hc,hi⟩:=oi_form ho
 have HE:Hid (bc W (w1.alloc (.cells #[pp mb,.slice lp L.length c] 39))/\IsCpu (fun j=>W.heap.size<=j/\j<(w1.alloc (.cells #[pp mb,.slice lp L.length c] 39)).heap.size) (w1.alloc (.cells #[pp mb,.slice lp L.length c] 39)) w1.heap.size mb):=by
  have l0:=HW.out
  have l1:=hb.size
  refine ⟨below_new hb _,⟨l1,by rw [World.size_alloc];omega⟩,by omega,lp,L.length,c,Blk.made _ _ _,hc,fun i hl=> ?_⟩
  obtain ⟨b,o,x,e1,e2,e3⟩:=hi i hl
  exact ⟨b,o,x,e1,⟨e2.1,by rw [World.size_alloc];omega⟩,by omega,(World.cell?_alloc_lt _ _ _ e2.2).trans e3⟩
 clear ho hb hi hc CC HW
 go_wp2_with fail
 go_returns
 exact ⟨_,rfl,HE.out⟩
end Go.Proofs.YtgbdnnkkcpkhdaaGreatDoor.Sp
namespace Go.Proofs.YtgbdnnkkcpkhdaaGreatDoor.Sp
open Go.ChangeShapes Go.WideShapes Go.ChangeAt Go.RowKit Go.Maps Go.Deep
theorem app_few (p:Option Addr) (k c:Nat) (A:Nat->Int) (hk:k<=60) (W:World) (H:IsInts W p k A) :
 ∃ v' W2 L,(Builtin.append_ #[22,22] 22 #[.slice (some ⟨W.heap.size,0,none⟩) 0 0,.slice p k c]).run Tryz.prog (W.alloc (.cells #[] 3))=.ok v' W2/\Li.OI W2 W.heap.size v' L/\L.length<=60/\bc W W2:=by
 have O0:Li.OI (W.alloc (.cells #[] 3)) W.heap.size (.slice (some ⟨W.heap.size,0,none⟩) 0 0) []:=Li.ol_made W _ (Nat.le_refl _)
 have B0:bc W (W.alloc (.cells #[] 3)):=baa
 cases k with
 | zero =>
  obtain ⟨i,hi,_⟩:=Li.infoI
  refine ⟨_,_,[],?_,O0,by simp,B0⟩
  cases p with
  | none => exact run_append_nothing _ _ _ _ _ i Tryz.underlying22 hi _ 0 0 (Nat.le_refl _) _ (Src.ofNil _ Tryz.underlying22 c)
  | some a => exact run_append_nothing _ _ _ _ _ i Tryz.underlying22 hi _ 0 0 (Nat.le_refl _) _ (Src.ofSlice _ Tryz.underlying22 a 0 c [] (by simp) (by simp) (by simp))
 | succ k =>
  obtain ⟨b,o,rfl,lb,_,_⟩:=H 0 (by omega)
  obtain ⟨v',W2,r,ho,hg,hat⟩:=Li.app_all Li.eI_len Li.eI_one (by decide) (S:=22) (T:=3) Tryz.underlying22 Li.infoI rfl (by decide) W.heap.size _ [] ((List.range (k+1)).map A) b o (k+1) c (by simp) kh (W.alloc (.cells #[] 3)) O0 (fun i hi j hj=>by
   simp at hi
   obtain ⟨b',o',e1,_,e3,_⟩:=H i hi
   cases e1
   have ej:j=0:=by omega
   subst ej
   rw [Nat.mul_one,Nat.add_zero]
   refine (World.cell?_alloc_lt _ _ _ lb).trans (e3.trans ?_)
   simp [Li.eI]) B0.size
  refine ⟨v',W2,_,r,ho,by simp;omega,B0.grown hg (by simp) (by intro k hk;simp [Value.ownBlock] at hk;omega)⟩
theorem few_any (p:Option Addr) (k c:Nat) (A:Nat->Int) (kc:k<=c) (W:World) (H:IsInts W p k A) :
 Calls Tryz.prog 6 #[.slice p k c,.int .i64 60] W fun e w'=> ∃ v' L,e=.returned v'/\Li.OI w' W.heap.size v' L/\L.length<=60/\bc W w':=by
 by_cases hk:k<=60
 . have d0:decide ((60:Int)<(k:Int))=false:=by simp;omega
   obtain ⟨v',W2,L,r,h1,h2,h3⟩:=app_few p k c A hk W H
   have HE:Hid _:=And.intro h1 (And.intro h2 h3)
   clear H h1 h2 h3
   go_enter Tryz.func6,Tryz.ntmps6
   go_upto_region 3 with fail
   go_wp2_with (at_builtin;refine Li.wpList_app rfl _ _ 22 rfl (.slice (some ⟨W.heap.size,0,none⟩) 0 0) (.slice p k c) rfl rfl v' W2 r ?_)
   go_returns
   exact ⟨v',L,rfl,HE.out⟩
 . have d0:decide ((60:Int)<(k:Int))=true:=by simp;omega
   have d1:decide ((60:Int)<=(c:Int))=true:=kh
   have d2:(60:Int)<=c:=by omega
   have d3:60<=c:=by omega
   have d4: ¬ c=0:=by omega
   obtain ⟨v',W2,L,r,h1,h2,h3⟩:=app_few p 60 c A (by omega) W (fun i hi=>H i (by omega))
   have HE:Hid _:=And.intro h1 (And.intro h2 h3)
   obtain ⟨b,o,rfl,_⟩:=H 0 (by omega)
   clear H h1 h2 h3
   go_enter Tryz.func6,Tryz.ntmps6
   go_upto_region 3 with fail
   go_wp2_with (at_builtin;refine Li.wpList_app rfl _ _ 22 rfl (.slice (some ⟨W.heap.size,0,none⟩) 0 0) (.slice (some ⟨b,o,none⟩) 60 c) rfl rfl v' W2 r ?_)
   go_returns
   exact ⟨v',L,rfl,HE.out⟩
def Begun (tags:Int) (W w':World) (cb:Nat) (M:Mb) (m:Pm) (s:Ps):Prop :=
 ∃ (O:Nat->Nat) (Y:Nat->Prop),(∀ j,j<W.heap.size->Y j)/\Mc Y O 0 w' M m s Tl.T0 (Pc.freshS tags) []/\IsCpu Y w' cb M.mb/\Nums m s 0 17 2 17/\s.q<=5000/\W.heap.size<=cb/\bc W w'
theorem Begun.below {tags:Int} {W w w':World} {cb:Nat} {M:Mb} {m:Pm} {s:Ps} (h:Begun tags W w cb M m s) (b:bc w w'):Begun tags W w' cb M m s:=by
 obtain ⟨O,Y,h1,h2,h3,h4,h5,h6,h7⟩:=h
 exact ⟨O,Y,h1,h2.below b,h3.kept (kept_of_below b fun j hj=>h2.pu.lt j (Or.inl hj)),h4,h5,h6,below_then h7 b⟩
theorem range_drew {w:World} {b o:Nat} {L:List Value} (h:w.rangeAt b o L):w.drew.rangeAt b o L:=h
theorem begin13 (tags:Int) (t0:1<=tags) (t1:tags<=4095) (lo:Nat) (v:Value) (L:List Int) (hL:L.length<=1048576) (W:World) (tb0:Tab W) (H:Li.IL W lo v L) :
 Calls Tryz.prog 5 #[.int .i64 20,.int .i64 tags,v] W fun e w'=> ∃ cb M m s xb h,e=.returned (.tuple #[pp cb,.agg #[pp M.mb,.slice none 0 0,.slice (some ⟨xb,0,none⟩) 1 1,.int .i64 0,.map (some h)],.bool true])/\Begun tags W w' cb M m s:=by
 have BC:Hid (∀ w:World,Tab w->_):=fun w hw=>begin_ok 20 tags (by omega) (by omega) t0 t1 w hw
 have BP:Hid (Blk (W.alloc (.cells #[.pointer none,.slice none 0 0,.slice none 0 0,.int .i64 0,.map none] 33)) W.heap.size [.pointer none,.slice none 0 0,.slice none 0 0,.int .i64 0,.map none] 33/\bc W (W.alloc (.cells #[.pointer none,.slice none 0 0,.slice none 0 0,.int .i64 0,.map none] 33))/\Tab (W.alloc (.cells #[.pointer none,.slice none 0 0,.slice none 0 0,.int .i64 0,.map none] 33))/\(W.alloc (.cells #[.pointer none,.slice none 0 0,.slice none 0 0,.int .i64 0,.map none] 33)).heap.size=W.heap.size+1):=⟨Blk.made _ _ _,baa,tb0.below baa tb0.1,World.size_alloc _ _⟩
 have HI:Hid (Li.IL W lo v L/\0<W.heap.size):=⟨H,tb0.1⟩
 clear H t0 t1 tb0
 have hmm:= @run_makeMap Tryz.prog
 go_enter Tryz.func5,Tryz.ntmps5
 go_upto_region 1 with fail
 generalize W.alloc (.cells #[.pointer none,.slice none 0 0,.slice none 0 0,.int .i64 0,.map none] 33)=W0 at BP |-
 have BB:Hid (bc W W0):=BP.out.2.1
 obtain ⟨P,hP⟩: ∃ P,P=W.heap.size:=⟨_,rfl⟩
 have HP:Hid (P=W.heap.size):=hP
 rw [<- hP] at BP |-
 clear hP
 go_wp2_with fail
 refine Calls.mono (BC.out _ BP.out.2.2.1) ?_
 rintro e w1 ⟨M,m,s,xb,rfl,hB⟩
 have B1:Hid (Booted 20 tags W0 w1 M m s):=hB
 clear hB BC
 go_upto_region 3 with fail
 have G2:Hid (Blk (((w1.alloc (.cells #[.slice none 0 0,.slice (some ⟨xb,0,none⟩) 1 1,.int .i64 0] 30)).alloc (.map #[] 0)).alloc (.cells #[pp M.mb,.slice none 0 0,.slice (some ⟨xb,0,none⟩) 1 1,.int .i64 0,.map (some (w1.heap.size+1))] 33)) (w1.heap.size+1+1) [pp M.mb,.slice none 0 0,.slice (some ⟨xb,0,none⟩) 1 1,.int .i64 0,.map (some (w1.heap.size+1))] 33/\bc w1 (((w1.alloc (.cells #[.slice none 0 0,.slice (some ⟨xb,0,none⟩) 1 1,.int .i64 0] 30)).alloc (.map #[] 0)).alloc (.cells #[pp M.mb,.slice none 0 0,.slice (some ⟨xb,0,none⟩) 1 1,.int .i64 0,.map (some (w1.heap.size+1))] 33))):=by
  refine ⟨?_,below_new (below_new baa _) _⟩
  have q:=Blk.made ((w1.alloc (.cells #[.slice none 0 0,.slice (some ⟨xb,0,none⟩) 1 1,.int .i64 0] 30)).alloc (.map #[] 0)) [pp M.mb,.slice none 0 0,.slice (some ⟨xb,0,none⟩) 1 1,.int .i64 0,.map (some (w1.heap.size+1))] 33
  simp only [World.size_alloc] at q
  exact q
 generalize ((w1.alloc (.cells #[.slice none 0 0,.slice (some ⟨xb,0,none⟩) 1 1,.int .i64 0] 30)).alloc (.map #[] 0)).alloc (.cells #[pp M.mb,.slice none 0 0,.slice (some ⟨xb,0,none⟩) 1 1,.int .i64 0,.map (some (w1.heap.size+1))] 33)=w2 at G2 |-
 obtain ⟨q,hq⟩: ∃ q,q=w1.heap.size+1+1:=⟨_,rfl⟩
 rw [<- hq] at G2 |-
 obtain ⟨h1,hh1⟩: ∃ h1,h1=w1.heap.size+1:=⟨_,rfl⟩
 rw [<- hh1] at G2 |-
 have HQ:Hid (w1.heap.size<=q):=(by omega:w1.heap.size<=q)
 clear hq hh1 hmm
 go_upto_region 5 with fail
 have NC:Hid _:=new_cpu M.mb lo v L hL w2 (by have:=HI.out.2;have:=BB.out.size;have:=G2.out.2.size;obtain ⟨_,_,_,_,_,_,hb⟩:=B1.out;have:=hb.size;omega) ((HI.out.1.below BB.out).below (by obtain ⟨_,_,_,_,_,_,hb⟩:=B1.out;exact below_then hb G2.out.2))
 go_wp2_with fail
 refine Calls.mono NC.out ?_
 rintro e w3 ⟨cb,rfl,hb3,hc⟩
 have G3:Hid (Blk w3 q [pp M.mb,.slice none 0 0,.slice (some ⟨xb,0,none⟩) 1 1,.int .i64 0,.map (some h1)] 33/\Blk w3 P [.pointer none,.slice none 0 0,.slice none 0 0,.int .i64 0,.map none] 33/\P≠q/\w2.heap.size<=cb):=by
  obtain ⟨_,_,_,_,_,_,hb⟩:=B1.out
  have l1:=BP.out.1.lt
  have l2:=hb.size
  refine ⟨G2.out.1.below hb3,((BP.out.1.below hb).below G2.out.2).below hb3,by have:=HQ.out;omega,hc.y.1⟩
 have GE:Hid (∀ V,w3.grownBy V (some P)->Begun tags W V.drew cb M m s):=fun V hg=>by
  obtain ⟨O,hM,hN,a1,a2,a3,hb⟩:=B1.out
  have l1:=BP.out.1.lt
  have l2:=hb.size
  have l3:=G2.out.2.size
  have l4:=hb3.size
  have l0:=HI.out.2
  have p0:=HP.out
  have e3:=BP.out.2.2.2
  have m3:=(hM.below G2.out.2).grow hb3
  have m4:=m3.poke (j:=P) (Or.inl l1) (by omega) hg
  have c3:IsCpu (fun j=>w2.heap.size<=j/\j<w3.heap.size) V cb M.mb:=hc.kept (kept_one hg fun i hi=>⟨by have:=hi.1;omega,hi.2⟩)
  have b:bc W w3:=below_then (below_then (below_then BB.out hb) G2.out.2) hb3
  have b2:bc W V:=b.grown hg (by rw [<- p0];exact Nat.le_trans (by omega) b.size) (by intro k hk;cases hk;omega)
  have bd:bc V V.drew:=below_drew (Below.refl _ _)
  refine ⟨O,_,fun j hj=>Or.inl (by show j<W0.heap.size;omega),m4.below bd,(c3.kept (show Kx _ V V.drew from ⟨rfl,rfl,rfl,Nat.le_refl _,fun _ _=>rfl⟩)).mono fun j hj=>Or.inr hj,hN,a3,?_,below_then b2 bd⟩
  have:=hc.y.1
  omega
 clear B1 BP BB HI NC G2 HQ HP hb3 hc
 have x0:w3.cell? ⟨q,0,none⟩=some (pp M.mb):=G3.out.1.cell 0
 have x1:w3.cell? ⟨q,1,none⟩=some (.slice none 0 0):=G3.out.1.cell 1
 have x2:w3.cell? ⟨q,2,none⟩=some (.slice (some ⟨xb,0,none⟩) 1 1):=G3.out.1.cell 2
 have x3:w3.cell? ⟨q,3,none⟩=some (.int .i64 0):=G3.out.1.cell 3
 have x4:w3.cell? ⟨q,4,none⟩=some (.map (some h1)):=G3.out.1.cell 4
 have y0:w3.cell? ⟨P,0,none⟩=some (.pointer none):=G3.out.2.1.cell 0
 have f0:w3.frozen? ⟨P,0,none⟩=false:=G3.out.2.1.free 0
 have y1:w3.cell? ⟨P,1,none⟩=some (.slice none 0 0):=G3.out.2.1.cell 1
 have f1:w3.frozen? ⟨P,1,none⟩=false:=G3.out.2.1.free 1
 have y2:w3.cell? ⟨P,2,none⟩=some (.slice none 0 0):=G3.out.2.1.cell 2
 have f2:w3.frozen? ⟨P,2,none⟩=false:=G3.out.2.1.free 2
 have y3:w3.cell? ⟨P,3,none⟩=some (.int .i64 0):=G3.out.2.1.cell 3
 have f3:w3.frozen? ⟨P,3,none⟩=false:=G3.out.2.1.free 3
 have y4:w3.cell? ⟨P,4,none⟩=some (.map none):=G3.out.2.1.cell 4
 have f4:w3.frozen? ⟨P,4,none⟩=false:=G3.out.2.1.free 4
 have n1:P≠q:=G3.out.2.2.1
 have n2:q≠P:=n1.symm
 have GF:Hid (Begun tags W ((((((w3.setCell ⟨P,0,none⟩ (pp M.mb)).setCell ⟨P,1,none⟩ (.slice none 0 0)).setCell ⟨P,2,none⟩ (.slice (some ⟨xb,0,none⟩) 1 1)).setCell ⟨P,3,none⟩ (.int .i64 0)).setCell ⟨P,4,none⟩ (.map (some h1))).drew) cb M m s/\World.rangeAt ((((((w3.setCell ⟨P,0,none⟩ (pp M.mb)).setCell ⟨P,1,none⟩ (.slice none 0 0)).setCell ⟨P,2,none⟩ (.slice (some ⟨xb,0,none⟩) 1 1)).setCell ⟨P,3,none⟩ (.int .i64 0)).setCell ⟨P,4,none⟩ (.map (some h1))).drew) P 0 [pp M.mb,.slice none 0 0,.slice (some ⟨xb,0,none⟩) 1 1,.int .i64 0,.map (some h1)]):=by
  have q1:=GE.out _ (Qu.grown_setCells P [pp M.mb,.slice none 0 0,.slice (some ⟨xb,0,none⟩) 1 1,.int .i64 0,.map (some h1)] 0 w3)
  have q2:Blk (w3.setCells P 0 [pp M.mb,.slice none 0 0,.slice (some ⟨xb,0,none⟩) 1 1,.int .i64 0,.map (some h1)]) P [pp M.mb,.slice none 0 0,.slice (some ⟨xb,0,none⟩) 1 1,.int .i64 0,.map (some h1)] 33:=G3.out.2.1.put rfl
  have q3:World.rangeAt (w3.setCells P 0 [pp M.mb,.slice none 0 0,.slice (some ⟨xb,0,none⟩) 1 1,.int .i64 0,.map (some h1)]).drew P 0 [pp M.mb,.slice none 0 0,.slice (some ⟨xb,0,none⟩) 1 1,.int .i64 0,.map (some h1)]:=range_drew q2.range
  simp only [World.setCells,Nat.zero_add,Nat.reduceAdd] at q1 q3
  exact ⟨q1,q3⟩
 clear GE
 go_wp2_with fail
 go_region
 all_goals (try go_wp2_with fail)
 generalize (((((w3.setCell ⟨P,0,none⟩ (pp M.mb)).setCell ⟨P,1,none⟩ (.slice none 0 0)).setCell ⟨P,2,none⟩ (.slice (some ⟨xb,0,none⟩) 1 1)).setCell ⟨P,3,none⟩ (.int .i64 0)).setCell ⟨P,4,none⟩ (.map (some h1))).drew=w4 at GF |-
 refine bodyPost_ret (v:=.tuple #[pp cb,.agg #[pp M.mb,.slice none 0 0,.slice (some ⟨xb,0,none⟩) 1 1,.int .i64 0,.map (some h1)],.bool true]) (results_tct Tryz.results5 _ _ _ _ _ _ _ rfl rfl rfl (run_loadVar_mid (P:=Tryz.prog) _ P 0 33 [pp M.mb,.slice none 0 0,.slice (some ⟨xb,0,none⟩) 1 1,.int .i64 0,.map (some h1)] _ GF.out.2 Tryz.underlying33 rfl ka)) rfl ?_
 exact ⟨cb,M,m,s,xb,h1,rfl,GF.out.1⟩
theorem ld_part (M:Int->Int) (o x:Int) (x0:0<=x) (i:Nat): ∀ n:Nat,i+n<=8->ld (mset M o 8 x) (o+i) n=x / 256 ^ i % 256 ^ n
 | 0, _ => by simp [ld]
 | n + 1, h => by
  simp only [ld]
  rw [ld_part M o x x0 i n (by omega)]
  have e:mset M o 8 x (o+i+n)=x / 256 ^ i / 256 ^ n % 256:=by
   unfold mset
   rw [if_pos (by omega),show (o+(i:Int)+n-o).toNat=i+n by omega,Int.pow_add,Int.ediv_ediv_of_nonneg (Int.le_of_lt (Int.pow_pos (by omega)))]
  rw [e,mod_step _ (Int.ediv_nonneg x0 (Int.le_of_lt (Int.pow_pos (by omega)))) n]
theorem ld_split (M:Int->Int) (a:Int) (m:Nat): ∀ n:Nat,ld M a (m+n)=ld M a m+256 ^ m*ld M (a+m) n
 | 0 => by simp [ld]
 | n + 1 => by
  rw [<- Nat.add_assoc]
  simp only [ld]
  rw [ld_split M a m n,Int.mul_add,Int.pow_add,show a+((m+n:Nat):Int)=a+m+n by omega,Int.add_assoc,Int.mul_comm (M (a+m+n)) (256 ^ n),<- Int.mul_assoc,Int.mul_comm (M (a+m+n)),Int.mul_assoc,Int.mul_comm (M (a+m+n))]
theorem ld_patch (M:Int->Int) (o x y:Int) (x0:0<=x) (x1:x<18446744073709551616) (y0:0<=y) (z:Nat) (hz:z<=8):ld (mset (mset M o 8 x) o z y) o 8=y % 256 ^ z+256 ^ z*(x / 256 ^ z):=by
 have e:(8:Nat)=z+(8-z):=by omega
 rw [e,ld_split,ld_mset_low _ _ _ _ y0 z (Int.le_refl _),ld_mset_apart _ (by omega),ld_part _ _ _ x0 z (8-z) (by omega)]
 congr 2
 have p:(256:Int) ^ z*256 ^ (8-z)=18446744073709551616:=by rw [<- Int.pow_add,<- e];decide
 refine Int.emod_eq_of_lt (Int.ediv_nonneg x0 (Int.le_of_lt (Int.pow_pos (by omega)))) ?_
 refine Int.ediv_lt_of_lt_mul (Int.pow_pos (by omega)) ?_
 rw [Int.mul_comm,p];exact x1
theorem u64_not_nat (a b:Nat) (ha:a<18446744073709551616) (hb:b<18446744073709551616):bits .andNot .u64 (a:Int) (b:Int)=((a &&& (18446744073709551615-b):Nat):Int):=by
 have hx:a &&& (18446744073709551615-b)<=a:=Nat.and_le_left
 have o: ∀ c:Nat,c<18446744073709551616->(BitVec.ofInt 64 (c:Int)).toNat=c:=fun c hc=>by
  rw [BitVec.ofInt_natCast,BitVec.toNat_ofNat];exact Nat.mod_eq_of_lt (by omega)
 show IntKind.u64.wrap ((BitVec.ofInt 64 (a:Int) &&& ~~~BitVec.ofInt 64 (b:Int)).toNat:Int)=_
 rw [BitVec.toNat_and,BitVec.toNat_not,o a ha,o b hb,IntKind.wrap_u64]
 have e:2 ^ 64-1-b=18446744073709551615-b:=by omega
 rw [e]
 omega
theorem patch_bits (x y:Int) (x0:0<=x) (x1:x<18446744073709551616) (y0:0<=y) (y1:y<18446744073709551616) (k:Nat) (m c P:Nat) (hm:m=(2 ^ k-1)*2 ^ 0) (hk:k<=32) (hc:c=(2 ^ (64-k)-1)*2 ^ k) (he:18446744073709551615-m=c) (hP:P=2 ^ k) (m1:m<18446744073709551616) (c1:c<18446744073709551616) (hp:18446744073709551616 / P*P=18446744073709551616) (h2:18446744073709551616 / P=2 ^ (64-k)) (P0:0<P) :
 bits .or .u64 (bits .andNot .u64 x m) (bits .and .u64 y m)=y % P+P*(x / P):=by
 obtain ⟨X,rfl⟩:=Int.eq_ofNat_of_zero_le x0
 have hX:X<18446744073709551616:=by omega
 have pk:(2:Int) ^ k=(P:Int):=by rw [hP,Int.natCast_pow];rfl
 have pk2:(2:Int) ^ (64-k)=((18446744073709551616 / P:Nat):Int):=by rw [h2,Int.natCast_pow];rfl
 have e1:bits .andNot .u64 (X:Int) m=(X:Int) / P*P:=by
  rw [u64_not_nat X m hX m1,he,<- bits_and_u64_nat X c hX c1,and_mask (X:Int) x0 x1 k (64-k) c (by rw [hc]) (by omega)]
  rw [pk,pk2,Int.emod_eq_of_lt (Int.ediv_nonneg x0 (by omega))]
  exact Int.ediv_lt_of_lt_mul (by omega) (by rw [<- Int.natCast_mul,hp];exact x1)
 have e2:bits .and .u64 y m=y % P:=by
  rw [and_mask y y0 y1 0 k m (by rw [hm]) (by omega)]
  rw [pk];simp
 have q0:(X:Int) / P*P<=X:=Int.ediv_mul_le _ (by omega)
 have q1:0<=(X:Int) / P*P:=Int.mul_nonneg (Int.ediv_nonneg x0 (by omega)) (by omega)
 have q2:=Int.emod_nonneg y (show (P:Int)≠0 by omega)
 have q3:=Int.emod_lt_of_pos y (show (0:Int)<P by omega)
 have q4:(X:Int) / P*P+P<=18446744073709551616:=by
  have:(X:Int) / P+1<=(18446744073709551616 / P:Nat):=by
   have:X / P<18446744073709551616 / P:=Nat.div_lt_of_lt_mul (by rw [Nat.mul_comm,hp];exact hX)
   rw [<- Int.natCast_ediv];omega
  have:=Int.mul_le_mul_of_nonneg_right this (show (0:Int)<=P by omega)
  rw [Int.add_mul,Int.one_mul,<- Int.natCast_mul,hp] at this
  exact this
 have q5:=or_low ((X:Int) / P) (y % P) k P pk.symm (Int.ediv_nonneg x0 (by omega)) q2 q3 q4
 rw [show IntKind.u64.wrap ((X:Int) / P*P)=(X:Int) / P*P by rw [IntKind.wrap_u64];exact Int.emod_eq_of_lt q1 (by omega)] at q5
 rw [e1,e2,q5,Int.mul_comm,Int.add_comm]
theorem Dt.of {m:Pm} {s:Ps} {a:Sr} {p f:Nat} {B B':Int->Int} (D:Dt m s a p f B') (h: ∀ i,0<=i->i<4096->B' i=B i):Dt m s a p f B:=⟨D.lf,fun o o0 o1=>(D.b o o0 o1).trans (h o o0 o1)⟩
def Opn (tags:Int) (W w:World) (cb:Nat) (M:Mb) (m:Pm):Prop :=
 ∃ (O:Nat->Nat) (Y:Nat->Prop) (s:Ps) (root sb lb:Nat),(∀ j,j<W.heap.size->Y j)/\Mc Y O 1 w M m s Tl.T0 (Pc.freshS tags) [sr0 1 0 sb 0 root lb]/\IsCpu Y w cb M.mb/\Nums m s 0 16 3 16/\s.q<=6000/\W.heap.size<=cb/\Kept (fun j=>j<W.heap.size) W w
def Rdy (W w:World) (cb:Nat) (M:Mb) (m:Pm):Prop :=
 ∃ (O:Nat->Nat) (Y:Nat->Prop) (n:Nat) (s:Ps) (T:Nat->Tl.Ln) (S:Pc.Tg) (a:Sr),(∀ j,j<W.heap.size->Y j)/\Cw Y O n w cb M m s T S a 1000 1/\(∀ p,a.lf p=none)/\W.heap.size<=cb/\Kept (fun j=>j<W.heap.size) W w
def Has (W w:World) (cb:Nat) (M:Mb) (m:Pm) (J p:Nat) (B:Int->Int):Prop :=
 ∃ (O:Nat->Nat) (Y:Nat->Prop) (n:Nat) (s:Ps) (T:Nat->Tl.Ln) (S:Pc.Tg) (a:Sr) (f:Nat),(∀ j,j<W.heap.size->Y j)/\Cw Y O n w cb M m s T S a J 0/\Dt m s a p f B/\W.heap.size<=cb/\Kept (fun j=>j<W.heap.size) W w
section
variable {W w w':World} {cb:Nat} {M:Mb} {m:Pm} {J p:Nat} {B:Int->Int} {tags:Int}
theorem lowb {Y:Nat->Prop} (hy: ∀ j,j<W.heap.size->Y j) (k:Kept (fun j=>j<W.heap.size) W w) (b:bc w w'):Kept (fun j=>j<W.heap.size) W w':=k.trans (kept_of_below b fun j hj=>nla hj k.size)
theorem Has.below (h:Has W w cb M m J p B) (b:bc w w'):Has W w' cb M m J p B:=by
 obtain ⟨O,Y,n,s,T,S,a,f,h1,h2,h3,h4,h5⟩:=h
 exact ⟨O,Y,n,s,T,S,a,f,h1,h2.below b,h3,h4,lowb h1 h5 b⟩
theorem Begun.cell {s:Ps} (h:Begun tags W w cb M m s):w.cell? ⟨cb,0,none⟩=some (pp M.mb):=by
 obtain ⟨O,Y,_,_,c,_⟩:=h
 obtain ⟨_,_,_,_,_,c,_⟩:=c
 exact c.cell 0
theorem Opn.cell (h:Opn tags W w cb M m):w.cell? ⟨cb,0,none⟩=some (pp M.mb):=by
 obtain ⟨O,Y,s,root,sb,lb,_,_,c,_⟩:=h
 obtain ⟨_,_,_,_,_,c,_⟩:=c
 exact c.cell 0
theorem Begun.open (s:Ps) (h:Begun tags W w cb M m s) :
 Calls Tryz.prog 7 (sf (pp M.mb) 1 0) w fun e w'=>e=.returned (.int .i64 0)/\Opn tags W w' cb M m:=by
 obtain ⟨O,Y,hy,hM,hc,hN,hq,lc,hb⟩:=h
 refine Calls.mono (open_ok hM 1 (by omega) (by omega) (by simp) 0 (by simp) 0 (hN.box (by simp)) (by omega) (by rw [hN.room];omega) (by omega)) ?_
 rintro e w' ⟨he,O',root,sb,lb,M2,fr,h1,h2⟩
 have nn:=hN.take hM.pu.so (L:=[root]) ⟨by simp,fun x hx=>by simp at hx;rw [hx];exact fr⟩ M2 (s.q+2)
 exact ⟨he,O',Y,_,root,sb,lb,hy,h1,hc.kept h2,nn,by show s.q+2<=6000;omega,lc,Kept.trans (kept_of_below hb fun j hj=>hj) (h2.sub hy)⟩
theorem Opn.map (h:Opn tags W w cb M m) (t0:1<=tags) (t1:tags<=4095) :
 Calls Tryz.prog 8 #[pp M.mb,.int .i64 1,.agg #[.int .i64 0,.int .i64 2],.agg (sn true true false)] w fun e w'=>e=.returned (.int .i64 0)/\Rdy W w' cb M m:=by
 obtain ⟨O,Y,s,root,sb,lb,hy,hM,hc,hN,hq,lc,hk⟩:=h
 obtain ⟨e1,e2⟩:=add_first 0 2 true true false (by omega) (by omega) (by omega) (by omega)
 refine Calls.mono (map_ok hM 0 2 true true false [⟨0,2,true,true,false,0⟩] e1 e2 (by simp) one_wf) ?_
 rintro e w' ⟨he,O',p',c',h1,h2⟩
 exact ⟨he,O',Y,1,s,Tl.T0,Pc.freshS tags,_,hy,⟨h1,hc.kept h2,rfl,⟨rfl,fun _ _=>rfl⟩,Pc.fresh_good tags t0 t1,fun i hi=>absurd (show false=true from hi) (by decide),by omega,by show 0<=1000;omega,by omega,by show 0<=1000;omega,⟨16,3,16,hN,by omega,by omega⟩⟩,fun _=>rfl,lc,hk.trans (h2.sub hy)⟩
theorem Rdy.store (h:Rdy W w cb M m) (hp:p<2) {A v:Int} (a0:0<=A) (ha:A / 4096=p) (hd:A % 8=0) (v0:0<=v) (v1:v<18446744073709551616) :
 Calls Tryz.prog 9 #[pp cb,.int .i64 1,.int .u64 A,.int .i64 8,.bool true,.int .u64 v] w fun e w'=>e=.returned (.tuple #[.int .u64 0,.agg #[.int .u64 0,.int .i64 0],.int .i64 0])/\ ∃ B,Has W w' cb M m 1004 p (mset B (A % 4096) 8 v):=by
 obtain ⟨O,Y,n,s,T,S,a,hy,hC,hn,lc,hk⟩:=h
 refine Calls.mono (hC.does (by omega) (p:=p) (by omega) true (R':=0) (fun _=>Or.inl ⟨hn p,rfl⟩) (fun e=>by omega) a0 ha (by omega) hd v0 v1) ?_
 rintro e w' (⟨_,r,he,n',s',T',S',a',f,B,h1,h2,h3,h4,h5⟩ | ⟨e,_⟩)
 . rw [if_pos rfl] at h3 h4
   subst h4
   exact ⟨he,B,O,Y,n',s',T',S',a',f,hy,h1,h3,lc,hk.trans (h2.sub fun j hj=>⟨hy j hj,by omega⟩)⟩
 . omega
theorem Has.load (h:Has W w cb M m J p B) (hJ:J<700000) (hp:p<2) {A z v:Int} (a0:0<=A) (ha:A / 4096=p) (hz:z=1\/z=2\/z=4\/z=8) (hd:A % z=0) (v0:0<=v) (v1:v<18446744073709551616) :
 Calls Tryz.prog 9 #[pp cb,.int .i64 1,.int .u64 A,.int .i64 z,.bool false,.int .u64 v] w fun e w'=>e=.returned (.tuple #[.int .u64 (ld B (A % 4096) z.toNat),.agg #[.int .u64 0,.int .i64 0],.int .i64 0])/\Has W w' cb M m (J+4) p B:=by
 obtain ⟨O,Y,n,s,T,S,a,f,hy,hC,hD,lc,hk⟩:=h
 refine Calls.mono (hC.does hJ (p:=p) (by omega) false (R':=0) (fun _=>Or.inr ⟨⟨f,hD.lf⟩,rfl⟩) (fun e=>by omega) a0 ha hz hd v0 v1) ?_
 rintro e w' (⟨_,r,he,n',s',T',S',a',f',B',h1,h2,h3,h4,h5⟩ | ⟨e,_⟩)
 . rw [if_neg (by decide)] at h3 h4
   have q:=h5 f B hD
   have o1:A % 4096+z<=4096:=by rcases hz with rfl | rfl | rfl | rfl <;> omega
   have l:ld B' (A % 4096) z.toNat=ld B (A % 4096) z.toNat:=by
    have:=ld_at (M:=B') (B:=B) 0 (A % 4096) z.toNat (fun i hi=>by rw [Int.zero_add];exact q _ (by omega) (by omega))
    rw [Int.zero_add] at this;exact this
   rw [h4,l] at he
   exact ⟨he,O,Y,n',s',T',S',a',f',hy,h1,h3.of q,lc,hk.trans (h2.sub fun j hj=>⟨hy j hj,by omega⟩)⟩
 . omega
theorem Has.store (h:Has W w cb M m J p B) (hJ:J<700000) (hp:p<2) {A z v:Int} (a0:0<=A) (ha:A / 4096=p) (hz:z=1\/z=2\/z=4\/z=8) (hd:A % z=0) (v0:0<=v) (v1:v<18446744073709551616) :
 Calls Tryz.prog 9 #[pp cb,.int .i64 1,.int .u64 A,.int .i64 z,.bool true,.int .u64 v] w fun e w'=>e=.returned (.tuple #[.int .u64 0,.agg #[.int .u64 0,.int .i64 0],.int .i64 0])/\Has W w' cb M m (J+4) p (mset B (A % 4096) z v):=by
 obtain ⟨O,Y,n,s,T,S,a,f,hy,hC,hD,lc,hk⟩:=h
 refine Calls.mono (hC.does hJ (p:=p) (by omega) true (R':=0) (fun _=>Or.inr ⟨⟨f,hD.lf⟩,rfl⟩) (fun e=>by omega) a0 ha hz hd v0 v1) ?_
 rintro e w' (⟨_,r,he,n',s',T',S',a',f',B',h1,h2,h3,h4,h5⟩ | ⟨e,_⟩)
 . rw [if_pos rfl] at h3 h4
   subst h4
   refine ⟨he,O,Y,n',s',T',S',a',f',hy,h1,h3.of fun i i0 i1=> ?_,lc,hk.trans (h2.sub fun j hj=>⟨hy j hj,by omega⟩)⟩
   unfold mset
   split
   . rfl
   . exact h5 f B hD i i0 i1
 . omega
theorem Has.fault (h:Has W w cb M m J p B) (hJ:J<700000) :
 Calls Tryz.prog 9 #[pp cb,.int .i64 1,.int .u64 8192,.int .i64 8,.bool false,.int .u64 0] w fun e w'=>e=.returned (.tuple #[.int .u64 0,.agg #[.int .u64 8192,.int .i64 4],.int .i64 9])/\Kept (fun j=>j<W.heap.size) W w':=by
 obtain ⟨O,Y,n,s,T,S,a,f,hy,hC,hD,lc,hk⟩:=h
 refine Calls.mono (hC.does hJ (p:=2) (by omega) false (R':=0) (fun e=>by omega) (fun _=>rfl) (A:=8192) (by omega) (by rfl) (by omega) (by rfl) (by omega) (by omega)) ?_
 rintro e w' (⟨e,_⟩ | ⟨_,he,h2⟩)
 . omega
 . exact ⟨he,hk.trans (h2.sub fun j hj=>⟨hy j hj,by omega⟩)⟩
end
theorem il_two (w:World) (x y:Int):Li.IL (w.alloc (.cells #[.int .i64 x,.int .i64 y] 3)) 0 (.slice (some ⟨w.heap.size,0,none⟩) 2 2) [x,y]:=by
 have q:Blk (w.alloc (.cells #[.int .i64 x,.int .i64 y] 3)) w.heap.size [.int .i64 x,.int .i64 y] 3:=Blk.made w [.int .i64 x,.int .i64 y] _
 refine Or.inr ⟨w.heap.size,0,2,rfl,Nat.le_refl _,Nat.zero_le _,q.lt,fun i hi j hj=> ?_⟩
 have ej:j=0:=by omega
 subst ej
 rw [q.cell]
 rcases (show i=0\/i=1 by simp at hi;omega) with rfl | rfl <;> rfl
theorem awake13 (W:World) (tb0:Tab W):Calls Tryz.prog 4 #[] W (re (.bool true) W):=by
 have BC:Hid _:=begin13 5 (by omega) (by omega) 0 _ [1,2] (by simp) (W.alloc (.cells #[.int .i64 1,.int .i64 2] 3)) (tb0.below baa tb0.1) (il_two W 1 2)
 have B0:Hid (bc W (W.alloc (.cells #[.int .i64 1,.int .i64 2] 3))):=baa
 clear tb0
 go_enter Tryz.func4,Tryz.ntmps4
 go_wp2_with fail
 refine Calls.mono BC.out ?_
 rintro e w1 ⟨cb,M,m,s,xb,hm,rfl,hB⟩
 generalize W.alloc (.cells #[.int .i64 1,.int .i64 2] 3)=W0 at hB B0
 have B1:Hid (Begun 5 W0 (w1.alloc (.cells #[pp M.mb,.slice none 0 0,.slice (some ⟨xb,0,none⟩) 1 1,.int .i64 0,.map (some hm)] 33)) cb M m s):=hB.below baa
 clear hB BC
 go_upto_region 2 with fail
 generalize w1.alloc (.cells #[pp M.mb,.slice none 0 0,.slice (some ⟨xb,0,none⟩) 1 1,.int .i64 0,.map (some hm)] 33)=w2 at B1 |-
 have x0:w2.cell? ⟨cb,0,none⟩=some (pp M.mb):=B1.out.cell
 go_wp2_with fail
 refine Calls.mono (B1.out.open s) ?_
 rintro e w3 ⟨rfl,h3⟩
 have B3:Hid (Opn 5 W0 w3 cb M m):=h3
 have x0:w3.cell? ⟨cb,0,none⟩=some (pp M.mb):=B3.out.cell
 clear h3 B1
 go_wp2_with fail
 refine Calls.mono (B3.out.map (by omega) (by omega)) ?_
 rintro e w4 ⟨rfl,h4⟩
 have B4:Hid (Rdy W0 w4 cb M m):=h4
 clear h4 B3 x0
 go_wp2_with fail
 refine Calls.mono (B4.out.store (p:=0) (A:=8) (v:=5) (by omega) (by omega) (by rfl) (by rfl) (by omega) (by omega)) ?_
 rintro e w5 ⟨rfl,B,h5⟩
 have B5:Hid (Has W0 (w5.alloc (.cells #[.int .u64 0,.int .i64 0] 47)) cb M m 1004 0 (mset B 8 8 5)):=h5.below baa
 clear h5 B4
 go_upto_region 5 with fail
 generalize w5.alloc (.cells #[.int .u64 0,.int .i64 0] 47)=w6 at B5 |-
 have LC:Hid _:=B5.out.load (by omega) (by omega) (A:=8) (z:=8) (v:=0) (by omega) (by rfl) (by omega) (by rfl) (by omega) (by omega)
 rw [show (8:Int) % 4096=8 from rfl,ld_mset8 B 8 5 (by omega) (by omega)] at LC
 clear B5
 go_wp2_with fail
 refine Calls.mono LC.out ?_
 rintro e w7 ⟨rfl,h7⟩
 have B7:Hid (Has W0 (w7.alloc (.cells #[.int .u64 0,.int .i64 0] 47)) cb M m 1008 0 (mset B 8 8 5)):=h7.below baa
 clear h7 LC
 go_upto_region 6 with fail
 generalize w7.alloc (.cells #[.int .u64 0,.int .i64 0] 47)=w8 at B7 |-
 go_wp2_with fail
 refine Calls.mono (B7.out.fault (by omega)) ?_
 rintro e w9 ⟨rfl,h9⟩
 have HE:Hid (bc W (w9.alloc (.cells #[.int .u64 8192,.int .i64 4] 47))):=below_new (below_then B0.out (below_of_kept h9)) _
 clear h9 B7
 go_wp2_with fail
 go_returns
 exact ⟨rfl,HE.out⟩
theorem Has.le {W w:World} {cb:Nat} {M:Mb} {m:Pm} {J J' p:Nat} {B:Int->Int} (h:Has W w cb M m J p B) (k:J<=J'):Has W w cb M m J' p B:=by
 obtain ⟨O,Y,n,s,T,S,a,f,h1,h2,h3,h4,h5⟩:=h
 exact ⟨O,Y,n,s,T,S,a,f,h1,h2.le k,h3,h4,h5⟩
theorem mod_two (x:Int) (x0:0<=x) (i n:Nat):x % 256 ^ i+x / 256 ^ i % 256 ^ n*256 ^ i=x % 256 ^ (i+n):=by
 obtain ⟨X,rfl⟩:=Int.eq_ofNat_of_zero_le x0
 have h:=Nat.mod_mul (x:=X) (a:=256 ^ i) (b:=256 ^ n)
 have e: ∀ k:Nat,((256:Int) ^ k)=((256 ^ k:Nat):Int):=fun k=>by rw [Int.natCast_pow];rfl
 rw [e,e,e,<- Int.natCast_emod,<- Int.natCast_ediv,<- Int.natCast_emod,<- Int.natCast_mul,<- Int.natCast_add,<- Int.natCast_emod,Nat.pow_add,h,Nat.mul_comm]
theorem or_next (x:Int) (x0:0<=x) (i n:Nat) (h:i+n<=8):bits .or .u64 (x % 256 ^ i) (IntKind.u64.wrap (x / 256 ^ i % 256 ^ n*2 ^ (8*(i:Int)).toNat))=x % 256 ^ (i+n):=by
 have p: ∀ k:Nat,(0:Int)<256 ^ k:=fun k=>Int.pow_pos (by omega)
 rw [show (8*(i:Int)).toNat=8*i by omega,or_part (Int.emod_nonneg _ (Int.ne_of_gt (p i))) (Int.emod_lt_of_pos _ (p i)) (Int.emod_nonneg _ (Int.ne_of_gt (p n))) (Int.emod_lt_of_pos _ (p n)) h]
 exact mod_two x x0 i n
theorem want_1 (M:Int->Int) (o x y:Int) (x0:0<=x) (x1:x<18446744073709551616) (y0:0<=y) (y1:y<18446744073709551616):bits .or .u64 (bits .andNot .u64 x 255) (bits .and .u64 y 255)=ld (mset (mset M o 8 x) o 1 y) o 8:=by
 have h:=ld_patch M o x y x0 x1 y0 1 (by omega)
 have q:=patch_bits x y x0 x1 y0 y1 8 255 18446744073709551360 256 (by decide) (by decide) (by decide) (by decide) (by decide) (by decide) (by decide) (by decide) (by decide) (by decide)
 exact q.trans h.symm
theorem want_2 (M:Int->Int) (o x y:Int) (x0:0<=x) (x1:x<18446744073709551616) (y0:0<=y) (y1:y<18446744073709551616):bits .or .u64 (bits .andNot .u64 x 65535) (bits .and .u64 y 65535)=ld (mset (mset M o 8 x) o 2 y) o 8:=by
 have h:=ld_patch M o x y x0 x1 y0 2 (by omega)
 have q:=patch_bits x y x0 x1 y0 y1 16 65535 18446744073709486080 65536 (by decide) (by decide) (by decide) (by decide) (by decide) (by decide) (by decide) (by decide) (by decide) (by decide)
 exact q.trans h.symm
theorem want_4 (M:Int->Int) (o x y:Int) (x0:0<=x) (x1:x<18446744073709551616) (y0:0<=y) (y1:y<18446744073709551616):bits .or .u64 (bits .andNot .u64 x 4294967295) (bits .and .u64 y 4294967295)=ld (mset (mset M o 8 x) o 4 y) o 8:=by
 have h:=ld_patch M o x y x0 x1 y0 4 (by omega)
 have q:=patch_bits x y x0 x1 y0 y1 32 4294967295 18446744069414584320 4294967296 (by decide) (by decide) (by decide) (by decide) (by decide) (by decide) (by decide) (by decide) (by decide) (by decide)
 exact q.trans h.symm
theorem want_8 (M:Int->Int) (o x y:Int) (x0:0<=x) (x1:x<18446744073709551616) (y0:0<=y) (y1:y<18446744073709551616):ld (mset (mset M o 8 x) o 8 y) o 8=y:=by
 have h:=ld_patch M o x y x0 x1 y0 8 (by omega)
 refine h.trans ?_
 rw [show (256:Int) ^ 8=18446744073709551616 by decide,Int.ediv_eq_zero_of_lt x0 x1,Int.emod_eq_of_lt y0 y1]
 simp
end Go.Proofs.YtgbdnnkkcpkhdaaGreatDoor.Sp
