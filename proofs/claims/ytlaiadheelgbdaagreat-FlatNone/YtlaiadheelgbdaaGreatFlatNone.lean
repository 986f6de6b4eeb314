/- P19.1 in the law FlatNone: a model that was not booted. -/
import Derived.Test.YtlaiadheelgbdaaGreatRows
import Derived.ProofKit
import Derived.OpenShut
import Derived.Carry
import Derived.Test.YtlaiadheelgbdaaGreatFVf
import Derived.Test.YtlaiadheelgbdaaGreatFWf
namespace Go.Proofs.YtlaiadheelgbdaaGreat.flatNone
open Go.ChangeShapes Go.WideShapes Go.ChangeAt Go.RowKit Go.Maps
set_option linter.unusedSimpArgs false
set_option linter.unusedVariables false
open Go.Proofs.YtlaiadheelgbdaaGreat.Ca (Wd open_wd args_stay)
open Go.Proofs.YtlaiadheelgbdaaGreat.Fl
theorem zero_at:Tryz.zeroCells34[0]? =some (.pointer none)/\Tryz.zeroCells34[1538]? =some (.map none):=⟨by kernel_rfl,by kernel_rfl⟩
set_option maxRecDepth 8000 in
set_option maxHeartbeats 16000000 in
theorem walk (D0:Wd) (w0:D0.wf) (a1:Int) (w1:(Lit.int .i64 a1).wf=true) (w:World)  :
 Calls Tryz.prog 3 #[D0.val,.int .i64 a1] w fun e w'=>e=.returned (.bool true)/\Below w.heap.size w w':=by
 obtain ⟨v0,v1,v2,v3,v4,v5⟩:=D0
 have EQ: ∀ W:World,(binOp .eql 39 (.agg #[.int .i64 0,.int .u64 0,.int .i64 12,.int .u64 0,.int .i64 0,.bool false]) (.agg #[.int .i64 0,.int .u64 0,.int .i64 12,.int .u64 0,.int .i64 0,.bool false])).run Tryz.prog W=.ok (.bool true) W:=fun W=>by kernel_rfl
 have AW:Hid (∀ W:World,Calls Tryz.prog 7 #[] W fun e w'=>e=.returned (.bool true)/\Below W.heap.size W w'):=awake_any
 have E0:Hid (((w.alloc (.cells #[.int .u64 v0,.int .u64 v1,.int .u64 v2,.int .u64 v3,.int .u64 v4,.int .u64 v5] 24)).alloc (.cells Tryz.zeroCells34 34)).cell? ⟨w.heap.size+1,0,none⟩=some (.pointer none)/\((w.alloc (.cells #[.int .u64 v0,.int .u64 v1,.int .u64 v2,.int .u64 v3,.int .u64 v4,.int .u64 v5] 24)).alloc (.cells Tryz.zeroCells34 34)).cell? ⟨w.heap.size+1,1538,none⟩=some (.map none)/\w.heap.size+1<((w.alloc (.cells #[.int .u64 v0,.int .u64 v1,.int .u64 v2,.int .u64 v3,.int .u64 v4,.int .u64 v5] 24)).alloc (.cells Tryz.zeroCells34 34)).heap.size/\Below w.heap.size w ((w.alloc (.cells #[.int .u64 v0,.int .u64 v1,.int .u64 v2,.int .u64 v3,.int .u64 v4,.int .u64 v5] 24)).alloc (.cells Tryz.zeroCells34 34))/\Blk ((w.alloc (.cells #[.int .u64 v0,.int .u64 v1,.int .u64 v2,.int .u64 v3,.int .u64 v4,.int .u64 v5] 24)).alloc (.cells Tryz.zeroCells34 34)) w.heap.size [.int .u64 v0,.int .u64 v1,.int .u64 v2,.int .u64 v3,.int .u64 v4,.int .u64 v5] 24):=by
  have s1:(w.alloc (.cells #[.int .u64 v0,.int .u64 v1,.int .u64 v2,.int .u64 v3,.int .u64 v4,.int .u64 v5] 24)).heap.size=w.heap.size+1:=World.size_alloc _ _
  have b2:Below (w.alloc (.cells #[.int .u64 v0,.int .u64 v1,.int .u64 v2,.int .u64 v3,.int .u64 v4,.int .u64 v5] 24)).heap.size (w.alloc (.cells #[.int .u64 v0,.int .u64 v1,.int .u64 v2,.int .u64 v3,.int .u64 v4,.int .u64 v5] 24)) ((w.alloc (.cells #[.int .u64 v0,.int .u64 v1,.int .u64 v2,.int .u64 v3,.int .u64 v4,.int .u64 v5] 24)).alloc (.cells Tryz.zeroCells34 34)):=Go.Joins.below_alloc1 _ _
  refine ⟨?_,?_,?_,below_then (Go.Joins.below_alloc1 _ _) b2,(Blk.made _ _ _:Blk (w.alloc (.cells #[.int .u64 v0,.int .u64 v1,.int .u64 v2,.int .u64 v3,.int .u64 v4,.int .u64 v5] 24)) w.heap.size [.int .u64 v0,.int .u64 v1,.int .u64 v2,.int .u64 v3,.int .u64 v4,.int .u64 v5] 24).below b2⟩
  . rw [<- s1,World.cell?_alloc_at _ _ _ _ rfl];exact zero_at.1
  . rw [<- s1,World.cell?_alloc_at _ _ _ _ rfl];exact zero_at.2
  . rw [World.size_alloc,s1];omega
 clear w0 w1
 go_enter Tryz.func3,Tryz.ntmps3
 go_upto_region 2 with fail
 generalize ((w.alloc (.cells #[.int .u64 v0,.int .u64 v1,.int .u64 v2,.int .u64 v3,.int .u64 v4,.int .u64 v5] 24)).alloc (.cells Tryz.zeroCells34 34))=V0 at E0 |-
 obtain ⟨mb,hmb⟩: ∃ mb,mb=w.heap.size+1:=⟨_,rfl⟩
 obtain ⟨wb,hwb⟩: ∃ wb,wb=w.heap.size:=⟨_,rfl⟩
 have E1:Hid (V0.cell? ⟨mb,0,none⟩=some (.pointer none)/\V0.cell? ⟨mb,1538,none⟩=some (.map none)/\mb<V0.heap.size/\Below w.heap.size w V0):=by
  rw [hmb];exact ⟨E0.out.1,E0.out.2.1,E0.out.2.2.1,E0.out.2.2.2.1⟩
 have W0:V0.cell? ⟨wb,0,none⟩=some (.int .u64 v0):=by rw [hwb];exact E0.out.2.2.2.2.cell 0
 have W1:V0.cell? ⟨wb,1,none⟩=some (.int .u64 v1):=by rw [hwb];exact E0.out.2.2.2.2.cell 1
 have W2:V0.cell? ⟨wb,2,none⟩=some (.int .u64 v2):=by rw [hwb];exact E0.out.2.2.2.2.cell 2
 have W3:V0.cell? ⟨wb,3,none⟩=some (.int .u64 v3):=by rw [hwb];exact E0.out.2.2.2.2.cell 3
 have W4:V0.cell? ⟨wb,4,none⟩=some (.int .u64 v4):=by rw [hwb];exact E0.out.2.2.2.2.cell 4
 have W5:V0.cell? ⟨wb,5,none⟩=some (.int .u64 v5):=by rw [hwb];exact E0.out.2.2.2.2.cell 5
 rw [<- hmb,<- hwb]
 have D1:Hid (Calls Tryz.prog 5 #[pp mb,.agg #[.int .u64 v0,.int .u64 v1,.int .u64 v2,.int .u64 v3,.int .u64 v4,.int .u64 v5]] V0 fun e w'=>e=.returned (.agg #[.int .i64 0,.int .u64 0,.int .i64 12,.int .u64 0,.int .i64 0,.bool false])/\Below V0.heap.size V0 w'):=do_no mb v0 v1 v2 v3 v4 v5 V0 E1.out.1 E1.out.2.2.1
 clear hmb hwb E0
 go_wp2_with fail
 refine Calls.mono D1.out ?_
 rintro e u1 ⟨rfl,hb⟩
 have E2:Hid ((u1.alloc (.cells #[.int .i64 0,.int .u64 0,.int .i64 12,.int .u64 0,.int .i64 0,.bool false] 39)).cell? ⟨mb,0,none⟩=some (.pointer none)/\(u1.alloc (.cells #[.int .i64 0,.int .u64 0,.int .i64 12,.int .u64 0,.int .i64 0,.bool false] 39)).cell? ⟨mb,1538,none⟩=some (.map none)/\mb<(u1.alloc (.cells #[.int .i64 0,.int .u64 0,.int .i64 12,.int .u64 0,.int .i64 0,.bool false] 39)).heap.size/\Below w.heap.size w (u1.alloc (.cells #[.int .i64 0,.int .u64 0,.int .i64 12,.int .u64 0,.int .i64 0,.bool false] 39))/\Blk (u1.alloc (.cells #[.int .i64 0,.int .u64 0,.int .i64 12,.int .u64 0,.int .i64 0,.bool false] 39)) u1.heap.size [.int .i64 0,.int .u64 0,.int .i64 12,.int .u64 0,.int .i64 0,.bool false] 39):=by
  obtain ⟨c0,c1,l,b⟩:=E1.out
  have bb:Below V0.heap.size V0 (u1.alloc (.cells #[.int .i64 0,.int .u64 0,.int .i64 12,.int .u64 0,.int .i64 0,.bool false] 39)):=below_then hb (Go.Joins.below_alloc1 _ _)
  exact ⟨(bb.cell (p:=⟨mb,0,none⟩) l).trans c0,(bb.cell (p:=⟨mb,1538,none⟩) l).trans c1,Nat.lt_of_lt_of_le l bb.size,below_then b bb,Blk.made _ _ _⟩
 clear hb D1 E1 W0 W1 W2 W3 W4 W5
 have TK:Hid (Calls Tryz.prog 6 #[pp mb] (u1.alloc (.cells #[.int .i64 0,.int .u64 0,.int .i64 12,.int .u64 0,.int .i64 0,.bool false] 39)) fun e w'=>e=.returned (.tuple #[.bool false,.int .i64 12])/\w'=(u1.alloc (.cells #[.int .i64 0,.int .u64 0,.int .i64 12,.int .u64 0,.int .i64 0,.bool false] 39))):=tick_no mb _ E2.out.1
 go_wp2_with fail
 refine Calls.mono TK.out ?_
 rintro e u2 ⟨rfl,rfl⟩
 clear TK
 generalize u1.heap.size=rb at E2 |-
 generalize (u1.alloc (.cells #[.int .i64 0,.int .u64 0,.int .i64 12,.int .u64 0,.int .i64 0,.bool false] 39))=V1 at E2 |-
 go_wp2_with fail
 refine Calls.mono (AW.out _) ?_
 rintro e u3 ⟨rfl,hb⟩
 have E3:Hid (u3.cell? ⟨mb,0,none⟩=some (.pointer none)/\u3.cell? ⟨mb,1538,none⟩=some (.map none)/\Below w.heap.size w u3/\Blk u3 rb [.int .i64 0,.int .u64 0,.int .i64 12,.int .u64 0,.int .i64 0,.bool false] 39):=by
  obtain ⟨c0,c1,l,b,k⟩:=E2.out
  exact ⟨(hb.cell (p:=⟨mb,0,none⟩) l).trans c0,(hb.cell (p:=⟨mb,1538,none⟩) l).trans c1,below_then b hb,k.below hb⟩
 clear hb E2 AW
 have LN:Hid (Calls Tryz.prog 8 #[pp mb] u3 fun e w'=>e=.returned (.slice none 0 0)/\w'=u3):=line_no mb _ E3.out.1
 have UN:Hid (Calls Tryz.prog 9 #[pp mb,.int .i64 a1] u3 fun e w'=>e=.returned (.int .i64 (-1))/\w'=u3):=used_no mb a1 _ E3.out.2.1
 have R0:u3.cell? ⟨rb,0,none⟩=some (.int .i64 0):=E3.out.2.2.2.cell 0
 have R1:u3.cell? ⟨rb,1,none⟩=some (.int .u64 0):=E3.out.2.2.2.cell 1
 have R2:u3.cell? ⟨rb,2,none⟩=some (.int .i64 12):=E3.out.2.2.2.cell 2
 have R3:u3.cell? ⟨rb,3,none⟩=some (.int .u64 0):=E3.out.2.2.2.cell 3
 have R4:u3.cell? ⟨rb,4,none⟩=some (.int .i64 0):=E3.out.2.2.2.cell 4
 have R5:u3.cell? ⟨rb,5,none⟩=some (.bool false):=E3.out.2.2.2.cell 5
 go_wp2_with fail
 refine Calls.mono LN.out ?_
 rintro e u4 ⟨rfl,rfl⟩
 clear LN
 go_wp2_with fail
 refine Calls.mono UN.out ?_
 rintro e u5 ⟨rfl,rfl⟩
 clear UN
 go_wp2_with fail
 go_returns
 exact ⟨rfl,E3.out.2.2.1⟩
theorem own:ownKnob Tryz.prog.godebug=none:=by kernel_rfl
theorem laidOut:laidOutB Tryz.prog=true:=by kernel_rfl
set_option maxRecDepth 100000 in
theorem lifted (os:Os) (started:os.Started) (H:Type) (enc:TypeId × Value->H) :
 ReturnsInHanded {} Tryz.checked os 3 .any (Rows.flatNoneSpec.pre6 enc Tryz.prog Tryz.f3 Rows.flatNoneRow.domain false) (Rows.flatNoneSpec.post enc Tryz.prog Tryz.f3 false true false false):=by
 refine returnsInHanded_of_change (C:=Tryz.checked) own started (by kernel_rfl) Tryz.func3
  (ChangeSpec.witness6 (enc:=enc) (C:=Tryz.checked) false ⟨#[],#[.agg #[.int .u64 0,.int .u64 0,.int .u64 0,.int .u64 0,.int .u64 0,.int .u64 0],.int .i64 0],[]⟩ 8 (by kernel_rfl) (by kernel_rfl) (by kernel_rfl) (by kernel_rfl)) ?_
 intro W base args ds gs before hval0 hW hcnd _
 have hval: ∀ (j:Nat) t v,Tryz.f3.params[j]? =some t->args[j]? =some v->Value.okWide Tryz.prog W .any base t v:=hval0
 have hW':=hW
 obtain ⟨p,q,hA0,hV,hbef,hfz,hnd⟩:=hW
 have hA:DataW.TrodAll enc Tryz.prog W 0 (fun _=>true) true Tryz.f3.params.toList args.toList ds p:=hA0
 have hAk:=hA
 have hlt: ∀ x∈p,x.block<W.heap.size:=fun x hx=>hW'.lt x (by rw [hbef];exact List.mem_append_left _ hx)
 rw [Tryz.params3] at hA hval
 obtain ⟨v0,vs0,d0,ds0,p0,q0,hargs,rfl,hp0,h0,r0⟩:=trodAll_cons hA
 obtain ⟨v1,vs1,d1,ds1,p1,q1,rfl,rfl,hp1,h1,r1⟩:=trodAll_cons r0
 obtain ⟨rfl,rfl,hpz⟩:=trodAll_nil r1
 obtain rfl:args= #[v0,v1]:=by cases args;simp_all
 obtain ⟨rfl,rfl⟩:=trodVars_none hV
 obtain ⟨D0,rfl,w0⟩:=open_wd (hval 0 24 v0 rfl rfl) h0
 obtain ⟨a1,rfl,_,_,w1⟩:=open_int Tryz.underlying3 (hval 1 3 v1 rfl rfl) h1
 clear hA0 hval0
 refine (walk D0 w0 a1 w1 W ).mono fun e W' ⟨he,hg⟩=> ?_
 subst he
 exact ⟨_,rfl,⟨_,_,_,[],p,[],hW',(trodAll_cons_mk (shut_bool Tryz.underlying4 _) trodAll_mk0),args_stay laidOut hg (by kernel_rfl) hAk hlt,rfl,hg.frame _,fun h=>by cases h⟩⟩
theorem over:Rows.flatNoneRow.holds Tryz.pinned (OpenSpec.ofChange Rows.flatNoneSpec) :=
 OpenClaim.holds_of_wide 3 Tryz.f3 rfl rfl rfl rfl rfl rfl rfl ⟨rfl,rfl,rfl,rfl,rfl⟩ rfl rfl rfl rfl rfl (by kernel_rfl) Tryz.func3 (by kernel_rfl)
  (of_decide_eq_true (by kernel_rfl)) (by unfold Func.isWrapper;first | (rw [if_pos (by decide +kernel)];kernel_rfl) | (rw [if_neg (by decide +kernel)];exact ⟨rfl,rfl⟩))
  (fun os started H enc _=>lifted os started H enc)
theorem proved:Rows.FlatNoneSaid :=
 over
#print axioms proved
end Go.Proofs.YtlaiadheelgbdaaGreat.flatNone
