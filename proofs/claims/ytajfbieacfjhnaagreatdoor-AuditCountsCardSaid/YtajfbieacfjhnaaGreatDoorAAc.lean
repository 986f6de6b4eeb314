import Derived.Test.YtajfbieacfjhnaaGreatDoorOXc
import Derived.Test.YtajfbieacfjhnaaGreatDoorMAc
import Derived.Test.YtajfbieacfjhnaaGreatDoorMBc
import Derived.Test.YtajfbieacfjhnaaGreatDoorOYc
namespace Go.Proofs.YtajfbieacfjhnaaGreatDoor.Au
open Go.ChangeShapes Go.WideShapes Go.ChangeAt Go.RowKit Go.Maps
open Go.Proofs.YtajfbieacfjhnaaGreatDoor.Tt
set_option linter.unusedSimpArgs false
set_option linter.unusedVariables false
set_option maxRecDepth 8000
abbrev Us:=Int × Int × Int
def eU (x:Us):List Value:=[.int .i64 x.1,.int .i64 x.2.1,.int .i64 x.2.2]
theorem eU_len (x:Us):(eU x).length=3:=rfl
theorem eU_one (x:Us): ∀ u∈eU x,u.oneCell'=true:=by intro u hu;simp [eU] at hu;rcases hu with rfl | rfl | rfl <;> rfl
theorem infoU: ∃ i,Tryz.prog.info? 26=some i/\i.zero=some (.agg #[.int .i64 0,.int .i64 0,.int .i64 0])/\i.size=3/\i.bytes=24:=⟨_,rfl,by kernel_rfl,by kernel_rfl,by kernel_rfl⟩
abbrev UL (w:World) (lo:Nat) (v:Value) (L:List Us):Prop:=Bm.LL 3 eU w lo v L
abbrev OU (w:World) (base:Nat) (v:Value) (L:List Us):Prop:=Bm.OL 26 3 eU w base v L
structure LU (w0:World) (K:Nat->Prop) (b:Nat) (L:List Us) (W:World):Prop where
 box: ∃ v,Blk W b [v] 22/\OU W w0.heap.size v L/\v.ownBlock≠some b/\ ∀ j,K j->v.ownBlock≠some j
 bel:Below w0.heap.size w0 W
 lb:w0.heap.size<=b
 kb: ∀ j,K j->j≠b/\j<W.heap.size
theorem LU.below {w0 W W':World} {K:Nat->Prop} {b:Nat} {L:List Us} (h:LU w0 K b L W) (hb:Below W.heap.size W W'):LU w0 K b L W':=by
 obtain ⟨⟨v,h1,h2,h3,h4⟩,h5,h6,h7⟩:=h
 exact ⟨⟨v,h1.below hb,Bm.row_below h2 hb,h3,h4⟩,Bm.below_then h5 hb,h6,fun j hj=>⟨(h7 j hj).1,Nat.lt_of_lt_of_le (h7 j hj).2 hb.size⟩⟩
theorem LU.grow {w0 W W':World} {K:Nat->Prop} {b:Nat} {L:List Us} (h:LU w0 K b L W) (hb:Below W.heap.size W W'):LU w0 (fun j=>K j\/(W.heap.size<=j/\j<W'.heap.size)) b L W':=by
 obtain ⟨⟨v,h1,h2,h3,h4⟩,h5,h6,h7⟩:=h
 refine ⟨⟨v,h1.below hb,Bm.row_below h2 hb,h3,fun j hj e=> ?_⟩,Bm.below_then h5 hb,h6,fun j hj=> ?_⟩
 . rcases hj with c | c
   . exact h4 j c e
   . have:=(Bm.row_lt h2 j e).2;omega
 . rcases hj with c | c
   . exact ⟨(h7 j c).1,Nat.lt_of_lt_of_le (h7 j c).2 hb.size⟩
   . have:=h1.lt;exact ⟨by omega,c.2⟩
theorem LU.less {w0 W:World} {K K':Nat->Prop} {b:Nat} {L:List Us} (h:LU w0 K b L W) (hk: ∀ j,K' j->K j):LU w0 K' b L W:=by
 obtain ⟨⟨v,h1,h2,h3,h4⟩,h5,h6,h7⟩:=h
 exact ⟨⟨v,h1,h2,h3,fun j hj=>h4 j (hk j hj)⟩,h5,h6,fun j hj=>h7 j (hk j hj)⟩
abbrev Ks (w0:World) (K:Nat->Prop) (W W':World):Prop:=Kept (fun j=>K j\/j<w0.heap.size) W W'
theorem LU.app {w0 W:World} {K:Nat->Prop} {b:Nat} {L:List Us} (h:LU w0 K b L W) (hL:L.length<=1000000) (x:Us) :
 ∃ v p n c W2,W.cell? ⟨b,0,none⟩=some v/\(Builtin.append_ #[22,22] 22 #[v,.slice (some ⟨W.heap.size,0,none⟩) 1 1]).run Tryz.prog (W.alloc (.cells #[.int .i64 x.1,.int .i64 x.2.1,.int .i64 x.2.2] 26))=.ok (.slice p n c) W2/\(W2.cell? ⟨b,0,none⟩=some v/\W2.frozen? ⟨b,0,none⟩=false)/\LU w0 K b (L++[x]) (W2.setCell ⟨b,0,none⟩ (.slice p n c))/\Ks w0 K W (W2.setCell ⟨b,0,none⟩ (.slice p n c)):=by
 obtain ⟨⟨v,h1,h2,h3,h4⟩,h5,h6,h7⟩:=h
 obtain ⟨v',W2,r,ho,hg,hat⟩:=Bm.app_row eU_len eU_one (by decide) Tryz.underlying22 infoU rfl (by decide) w0.heap.size v L x (by omega) W h2 h5.size
 obtain ⟨p,c,hv',_⟩:=(Bm.ol_ll eU_len ho).form
 subst hv'
 have sz:W.heap.size<(W.alloc (.cells (eU x).toArray 26)).heap.size:=by rw [World.size_alloc];omega
 have kp: ∀ j,j<W.heap.size->v.ownBlock≠some j->W2.heap[j]? =W.heap[j]? :=fun j hj n=>(hg.block j (by omega) (fun e=>n e.symm)).trans ((Go.Joins.below_alloc1 W _).block j hj)
 have bx:Blk W2 b [v] 22:=(kp b h1.lt h3).trans h1
 have bn:(Value.slice p (L++[x]).length c).ownBlock≠some b:=by
  rcases hat with e | e
  . rw [e];exact h3
  . rw [e];intro q;have:=Option.some.inj q;have:=h1.lt;omega
 have kn: ∀ j,K j->(Value.slice p (L++[x]).length c).ownBlock≠some j:=fun j hj=>by
  rcases hat with e | e
  . rw [e];exact h4 j hj
  . rw [e];intro q;have:=Option.some.inj q;have:=(h7 j hj).2;omega
 have g2:=Qu.grown_setCell1 W2 b 0 (.slice p (L++[x]).length c)
 have s2:W.heap.size<=W2.heap.size:=Nat.le_trans (Nat.le_of_lt sz) hg.size
 have b2:Below w0.heap.size w0 W2:=(Bm.below_new h5 _).grown hg (by rw [World.size_alloc];have:=h5.size;omega) (fun g e=>(Bm.row_lt h2 g e).1)
 refine ⟨v,p,_,c,W2,h1.cell 0,r,⟨bx.cell 0,bx.free 0⟩,⟨⟨_,?_,Bm.row_keep ho (fun g e=>g2.block g (Bm.row_lt ho g e).2 (fun q=>bn (by rw [e];exact q))),bn,kn⟩,b2.setCell (p:=⟨b,0,none⟩) h6 _,h6,fun j hj=>⟨(h7 j hj).1,Nat.lt_of_lt_of_le (h7 j hj).2 (Nat.le_trans s2 g2.size)⟩⟩,?_⟩
 . exact bx.set 0 _
 . refine ⟨g2.os.trans (hg.os.trans rfl),g2.tape.trans (hg.tape.trans rfl),g2.output.trans (hg.output.trans rfl),Nat.le_trans s2 g2.size,fun j hj=> ?_⟩
   have jl:j<W.heap.size:=hj.elim (fun c=>(h7 j c).2) (fun c=>Nat.lt_of_lt_of_le c h5.size)
   have jb:j≠b:=hj.elim (fun c=>(h7 j c).1) (fun c=>by omega)
   have jv:v.ownBlock≠some j:=hj.elim (fun c=>h4 j c) (fun c e=>by have:=(Bm.row_lt h2 j e).1;omega)
   exact (g2.block j (by omega) (fun e=>jb (Option.some.inj e))).trans (kp j jl jv)
set_option maxHeartbeats 1000000 in
theorem note_any {w0 W:World} {K:Nat->Prop} {b:Nat} {L:List Us} (h:LU w0 K b L W) (hL:L.length<=1000000) (f k s:Int) :
 Calls Tryz.prog 16 #[.agg #[.int .i64 f,.int .i64 k,.int .i64 s],pp b] W fun e w'=>e=.returned (.tuple #[])/\LU w0 K b (L++[(f,k,s)]) w'/\Ks w0 K W w':=by
 have hb:Below W.heap.size W (W.alloc (.cells #[.int .i64 f,.int .i64 k,.int .i64 s] 26)):=Go.Joins.below_alloc1 _ _
 have BB:Blk (W.alloc (.cells #[.int .i64 f,.int .i64 k,.int .i64 s] 26)) W.heap.size [.int .i64 f,.int .i64 k,.int .i64 s] 26:=Blk.made _ _ _
 have K0:Hid (Ks w0 K W (W.alloc (.cells #[.int .i64 f,.int .i64 k,.int .i64 s] 26))):=kept_of_below hb (fun j hj=>hj.elim (fun c=>(h.kb j c).2) (fun c=>Nat.lt_of_lt_of_le c h.bel.size))
 have H1:LU w0 K b L (W.alloc (.cells #[.int .i64 f,.int .i64 k,.int .i64 s] 26)):=h.below hb
 clear hb h
 go_enter Tryz.func16,Tryz.ntmps16
 go_upto_region 1 with fail
 generalize (W.alloc (.cells #[.int .i64 f,.int .i64 k,.int .i64 s] 26))=V at H1 K0 BB |-
 generalize W.heap.size=q at BB |-
 obtain ⟨v,p,n,c,W2,c0,r,⟨c1,z1⟩,L2,k2⟩:=H1.app hL (f,k,s)
 have HE:Hid (LU w0 K b (L++[(f,k,s)]) (W2.setCell ⟨b,0,none⟩ (.slice p n c))/\Ks w0 K W (W2.setCell ⟨b,0,none⟩ (.slice p n c))):=⟨L2,K0.out.trans k2⟩
 have x0:V.cell? ⟨q,0,none⟩=some (.int .i64 f):=BB.cell 0
 have x1:V.cell? ⟨q,1,none⟩=some (.int .i64 k):=BB.cell 1
 have x2:V.cell? ⟨q,2,none⟩=some (.int .i64 s):=BB.cell 2
 clear L2 k2 H1 K0 BB
 go_wp2_with (at_builtin;refine Bm.wpList_app rfl _ _ 22 rfl v (.slice (some ⟨V.heap.size,0,none⟩) 1 1) rfl rfl (.slice p n c) W2 r ?_)
 go_returns
 exact ⟨rfl,HE.out⟩
end Go.Proofs.YtajfbieacfjhnaaGreatDoor.Au
namespace Go.Proofs.YtajfbieacfjhnaaGreatDoor.Au
open Go.ChangeShapes Go.WideShapes Go.ChangeAt Go.RowKit Go.Maps
open Go.Proofs.YtajfbieacfjhnaaGreatDoor.Tt
set_option linter.unusedSimpArgs false
set_option linter.unusedVariables false
set_option maxRecDepth 8000
set_option maxHeartbeats 2000000 in
theorem each_k {X:Nat->Prop} {w0:World} {m:Pm} {s:Ps} (h:Pu X w0 m s) (f:Nat) (hf:m.has f=true) (k0 k1:Nat) (J:Nat->World->Prop)
 (hJ: ∀ j W W',J j W->Below W.heap.size W W'->J j W') (hB: ∀ j W,J j W->Below w0.heap.size w0 W) (h0: ∀ (j:Nat) W,j<512->En s.M f j=0->J j W->J (j+1) W)
 (h1: ∀ j:Nat,j<512->En s.M f j=0\/ ∃ r u a d lg gl nn,∃ fr:Int,0<=fr/\fr<1048576/\En s.M f j=packV true r u a d lg gl nn fr/\ ∀ W,J j W->Calls Tryz.prog 55 #[.int .i64 j,.agg #[.bool true,.bool r,.bool u,.bool a,.bool d,.bool lg,.bool gl,.bool nn,.int .i64 fr],pp k0,pp k1] W fun e w'=>e=.returned (.tuple #[])/\J (j+1) w')
 (W:World) (hI:J 0 W) :
 Calls Tryz.prog 54 #[pp m.rb,.int .i64 f,.func (.func 55) #[] #[pp k0,pp k1]] W fun e w'=>e=.returned (.tuple #[])/\J 512 w':=by
 have hb:=h.so.hb f hf
 have F1:=h.so.F1
 have LC:Hid (∀ (w:World) (j:Nat),Below w0.heap.size w0 w->j<512->Calls Tryz.prog 103 #[pp m.rb,.int .u64 ((f:Int)*4096+(j:Int)*8),.int .i64 8] w fun e w'=>e=.returned (.tuple #[.int .u64 (En s.M f j),.int .i64 0])/\Below w.heap.size w w'):=fun w j hb' hj=>((h.below hb').load f j hf (by omega) (by omega)).mono (fun e w' ⟨he,hg⟩=>⟨he,grown_below hg⟩)
 have UC:Hid (∀ (w:World) (r u a d lg gl nn:Bool) (fr:Int),0<=fr->fr<1048576->Below w0.heap.size w0 w->Calls Tryz.prog 104 #[.int .u64 (packV true r u a d lg gl nn fr)] w fun e w'=>e=.returned (.agg #[.bool true,.bool r,.bool u,.bool a,.bool d,.bool lg,.bool gl,.bool nn,.int .i64 fr])/\Below w.heap.size w w'):=fun w r u a d lg gl nn fr r0 r1 hb'=>by
  have pb:=pack_bd true r u a d lg gl nn fr r0 r1
  have q:=unpack_any (packV true r u a d lg gl nn fr) pb.1 pb.2 w (h.below hb').tab
  rw [unp_pack true r u a d lg gl nn fr r0 r1] at q
  exact q
 have HJ:Hid (∀ j W W',J j W->Below W.heap.size W W'->J j W'):=hJ
 have HB:Hid (∀ j W,J j W->Below w0.heap.size w0 W):=hB
 have H0:Hid (∀ (j:Nat) W,j<512->En s.M f j=0->J j W->J (j+1) W):=h0
 have H1:Hid (∀ j:Nat,j<512->En s.M f j=0\/ ∃ r u a d lg gl nn,∃ fr:Int,0<=fr/\fr<1048576/\En s.M f j=packV true r u a d lg gl nn fr/\ ∀ W,J j W->Calls Tryz.prog 55 #[.int .i64 j,.agg #[.bool true,.bool r,.bool u,.bool a,.bool d,.bool lg,.bool gl,.bool nn,.int .i64 fr],pp k0,pp k1] W fun e w'=>e=.returned (.tuple #[])/\J (j+1) w'):=h1
 have HI:Hid (J 0 W):=hI
 obtain ⟨rb,bb,tb,has,F⟩:=m
 simp only at LC hb F1
 have fb:0<=(f:Int)/\(f:Int)<1000000:=by omega
 clear h hf hJ hB h0 h1 hI hb F1
 go_enter Tryz.func54,Tryz.ntmps54
 go_wp2_with fail
 go_loopw [6,7,8,9,10] (fun _ _ _ _ vj V=> ∃ j:Nat,j<=512/\vj=.int .i64 j/\Hid (J j V)) (fun _ _ _ _ vj _=>512-(Go.RowKit.intOf vj).toNat)
 case atStart=>exact ⟨0,by omega,rfl,HI⟩
 case round =>
  obtain ⟨j,hj,rfl,HJJ⟩:=hrel
  clear HI
  by_cases cj:j<512
  rotate_left
  . have d1:decide ((j:Int)<512)=false:=by simp;omega
    have e5:Hid (j=512):=by show j=512;omega
    have nj: ¬ j<512:=cj
    go_wp2_with fail
    go_returns
    exact ⟨rfl,by rw [<- e5.out];exact HJJ.out⟩
  have d1:decide ((j:Int)<512)=true:=by simp;omega
  obtain ⟨x,hx⟩: ∃ x:Int,x=En s.M f j:=⟨_,rfl⟩
  have L1:Hid (Calls Tryz.prog 103 #[pp rb,.int .u64 ((f:Int)*4096+(j:Int)*8),.int .i64 8] wr fun e w'=>e=.returned (.tuple #[.int .u64 x,.int .i64 0])/\Below wr.heap.size wr w'):=by rw [hx];exact LC.out wr j (HB.out _ _ HJJ.out) cj
  have CJ:Hid (j<512):=cj
  have w1:IntKind.u64.wrap (f:Int)=f:=by rw [IntKind.wrap_u64,Int.emod_eq_of_lt (by omega) (by omega)]
  have w2:IntKind.u64.wrap (j:Int)=j:=by rw [IntKind.wrap_u64,Int.emod_eq_of_lt (by omega) (by omega)]
  have w3:IntKind.u64.wrap ((f:Int)*4096)=(f:Int)*4096:=by rw [IntKind.wrap_u64,Int.emod_eq_of_lt (by omega) (by omega)]
  have w4:IntKind.u64.wrap ((j:Int)*8)=(j:Int)*8:=by rw [IntKind.wrap_u64,Int.emod_eq_of_lt (by omega) (by omega)]
  have w5:IntKind.u64.wrap ((f:Int)*4096+(j:Int)*8)=(f:Int)*4096+(j:Int)*8:=by rw [IntKind.wrap_u64,Int.emod_eq_of_lt (by omega) (by omega)]
  by_cases c0:x=0
  . have e0:Hid (En s.M f j=0):=by rw [<- hx];exact c0
    have d2:(x==0)=true:=by simp [c0]
    have d3:decide (x=0)=true:=by simp [c0]
    clear hx c0
    go_wp2_with fail
    refine Calls.mono L1.out ?_
    rintro e w' ⟨rfl,hb1⟩
    have N1:Hid (J (j+1) w'):=H0.out j w' CJ.out e0.out (HJ.out _ _ _ HJJ.out hb1)
    clear hb1 L1 HJJ
    go_wp2_with fail
    go_roundw
    case rel=>exact ⟨j+1,by omega,rfl,N1⟩
    case measure=>simp only [Go.RowKit.intOf];omega
  . have d2:(x==0)=false:=by simp [c0]
    have d3:decide (x=0)=false:=by simp [c0]
    have n3: ¬ x=0:=c0
    rcases H1.out j cj with q | q
    . exact absurd (hx.trans q) c0
    obtain ⟨r,u,a,d,lg,gl,nn,fr,r0,r1,ex,hC⟩:=q
    have U1:Hid (∀ w:World,Below w0.heap.size w0 w->Calls Tryz.prog 104 #[.int .u64 x] w fun e w'=>e=.returned (.agg #[.bool true,.bool r,.bool u,.bool a,.bool d,.bool lg,.bool gl,.bool nn,.int .i64 fr])/\Below w.heap.size w w'):=fun w hb'=>by rw [hx,ex];exact UC.out w r u a d lg gl nn fr r0 r1 hb'
    have HC:Hid (∀ W,J j W->Calls Tryz.prog 55 #[.int .i64 j,.agg #[.bool true,.bool r,.bool u,.bool a,.bool d,.bool lg,.bool gl,.bool nn,.int .i64 fr],pp k0,pp k1] W fun e w'=>e=.returned (.tuple #[])/\J (j+1) w'):=hC
    clear hx ex hC r0 r1 c0
    go_wp2_with fail
    refine Calls.mono L1.out ?_
    rintro e w1' ⟨rfl,hb1⟩
    have J1:Hid (J j w1'):=HJ.out _ _ _ HJJ.out hb1
    clear hb1 L1 HJJ
    go_wp2_with fail
    refine Calls.mono (U1.out _ (HB.out _ _ J1.out)) ?_
    rintro e w2' ⟨rfl,hb2⟩
    have J2:Hid (J j (w2'.alloc (.cells #[.bool true,.bool r,.bool u,.bool a,.bool d,.bool lg,.bool gl,.bool nn,.int .i64 fr] 135))/\Blk (w2'.alloc (.cells #[.bool true,.bool r,.bool u,.bool a,.bool d,.bool lg,.bool gl,.bool nn,.int .i64 fr] 135)) w2'.heap.size [.bool true,.bool r,.bool u,.bool a,.bool d,.bool lg,.bool gl,.bool nn,.int .i64 fr] 135):=⟨HJ.out _ _ _ (HJ.out _ _ _ J1.out hb2) (Go.Joins.below_alloc1 _ _),Blk.made _ _ _⟩
    clear hb2 J1 U1
    go_upto_region 6 with fail
    generalize (w2'.alloc (.cells #[.bool true,.bool r,.bool u,.bool a,.bool d,.bool lg,.bool gl,.bool nn,.int .i64 fr] 135))=V at J2 |-
    generalize w2'.heap.size=q at J2 |-
    have B2:=J2.out.2
    have x0:V.cell? ⟨q,0,none⟩=some (.bool true):=B2.cell 0
    have x1:V.cell? ⟨q,1,none⟩=some (.bool r):=B2.cell 1
    have x2:V.cell? ⟨q,2,none⟩=some (.bool u):=B2.cell 2
    have x3:V.cell? ⟨q,3,none⟩=some (.bool a):=B2.cell 3
    have x4:V.cell? ⟨q,4,none⟩=some (.bool d):=B2.cell 4
    have x5:V.cell? ⟨q,5,none⟩=some (.bool lg):=B2.cell 5
    have x6:V.cell? ⟨q,6,none⟩=some (.bool gl):=B2.cell 6
    have x7:V.cell? ⟨q,7,none⟩=some (.bool nn):=B2.cell 7
    have x8:V.cell? ⟨q,8,none⟩=some (.int .i64 fr):=B2.cell 8
    clear B2
    go_wp2_with fail
    refine Calls.mono (HC.out _ J2.out.1) ?_
    rintro e w3' ⟨rfl,hj3⟩
    have N1:Hid (J (j+1) w3'):=hj3
    clear hj3 J2 HC x0 x1 x2 x3 x4 x5 x6 x7 x8
    go_wp2_with fail
    go_roundw
    case rel=>exact ⟨j+1,by omega,rfl,N1⟩
    case measure=>simp only [Go.RowKit.intOf];omega
set_option maxHeartbeats 2000000 in
theorem each_kk {X:Nat->Prop} {w0:World} {m:Pm} {s:Ps} (h:Pu X w0 m s) (f:Nat) (hf:m.has f=true) (k0:Nat) (J:Nat->World->Prop)
 (hJ: ∀ j W W',J j W->Below W.heap.size W W'->J j W') (hB: ∀ j W,J j W->Below w0.heap.size w0 W) (h0: ∀ (j:Nat) W,j<512->En s.M f j=0->J j W->J (j+1) W)
 (h1: ∀ j:Nat,j<512->En s.M f j=0\/ ∃ r u a d lg gl nn,∃ fr:Int,0<=fr/\fr<1048576/\En s.M f j=packV true r u a d lg gl nn fr/\ ∀ W,J j W->Calls Tryz.prog 56 #[.int .i64 j,.agg #[.bool true,.bool r,.bool u,.bool a,.bool d,.bool lg,.bool gl,.bool nn,.int .i64 fr],pp k0] W fun e w'=>e=.returned (.tuple #[])/\J (j+1) w')
 (W:World) (hI:J 0 W) :
 Calls Tryz.prog 54 #[pp m.rb,.int .i64 f,.func (.func 56) #[] #[pp k0]] W fun e w'=>e=.returned (.tuple #[])/\J 512 w':=by
 have hb:=h.so.hb f hf
 have F1:=h.so.F1
 have LC:Hid (∀ (w:World) (j:Nat),Below w0.heap.size w0 w->j<512->Calls Tryz.prog 103 #[pp m.rb,.int .u64 ((f:Int)*4096+(j:Int)*8),.int .i64 8] w fun e w'=>e=.returned (.tuple #[.int .u64 (En s.M f j),.int .i64 0])/\Below w.heap.size w w'):=fun w j hb' hj=>((h.below hb').load f j hf (by omega) (by omega)).mono (fun e w' ⟨he,hg⟩=>⟨he,grown_below hg⟩)
 have UC:Hid (∀ (w:World) (r u a d lg gl nn:Bool) (fr:Int),0<=fr->fr<1048576->Below w0.heap.size w0 w->Calls Tryz.prog 104 #[.int .u64 (packV true r u a d lg gl nn fr)] w fun e w'=>e=.returned (.agg #[.bool true,.bool r,.bool u,.bool a,.bool d,.bool lg,.bool gl,.bool nn,.int .i64 fr])/\Below w.heap.size w w'):=fun w r u a d lg gl nn fr r0 r1 hb'=>by
  have pb:=pack_bd true r u a d lg gl nn fr r0 r1
  have q:=unpack_any (packV true r u a d lg gl nn fr) pb.1 pb.2 w (h.below hb').tab
  rw [unp_pack true r u a d lg gl nn fr r0 r1] at q
  exact q
 have HJ:Hid (∀ j W W',J j W->Below W.heap.size W W'->J j W'):=hJ
 have HB:Hid (∀ j W,J j W->Below w0.heap.size w0 W):=hB
 have H0:Hid (∀ (j:Nat) W,j<512->En s.M f j=0->J j W->J (j+1) W):=h0
 have H1:Hid (∀ j:Nat,j<512->En s.M f j=0\/ ∃ r u a d lg gl nn,∃ fr:Int,0<=fr/\fr<1048576/\En s.M f j=packV true r u a d lg gl nn fr/\ ∀ W,J j W->Calls Tryz.prog 56 #[.int .i64 j,.agg #[.bool true,.bool r,.bool u,.bool a,.bool d,.bool lg,.bool gl,.bool nn,.int .i64 fr],pp k0] W fun e w'=>e=.returned (.tuple #[])/\J (j+1) w'):=h1
 have HI:Hid (J 0 W):=hI
 obtain ⟨rb,bb,tb,has,F⟩:=m
 simp only at LC hb F1
 have fb:0<=(f:Int)/\(f:Int)<1000000:=by omega
 clear h hf hJ hB h0 h1 hI hb F1
 go_enter Tryz.func54,Tryz.ntmps54
 go_wp2_with fail
 go_loopw [6,7,8,9,10] (fun _ _ _ _ vj V=> ∃ j:Nat,j<=512/\vj=.int .i64 j/\Hid (J j V)) (fun _ _ _ _ vj _=>512-(Go.RowKit.intOf vj).toNat)
 case atStart=>exact ⟨0,by omega,rfl,HI⟩
 case round =>
  obtain ⟨j,hj,rfl,HJJ⟩:=hrel
  clear HI
  by_cases cj:j<512
  rotate_left
  . have d1:decide ((j:Int)<512)=false:=by simp;omega
    have e5:Hid (j=512):=by show j=512;omega
    have nj: ¬ j<512:=cj
    go_wp2_with fail
    go_returns
    exact ⟨rfl,by rw [<- e5.out];exact HJJ.out⟩
  have d1:decide ((j:Int)<512)=true:=by simp;omega
  obtain ⟨x,hx⟩: ∃ x:Int,x=En s.M f j:=⟨_,rfl⟩
  have L1:Hid (Calls Tryz.prog 103 #[pp rb,.int .u64 ((f:Int)*4096+(j:Int)*8),.int .i64 8] wr fun e w'=>e=.returned (.tuple #[.int .u64 x,.int .i64 0])/\Below wr.heap.size wr w'):=by rw [hx];exact LC.out wr j (HB.out _ _ HJJ.out) cj
  have CJ:Hid (j<512):=cj
  have w1:IntKind.u64.wrap (f:Int)=f:=by rw [IntKind.wrap_u64,Int.emod_eq_of_lt (by omega) (by omega)]
  have w2:IntKind.u64.wrap (j:Int)=j:=by rw [IntKind.wrap_u64,Int.emod_eq_of_lt (by omega) (by omega)]
  have w3:IntKind.u64.wrap ((f:Int)*4096)=(f:Int)*4096:=by rw [IntKind.wrap_u64,Int.emod_eq_of_lt (by omega) (by omega)]
  have w4:IntKind.u64.wrap ((j:Int)*8)=(j:Int)*8:=by rw [IntKind.wrap_u64,Int.emod_eq_of_lt (by omega) (by omega)]
  have w5:IntKind.u64.wrap ((f:Int)*4096+(j:Int)*8)=(f:Int)*4096+(j:Int)*8:=by rw [IntKind.wrap_u64,Int.emod_eq_of_lt (by omega) (by omega)]
  by_cases c0:x=0
  . have e0:Hid (En s.M f j=0):=by rw [<- hx];exact c0
    have d2:(x==0)=true:=by simp [c0]
    have d3:decide (x=0)=true:=by simp [c0]
    clear hx c0
    go_wp2_with fail
    refine Calls.mono L1.out ?_
    rintro e w' ⟨rfl,hb1⟩
    have N1:Hid (J (j+1) w'):=H0.out j w' CJ.out e0.out (HJ.out _ _ _ HJJ.out hb1)
    clear hb1 L1 HJJ
    go_wp2_with fail
    go_roundw
    case rel=>exact ⟨j+1,by omega,rfl,N1⟩
    case measure=>simp only [Go.RowKit.intOf];omega
  . have d2:(x==0)=false:=by simp [c0]
    have d3:decide (x=0)=false:=by simp [c0]
    have n3: ¬ x=0:=c0
    rcases H1.out j cj with q | q
    . exact absurd (hx.trans q) c0
    obtain ⟨r,u,a,d,lg,gl,nn,fr,r0,r1,ex,hC⟩:=q
    have U1:Hid (∀ w:World,Below w0.heap.size w0 w->Calls Tryz.prog 104 #[.int .u64 x] w fun e w'=>e=.returned (.agg #[.bool true,.bool r,.bool u,.bool a,.bool d,.bool lg,.bool gl,.bool nn,.int .i64 fr])/\Below w.heap.size w w'):=fun w hb'=>by rw [hx,ex];exact UC.out w r u a d lg gl nn fr r0 r1 hb'
    have HC:Hid (∀ W,J j W->Calls Tryz.prog 56 #[.int .i64 j,.agg #[.bool true,.bool r,.bool u,.bool a,.bool d,.bool lg,.bool gl,.bool nn,.int .i64 fr],pp k0] W fun e w'=>e=.returned (.tuple #[])/\J (j+1) w'):=hC
    clear hx ex hC r0 r1 c0
    go_wp2_with fail
    refine Calls.mono L1.out ?_
    rintro e w1' ⟨rfl,hb1⟩
    have J1:Hid (J j w1'):=HJ.out _ _ _ HJJ.out hb1
    clear hb1 L1 HJJ
    go_wp2_with fail
    refine Calls.mono (U1.out _ (HB.out _ _ J1.out)) ?_
    rintro e w2' ⟨rfl,hb2⟩
    have J2:Hid (J j (w2'.alloc (.cells #[.bool true,.bool r,.bool u,.bool a,.bool d,.bool lg,.bool gl,.bool nn,.int .i64 fr] 135))/\Blk (w2'.alloc (.cells #[.bool true,.bool r,.bool u,.bool a,.bool d,.bool lg,.bool gl,.bool nn,.int .i64 fr] 135)) w2'.heap.size [.bool true,.bool r,.bool u,.bool a,.bool d,.bool lg,.bool gl,.bool nn,.int .i64 fr] 135):=⟨HJ.out _ _ _ (HJ.out _ _ _ J1.out hb2) (Go.Joins.below_alloc1 _ _),Blk.made _ _ _⟩
    clear hb2 J1 U1
    go_upto_region 6 with fail
    generalize (w2'.alloc (.cells #[.bool true,.bool r,.bool u,.bool a,.bool d,.bool lg,.bool gl,.bool nn,.int .i64 fr] 135))=V at J2 |-
    generalize w2'.heap.size=q at J2 |-
    have B2:=J2.out.2
    have x0:V.cell? ⟨q,0,none⟩=some (.bool true):=B2.cell 0
    have x1:V.cell? ⟨q,1,none⟩=some (.bool r):=B2.cell 1
    have x2:V.cell? ⟨q,2,none⟩=some (.bool u):=B2.cell 2
    have x3:V.cell? ⟨q,3,none⟩=some (.bool a):=B2.cell 3
    have x4:V.cell? ⟨q,4,none⟩=some (.bool d):=B2.cell 4
    have x5:V.cell? ⟨q,5,none⟩=some (.bool lg):=B2.cell 5
    have x6:V.cell? ⟨q,6,none⟩=some (.bool gl):=B2.cell 6
    have x7:V.cell? ⟨q,7,none⟩=some (.bool nn):=B2.cell 7
    have x8:V.cell? ⟨q,8,none⟩=some (.int .i64 fr):=B2.cell 8
    clear B2
    go_wp2_with fail
    refine Calls.mono (HC.out _ J2.out.1) ?_
    rintro e w3' ⟨rfl,hj3⟩
    have N1:Hid (J (j+1) w3'):=hj3
    clear hj3 J2 HC x0 x1 x2 x3 x4 x5 x6 x7 x8
    go_wp2_with fail
    go_roundw
    case rel=>exact ⟨j+1,by omega,rfl,N1⟩
    case measure=>simp only [Go.RowKit.intOf];omega
set_option maxHeartbeats 2000000 in
theorem each_s {X:Nat->Prop} {w0:World} {m:Pm} {s:Ps} (h:Pu X w0 m s) (f:Nat) (hf:m.has f=true) (k0 k1 k2 k3 k4 k5:Nat) (J:Nat->World->Prop)
 (hJ: ∀ j W W',J j W->Below W.heap.size W W'->J j W') (hB: ∀ j W,J j W->Below w0.heap.size w0 W) (h0: ∀ (j:Nat) W,j<512->En s.M f j=0->J j W->J (j+1) W)
 (h1: ∀ j:Nat,j<512->En s.M f j=0\/ ∃ r u a d lg gl nn,∃ fr:Int,0<=fr/\fr<1048576/\En s.M f j=packV true r u a d lg gl nn fr/\ ∀ W,J j W->Calls Tryz.prog 59 #[.int .i64 j,.agg #[.bool true,.bool r,.bool u,.bool a,.bool d,.bool lg,.bool gl,.bool nn,.int .i64 fr],pp k0,pp k1,pp k2,pp k3,pp k4,pp k5] W fun e w'=>e=.returned (.tuple #[])/\J (j+1) w')
 (W:World) (hI:J 0 W) :
 Calls Tryz.prog 54 #[pp m.rb,.int .i64 f,.func (.func 59) #[] #[pp k0,pp k1,pp k2,pp k3,pp k4,pp k5]] W fun e w'=>e=.returned (.tuple #[])/\J 512 w':=by
 have hb:=h.so.hb f hf
 have F1:=h.so.F1
 have LC:Hid (∀ (w:World) (j:Nat),Below w0.heap.size w0 w->j<512->Calls Tryz.prog 103 #[pp m.rb,.int .u64 ((f:Int)*4096+(j:Int)*8),.int .i64 8] w fun e w'=>e=.returned (.tuple #[.int .u64 (En s.M f j),.int .i64 0])/\Below w.heap.size w w'):=fun w j hb' hj=>((h.below hb').load f j hf (by omega) (by omega)).mono (fun e w' ⟨he,hg⟩=>⟨he,grown_below hg⟩)
 have UC:Hid (∀ (w:World) (r u a d lg gl nn:Bool) (fr:Int),0<=fr->fr<1048576->Below w0.heap.size w0 w->Calls Tryz.prog 104 #[.int .u64 (packV true r u a d lg gl nn fr)] w fun e w'=>e=.returned (.agg #[.bool true,.bool r,.bool u,.bool a,.bool d,.bool lg,.bool gl,.bool nn,.int .i64 fr])/\Below w.heap.size w w'):=fun w r u a d lg gl nn fr r0 r1 hb'=>by
  have pb:=pack_bd true r u a d lg gl nn fr r0 r1
  have q:=unpack_any (packV true r u a d lg gl nn fr) pb.1 pb.2 w (h.below hb').tab
  rw [unp_pack true r u a d lg gl nn fr r0 r1] at q
  exact q
 have HJ:Hid (∀ j W W',J j W->Below W.heap.size W W'->J j W'):=hJ
 have HB:Hid (∀ j W,J j W->Below w0.heap.size w0 W):=hB
 have H0:Hid (∀ (j:Nat) W,j<512->En s.M f j=0->J j W->J (j+1) W):=h0
 have H1:Hid (∀ j:Nat,j<512->En s.M f j=0\/ ∃ r u a d lg gl nn,∃ fr:Int,0<=fr/\fr<1048576/\En s.M f j=packV true r u a d lg gl nn fr/\ ∀ W,J j W->Calls Tryz.prog 59 #[.int .i64 j,.agg #[.bool true,.bool r,.bool u,.bool a,.bool d,.bool lg,.bool gl,.bool nn,.int .i64 fr],pp k0,pp k1,pp k2,pp k3,pp k4,pp k5] W fun e w'=>e=.returned (.tuple #[])/\J (j+1) w'):=h1
 have HI:Hid (J 0 W):=hI
 obtain ⟨rb,bb,tb,has,F⟩:=m
 simp only at LC hb F1
 have fb:0<=(f:Int)/\(f:Int)<1000000:=by omega
 clear h hf hJ hB h0 h1 hI hb F1
 go_enter Tryz.func54,Tryz.ntmps54
 go_wp2_with fail
 go_loopw [6,7,8,9,10] (fun _ _ _ _ vj V=> ∃ j:Nat,j<=512/\vj=.int .i64 j/\Hid (J j V)) (fun _ _ _ _ vj _=>512-(Go.RowKit.intOf vj).toNat)
 case atStart=>exact ⟨0,by omega,rfl,HI⟩
 case round =>
  obtain ⟨j,hj,rfl,HJJ⟩:=hrel
  clear HI
  by_cases cj:j<512
  rotate_left
  . have d1:decide ((j:Int)<512)=false:=by simp;omega
    have e5:Hid (j=512):=by show j=512;omega
    have nj: ¬ j<512:=cj
    go_wp2_with fail
    go_returns
    exact ⟨rfl,by rw [<- e5.out];exact HJJ.out⟩
  have d1:decide ((j:Int)<512)=true:=by simp;omega
  obtain ⟨x,hx⟩: ∃ x:Int,x=En s.M f j:=⟨_,rfl⟩
  have L1:Hid (Calls Tryz.prog 103 #[pp rb,.int .u64 ((f:Int)*4096+(j:Int)*8),.int .i64 8] wr fun e w'=>e=.returned (.tuple #[.int .u64 x,.int .i64 0])/\Below wr.heap.size wr w'):=by rw [hx];exact LC.out wr j (HB.out _ _ HJJ.out) cj
  have CJ:Hid (j<512):=cj
  have w1:IntKind.u64.wrap (f:Int)=f:=by rw [IntKind.wrap_u64,Int.emod_eq_of_lt (by omega) (by omega)]
  have w2:IntKind.u64.wrap (j:Int)=j:=by rw [IntKind.wrap_u64,Int.emod_eq_of_lt (by omega) (by omega)]
  have w3:IntKind.u64.wrap ((f:Int)*4096)=(f:Int)*4096:=by rw [IntKind.wrap_u64,Int.emod_eq_of_lt (by omega) (by omega)]
  have w4:IntKind.u64.wrap ((j:Int)*8)=(j:Int)*8:=by rw [IntKind.wrap_u64,Int.emod_eq_of_lt (by omega) (by omega)]
  have w5:IntKind.u64.wrap ((f:Int)*4096+(j:Int)*8)=(f:Int)*4096+(j:Int)*8:=by rw [IntKind.wrap_u64,Int.emod_eq_of_lt (by omega) (by omega)]
  by_cases c0:x=0
  . have e0:Hid (En s.M f j=0):=by rw [<- hx];exact c0
    have d2:(x==0)=true:=by simp [c0]
    have d3:decide (x=0)=true:=by simp [c0]
    clear hx c0
    go_wp2_with fail
    refine Calls.mono L1.out ?_
    rintro e w' ⟨rfl,hb1⟩
    have N1:Hid (J (j+1) w'):=H0.out j w' CJ.out e0.out (HJ.out _ _ _ HJJ.out hb1)
    clear hb1 L1 HJJ
    go_wp2_with fail
    go_roundw
    case rel=>exact ⟨j+1,by omega,rfl,N1⟩
    case measure=>simp only [Go.RowKit.intOf];omega
  . have d2:(x==0)=false:=by simp [c0]
    have d3:decide (x=0)=false:=by simp [c0]
    have n3: ¬ x=0:=c0
    rcases H1.out j cj with q | q
    . exact absurd (hx.trans q) c0
    obtain ⟨r,u,a,d,lg,gl,nn,fr,r0,r1,ex,hC⟩:=q
    have U1:Hid (∀ w:World,Below w0.heap.size w0 w->Calls Tryz.prog 104 #[.int .u64 x] w fun e w'=>e=.returned (.agg #[.bool true,.bool r,.bool u,.bool a,.bool d,.bool lg,.bool gl,.bool nn,.int .i64 fr])/\Below w.heap.size w w'):=fun w hb'=>by rw [hx,ex];exact UC.out w r u a d lg gl nn fr r0 r1 hb'
    have HC:Hid (∀ W,J j W->Calls Tryz.prog 59 #[.int .i64 j,.agg #[.bool true,.bool r,.bool u,.bool a,.bool d,.bool lg,.bool gl,.bool nn,.int .i64 fr],pp k0,pp k1,pp k2,pp k3,pp k4,pp k5] W fun e w'=>e=.returned (.tuple #[])/\J (j+1) w'):=hC
    clear hx ex hC r0 r1 c0
    go_wp2_with fail
    refine Calls.mono L1.out ?_
    rintro e w1' ⟨rfl,hb1⟩
    have J1:Hid (J j w1'):=HJ.out _ _ _ HJJ.out hb1
    clear hb1 L1 HJJ
    go_wp2_with fail
    refine Calls.mono (U1.out _ (HB.out _ _ J1.out)) ?_
    rintro e w2' ⟨rfl,hb2⟩
    have J2:Hid (J j (w2'.alloc (.cells #[.bool true,.bool r,.bool u,.bool a,.bool d,.bool lg,.bool gl,.bool nn,.int .i64 fr] 135))/\Blk (w2'.alloc (.cells #[.bool true,.bool r,.bool u,.bool a,.bool d,.bool lg,.bool gl,.bool nn,.int .i64 fr] 135)) w2'.heap.size [.bool true,.bool r,.bool u,.bool a,.bool d,.bool lg,.bool gl,.bool nn,.int .i64 fr] 135):=⟨HJ.out _ _ _ (HJ.out _ _ _ J1.out hb2) (Go.Joins.below_alloc1 _ _),Blk.made _ _ _⟩
    clear hb2 J1 U1
    go_upto_region 6 with fail
    generalize (w2'.alloc (.cells #[.bool true,.bool r,.bool u,.bool a,.bool d,.bool lg,.bool gl,.bool nn,.int .i64 fr] 135))=V at J2 |-
    generalize w2'.heap.size=q at J2 |-
    have B2:=J2.out.2
    have x0:V.cell? ⟨q,0,none⟩=some (.bool true):=B2.cell 0
    have x1:V.cell? ⟨q,1,none⟩=some (.bool r):=B2.cell 1
    have x2:V.cell? ⟨q,2,none⟩=some (.bool u):=B2.cell 2
    have x3:V.cell? ⟨q,3,none⟩=some (.bool a):=B2.cell 3
    have x4:V.cell? ⟨q,4,none⟩=some (.bool d):=B2.cell 4
    have x5:V.cell? ⟨q,5,none⟩=some (.bool lg):=B2.cell 5
    have x6:V.cell? ⟨q,6,none⟩=some (.bool gl):=B2.cell 6
    have x7:V.cell? ⟨q,7,none⟩=some (.bool nn):=B2.cell 7
    have x8:V.cell? ⟨q,8,none⟩=some (.int .i64 fr):=B2.cell 8
    clear B2
    go_wp2_with fail
    refine Calls.mono (HC.out _ J2.out.1) ?_
    rintro e w3' ⟨rfl,hj3⟩
    have N1:Hid (J (j+1) w3'):=hj3
    clear hj3 J2 HC x0 x1 x2 x3 x4 x5 x6 x7 x8
    go_wp2_with fail
    go_roundw
    case rel=>exact ⟨j+1,by omega,rfl,N1⟩
    case measure=>simp only [Go.RowKit.intOf];omega
end Go.Proofs.YtajfbieacfjhnaaGreatDoor.Au
namespace Go.Proofs.YtajfbieacfjhnaaGreatDoor.Au
open Go.Proofs.YtajfbieacfjhnaaGreatDoor.Tt
set_option linter.unusedSimpArgs false
set_option linter.unusedVariables false
set_option maxRecDepth 8000
theorem fm_succ {α :Type} (g:Nat->List α) (j:Nat):(List.range (j+1)).flatMap g=(List.range j).flatMap g++g j:=by
 rw [List.range_succ,List.flatMap_append];simp
theorem fm_le {α :Type} (g:Nat->List α) {j:Nat}: ∀ {n:Nat},j<=n->((List.range j).flatMap g).length<=((List.range n).flatMap g).length
 | 0, h => by
  have:j=0:=by omega
  subst this;exact Nat.le_refl _
 | n + 1, h => by
  by_cases c:j=n+1
  . subst c;exact Nat.le_refl _
  . have:=fm_le g (j:=j) (n:=n) (by omega)
    rw [fm_succ,List.length_append];omega
theorem fm_none {α :Type} (g:Nat->List α): ∀ {n:Nat},(∀ j,j<n->g j=[])->(List.range n).flatMap g=[]
 | 0, _ => rfl
 | n + 1, h => by rw [fm_succ, fm_none g (fun j hj => h j (by omega)), h n (by omega)]; rfl
theorem fm_one {α :Type} (g:Nat->List α) (j0:Nat): ∀ {n:Nat},j0<n->(∀ j,j<n->j≠j0->g j=[])->(List.range n).flatMap g=g j0
 | 0, h, _ => by omega
 | n + 1, h, k => by
  rw [fm_succ]
  by_cases c:j0=n
  . subst c
    rw [fm_none g (fun j hj=>k j (by omega) (by omega))];rfl
  . rw [fm_one g j0 (n:=n) (by omega) (fun j hj=>k j (by omega)),k n (by omega) (fun e=>c e.symm),List.append_nil]
def usP (lf:Nat->Option Lf) (id:Int) (p:Nat):List Us:=match lf p with
 | none => []
 | some v => [(v.f, 3, id)]
def usA (tab:Nat->Nat->Option Nat) (lf:Nat->Option Lf) (id:Int):Nat->Nat->Nat->List Us
 | 0, x, f => ((f : Int), 2, id) :: (List.range 512).flatMap fun j => usP lf id (x * 512 + j)
 | n + 1, x, f => ((f : Int), 2, id) :: (List.range 512).flatMap fun j => match tab (n + 1) (x * 512 + j) with
  | none => []
  | some g => usA tab lf id n (x * 512 + j) g
def usE (tab:Nat->Nat->Option Nat) (lf:Nat->Option Lf) (id:Int):Nat->Nat->List Us
 | 0, p => usP lf id p
 | n + 1, y => match tab (n + 1) y with
  | none => []
  | some g => usA tab lf id n y g
theorem usA_is (tab:Nat->Nat->Option Nat) (lf:Nat->Option Lf) (id:Int) (n x f:Nat):usA tab lf id n x f=((f:Int),2,id)::(List.range 512).flatMap fun j=>usE tab lf id n (x*512+j):=by
 cases n with
 | zero => rfl
 | succ n => rfl
theorem usE_none {tab:Nat->Nat->Option Nat} {lf:Nat->Option Lf} {id:Int} {n y:Nat} (h:tab (n+1) y=none):usE tab lf id (n+1) y=[]:=by
 show (match tab (n+1) y with
  | none => []
  | some g => usA tab lf id n y g) = _
 rw [h]
theorem usE_some {tab:Nat->Nat->Option Nat} {lf:Nat->Option Lf} {id:Int} {n y g:Nat} (h:tab (n+1) y=some g):usE tab lf id (n+1) y=usA tab lf id n y g:=by
 show (match tab (n+1) y with
  | none => []
  | some g => usA tab lf id n y g) = _
 rw [h]
theorem usP_none {lf:Nat->Option Lf} {id:Int} {p:Nat} (h:lf p=none):usP lf id p=[]:=by unfold usP;rw [h]
theorem usP_some {lf:Nat->Option Lf} {id:Int} {p:Nat} {v:Lf} (h:lf p=some v):usP lf id p=[(v.f,3,id)]:=by unfold usP;rw [h]
theorem usA_one {tab:Nat->Nat->Option Nat} {lf:Nat->Option Lf} {id:Int} {n x f y:Nat} (hy:y / 512=x) (h: ∀ z,z≠y->usE tab lf id n z=[]):usA tab lf id n x f=((f:Int),2,id)::usE tab lf id n y:=by
 rw [usA_is,fm_one _ (y % 512) (by omega) (fun j hj hn=>h _ (by omega))]
 congr 2
 omega
end Go.Proofs.YtajfbieacfjhnaaGreatDoor.Au
namespace Go.Proofs.YtajfbieacfjhnaaGreatDoor.Au
open Go.Proofs.YtajfbieacfjhnaaGreatDoor.Tt
set_option linter.unusedSimpArgs false
set_option linter.unusedVariables false
set_option maxRecDepth 8000
def orI (a b c:Int):Int:=if a=0 then if b=0 then c else b else a
def lexC (x y:Us):Int:=orI (Bm.cmpI x.1 y.1) (Bm.cmpI x.2.1 y.2.1) (Bm.cmpI x.2.2 y.2.2)
def lexB (x y:Us):Bool:=decide (lexC x y<0)
theorem lexB_is (x y:Us):lexB x y=true↔x.1<y.1\/x.1=y.1/\(x.2.1<y.2.1\/x.2.1=y.2.1/\x.2.2<y.2.2):=by
 unfold lexB lexC orI Bm.cmpI
 rw [decide_eq_true_iff]
 repeat' split
 all_goals omega
def mrg:List Us->List Us->List Us
 | a, [] => a
 | a, u :: b => a.takeWhile (fun x => lexB x u) ++ u :: mrg (a.dropWhile fun x => lexB x u) b
theorem mrg_perm: ∀ (b a:List Us),(mrg a b).Perm (a++b)
 | [], a => by simp [mrg]
 | u :: b, a => by
  show (a.takeWhile _++u::mrg (a.dropWhile _) b).Perm _
  have ih:=mrg_perm b (a.dropWhile fun x=>lexB x u)
  have e:a=a.takeWhile (fun x=>lexB x u)++a.dropWhile (fun x=>lexB x u):=(List.takeWhile_append_dropWhile).symm
  have h1:(a.takeWhile (fun x=>lexB x u)++u::mrg (a.dropWhile fun x=>lexB x u) b).Perm (a.takeWhile (fun x=>lexB x u)++u::(a.dropWhile (fun x=>lexB x u)++b)):=List.Perm.append_left _ (ih.cons u)
  refine h1.trans ?_
  have h2:(u::(a.dropWhile (fun x=>lexB x u)++b)).Perm (a.dropWhile (fun x=>lexB x u)++u::b):=List.perm_middle.symm
  refine (List.Perm.append_left _ h2).trans ?_
  rw [<- List.append_assoc,<- e]
def Up (L:List Us):Prop:=L.Pairwise fun x y=>x.1<y.1
theorem dropW_sub (p:Us->Bool) (a:List Us):(a.dropWhile p).Sublist a:=List.dropWhile_sublist p
theorem mrg_up: ∀ (b a:List Us),Up a->Up b->(∀ x∈a,∀ y∈b,x.1≠y.1)->Up (mrg a b)
 | [], a, ha, _, _ => ha
 | u :: b, a, ha, hb, hd => by
  show Up (a.takeWhile _++u::mrg (a.dropWhile _) b)
  have hb1:=List.pairwise_cons.1 hb
  have dm: ∀ x∈a.dropWhile (fun x=>lexB x u),u.1<x.1:=by
   have: ∀ a:List Us,Up a->(∀ x∈a,x.1≠u.1)-> ∀ x∈a.dropWhile (fun x=>lexB x u),u.1<x.1:=by
    intro a
    induction a with
    | nil => intro _ _ x hx; cases hx
    | cons y a ih =>
     intro hu hn x hx
     have hc:=List.pairwise_cons.1 hu
     rw [List.dropWhile_cons] at hx
     by_cases c:lexB y u=true
     . rw [if_pos c] at hx
       exact ih hc.2 (fun z hz=>hn z (List.mem_cons_of_mem _ hz)) x hx
     . rw [if_neg c] at hx
       have n:=hn y List.mem_cons_self
       have hy:u.1<y.1:=by
        rw [lexB_is] at c
        omega
       rcases List.mem_cons.1 hx with rfl | q
       . exact hy
       . have:=hc.1 x q;omega
   exact this a ha (fun x hx=>hd x hx u List.mem_cons_self)
  have tm: ∀ x∈a.takeWhile (fun x=>lexB x u),x∈a/\x.1<u.1:=by
   have: ∀ a:List Us,∀ x∈a.takeWhile (fun x=>lexB x u),x∈a/\lexB x u=true:=by
    intro a
    induction a with
    | nil => intro x hx; cases hx
    | cons y a ih =>
     intro x hx
     rw [List.takeWhile_cons] at hx
     by_cases c:lexB y u=true
     . rw [if_pos c] at hx
       rcases List.mem_cons.1 hx with rfl | q
       . exact ⟨List.mem_cons_self,c⟩
       . have:=ih x q;exact ⟨List.mem_cons_of_mem _ this.1,this.2⟩
     . rw [if_neg c] at hx;cases hx
   intro x hx
   have q:=this a x hx
   have n:=hd x q.1 u List.mem_cons_self
   rw [lexB_is] at q
   exact ⟨q.1,by omega⟩
  have ih:=mrg_up b (a.dropWhile fun x=>lexB x u) (ha.sublist (dropW_sub _ _)) hb1.2 (fun x hx y hy=>hd x ((dropW_sub _ _).subset hx) y (List.mem_cons_of_mem _ hy))
  have mm: ∀ x∈mrg (a.dropWhile fun x=>lexB x u) b,u.1<x.1:=fun x hx=>by
   rcases List.mem_append.1 ((mrg_perm b _).mem_iff.1 hx) with q | q
   . exact dm x q
   . exact hb1.1 x q
  unfold Up
  rw [List.pairwise_append]
  refine ⟨ha.sublist (List.takeWhile_sublist _),List.pairwise_cons.2 ⟨mm,ih⟩,fun x hx y hy=> ?_⟩
  have l:=(tm x hx).2
  rcases List.mem_cons.1 hy with rfl | q
  . exact l
  . have:=mm y q;omega
def kc (k:Int) (L:List Us):Nat:=(L.filter fun u=>decide (u.2.1 % 4=k)).length
theorem kc_app (k:Int) (L M:List Us):kc k (L++M)=kc k L+kc k M:=by unfold kc;rw [List.filter_append,List.length_append]
theorem kc_one (k:Int) (u:Us):kc k [u]=if u.2.1 % 4=k then 1 else 0:=by
 unfold kc
 by_cases c:u.2.1 % 4=k
 . simp [c]
 . simp [c]
theorem kc_cons (k:Int) (u:Us) (L:List Us):kc k (u::L)=(if u.2.1 % 4=k then 1 else 0)+kc k L:=by
 rw [<- kc_one,<- kc_app];rfl
theorem kc_perm {k:Int} {L M:List Us} (h:L.Perm M):kc k L=kc k M:=(h.filter _).length_eq
theorem kc_le (k:Int) (L:List Us):kc k L<=L.length:=List.length_filter_le _ _
theorem up_of {S:List Us} (h:S.Pairwise fun x y=>lexB y x=false) (n:S.Pairwise fun x y=>x.1≠y.1):Up S:=by
 refine (List.Pairwise.and h n).imp ?_
 rintro x y ⟨q,c⟩
 have: ¬ (lexB y x=true):=by rw [q];exact Bool.false_ne_true
 rw [lexB_is] at this
 omega
theorem ne_perm {S L:List Us} (p:S.Perm L) (n:L.Pairwise fun x y=>x.1≠y.1):S.Pairwise fun x y=>x.1≠y.1 :=
 (p.pairwise_iff (fun h=>Ne.symm h)).2 n
abbrev Rr:=Int × Int
def fr1 (r:Rr):List Us:=(List.range (r.2-r.1).toNat).map fun i=>(r.1+(i:Nat),0,0)
def frs (R:List Rr):List Us:=R.flatMap fr1
def Dj (r q:Rr):Prop:= ∀ x:Int,r.1<=x->x<r.2->q.1<=x->x<q.2->False
theorem fr1_len (r:Rr):(fr1 r).length=(r.2-r.1).toNat:=by unfold fr1;simp
theorem fr1_mem (r:Rr) (u:Us):u∈fr1 r↔(r.1<=u.1/\u.1<r.2)/\u.2.1=0/\u.2.2=0:=by
 unfold fr1
 rw [List.mem_map]
 constructor
 . rintro ⟨i,hi,rfl⟩
   rw [List.mem_range] at hi
   exact ⟨⟨by simp only;omega,by simp only;omega⟩,rfl,rfl⟩
 . rintro ⟨⟨h1,h2⟩,h3,h4⟩
   refine ⟨(u.1-r.1).toNat,by rw [List.mem_range];omega,?_⟩
   obtain ⟨a,b,c⟩:=u
   simp only at *
   subst h3 h4
   congr 1
   omega
theorem fr1_up (r:Rr):Up (fr1 r):=by
 unfold Up fr1
 rw [List.pairwise_map]
 have:(List.range (r.2-r.1).toNat).Pairwise (· < ·):=List.pairwise_lt_range
 exact this.imp (fun h=>by simp only;omega)
theorem frs_mem (R:List Rr) (u:Us):u∈frs R↔(∃ r∈R,r.1<=u.1/\u.1<r.2)/\u.2.1=0/\u.2.2=0:=by
 unfold frs
 rw [List.mem_flatMap]
 constructor
 . rintro ⟨r,hr,h⟩;rw [fr1_mem] at h;exact ⟨⟨r,hr,h.1⟩,h.2⟩
 . rintro ⟨⟨r,hr,h⟩,h2⟩;exact ⟨r,hr,(fr1_mem r u).2 ⟨h,h2⟩⟩
theorem frs_up: ∀ {R:List Rr},R.Pairwise (fun a b=>a.1<=b.1)->R.Pairwise Dj->(∀ r∈R,r.1<r.2)->Up (frs R)
 | [], _, _, _ => List.Pairwise.nil
 | r :: R, h1, h2, h3 => by
  have a1:=List.pairwise_cons.1 h1
  have a2:=List.pairwise_cons.1 h2
  have ih:=frs_up a1.2 a2.2 (fun q hq=>h3 q (List.mem_cons_of_mem _ hq))
  show Up (fr1 r++frs R)
  unfold Up
  rw [List.pairwise_append]
  refine ⟨fr1_up r,ih,fun x hx y hy=> ?_⟩
  rw [fr1_mem] at hx
  rw [frs_mem] at hy
  obtain ⟨⟨q,hq,g1,g2⟩,_⟩:=hy
  have l1:=a1.1 q hq
  have l2:=a2.1 q hq
  have l3:=h3 q (List.mem_cons_of_mem _ hq)
  by_cases c:q.1<r.2
  . exact (l2 q.1 l1 c (Int.le_refl _) l3).elim
  . omega
theorem dj_perm {S L:List Rr} (p:S.Perm L) (n:L.Pairwise Dj):S.Pairwise Dj :=
 (p.pairwise_iff (fun h x a b c d=>h x c d a b)).2 n
theorem frs_app (R S:List Rr):frs (R++S)=frs R++frs S:=by unfold frs;rw [List.flatMap_append]
theorem frs_perm_len {S L:List Rr} (p:S.Perm L):(frs S).length=(frs L).length:=by
 unfold frs
 exact (p.flatMap_right _).length_eq
theorem kc_frs (k:Int) (R:List Rr):kc k (frs R)=if k=0 then (frs R).length else 0:=by
 unfold kc
 by_cases c:k=0
 . subst c
   rw [if_pos rfl,List.filter_eq_self.2]
   intro u hu
   rw [frs_mem] at hu
   simp [hu.2.1]
 . rw [if_neg c,List.length_eq_zero_iff,List.filter_eq_nil_iff]
   intro u hu
   rw [frs_mem] at hu
   simp [hu.2.1];omega
end Go.Proofs.YtajfbieacfjhnaaGreatDoor.Au
