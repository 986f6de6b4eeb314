import Derived.Test.YtlaiadheelgbdaaGreatFXc
import Derived.Test.YtlaiadheelgbdaaGreatKZc
import Derived.Test.YtlaiadheelgbdaaGreatMQc
namespace Go.Proofs.YtlaiadheelgbdaaGreat.Fl
open Go.ChangeShapes Go.WideShapes Go.ChangeAt Go.RowKit Go.Maps
set_option linter.unusedSimpArgs false
set_option linter.unusedVariables false
set_option maxRecDepth 8000
set_option maxHeartbeats 2000000 in
theorem move_load (c:Nat) (B:Nat->Int) (k1 k2:Int) (k3 k4 k5:Bool) (ad sz x k6 k7 k8 k9:Int) (W:World) (hp:Page W c B) (hB: ∀ i,0<=B i/\B i<256) (lc:c<W.heap.size) (a0:0<=ad) (a1:ad<140737488355328) (s0:0<=sz) (s8:sz<=8) (am:ad % 4096+sz<=4096) :
 Calls Tryz.prog 51 #[pp c,.agg #[.int .i64 4,.int .i64 k1,.int .i64 k2,.bool k3,.bool k4,.bool k5,.int .u64 ad,.int .i64 sz,.int .u64 x,.int .i64 k6,.int .i64 k7,.int .i64 k8,.int .i64 k9]] W fun e w'=>e=.returned (.agg #[.int .i64 0,.int .u64 (le B (ad % 4096).toNat sz.toNat),.int .i64 0,.int .u64 0,.int .i64 0,.bool false])/\Below W.heap.size W w':=by
 obtain ⟨a,ha⟩: ∃ a:Int,ad % 4096=a:=⟨_,rfl⟩
 rw [ha] at am |-
 obtain ⟨RES,hRES⟩: ∃ RES:Int,RES=le B a.toNat sz.toNat:=⟨_,rfl⟩
 rw [<- hRES]
 have HRES:Hid (RES=le B a.toNat sz.toNat):=hRES
 clear hRES
 have p0:0<=a:=by omega
 have s1:(W.alloc (.cells #[.int .i64 4,.int .i64 k1,.int .i64 k2,.bool k3,.bool k4,.bool k5,.int .u64 ad,.int .i64 sz,.int .u64 x,.int .i64 k6,.int .i64 k7,.int .i64 k8,.int .i64 k9] 59)).heap.size=W.heap.size+1:=World.size_alloc _ _
 have G0:Hid (Below W.heap.size W ((W.alloc (.cells #[.int .i64 4,.int .i64 k1,.int .i64 k2,.bool k3,.bool k4,.bool k5,.int .u64 ad,.int .i64 sz,.int .u64 x,.int .i64 k6,.int .i64 k7,.int .i64 k8,.int .i64 k9] 59)).alloc (.cells #[.int .i64 0,.int .u64 0,.int .i64 0,.int .u64 0,.int .i64 0,.bool false] 39))/\Blk ((W.alloc (.cells #[.int .i64 4,.int .i64 k1,.int .i64 k2,.bool k3,.bool k4,.bool k5,.int .u64 ad,.int .i64 sz,.int .u64 x,.int .i64 k6,.int .i64 k7,.int .i64 k8,.int .i64 k9] 59)).alloc (.cells #[.int .i64 0,.int .u64 0,.int .i64 0,.int .u64 0,.int .i64 0,.bool false] 39)) W.heap.size [.int .i64 4,.int .i64 k1,.int .i64 k2,.bool k3,.bool k4,.bool k5,.int .u64 ad,.int .i64 sz,.int .u64 x,.int .i64 k6,.int .i64 k7,.int .i64 k8,.int .i64 k9] 59/\Blk ((W.alloc (.cells #[.int .i64 4,.int .i64 k1,.int .i64 k2,.bool k3,.bool k4,.bool k5,.int .u64 ad,.int .i64 sz,.int .u64 x,.int .i64 k6,.int .i64 k7,.int .i64 k8,.int .i64 k9] 59)).alloc (.cells #[.int .i64 0,.int .u64 0,.int .i64 0,.int .u64 0,.int .i64 0,.bool false] 39)) (W.heap.size+1) [.int .i64 0,.int .u64 0,.int .i64 0,.int .u64 0,.int .i64 0,.bool false] 39/\Page ((W.alloc (.cells #[.int .i64 4,.int .i64 k1,.int .i64 k2,.bool k3,.bool k4,.bool k5,.int .u64 ad,.int .i64 sz,.int .u64 x,.int .i64 k6,.int .i64 k7,.int .i64 k8,.int .i64 k9] 59)).alloc (.cells #[.int .i64 0,.int .u64 0,.int .i64 0,.int .u64 0,.int .i64 0,.bool false] 39)) c B/\c<W.heap.size):=by
  have bb:Below W.heap.size W ((W.alloc (.cells #[.int .i64 4,.int .i64 k1,.int .i64 k2,.bool k3,.bool k4,.bool k5,.int .u64 ad,.int .i64 sz,.int .u64 x,.int .i64 k6,.int .i64 k7,.int .i64 k8,.int .i64 k9] 59)).alloc (.cells #[.int .i64 0,.int .u64 0,.int .i64 0,.int .u64 0,.int .i64 0,.bool false] 39)):=Go.Joins.below_alloc2 _ _ _
  refine ⟨bb,(Blk.made _ _ _).below (Go.Joins.below_alloc1 _ _),by rw [<- s1];exact Blk.made _ _ _,fun i hi=> ?_,lc⟩
  have e:=bb.block c lc
  rw [World.cell?_of_block e,World.frozen?_of_block e];exact hp i hi
 clear hp lc s1
 go_enter Tryz.func51,Tryz.ntmps51
 go_upto_region 3 with fail
 rw [ha]
 clear ha a0 a1
 generalize ((W.alloc (.cells #[.int .i64 4,.int .i64 k1,.int .i64 k2,.bool k3,.bool k4,.bool k5,.int .u64 ad,.int .i64 sz,.int .u64 x,.int .i64 k6,.int .i64 k7,.int .i64 k8,.int .i64 k9] 59)).alloc (.cells #[.int .i64 0,.int .u64 0,.int .i64 0,.int .u64 0,.int .i64 0,.bool false] 39))=V0 at G0 |-
 obtain ⟨b2,hb2⟩: ∃ b2,b2=W.heap.size+1:=⟨_,rfl⟩
 obtain ⟨b1,hb1⟩: ∃ b1,b1=W.heap.size:=⟨_,rfl⟩
 have G1:Hid (Below W.heap.size W V0/\Blk V0 b1 [.int .i64 4,.int .i64 k1,.int .i64 k2,.bool k3,.bool k4,.bool k5,.int .u64 ad,.int .i64 sz,.int .u64 x,.int .i64 k6,.int .i64 k7,.int .i64 k8,.int .i64 k9] 59/\Blk V0 b2 [.int .i64 0,.int .u64 0,.int .i64 0,.int .u64 0,.int .i64 0,.bool false] 39/\Page V0 c B/\(c≠b1/\c≠b2/\W.heap.size<=b2)):=by
  rw [hb2,hb1];have:=G0.out.2.2.2.2;exact ⟨G0.out.1,G0.out.2.1,G0.out.2.2.1,G0.out.2.2.2.1,by omega,by omega,by omega⟩
 rw [<- hb2,<- hb1]
 clear hb1 hb2 G0
 have x7:V0.cell? ⟨b1,7,none⟩=some (.int .i64 sz):=G1.out.2.1.cell 7
 have y0:V0.cell? ⟨b1,0,none⟩=some (.int .i64 4):=G1.out.2.1.cell 0
 go_wp2_with fail
 go_loopw [6,7,14] (fun xv _ jv V=> ∃ j:Int,xv=.int .u64 (le B a.toNat j.toNat)/\jv=.int .i64 j/\Hid (0<=j/\j<=sz)/\V=V0) (fun _ _ jv _=>(sz-intOf jv).toNat)
 case atStart=>exact ⟨0,rfl,rfl,⟨by omega,s0⟩,rfl⟩
 case round =>
  clear x7
  obtain ⟨j,rfl,rfl,hj,hv⟩:=hrel
  have hv2:=hv.symm
  subst hv2
  clear hv
  obtain ⟨j0,j1⟩:=hj.out
  by_cases cj:j<sz
  . have d1:decide (j<sz)=true:=by simp;omega
    have HJ:Hid (0<=j+1/\j+1<=sz/\j<sz):=⟨by omega,by omega,cj⟩
    have j8:j<8:=by omega
    have aj:(a+j).toNat<4096:=by omega
    have e3:(j+1).toNat=j.toNat+1:=by omega
    have e4:a.toNat+j.toNat=(a+j).toNat:=by omega
    obtain ⟨X,hX⟩: ∃ X:Int,le B a.toNat j.toNat=X:=⟨_,rfl⟩
    rw [hX]
    obtain ⟨v,hv⟩: ∃ v:Int,B (a+j).toNat=v:=⟨_,rfl⟩
    have hcell:V0.cell? ⟨c,(a+j).toNat,none⟩=some (.int .u8 v):=by rw [<- hv];exact (G1.out.2.2.2.1 _ aj).1
    have hvb:0<=v/\v<256:=by rw [<- hv];exact hB _
    obtain ⟨v0,v1⟩:=hvb
    have hnext:le B a.toNat (j+1).toNat=X+v*256 ^ j.toNat:=by
     rw [e3]
     simp only [le]
     rw [hX,e4,hv]
    have hXb:=le_bd hB a.toNat j.toNat
    rw [hX] at hXb
    have HN:Hid (le B a.toNat (j+1).toNat=X+v*256 ^ j.toNat/\0<=X/\X<256 ^ j.toNat):=⟨hnext,hXb.1,hXb.2⟩
    have hor:bits .or .u64 X (IntKind.u64.wrap (v*2 ^ (8*j).toNat))=X+v*256 ^ j.toNat:=or_byte X v j j0 j8 HN.out.2.1 HN.out.2.2 v0 v1
    clear hXb hX hv hnext hj hB e3 e4 aj j8
    go_wp2
    go_roundw
    case rel=>exact ⟨j+1,by rw [HN.out.1],rfl,⟨HJ.out.1,HJ.out.2.1⟩,by first | rfl | trivial⟩
    case measure=>have:=HJ.out;simp [intOf];omega
  . have d1:decide (j<sz)=false:=by simp;omega
    have e:j=sz:=by omega
    subst e
    rw [<- HRES.out]
    have C2:=G1.out.2.2.1
    have q0:V0.cell? ⟨b2,0,none⟩=some (.int .i64 0):=C2.cell 0
    have f0:V0.frozen? ⟨b2,0,none⟩=false:=C2.free 0
    have q1:V0.cell? ⟨b2,1,none⟩=some (.int .u64 0):=C2.cell 1
    have f1:V0.frozen? ⟨b2,1,none⟩=false:=C2.free 1
    have q2:V0.cell? ⟨b2,2,none⟩=some (.int .i64 0):=C2.cell 2
    have f2:V0.frozen? ⟨b2,2,none⟩=false:=C2.free 2
    have q3:V0.cell? ⟨b2,3,none⟩=some (.int .u64 0):=C2.cell 3
    have f3:V0.frozen? ⟨b2,3,none⟩=false:=C2.free 3
    have q4:V0.cell? ⟨b2,4,none⟩=some (.int .i64 0):=C2.cell 4
    have f4:V0.frozen? ⟨b2,4,none⟩=false:=C2.free 4
    have q5:V0.cell? ⟨b2,5,none⟩=some (.bool false):=C2.cell 5
    have f5:V0.frozen? ⟨b2,5,none⟩=false:=C2.free 5
    have HE:Hid (Blk V0 b2 [.int .i64 0,.int .u64 0,.int .i64 0,.int .u64 0,.int .i64 0,.bool false] 39):=C2
    clear hj C2 HRES
    go_wp2_with fail
    have RG:(World.setCells V0 b2 0 [.int .i64 0,.int .u64 RES,.int .i64 0,.int .u64 0,.int .i64 0,.bool false]).rangeAt b2 0 [.int .i64 0,.int .u64 RES,.int .i64 0,.int .u64 0,.int .i64 0,.bool false]:=(Blk.put (cs:=[.int .i64 0,.int .u64 RES,.int .i64 0,.int .u64 0,.int .i64 0,.bool false]) HE.out rfl).range
    have LV:(loadVar 39 ⟨b2,0,none⟩).run Tryz.prog (World.setCells V0 b2 0 [.int .i64 0,.int .u64 RES,.int .i64 0,.int .u64 0,.int .i64 0,.bool false])=.ok (.agg #[.int .i64 0,.int .u64 RES,.int .i64 0,.int .u64 0,.int .i64 0,.bool false]) (World.setCells V0 b2 0 [.int .i64 0,.int .u64 RES,.int .i64 0,.int .u64 0,.int .i64 0,.bool false]):=run_loadVar_mid (P:=Tryz.prog) _ b2 0 39 [.int .i64 0,.int .u64 RES,.int .i64 0,.int .u64 0,.int .i64 0,.bool false] _ RG Tryz.underlying39 rfl (by kernel_rfl)
    change bodyPost _ _ _ _ _ (World.setCells V0 b2 0 [.int .i64 0,.int .u64 RES,.int .i64 0,.int .u64 0,.int .i64 0,.bool false])
    refine bodyPost_ret (v:=.agg #[.int .i64 0,.int .u64 RES,.int .i64 0,.int .u64 0,.int .i64 0,.bool false]) (results_one Tryz.results51 _ _ _ ⟨b2,0,none⟩ _ rfl LV) rfl ?_
    exact ⟨rfl,below_put G1.out.1 G1.out.2.2.2.2.2.2 _⟩
end Go.Proofs.YtlaiadheelgbdaaGreat.Fl
namespace Go.Proofs.YtlaiadheelgbdaaGreat.Fl
open Go.ChangeShapes Go.WideShapes Go.ChangeAt Go.RowKit Go.Maps
set_option linter.unusedSimpArgs false
set_option linter.unusedVariables false
set_option maxRecDepth 8000
def Md (W:World) (mb tq tb pm:Nat):Prop:=W.cell? ⟨mb,0,none⟩=some (pp tq)/\W.cell? ⟨mb,1,none⟩=some (pp tb)/\W.cell? ⟨mb,1538,none⟩=some (.map (some pm))/\mb<W.heap.size
theorem Md.block {W W':World} {mb tq tb pm:Nat} (h:Md W mb tq tb pm) (hs:W.heap.size<=W'.heap.size) (e:W'.heap[mb]? =W.heap[mb]?):Md W' mb tq tb pm :=
 ⟨(World.cell?_of_block e).trans h.1,(World.cell?_of_block e).trans h.2.1,(World.cell?_of_block e).trans h.2.2.1,Nat.lt_of_lt_of_le h.2.2.2 hs⟩
theorem Md.below {W W':World} {mb tq tb pm:Nat} (h:Md W mb tq tb pm) (hb:Below W.heap.size W W'):Md W' mb tq tb pm:=h.block hb.size (hb.block _ h.2.2.2)
def zz (o:Option Int):Int:=if o.getD 0=0 then 1 else 0
def wayAt (n1 n2 n3:Int) (G:Wy):Nat->Option Int
 | 0 => G 9 n1
 | 1 => G 18 n2
 | _ => G 27 n3
def costN (n1 n2 n3:Int) (G:Wy):Nat->Int
 | 0 => 1
 | i + 1 => costN n1 n2 n3 G i + zz (wayAt n1 n2 n3 G i)
def bump (G:Wy) (a b:Int):Wy:=(G.set a b (some ((G a b).getD 0))).set a b (some ((G a b).getD 0+1))
def bumpN (n1 n2 n3:Int) (G:Wy):Nat->Wy
 | 0 => G
 | 1 => bump G 9 n1
 | 2 => bump (bump G 9 n1) 18 n2
 | _ => bump (bump (bump G 9 n1) 18 n2) 27 n3
theorem tree_block {w w':World} {b:Nat} {T:Nat->Qo.Nd} (h:Qo.IsTree w b T) (hs:w.heap.size<=w'.heap.size) (e:w'.heap[b]? =w.heap[b]?):Qo.IsTree w' b T:=by
 obtain ⟨h1,h2,h3⟩:=h
 refine ⟨fun i hi j v hv=>(World.cell?_of_block e).trans (h1 i hi j v hv),fun j hj=> ?_,Nat.lt_of_lt_of_le h3 hs⟩
 rw [World.cell?_of_block (a:=⟨b,0+j,none⟩) e,World.frozen?_of_block (a:=⟨b,0+j,none⟩) e];exact h2 j hj
theorem zz_bd (o:Option Int):0<=zz o/\zz o<=1:=by unfold zz;split <;> omega
theorem cost_bd (n1 n2 n3:Int) (G:Wy): ∀ i,1<=costN n1 n2 n3 G i/\costN n1 n2 n3 G i<=1+i
 | 0 => by simp [costN]
 | i + 1 => by
  have h:=cost_bd n1 n2 n3 G i
  have z:=zz_bd (wayAt n1 n2 n3 G i)
  simp only [costN]
  omega
set_option maxHeartbeats 4000000 in
theorem lead_ok (mb tq tb pm pb lb wb c:Nat) (par k:Int) (rp:Option Addr) (ln rc n:Nat) (T:Nat->Qo.Nd) (root:Int) (F:Int->Option Nat) (G:Wy) (p:Int) (p0:0<=p) (p1:p<34359738368) (hn:n<1000000) (W:World)
 (hM:Md W mb tq tb pm) (hP:Blk W pb [.int .i64 par,.int .i64 k,.int .u64 0,.int .u64 0,.int .u64 0,.int .u64 0,.int .i64 0,.int .u64 0,.bool false,.int .u64 0,.int .i64 0,.int .u64 0,.int .u64 0,.int .u64 0,.int .u64 0,.slice rp ln rc,.map (some lb),.map (some wb)] 77) (hT:Qo.IsTree W tb T) (hL:MapL W lb n F) (hW:MapW W wb n G) (hG:Qo.Good T root) (hmay:Qo.mayN T k (costN (p / 512) (p / 262144) (p / 134217728) G 3)=0)
 (hGb: ∀ a b,0<=(G a b).getD 0/\(G a b).getD 0<=1000000) (hne:mb≠wb/\mb≠tb/\pb≠tb/\pb≠wb/\lb≠tb/\lb≠wb/\wb≠tb/\mb≠lb/\pb≠lb) :
 Calls Tryz.prog 50 #[pp mb,pp pb,.int .i64 p,.int .i64 0,pp c] W fun e w'=>e=.returned (.int .i64 0)/\Qo.IsTree w' tb (Qo.chargeT T k (costN (p / 512) (p / 262144) (p / 134217728) G 3))/\MapL w' lb (n+1) (put F p (some c))/\MapW w' wb (n+6) (bumpN (p / 512) (p / 262144) (p / 134217728) G 3)/\Kept (fun j=>j≠tb/\j≠lb/\j≠wb/\j<W.heap.size) W w':=by
 obtain ⟨n1,h1⟩: ∃ n1:Int,p / 512=n1:=⟨_,rfl⟩
 obtain ⟨n2,h2⟩: ∃ n2:Int,p / 262144=n2:=⟨_,rfl⟩
 obtain ⟨n3,h3⟩: ∃ n3:Int,p / 134217728=n3:=⟨_,rfl⟩
 have WC:Hid (∀ w:World,Calls Tryz.prog 69 #[.int .i64 p] w fun e w'=>e=.returned (.agg #[.int .i64 9,.int .i64 n1,.int .i64 18,.int .i64 n2,.int .i64 27,.int .i64 n3])/\Below w.heap.size w w'):=fun w=>by
  have q:=ways_to p p0 p1 w
  rw [h1,h2,h3] at q;exact q
 rw [h1,h2,h3] at hmay |-
 obtain ⟨C,hC⟩: ∃ C:Nat->Int,C=costN n1 n2 n3 G:=⟨_,rfl⟩
 rw [<- hC] at hmay |-
 have HC:Hid ((∀ i:Nat,1<=C i/\C i<=1+i)/\ ∀ i,i<3->C (i+1)=C i+zz (wayAt n1 n2 n3 G i)):=by rw [hC];exact ⟨fun i=>cost_bd n1 n2 n3 G i,fun i _=>rfl⟩
 have c0:C 0=1:=by rw [hC];rfl
 have HW:Hid ((Lit.int .i64 n1).wf=true/\(Lit.int .i64 n2).wf=true/\(Lit.int .i64 n3).wf=true):=⟨wf64 (by omega) (by omega),wf64 (by omega) (by omega),wf64 (by omega) (by omega)⟩
 have OC:Hid (∀ w:World,_):=fun w=>own_cost w
 have HS:Hid (Md W mb tq tb pm/\Blk W pb [.int .i64 par,.int .i64 k,.int .u64 0,.int .u64 0,.int .u64 0,.int .u64 0,.int .i64 0,.int .u64 0,.bool false,.int .u64 0,.int .i64 0,.int .u64 0,.int .u64 0,.int .u64 0,.int .u64 0,.slice rp ln rc,.map (some lb),.map (some wb)] 77/\Qo.IsTree W tb T/\MapL W lb n F/\MapW W wb n G):=⟨hM,hP,hT,hL,hW⟩
 have HN:Hid (mb≠wb/\mb≠tb/\pb≠tb/\pb≠wb/\lb≠tb/\lb≠wb/\wb≠tb/\mb≠lb/\pb≠lb):=hne
 have CC:Hid (∀ w:World,Below W.heap.size W w->Calls Tryz.prog 20 #[pp tb,.int .i64 k,.int .i64 (C 3)] w fun e w'=>e=.returned (.int .i64 0)/\Qo.IsTree w' tb (Qo.chargeT T k (C 3))/\w.grownBy w' (some tb)):=fun w hb=>by
  have q:=Qo.charge_any tb T hG.okT k (C 3) w (hT.below hb)
  rw [hmay] at q;exact q
 have HG:Hid (∀ a b,0<=(G a b).getD 0/\(G a b).getD 0<=1000000):=hGb
 have HP:Hid (0<=p/\p<34359738368/\n<1000000):=⟨p0,p1,hn⟩
 clear hM hP hT hL hW hG hmay hGb hne h1 h2 h3 hC p0 p1 hn
 go_enter Tryz.func50,Tryz.ntmps50
 go_wp2_with fail
 refine Calls.mono (OC.out _) ?_
 rintro e w' ⟨rfl,hu⟩
 have hu2:=hu.symm
 subst hu2
 clear hu OC
 go_wp2_with fail
 refine Calls.mono (WC.out _) ?_
 rintro e V1 ⟨rfl,hb1⟩
 have B1:Hid (Below W.heap.size W V1):=hb1
 clear hb1
 have HC0:Hid (C 0=1):=c0
 clear c0
 go_wp2_with fail
 go_loopw [11,13,21] (fun cv _ jv V=> ∃ i:Nat,i<=3/\cv=.int .i64 (C i)/\jv=.int .i64 (i:Nat)/\Hid (Below W.heap.size W V)) (fun _ _ jv _=>(3-intOf jv).toNat)
 case atStart=>exact ⟨0,by omega,by rw [HC0.out],rfl,B1⟩
 case round =>
  obtain ⟨i,hi,rfl,rfl,hb⟩:=hrel
  clear B1 HC0
  rcases (show i=0\/i=1\/i=2\/i=3 by omega) with rfl | rfl | rfl | rfl
  . have s1:(wr.alloc (.cells #[.int .i64 9,.int .i64 n1] 139)).heap.size=wr.heap.size+1:=World.size_alloc _ _
    have G0:Hid (Below W.heap.size W (wr.alloc (.cells #[.int .i64 9,.int .i64 n1] 139))/\Blk (wr.alloc (.cells #[.int .i64 9,.int .i64 n1] 139)) wr.heap.size [.int .i64 9,.int .i64 n1] 139):=⟨below_then hb.out (Go.Joins.below_alloc1 _ _),Blk.made _ _ _⟩
    clear s1
    have ix: ∀ w:World,(Instr.index 140 (.agg #[.int .i64 9,.int .i64 n1,.int .i64 18,.int .i64 n2,.int .i64 27,.int .i64 n3]) (.int .i64 0)).run Tryz.prog w=.ok (.agg #[.int .i64 9,.int .i64 n1]) w:=fun w=>by kernel_rfl
    go_upto_region 5 with fail
    generalize (wr.alloc (.cells #[.int .i64 9,.int .i64 n1] 139))=V2 at G0 |-
    obtain ⟨q,hq⟩: ∃ q,q=wr.heap.size:=⟨_,rfl⟩
    have G1:Hid (Below W.heap.size W V2/\Blk V2 q [.int .i64 9,.int .i64 n1] 139):=by rw [hq];exact G0.out
    rw [<- hq]
    clear hq G0 hb
    obtain ⟨v,hv⟩: ∃ v:Int,(G 9 n1).getD 0=v:=⟨_,rfl⟩
    have lk:(Instr.lookup 75 (.map (some wb)) (wv 9 n1) false).run Tryz.prog V2.drew=.ok (.int .i64 v) V2.drew:=by
     have q:=((HS.out.2.2.2.2).block (w':=V2.drew) (G1.out.1.block _ HS.out.2.2.2.2.lt)).look (a:=9) (b:=n1) (by decide) HW.out.1
     rw [hv] at q;exact q
    have p17:V2.cell? ⟨pb,17,none⟩=some (.map (some wb)):=(HS.out.2.1.below G1.out.1).cell 17
    have x0:V2.cell? ⟨q,0,none⟩=some (.int .i64 9):=G1.out.2.cell 0
    have x1:V2.cell? ⟨q,1,none⟩=some (.int .i64 n1):=G1.out.2.cell 1
    have HB:Hid (Below W.heap.size W V2.drew):=below_drew G1.out.1
    clear G1
    by_cases cv:v=0
    . have d1:decide (v=0)=true:=by simp [cv]
      have d2:(v==0)=true:=by simp [cv]
      have cw:IntKind.i64.wrap (C 0+1)=C 1:=by
       have e:C 1=C 0+1:=by rw [HC.out.2 0 (by omega)];show C 0+zz (G 9 n1)=_;unfold zz;rw [hv,if_pos cv]
       have:=HC.out.1 0
       rw [e];simp only [IntKind.wrap_i64];omega
      clear hv cv
      go_region
      go_wp2_with fail
      go_roundw
      case rel=>exact ⟨1,by omega,rfl,rfl,HB⟩
      case measure=>decide
    . have d1:decide (v=0)=false:=by simp [cv]
      have d2:(v==0)=false:=by simp [cv]
      have ce:C 0=C 1:=by rw [HC.out.2 0 (by omega)];show C 0=C 0+zz (G 9 n1);unfold zz;rw [hv,if_neg cv];omega
      clear hv cv
      go_region
      go_wp2_with fail
      go_roundw
      case rel=>exact ⟨1,by omega,by rw [ce],rfl,HB⟩
      case measure=>decide
  . have s1:(wr.alloc (.cells #[.int .i64 18,.int .i64 n2] 139)).heap.size=wr.heap.size+1:=World.size_alloc _ _
    have G0:Hid (Below W.heap.size W (wr.alloc (.cells #[.int .i64 18,.int .i64 n2] 139))/\Blk (wr.alloc (.cells #[.int .i64 18,.int .i64 n2] 139)) wr.heap.size [.int .i64 18,.int .i64 n2] 139):=⟨below_then hb.out (Go.Joins.below_alloc1 _ _),Blk.made _ _ _⟩
    clear s1
    have ix: ∀ w:World,(Instr.index 140 (.agg #[.int .i64 9,.int .i64 n1,.int .i64 18,.int .i64 n2,.int .i64 27,.int .i64 n3]) (.int .i64 1)).run Tryz.prog w=.ok (.agg #[.int .i64 18,.int .i64 n2]) w:=fun w=>by kernel_rfl
    go_upto_region 5 with fail
    generalize (wr.alloc (.cells #[.int .i64 18,.int .i64 n2] 139))=V2 at G0 |-
    obtain ⟨q,hq⟩: ∃ q,q=wr.heap.size:=⟨_,rfl⟩
    have G1:Hid (Below W.heap.size W V2/\Blk V2 q [.int .i64 18,.int .i64 n2] 139):=by rw [hq];exact G0.out
    rw [<- hq]
    clear hq G0 hb
    obtain ⟨v,hv⟩: ∃ v:Int,(G 18 n2).getD 0=v:=⟨_,rfl⟩
    have lk:(Instr.lookup 75 (.map (some wb)) (wv 18 n2) false).run Tryz.prog V2.drew=.ok (.int .i64 v) V2.drew:=by
     have q:=((HS.out.2.2.2.2).block (w':=V2.drew) (G1.out.1.block _ HS.out.2.2.2.2.lt)).look (a:=18) (b:=n2) (by decide) HW.out.2.1
     rw [hv] at q;exact q
    have p17:V2.cell? ⟨pb,17,none⟩=some (.map (some wb)):=(HS.out.2.1.below G1.out.1).cell 17
    have x0:V2.cell? ⟨q,0,none⟩=some (.int .i64 18):=G1.out.2.cell 0
    have x1:V2.cell? ⟨q,1,none⟩=some (.int .i64 n2):=G1.out.2.cell 1
    have HB:Hid (Below W.heap.size W V2.drew):=below_drew G1.out.1
    clear G1
    by_cases cv:v=0
    . have d1:decide (v=0)=true:=by simp [cv]
      have d2:(v==0)=true:=by simp [cv]
      have cw:IntKind.i64.wrap (C 1+1)=C 2:=by
       have e:C 2=C 1+1:=by rw [HC.out.2 1 (by omega)];show C 1+zz (G 18 n2)=_;unfold zz;rw [hv,if_pos cv]
       have:=HC.out.1 1
       rw [e];simp only [IntKind.wrap_i64];omega
      clear hv cv
      go_region
      go_wp2_with fail
      go_roundw
      case rel=>exact ⟨2,by omega,rfl,rfl,HB⟩
      case measure=>decide
    . have d1:decide (v=0)=false:=by simp [cv]
      have d2:(v==0)=false:=by simp [cv]
      have ce:C 1=C 2:=by rw [HC.out.2 1 (by omega)];show C 1=C 1+zz (G 18 n2);unfold zz;rw [hv,if_neg cv];omega
      clear hv cv
      go_region
      go_wp2_with fail
      go_roundw
      case rel=>exact ⟨2,by omega,by rw [ce],rfl,HB⟩
      case measure=>decide
  . have s1:(wr.alloc (.cells #[.int .i64 27,.int .i64 n3] 139)).heap.size=wr.heap.size+1:=World.size_alloc _ _
    have G0:Hid (Below W.heap.size W (wr.alloc (.cells #[.int .i64 27,.int .i64 n3] 139))/\Blk (wr.alloc (.cells #[.int .i64 27,.int .i64 n3] 139)) wr.heap.size [.int .i64 27,.int .i64 n3] 139):=⟨below_then hb.out (Go.Joins.below_alloc1 _ _),Blk.made _ _ _⟩
    clear s1
    have ix: ∀ w:World,(Instr.index 140 (.agg #[.int .i64 9,.int .i64 n1,.int .i64 18,.int .i64 n2,.int .i64 27,.int .i64 n3]) (.int .i64 2)).run Tryz.prog w=.ok (.agg #[.int .i64 27,.int .i64 n3]) w:=fun w=>by kernel_rfl
    go_upto_region 5 with fail
    generalize (wr.alloc (.cells #[.int .i64 27,.int .i64 n3] 139))=V2 at G0 |-
    obtain ⟨q,hq⟩: ∃ q,q=wr.heap.size:=⟨_,rfl⟩
    have G1:Hid (Below W.heap.size W V2/\Blk V2 q [.int .i64 27,.int .i64 n3] 139):=by rw [hq];exact G0.out
    rw [<- hq]
    clear hq G0 hb
    obtain ⟨v,hv⟩: ∃ v:Int,(G 27 n3).getD 0=v:=⟨_,rfl⟩
    have lk:(Instr.lookup 75 (.map (some wb)) (wv 27 n3) false).run Tryz.prog V2.drew=.ok (.int .i64 v) V2.drew:=by
     have q:=((HS.out.2.2.2.2).block (w':=V2.drew) (G1.out.1.block _ HS.out.2.2.2.2.lt)).look (a:=27) (b:=n3) (by decide) HW.out.2.2
     rw [hv] at q;exact q
    have p17:V2.cell? ⟨pb,17,none⟩=some (.map (some wb)):=(HS.out.2.1.below G1.out.1).cell 17
    have x0:V2.cell? ⟨q,0,none⟩=some (.int .i64 27):=G1.out.2.cell 0
    have x1:V2.cell? ⟨q,1,none⟩=some (.int .i64 n3):=G1.out.2.cell 1
    have HB:Hid (Below W.heap.size W V2.drew):=below_drew G1.out.1
    clear G1
    by_cases cv:v=0
    . have d1:decide (v=0)=true:=by simp [cv]
      have d2:(v==0)=true:=by simp [cv]
      have cw:IntKind.i64.wrap (C 2+1)=C 3:=by
       have e:C 3=C 2+1:=by rw [HC.out.2 2 (by omega)];show C 2+zz (G 27 n3)=_;unfold zz;rw [hv,if_pos cv]
       have:=HC.out.1 2
       rw [e];simp only [IntKind.wrap_i64];omega
      clear hv cv
      go_region
      go_wp2_with fail
      go_roundw
      case rel=>exact ⟨3,by omega,rfl,rfl,HB⟩
      case measure=>decide
    . have d1:decide (v=0)=false:=by simp [cv]
      have d2:(v==0)=false:=by simp [cv]
      have ce:C 2=C 3:=by rw [HC.out.2 2 (by omega)];show C 2=C 2+zz (G 27 n3);unfold zz;rw [hv,if_neg cv];omega
      clear hv cv
      go_region
      go_wp2_with fail
      go_roundw
      case rel=>exact ⟨3,by omega,by rw [ce],rfl,HB⟩
      case measure=>decide
  . clear hi
    have BS:Hid (Md wr mb tq tb pm/\Blk wr pb [.int .i64 par,.int .i64 k,.int .u64 0,.int .u64 0,.int .u64 0,.int .u64 0,.int .i64 0,.int .u64 0,.bool false,.int .u64 0,.int .i64 0,.int .u64 0,.int .u64 0,.int .u64 0,.int .u64 0,.slice rp ln rc,.map (some lb),.map (some wb)] 77):=⟨HS.out.1.below hb.out,HS.out.2.1.below hb.out⟩
    go_upto_region 8 with fail
    refine wp_region_noPanic ?_
    refine wp_region_held_drew (S:=fun cw=>Md cw mb tq tb pm/\Blk cw pb [.int .i64 par,.int .i64 k,.int .u64 0,.int .u64 0,.int .u64 0,.int .u64 0,.int .i64 0,.int .u64 0,.bool false,.int .u64 0,.int .i64 0,.int .u64 0,.int .u64 0,.int .u64 0,.int .u64 0,.slice rp ln rc,.map (some lb),.map (some wb)] 77) (by kernel_rfl) ?_ (fun hHeld=> ?_)
    . exact BS.out
    have KU:Hid (Below W.heap.size W wr.drew):=below_drew hb.out
    clear BS hb
    generalize wr.drew=U at hHeld KU |-
    refine tk 0 34 ?_ rfl (Or.inl ⟨by rfl,?_⟩) ?_
    rotate_left
    . intro w hSw;(try dsimp only at hSw);go_simp;(try with_reducible rfl)
    try simp only [Act.put,z1,z2,z3]
    refine tk 1 35 ?_ rfl (Or.inl ⟨by rfl,?_⟩) ?_
    rotate_left
    . intro w hSw;(try dsimp only at hSw);go_simp;(try with_reducible rfl)
    try simp only [Act.put,z1,z2,z3]
    refine tk 2 36 ?_ rfl (Or.inl ⟨by rfl,?_⟩) ?_
    rotate_left
    . intro w hSw;(try dsimp only at hSw);go_simp;(try with_reducible rfl)
    try simp only [Act.put,z1,z2,z3]
    refine tk 3 37 (pp tb) rfl (Or.inl ⟨by rfl,?_⟩) ?_
    . intro w hSw;(try dsimp only at hSw);have r:=hSw.1.2.1;(try go_simp);(try simp [*])
    try simp only [Act.put,z1,z2,z3]
    refine tk 4 38 ?_ rfl (Or.inl ⟨by rfl,?_⟩) ?_
    rotate_left
    . intro w hSw;(try dsimp only at hSw);go_simp;(try with_reducible rfl)
    try simp only [Act.put,z1,z2,z3]
    refine tk 5 39 ?_ rfl (Or.inl ⟨by rfl,?_⟩) ?_
    rotate_left
    . intro w hSw;(try dsimp only at hSw);go_simp;(try with_reducible rfl)
    try simp only [Act.put,z1,z2,z3]
    refine tk 6 40 ?_ rfl (Or.inl ⟨by rfl,?_⟩) ?_
    rotate_left
    . intro w hSw;(try dsimp only at hSw);go_simp;(try with_reducible rfl)
    try simp only [Act.put,z1,z2,z3]
    refine tk 7 41 (.int .i64 k) rfl (Or.inl ⟨by rfl,?_⟩) ?_
    . intro w hSw;(try dsimp only at hSw);have r:=Blk.cell hSw.2 1;(try go_simp);(try simp [*])
    try simp only [Act.put,z1,z2,z3]
    refine tk 8 42 ?_ rfl (Or.inl ⟨by rfl,?_⟩) ?_
    rotate_left
    . intro w hSw;(try dsimp only at hSw);go_simp;(try with_reducible rfl)
    try simp only [Act.put,z1,z2,z3]
    refine wpAnyH_ready (rs:=[9]) (by kernel_rfl) (by simp) ?_
    refine AllReadyH.cons (o:=⟨some 43,_,_,_,_,none⟩) rfl (fun K hK=> ?_) AllReadyH.nil
    go_simp
    go_wp2_with (go_at_call 20;refine Calls.mono (CC.out _ KU.out) ?_;rintro e u1 ⟨rfl,hT1,hg1⟩)
    have E1:Hid (Qo.IsTree u1 tb (Qo.chargeT T k (C 3))/\Kept (fun j=>j≠tb/\j<W.heap.size) W u1):=⟨hT1,Kept.trans (kept_of_below KU.out (fun j hj=>hj.2)) (kept_grown hg1 (fun j hj=>⟨hj.1,Nat.lt_of_lt_of_le hj.2 KU.out.size⟩))⟩
    have NE:=HN.out
    have hMb:Md u1 mb tq tb pm:=hHeld.1.block hg1.size (hg1.block _ hHeld.1.2.2.2 (fun e=>NE.2.1 (Option.some.inj e)))
    have hPb:Blk u1 pb [.int .i64 par,.int .i64 k,.int .u64 0,.int .u64 0,.int .u64 0,.int .u64 0,.int .i64 0,.int .u64 0,.bool false,.int .u64 0,.int .i64 0,.int .u64 0,.int .u64 0,.int .u64 0,.int .u64 0,.slice rp ln rc,.map (some lb),.map (some wb)] 77:=(hg1.block _ hHeld.2.lt (fun e=>NE.2.2.1 (Option.some.inj e))).trans hHeld.2
    refine hK.out _ _ ⟨hMb,hPb⟩ (fun hHeld2=> ?_)
    clear hK K hHeld hT1 hg1 KU NE hMb hPb
    have hHeld:=hHeld2
    clear hHeld2
    try simp only [Act.put,z1,z2,z3]
    refine tk 10 14 ?_ rfl (Or.inl ⟨by rfl,?_⟩) ?_
    rotate_left
    . intro w hSw;(try dsimp only at hSw);go_simp;(try with_reducible rfl)
    try simp only [Act.put,z1,z2,z3]
    clear hHeld
    refine wpAnyH_done (by kernel_rfl) ?_ _
    refine NoPanic.normal ?_
    have HU:Hid (Md u1 mb tq tb pm/\Blk u1 pb [.int .i64 par,.int .i64 k,.int .u64 0,.int .u64 0,.int .u64 0,.int .u64 0,.int .i64 0,.int .u64 0,.bool false,.int .u64 0,.int .i64 0,.int .u64 0,.int .u64 0,.int .u64 0,.int .u64 0,.slice rp ln rc,.map (some lb),.map (some wb)] 77/\MapL u1 lb n F/\MapW u1 wb n G):=by
     obtain ⟨s1,s2,s3,s4,s5⟩:=HS.out
     obtain ⟨e1,e2,e3,e4,e5,e6,e7,e8,e9⟩:=HN.out
     have kk:=E1.out.2
     exact ⟨s1.block kk.size (kk.block mb ⟨e2,s1.2.2.2⟩),(kk.block pb ⟨e3,s2.lt⟩).trans s2,s4.block (kk.block lb ⟨e5,s4.lt⟩),s5.block (kk.block wb ⟨e7,s5.lt⟩)⟩
    clear CC
    go_wp2_with fail
    refine Calls.mono (WC.out _) ?_
    rintro e V3 ⟨rfl,hb3⟩
    have B3:Hid (Below u1.heap.size u1 V3):=hb3
    clear hb3 WC
    go_wp2_with fail
    go_loopw [16,49] (fun _ jv V=> ∃ i:Nat,i<=3/\jv=.int .i64 (i:Nat)/\Hid (MapW V wb (n+2*i) (bumpN n1 n2 n3 G i)/\Kept (fun j=>j≠wb/\j<u1.heap.size) u1 V)) (fun _ jv _=>(3-intOf jv).toNat)
    case atStart=>exact ⟨0,by omega,rfl,HU.out.2.2.2.block (B3.out.block _ HU.out.2.2.2.lt),kept_of_below B3.out (fun j hj=>hj.2)⟩
    case round =>
     obtain ⟨i,hi,rfl,hst⟩:=hrel
     clear B3
     rcases (show i=0\/i=1\/i=2\/i=3 by omega) with rfl | rfl | rfl | rfl
     . have G0:Hid (Below wr.heap.size wr (wr.alloc (.cells #[.int .i64 9,.int .i64 n1] 139))/\Blk (wr.alloc (.cells #[.int .i64 9,.int .i64 n1] 139)) wr.heap.size [.int .i64 9,.int .i64 n1] 139):=⟨Go.Joins.below_alloc1 _ _,Blk.made _ _ _⟩
       have ix: ∀ w:World,(Instr.index 140 (.agg #[.int .i64 9,.int .i64 n1,.int .i64 18,.int .i64 n2,.int .i64 27,.int .i64 n3]) (.int .i64 0)).run Tryz.prog w=.ok (.agg #[.int .i64 9,.int .i64 n1]) w:=fun w=>by kernel_rfl
       go_upto_region 14 with fail
       generalize (wr.alloc (.cells #[.int .i64 9,.int .i64 n1] 139))=V2 at G0 |-
       obtain ⟨q,hq⟩: ∃ q,q=wr.heap.size:=⟨_,rfl⟩
       have G1:Hid (Below wr.heap.size wr V2/\Blk V2 q [.int .i64 9,.int .i64 n1] 139):=by rw [hq];exact G0.out
       rw [<- hq]
       clear hq G0
       have KV:Kept (fun j=>j≠wb/\j<u1.heap.size) u1 V2.drew:=(hst.out.2).trans ((kept_of_below G1.out.1 (fun j hj=>Nat.lt_of_lt_of_le hj.2 hst.out.2.size)).trans ⟨rfl,rfl,rfl,Nat.le_refl _,fun _ _=>rfl⟩)
       obtain ⟨v,hv⟩: ∃ v:Int,(G 9 n1).getD 0=v:=⟨_,rfl⟩
       have hvi:((bumpN n1 n2 n3 G 0) 9 n1).getD 0=v:=by rw [<- hv];simp [bumpN,bump,Wy.set]
       have hvb:=HG.out 9 n1
       rw [hv] at hvb
       have mw:MapW V2.drew wb (n+2*0) (bumpN n1 n2 n3 G 0):=hst.out.1.block (G1.out.1.block _ hst.out.1.lt)
       have wfn:=HW.out.1
       have lk:(Instr.lookup 75 (.map (some wb)) (wv 9 n1) false).run Tryz.prog V2.drew=.ok (.int .i64 v) V2.drew:=by
        have q:=mw.look (a:=9) (b:=n1) (by decide) wfn
        rw [hvi] at q;exact q
       obtain ⟨w1,vv,st,ent,mw1,hg1,hst1⟩:=mw.entry (a:=9) (b:=n1) (by have:=HP.out;unfold maxLen;omega) (by decide) wfn
       have ent:(Instr.mapEntry 75 (.map (some wb)) (wv 9 n1)).run Tryz.prog V2.drew=.ok (.tuple #[vv,.int .i64 st]) w1:=ent
       have lk1:(Instr.lookup 75 (.map (some wb)) (wv 9 n1) false).run Tryz.prog w1=.ok (.int .i64 v) w1:=by
        have q:=mw1.look (a:=9) (b:=n1) (by decide) wfn
        rw [show ((bumpN n1 n2 n3 G 0).set 9 n1 (some (((bumpN n1 n2 n3 G 0) 9 n1).getD 0)) 9 n1).getD 0=v by unfold Wy.set;rw [if_pos ⟨rfl,rfl⟩,hvi];rfl] at q
        exact q
       obtain ⟨w2,upd,mw2,hg2⟩:=mw1.set (a:=9) (b:=n1) (v:=v+1) (by have:=HP.out;unfold maxLen;omega) (by decide) wfn (wf64 (by omega) (by omega))
       have ste:(Instr.entryStore 75 (.map (some wb)) (.int .i64 st) (.int .i64 (v+1))).run Tryz.prog w1=.ok () w2:=(hst1 _).trans upd
       have ww:IntKind.i64.wrap (v+1)=v+1:=by simp only [IntKind.wrap_i64];omega
       have HS2:Hid (MapW w2 wb (n+2*(0+1)) (bumpN n1 n2 n3 G 1)/\Kept (fun j=>j≠wb/\j<u1.heap.size) u1 w2):=by
        refine ⟨?_,KV.trans ((kept_grown hg1 (fun j hj=>⟨hj.1,Nat.lt_of_lt_of_le hj.2 KV.size⟩)).trans (kept_grown hg2 (fun j hj=>⟨hj.1,Nat.lt_of_lt_of_le hj.2 (Nat.le_trans KV.size hg1.size)⟩)))⟩
        have e:(((bumpN n1 n2 n3 G 0).set 9 n1 (some (((bumpN n1 n2 n3 G 0) 9 n1).getD 0))).set 9 n1 (some (v+1)))=bumpN n1 n2 n3 G 1:=by rw [hvi,<- hv];simp [bumpN,bump,Wy.set]
        rw [e] at mw2;exact mw2
       have p17:V2.cell? ⟨pb,17,none⟩=some (.map (some wb)):=by
        have q:Blk V2.drew pb [.int .i64 par,.int .i64 k,.int .u64 0,.int .u64 0,.int .u64 0,.int .u64 0,.int .i64 0,.int .u64 0,.bool false,.int .u64 0,.int .i64 0,.int .u64 0,.int .u64 0,.int .u64 0,.int .u64 0,.slice rp ln rc,.map (some lb),.map (some wb)] 77:=(KV.block pb ⟨HN.out.2.2.2.1,HU.out.2.1.lt⟩).trans HU.out.2.1
        exact Blk.cell (w:=V2.drew) q 17
       have x0:V2.cell? ⟨q,0,none⟩=some (.int .i64 9):=G1.out.2.cell 0
       have x1:V2.cell? ⟨q,1,none⟩=some (.int .i64 n1):=G1.out.2.cell 1
       clear G1 hst mw mw1 mw2 hg1 hg2 hst1 upd KV hv hvi hvb wfn
       go_region
       all_goals
        go_wp2_with fail
        go_roundw
        case rel=>exact ⟨1,by omega,rfl,HS2⟩
        case measure=>decide
     . have G0:Hid (Below wr.heap.size wr (wr.alloc (.cells #[.int .i64 18,.int .i64 n2] 139))/\Blk (wr.alloc (.cells #[.int .i64 18,.int .i64 n2] 139)) wr.heap.size [.int .i64 18,.int .i64 n2] 139):=⟨Go.Joins.below_alloc1 _ _,Blk.made _ _ _⟩
       have ix: ∀ w:World,(Instr.index 140 (.agg #[.int .i64 9,.int .i64 n1,.int .i64 18,.int .i64 n2,.int .i64 27,.int .i64 n3]) (.int .i64 1)).run Tryz.prog w=.ok (.agg #[.int .i64 18,.int .i64 n2]) w:=fun w=>by kernel_rfl
       go_upto_region 14 with fail
       generalize (wr.alloc (.cells #[.int .i64 18,.int .i64 n2] 139))=V2 at G0 |-
       obtain ⟨q,hq⟩: ∃ q,q=wr.heap.size:=⟨_,rfl⟩
       have G1:Hid (Below wr.heap.size wr V2/\Blk V2 q [.int .i64 18,.int .i64 n2] 139):=by rw [hq];exact G0.out
       rw [<- hq]
       clear hq G0
       have KV:Kept (fun j=>j≠wb/\j<u1.heap.size) u1 V2.drew:=(hst.out.2).trans ((kept_of_below G1.out.1 (fun j hj=>Nat.lt_of_lt_of_le hj.2 hst.out.2.size)).trans ⟨rfl,rfl,rfl,Nat.le_refl _,fun _ _=>rfl⟩)
       obtain ⟨v,hv⟩: ∃ v:Int,(G 18 n2).getD 0=v:=⟨_,rfl⟩
       have hvi:((bumpN n1 n2 n3 G 1) 18 n2).getD 0=v:=by rw [<- hv];simp [bumpN,bump,Wy.set]
       have hvb:=HG.out 18 n2
       rw [hv] at hvb
       have mw:MapW V2.drew wb (n+2*1) (bumpN n1 n2 n3 G 1):=hst.out.1.block (G1.out.1.block _ hst.out.1.lt)
       have wfn:=HW.out.2.1
       have lk:(Instr.lookup 75 (.map (some wb)) (wv 18 n2) false).run Tryz.prog V2.drew=.ok (.int .i64 v) V2.drew:=by
        have q:=mw.look (a:=18) (b:=n2) (by decide) wfn
        rw [hvi] at q;exact q
       obtain ⟨w1,vv,st,ent,mw1,hg1,hst1⟩:=mw.entry (a:=18) (b:=n2) (by have:=HP.out;unfold maxLen;omega) (by decide) wfn
       have ent:(Instr.mapEntry 75 (.map (some wb)) (wv 18 n2)).run Tryz.prog V2.drew=.ok (.tuple #[vv,.int .i64 st]) w1:=ent
       have lk1:(Instr.lookup 75 (.map (some wb)) (wv 18 n2) false).run Tryz.prog w1=.ok (.int .i64 v) w1:=by
        have q:=mw1.look (a:=18) (b:=n2) (by decide) wfn
        rw [show ((bumpN n1 n2 n3 G 1).set 18 n2 (some (((bumpN n1 n2 n3 G 1) 18 n2).getD 0)) 18 n2).getD 0=v by unfold Wy.set;rw [if_pos ⟨rfl,rfl⟩,hvi];rfl] at q
        exact q
       obtain ⟨w2,upd,mw2,hg2⟩:=mw1.set (a:=18) (b:=n2) (v:=v+1) (by have:=HP.out;unfold maxLen;omega) (by decide) wfn (wf64 (by omega) (by omega))
       have ste:(Instr.entryStore 75 (.map (some wb)) (.int .i64 st) (.int .i64 (v+1))).run Tryz.prog w1=.ok () w2:=(hst1 _).trans upd
       have ww:IntKind.i64.wrap (v+1)=v+1:=by simp only [IntKind.wrap_i64];omega
       have HS2:Hid (MapW w2 wb (n+2*(1+1)) (bumpN n1 n2 n3 G 2)/\Kept (fun j=>j≠wb/\j<u1.heap.size) u1 w2):=by
        refine ⟨?_,KV.trans ((kept_grown hg1 (fun j hj=>⟨hj.1,Nat.lt_of_lt_of_le hj.2 KV.size⟩)).trans (kept_grown hg2 (fun j hj=>⟨hj.1,Nat.lt_of_lt_of_le hj.2 (Nat.le_trans KV.size hg1.size)⟩)))⟩
        have e:(((bumpN n1 n2 n3 G 1).set 18 n2 (some (((bumpN n1 n2 n3 G 1) 18 n2).getD 0))).set 18 n2 (some (v+1)))=bumpN n1 n2 n3 G 2:=by rw [hvi,<- hv];simp [bumpN,bump,Wy.set]
        rw [e] at mw2;exact mw2
       have p17:V2.cell? ⟨pb,17,none⟩=some (.map (some wb)):=by
        have q:Blk V2.drew pb [.int .i64 par,.int .i64 k,.int .u64 0,.int .u64 0,.int .u64 0,.int .u64 0,.int .i64 0,.int .u64 0,.bool false,.int .u64 0,.int .i64 0,.int .u64 0,.int .u64 0,.int .u64 0,.int .u64 0,.slice rp ln rc,.map (some lb),.map (some wb)] 77:=(KV.block pb ⟨HN.out.2.2.2.1,HU.out.2.1.lt⟩).trans HU.out.2.1
        exact Blk.cell (w:=V2.drew) q 17
       have x0:V2.cell? ⟨q,0,none⟩=some (.int .i64 18):=G1.out.2.cell 0
       have x1:V2.cell? ⟨q,1,none⟩=some (.int .i64 n2):=G1.out.2.cell 1
       clear G1 hst mw mw1 mw2 hg1 hg2 hst1 upd KV hv hvi hvb wfn
       go_region
       all_goals
        go_wp2_with fail
        go_roundw
        case rel=>exact ⟨2,by omega,rfl,HS2⟩
        case measure=>decide
     . have G0:Hid (Below wr.heap.size wr (wr.alloc (.cells #[.int .i64 27,.int .i64 n3] 139))/\Blk (wr.alloc (.cells #[.int .i64 27,.int .i64 n3] 139)) wr.heap.size [.int .i64 27,.int .i64 n3] 139):=⟨Go.Joins.below_alloc1 _ _,Blk.made _ _ _⟩
       have ix: ∀ w:World,(Instr.index 140 (.agg #[.int .i64 9,.int .i64 n1,.int .i64 18,.int .i64 n2,.int .i64 27,.int .i64 n3]) (.int .i64 2)).run Tryz.prog w=.ok (.agg #[.int .i64 27,.int .i64 n3]) w:=fun w=>by kernel_rfl
       go_upto_region 14 with fail
       generalize (wr.alloc (.cells #[.int .i64 27,.int .i64 n3] 139))=V2 at G0 |-
       obtain ⟨q,hq⟩: ∃ q,q=wr.heap.size:=⟨_,rfl⟩
       have G1:Hid (Below wr.heap.size wr V2/\Blk V2 q [.int .i64 27,.int .i64 n3] 139):=by rw [hq];exact G0.out
       rw [<- hq]
       clear hq G0
       have KV:Kept (fun j=>j≠wb/\j<u1.heap.size) u1 V2.drew:=(hst.out.2).trans ((kept_of_below G1.out.1 (fun j hj=>Nat.lt_of_lt_of_le hj.2 hst.out.2.size)).trans ⟨rfl,rfl,rfl,Nat.le_refl _,fun _ _=>rfl⟩)
       obtain ⟨v,hv⟩: ∃ v:Int,(G 27 n3).getD 0=v:=⟨_,rfl⟩
       have hvi:((bumpN n1 n2 n3 G 2) 27 n3).getD 0=v:=by rw [<- hv];simp [bumpN,bump,Wy.set]
       have hvb:=HG.out 27 n3
       rw [hv] at hvb
       have mw:MapW V2.drew wb (n+2*2) (bumpN n1 n2 n3 G 2):=hst.out.1.block (G1.out.1.block _ hst.out.1.lt)
       have wfn:=HW.out.2.2
       have lk:(Instr.lookup 75 (.map (some wb)) (wv 27 n3) false).run Tryz.prog V2.drew=.ok (.int .i64 v) V2.drew:=by
        have q:=mw.look (a:=27) (b:=n3) (by decide) wfn
        rw [hvi] at q;exact q
       obtain ⟨w1,vv,st,ent,mw1,hg1,hst1⟩:=mw.entry (a:=27) (b:=n3) (by have:=HP.out;unfold maxLen;omega) (by decide) wfn
       have ent:(Instr.mapEntry 75 (.map (some wb)) (wv 27 n3)).run Tryz.prog V2.drew=.ok (.tuple #[vv,.int .i64 st]) w1:=ent
       have lk1:(Instr.lookup 75 (.map (some wb)) (wv 27 n3) false).run Tryz.prog w1=.ok (.int .i64 v) w1:=by
        have q:=mw1.look (a:=27) (b:=n3) (by decide) wfn
        rw [show ((bumpN n1 n2 n3 G 2).set 27 n3 (some (((bumpN n1 n2 n3 G 2) 27 n3).getD 0)) 27 n3).getD 0=v by unfold Wy.set;rw [if_pos ⟨rfl,rfl⟩,hvi];rfl] at q
        exact q
       obtain ⟨w2,upd,mw2,hg2⟩:=mw1.set (a:=27) (b:=n3) (v:=v+1) (by have:=HP.out;unfold maxLen;omega) (by decide) wfn (wf64 (by omega) (by omega))
       have ste:(Instr.entryStore 75 (.map (some wb)) (.int .i64 st) (.int .i64 (v+1))).run Tryz.prog w1=.ok () w2:=(hst1 _).trans upd
       have ww:IntKind.i64.wrap (v+1)=v+1:=by simp only [IntKind.wrap_i64];omega
       have HS2:Hid (MapW w2 wb (n+2*(2+1)) (bumpN n1 n2 n3 G 3)/\Kept (fun j=>j≠wb/\j<u1.heap.size) u1 w2):=by
        refine ⟨?_,KV.trans ((kept_grown hg1 (fun j hj=>⟨hj.1,Nat.lt_of_lt_of_le hj.2 KV.size⟩)).trans (kept_grown hg2 (fun j hj=>⟨hj.1,Nat.lt_of_lt_of_le hj.2 (Nat.le_trans KV.size hg1.size)⟩)))⟩
        have e:(((bumpN n1 n2 n3 G 2).set 27 n3 (some (((bumpN n1 n2 n3 G 2) 27 n3).getD 0))).set 27 n3 (some (v+1)))=bumpN n1 n2 n3 G 3:=by rw [hvi,<- hv];simp [bumpN,bump,Wy.set]
        rw [e] at mw2;exact mw2
       have p17:V2.cell? ⟨pb,17,none⟩=some (.map (some wb)):=by
        have q:Blk V2.drew pb [.int .i64 par,.int .i64 k,.int .u64 0,.int .u64 0,.int .u64 0,.int .u64 0,.int .i64 0,.int .u64 0,.bool false,.int .u64 0,.int .i64 0,.int .u64 0,.int .u64 0,.int .u64 0,.int .u64 0,.slice rp ln rc,.map (some lb),.map (some wb)] 77:=(KV.block pb ⟨HN.out.2.2.2.1,HU.out.2.1.lt⟩).trans HU.out.2.1
        exact Blk.cell (w:=V2.drew) q 17
       have x0:V2.cell? ⟨q,0,none⟩=some (.int .i64 27):=G1.out.2.cell 0
       have x1:V2.cell? ⟨q,1,none⟩=some (.int .i64 n3):=G1.out.2.cell 1
       clear G1 hst mw mw1 mw2 hg1 hg2 hst1 upd KV hv hvi hvb wfn
       go_region
       all_goals
        go_wp2_with fail
        go_roundw
        case rel=>exact ⟨3,by omega,rfl,HS2⟩
        case measure=>decide
     . have kk:=hst.out.2
       have p16:wr.cell? ⟨pb,16,none⟩=some (.map (some lb)):=by
        have q:Blk wr pb [.int .i64 par,.int .i64 k,.int .u64 0,.int .u64 0,.int .u64 0,.int .u64 0,.int .i64 0,.int .u64 0,.bool false,.int .u64 0,.int .i64 0,.int .u64 0,.int .u64 0,.int .u64 0,.int .u64 0,.slice rp ln rc,.map (some lb),.map (some wb)] 77:=(kk.block pb ⟨HN.out.2.2.2.1,HU.out.2.1.lt⟩).trans HU.out.2.1
        exact q.cell 16
       have ml:MapL wr lb n F:=HU.out.2.2.1.block (kk.block lb ⟨HN.out.2.2.2.2.2.1,HU.out.2.2.1.lt⟩)
       obtain ⟨w9,upd,ml9,hg9⟩:=ml.set (k:=p) (by have:=HP.out;unfold maxLen;omega) (wf64 (by have:=HP.out;omega) (by have:=HP.out;omega)) c
       have upd:(Instr.mapUpdate 74 (.map (some lb)) (.int .i64 p) (.pointer (some ⟨c,0,none⟩))).run Tryz.prog wr=.ok () w9:=upd
       have HE:Hid (Qo.IsTree w9 tb (Qo.chargeT T k (C 3))/\MapL w9 lb (n+1) (put F p (some c))/\MapW w9 wb (n+6) (bumpN n1 n2 n3 G 3)/\Kept (fun j=>j≠tb/\j≠lb/\j≠wb/\j<W.heap.size) W w9):=by
        obtain ⟨e1,e2,e3,e4,e5,e6,e7,e8,e9⟩:=HN.out
        have tl:=E1.out.1.2.2
        have lw:=hst.out.1.lt
        have sz:=kk.size
        have k9: ∀ j,j<wr.heap.size->j≠lb->w9.heap[j]? =wr.heap[j]? :=fun j hj hne=>hg9.block j hj (fun e=>hne (Option.some.inj e))
        refine ⟨tree_block E1.out.1 (Nat.le_trans sz hg9.size) ((k9 tb (Nat.lt_of_lt_of_le tl sz) (fun e=>e5 e.symm)).trans (kk.block tb ⟨fun e=>e7 e.symm,tl⟩)),ml9,hst.out.1.block (k9 wb lw (fun e=>e6 e.symm)),?_⟩
        refine (E1.out.2.sub (fun j hj=>⟨hj.1,hj.2.2.2⟩)).trans ((kk.sub (fun j hj=>⟨hj.2.2.1,Nat.lt_of_lt_of_le hj.2.2.2 E1.out.2.size⟩)).trans (kept_grown hg9 (fun j hj=>⟨hj.2.1,Nat.lt_of_lt_of_le hj.2.2.2 (Nat.le_trans E1.out.2.size sz)⟩)))
       clear kk ml ml9 hg9 hst
       go_wp2_with fail
       go_returns
       exact ⟨rfl,HE.out⟩
end Go.Proofs.YtlaiadheelgbdaaGreat.Fl
