import Derived.Test.YtokpmclmdobgeaaGreatKZe
import Derived.Test.YtokpmclmdobgeaaGreatJFe
import Derived.Test.YtokpmclmdobgeaaGreatJKe
import Derived.Test.YtokpmclmdobgeaaGreatJSe
import Derived.Test.YtokpmclmdobgeaaGreatJAe
set_option linter.unusedSimpArgs false
set_option linter.unusedVariables false
set_option maxRecDepth 8000
set_option maxHeartbeats 4000000
open Go.ChangeShapes Go.WideShapes Go.ChangeAt Go.RowKit Go.Maps
namespace Go.Proofs.YtokpmclmdobgeaaGreat.Fl
theorem own_cost1 (W:World):Calls Tryz.prog 72 #[.int .i64 1] W fun e w'=>e=.returned (.int .i64 0)/\w'=W:=by
 go_enter Tryz.func72,Tryz.ntmps72
 go_wp2_with fail
 go_returns
 exact ⟨rfl,rfl⟩
def Kd (kd b0:Int):Prop:=(kd=0/\b0=1)\/(kd=1/\b0=0)
theorem own_costK {kd b0:Int} (h:Kd kd b0) (W:World):Calls Tryz.prog 72 #[.int .i64 kd] W fun e w'=>e=.returned (.int .i64 b0)/\w'=W:=by
 rcases h with ⟨rfl,rfl⟩ | ⟨rfl,rfl⟩
 . exact own_cost W
 . exact own_cost1 W
theorem Kd.wf {kd b0:Int} (h:Kd kd b0):(Lit.int .i64 kd).wf=true:=by
 rcases h with ⟨rfl,rfl⟩ | ⟨rfl,rfl⟩ <;> decide
theorem Kd.bd {kd b0:Int} (h:Kd kd b0):0<=b0/\b0<=1:=by
 rcases h with ⟨rfl,rfl⟩ | ⟨rfl,rfl⟩ <;> omega
def costK (b0 n1 n2 n3:Int) (G:Wy):Nat->Int
 | 0 => b0
 | i + 1 => costK b0 n1 n2 n3 G i + zz (wayAt n1 n2 n3 G i)
theorem costK_bd {b0:Int} (n1 n2 n3:Int) (G:Wy) (hb:0<=b0/\b0<=1): ∀ i,0<=costK b0 n1 n2 n3 G i/\costK b0 n1 n2 n3 G i<=1+i
 | 0 => by simp only [costK]; omega
 | i + 1 => by
  have h:=costK_bd n1 n2 n3 G hb i
  have z:=zz_bd (wayAt n1 n2 n3 G i)
  simp only [costK]
  omega
theorem leadK_ok (mb tq tb pm pb lb wb c:Nat) (par k kd b0:Int) (hkd:Kd kd b0) (sa sb sc sd se sf sg sh si sj sk sl sm:Value) (rp:Option Addr) (ln rc n:Nat) (T:Nat->Qo.Nd) (root:Int) (F:Int->Option Nat) (G:Wy) (p:Int) (p0:0<=p) (p1:p<34359738368) (hn:n<1000000000000) (W:World)
 (hM:Md W mb tq tb pm) (hP:Blk W pb [.int .i64 par,.int .i64 k,sa,sb,sc,sd,se,sf,sg,sh,si,sj,sk,sl,sm,.slice rp ln rc,.map (some lb),.map (some wb)] 88) (hT:Qo.IsTree W tb T) (hL:MapL W lb n F) (hW:MapW W wb n G) (hG:Qo.Good T root) (hmay:Qo.mayN T k (costK b0 (p / 512) (p / 262144) (p / 134217728) G 3)=0)
 (hGb: ∀ a b,0<=(G a b).getD 0/\(G a b).getD 0<=1000000000000) (hne:mb≠wb/\mb≠tb/\pb≠tb/\pb≠wb/\lb≠tb/\lb≠wb/\wb≠tb/\mb≠lb/\pb≠lb) :
 Calls Tryz.prog 56 #[pp mb,pp pb,.int .i64 p,.int .i64 kd,pp c] W fun e w'=>e=.returned (.int .i64 0)/\Qo.IsTree w' tb (Qo.chargeT T k (costK b0 (p / 512) (p / 262144) (p / 134217728) G 3))/\MapL w' lb (n+1) (put F p (some c))/\MapW w' wb (n+6) (bumpN (p / 512) (p / 262144) (p / 134217728) G 3)/\Kept (fun j=>j≠tb/\j≠lb/\j≠wb/\j<W.heap.size) W w':=by
 obtain ⟨n1,h1⟩: ∃ n1:Int,p / 512=n1:=⟨_,rfl⟩
 obtain ⟨n2,h2⟩: ∃ n2:Int,p / 262144=n2:=⟨_,rfl⟩
 obtain ⟨n3,h3⟩: ∃ n3:Int,p / 134217728=n3:=⟨_,rfl⟩
 have WC:Hid (∀ w:World,Calls Tryz.prog 73 #[.int .i64 p] w (re (.agg (so 9 n1 18 n2 27 n3)) w)):=fun w=>by
  have q:=ways_to p p0 p1 w
  rw [h1,h2,h3] at q;exact q
 rw [h1,h2,h3] at hmay |-
 obtain ⟨C,hC⟩: ∃ C:Nat->Int,C=costK b0 n1 n2 n3 G:=⟨_,rfl⟩
 rw [<- hC] at hmay |-
 have HC:Hid ((∀ i:Nat,0<=C i/\C i<=1+i)/\ ∀ i,i<3->C (i+1)=C i+zz (wayAt n1 n2 n3 G i)):=by rw [hC];exact ⟨fun i=>costK_bd n1 n2 n3 G hkd.bd i,fun i _=>rfl⟩
 have c0:C 0=b0:=by rw [hC];rfl
 have HW:Hid ((Lit.int .i64 n1).wf=true/\(Lit.int .i64 n2).wf=true/\(Lit.int .i64 n3).wf=true):=⟨wf64 (by omega) (by omega),wf64 (by omega) (by omega),wf64 (by omega) (by omega)⟩
 have OC:Hid (∀ w:World,_):=fun w=>own_costK hkd w
 have wkd:=hkd.wf
 clear hkd
 have HS:Hid (Md W mb tq tb pm/\Blk W pb [.int .i64 par,.int .i64 k,sa,sb,sc,sd,se,sf,sg,sh,si,sj,sk,sl,sm,.slice rp ln rc,.map (some lb),.map (some wb)] 88/\Qo.IsTree W tb T/\MapL W lb n F/\MapW W wb n G):=⟨hM,hP,hT,hL,hW⟩
 have HN:Hid (mb≠wb/\mb≠tb/\pb≠tb/\pb≠wb/\lb≠tb/\lb≠wb/\wb≠tb/\mb≠lb/\pb≠lb):=hne
 have CC:Hid (∀ w:World,bc W w->Calls Tryz.prog 14 #[pp tb,.int .i64 k,.int .i64 (C 3)] w fun e w'=>e=.returned (.int .i64 0)/\Qo.IsTree w' tb (Qo.chargeT T k (C 3))/\w.grownBy w' (some tb)):=fun w hb=>by
  have q:=Qo.charge_any tb T hG.okT k (C 3) w (hT.below hb)
  rw [hmay] at q;exact q
 have HG:Hid (∀ a b,0<=(G a b).getD 0/\(G a b).getD 0<=1000000000000):=hGb
 have HP:Hid (0<=p/\p<34359738368/\n<1000000000000):=⟨p0,p1,hn⟩
 clear hM hP hT hL hW hG hmay hGb hne h1 h2 h3 hC p0 p1 hn
 go_enter Tryz.func56,Tryz.ntmps56
 go_wp2_with fail
 refine Calls.mono (OC.out _) ?_
 rintro e w' ⟨rfl,hu⟩
 have hu2:=hu.symm
 subst hu2
 clear hu OC
 go_wp2_with fail
 refine Calls.mono (WC.out _) ?_
 rintro e V1 ⟨rfl,hb1⟩
 have B1:Hid (bc W V1):=hb1
 clear hb1
 have HC0:Hid (C 0=b0):=c0
 clear c0
 go_wp2_with fail
 go_loopw [11,13,21] (fun cv _ jv V=> ∃ i:Nat,i<=3/\cv=.int .i64 (C i)/\jv=.int .i64 (i:Nat)/\Hid (bc W V)) (fun _ _ jv _=>(3-intOf jv).toNat)
 case atStart=>exact ⟨0,by omega,by rw [HC0.out],rfl,B1⟩
 case round =>
  obtain ⟨i,hi,rfl,rfl,hb⟩:=hrel
  clear B1 HC0
  rcases (show i=0\/i=1\/i=2\/i=3 by omega) with rfl | rfl | rfl | rfl
  . have s1:(wr.alloc (.cells #[.int .i64 9,.int .i64 n1] 145)).heap.size=wr.heap.size+1:=World.size_alloc _ _
    have G0:Hid (bc W (wr.alloc (.cells #[.int .i64 9,.int .i64 n1] 145))/\Blk (wr.alloc (.cells #[.int .i64 9,.int .i64 n1] 145)) wr.heap.size [.int .i64 9,.int .i64 n1] 145):=⟨below_then hb.out baa,Blk.made _ _ _⟩
    clear s1
    have ix: ∀ w:World,(Instr.index 146 (.agg (so 9 n1 18 n2 27 n3)) (.int .i64 0)).run Tryz.prog w=.ok (.agg #[.int .i64 9,.int .i64 n1]) w:=fun w=>by kernel_rfl
    go_upto_region 5 with fail
    generalize (wr.alloc (.cells #[.int .i64 9,.int .i64 n1] 145))=V2 at G0 |-
    obtain ⟨q,hq⟩: ∃ q,q=wr.heap.size:=⟨_,rfl⟩
    have G1:Hid (bc W V2/\Blk V2 q [.int .i64 9,.int .i64 n1] 145):=ki1
    rw [<- hq]
    clear hq G0 hb
    obtain ⟨v,hv⟩: ∃ v:Int,(G 9 n1).getD 0=v:=⟨_,rfl⟩
    have lk:(Instr.lookup 86 (.map (some wb)) (wv 9 n1) false).run Tryz.prog V2.drew=.ok (.int .i64 v) V2.drew:=by
     have q:=((HS.out.2.2.2.2).block (w':=V2.drew) (G1.out.1.block _ HS.out.2.2.2.2.lt)).look (a:=9) (b:=n1) kh HW.out.1
     rw [hv] at q;exact q
    have p17:V2.cell? ⟨pb,17,none⟩=some (.map (some wb)):=(HS.out.2.1.below G1.out.1).cell 17
    have x0:V2.cell? ⟨q,0,none⟩=some (.int .i64 9):=G1.out.2.cell 0
    have x1:V2.cell? ⟨q,1,none⟩=some (.int .i64 n1):=G1.out.2.cell 1
    have HB:Hid (bc W V2.drew):=below_drew G1.out.1
    clear G1
    by_cases cv:v=0
    . have d1:decide (v=0)=true:=by simp [cv]
      have d2:(v==0)=true:=by simp [cv]
      have cw:IntKind.i64.wrap (C 0+1)=C 1:=by
       have e:C 1=C 0+1:=by rw [HC.out.2 0 (by omega)];show C 0+zz (G 9 n1)=_;unfold zz;rw [hv,if_pos cv]
       have:=HC.out.1 0
       rw [e];simp only [IntKind.wrap_i64];omega
      clear hv cv
      go_region
      go_wp2_with fail
      go_roundw
      case rel=>exact ⟨1,by omega,rfl,rfl,HB⟩
      case measure=>decide
    . have d1:decide (v=0)=false:=by simp [cv]
      have d2:(v==0)=false:=by simp [cv]
      have ce:C 0=C 1:=by rw [HC.out.2 0 (by omega)];show C 0=C 0+zz (G 9 n1);unfold zz;rw [hv,if_neg cv];omega
      clear hv cv
      go_region
      go_wp2_with fail
      go_roundw
      case rel=>exact ⟨1,by omega,by rw [ce],rfl,HB⟩
      case measure=>decide
  . have s1:(wr.alloc (.cells #[.int .i64 18,.int .i64 n2] 145)).heap.size=wr.heap.size+1:=World.size_alloc _ _
    have G0:Hid (bc W (wr.alloc (.cells #[.int .i64 18,.int .i64 n2] 145))/\Blk (wr.alloc (.cells #[.int .i64 18,.int .i64 n2] 145)) wr.heap.size [.int .i64 18,.int .i64 n2] 145):=⟨below_then hb.out baa,Blk.made _ _ _⟩
    clear s1
    have ix: ∀ w:World,(Instr.index 146 (.agg (so 9 n1 18 n2 27 n3)) (.int .i64 1)).run Tryz.prog w=.ok (.agg #[.int .i64 18,.int .i64 n2]) w:=fun w=>by kernel_rfl
    go_upto_region 5 with fail
    generalize (wr.alloc (.cells #[.int .i64 18,.int .i64 n2] 145))=V2 at G0 |-
    obtain ⟨q,hq⟩: ∃ q,q=wr.heap.size:=⟨_,rfl⟩
    have G1:Hid (bc W V2/\Blk V2 q [.int .i64 18,.int .i64 n2] 145):=ki1
    rw [<- hq]
    clear hq G0 hb
    obtain ⟨v,hv⟩: ∃ v:Int,(G 18 n2).getD 0=v:=⟨_,rfl⟩
    have lk:(Instr.lookup 86 (.map (some wb)) (wv 18 n2) false).run Tryz.prog V2.drew=.ok (.int .i64 v) V2.drew:=by
     have q:=((HS.out.2.2.2.2).block (w':=V2.drew) (G1.out.1.block _ HS.out.2.2.2.2.lt)).look (a:=18) (b:=n2) kh HW.out.2.1
     rw [hv] at q;exact q
    have p17:V2.cell? ⟨pb,17,none⟩=some (.map (some wb)):=(HS.out.2.1.below G1.out.1).cell 17
    have x0:V2.cell? ⟨q,0,none⟩=some (.int .i64 18):=G1.out.2.cell 0
    have x1:V2.cell? ⟨q,1,none⟩=some (.int .i64 n2):=G1.out.2.cell 1
    have HB:Hid (bc W V2.drew):=below_drew G1.out.1
    clear G1
    by_cases cv:v=0
    . have d1:decide (v=0)=true:=by simp [cv]
      have d2:(v==0)=true:=by simp [cv]
      have cw:IntKind.i64.wrap (C 1+1)=C 2:=by
       have e:C 2=C 1+1:=by rw [HC.out.2 1 (by omega)];show C 1+zz (G 18 n2)=_;unfold zz;rw [hv,if_pos cv]
       have:=HC.out.1 1
       rw [e];simp only [IntKind.wrap_i64];omega
      clear hv cv
      go_region
      go_wp2_with fail
      go_roundw
      case rel=>exact ⟨2,by omega,rfl,rfl,HB⟩
      case measure=>decide
    . have d1:decide (v=0)=false:=by simp [cv]
      have d2:(v==0)=false:=by simp [cv]
      have ce:C 1=C 2:=by rw [HC.out.2 1 (by omega)];show C 1=C 1+zz (G 18 n2);unfold zz;rw [hv,if_neg cv];omega
      clear hv cv
      go_region
      go_wp2_with fail
      go_roundw
      case rel=>exact ⟨2,by omega,by rw [ce],rfl,HB⟩
      case measure=>decide
  . have s1:(wr.alloc (.cells #[.int .i64 27,.int .i64 n3] 145)).heap.size=wr.heap.size+1:=World.size_alloc _ _
    have G0:Hid (bc W (wr.alloc (.cells #[.int .i64 27,.int .i64 n3] 145))/\Blk (wr.alloc (.cells #[.int .i64 27,.int .i64 n3] 145)) wr.heap.size [.int .i64 27,.int .i64 n3] 145):=⟨below_then hb.out baa,Blk.made _ _ _⟩
    clear s1
    have ix: ∀ w:World,(Instr.index 146 (.agg (so 9 n1 18 n2 27 n3)) (.int .i64 2)).run Tryz.prog w=.ok (.agg #[.int .i64 27,.int .i64 n3]) w:=fun w=>by kernel_rfl
    go_upto_region 5 with fail
    generalize (wr.alloc (.cells #[.int .i64 27,.int .i64 n3] 145))=V2 at G0 |-
    obtain ⟨q,hq⟩: ∃ q,q=wr.heap.size:=⟨_,rfl⟩
    have G1:Hid (bc W V2/\Blk V2 q [.int .i64 27,.int .i64 n3] 145):=ki1
    rw [<- hq]
    clear hq G0 hb
    obtain ⟨v,hv⟩: ∃ v:Int,(G 27 n3).getD 0=v:=⟨_,rfl⟩
    have lk:(Instr.lookup 86 (.map (some wb)) (wv 27 n3) false).run Tryz.prog V2.drew=.ok (.int .i64 v) V2.drew:=by
     have q:=((HS.out.2.2.2.2).block (w':=V2.drew) (G1.out.1.block _ HS.out.2.2.2.2.lt)).look (a:=27) (b:=n3) kh HW.out.2.2
     rw [hv] at q;exact q
    have p17:V2.cell? ⟨pb,17,none⟩=some (.map (some wb)):=(HS.out.2.1.below G1.out.1).cell 17
    have x0:V2.cell? ⟨q,0,none⟩=some (.int .i64 27):=G1.out.2.cell 0
    have x1:V2.cell? ⟨q,1,none⟩=some (.int .i64 n3):=G1.out.2.cell 1
    have HB:Hid (bc W V2.drew):=below_drew G1.out.1
    clear G1
    by_cases cv:v=0
    . have d1:decide (v=0)=true:=by simp [cv]
      have d2:(v==0)=true:=by simp [cv]
      have cw:IntKind.i64.wrap (C 2+1)=C 3:=by
       have e:C 3=C 2+1:=by rw [HC.out.2 2 (by omega)];show C 2+zz (G 27 n3)=_;unfold zz;rw [hv,if_pos cv]
       have:=HC.out.1 2
       rw [e];simp only [IntKind.wrap_i64];omega
      clear hv cv
      go_region
      go_wp2_with fail
      go_roundw
      case rel=>exact ⟨3,by omega,rfl,rfl,HB⟩
      case measure=>decide
    . have d1:decide (v=0)=false:=by simp [cv]
      have d2:(v==0)=false:=by simp [cv]
      have ce:C 2=C 3:=by rw [HC.out.2 2 (by omega)];show C 2=C 2+zz (G 27 n3);unfold zz;rw [hv,if_neg cv];omega
      clear hv cv
      go_region
      go_wp2_with fail
      go_roundw
      case rel=>exact ⟨3,by omega,by rw [ce],rfl,HB⟩
      case measure=>decide
  . clear hi
    have BS:Hid (Md wr mb tq tb pm/\Blk wr pb [.int .i64 par,.int .i64 k,sa,sb,sc,sd,se,sf,sg,sh,si,sj,sk,sl,sm,.slice rp ln rc,.map (some lb),.map (some wb)] 88):=⟨HS.out.1.below hb.out,HS.out.2.1.below hb.out⟩
    go_upto_region 8 with fail
    refine hda (fun cw=>Md cw mb tq tb pm/\Blk cw pb [.int .i64 par,.int .i64 k,sa,sb,sc,sd,se,sf,sg,sh,si,sj,sk,sl,sm,.slice rp ln rc,.map (some lb),.map (some wb)] 88) BS.out fun hHeld=> ?_
    have KU:Hid (bc W wr.drew):=below_drew hb.out
    clear BS hb
    generalize wr.drew=U at hHeld KU |-
    refine tma 0 34 rfl ?_
    refine tma 1 35 rfl ?_
    refine tma 2 36 rfl ?_
    refine tla 3 37 (pp tb) rfl ?_ ?_
    . exact kj1
    refine tma 4 38 rfl ?_
    refine tma 5 39 rfl ?_
    refine tma 6 40 rfl ?_
    refine tla 7 41 (.int .i64 k) rfl ?_ ?_
    . exact kk1
    refine tma 8 42 rfl ?_
    refine rda 9 ⟨some 43,_,_,_,_,none⟩ rfl fun K hK=> ?_
    go_simp
    go_wp2_with (go_at_call 14;refine Calls.mono (CC.out _ KU.out) ?_;rintro e u1 ⟨rfl,hT1,hg1⟩)
    have E1:Hid (Qo.IsTree u1 tb (Qo.chargeT T k (C 3))/\Kept (fun j=>j≠tb/\j<W.heap.size) W u1):=⟨hT1,Kept.trans (kept_of_below KU.out (fun j hj=>hj.2)) (kept_grown hg1 (fun j hj=>⟨hj.1,nla hj.2 KU.out.size⟩))⟩
    have NE:=HN.out
    have hMb:Md u1 mb tq tb pm:=hHeld.1.block hg1.size (hg1.block _ hHeld.1.2.2.2 (fun e=>NE.2.1 (sia e)))
    have hPb:Blk u1 pb [.int .i64 par,.int .i64 k,sa,sb,sc,sd,se,sf,sg,sh,si,sj,sk,sl,sm,.slice rp ln rc,.map (some lb),.map (some wb)] 88:=(hg1.block _ hHeld.2.lt (fun e=>NE.2.2.1 (sia e))).trans hHeld.2
    refine hK.out _ _ ⟨hMb,hPb⟩ ?_
    clear hK K hHeld hT1 hg1 KU NE hMb hPb
    intro hHeld
    try simp only [Act.put,zaa,zba,zca]
    refine tma 10 14 rfl ?_
    clear hHeld
    refine wpAnyH_done kc ?_ _
    refine NoPanic.normal ?_
    have HU:Hid (Md u1 mb tq tb pm/\Blk u1 pb [.int .i64 par,.int .i64 k,sa,sb,sc,sd,se,sf,sg,sh,si,sj,sk,sl,sm,.slice rp ln rc,.map (some lb),.map (some wb)] 88/\MapL u1 lb n F/\MapW u1 wb n G):=by
     obtain ⟨s1,s2,s3,s4,s5⟩:=HS.out
     obtain ⟨e1,e2,e3,e4,e5,e6,e7,e8,e9⟩:=HN.out
     have kk:=E1.out.2
     exact ⟨s1.block kk.size (kk.block mb ⟨e2,s1.2.2.2⟩),(kk.block pb ⟨e3,s2.lt⟩).trans s2,s4.block (kk.block lb ⟨e5,s4.lt⟩),s5.block (kk.block wb ⟨e7,s5.lt⟩)⟩
    clear CC
    go_wp2_with fail
    refine Calls.mono (WC.out _) ?_
    rintro e V3 ⟨rfl,hb3⟩
    have B3:Hid (bc u1 V3):=hb3
    clear hb3 WC
    go_wp2_with fail
    go_loopw [16,49] (fun _ jv V=> ∃ i:Nat,i<=3/\jv=.int .i64 (i:Nat)/\Hid (MapW V wb (n+2*i) (bumpN n1 n2 n3 G i)/\Kept (fun j=>j≠wb/\j<u1.heap.size) u1 V)) (fun _ jv _=>(3-intOf jv).toNat)
    case atStart=>exact ⟨0,by omega,rfl,HU.out.2.2.2.block (B3.out.block _ HU.out.2.2.2.lt),kept_of_below B3.out (fun j hj=>hj.2)⟩
    case round =>
     obtain ⟨i,hi,rfl,hst⟩:=hrel
     clear B3
     rcases (show i=0\/i=1\/i=2\/i=3 by omega) with rfl | rfl | rfl | rfl
     . have G0:Hid (bc wr (wr.alloc (.cells #[.int .i64 9,.int .i64 n1] 145))/\Blk (wr.alloc (.cells #[.int .i64 9,.int .i64 n1] 145)) wr.heap.size [.int .i64 9,.int .i64 n1] 145):=⟨baa,Blk.made _ _ _⟩
       have ix: ∀ w:World,(Instr.index 146 (.agg (so 9 n1 18 n2 27 n3)) (.int .i64 0)).run Tryz.prog w=.ok (.agg #[.int .i64 9,.int .i64 n1]) w:=fun w=>by kernel_rfl
       go_upto_region 14 with fail
       generalize (wr.alloc (.cells #[.int .i64 9,.int .i64 n1] 145))=V2 at G0 |-
       obtain ⟨q,hq⟩: ∃ q,q=wr.heap.size:=⟨_,rfl⟩
       have G1:Hid (bc wr V2/\Blk V2 q [.int .i64 9,.int .i64 n1] 145):=ki1
       rw [<- hq]
       clear hq G0
       have KV:Kept (fun j=>j≠wb/\j<u1.heap.size) u1 V2.drew:=(hst.out.2).trans ((kept_of_below G1.out.1 (fun j hj=>nla hj.2 hst.out.2.size)).trans ⟨rfl,rfl,rfl,Nat.le_refl _,fun _ _=>rfl⟩)
       obtain ⟨v,hv⟩: ∃ v:Int,(G 9 n1).getD 0=v:=⟨_,rfl⟩
       have hvi:((bumpN n1 n2 n3 G 0) 9 n1).getD 0=v:=by rw [<- hv];simp [bumpN,bump,Wy.set]
       have hvb:=HG.out 9 n1
       rw [hv] at hvb
       have mw:MapW V2.drew wb (n+2*0) (bumpN n1 n2 n3 G 0):=hst.out.1.block (G1.out.1.block _ hst.out.1.lt)
       have wfn:=HW.out.1
       have lk:(Instr.lookup 86 (.map (some wb)) (wv 9 n1) false).run Tryz.prog V2.drew=.ok (.int .i64 v) V2.drew:=by
        have q:=mw.look (a:=9) (b:=n1) kh wfn
        rw [hvi] at q;exact q
       obtain ⟨w1,vv,st,ent,mw1,hg1,hst1⟩:=mw.entry (a:=9) (b:=n1) kl1 kh wfn
       have ent:(Instr.mapEntry 86 (.map (some wb)) (wv 9 n1)).run Tryz.prog V2.drew=.ok (.tuple #[vv,.int .i64 st]) w1:=ent
       have lk1:(Instr.lookup 86 (.map (some wb)) (wv 9 n1) false).run Tryz.prog w1=.ok (.int .i64 v) w1:=by
        have q:=mw1.look (a:=9) (b:=n1) kh wfn
        rw [show ((bumpN n1 n2 n3 G 0).set 9 n1 (some (((bumpN n1 n2 n3 G 0) 9 n1).getD 0)) 9 n1).getD 0=v by unfold Wy.set;rw [if_pos ⟨rfl,rfl⟩,hvi];rfl] at q
        exact q
       obtain ⟨w2,upd,mw2,hg2⟩:=mw1.set (a:=9) (b:=n1) (v:=v+1) kl1 kh wfn (wf64 (by omega) (by omega))
       have ste:(Instr.entryStore 86 (.map (some wb)) (.int .i64 st) (.int .i64 (v+1))).run Tryz.prog w1=.ok () w2:=(hst1 _).trans upd
       have ww:IntKind.i64.wrap (v+1)=v+1:=km1
       have HS2:Hid (MapW w2 wb (n+2*(0+1)) (bumpN n1 n2 n3 G 1)/\Kept (fun j=>j≠wb/\j<u1.heap.size) u1 w2):=by
        refine ⟨?_,KV.trans ((kept_grown hg1 (fun j hj=>⟨hj.1,nla hj.2 KV.size⟩)).trans (kept_grown hg2 (fun j hj=>⟨hj.1,nla hj.2 (Nat.le_trans KV.size hg1.size)⟩)))⟩
        have e:(((bumpN n1 n2 n3 G 0).set 9 n1 (some (((bumpN n1 n2 n3 G 0) 9 n1).getD 0))).set 9 n1 (some (v+1)))=bumpN n1 n2 n3 G 1:=by rw [hvi,<- hv];simp [bumpN,bump,Wy.set]
        rw [e] at mw2;exact mw2
       have p17:V2.cell? ⟨pb,17,none⟩=some (.map (some wb)):=by
        have q:Blk V2.drew pb [.int .i64 par,.int .i64 k,sa,sb,sc,sd,se,sf,sg,sh,si,sj,sk,sl,sm,.slice rp ln rc,.map (some lb),.map (some wb)] 88:=(KV.block pb ⟨HN.out.2.2.2.1,HU.out.2.1.lt⟩).trans HU.out.2.1
        exact Blk.cell (w:=V2.drew) q 17
       have x0:V2.cell? ⟨q,0,none⟩=some (.int .i64 9):=G1.out.2.cell 0
       have x1:V2.cell? ⟨q,1,none⟩=some (.int .i64 n1):=G1.out.2.cell 1
       clear G1 hst mw mw1 mw2 hg1 hg2 hst1 upd KV hv hvi hvb wfn
       go_region
       all_goals
        go_wp2_with fail
        go_roundw
        case rel=>exact ⟨1,by omega,rfl,HS2⟩
        case measure=>decide
     . have G0:Hid (bc wr (wr.alloc (.cells #[.int .i64 18,.int .i64 n2] 145))/\Blk (wr.alloc (.cells #[.int .i64 18,.int .i64 n2] 145)) wr.heap.size [.int .i64 18,.int .i64 n2] 145):=⟨baa,Blk.made _ _ _⟩
       have ix: ∀ w:World,(Instr.index 146 (.agg (so 9 n1 18 n2 27 n3)) (.int .i64 1)).run Tryz.prog w=.ok (.agg #[.int .i64 18,.int .i64 n2]) w:=fun w=>by kernel_rfl
       go_upto_region 14 with fail
       generalize (wr.alloc (.cells #[.int .i64 18,.int .i64 n2] 145))=V2 at G0 |-
       obtain ⟨q,hq⟩: ∃ q,q=wr.heap.size:=⟨_,rfl⟩
       have G1:Hid (bc wr V2/\Blk V2 q [.int .i64 18,.int .i64 n2] 145):=ki1
       rw [<- hq]
       clear hq G0
       have KV:Kept (fun j=>j≠wb/\j<u1.heap.size) u1 V2.drew:=(hst.out.2).trans ((kept_of_below G1.out.1 (fun j hj=>nla hj.2 hst.out.2.size)).trans ⟨rfl,rfl,rfl,Nat.le_refl _,fun _ _=>rfl⟩)
       obtain ⟨v,hv⟩: ∃ v:Int,(G 18 n2).getD 0=v:=⟨_,rfl⟩
       have hvi:((bumpN n1 n2 n3 G 1) 18 n2).getD 0=v:=by rw [<- hv];simp [bumpN,bump,Wy.set]
       have hvb:=HG.out 18 n2
       rw [hv] at hvb
       have mw:MapW V2.drew wb (n+2*1) (bumpN n1 n2 n3 G 1):=hst.out.1.block (G1.out.1.block _ hst.out.1.lt)
       have wfn:=HW.out.2.1
       have lk:(Instr.lookup 86 (.map (some wb)) (wv 18 n2) false).run Tryz.prog V2.drew=.ok (.int .i64 v) V2.drew:=by
        have q:=mw.look (a:=18) (b:=n2) kh wfn
        rw [hvi] at q;exact q
       obtain ⟨w1,vv,st,ent,mw1,hg1,hst1⟩:=mw.entry (a:=18) (b:=n2) kl1 kh wfn
       have ent:(Instr.mapEntry 86 (.map (some wb)) (wv 18 n2)).run Tryz.prog V2.drew=.ok (.tuple #[vv,.int .i64 st]) w1:=ent
       have lk1:(Instr.lookup 86 (.map (some wb)) (wv 18 n2) false).run Tryz.prog w1=.ok (.int .i64 v) w1:=by
        have q:=mw1.look (a:=18) (b:=n2) kh wfn
        rw [show ((bumpN n1 n2 n3 G 1).set 18 n2 (some (((bumpN n1 n2 n3 G 1) 18 n2).getD 0)) 18 n2).getD 0=v by unfold Wy.set;rw [if_pos ⟨rfl,rfl⟩,hvi];rfl] at q
        exact q
       obtain ⟨w2,upd,mw2,hg2⟩:=mw1.set (a:=18) (b:=n2) (v:=v+1) kl1 kh wfn (wf64 (by omega) (by omega))
       have ste:(Instr.entryStore 86 (.map (some wb)) (.int .i64 st) (.int .i64 (v+1))).run Tryz.prog w1=.ok () w2:=(hst1 _).trans upd
       have ww:IntKind.i64.wrap (v+1)=v+1:=km1
       have HS2:Hid (MapW w2 wb (n+2*(1+1)) (bumpN n1 n2 n3 G 2)/\Kept (fun j=>j≠wb/\j<u1.heap.size) u1 w2):=by
        refine ⟨?_,KV.trans ((kept_grown hg1 (fun j hj=>⟨hj.1,nla hj.2 KV.size⟩)).trans (kept_grown hg2 (fun j hj=>⟨hj.1,nla hj.2 (Nat.le_trans KV.size hg1.size)⟩)))⟩
        have e:(((bumpN n1 n2 n3 G 1).set 18 n2 (some (((bumpN n1 n2 n3 G 1) 18 n2).getD 0))).set 18 n2 (some (v+1)))=bumpN n1 n2 n3 G 2:=by rw [hvi,<- hv];simp [bumpN,bump,Wy.set]
        rw [e] at mw2;exact mw2
       have p17:V2.cell? ⟨pb,17,none⟩=some (.map (some wb)):=by
        have q:Blk V2.drew pb [.int .i64 par,.int .i64 k,sa,sb,sc,sd,se,sf,sg,sh,si,sj,sk,sl,sm,.slice rp ln rc,.map (some lb),.map (some wb)] 88:=(KV.block pb ⟨HN.out.2.2.2.1,HU.out.2.1.lt⟩).trans HU.out.2.1
        exact Blk.cell (w:=V2.drew) q 17
       have x0:V2.cell? ⟨q,0,none⟩=some (.int .i64 18):=G1.out.2.cell 0
       have x1:V2.cell? ⟨q,1,none⟩=some (.int .i64 n2):=G1.out.2.cell 1
       clear G1 hst mw mw1 mw2 hg1 hg2 hst1 upd KV hv hvi hvb wfn
       go_region
       all_goals
        go_wp2_with fail
        go_roundw
        case rel=>exact ⟨2,by omega,rfl,HS2⟩
        case measure=>decide
     . have G0:Hid (bc wr (wr.alloc (.cells #[.int .i64 27,.int .i64 n3] 145))/\Blk (wr.alloc (.cells #[.int .i64 27,.int .i64 n3] 145)) wr.heap.size [.int .i64 27,.int .i64 n3] 145):=⟨baa,Blk.made _ _ _⟩
       have ix: ∀ w:World,(Instr.index 146 (.agg (so 9 n1 18 n2 27 n3)) (.int .i64 2)).run Tryz.prog w=.ok (.agg #[.int .i64 27,.int .i64 n3]) w:=fun w=>by kernel_rfl
       go_upto_region 14 with fail
       generalize (wr.alloc (.cells #[.int .i64 27,.int .i64 n3] 145))=V2 at G0 |-
       obtain ⟨q,hq⟩: ∃ q,q=wr.heap.size:=⟨_,rfl⟩
       have G1:Hid (bc wr V2/\Blk V2 q [.int .i64 27,.int .i64 n3] 145):=ki1
       rw [<- hq]
       clear hq G0
       have KV:Kept (fun j=>j≠wb/\j<u1.heap.size) u1 V2.drew:=(hst.out.2).trans ((kept_of_below G1.out.1 (fun j hj=>nla hj.2 hst.out.2.size)).trans ⟨rfl,rfl,rfl,Nat.le_refl _,fun _ _=>rfl⟩)
       obtain ⟨v,hv⟩: ∃ v:Int,(G 27 n3).getD 0=v:=⟨_,rfl⟩
       have hvi:((bumpN n1 n2 n3 G 2) 27 n3).getD 0=v:=by rw [<- hv];simp [bumpN,bump,Wy.set]
       have hvb:=HG.out 27 n3
       rw [hv] at hvb
       have mw:MapW V2.drew wb (n+2*2) (bumpN n1 n2 n3 G 2):=hst.out.1.block (G1.out.1.block _ hst.out.1.lt)
       have wfn:=HW.out.2.2
       have lk:(Instr.lookup 86 (.map (some wb)) (wv 27 n3) false).run Tryz.prog V2.drew=.ok (.int .i64 v) V2.drew:=by
        have q:=mw.look (a:=27) (b:=n3) kh wfn
        rw [hvi] at q;exact q
       obtain ⟨w1,vv,st,ent,mw1,hg1,hst1⟩:=mw.entry (a:=27) (b:=n3) kl1 kh wfn
       have ent:(Instr.mapEntry 86 (.map (some wb)) (wv 27 n3)).run Tryz.prog V2.drew=.ok (.tuple #[vv,.int .i64 st]) w1:=ent
       have lk1:(Instr.lookup 86 (.map (some wb)) (wv 27 n3) false).run Tryz.prog w1=.ok (.int .i64 v) w1:=by
        have q:=mw1.look (a:=27) (b:=n3) kh wfn
        rw [show ((bumpN n1 n2 n3 G 2).set 27 n3 (some (((bumpN n1 n2 n3 G 2) 27 n3).getD 0)) 27 n3).getD 0=v by unfold Wy.set;rw [if_pos ⟨rfl,rfl⟩,hvi];rfl] at q
        exact q
       obtain ⟨w2,upd,mw2,hg2⟩:=mw1.set (a:=27) (b:=n3) (v:=v+1) kl1 kh wfn (wf64 (by omega) (by omega))
       have ste:(Instr.entryStore 86 (.map (some wb)) (.int .i64 st) (.int .i64 (v+1))).run Tryz.prog w1=.ok () w2:=(hst1 _).trans upd
       have ww:IntKind.i64.wrap (v+1)=v+1:=km1
       have HS2:Hid (MapW w2 wb (n+2*(2+1)) (bumpN n1 n2 n3 G 3)/\Kept (fun j=>j≠wb/\j<u1.heap.size) u1 w2):=by
        refine ⟨?_,KV.trans ((kept_grown hg1 (fun j hj=>⟨hj.1,nla hj.2 KV.size⟩)).trans (kept_grown hg2 (fun j hj=>⟨hj.1,nla hj.2 (Nat.le_trans KV.size hg1.size)⟩)))⟩
        have e:(((bumpN n1 n2 n3 G 2).set 27 n3 (some (((bumpN n1 n2 n3 G 2) 27 n3).getD 0))).set 27 n3 (some (v+1)))=bumpN n1 n2 n3 G 3:=by rw [hvi,<- hv];simp [bumpN,bump,Wy.set]
        rw [e] at mw2;exact mw2
       have p17:V2.cell? ⟨pb,17,none⟩=some (.map (some wb)):=by
        have q:Blk V2.drew pb [.int .i64 par,.int .i64 k,sa,sb,sc,sd,se,sf,sg,sh,si,sj,sk,sl,sm,.slice rp ln rc,.map (some lb),.map (some wb)] 88:=(KV.block pb ⟨HN.out.2.2.2.1,HU.out.2.1.lt⟩).trans HU.out.2.1
        exact Blk.cell (w:=V2.drew) q 17
       have x0:V2.cell? ⟨q,0,none⟩=some (.int .i64 27):=G1.out.2.cell 0
       have x1:V2.cell? ⟨q,1,none⟩=some (.int .i64 n3):=G1.out.2.cell 1
       clear G1 hst mw mw1 mw2 hg1 hg2 hst1 upd KV hv hvi hvb wfn
       go_region
       all_goals
        go_wp2_with fail
        go_roundw
        case rel=>exact ⟨3,by omega,rfl,HS2⟩
        case measure=>decide
     . have kk:=hst.out.2
       have p16:wr.cell? ⟨pb,16,none⟩=some (.map (some lb)):=by
        have q:Blk wr pb [.int .i64 par,.int .i64 k,sa,sb,sc,sd,se,sf,sg,sh,si,sj,sk,sl,sm,.slice rp ln rc,.map (some lb),.map (some wb)] 88:=(kk.block pb ⟨HN.out.2.2.2.1,HU.out.2.1.lt⟩).trans HU.out.2.1
        exact q.cell 16
       have ml:MapL wr lb n F:=HU.out.2.2.1.block (kk.block lb ⟨HN.out.2.2.2.2.2.1,HU.out.2.2.1.lt⟩)
       obtain ⟨w9,upd,ml9,hg9⟩:=ml.set (k:=p) kl1 (wf64 (by have:=HP.out;omega) (by have:=HP.out;omega)) c
       have upd:(Instr.mapUpdate 85 (.map (some lb)) (.int .i64 p) (.pointer (some ⟨c,0,none⟩))).run Tryz.prog wr=.ok () w9:=upd
       have HE:Hid (Qo.IsTree w9 tb (Qo.chargeT T k (C 3))/\MapL w9 lb (n+1) (put F p (some c))/\MapW w9 wb (n+6) (bumpN n1 n2 n3 G 3)/\Kept (fun j=>j≠tb/\j≠lb/\j≠wb/\j<W.heap.size) W w9):=by
        obtain ⟨e1,e2,e3,e4,e5,e6,e7,e8,e9⟩:=HN.out
        have tl:=E1.out.1.2.2
        have lw:=hst.out.1.lt
        have sz:=kk.size
        have k9: ∀ j,j<wr.heap.size->j≠lb->w9.heap[j]? =wr.heap[j]? :=fun j hj hne=>hg9.block j hj (fun e=>hne (sia e))
        refine ⟨tree_block E1.out.1 (Nat.le_trans sz hg9.size) ((k9 tb (nla tl sz) (fun e=>e5 e.symm)).trans (kk.block tb ⟨fun e=>e7 e.symm,tl⟩)),ml9,hst.out.1.block (k9 wb lw (fun e=>e6 e.symm)),?_⟩
        refine (E1.out.2.sub (fun j hj=>⟨hj.1,hj.2.2.2⟩)).trans ((kk.sub (fun j hj=>⟨hj.2.2.1,nla hj.2.2.2 E1.out.2.size⟩)).trans (kept_grown hg9 (fun j hj=>⟨hj.2.1,nla hj.2.2.2 (Nat.le_trans E1.out.2.size sz)⟩)))
       clear kk ml ml9 hg9 hst
       go_wp2_with fail
       go_returns
       exact ⟨rfl,HE.out⟩
theorem leadK_no (mb tq tb pm pb lb wb c:Nat) (par k kd b0:Int) (hkd:Kd kd b0) (sa sb sc sd se sf sg sh si sj sk sl sm:Value) (rp:Option Addr) (ln rc n:Nat) (T:Nat->Qo.Nd) (root:Int) (F:Int->Option Nat) (G:Wy) (p:Int) (p0:0<=p) (p1:p<34359738368) (hn:n<1000000000000) (W:World)
 (hM:Md W mb tq tb pm) (hP:Blk W pb [.int .i64 par,.int .i64 k,sa,sb,sc,sd,se,sf,sg,sh,si,sj,sk,sl,sm,.slice rp ln rc,.map (some lb),.map (some wb)] 88) (hT:Qo.IsTree W tb T) (hL:MapL W lb n F) (hW:MapW W wb n G) (hG:Qo.Good T root) (E:Int) (hmay:Qo.mayN T k (costK b0 (p / 512) (p / 262144) (p / 134217728) G 3)=E) (hE:E≠0)
 (hGb: ∀ a b,0<=(G a b).getD 0/\(G a b).getD 0<=1000000000000) (hne:mb≠wb/\mb≠tb/\pb≠tb/\pb≠wb/\lb≠tb/\lb≠wb/\wb≠tb/\mb≠lb/\pb≠lb) :
 Calls Tryz.prog 56 #[pp mb,pp pb,.int .i64 p,.int .i64 kd,pp c] W fun e w'=>e=.returned (.int .i64 E)/\Qo.IsTree w' tb T/\Kept (fun j=>j≠tb/\j<W.heap.size) W w':=by
 obtain ⟨n1,h1⟩: ∃ n1:Int,p / 512=n1:=⟨_,rfl⟩
 obtain ⟨n2,h2⟩: ∃ n2:Int,p / 262144=n2:=⟨_,rfl⟩
 obtain ⟨n3,h3⟩: ∃ n3:Int,p / 134217728=n3:=⟨_,rfl⟩
 have WC:Hid (∀ w:World,Calls Tryz.prog 73 #[.int .i64 p] w (re (.agg (so 9 n1 18 n2 27 n3)) w)):=fun w=>by
  have q:=ways_to p p0 p1 w
  rw [h1,h2,h3] at q;exact q
 rw [h1,h2,h3] at hmay
 obtain ⟨C,hC⟩: ∃ C:Nat->Int,C=costK b0 n1 n2 n3 G:=⟨_,rfl⟩
 rw [<- hC] at hmay
 have HC:Hid ((∀ i:Nat,0<=C i/\C i<=1+i)/\ ∀ i,i<3->C (i+1)=C i+zz (wayAt n1 n2 n3 G i)):=by rw [hC];exact ⟨fun i=>costK_bd n1 n2 n3 G hkd.bd i,fun i _=>rfl⟩
 have c0:C 0=b0:=by rw [hC];rfl
 have HW:Hid ((Lit.int .i64 n1).wf=true/\(Lit.int .i64 n2).wf=true/\(Lit.int .i64 n3).wf=true):=⟨wf64 (by omega) (by omega),wf64 (by omega) (by omega),wf64 (by omega) (by omega)⟩
 have OC:Hid (∀ w:World,_):=fun w=>own_costK hkd w
 have wkd:=hkd.wf
 clear hkd
 have HS:Hid (Md W mb tq tb pm/\Blk W pb [.int .i64 par,.int .i64 k,sa,sb,sc,sd,se,sf,sg,sh,si,sj,sk,sl,sm,.slice rp ln rc,.map (some lb),.map (some wb)] 88/\Qo.IsTree W tb T/\MapL W lb n F/\MapW W wb n G):=⟨hM,hP,hT,hL,hW⟩
 have HN:Hid (mb≠wb/\mb≠tb/\pb≠tb/\pb≠wb/\lb≠tb/\lb≠wb/\wb≠tb/\mb≠lb/\pb≠lb):=hne
 have CC:Hid (∀ w:World,bc W w->Calls Tryz.prog 14 #[pp tb,.int .i64 k,.int .i64 (C 3)] w fun e w'=>e=.returned (.int .i64 E)/\Qo.IsTree w' tb T/\w.grownBy w' (some tb)):=fun w hb=>by
  have q:=Qo.charge_any tb T hG.okT k (C 3) w (hT.below hb)
  rw [show Qo.chargeT T k (C 3)=T by unfold Qo.chargeT;rw [if_neg (by rw [hmay];exact hE)],hmay] at q;exact q
 have HG:Hid (∀ a b,0<=(G a b).getD 0/\(G a b).getD 0<=1000000000000):=hGb
 have HP:Hid (0<=p/\p<34359738368/\n<1000000000000):=⟨p0,p1,hn⟩
 have e1:decide (E=0)=false:=decide_eq_false hE
 have e2:(E==0)=false:=by simp [hE]
 clear hM hP hT hL hW hG hmay hGb hne h1 h2 h3 hC p0 p1 hn
 go_enter Tryz.func56,Tryz.ntmps56
 go_wp2_with fail
 refine Calls.mono (OC.out _) ?_
 rintro e w' ⟨rfl,hu⟩
 have hu2:=hu.symm
 subst hu2
 clear hu OC
 go_wp2_with fail
 refine Calls.mono (WC.out _) ?_
 rintro e V1 ⟨rfl,hb1⟩
 have B1:Hid (bc W V1):=hb1
 clear hb1
 have HC0:Hid (C 0=b0):=c0
 clear c0
 go_wp2_with fail
 go_loopw [11,13,21] (fun cv _ jv V=> ∃ i:Nat,i<=3/\cv=.int .i64 (C i)/\jv=.int .i64 (i:Nat)/\Hid (bc W V)) (fun _ _ jv _=>(3-intOf jv).toNat)
 case atStart=>exact ⟨0,by omega,by rw [HC0.out],rfl,B1⟩
 case round =>
  obtain ⟨i,hi,rfl,rfl,hb⟩:=hrel
  clear B1 HC0
  rcases (show i=0\/i=1\/i=2\/i=3 by omega) with rfl | rfl | rfl | rfl
  . have s1:(wr.alloc (.cells #[.int .i64 9,.int .i64 n1] 145)).heap.size=wr.heap.size+1:=World.size_alloc _ _
    have G0:Hid (bc W (wr.alloc (.cells #[.int .i64 9,.int .i64 n1] 145))/\Blk (wr.alloc (.cells #[.int .i64 9,.int .i64 n1] 145)) wr.heap.size [.int .i64 9,.int .i64 n1] 145):=⟨below_then hb.out baa,Blk.made _ _ _⟩
    clear s1
    have ix: ∀ w:World,(Instr.index 146 (.agg (so 9 n1 18 n2 27 n3)) (.int .i64 0)).run Tryz.prog w=.ok (.agg #[.int .i64 9,.int .i64 n1]) w:=fun w=>by kernel_rfl
    go_upto_region 5 with fail
    generalize (wr.alloc (.cells #[.int .i64 9,.int .i64 n1] 145))=V2 at G0 |-
    obtain ⟨q,hq⟩: ∃ q,q=wr.heap.size:=⟨_,rfl⟩
    have G1:Hid (bc W V2/\Blk V2 q [.int .i64 9,.int .i64 n1] 145):=ki1
    rw [<- hq]
    clear hq G0 hb
    obtain ⟨v,hv⟩: ∃ v:Int,(G 9 n1).getD 0=v:=⟨_,rfl⟩
    have lk:(Instr.lookup 86 (.map (some wb)) (wv 9 n1) false).run Tryz.prog V2.drew=.ok (.int .i64 v) V2.drew:=by
     have q:=((HS.out.2.2.2.2).block (w':=V2.drew) (G1.out.1.block _ HS.out.2.2.2.2.lt)).look (a:=9) (b:=n1) kh HW.out.1
     rw [hv] at q;exact q
    have p17:V2.cell? ⟨pb,17,none⟩=some (.map (some wb)):=(HS.out.2.1.below G1.out.1).cell 17
    have x0:V2.cell? ⟨q,0,none⟩=some (.int .i64 9):=G1.out.2.cell 0
    have x1:V2.cell? ⟨q,1,none⟩=some (.int .i64 n1):=G1.out.2.cell 1
    have HB:Hid (bc W V2.drew):=below_drew G1.out.1
    clear G1
    by_cases cv:v=0
    . have d1:decide (v=0)=true:=by simp [cv]
      have d2:(v==0)=true:=by simp [cv]
      have cw:IntKind.i64.wrap (C 0+1)=C 1:=by
       have e:C 1=C 0+1:=by rw [HC.out.2 0 (by omega)];show C 0+zz (G 9 n1)=_;unfold zz;rw [hv,if_pos cv]
       have:=HC.out.1 0
       rw [e];simp only [IntKind.wrap_i64];omega
      clear hv cv
      go_region
      go_wp2_with fail
      go_roundw
      case rel=>exact ⟨1,by omega,rfl,rfl,HB⟩
      case measure=>decide
    . have d1:decide (v=0)=false:=by simp [cv]
      have d2:(v==0)=false:=by simp [cv]
      have ce:C 0=C 1:=by rw [HC.out.2 0 (by omega)];show C 0=C 0+zz (G 9 n1);unfold zz;rw [hv,if_neg cv];omega
      clear hv cv
      go_region
      go_wp2_with fail
      go_roundw
      case rel=>exact ⟨1,by omega,by rw [ce],rfl,HB⟩
      case measure=>decide
  . have s1:(wr.alloc (.cells #[.int .i64 18,.int .i64 n2] 145)).heap.size=wr.heap.size+1:=World.size_alloc _ _
    have G0:Hid (bc W (wr.alloc (.cells #[.int .i64 18,.int .i64 n2] 145))/\Blk (wr.alloc (.cells #[.int .i64 18,.int .i64 n2] 145)) wr.heap.size [.int .i64 18,.int .i64 n2] 145):=⟨below_then hb.out baa,Blk.made _ _ _⟩
    clear s1
    have ix: ∀ w:World,(Instr.index 146 (.agg (so 9 n1 18 n2 27 n3)) (.int .i64 1)).run Tryz.prog w=.ok (.agg #[.int .i64 18,.int .i64 n2]) w:=fun w=>by kernel_rfl
    go_upto_region 5 with fail
    generalize (wr.alloc (.cells #[.int .i64 18,.int .i64 n2] 145))=V2 at G0 |-
    obtain ⟨q,hq⟩: ∃ q,q=wr.heap.size:=⟨_,rfl⟩
    have G1:Hid (bc W V2/\Blk V2 q [.int .i64 18,.int .i64 n2] 145):=ki1
    rw [<- hq]
    clear hq G0 hb
    obtain ⟨v,hv⟩: ∃ v:Int,(G 18 n2).getD 0=v:=⟨_,rfl⟩
    have lk:(Instr.lookup 86 (.map (some wb)) (wv 18 n2) false).run Tryz.prog V2.drew=.ok (.int .i64 v) V2.drew:=by
     have q:=((HS.out.2.2.2.2).block (w':=V2.drew) (G1.out.1.block _ HS.out.2.2.2.2.lt)).look (a:=18) (b:=n2) kh HW.out.2.1
     rw [hv] at q;exact q
    have p17:V2.cell? ⟨pb,17,none⟩=some (.map (some wb)):=(HS.out.2.1.below G1.out.1).cell 17
    have x0:V2.cell? ⟨q,0,none⟩=some (.int .i64 18):=G1.out.2.cell 0
    have x1:V2.cell? ⟨q,1,none⟩=some (.int .i64 n2):=G1.out.2.cell 1
    have HB:Hid (bc W V2.drew):=below_drew G1.out.1
    clear G1
    by_cases cv:v=0
    . have d1:decide (v=0)=true:=by simp [cv]
      have d2:(v==0)=true:=by simp [cv]
      have cw:IntKind.i64.wrap (C 1+1)=C 2:=by
       have e:C 2=C 1+1:=by rw [HC.out.2 1 (by omega)];show C 1+zz (G 18 n2)=_;unfold zz;rw [hv,if_pos cv]
       have:=HC.out.1 1
       rw [e];simp only [IntKind.wrap_i64];omega
      clear hv cv
      go_region
      go_wp2_with fail
      go_roundw
      case rel=>exact ⟨2,by omega,rfl,rfl,HB⟩
      case measure=>decide
    . have d1:decide (v=0)=false:=by simp [cv]
      have d2:(v==0)=false:=by simp [cv]
      have ce:C 1=C 2:=by rw [HC.out.2 1 (by omega)];show C 1=C 1+zz (G 18 n2);unfold zz;rw [hv,if_neg cv];omega
      clear hv cv
      go_region
      go_wp2_with fail
      go_roundw
      case rel=>exact ⟨2,by omega,by rw [ce],rfl,HB⟩
      case measure=>decide
  . have s1:(wr.alloc (.cells #[.int .i64 27,.int .i64 n3] 145)).heap.size=wr.heap.size+1:=World.size_alloc _ _
    have G0:Hid (bc W (wr.alloc (.cells #[.int .i64 27,.int .i64 n3] 145))/\Blk (wr.alloc (.cells #[.int .i64 27,.int .i64 n3] 145)) wr.heap.size [.int .i64 27,.int .i64 n3] 145):=⟨below_then hb.out baa,Blk.made _ _ _⟩
    clear s1
    have ix: ∀ w:World,(Instr.index 146 (.agg (so 9 n1 18 n2 27 n3)) (.int .i64 2)).run Tryz.prog w=.ok (.agg #[.int .i64 27,.int .i64 n3]) w:=fun w=>by kernel_rfl
    go_upto_region 5 with fail
    generalize (wr.alloc (.cells #[.int .i64 27,.int .i64 n3] 145))=V2 at G0 |-
    obtain ⟨q,hq⟩: ∃ q,q=wr.heap.size:=⟨_,rfl⟩
    have G1:Hid (bc W V2/\Blk V2 q [.int .i64 27,.int .i64 n3] 145):=ki1
    rw [<- hq]
    clear hq G0 hb
    obtain ⟨v,hv⟩: ∃ v:Int,(G 27 n3).getD 0=v:=⟨_,rfl⟩
    have lk:(Instr.lookup 86 (.map (some wb)) (wv 27 n3) false).run Tryz.prog V2.drew=.ok (.int .i64 v) V2.drew:=by
     have q:=((HS.out.2.2.2.2).block (w':=V2.drew) (G1.out.1.block _ HS.out.2.2.2.2.lt)).look (a:=27) (b:=n3) kh HW.out.2.2
     rw [hv] at q;exact q
    have p17:V2.cell? ⟨pb,17,none⟩=some (.map (some wb)):=(HS.out.2.1.below G1.out.1).cell 17
    have x0:V2.cell? ⟨q,0,none⟩=some (.int .i64 27):=G1.out.2.cell 0
    have x1:V2.cell? ⟨q,1,none⟩=some (.int .i64 n3):=G1.out.2.cell 1
    have HB:Hid (bc W V2.drew):=below_drew G1.out.1
    clear G1
    by_cases cv:v=0
    . have d1:decide (v=0)=true:=by simp [cv]
      have d2:(v==0)=true:=by simp [cv]
      have cw:IntKind.i64.wrap (C 2+1)=C 3:=by
       have e:C 3=C 2+1:=by rw [HC.out.2 2 (by omega)];show C 2+zz (G 27 n3)=_;unfold zz;rw [hv,if_pos cv]
       have:=HC.out.1 2
       rw [e];simp only [IntKind.wrap_i64];omega
      clear hv cv
      go_region
      go_wp2_with fail
      go_roundw
      case rel=>exact ⟨3,by omega,rfl,rfl,HB⟩
      case measure=>decide
    . have d1:decide (v=0)=false:=by simp [cv]
      have d2:(v==0)=false:=by simp [cv]
      have ce:C 2=C 3:=by rw [HC.out.2 2 (by omega)];show C 2=C 2+zz (G 27 n3);unfold zz;rw [hv,if_neg cv];omega
      clear hv cv
      go_region
      go_wp2_with fail
      go_roundw
      case rel=>exact ⟨3,by omega,by rw [ce],rfl,HB⟩
      case measure=>decide
  . clear hi
    have BS:Hid (Md wr mb tq tb pm/\Blk wr pb [.int .i64 par,.int .i64 k,sa,sb,sc,sd,se,sf,sg,sh,si,sj,sk,sl,sm,.slice rp ln rc,.map (some lb),.map (some wb)] 88):=⟨HS.out.1.below hb.out,HS.out.2.1.below hb.out⟩
    go_upto_region 8 with fail
    refine hda (fun cw=>Md cw mb tq tb pm/\Blk cw pb [.int .i64 par,.int .i64 k,sa,sb,sc,sd,se,sf,sg,sh,si,sj,sk,sl,sm,.slice rp ln rc,.map (some lb),.map (some wb)] 88) BS.out fun hHeld=> ?_
    have KU:Hid (bc W wr.drew):=below_drew hb.out
    clear BS hb
    generalize wr.drew=U at hHeld KU |-
    refine tma 0 34 rfl ?_
    refine tma 1 35 rfl ?_
    refine tma 2 36 rfl ?_
    refine tla 3 37 (pp tb) rfl ?_ ?_
    . exact kj1
    refine tma 4 38 rfl ?_
    refine tma 5 39 rfl ?_
    refine tma 6 40 rfl ?_
    refine tla 7 41 (.int .i64 k) rfl ?_ ?_
    . exact kk1
    refine tma 8 42 rfl ?_
    refine rda 9 ⟨some 43,_,_,_,_,none⟩ rfl fun K hK=> ?_
    go_simp
    go_wp2_with (go_at_call 14;refine Calls.mono (CC.out _ KU.out) ?_;rintro e u1 ⟨rfl,hT1,hg1⟩)
    have E1:Hid (Qo.IsTree u1 tb T/\Kept (fun j=>j≠tb/\j<W.heap.size) W u1):=⟨hT1,Kept.trans (kept_of_below KU.out (fun j hj=>hj.2)) (kept_grown hg1 (fun j hj=>⟨hj.1,nla hj.2 KU.out.size⟩))⟩
    have NE:=HN.out
    have hMb:Md u1 mb tq tb pm:=hHeld.1.block hg1.size (hg1.block _ hHeld.1.2.2.2 (fun e=>NE.2.1 (sia e)))
    have hPb:Blk u1 pb [.int .i64 par,.int .i64 k,sa,sb,sc,sd,se,sf,sg,sh,si,sj,sk,sl,sm,.slice rp ln rc,.map (some lb),.map (some wb)] 88:=(hg1.block _ hHeld.2.lt (fun e=>NE.2.2.1 (sia e))).trans hHeld.2
    refine hK.out _ _ ⟨hMb,hPb⟩ ?_
    clear hK K hHeld hT1 hg1 KU NE hMb hPb
    intro hHeld
    try simp only [Act.put,zaa,zba,zca]
    refine tma 10 14 rfl ?_
    clear hHeld
    refine wpAnyH_done kc ?_ _
    refine NoPanic.normal ?_
    go_wp2_with fail
    go_returns
    exact ⟨rfl,E1.out⟩
theorem MapF.del {w:World} {b n:Nat} {f:Int->Option Nat} (h:MapF w b n f) {k:Int} (hk:(Lit.int .i64 k).wf=true) (ty:TypeId) :
 ∃ w',(Builtin.delete_ #[53,3] ty #[.map (some b),.int .i64 k]).run Tryz.prog w=.ok (.tuple #[]) w'/\MapF w' b n (put f k none)/\w.grownBy w' (some b):=by
 obtain ⟨D,hown,hD⟩:=h
 obtain ⟨w',hrun,hown',ht⟩:=hown.drop keyLaw Tryz.underlying53 (keyOf_int_mk Tryz.underlying3 hk) ty
 refine ⟨w',hrun,⟨_,hown',?_⟩,ht.grown⟩
 intro j
 unfold put
 by_cases e:j=k
 . subst e
   rw [if_pos rfl]
   exact Maps.atKey_del_same _
 . have ne:(Lit.int .i64 j)≠ .int .i64 k:=by intro q;cases q;exact e rfl
   rw [if_neg e,Maps.atKey_del_other ne]
   exact hD j
theorem MapL.del {w:World} {b n:Nat} {f:Int->Option Nat} (h:MapL w b n f) {k:Int} (hk:(Lit.int .i64 k).wf=true) (ty:TypeId) :
 ∃ w',(Builtin.delete_ #[85,3] ty #[.map (some b),.int .i64 k]).run Tryz.prog w=.ok (.tuple #[]) w'/\MapL w' b n (put f k none)/\w.grownBy w' (some b):=by
 obtain ⟨D,hown,hD⟩:=h
 obtain ⟨w',hrun,hown',ht⟩:=hown.drop keyLaw Tryz.underlying85 (keyOf_int_mk Tryz.underlying3 hk) ty
 refine ⟨w',hrun,⟨_,hown',?_⟩,ht.grown⟩
 intro j
 unfold put
 by_cases e:j=k
 . subst e
   rw [if_pos rfl]
   exact Maps.atKey_del_same _
 . have ne:(Lit.int .i64 j)≠ .int .i64 k:=by intro q;cases q;exact e rfl
   rw [if_neg e,Maps.atKey_del_other ne]
   exact hD j
theorem MapW.del {w:World} {m n:Nat} {f:Wy} (h:MapW w m n f) {a b:Int} (ha:(Lit.int .i64 a).wf=true) (hb:(Lit.int .i64 b).wf=true) (ty:TypeId) :
 ∃ w',(Builtin.delete_ #[86,145] ty #[.map (some m),wv a b]).run Tryz.prog w=.ok (.tuple #[]) w'/\MapW w' m n (f.set a b none)/\w.grownBy w' (some m):=by
 obtain ⟨D,hown,hD⟩:=h
 obtain ⟨w',hrun,hown',ht⟩:=hown.drop keyWay Tryz.underlying86 (key_way ha hb) ty
 refine ⟨w',hrun,⟨_,hown',?_⟩,ht.grown⟩
 intro x y hx hy
 unfold Wy.set
 by_cases e:x=a/\y=b
 . obtain ⟨rfl,rfl⟩:=e
   rw [if_pos ⟨rfl,rfl⟩]
   exact ⟨Maps.has_del_same,Maps.atKey_del_same _⟩
 . have ne:kw x y≠kw a b:=fun q=>e (kw_inj hx hy ha hb q)
   rw [if_neg e,Maps.has_del_other ne,Maps.atKey_del_other ne]
   exact hD x y hx hy
def yy (o:Option Int):Int:=if o.getD 0=1 then 1 else 0
theorem yy_bd (o:Option Int):0<=yy o/\yy o<=1:=by unfold yy;split <;> omega
def costD (b0 n1 n2 n3:Int) (G:Wy):Nat->Int
 | 0 => b0
 | i + 1 => costD b0 n1 n2 n3 G i + yy (wayAt n1 n2 n3 G i)
theorem costD_bd {b0:Int} (n1 n2 n3:Int) (G:Wy) (hb:0<=b0/\b0<=1): ∀ i,0<=costD b0 n1 n2 n3 G i/\costD b0 n1 n2 n3 G i<=1+i
 | 0 => by simp only [costD]; omega
 | i + 1 => by
  have h:=costD_bd n1 n2 n3 G hb i
  have z:=yy_bd (wayAt n1 n2 n3 G i)
  simp only [costD]
  omega
def sink (G:Wy) (a b:Int):Wy:=if (G a b).getD 0=1 then G.set a b none else G.set a b (some ((G a b).getD 0-1))
def sinkN (n1 n2 n3:Int) (G:Wy):Nat->Wy
 | 0 => G
 | 1 => sink G 9 n1
 | 2 => sink (sink G 9 n1) 18 n2
 | _ => sink (sink (sink G 9 n1) 18 n2) 27 n3
theorem set_set (G:Wy) (a b:Int) (o o':Option Int):(G.set a b o).set a b o'=G.set a b o':=by
 funext x y;unfold Wy.set;split <;> rfl
theorem sink_other (G:Wy) (a b x y:Int) (h:x≠a):sink G a b x y=G x y:=by
 unfold sink
 split <;> (unfold Wy.set;rw [if_neg (fun e=>h e.1)])
theorem kept_drew (K:Nat->Prop) (w:World):Kept K w w.drew:=⟨rfl,rfl,rfl,Nat.le_refl _,fun _ _=>rfl⟩
theorem grown_belowY {w w':World} {r:Option Nat} (h:bc w w'):w.grownBy w' r:=⟨h.os,h.tape,h.output,h.size,fun k hk _=>h.block k hk⟩
theorem unleadK (mb tq tb pm pb lb wb:Nat) (par k kd b0:Int) (hkd:Kd kd b0) (sa sb sc sd se sf sg sh si sj sk sl sm:Value) (rp:Option Addr) (ln rc n:Nat) (T:Nat->Qo.Nd) (root:Int) (F:Int->Option Nat) (G:Wy) (p:Int) (p0:0<=p) (p1:p<34359738368) (hn:n<1000000000000) (W:World)
 (hM:Md W mb tq tb pm) (hP:Blk W pb [.int .i64 par,.int .i64 k,sa,sb,sc,sd,se,sf,sg,sh,si,sj,sk,sl,sm,.slice rp ln rc,.map (some lb),.map (some wb)] 88) (hT:Qo.IsTree W tb T) (hL:MapL W lb n F) (hW:MapW W wb n G) (hG:Qo.Good T root)
 (hGb: ∀ a b,0<=(G a b).getD 0/\(G a b).getD 0<=1000000000000) (hne:mb≠wb/\pb≠wb/\mb≠tb/\pb≠tb/\lb≠tb/\lb≠wb/\wb≠tb/\mb≠lb/\pb≠lb) :
 Calls Tryz.prog 81 #[pp mb,pp pb,.int .i64 p,.int .i64 kd] W fun e w'=>e=.returned (.tuple #[])/\Qo.IsTree w' tb (Qo.creditT T k (costD b0 (p / 512) (p / 262144) (p / 134217728) G 3))/\MapL w' lb n (put F p none)/\MapW w' wb (n+6) (sinkN (p / 512) (p / 262144) (p / 134217728) G 3)/\Kept (fun j=>j≠tb/\j≠lb/\j≠wb/\j<W.heap.size) W w':=by
 obtain ⟨n1,h1⟩: ∃ n1:Int,p / 512=n1:=⟨_,rfl⟩
 obtain ⟨n2,h2⟩: ∃ n2:Int,p / 262144=n2:=⟨_,rfl⟩
 obtain ⟨n3,h3⟩: ∃ n3:Int,p / 134217728=n3:=⟨_,rfl⟩
 have WC:Hid (∀ w:World,Calls Tryz.prog 73 #[.int .i64 p] w (re (.agg (so 9 n1 18 n2 27 n3)) w)):=fun w=>by
  have q:=ways_to p p0 p1 w
  rw [h1,h2,h3] at q;exact q
 rw [h1,h2,h3]
 obtain ⟨C,hC⟩: ∃ C:Nat->Int,C=costD b0 n1 n2 n3 G:=⟨_,rfl⟩
 rw [<- hC]
 have HC:Hid ((∀ i:Nat,0<=C i/\C i<=1+i)/\ ∀ i,i<3->C (i+1)=C i+yy (wayAt n1 n2 n3 G i)):=by rw [hC];exact ⟨fun i=>costD_bd n1 n2 n3 G hkd.bd i,fun i _=>rfl⟩
 have c0:C 0=b0:=by rw [hC];rfl
 have HW:Hid ((Lit.int .i64 n1).wf=true/\(Lit.int .i64 n2).wf=true/\(Lit.int .i64 n3).wf=true):=⟨wf64 (by omega) (by omega),wf64 (by omega) (by omega),wf64 (by omega) (by omega)⟩
 have OC:Hid (∀ w:World,_):=fun w=>own_costK hkd w
 have wkd:=hkd.wf
 clear hkd
 have HS:Hid (Md W mb tq tb pm/\Blk W pb [.int .i64 par,.int .i64 k,sa,sb,sc,sd,se,sf,sg,sh,si,sj,sk,sl,sm,.slice rp ln rc,.map (some lb),.map (some wb)] 88/\Qo.IsTree W tb T/\MapL W lb n F/\MapW W wb n G):=⟨hM,hP,hT,hL,hW⟩
 have HN:Hid (mb≠wb/\pb≠wb/\mb≠tb/\pb≠tb/\lb≠tb/\lb≠wb/\wb≠tb/\mb≠lb/\pb≠lb):=hne
 have CC:Hid (∀ w:World,Qo.IsTree w tb T->Calls Tryz.prog 101 #[pp tb,.int .i64 k,.int .i64 (C 3)] w fun e w'=>e=.returned (.int .i64 (Qo.creditN T k (C 3)))/\Qo.IsTree w' tb (Qo.creditT T k (C 3))/\w.grownBy w' (some tb)):=fun w hb=>Qo.credit_any tb T hG.okT k (C 3) w hb
 have HG:Hid (∀ a b,0<=(G a b).getD 0/\(G a b).getD 0<=1000000000000):=hGb
 have HP:Hid (0<=p/\p<34359738368/\n<1000000000000):=⟨p0,p1,hn⟩
 clear hM hP hT hL hW hG hGb hne h1 h2 h3 hC p0 p1 hn
 go_enter Tryz.func81,Tryz.ntmps81
 go_wp2_with fail
 refine Calls.mono (OC.out _) ?_
 rintro e w' ⟨rfl,hu⟩
 have hu2:=hu.symm
 subst hu2
 clear hu OC
 go_wp2_with fail
 refine Calls.mono (WC.out _) ?_
 rintro e V1 ⟨rfl,hb1⟩
 have B1:Hid (bc W V1):=hb1
 clear hb1
 have HC0:Hid (C 0=b0):=c0
 clear c0 WC
 go_wp2_with fail
 go_loopw [8,10,15] (fun cv _ jv V=> ∃ i:Nat,i<=3/\cv=.int .i64 (C i)/\jv=.int .i64 (i:Nat)/\Hid (MapW V wb (n+2*i) (sinkN n1 n2 n3 G i)/\Kept (fun j=>j≠wb/\j<W.heap.size) W V)) (fun _ _ jv _=>(3-intOf jv).toNat)
 case atStart=>exact ⟨0,by omega,by rw [HC0.out],rfl,HS.out.2.2.2.2.block (B1.out.block _ HS.out.2.2.2.2.lt),kept_of_below B1.out (fun j hj=>hj.2)⟩
 case round =>
  obtain ⟨i,hi,rfl,rfl,hst⟩:=hrel
  clear B1 HC0
  rcases (show i=0\/i=1\/i=2\/i=3 by omega) with rfl | rfl | rfl | rfl
  . have G0:Hid (bc wr (wr.alloc (.cells #[.int .i64 9,.int .i64 n1] 145))/\Blk (wr.alloc (.cells #[.int .i64 9,.int .i64 n1] 145)) wr.heap.size [.int .i64 9,.int .i64 n1] 145):=⟨baa,Blk.made _ _ _⟩
    have ix: ∀ w:World,(Instr.index 146 (.agg (so 9 n1 18 n2 27 n3)) (.int .i64 0)).run Tryz.prog w=.ok (.agg #[.int .i64 9,.int .i64 n1]) w:=fun w=>by kernel_rfl
    go_upto_region 4 with fail
    generalize (wr.alloc (.cells #[.int .i64 9,.int .i64 n1] 145))=V2 at G0 |-
    obtain ⟨q,hq⟩: ∃ q,q=wr.heap.size:=⟨_,rfl⟩
    have G1:Hid (bc wr V2/\Blk V2 q [.int .i64 9,.int .i64 n1] 145):=ki1
    have qn:q≠wb:=by have:=hst.out.1.lt;omega
    rw [<- hq]
    clear hq G0
    have KV:Kept (fun j=>j≠wb/\j<W.heap.size) W V2.drew:=(hst.out.2).trans ((kept_of_below G1.out.1 (fun j hj=>nla hj.2 hst.out.2.size)).trans ⟨rfl,rfl,rfl,Nat.le_refl _,fun _ _=>rfl⟩)
    obtain ⟨v,hv⟩: ∃ v:Int,(G 9 n1).getD 0=v:=⟨_,rfl⟩
    have gi:(sinkN n1 n2 n3 G 0) 9 n1=G 9 n1:=rfl
    have hvi:((sinkN n1 n2 n3 G 0) 9 n1).getD 0=v:=by rw [gi];exact hv
    have hvb:=HG.out 9 n1
    rw [hv] at hvb
    have mw:MapW V2.drew wb (n+2*0) (sinkN n1 n2 n3 G 0):=hst.out.1.block (G1.out.1.block _ hst.out.1.lt)
    have wfn:=HW.out.1
    have lk:(Instr.lookup 86 (.map (some wb)) (wv 9 n1) false).run Tryz.prog V2.drew=.ok (.int .i64 v) V2.drew:=by
     have q:=mw.look (a:=9) (b:=n1) kh wfn
     rw [hvi] at q;exact q
    obtain ⟨w1,vv,st,ent,mw1,hg1,hst1⟩:=mw.entry (a:=9) (b:=n1) kl1 kh wfn
    have ent:(Instr.mapEntry 86 (.map (some wb)) (wv 9 n1)).run Tryz.prog V2.drew=.ok (.tuple #[vv,.int .i64 st]) w1:=ent
    have lk1:(Instr.lookup 86 (.map (some wb)) (wv 9 n1) false).run Tryz.prog w1=.ok (.int .i64 v) w1:=by
     have q:=mw1.look (a:=9) (b:=n1) kh wfn
     rw [show ((sinkN n1 n2 n3 G 0).set 9 n1 (some (((sinkN n1 n2 n3 G 0) 9 n1).getD 0)) 9 n1).getD 0=v by unfold Wy.set;rw [if_pos ⟨rfl,rfl⟩,hvi];rfl] at q
     exact q
    obtain ⟨w2,upd,mw2,hg2⟩:=mw1.set (a:=9) (b:=n1) (v:=v-1) kl1 kh wfn (wf64 (by omega) (by omega))
    have ste:(Instr.entryStore 86 (.map (some wb)) (.int .i64 st) (.int .i64 (v-1))).run Tryz.prog w1=.ok () w2:=(hst1 _).trans upd
    have ww:IntKind.i64.wrap (v-1)=v-1:=km1
    rw [set_set] at mw2
    have lk2:(Instr.lookup 86 (.map (some wb)) (wv 9 n1) false).run Tryz.prog w2.drew=.ok (.int .i64 (v-1)) w2.drew:=by
     have q:=(mw2.block (w':=w2.drew) rfl).look (a:=9) (b:=n1) kh wfn
     rw [show ((sinkN n1 n2 n3 G 0).set 9 n1 (some (v-1)) 9 n1).getD 0=v-1 by unfold Wy.set;rw [if_pos ⟨rfl,rfl⟩];rfl] at q
     exact q
    obtain ⟨w3,del,mw3,hg3⟩:=(mw2.block (w':=w2.drew.drew) rfl).del (a:=9) (b:=n1) kh wfn 0
    have del:(Builtin.delete_ #[86,145] 0 #[.map (some wb),wv 9 n1]).run Tryz.prog w2.drew.drew=.ok (.tuple #[]) w3:=del
    rw [set_set] at mw3
    have K2:Kept (fun j=>j≠wb/\j<W.heap.size) W w2:=KV.trans ((kept_grown hg1 (fun j hj=>⟨hj.1,nla hj.2 KV.size⟩)).trans (kept_grown hg2 (fun j hj=>⟨hj.1,nla hj.2 (Nat.le_trans KV.size hg1.size)⟩)))
    have K3:Kept (fun j=>j≠wb/\j<W.heap.size) W w3:=(K2.trans ((kept_drew _ _).trans (kept_drew _ _))).trans (kept_grown (X:=fun j=>j≠wb/\j<W.heap.size) (w:=w2.drew.drew) hg3 (fun j hj=>⟨hj.1,nla hj.2 K2.size⟩))
    have gD:sinkN n1 n2 n3 G 1=sink (sinkN n1 n2 n3 G 0) 9 n1:=rfl
    have HA:v=1->Hid (MapW w3 wb (n+2*(0+1)) (sinkN n1 n2 n3 G 1)/\Kept (fun j=>j≠wb/\j<W.heap.size) W w3):=fun e=>by
     refine ⟨?_,K3⟩
     rw [gD,show sink (sinkN n1 n2 n3 G 0) 9 n1=(sinkN n1 n2 n3 G 0).set 9 n1 none by unfold sink;rw [hvi,if_pos e]]
     exact mw3.mono (by omega)
    have HBB:v≠1->Hid (MapW w2.drew wb (n+2*(0+1)) (sinkN n1 n2 n3 G 1)/\Kept (fun j=>j≠wb/\j<W.heap.size) W w2.drew):=fun e=>by
     refine ⟨?_,K2.trans (kept_drew _ _)⟩
     rw [gD,show sink (sinkN n1 n2 n3 G 0) 9 n1=(sinkN n1 n2 n3 G 0).set 9 n1 (some (v-1)) by unfold sink;rw [hvi,if_neg e]]
     exact mw2.mono (by omega)
    have x0:V2.cell? ⟨q,0,none⟩=some (.int .i64 9):=G1.out.2.cell 0
    have x1:V2.cell? ⟨q,1,none⟩=some (.int .i64 n1):=G1.out.2.cell 1
    have B2:Blk w2 q [.int .i64 9,.int .i64 n1] 145:=by
     have l1:q<V2.heap.size:=G1.out.2.lt
     have c1:w1.heap[q]? =V2.heap[q]? :=hg1.block q l1 (fun e=>qn (sia e))
     have c2:w2.heap[q]? =w1.heap[q]? :=hg2.block q (nla l1 hg1.size) (fun e=>qn (sia e))
     exact (c2.trans c1).trans G1.out.2
    have z0:w2.cell? ⟨q,0,none⟩=some (.int .i64 9):=B2.cell 0
    have z1:w2.cell? ⟨q,1,none⟩=some (.int .i64 n1):=B2.cell 1
    have P2:Blk w2 pb [.int .i64 par,.int .i64 k,sa,sb,sc,sd,se,sf,sg,sh,si,sj,sk,sl,sm,.slice rp ln rc,.map (some lb),.map (some wb)] 88:=(K2.block pb ⟨HN.out.2.1,HS.out.2.1.lt⟩).trans HS.out.2.1
    have p17:V2.cell? ⟨pb,17,none⟩=some (.map (some wb)):=by
     have q:Blk V2.drew pb [.int .i64 par,.int .i64 k,sa,sb,sc,sd,se,sf,sg,sh,si,sj,sk,sl,sm,.slice rp ln rc,.map (some lb),.map (some wb)] 88:=(KV.block pb ⟨HN.out.2.1,HS.out.2.1.lt⟩).trans HS.out.2.1
     exact Blk.cell (w:=V2.drew) q 17
    have p18:w2.cell? ⟨pb,17,none⟩=some (.map (some wb)):=P2.cell 17
    have HCi:=HC.out.1 0
    by_cases cv:v=1
    . have HE:=HA cv
      have d2:(v-1==0)=true:=by simp [cv]
      have d3:decide (v-1=0)=true:=by simp [cv]
      have cw:IntKind.i64.wrap (C 0+1)=C 1:=by
       have e:C 1=C 0+1:=by rw [HC.out.2 0 (by omega)];show C 0+yy (G 9 n1)=_;unfold yy;rw [hv,if_pos cv]
       rw [e];simp only [IntKind.wrap_i64];omega
      clear G1 hst mw mw1 mw2 mw3 hg1 hg2 hg3 hst1 upd KV K2 K3 hv hvi gi gD hvb wfn HA HBB B2 P2 HCi cv qn
      go_region
      all_goals
       go_wp2_with fail
       go_region
       all_goals
        go_wp2_with fail
        go_region
        all_goals
         go_wp2_with fail
         go_roundw
         case rel=>exact ⟨1,by omega,rfl,rfl,HE⟩
         case measure=>decide
    . have HE:=HBB cv
      have d2:(v-1==0)=false:=kg
      have d3:decide (v-1=0)=false:=kg
      have ce:C 0=C 1:=by rw [HC.out.2 0 (by omega)];show C 0=C 0+yy (G 9 n1);unfold yy;rw [hv,if_neg cv];omega
      clear G1 hst mw mw1 mw2 mw3 hg1 hg2 hg3 hst1 upd KV K2 K3 hv hvi gi gD hvb wfn HA HBB B2 P2 HCi cv qn
      go_region
      all_goals
       go_wp2_with fail
       go_region
       all_goals
        go_wp2_with fail
        go_roundw
        case rel=>exact ⟨1,by omega,by rw [ce],rfl,HE⟩
        case measure=>decide
  . have G0:Hid (bc wr (wr.alloc (.cells #[.int .i64 18,.int .i64 n2] 145))/\Blk (wr.alloc (.cells #[.int .i64 18,.int .i64 n2] 145)) wr.heap.size [.int .i64 18,.int .i64 n2] 145):=⟨baa,Blk.made _ _ _⟩
    have ix: ∀ w:World,(Instr.index 146 (.agg (so 9 n1 18 n2 27 n3)) (.int .i64 1)).run Tryz.prog w=.ok (.agg #[.int .i64 18,.int .i64 n2]) w:=fun w=>by kernel_rfl
    go_upto_region 4 with fail
    generalize (wr.alloc (.cells #[.int .i64 18,.int .i64 n2] 145))=V2 at G0 |-
    obtain ⟨q,hq⟩: ∃ q,q=wr.heap.size:=⟨_,rfl⟩
    have G1:Hid (bc wr V2/\Blk V2 q [.int .i64 18,.int .i64 n2] 145):=ki1
    have qn:q≠wb:=by have:=hst.out.1.lt;omega
    rw [<- hq]
    clear hq G0
    have KV:Kept (fun j=>j≠wb/\j<W.heap.size) W V2.drew:=(hst.out.2).trans ((kept_of_below G1.out.1 (fun j hj=>nla hj.2 hst.out.2.size)).trans ⟨rfl,rfl,rfl,Nat.le_refl _,fun _ _=>rfl⟩)
    obtain ⟨v,hv⟩: ∃ v:Int,(G 18 n2).getD 0=v:=⟨_,rfl⟩
    have gi:(sinkN n1 n2 n3 G 1) 18 n2=G 18 n2:=(sink_other _ _ _ _ _ kh)
    have hvi:((sinkN n1 n2 n3 G 1) 18 n2).getD 0=v:=by rw [gi];exact hv
    have hvb:=HG.out 18 n2
    rw [hv] at hvb
    have mw:MapW V2.drew wb (n+2*1) (sinkN n1 n2 n3 G 1):=hst.out.1.block (G1.out.1.block _ hst.out.1.lt)
    have wfn:=HW.out.2.1
    have lk:(Instr.lookup 86 (.map (some wb)) (wv 18 n2) false).run Tryz.prog V2.drew=.ok (.int .i64 v) V2.drew:=by
     have q:=mw.look (a:=18) (b:=n2) kh wfn
     rw [hvi] at q;exact q
    obtain ⟨w1,vv,st,ent,mw1,hg1,hst1⟩:=mw.entry (a:=18) (b:=n2) kl1 kh wfn
    have ent:(Instr.mapEntry 86 (.map (some wb)) (wv 18 n2)).run Tryz.prog V2.drew=.ok (.tuple #[vv,.int .i64 st]) w1:=ent
    have lk1:(Instr.lookup 86 (.map (some wb)) (wv 18 n2) false).run Tryz.prog w1=.ok (.int .i64 v) w1:=by
     have q:=mw1.look (a:=18) (b:=n2) kh wfn
     rw [show ((sinkN n1 n2 n3 G 1).set 18 n2 (some (((sinkN n1 n2 n3 G 1) 18 n2).getD 0)) 18 n2).getD 0=v by unfold Wy.set;rw [if_pos ⟨rfl,rfl⟩,hvi];rfl] at q
     exact q
    obtain ⟨w2,upd,mw2,hg2⟩:=mw1.set (a:=18) (b:=n2) (v:=v-1) kl1 kh wfn (wf64 (by omega) (by omega))
    have ste:(Instr.entryStore 86 (.map (some wb)) (.int .i64 st) (.int .i64 (v-1))).run Tryz.prog w1=.ok () w2:=(hst1 _).trans upd
    have ww:IntKind.i64.wrap (v-1)=v-1:=km1
    rw [set_set] at mw2
    have lk2:(Instr.lookup 86 (.map (some wb)) (wv 18 n2) false).run Tryz.prog w2.drew=.ok (.int .i64 (v-1)) w2.drew:=by
     have q:=(mw2.block (w':=w2.drew) rfl).look (a:=18) (b:=n2) kh wfn
     rw [show ((sinkN n1 n2 n3 G 1).set 18 n2 (some (v-1)) 18 n2).getD 0=v-1 by unfold Wy.set;rw [if_pos ⟨rfl,rfl⟩];rfl] at q
     exact q
    obtain ⟨w3,del,mw3,hg3⟩:=(mw2.block (w':=w2.drew.drew) rfl).del (a:=18) (b:=n2) kh wfn 0
    have del:(Builtin.delete_ #[86,145] 0 #[.map (some wb),wv 18 n2]).run Tryz.prog w2.drew.drew=.ok (.tuple #[]) w3:=del
    rw [set_set] at mw3
    have K2:Kept (fun j=>j≠wb/\j<W.heap.size) W w2:=KV.trans ((kept_grown hg1 (fun j hj=>⟨hj.1,nla hj.2 KV.size⟩)).trans (kept_grown hg2 (fun j hj=>⟨hj.1,nla hj.2 (Nat.le_trans KV.size hg1.size)⟩)))
    have K3:Kept (fun j=>j≠wb/\j<W.heap.size) W w3:=(K2.trans ((kept_drew _ _).trans (kept_drew _ _))).trans (kept_grown (X:=fun j=>j≠wb/\j<W.heap.size) (w:=w2.drew.drew) hg3 (fun j hj=>⟨hj.1,nla hj.2 K2.size⟩))
    have gD:sinkN n1 n2 n3 G 2=sink (sinkN n1 n2 n3 G 1) 18 n2:=rfl
    have HA:v=1->Hid (MapW w3 wb (n+2*(1+1)) (sinkN n1 n2 n3 G 2)/\Kept (fun j=>j≠wb/\j<W.heap.size) W w3):=fun e=>by
     refine ⟨?_,K3⟩
     rw [gD,show sink (sinkN n1 n2 n3 G 1) 18 n2=(sinkN n1 n2 n3 G 1).set 18 n2 none by unfold sink;rw [hvi,if_pos e]]
     exact mw3.mono (by omega)
    have HBB:v≠1->Hid (MapW w2.drew wb (n+2*(1+1)) (sinkN n1 n2 n3 G 2)/\Kept (fun j=>j≠wb/\j<W.heap.size) W w2.drew):=fun e=>by
     refine ⟨?_,K2.trans (kept_drew _ _)⟩
     rw [gD,show sink (sinkN n1 n2 n3 G 1) 18 n2=(sinkN n1 n2 n3 G 1).set 18 n2 (some (v-1)) by unfold sink;rw [hvi,if_neg e]]
     exact mw2.mono (by omega)
    have x0:V2.cell? ⟨q,0,none⟩=some (.int .i64 18):=G1.out.2.cell 0
    have x1:V2.cell? ⟨q,1,none⟩=some (.int .i64 n2):=G1.out.2.cell 1
    have B2:Blk w2 q [.int .i64 18,.int .i64 n2] 145:=by
     have l1:q<V2.heap.size:=G1.out.2.lt
     have c1:w1.heap[q]? =V2.heap[q]? :=hg1.block q l1 (fun e=>qn (sia e))
     have c2:w2.heap[q]? =w1.heap[q]? :=hg2.block q (nla l1 hg1.size) (fun e=>qn (sia e))
     exact (c2.trans c1).trans G1.out.2
    have z0:w2.cell? ⟨q,0,none⟩=some (.int .i64 18):=B2.cell 0
    have z1:w2.cell? ⟨q,1,none⟩=some (.int .i64 n2):=B2.cell 1
    have P2:Blk w2 pb [.int .i64 par,.int .i64 k,sa,sb,sc,sd,se,sf,sg,sh,si,sj,sk,sl,sm,.slice rp ln rc,.map (some lb),.map (some wb)] 88:=(K2.block pb ⟨HN.out.2.1,HS.out.2.1.lt⟩).trans HS.out.2.1
    have p17:V2.cell? ⟨pb,17,none⟩=some (.map (some wb)):=by
     have q:Blk V2.drew pb [.int .i64 par,.int .i64 k,sa,sb,sc,sd,se,sf,sg,sh,si,sj,sk,sl,sm,.slice rp ln rc,.map (some lb),.map (some wb)] 88:=(KV.block pb ⟨HN.out.2.1,HS.out.2.1.lt⟩).trans HS.out.2.1
     exact Blk.cell (w:=V2.drew) q 17
    have p18:w2.cell? ⟨pb,17,none⟩=some (.map (some wb)):=P2.cell 17
    have HCi:=HC.out.1 1
    by_cases cv:v=1
    . have HE:=HA cv
      have d2:(v-1==0)=true:=by simp [cv]
      have d3:decide (v-1=0)=true:=by simp [cv]
      have cw:IntKind.i64.wrap (C 1+1)=C 2:=by
       have e:C 2=C 1+1:=by rw [HC.out.2 1 (by omega)];show C 1+yy (G 18 n2)=_;unfold yy;rw [hv,if_pos cv]
       rw [e];simp only [IntKind.wrap_i64];omega
      clear G1 hst mw mw1 mw2 mw3 hg1 hg2 hg3 hst1 upd KV K2 K3 hv hvi gi gD hvb wfn HA HBB B2 P2 HCi cv qn
      go_region
      all_goals
       go_wp2_with fail
       go_region
       all_goals
        go_wp2_with fail
        go_region
        all_goals
         go_wp2_with fail
         go_roundw
         case rel=>exact ⟨2,by omega,rfl,rfl,HE⟩
         case measure=>decide
    . have HE:=HBB cv
      have d2:(v-1==0)=false:=kg
      have d3:decide (v-1=0)=false:=kg
      have ce:C 1=C 2:=by rw [HC.out.2 1 (by omega)];show C 1=C 1+yy (G 18 n2);unfold yy;rw [hv,if_neg cv];omega
      clear G1 hst mw mw1 mw2 mw3 hg1 hg2 hg3 hst1 upd KV K2 K3 hv hvi gi gD hvb wfn HA HBB B2 P2 HCi cv qn
      go_region
      all_goals
       go_wp2_with fail
       go_region
       all_goals
        go_wp2_with fail
        go_roundw
        case rel=>exact ⟨2,by omega,by rw [ce],rfl,HE⟩
        case measure=>decide
  . have G0:Hid (bc wr (wr.alloc (.cells #[.int .i64 27,.int .i64 n3] 145))/\Blk (wr.alloc (.cells #[.int .i64 27,.int .i64 n3] 145)) wr.heap.size [.int .i64 27,.int .i64 n3] 145):=⟨baa,Blk.made _ _ _⟩
    have ix: ∀ w:World,(Instr.index 146 (.agg (so 9 n1 18 n2 27 n3)) (.int .i64 2)).run Tryz.prog w=.ok (.agg #[.int .i64 27,.int .i64 n3]) w:=fun w=>by kernel_rfl
    go_upto_region 4 with fail
    generalize (wr.alloc (.cells #[.int .i64 27,.int .i64 n3] 145))=V2 at G0 |-
    obtain ⟨q,hq⟩: ∃ q,q=wr.heap.size:=⟨_,rfl⟩
    have G1:Hid (bc wr V2/\Blk V2 q [.int .i64 27,.int .i64 n3] 145):=ki1
    have qn:q≠wb:=by have:=hst.out.1.lt;omega
    rw [<- hq]
    clear hq G0
    have KV:Kept (fun j=>j≠wb/\j<W.heap.size) W V2.drew:=(hst.out.2).trans ((kept_of_below G1.out.1 (fun j hj=>nla hj.2 hst.out.2.size)).trans ⟨rfl,rfl,rfl,Nat.le_refl _,fun _ _=>rfl⟩)
    obtain ⟨v,hv⟩: ∃ v:Int,(G 27 n3).getD 0=v:=⟨_,rfl⟩
    have gi:(sinkN n1 n2 n3 G 2) 27 n3=G 27 n3:=((sink_other _ _ _ _ _ kh).trans (sink_other _ _ _ _ _ kh))
    have hvi:((sinkN n1 n2 n3 G 2) 27 n3).getD 0=v:=by rw [gi];exact hv
    have hvb:=HG.out 27 n3
    rw [hv] at hvb
    have mw:MapW V2.drew wb (n+2*2) (sinkN n1 n2 n3 G 2):=hst.out.1.block (G1.out.1.block _ hst.out.1.lt)
    have wfn:=HW.out.2.2
    have lk:(Instr.lookup 86 (.map (some wb)) (wv 27 n3) false).run Tryz.prog V2.drew=.ok (.int .i64 v) V2.drew:=by
     have q:=mw.look (a:=27) (b:=n3) kh wfn
     rw [hvi] at q;exact q
    obtain ⟨w1,vv,st,ent,mw1,hg1,hst1⟩:=mw.entry (a:=27) (b:=n3) kl1 kh wfn
    have ent:(Instr.mapEntry 86 (.map (some wb)) (wv 27 n3)).run Tryz.prog V2.drew=.ok (.tuple #[vv,.int .i64 st]) w1:=ent
    have lk1:(Instr.lookup 86 (.map (some wb)) (wv 27 n3) false).run Tryz.prog w1=.ok (.int .i64 v) w1:=by
     have q:=mw1.look (a:=27) (b:=n3) kh wfn
     rw [show ((sinkN n1 n2 n3 G 2).set 27 n3 (some (((sinkN n1 n2 n3 G 2) 27 n3).getD 0)) 27 n3).getD 0=v by unfold Wy.set;rw [if_pos ⟨rfl,rfl⟩,hvi];rfl] at q
     exact q
    obtain ⟨w2,upd,mw2,hg2⟩:=mw1.set (a:=27) (b:=n3) (v:=v-1) kl1 kh wfn (wf64 (by omega) (by omega))
    have ste:(Instr.entryStore 86 (.map (some wb)) (.int .i64 st) (.int .i64 (v-1))).run Tryz.prog w1=.ok () w2:=(hst1 _).trans upd
    have ww:IntKind.i64.wrap (v-1)=v-1:=km1
    rw [set_set] at mw2
    have lk2:(Instr.lookup 86 (.map (some wb)) (wv 27 n3) false).run Tryz.prog w2.drew=.ok (.int .i64 (v-1)) w2.drew:=by
     have q:=(mw2.block (w':=w2.drew) rfl).look (a:=27) (b:=n3) kh wfn
     rw [show ((sinkN n1 n2 n3 G 2).set 27 n3 (some (v-1)) 27 n3).getD 0=v-1 by unfold Wy.set;rw [if_pos ⟨rfl,rfl⟩];rfl] at q
     exact q
    obtain ⟨w3,del,mw3,hg3⟩:=(mw2.block (w':=w2.drew.drew) rfl).del (a:=27) (b:=n3) kh wfn 0
    have del:(Builtin.delete_ #[86,145] 0 #[.map (some wb),wv 27 n3]).run Tryz.prog w2.drew.drew=.ok (.tuple #[]) w3:=del
    rw [set_set] at mw3
    have K2:Kept (fun j=>j≠wb/\j<W.heap.size) W w2:=KV.trans ((kept_grown hg1 (fun j hj=>⟨hj.1,nla hj.2 KV.size⟩)).trans (kept_grown hg2 (fun j hj=>⟨hj.1,nla hj.2 (Nat.le_trans KV.size hg1.size)⟩)))
    have K3:Kept (fun j=>j≠wb/\j<W.heap.size) W w3:=(K2.trans ((kept_drew _ _).trans (kept_drew _ _))).trans (kept_grown (X:=fun j=>j≠wb/\j<W.heap.size) (w:=w2.drew.drew) hg3 (fun j hj=>⟨hj.1,nla hj.2 K2.size⟩))
    have gD:sinkN n1 n2 n3 G 3=sink (sinkN n1 n2 n3 G 2) 27 n3:=rfl
    have HA:v=1->Hid (MapW w3 wb (n+2*(2+1)) (sinkN n1 n2 n3 G 3)/\Kept (fun j=>j≠wb/\j<W.heap.size) W w3):=fun e=>by
     refine ⟨?_,K3⟩
     rw [gD,show sink (sinkN n1 n2 n3 G 2) 27 n3=(sinkN n1 n2 n3 G 2).set 27 n3 none by unfold sink;rw [hvi,if_pos e]]
     exact mw3.mono (by omega)
    have HBB:v≠1->Hid (MapW w2.drew wb (n+2*(2+1)) (sinkN n1 n2 n3 G 3)/\Kept (fun j=>j≠wb/\j<W.heap.size) W w2.drew):=fun e=>by
     refine ⟨?_,K2.trans (kept_drew _ _)⟩
     rw [gD,show sink (sinkN n1 n2 n3 G 2) 27 n3=(sinkN n1 n2 n3 G 2).set 27 n3 (some (v-1)) by unfold sink;rw [hvi,if_neg e]]
     exact mw2.mono (by omega)
    have x0:V2.cell? ⟨q,0,none⟩=some (.int .i64 27):=G1.out.2.cell 0
    have x1:V2.cell? ⟨q,1,none⟩=some (.int .i64 n3):=G1.out.2.cell 1
    have B2:Blk w2 q [.int .i64 27,.int .i64 n3] 145:=by
     have l1:q<V2.heap.size:=G1.out.2.lt
     have c1:w1.heap[q]? =V2.heap[q]? :=hg1.block q l1 (fun e=>qn (sia e))
     have c2:w2.heap[q]? =w1.heap[q]? :=hg2.block q (nla l1 hg1.size) (fun e=>qn (sia e))
     exact (c2.trans c1).trans G1.out.2
    have z0:w2.cell? ⟨q,0,none⟩=some (.int .i64 27):=B2.cell 0
    have z1:w2.cell? ⟨q,1,none⟩=some (.int .i64 n3):=B2.cell 1
    have P2:Blk w2 pb [.int .i64 par,.int .i64 k,sa,sb,sc,sd,se,sf,sg,sh,si,sj,sk,sl,sm,.slice rp ln rc,.map (some lb),.map (some wb)] 88:=(K2.block pb ⟨HN.out.2.1,HS.out.2.1.lt⟩).trans HS.out.2.1
    have p17:V2.cell? ⟨pb,17,none⟩=some (.map (some wb)):=by
     have q:Blk V2.drew pb [.int .i64 par,.int .i64 k,sa,sb,sc,sd,se,sf,sg,sh,si,sj,sk,sl,sm,.slice rp ln rc,.map (some lb),.map (some wb)] 88:=(KV.block pb ⟨HN.out.2.1,HS.out.2.1.lt⟩).trans HS.out.2.1
     exact Blk.cell (w:=V2.drew) q 17
    have p18:w2.cell? ⟨pb,17,none⟩=some (.map (some wb)):=P2.cell 17
    have HCi:=HC.out.1 2
    by_cases cv:v=1
    . have HE:=HA cv
      have d2:(v-1==0)=true:=by simp [cv]
      have d3:decide (v-1=0)=true:=by simp [cv]
      have cw:IntKind.i64.wrap (C 2+1)=C 3:=by
       have e:C 3=C 2+1:=by rw [HC.out.2 2 (by omega)];show C 2+yy (G 27 n3)=_;unfold yy;rw [hv,if_pos cv]
       rw [e];simp only [IntKind.wrap_i64];omega
      clear G1 hst mw mw1 mw2 mw3 hg1 hg2 hg3 hst1 upd KV K2 K3 hv hvi gi gD hvb wfn HA HBB B2 P2 HCi cv qn
      go_region
      all_goals
       go_wp2_with fail
       go_region
       all_goals
        go_wp2_with fail
        go_region
        all_goals
         go_wp2_with fail
         go_roundw
         case rel=>exact ⟨3,by omega,rfl,rfl,HE⟩
         case measure=>decide
    . have HE:=HBB cv
      have d2:(v-1==0)=false:=kg
      have d3:decide (v-1=0)=false:=kg
      have ce:C 2=C 3:=by rw [HC.out.2 2 (by omega)];show C 2=C 2+yy (G 27 n3);unfold yy;rw [hv,if_neg cv];omega
      clear G1 hst mw mw1 mw2 mw3 hg1 hg2 hg3 hst1 upd KV K2 K3 hv hvi gi gD hvb wfn HA HBB B2 P2 HCi cv qn
      go_region
      all_goals
       go_wp2_with fail
       go_region
       all_goals
        go_wp2_with fail
        go_roundw
        case rel=>exact ⟨3,by omega,by rw [ce],rfl,HE⟩
        case measure=>decide
  . clear hi
    have kk:=hst.out.2
    have BS:Hid (Md wr mb tq tb pm/\Blk wr pb [.int .i64 par,.int .i64 k,sa,sb,sc,sd,se,sf,sg,sh,si,sj,sk,sl,sm,.slice rp ln rc,.map (some lb),.map (some wb)] 88):=⟨HS.out.1.block kk.size (kk.block mb ⟨HN.out.1,HS.out.1.2.2.2⟩),(kk.block pb ⟨HN.out.2.1,HS.out.2.1.lt⟩).trans HS.out.2.1⟩
    have TR:Hid (Qo.IsTree wr tb T):=tree_block HS.out.2.2.1 kk.size (kk.block tb ⟨fun e=>HN.out.2.2.2.2.2.2.1 e.symm,HS.out.2.2.1.2.2⟩)
    clear kk
    go_upto_region 9 with fail
    refine hda (fun cw=>Md cw mb tq tb pm/\Blk cw pb [.int .i64 par,.int .i64 k,sa,sb,sc,sd,se,sf,sg,sh,si,sj,sk,sl,sm,.slice rp ln rc,.map (some lb),.map (some wb)] 88) BS.out fun hHeld=> ?_
    have KU:Hid (bc wr wr.drew):=below_drew (Below.refl _ _)
    clear BS
    generalize wr.drew=U at hHeld KU |-
    refine tma 0 42 rfl ?_
    try simp only [Act.put,zaa,zba,zca]
    refine tma 1 43 rfl ?_
    try simp only [Act.put,zaa,zba,zca]
    refine tma 2 44 rfl ?_
    try simp only [Act.put,zaa,zba,zca]
    refine tla 3 45 (pp tb) rfl ?_ ?_
    . exact kj1
    try simp only [Act.put,zaa,zba,zca]
    refine tma 4 46 rfl ?_
    try simp only [Act.put,zaa,zba,zca]
    refine tma 5 47 rfl ?_
    try simp only [Act.put,zaa,zba,zca]
    refine tma 6 48 rfl ?_
    try simp only [Act.put,zaa,zba,zca]
    refine tla 7 49 (.int .i64 k) rfl ?_ ?_
    . exact kk1
    try simp only [Act.put,zaa,zba,zca]
    refine tma 8 50 rfl ?_
    try simp only [Act.put,zaa,zba,zca]
    refine rda 9 ⟨some 51,_,_,_,_,none⟩ rfl fun K hK=> ?_
    go_simp
    go_wp2_with (go_at_call 101;refine Calls.mono (CC.out _ (TR.out.below KU.out)) ?_;rintro e u1 ⟨rfl,hT1,hg1⟩)
    have E1:Hid (Qo.IsTree u1 tb (Qo.creditT T k (C 3))/\wr.grownBy u1 (some tb)):=⟨hT1,grown_trans (grown_belowY KU.out) hg1⟩
    have NE:=HN.out
    have hMb:Md u1 mb tq tb pm:=hHeld.1.block hg1.size (hg1.block _ hHeld.1.2.2.2 (fun e=>NE.2.2.1 (sia e)))
    have hPb:Blk u1 pb [.int .i64 par,.int .i64 k,sa,sb,sc,sd,se,sf,sg,sh,si,sj,sk,sl,sm,.slice rp ln rc,.map (some lb),.map (some wb)] 88:=(hg1.block _ hHeld.2.lt (fun e=>NE.2.2.2.1 (sia e))).trans hHeld.2
    refine hK.out _ _ ⟨hMb,hPb⟩ ?_
    clear hK K hHeld hT1 hg1 KU NE hMb hPb
    intro hHeld
    try simp only [Act.put,zaa,zba,zca]
    clear hHeld
    refine wpAnyH_done kc ?_ _
    refine NoPanic.normal ?_
    have ml:MapL u1 lb n F:=HS.out.2.2.2.1.block ((E1.out.2.block lb (nla HS.out.2.2.2.1.lt hst.out.2.size) (fun e=>HN.out.2.2.2.2.1 (sia e))).trans (hst.out.2.block lb ⟨HN.out.2.2.2.2.2.1,HS.out.2.2.2.1.lt⟩))
    obtain ⟨w9,del,ml9,hg9⟩:=ml.del (k:=p) (wf64 (by have:=HP.out;omega) (by have:=HP.out;omega)) 0
    have del:(Builtin.delete_ #[85,3] 0 #[.map (some lb),.int .i64 p]).run Tryz.prog u1=.ok (.tuple #[]) w9:=del
    have p16:u1.cell? ⟨pb,16,none⟩=some (.map (some lb)):=by
     have q:Blk u1 pb [.int .i64 par,.int .i64 k,sa,sb,sc,sd,se,sf,sg,sh,si,sj,sk,sl,sm,.slice rp ln rc,.map (some lb),.map (some wb)] 88:=(E1.out.2.block pb (nla HS.out.2.1.lt hst.out.2.size) (fun e=>HN.out.2.2.2.1 (sia e))).trans ((hst.out.2.block pb ⟨HN.out.2.1,HS.out.2.1.lt⟩).trans HS.out.2.1)
     exact q.cell 16
    have HE:Hid (Qo.IsTree w9 tb (Qo.creditT T k (C 3))/\MapL w9 lb n (put F p none)/\MapW w9 wb (n+6) (sinkN n1 n2 n3 G 3)/\Kept (fun j=>j≠tb/\j≠lb/\j≠wb/\j<W.heap.size) W w9):=by
     obtain ⟨e1,e2,e3,e4,e5,e6,e7,e8,e9⟩:=HN.out
     have kk:=hst.out.2
     have tl:=E1.out.1.2.2
     have lw:=hst.out.1.lt
     refine ⟨tree_block E1.out.1 hg9.size (hg9.block tb tl (fun e=>e5 (sia e).symm)),ml9,hst.out.1.block ((hg9.block wb (nla lw E1.out.2.size) (fun e=>e6 (sia e).symm)).trans (E1.out.2.block wb lw (fun e=>e7 (sia e)))),?_⟩
     refine (kk.sub (fun j hj=>⟨hj.2.2.1,hj.2.2.2⟩)).trans ((kept_grown E1.out.2 (fun j hj=>⟨hj.1,nla hj.2.2.2 kk.size⟩)).trans (kept_grown hg9 (fun j hj=>⟨hj.2.1,nla hj.2.2.2 (Nat.le_trans kk.size E1.out.2.size)⟩)))
    clear ml ml9 hg9 hst
    go_wp2_with fail
    go_returns
    exact ⟨rfl,HE.out⟩
structure Pr where
 pb:Nat
 lb:Nat
 wb:Nat
 par:Int
 k:Int
 st:Tr.St
 rp:Option Addr
 rc:Nat
 L:List Re.Rg
 F:Int->Option Nat
 G:Wy
def Pr.enc (P:Pr):List Value:=(se1 P.par P.k P.st.r0 P.st.r1 P.st.r2 P.st.r3 P.st.told P.st.en P.st.inn P.st.fa P.st.fc P.st.s0 P.st.s1 P.st.s2 P.st.s3 (.slice P.rp P.L.length P.rc) (.map (some P.lb)) (.map (some P.wb)))
structure Mb where
 mb:Nat
 tq:Nat
 tb:Nat
 pm:Nat
abbrev ME (M:Mb):Value × Value × Value:=(pp M.tq,pp M.tb,.map (some M.pm))
structure IsPr (O:Nat->Nat) (n i:Nat) (W:World) (P:Pr):Prop where
 pro:Blk W P.pb P.enc 88
 lis:Re.IsL W 0 P.rp P.L
 cap:P.L.length<=P.rc
 few:P.L.length<=100
 led:MapL W P.lb n P.F
 way:MapW W P.wb n P.G
 wbd: ∀ a b,0<=(P.G a b).getD 0/\(P.G a b).getD 0<=n
 con: ∀ p c,P.F p=some c->O c=9
 o0:O P.pb=16+8*i
 o1:O P.lb=16+8*i+1
 o2:O P.wb=16+8*i+2
 o3: ∀ g,P.rp=some ⟨g,0,none⟩->0<P.L.length->O g=16+8*i+3
def prF (A:Nat->Option Pr):Int->Option Nat:=fun i=>if 0<=i/\i<16 then (A i.toNat).map (·.pb) else none
structure Mn (O:Nat->Nat) (n:Nat) (W:World) (M:Mb) (Q:Ca.Qu) (T:Nat->Qo.Nd) (root:Int) (I:Nat->Sh.Gr) (A:Nat->Option Pr) (B:Nat->Nat->Int):Prop where
 mod:Md W M.mb M.tq M.tb M.pm
 que:Ca.IsQ W M.tq Q
 tre:Qo.IsTree W M.tb T
 goo:Qo.Good T root
 gra:Sh.IsTab (ME M) W M.mb I
 prm:MapF W M.pm n (prF A)
 prs: ∀ i P,i<16->A i=some P->IsPr O n i W P
 pag: ∀ c,O c=9->Page W c (B c)/\ ∀ i,0<=B c i/\B c i<256
 o1:O M.mb=1
 o2:O M.tq=2
 o3:O M.tb=3
 o4:O M.pm=4
 lt: ∀ j,O j≠0->j<W.heap.size
theorem tab_block {E:Value × Value × Value} {w w':World} {b:Nat} {I:Nat->Sh.Gr} (h:Sh.IsTab E w b I) (hs:w.heap.size<=w'.heap.size) (e:w'.heap[b]? =w.heap[b]?):Sh.IsTab E w' b I:=h.same hs e
theorem MapL.more {w:World} {b n n':Nat} {f:Int->Option Nat} (h:MapL w b n f) (hn:n<=n'):MapL w b n' f:=by
 obtain ⟨D,hown,hD⟩:=h
 exact ⟨D,hown.mono hn,hD⟩
theorem MapF.more {w:World} {b n n':Nat} {f:Int->Option Nat} (h:MapF w b n f) (hn:n<=n'):MapF w b n' f:=by
 obtain ⟨D,hown,hD⟩:=h
 exact ⟨D,hown.mono hn,hD⟩
theorem IsPr.keep {O O':Nat->Nat} {n n' i:Nat} {W W':World} {P:Pr} (h:IsPr O n i W P) (hn:n<=n') (hs:W.heap.size<=W'.heap.size) (hO: ∀ j,O j≠0->O' j=O j) (hk: ∀ j,16+8*i<=O j->O j<24+8*i->W'.heap[j]? =W.heap[j]?):IsPr O' n' i W' P :=
 ⟨(
  hk _ (by rw [h.o0];omega) (by rw [h.o0];omega)).trans h.pro,list_block h.lis hs fun g eg _ hl=>hk g (by rw [h.o3 g eg hl];omega) (by rw [h.o3 g eg hl];omega),h.cap,h.few,
  (h.led.block (hk _ kn1 kn1)).more hn,(h.way.block (hk _ kp1 kp1)).mono hn,
  fun a b=>⟨(h.wbd a b).1,by have:=(h.wbd a b).2;omega⟩,fun p c e=>by have:=h.con p c e;rw [hO c (by omega)];exact this,
  by rw [hO _ (by rw [h.o0];omega)];exact h.o0,by rw [hO _ kn1];exact h.o1,by rw [hO _ kp1];exact h.o2,fun g e hl=>by have:=h.o3 g e hl;rw [hO g (by omega)];exact this⟩
section
variable {O:Nat->Nat} {n:Nat} {W:World} {M:Mb} {Q:Ca.Qu} {T:Nat->Qo.Nd} {root:Int} {I:Nat->Sh.Gr} {A:Nat->Option Pr} {B:Nat->Nat->Int}
theorem Mn.keep {W':World} (h:Mn O n W M Q T root I A B) (hs:W.heap.size<=W'.heap.size) (hk: ∀ j,O j≠0->W'.heap[j]? =W.heap[j]?):Mn O n W' M Q T root I A B :=
 ⟨h.mod.block hs (hk _ kn1),h.que.kept fun _=>hk _ kp1,tree_block h.tre hs (hk _ (by rw [h.o3];omega)),h.goo,tab_block h.gra hs (hk _ kn1),h.prm.block (hk _ (by rw [h.o4];omega)),
  fun i P hi e=>(h.prs i P hi e).keep (Nat.le_refl _) hs (fun _ _=>rfl) (fun j h1 _=>hk j (by omega)),fun c hc=>⟨page_block (h.pag c hc).1 (hk c (by omega)),(h.pag c hc).2⟩,h.o1,h.o2,h.o3,h.o4,fun j hj=>nla (h.lt j hj) hs⟩
theorem Mn.below {W':World} (h:Mn O n W M Q T root I A B) (hb:bc W W'):Mn O n W' M Q T root I A B:=h.keep hb.size fun j hj=>hb.block j (h.lt j hj)
def setA (A:Nat->Option Pr) (i:Nat) (P:Option Pr):Nat->Option Pr:=fun j=>if j=i then P else A j
theorem setA_same (A:Nat->Option Pr) (i:Nat) (P:Option Pr):setA A i P i=P:=if_pos rfl
theorem setA_other (A:Nat->Option Pr) (i j:Nat) (P:Option Pr) (h:j≠i):setA A i P j=A j:=if_neg h
theorem prF_set (A:Nat->Option Pr) (i:Nat) (P P':Pr) (hA:A i=some P) (e:P'.pb=P.pb):prF (setA A i (some P'))=prF A:=by
 funext j
 unfold prF setA
 by_cases c:0<=j/\j<16
 . rw [if_pos c,if_pos c]
   by_cases d:j.toNat=i
   . rw [if_pos d,d,hA];simp [e]
   . rw [if_neg d]
 . rw [if_neg c,if_neg c]
theorem Mn.one {O':Nat->Nat} {n':Nat} {W':World} {T':Nat->Qo.Nd} {P P':Pr} {i:Nat} {B':Nat->Nat->Int} (h:Mn O n W M Q T root I A B) (hi:i<16) (hA:A i=some P) (hpb:P'.pb=P.pb) (hn:n<=n') (hs:W.heap.size<=W'.heap.size) (hO: ∀ j,O j≠0->O' j=O j)
 (hk: ∀ j,O j≠0->O j≠3->O j≠9-> ¬ (16+8*i<=O j/\O j<24+8*i)->W'.heap[j]? =W.heap[j]?) (hT:Qo.IsTree W' M.tb T') (hG:Qo.Good T' root) (hP:IsPr O' n' i W' P') (hB: ∀ c,O' c=9->Page W' c (B' c)/\ ∀ i,0<=B' c i/\B' c i<256) (hl: ∀ j,O' j≠0->j<W'.heap.size) :
 Mn O' n' W' M Q T' root I (setA A i (some P')) B':=by
 refine ⟨h.mod.block hs (hk _ kn1 kn1 kn1 kn1),h.que.kept fun _=>hk _ kp1 kp1 kp1 kp1,hT,hG,tab_block h.gra hs (hk _ kn1 kn1 kn1 kn1),?_,fun j R hj e=> ?_,hB,?_,?_,?_,?_,hl⟩
 . rw [prF_set A i P P' hA hpb]
   exact (h.prm.block (hk _ (by rw [h.o4];omega) (by rw [h.o4];omega) (by rw [h.o4];omega) (by rw [h.o4];omega))).more hn
 . by_cases c:j=i
   . subst c;rw [setA_same] at e;cases e;exact hP
   . rw [setA_other _ _ _ _ c] at e
     exact (h.prs j R hj e).keep hn hs hO (fun b h1 h2=>hk b (by omega) (by omega) (by omega) (by omega))
 . rw [hO _ kn1];exact h.o1
 . rw [hO _ kp1];exact h.o2
 . rw [hO _ (by rw [h.o3];omega)];exact h.o3
 . rw [hO _ (by rw [h.o4];omega)];exact h.o4
theorem ne_O {O:Nat->Nat} {a b:Nat} (h:O a≠O b):a≠b:=fun e=>h (by rw [e])
theorem bumpY_bd {G:Wy} {m:Int} (h: ∀ a b,0<=(G a b).getD 0/\(G a b).getD 0<=m) (x y:Int): ∀ a b,0<=(bump G x y a b).getD 0/\(bump G x y a b).getD 0<=m+1:=fun a b=>by
 unfold bump
 rw [set_set]
 unfold Wy.set
 have h1:=h a b
 have h2:=h x y
 split
 . simp only [Option.getD_some];omega
 . omega
theorem bumpNY_bd {G:Wy} {m:Int} (h: ∀ a b,0<=(G a b).getD 0/\(G a b).getD 0<=m) (n1 n2 n3:Int): ∀ a b,0<=(bumpN n1 n2 n3 G 3 a b).getD 0/\(bumpN n1 n2 n3 G 3 a b).getD 0<=m+1+1+1:=bumpY_bd (bumpY_bd (bumpY_bd h 9 n1) 18 n2) 27 n3
theorem sink_bd {G:Wy} {m:Int} (h: ∀ a b,0<=(G a b).getD 0/\(G a b).getD 0<=m) (x y:Int) (hv:1<=(G x y).getD 0): ∀ a b,0<=(sink G x y a b).getD 0/\(sink G x y a b).getD 0<=m:=fun a b=>by
 have h1:=h a b
 have h2:=h x y
 unfold sink
 split
 . unfold Wy.set
   split
   . simp only [Option.getD_none];omega
   . exact h1
 . unfold Wy.set
   split
   . simp only [Option.getD_some];omega
   . exact h1
def Wayed (G:Wy) (p:Int):Prop:=1<=(G 9 (p / 512)).getD 0/\1<=(G 18 (p / 262144)).getD 0/\1<=(G 27 (p / 134217728)).getD 0
theorem sinkN_bd {G:Wy} {m p:Int} (h: ∀ a b,0<=(G a b).getD 0/\(G a b).getD 0<=m) (hv:Wayed G p): ∀ a b,0<=(sinkN (p / 512) (p / 262144) (p / 134217728) G 3 a b).getD 0/\(sinkN (p / 512) (p / 262144) (p / 134217728) G 3 a b).getD 0<=m :=
 sink_bd (sink_bd (sink_bd h 9 _ hv.1) 18 _ (by rw [sink_other _ _ _ _ _ kh];exact hv.2.1)) 27 _ (by rw [sink_other _ _ _ _ _ kh,sink_other _ _ _ _ _ kh];exact hv.2.2)
theorem Mn.apart (h:Mn O n W M Q T root I A B) {i:Nat} {P:Pr} (hi:i<16) (hA:A i=some P) :
 (M.mb≠P.wb/\M.mb≠M.tb/\P.pb≠M.tb/\P.pb≠P.wb/\P.lb≠M.tb/\P.lb≠P.wb/\P.wb≠M.tb/\M.mb≠P.lb/\P.pb≠P.lb):=by
 have q:=h.prs i P hi hA
 have a:=h.o1;have b:=h.o3;have c:=q.o0;have d:=q.o1;have e:=q.o2
 refine ⟨ne_O (O:=O) ?_,ne_O (O:=O) ?_,ne_O (O:=O) ?_,ne_O (O:=O) ?_,ne_O (O:=O) ?_,ne_O (O:=O) ?_,ne_O (O:=O) ?_,ne_O (O:=O) ?_,ne_O (O:=O) ?_⟩ <;> omega
theorem Mn.ways (h:Mn O n W M Q T root I A B) {i:Nat} {P:Pr} (hi:i<16) (hA:A i=some P) {W':World} {T':Nat->Qo.Nd} {F':Int->Option Nat} {G':Wy} (hT:Qo.IsTree W' M.tb T') (hG:Qo.Good T' root) (hL:MapL W' P.lb (n+6) F') (hW:MapW W' P.wb (n+6) G') (hk:Kept (fun j=>j≠M.tb/\j≠P.lb/\j≠P.wb/\j<W.heap.size) W W')
 (hb: ∀ a b,0<=(G' a b).getD 0/\(G' a b).getD 0<=(n+6:Nat)) (hc: ∀ p c,F' p=some c->O c=9):Mn O (n+6) W' M Q T' root I (setA A i (some { P with F:=F',G:=G' })) B/\Ko O W W':=by
 have q:=h.prs i P hi hA
 have a1:=h.o1;have a2:=h.o2;have a3:=h.o3;have a4:=h.o4;have b0:=q.o0;have b1:=q.o1;have b2:=q.o2
 have kb: ∀ j,O j≠0->O j≠3->O j≠16+8*i+1->O j≠16+8*i+2->W'.heap[j]? =W.heap[j]? :=fun j h0 h3 h1 h2=>hk.block j ⟨ne_O (O:=O) (by omega),ne_O (O:=O) (by omega),ne_O (O:=O) (by omega),h.lt j h0⟩
 refine ⟨h.one (P':={ P with F:=F',G:=G' }) hi hA rfl (by omega) hk.size (fun _ _=>rfl) (fun j h0 h3 h9 hr=>kb j h0 h3 (by omega) (by omega)) hT hG ?_ (fun c hc=>⟨page_block (h.pag c hc).1 (kb c (by omega) (by omega) (by omega) (by omega)),(h.pag c hc).2⟩) (fun j hj=>nla (h.lt j hj) hk.size),hk.sub fun j hj=>⟨ne_O (O:=O) (by omega),ne_O (O:=O) (by omega),ne_O (O:=O) (by omega),hj.2⟩⟩
 exact ⟨(kb P.pb (by omega) (by omega) (by omega) (by omega)).trans q.pro,list_block q.lis hk.size fun g eg _ hl=>kb g (by rw [q.o3 g eg hl];omega) (by rw [q.o3 g eg hl];omega) (by rw [q.o3 g eg hl];omega) (by rw [q.o3 g eg hl];omega),q.cap,q.few,hL,hW,hb,hc,q.o0,q.o1,q.o2,q.o3⟩
theorem Mn.lead (h:Mn O n W M Q T root I A B) {i:Nat} {P:Pr} (hi:i<16) (hA:A i=some P) (p:Int) (p0:0<=p) (p1:p<34359738368) (kd b0:Int) (hkd:Kd kd b0) (hn:n<900000000000) (c:Nat) (hc:O c=9) (hmay:Qo.mayN T P.k (costK b0 (p / 512) (p / 262144) (p / 134217728) P.G 3)=0) :
 Calls Tryz.prog 56 #[pp M.mb,pp P.pb,.int .i64 p,.int .i64 kd,pp c] W fun e w'=>e=.returned (.int .i64 0)/\Mn O (n+6) w' M Q (Qo.chargeT T P.k (costK b0 (p / 512) (p / 262144) (p / 134217728) P.G 3)) root I (setA A i (some { P with F:=put P.F p (some c),G:=(bumpN (p / 512) (p / 262144) (p / 134217728) P.G 3) })) B/\Ko O W w':=by
 have q:=h.prs i P hi hA
 refine Calls.mono (leadK_ok M.mb M.tq M.tb M.pm P.pb P.lb P.wb c P.par P.k kd b0 hkd (.int .u64 P.st.r0) (.int .u64 P.st.r1) (.int .u64 P.st.r2) (.int .u64 P.st.r3) (.int .i64 P.st.told) (.int .u64 P.st.en) (.bool P.st.inn) (.int .u64 P.st.fa) (.int .i64 P.st.fc) (.int .u64 P.st.s0) (.int .u64 P.st.s1) (.int .u64 P.st.s2) (.int .u64 P.st.s3) P.rp P.L.length P.rc n T root P.F P.G p p0 p1 (by omega) W h.mod q.pro h.tre q.led q.way h.goo hmay (fun a b=>⟨(q.wbd a b).1,by have:=(q.wbd a b).2;omega⟩) (h.apart hi hA)) ?_
 rintro e w' ⟨e1,h1,h2,h3,h4⟩
 refine ⟨e1,h.ways hi hA h1 (h.goo.charge _ _) (h2.more (by omega)) h3 h4 (fun a b=> ?_) (fun r d e=> ?_)⟩
 . have:=bumpNY_bd q.wbd (p / 512) (p / 262144) (p / 134217728) a b
   omega
 . unfold put at e
   split at e
   . cases e;exact hc
   . exact q.con r d e
theorem Mn.lead_no (h:Mn O n W M Q T root I A B) {i:Nat} {P:Pr} (hi:i<16) (hA:A i=some P) (p:Int) (p0:0<=p) (p1:p<34359738368) (kd b0:Int) (hkd:Kd kd b0) (hn:n<900000000000) (c:Nat) (E:Int) (hmay:Qo.mayN T P.k (costK b0 (p / 512) (p / 262144) (p / 134217728) P.G 3)=E) (hE:E≠0) :
 Calls Tryz.prog 56 #[pp M.mb,pp P.pb,.int .i64 p,.int .i64 kd,pp c] W fun e w'=>e=.returned (.int .i64 E)/\Mn O (n+6) w' M Q T root I A B/\Ko O W w':=by
 have q:=h.prs i P hi hA
 refine Calls.mono (leadK_no M.mb M.tq M.tb M.pm P.pb P.lb P.wb c P.par P.k kd b0 hkd (.int .u64 P.st.r0) (.int .u64 P.st.r1) (.int .u64 P.st.r2) (.int .u64 P.st.r3) (.int .i64 P.st.told) (.int .u64 P.st.en) (.bool P.st.inn) (.int .u64 P.st.fa) (.int .i64 P.st.fc) (.int .u64 P.st.s0) (.int .u64 P.st.s1) (.int .u64 P.st.s2) (.int .u64 P.st.s3) P.rp P.L.length P.rc n T root P.F P.G p p0 p1 (by omega) W h.mod q.pro h.tre q.led q.way h.goo E hmay hE (fun a b=>⟨(q.wbd a b).1,by have:=(q.wbd a b).2;omega⟩) (h.apart hi hA)) ?_
 rintro e w' ⟨e1,h1,h4⟩
 have e0:setA A i (some { P with F:=P.F,G:=P.G })=A:=by
  funext j
  unfold setA
  split
  . rename_i c;rw [c,hA]
  . rfl
 have h4':=h4.sub (K':=fun j=>j≠M.tb/\j≠P.lb/\j≠P.wb/\j<W.heap.size) (fun j hj=>⟨hj.1,hj.2.2.2⟩)
 have ap:=h.apart hi hA
 have r:=h.ways hi hA (F':=P.F) (G':=P.G) h1 h.goo ((q.led.block (h4.block _ ⟨ap.2.2.2.2.1,q.led.lt⟩)).more (by omega)) ((q.way.block (h4.block _ ⟨ap.2.2.2.2.2.2.1,q.way.lt⟩)).mono (by omega)) h4' (fun a b=>⟨(q.wbd a b).1,by have:=(q.wbd a b).2;omega⟩) q.con
 rw [e0] at r
 exact ⟨e1,r⟩
theorem Mn.unlead (h:Mn O n W M Q T root I A B) {i:Nat} {P:Pr} (hi:i<16) (hA:A i=some P) (p:Int) (p0:0<=p) (p1:p<34359738368) (kd b0:Int) (hkd:Kd kd b0) (hn:n<900000000000) (hw:Wayed P.G p) :
 Calls Tryz.prog 81 #[pp M.mb,pp P.pb,.int .i64 p,.int .i64 kd] W fun e w'=>e=.returned (.tuple #[])/\Mn O (n+6) w' M Q (Qo.creditT T P.k (costD b0 (p / 512) (p / 262144) (p / 134217728) P.G 3)) root I (setA A i (some { P with F:=put P.F p none,G:=(sinkN (p / 512) (p / 262144) (p / 134217728) P.G 3) })) B/\Ko O W w':=by
 have q:=h.prs i P hi hA
 obtain ⟨a1,a2,a3,a4,a5,a6,a7,a8,a9⟩:=h.apart hi hA
 refine Calls.mono (unleadK M.mb M.tq M.tb M.pm P.pb P.lb P.wb P.par P.k kd b0 hkd (.int .u64 P.st.r0) (.int .u64 P.st.r1) (.int .u64 P.st.r2) (.int .u64 P.st.r3) (.int .i64 P.st.told) (.int .u64 P.st.en) (.bool P.st.inn) (.int .u64 P.st.fa) (.int .i64 P.st.fc) (.int .u64 P.st.s0) (.int .u64 P.st.s1) (.int .u64 P.st.s2) (.int .u64 P.st.s3) P.rp P.L.length P.rc n T root P.F P.G p p0 p1 (by omega) W h.mod q.pro h.tre q.led q.way h.goo (fun a b=>⟨(q.wbd a b).1,by have:=(q.wbd a b).2;omega⟩) ⟨a1,a4,a2,a3,a5,a6,a7,a8,a9⟩) ?_
 rintro e w' ⟨e1,h1,h2,h3,h4⟩
 refine ⟨e1,h.ways hi hA h1 (h.goo.credit _ _) (h2.more (by omega)) h3 h4 (fun a b=> ?_) (fun r d e=> ?_)⟩
 . have:=sinkN_bd q.wbd hw a b
   omega
 . unfold put at e
   split at e
   . cases e
   . exact q.con r d e
def lowA (A:Nat->Option Pr) (m:Nat):Nat->Nat
 | 0 => m
 | f + 1 => if (A m).isSome = true then lowA A (m + 1) f else m
theorem low_is (A:Nat->Option Pr) (i:Nat): ∀ f m,m<=i->i<=m+f->(∀ k,m<=k->k<i->(A k).isSome=true)->(i<m+f->(A i).isSome=false)->lowA A m f=i
 | 0, m, h1, h2, _, _ => by simp only [lowA]; omega
 | f + 1, m, h1, h2, h3, h4 => by
  simp only [lowA]
  by_cases c:m=i
  . subst c
    rw [if_neg (by rw [h4 (by omega)];simp)]
  . rw [if_pos (h3 m (by omega) (by omega))]
    exact low_is A i f (m+1) (by omega) (by omega) (fun k a b=>h3 k (by omega) b) (fun a=>h4 (by omega))
theorem prF_nat (A:Nat->Option Pr) (i:Nat):prF A (i:Nat)=if i<16 then (A i).map (·.pb) else none:=by
 unfold prF
 by_cases c:i<16
 . rw [if_pos ⟨by omega,by omega⟩,if_pos c];simp
 . rw [if_neg (by omega),if_neg c]
theorem unused_any {n:Nat} {W:World} {mb tq tb pm:Nat} {A:Nat->Option Pr} (hm:Md W mb tq tb pm) (hp:MapF W pm n (prF A)) :
 Calls Tryz.prog 25 #[pp mb] W (re (.int .i64 (lowA A 0 16:Nat)) W):=by
 have HM:Hid (Md W mb tq tb pm/\MapF W pm n (prF A)):=⟨hm,hp⟩
 clear hm hp
 go_enter Tryz.func25,Tryz.ntmps25
 go_wp2_with fail
 go_loopw [3] (fun jv V=> ∃ i:Nat,i<=16/\jv=.int .i64 (i:Nat)/\Hid ((∀ k,k<i->(A k).isSome=true)/\bc W V)) (fun jv _=>(16-intOf jv).toNat)
 case atStart=>exact ⟨0,by omega,rfl,fun k hk=>absurd hk (by omega),Below.refl _ _⟩
 case round =>
  obtain ⟨i,hi,rfl,hst⟩:=hrel
  have c3:wr.cell? ⟨mb,1538,none⟩=some (.map (some pm)):=(HM.out.1.below hst.out.2).2.2.1
  have l0:=(HM.out.2.block (hst.out.2.block _ HM.out.2.lt)).look (k:=(i:Nat)) (wf64 (by omega) (by omega))
  rw [prF_nat] at l0
  have ww:IntKind.i64.wrap ((i:Int)+1)=((i+1:Nat):Int):=km1
  by_cases c:i<16
  . rw [if_pos c] at l0
    cases hA:A i with
    | none =>
     rw [hA] at l0
     have lk:(Instr.lookup 53 (.map (some pm)) (.int .i64 (i:Nat)) false).run Tryz.prog wr=.ok (.pointer none) wr:=l0
     have e:lowA A 0 16=i:=low_is A i 16 0 (by omega) (by omega) (fun k _ h=>hst.out.1 k h) (fun _=>by rw [hA];rfl)
     have HE:Hid (bc W wr):=hst.out.2
     clear hst l0
     go_wp2_with fail
     go_returns
     exact ⟨by rw [e];rfl,HE.out⟩
    | some P =>
     rw [hA] at l0
     have lk:(Instr.lookup 53 (.map (some pm)) (.int .i64 (i:Nat)) false).run Tryz.prog wr=.ok (pp P.pb) wr:=l0
     have HE:Hid ((∀ k,k<i+1->(A k).isSome=true)/\bc W wr):=⟨fun k hk=>by
      by_cases d:k=i
      . rw [d,hA];rfl
      . exact hst.out.1 k (by omega),hst.out.2⟩
     clear hst l0
     go_wp2_with fail
     go_roundw
     case rel=>exact ⟨i+1,by omega,rfl,HE⟩
     case measure=>simp [Go.RowKit.intOf];omega
  . rw [if_neg c] at l0
    have lk:(Instr.lookup 53 (.map (some pm)) (.int .i64 (i:Nat)) false).run Tryz.prog wr=.ok (.pointer none) wr:=l0
    have e:lowA A 0 16=i:=low_is A i 16 0 (by omega) (by omega) (fun k _ h=>hst.out.1 k h) (fun h=>by omega)
    have HE:Hid (bc W wr):=hst.out.2
    clear hst l0
    go_wp2_with fail
    go_returns
    exact ⟨by rw [e];rfl,HE.out⟩
end
end Go.Proofs.YtokpmclmdobgeaaGreat.Fl
