/- CpuSizes: a number of eight bytes is stored and loaded also by its parts,whichever translations are kept. No condition. -/
import Derived.Test.YtgbdnnkkcpkhdaaGreatDoorRows
import Derived.Test.YtgbdnnkkcpkhdaaGreatDoorCards
import Derived.Test.YtgbdnnkkcpkhdaaGreatDoorTie
import Derived.ProofKit
import Derived.OpenShut
import Derived.Stop.Joined
import Derived.SevenTiedAt
import Derived.Test.YtgbdnnkkcpkhdaaGreatDoorCZc
namespace Go.Proofs.YtgbdnnkkcpkhdaaGreatDoor.cpuSizes
open Go.ChangeShapes Go.WideShapes Go.ChangeAt Go.RowKit
set_option linter.unusedSimpArgs false
set_option linter.unusedVariables false
open Go.Proofs.YtgbdnnkkcpkhdaaGreatDoor.Tt Go.Proofs.YtgbdnnkkcpkhdaaGreatDoor.Sp
set_option maxRecDepth 8000
set_option maxHeartbeats 8000000 in
theorem walk (p0:Option Addr) (n0 c0:Nat) (A0:Nat->Int) (m0:n0<=maxLen/\n0<=c0) (a1:Int) (w1:(Lit.int .i64 a1).wf=true) (a2:Int) (w2:(Lit.int .u64 a2).wf=true) (a3:Int) (w3:(Lit.int .u64 a3).wf=true) (a4:Int) (w4:(Lit.int .i64 a4).wf=true) (w:World) (ht:Tab w) (H0:IsInts w p0 n0 A0) :
 Calls Tryz.prog 3 #[.slice p0 n0 c0,.int .i64 a1,.int .u64 a2,.int .u64 a3,.int .i64 a4] w (re (.bool true) w):=by
 have AW:Hid (∀ W:World,Tab W->Calls Tryz.prog 4 #[] W (re (.bool true) W)):=fun W t=>awake13 W t
 have HT:Hid (Tab w):=ht
 have u2:0<=a2/\a2<18446744073709551616:=by simp [Lit.wf,IntKind.min,IntKind.max,IntKind.signed,IntKind.bits] at w2;omega
 have u3:0<=a3/\a3<18446744073709551616:=by simp [Lit.wf,IntKind.min,IntKind.max,IntKind.signed,IntKind.bits] at w3;omega
 have HX:Hid ((0<=a2/\a2<18446744073709551616)/\0<=a3/\a3<18446744073709551616):=⟨u2,u3⟩
 have FW:Hid _:=few_any p0 n0 c0 A0 m0.2 w H0
 clear u2 u3 w1 w2 w3 w4 ht H0 m0
 go_enter Tryz.func3,Tryz.ntmps3
 go_upto_region 1 with fail
 go_cut [52] (fun v V=> ∃ b:Bool,v=.bool b/\Hid (b=false->0<=a1/\a1<=1000/\(a4=1\/a4=2\/a4=4\/a4=8))/\V=w)
 case first =>
  by_cases h1:a1<0
  . have d1:decide (a1<0)=true:=by simp;omega
    go_wp2_with fail
    go_meet
    exact ⟨true,rfl,(fun h=>by cases h),rfl⟩
  have d1:decide (a1<0)=false:=kh
  by_cases h2:1000<a1
  . have d2:decide (1000<a1)=true:=by simp;omega
    clear h1
    go_wp2_with fail
    go_meet
    exact ⟨true,rfl,(fun h=>by cases h),rfl⟩
  have d2:decide (1000<a1)=false:=kh
  by_cases hz:a4=1\/a4=2\/a4=4\/a4=8
  . have q:0<=a1/\a1<=1000:=⟨by omega,by omega⟩
    clear h1 h2
    rcases hz with rfl | rfl | rfl | rfl
    all_goals
     go_wp2_with fail
     go_meet
     exact ⟨false,rfl,(fun _=>⟨q.1,q.2,by simp⟩),rfl⟩
  . have n1: ¬ a4=1:=by omega
    have n2: ¬ a4=2:=by omega
    have n4: ¬ a4=4:=by omega
    have n8: ¬ a4=8:=by omega
    have b1:(a4 != 1)=true:=kh
    have b2:(a4 != 2)=true:=kh
    have b4:(a4 != 4)=true:=kh
    have b8:(a4 != 8)=true:=kh
    have f1:(a4==1)=false:=kh
    have f2:(a4==2)=false:=kh
    have f4:(a4==4)=false:=kh
    have f8:(a4==8)=false:=kh
    clear h1 h2 hz
    go_wp2_with fail
    go_meet
    exact ⟨true,rfl,(fun h=>by cases h),rfl⟩
 case rest =>
 obtain ⟨b,rfl,hb,hw⟩:=hcut
 have hw2:=hw.symm
 clear hw
 subst hw2
 cases b with
 | true =>
  go_wp2_with fail
  refine Calls.mono (AW.out _ HT.out) ?_
  rintro e w1 ⟨rfl,hb1⟩
  have HB:=hb1
  clear hb1
  go_wp2_with fail
  go_returns
  exact ⟨rfl,HB⟩
 | false =>
 obtain ⟨q0,q1,hz⟩:=hb.out rfl
 obtain ⟨zn,rfl,hz⟩: ∃ z:Nat,a4=z/\(z=1\/z=2\/z=4\/z=8):=⟨a4.toNat,by omega,by omega⟩
 obtain ⟨A,hA⟩: ∃ A,A=8*a1:=⟨_,rfl⟩
 have e1:IntKind.i64.wrap (8*a1)=A:=ki1
 have e2:IntKind.u64.wrap A=A:=kg
 obtain ⟨pn,hpn⟩: ∃ p:Nat,A / 4096=p:=⟨(A / 4096).toNat,by omega⟩
 have HA:Hid ((0<=A/\A / 4096=pn/\pn<2/\A % 8=0/\A<=8000)/\(zn=1\/zn=2\/zn=4\/zn=8)):=⟨⟨by omega,hpn,by omega,by omega,by omega⟩,by omega⟩
 clear q0 q1 hz hA hpn hb
 go_wp2_with fail
 refine Calls.mono FW.out ?_
 rintro e w1 ⟨v',L,rfl,ho,hl,hb⟩
 have BC:Hid _:=begin13 2 (by omega) (by omega) 0 v' L (by omega) w1 (HT.out.below hb HT.out.1) ((Li.ol_ll Li.eI_len ho).low (Nat.zero_le _))
 have B0:Hid (bc w w1):=hb
 clear ho hl hb FW
 go_wp2_with fail
 refine Calls.mono BC.out ?_
 rintro e w2 ⟨cb,M,m,s,xb,hm,rfl,hB⟩
 have B1:Hid (Begun 2 w1 (w2.alloc (.cells #[pp M.mb,.slice none 0 0,.slice (some ⟨xb,0,none⟩) 1 1,.int .i64 0,.map (some hm)] 33)) cb M m s):=hB.below baa
 clear hB BC
 go_upto_region 4 with fail
 generalize w2.alloc (.cells #[pp M.mb,.slice none 0 0,.slice (some ⟨xb,0,none⟩) 1 1,.int .i64 0,.map (some hm)] 33)=v2 at B1 |-
 have x0:v2.cell? ⟨cb,0,none⟩=some (pp M.mb):=B1.out.cell
 go_wp2_with fail
 refine Calls.mono (B1.out.open s) ?_
 rintro e w3 ⟨rfl,h3⟩
 have B3:Hid (Opn 2 w1 w3 cb M m):=h3
 have x0:w3.cell? ⟨cb,0,none⟩=some (pp M.mb):=B3.out.cell
 clear h3 B1
 go_wp2_with fail
 refine Calls.mono (B3.out.map (by omega) (by omega)) ?_
 rintro e w4 ⟨rfl,h4⟩
 have B4:Hid (Rdy w1 w4 cb M m):=h4
 clear h4 B3 x0
 go_wp2_with fail
 refine Calls.mono (B4.out.store (p:=pn) (A:=A) (v:=a2) HA.out.1.2.2.1 HA.out.1.1 HA.out.1.2.1 HA.out.1.2.2.2.1 HX.out.1.1 HX.out.1.2) ?_
 rintro e w5 ⟨rfl,B,h5⟩
 have B5:Hid (Has w1 (w5.alloc (.cells #[.int .u64 0,.int .i64 0] 47)) cb M m 1004 pn (mset B (A % 4096) 8 a2)):=h5.below baa
 clear h5 B4
 go_upto_region 8 with fail
 generalize w5.alloc (.cells #[.int .u64 0,.int .i64 0] 47)=w6 at B5 |-
 go_wp2_with fail
 go_loopw [18,19] (fun vw vi V=> ∃ (i:Nat) (X:Int),i<=8/\vi=.int .i64 i/\vw=.int .u64 X/\Hid (i % zn=0/\X=a2 % 256 ^ i/\Has w1 V cb M m (1004+4*i) pn (mset B (A % 4096) 8 a2))) (fun _ vi _=>8-(Go.RowKit.intOf vi).toNat)
 case atStart=>exact ⟨0,0,by omega,rfl,rfl,Nat.zero_mod _,by simp,B5.out⟩
 case round =>
  clear B5
  obtain ⟨i,X,i8,rfl,rfl,HI⟩:=hrel
  by_cases ci:i<8
  rotate_left
  . obtain rfl:i=8:=by omega
    have hX:X=a2:=by rw [HI.out.2.1,show (256:Int) ^ 8=18446744073709551616 by decide];exact Int.emod_eq_of_lt HX.out.1.1 HX.out.1.2
    subst hX
    have dk:decide (((8:Nat):Int)<8)=false:=by decide
    have B8:Hid (Has w1 wr cb M m 1036 pn (mset B (A % 4096) 8 X)):=HI.out.2.2
    clear HI ci i8
    have SC:Hid _:=B8.out.store (by omega) HA.out.1.2.2.1 (A:=A) (z:=zn) (v:=a3) HA.out.1.1 HA.out.1.2.1 (by have:=HA.out.2;omega) (by have:=HA.out.1;rcases HA.out.2 with rfl | rfl | rfl | rfl <;> omega) HX.out.2.1 HX.out.2.2
    clear B8
    go_wp2_with fail
    refine Calls.mono SC.out ?_
    rintro e v9 ⟨rfl,h9⟩
    have B9:Hid (Has w1 (v9.alloc (.cells #[.int .u64 0,.int .i64 0] 47)) cb M m 1040 pn (mset (mset B (A % 4096) 8 X) (A % 4096) zn a3)):=h9.below baa
    clear h9 SC dk
    go_upto_region 17 with fail
    generalize v9.alloc (.cells #[.int .u64 0,.int .i64 0] 47)=va at B9 |-
    obtain ⟨Zv,hZ⟩: ∃ Zv,Zv=ld (mset (mset B (A % 4096) 8 X) (A % 4096) zn a3) (A % 4096) 8:=⟨_,rfl⟩
    have LC:Hid (Calls Tryz.prog 9 #[pp cb,.int .i64 1,.int .u64 A,.int .i64 8,.bool false,.int .u64 0] va fun e w'=>e=.returned (.tuple #[.int .u64 Zv,.agg #[.int .u64 0,.int .i64 0],.int .i64 0])/\Has w1 w' cb M m 1044 pn (mset (mset B (A % 4096) 8 X) (A % 4096) zn a3)):=by
     rw [hZ]
     exact B9.out.load (by omega) HA.out.1.2.2.1 (A:=A) (z:=8) (v:=0) HA.out.1.1 HA.out.1.2.1 (by omega) HA.out.1.2.2.2.1 (by omega) (by omega)
    have HV:Hid (Zv=ld (mset (mset B (A % 4096) 8 X) (A % 4096) zn a3) (A % 4096) 8):=hZ
    clear B9 hZ
    go_wp2_with fail
    refine Calls.mono LC.out ?_
    rintro e vb ⟨rfl,hb⟩
    have HB:Hid (bc w (vb.alloc (.cells #[.int .u64 0,.int .i64 0] 47))):=by
     obtain ⟨_,_,_,_,_,_,_,_,_,_,_,_,k⟩:=hb
     exact below_new (below_then B0.out (below_of_kept k)) _
    clear hb LC
    go_upto_region 18 with fail
    generalize vb.alloc (.cells #[.int .u64 0,.int .i64 0] 47)=vc at HB |-
    have xx:(X==X)=true:=by simp
    have zz:(Zv==Zv)=true:=by simp
    have W1:zn=1->bits .or .u64 (bits .andNot .u64 X 255) (bits .and .u64 a3 255)=Zv:=fun e=>by rw [HV.out,e];exact want_1 B (A % 4096) X a3 HX.out.1.1 HX.out.1.2 HX.out.2.1 HX.out.2.2
    have W2:zn=2->bits .or .u64 (bits .andNot .u64 X 65535) (bits .and .u64 a3 65535)=Zv:=fun e=>by rw [HV.out,e];exact want_2 B (A % 4096) X a3 HX.out.1.1 HX.out.1.2 HX.out.2.1 HX.out.2.2
    have W4:zn=4->bits .or .u64 (bits .andNot .u64 X 4294967295) (bits .and .u64 a3 4294967295)=Zv:=fun e=>by rw [HV.out,e];exact want_4 B (A % 4096) X a3 HX.out.1.1 HX.out.1.2 HX.out.2.1 HX.out.2.2
    have W8:zn=8->a3=Zv:=fun e=>by rw [HV.out,e];exact (want_8 B (A % 4096) X a3 HX.out.1.1 HX.out.1.2 HX.out.2.1 HX.out.2.2).symm
    have HZ:=HA.out.2
    clear HV HA HX B0
    rcases HZ with rfl | rfl | rfl | rfl
    . have q:=W1 rfl
      clear W1 W2 W4 W8
      go_wp2_with fail
      refine Calls.mono (AW.out _ (HT.out.below HB.out HT.out.1)) ?_
      rintro e vd ⟨rfl,hd⟩
      have HE:=below_then HB.out hd
      clear hd HB
      go_wp2_with fail
      go_returns
      exact ⟨rfl,HE⟩
    . have q:=W2 rfl
      clear W1 W2 W4 W8
      go_wp2_with fail
      refine Calls.mono (AW.out _ (HT.out.below HB.out HT.out.1)) ?_
      rintro e vd ⟨rfl,hd⟩
      have HE:=below_then HB.out hd
      clear hd HB
      go_wp2_with fail
      go_returns
      exact ⟨rfl,HE⟩
    . have q:=W4 rfl
      clear W1 W2 W4 W8
      go_wp2_with fail
      refine Calls.mono (AW.out _ (HT.out.below HB.out HT.out.1)) ?_
      rintro e vd ⟨rfl,hd⟩
      have HE:=below_then HB.out hd
      clear hd HB
      go_wp2_with fail
      go_returns
      exact ⟨rfl,HE⟩
    . have q:=W8 rfl
      clear W1 W2 W4 W8
      have zb:(Zv==a3)=true:=by simp [q]
      clear q
      go_wp2_with fail
      refine Calls.mono (AW.out _ (HT.out.below HB.out HT.out.1)) ?_
      rintro e vd ⟨rfl,hd⟩
      have HE:=below_then HB.out hd
      clear hd HB
      go_wp2_with fail
      go_returns
      exact ⟨rfl,HE⟩
  . have dk:decide ((i:Int)<8)=true:=by simp;omega
    have hn:i+zn<=8/\(i+zn) % zn=0/\1<=zn:=by
     have hi:=HI.out.1
     rcases HA.out.2 with rfl | rfl | rfl | rfl <;> omega
    have w7:IntKind.u64.wrap (i:Int)=i:=kg
    have w8:IntKind.u64.wrap (A+i)=A+i:=by rw [IntKind.wrap_u64];have:=HA.out;omega
    have w9:IntKind.i64.wrap (8*(i:Int))=8*i:=ki1
    have wa:IntKind.i64.wrap ((i:Int)+zn)=((i+zn:Nat):Int):=ki1
    have g0:decide (8*(i:Int)<0)=false:=kh
    have LC:Hid _:=HI.out.2.2.load (by omega) HA.out.1.2.2.1 (A:=A+i) (z:=zn) (v:=0) (by have:=HA.out;omega) (by have:=HA.out;omega) (by have:=HA.out;omega) (by have:=HA.out;have:=HI.out.1;rcases HA.out.2 with rfl | rfl | rfl | rfl <;> omega) (by omega) (by omega)
    obtain ⟨n,hn'⟩: ∃ n,n=a2 / 256 ^ i % 256 ^ zn:=⟨_,rfl⟩
    have el:ld (mset B (A % 4096) 8 a2) ((A+i) % 4096) (zn:Int).toNat=n:=by
     rw [show (A+(i:Int)) % 4096=A % 4096+i by have:=HA.out;omega,Int.toNat_natCast,hn']
     exact ld_part B (A % 4096) a2 HX.out.1.1 i zn hn.1
    rw [el] at LC
    have on:bits .or .u64 X (IntKind.u64.wrap (n*2 ^ (8*(i:Int)).toNat))=a2 % 256 ^ (i+zn):=by
     rw [hn',HI.out.2.1];exact or_next a2 HX.out.1.1 i zn hn.1
    have on2:bits .or .u64 X (IntKind.u64.wrap (n*2 ^ (8*i)))=a2 % 256 ^ (i+zn):=by
     rw [show (8*(i:Int)).toNat=8*i by omega] at on;exact on
    have HN:Hid (i+zn<=8/\(i+zn) % zn=0/\1<=zn):=hn
    clear HI hn hn' el ci
    go_wp2_with fail
    refine Calls.mono LC.out ?_
    rintro e w7 ⟨rfl,h7⟩
    have B7:Hid (Has w1 (w7.alloc (.cells #[.int .u64 0,.int .i64 0] 47)) cb M m (1004+4*i+4) pn (mset B (A % 4096) 8 a2)):=h7.below baa
    clear h7 LC
    go_upto_region 13 with fail
    generalize w7.alloc (.cells #[.int .u64 0,.int .i64 0] 47)=w8 at B7 |-
    go_wp2_with fail
    go_roundw
    case rel=>exact ⟨i+zn,_,HN.out.1,by go_num,rfl,HN.out.2.1,rfl,B7.out.le (by have:=HN.out;omega)⟩
    case measure=>simp [Go.RowKit.intOf];have:=HN.out;omega
set_option maxRecDepth 100000 in
theorem lifted (os:Os) (started:os.Started) (H:Type) (enc:TypeId × Value->H) :
 ReturnsInHanded {} Tryz.checked os 3 .any (fun w args=>(Rows.cpuSizesSpec.pre enc Tryz.prog Tryz.f3 [] false w args/\laidMetH Tryz.prog laidL w)/\sizedMet enc Tryz.prog Tryz.f3 (OpenSpec.ofChange Rows.cpuSizesSpec) false w args)
  (Rows.cpuSizesSpec.post enc Tryz.prog Tryz.f3 false true false false):=by
 refine returnsInHanded_of_change_and (C:=Tryz.checked) (X:=fun w _=>laidMetH Tryz.prog laidL w) (fun _ _ _ hh h=>h.of_heap hh) own started ka Tryz.func3
  (ChangeSpec.witness_shaped (enc:=enc) (C:=Tryz.checked) (os:=os) (X:=fun w _=>laidMetH Tryz.prog laidL w) false (World.doorLaid Tryz.prog 400 os) #[.slice none 0 0,.int .i64 0,.int .u64 0,.int .u64 0,.int .i64 0] 8 rfl (World.shaped_of_RefB ka ka) ka ka ka (door_met os _)) ?_
 intro W base args ds gs before hval0 hW _ _ hL _
 have hval: ∀ (j:Nat) t v,Tryz.f3.params[j]? =some t->args[j]? =some v->Value.okWide Tryz.prog W .any base t v:=hval0
 have hW':=hW
 obtain ⟨p,q,hA0,hV,hbef,hfz,hnd⟩:=hW
 have hA:DataW.TrodAll enc Tryz.prog W 0 (fun _=>true) true Tryz.f3.params.toList args.toList ds p:=hA0
 have hAk:=hA
 have hlt: ∀ x∈p,x.block<W.heap.size:=fun x hx=>hW'.lt x (by rw [hbef];exact List.mem_append_left _ hx)
 rw [Tryz.params3] at hA hval
 obtain ⟨v0,vs0,d0,ds0,p0,q0,hargs,rfl,hp0,h0,r0⟩:=trodAll_cons hA
 obtain ⟨v1,vs1,d1,ds1,p1,q1,rfl,rfl,hp1,h1,r1⟩:=trodAll_cons r0
 obtain ⟨v2,vs2,d2,ds2,p2,q2,rfl,rfl,hp2,h2,r2⟩:=trodAll_cons r1
 obtain ⟨v3,vs3,d3,ds3,p3,q3,rfl,rfl,hp3,h3,r3⟩:=trodAll_cons r2
 obtain ⟨v4,vs4,d4,ds4,p4,q4,rfl,rfl,hp4,h4,r4⟩:=trodAll_cons r3
 obtain ⟨rfl,rfl,hpz⟩:=trodAll_nil r4
 obtain rfl:args= #[v0,v1,v2,v3,v4]:=by cases args;simp_all
 obtain ⟨rfl,rfl⟩:=trodVars_none hV
 obtain ⟨p0,n0,c0,A0,rfl,m0,H0⟩:=open_intc (hval 0 22 v0 rfl rfl) h0
 obtain ⟨a1,rfl,_,_,w1⟩:=open_int Tryz.underlying3 (hval 1 3 v1 rfl rfl) h1
 obtain ⟨a2,rfl,_,_,w2⟩:=open_int Tryz.underlying23 (hval 2 23 v2 rfl rfl) h2
 obtain ⟨a3,rfl,_,_,w3⟩:=open_int Tryz.underlying23 (hval 3 23 v3 rfl rfl) h3
 obtain ⟨a4,rfl,_,_,w4⟩:=open_int Tryz.underlying3 (hval 4 3 v4 rfl rfl) h4
 clear hA0 hval0
 refine (walk p0 n0 c0 A0 m0 a1 w1 a2 w2 a3 w3 a4 w4 W (of_laid hL) H0).mono fun e W' ⟨he,hg⟩=> ?_
 subst he
 exact ⟨_,rfl,⟨_,_,_,[],p,[],hW',(trodAll_cons_mk (shut_bool Tryz.underlying4 _) trodAll_mk0),args_stay laidOut hg ka hAk hlt,rfl,hg.frame _,fun h=>by cases h⟩⟩
theorem over:Rows.cpuSizesRow.holds Tryz.pinned (OpenSpec.ofChange Rows.cpuSizesSpec) :=
 OpenClaim.holds_of_wide 3 Tryz.f3 rfl rfl rfl rfl rfl rfl rfl ⟨rfl,rfl,rfl,rfl,rfl⟩ rfl rfl rfl rfl rfl ka Tryz.func3 (by kernel_rfl)
  (of_decide_eq_true ka) (by unfold Func.isWrapper;first | (rw [if_pos (by decide +kernel)];kernel_rfl) | (rw [if_neg (by decide +kernel)];exact ⟨rfl,rfl⟩))
  (fun os started H enc _=>lifted os started H enc)
theorem proved:Rows.CpuSizesCardSaid :=
 Claim7.holds_tied_plain_at .later [] [.data] true (true, "5bdc7b716c7eb2f1cc315d08d3b84835796251faeed87eeb0a4fbf2b53d32d40") true
  over (fun _ h=>by cases h) ka (fun _ h=>by cases h) cpuSizes_row_tie rfl ⟨rfl,rfl⟩ ka rfl
  (fun f fn hf hfn=>by
   obtain rfl : f = 3 := sia ((show Tryz.prog.funcNamed "demesne/demesnelaw13.CpuSizes" = some 3 by kernel_rfl).symm.trans hf) |>.symm
   obtain rfl:fn=Tryz.f3:=(sia (Tryz.func3.symm.trans hfn)).symm
   exact ⟨by kernel_rfl,fun j t ht=>by
    rw [Tryz.params3] at ht
    have hm:t∈[22,3,23,23,3]:=by simpa using Array.mem_of_getElem? ht
    have hall:([22,3,23,23,3].all fun u=> !Tryz.prog.wantsStandIn u)=true:=ka
    exact (show Tryz.prog.wantsStandIn t=false by simpa using List.all_eq_true.1 hall t hm)⟩)
  ka
#print axioms proved
end Go.Proofs.YtgbdnnkkcpkhdaaGreatDoor.cpuSizes
