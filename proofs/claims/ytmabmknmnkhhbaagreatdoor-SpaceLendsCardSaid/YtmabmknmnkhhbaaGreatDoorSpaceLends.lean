/- SpaceLends: what is lent leads to the lender's frame,and to nothing when it is back;neither page may be unmapped in between,nor space closed;all frames are free at the end. No condition. -/
import Derived.Test.YtmabmknmnkhhbaaGreatDoorRows
import Derived.Test.YtmabmknmnkhhbaaGreatDoorCards
import Derived.Test.YtmabmknmnkhhbaaGreatDoorTie
import Derived.ProofKit
import Derived.OpenShut
import Derived.Stop.Joined
import Derived.SevenTiedAt
import Derived.Test.YtmabmknmnkhhbaaGreatDoorSNl
namespace Go.Proofs.YtmabmknmnkhhbaaGreatDoor.spaceLends
open Go.ChangeShapes Go.WideShapes Go.ChangeAt Go.RowKit
set_option linter.unusedSimpArgs false
set_option linter.unusedVariables false
open Go.Proofs.YtmabmknmnkhhbaaGreatDoor.Tt Go.Proofs.YtmabmknmnkhhbaaGreatDoor.Sp
set_option maxRecDepth 8000
set_option maxHeartbeats 16000000 in
theorem walk (a0:Int) (w0:(Lit.int .i64 a0).wf=true) (a1:Int) (w1:(Lit.int .i64 a1).wf=true) (a2:Int) (w2:(Lit.int .i64 a2).wf=true) (a3:Bool) (a4:Bool) (w:World) (ht:Tab w)  :
 Calls Tryz.prog 4 #[.int .i64 a0,.int .i64 a1,.int .i64 a2,.bool a3,.bool a4] w fun e w'=>e=.returned (.bool true)/\Below w.heap.size w w':=by
 have AW:Hid (∀ W:World,Tab W->Calls Tryz.prog 8 #[] W fun e w'=>e=.returned (.bool true)/\Below W.heap.size W w'):=fun W t=>awake_any W t
 have HT:Hid (Tab w):=ht
 by_cases h0:a0<30
 . have d0:decide (a0<30)=true:=by simp;omega
   clear h0
   go_enter Tryz.func4,Tryz.ntmps4
   go_wp2_with fail
   refine Calls.mono (AW.out _ HT.out) ?_
   rintro e w1 ⟨rfl,hb1⟩
   have HB:Hid (Below w.heap.size w w1):=hb1
   clear hb1
   go_wp2_with fail
   go_returns
   exact ⟨rfl,HB.out⟩
 by_cases h1:120<a0
 . have d0:decide (a0<30)=false:=by simp;omega
   have d1:decide (120<a0)=true:=by simp;omega
   clear h0 h1
   go_enter Tryz.func4,Tryz.ntmps4
   go_wp2_with fail
   refine Calls.mono (AW.out _ HT.out) ?_
   rintro e w1 ⟨rfl,hb1⟩
   have HB:Hid (Below w.heap.size w w1):=hb1
   clear hb1
   go_wp2_with fail
   go_returns
   exact ⟨rfl,HB.out⟩
 by_cases h2:a1<0
 . have d0:decide (a0<30)=false:=by simp;omega
   have d1:decide (120<a0)=false:=by simp;omega
   have d2:decide (a1<0)=true:=by simp;omega
   clear h0 h1 h2
   go_enter Tryz.func4,Tryz.ntmps4
   go_wp2_with fail
   refine Calls.mono (AW.out _ HT.out) ?_
   rintro e w1 ⟨rfl,hb1⟩
   have HB:Hid (Below w.heap.size w w1):=hb1
   clear hb1
   go_wp2_with fail
   go_returns
   exact ⟨rfl,HB.out⟩
 by_cases h3:34359738368<=a1
 . have d0:decide (a0<30)=false:=by simp;omega
   have d1:decide (120<a0)=false:=by simp;omega
   have d2:decide (a1<0)=false:=by simp;omega
   have d3:decide (34359738368<=a1)=true:=by simp;omega
   clear h0 h1 h2 h3
   go_enter Tryz.func4,Tryz.ntmps4
   go_wp2_with fail
   refine Calls.mono (AW.out _ HT.out) ?_
   rintro e w1 ⟨rfl,hb1⟩
   have HB:Hid (Below w.heap.size w w1):=hb1
   clear hb1
   go_wp2_with fail
   go_returns
   exact ⟨rfl,HB.out⟩
 by_cases h4:a2<0
 . have d0:decide (a0<30)=false:=by simp;omega
   have d1:decide (120<a0)=false:=by simp;omega
   have d2:decide (a1<0)=false:=by simp;omega
   have d3:decide (34359738368<=a1)=false:=by simp;omega
   have d4:decide (a2<0)=true:=by simp;omega
   clear h0 h1 h2 h3 h4
   go_enter Tryz.func4,Tryz.ntmps4
   go_wp2_with fail
   refine Calls.mono (AW.out _ HT.out) ?_
   rintro e w1 ⟨rfl,hb1⟩
   have HB:Hid (Below w.heap.size w w1):=hb1
   clear hb1
   go_wp2_with fail
   go_returns
   exact ⟨rfl,HB.out⟩
 by_cases h5:34359738368<=a2
 . have d0:decide (a0<30)=false:=by simp;omega
   have d1:decide (120<a0)=false:=by simp;omega
   have d2:decide (a1<0)=false:=by simp;omega
   have d3:decide (34359738368<=a1)=false:=by simp;omega
   have d4:decide (a2<0)=false:=by simp;omega
   have d5:decide (34359738368<=a2)=true:=by simp;omega
   clear h0 h1 h2 h3 h4 h5
   go_enter Tryz.func4,Tryz.ntmps4
   go_wp2_with fail
   refine Calls.mono (AW.out _ HT.out) ?_
   rintro e w1 ⟨rfl,hb1⟩
   have HB:Hid (Below w.heap.size w w1):=hb1
   clear hb1
   go_wp2_with fail
   go_returns
   exact ⟨rfl,HB.out⟩
 have d0:decide (a0<30)=false:=by simp;omega
 have d1:decide (120<a0)=false:=by simp;omega
 have d2:decide (a1<0)=false:=by simp;omega
 have d3:decide (34359738368<=a1)=false:=by simp;omega
 have d4:decide (a2<0)=false:=by simp;omega
 have d5:decide (34359738368<=a2)=false:=by simp;omega
 obtain ⟨F,hF0⟩: ∃ F:Nat,a0=F:=⟨a0.toNat,by omega⟩
 obtain ⟨p,hp0⟩: ∃ p:Nat,a1=p:=⟨a1.toNat,by omega⟩
 obtain ⟨t,ht0⟩: ∃ t:Nat,a2=t:=⟨a2.toNat,by omega⟩
 obtain ⟨p1,hp1⟩: ∃ p1:Int,p1=a1+1:=⟨_,rfl⟩
 obtain ⟨t1,ht1⟩: ∃ t1:Int,t1=a2+1:=⟨_,rfl⟩
 obtain ⟨f3,hf3⟩: ∃ f3:Int,f3=a0-3:=⟨_,rfl⟩
 have dp:IntKind.i64.wrap (a1+1)=p1:=by rw [hp1];simp only [IntKind.wrap_i64];omega
 have dt:IntKind.i64.wrap (a2+1)=t1:=by rw [ht1];simp only [IntKind.wrap_i64];omega
 have df:IntKind.i64.wrap (a0-3)=f3:=by rw [hf3];simp only [IntKind.wrap_i64];omega
 have HR:Hid ((a0=(F:Nat)/\30<=F/\F<=120)/\(a1=(p:Nat)/\p1=(p:Nat)+1/\p<34359738368)/\(a2=(t:Nat)/\t1=(t:Nat)+1/\t<34359738368)/\f3=((F-3:Nat):Int)):=⟨⟨hF0,by omega,by omega⟩,⟨hp0,by omega,by omega⟩,⟨ht0,by omega,by omega⟩,by omega⟩
 have BC:Hid (Calls Tryz.prog 15 #[.int .i64 a0,.int .i64 3] w fun e w'=> ∃ M m s xb,e=.returned (.tuple #[pp M.mb,.agg #[.slice none 0 0,.slice (some ⟨xb,0,none⟩) 1 1,.int .i64 0],.bool true])/\Booted (F:Nat) 3 w w' M m s):=by
  rw [hF0]
  exact begin_ok (F:Nat) 3 (by omega) (by omega) (by omega) (by omega) w ht
 clear ht h0 h1 h2 h3 h4 h5 hF0 hp0 ht0 hp1 ht1 hf3
 go_enter Tryz.func4,Tryz.ntmps4
 go_wp2_with fail
 refine Calls.mono BC.out ?_
 rintro e w1 ⟨M,m,s,xb,rfl,hB⟩
 have s1:(w1.alloc (.cells #[.slice none 0 0,.slice (some ⟨xb,0,none⟩) 1 1,.int .i64 0] 54)).heap.size=w1.heap.size+1:=World.size_alloc _ _
 have G1:Hid (Below w1.heap.size w1 ((w1.alloc (.cells #[.slice none 0 0,.slice (some ⟨xb,0,none⟩) 1 1,.int .i64 0] 54)).alloc (.cells #[.bool a3,.bool true,.bool false] 58))/\Blk ((w1.alloc (.cells #[.slice none 0 0,.slice (some ⟨xb,0,none⟩) 1 1,.int .i64 0] 54)).alloc (.cells #[.bool a3,.bool true,.bool false] 58)) (w1.heap.size+1) [.bool a3,.bool true,.bool false] 58/\w1.heap.size+1<((w1.alloc (.cells #[.slice none 0 0,.slice (some ⟨xb,0,none⟩) 1 1,.int .i64 0] 54)).alloc (.cells #[.bool a3,.bool true,.bool false] 58)).heap.size):=⟨Go.Joins.below_alloc2 _ _ _,by rw [<- s1];exact Blk.made _ _ _,by rw [World.size_alloc,s1];omega⟩
 have HB:Hid (Booted (F:Nat) 3 w w1 M m s):=hB
 clear hB BC d0 d1 d2 d3 d4 d5 s1
 go_upto_region 5 with fail
 generalize ((w1.alloc (.cells #[.slice none 0 0,.slice (some ⟨xb,0,none⟩) 1 1,.int .i64 0] 54)).alloc (.cells #[.bool a3,.bool true,.bool false] 58))=w2 at G1 |-
 obtain ⟨pb,hpb⟩: ∃ pb,pb=w1.heap.size+1:=⟨_,rfl⟩
 have G2:Hid (Below w1.heap.size w1 w2/\Blk w2 pb [.bool a3,.bool true,.bool false] 58/\(w1.heap.size<=pb/\pb<w2.heap.size)):=by rw [hpb];exact ⟨G1.out.1,G1.out.2.1,by omega,G1.out.2.2⟩
 rw [<- hpb]
 clear hpb G1
 have C1:Hid _:=lw_open1 (B0:=0) (B1:=0) HR.out.1.2 HB.out G2.out.1
 go_wp2_with fail
 refine Calls.mono C1.out ?_
 rintro e w3 ⟨rfl,hL3,hK3⟩
 have L3:Hid (Lo w w1.heap.size w2.heap.size F w3 M m 1 4 6000 (fun L=> ∃ sb root lb,L=[sr0 1 0 sb 0 root lb])/\Blk w3 pb [.bool a3,.bool true,.bool false] 58):=⟨hL3,G2.out.2.1.kx hK3 (Or.inr G2.out.2.2)⟩
 clear hL3 hK3 C1 HB
 have C2:Hid _:=lw_open2 HR.out.1.2 L3.out.1
 go_wp2_with fail
 refine Calls.mono C2.out ?_
 rintro e w4 ⟨rfl,hL4,hK4⟩
 have L4:Hid (Lo w w1.heap.size w2.heap.size F w4 M m 2 5 6002 (fun L=> ∃ sb root lb sb2 root2 lb2,L=[sr0 2 1 sb2 0 root2 lb2,sr0 1 0 sb 0 root lb])/\Blk w4 pb [.bool a3,.bool true,.bool false] 58):=⟨hL4,L3.out.2.kx hK4 (Or.inr G2.out.2.2)⟩
 clear hL4 hK4 C2 L3 G2
 obtain ⟨b0,hb0⟩: ∃ b0,b0=w1.heap.size:=⟨_,rfl⟩
 obtain ⟨b1,hb1⟩: ∃ b1,b1=w2.heap.size:=⟨_,rfl⟩
 have C3:Hid (Calls Tryz.prog 17 #[pp M.mb,.int .i64 1,.agg #[.int .i64 a1,.int .i64 p1],.agg #[.bool a3,.bool true,.bool false]] w4 fun e w'=>e=.returned (.int .i64 0)/\Lw w b0 b1 F w' M m p t a3 none none none [] 1 1 5 6002):=by
  have hr:=HR.out
  rw [hr.2.1.2.1,hr.2.1.1,hb0,hb1]
  exact lw_map p t hr.2.1.2.2 a3 L4.out.1
 have y0:w4.cell? ⟨pb,0,none⟩=some (.bool a3):=L4.out.2.cell 0
 have y1:w4.cell? ⟨pb,1,none⟩=some (.bool true):=L4.out.2.cell 1
 have y2:w4.cell? ⟨pb,2,none⟩=some (.bool false):=L4.out.2.cell 2
 clear hb0 hb1 L4
 go_wp2_with fail
 refine Calls.mono C3.out ?_
 rintro e w5 ⟨rfl,hL5⟩
 have L5:Hid (Lw w b0 b1 F w5 M m p t a3 none none none [] 1 1 5 6002):=hL5
 clear hL5 C3 y0 y1 y2
 have C4:Hid (Calls Tryz.prog 18 #[pp M.mb,.int .i64 1,.int .i64 a1,.int .i64 2,.int .i64 a2,.agg #[.bool false,.bool true,.bool false]] w5 fun e w'=>e=.returned (.int .i64 5)/\Lw w b0 b1 F w' M m p t a3 none none none [] 1 1 5 6002):=by
  rw [HR.out.2.1.1]
  exact lw_lend0 L5.out HR.out.2.1.2.2 a2 rfl false true false
 go_wp2_with fail
 refine Calls.mono C4.out ?_
 rintro e w6 ⟨rfl,hL6⟩
 have C5:Hid (Calls Tryz.prog 19 #[pp M.mb,.int .i64 1,.int .i64 a1,.agg #[.bool false,.bool true,.bool false]] w6 fun e w'=> ∃ f:Nat,e=.returned (.tuple #[.int .i64 f,.int .i64 0,.int .i64 0])/\Lw w b0 b1 F w' M m p t a3 (some ⟨(f:Nat),a3,true,false⟩) (some 0) none [] 4 1 9 6012):=by
  have hr:=HR.out
  rw [hr.2.1.1]
  exact lw_touch hL6 hr.2.1.2.2 rfl (by omega) (by omega)
 clear hL6 C4 L5
 go_wp2_with fail
 refine Calls.mono C5.out ?_
 rintro e w7 ⟨f,rfl,hL7⟩
 have L7:Hid (Lw w b0 b1 F w7 M m p t a3 (some ⟨(f:Nat),a3,true,false⟩) (some 0) none [] 4 1 9 6012):=hL7
 clear hL7 C5
 by_cases hm:a4=true/\a3=false
 . obtain ⟨m1,m2⟩:=hm
   subst m1 m2
   have C6:Hid (Calls Tryz.prog 18 #[pp M.mb,.int .i64 1,.int .i64 a1,.int .i64 2,.int .i64 a2,.agg #[.bool true,.bool true,.bool false]] w7 fun e w'=>e=.returned (.int .i64 10)/\Tab w'/\Below w.heap.size w w'):=by
    rw [HR.out.2.1.1]
    refine Calls.mono (lw_perm L7.out HR.out.2.1.2.2 a2 0 rfl rfl) ?_
    rintro e w' ⟨he,hL⟩
    exact ⟨he,hL.tab,hL.bel⟩
   go_wp2_with fail
   refine Calls.mono C6.out ?_
   rintro e w8 ⟨rfl,ht8,hb8⟩
   have A8:Hid (Calls Tryz.prog 8 #[] w8 fun e w'=>e=.returned (.bool true)/\Below w.heap.size w w'):=(AW.out _ ht8).mono fun e w' ⟨he,hb⟩=>⟨he,below_then hb8 hb⟩
   clear ht8 hb8 C6 L7
   go_wp2_with fail
   refine Calls.mono A8.out ?_
   rintro e w9 ⟨rfl,hb9⟩
   have HB:Hid (Below w.heap.size w w9):=hb9
   clear hb9 A8
   go_wp2_with fail
   go_returns
   exact ⟨rfl,HB.out⟩
 have HM:Hid (a4=true->a3=true):=fun e=>by
  cases a3
  . exact absurd ⟨e,rfl⟩ hm
  . rfl
 clear hm
 have C6:Hid (Calls Tryz.prog 18 #[pp M.mb,.int .i64 1,.int .i64 a1,.int .i64 2,.int .i64 a2,.agg #[.bool a4,.bool true,.bool false]] w7 fun e w'=>e=.returned (.int .i64 0)/\Lw w b0 b1 F w' M m p t a3 (some ⟨(f:Nat),a3,true,false⟩) (some 1) (some ⟨(f:Nat),a4,true,false⟩) [⟨(t:Nat),(t:Nat)+1,a4,true,false,1⟩] 4 4 12 6022):=by
  have hr:=HR.out
  rw [hr.2.1.1,hr.2.2.1.1]
  exact lw_lend L7.out hr.2.1.2.2 hr.2.2.1.2.2 f rfl rfl rfl rfl a4 HM.out (by omega) (by omega)
 clear L7
 go_upto_region 10 with fail
 go_wp2_with fail
 refine Calls.mono C6.out ?_
 rintro e w8 ⟨rfl,hw8⟩
 have Lw8:Hid (Lw w b0 b1 F w8 M m p t a3 (some ⟨(f:Nat),a3,true,false⟩) (some 1) (some ⟨(f:Nat),a4,true,false⟩) [⟨(t:Nat),(t:Nat)+1,a4,true,false,1⟩] 4 4 12 6022):=hw8
 clear hw8 C6
 go_upto_region 11 with fail
 go_cut [126] (fun v V=>v=.bool false/\V=w8)
 case first =>
  cases a3 <;> cases a4
  all_goals first
   | exact absurd (HM.out rfl) (by decide)
   | (go_wp2_with fail; go_meet; exact ⟨rfl, rfl⟩)
 obtain ⟨rfl,hcw⟩:=hcut
 have hcw2:=hcw.symm
 subst hcw2
 clear hcw HM
 go_upto_region 15 with fail
 have C7:Hid (Calls Tryz.prog 19 #[pp M.mb,.int .i64 2,.int .i64 a2,.agg #[.bool false,.bool true,.bool false]] w8 fun e w'=>e=.returned (.tuple #[.int .i64 f,.int .i64 0,.int .i64 0])/\Lw w b0 b1 F w' M m p t a3 (some ⟨(f:Nat),a3,true,false⟩) (some 1) (some ⟨(f:Nat),a4,true,false⟩) [⟨(t:Nat),(t:Nat)+1,a4,true,false,1⟩] 4 4 12 6022):=by
  have hr:=HR.out
  rw [hr.2.2.1.1]
  exact lw_touch2 Lw8.out a4 f rfl rfl
 clear Lw8
 go_wp2_with fail
 refine Calls.mono C7.out ?_
 rintro e w9 ⟨rfl,hw9⟩
 have Lw9:Hid (Lw w b0 b1 F w9 M m p t a3 (some ⟨(f:Nat),a3,true,false⟩) (some 1) (some ⟨(f:Nat),a4,true,false⟩) [⟨(t:Nat),(t:Nat)+1,a4,true,false,1⟩] 4 4 12 6022):=hw9
 clear hw9 C7
 have C8:Hid (Calls Tryz.prog 20 #[pp M.mb,.int .i64 1,.agg #[.int .i64 a1,.int .i64 p1]] w9 fun e w'=>e=.returned (.int .i64 11)/\Lw w b0 b1 F w' M m p t a3 (some ⟨(f:Nat),a3,true,false⟩) (some 1) (some ⟨(f:Nat),a4,true,false⟩) [⟨(t:Nat),(t:Nat)+1,a4,true,false,1⟩] 4 4 12 6022):=by
  have hr:=HR.out
  rw [hr.2.1.2.1,hr.2.1.1]
  exact lw_unmap1 Lw9.out hr.2.1.2.2 rfl
 clear Lw9
 go_wp2_with fail
 refine Calls.mono C8.out ?_
 rintro e wA ⟨rfl,hwA⟩
 have LwA:Hid (Lw w b0 b1 F wA M m p t a3 (some ⟨(f:Nat),a3,true,false⟩) (some 1) (some ⟨(f:Nat),a4,true,false⟩) [⟨(t:Nat),(t:Nat)+1,a4,true,false,1⟩] 4 4 12 6022):=hwA
 clear hwA C8
 have C9:Hid (Calls Tryz.prog 20 #[pp M.mb,.int .i64 2,.agg #[.int .i64 a2,.int .i64 t1]] wA fun e w'=>e=.returned (.int .i64 11)/\Lw w b0 b1 F w' M m p t a3 (some ⟨(f:Nat),a3,true,false⟩) (some 1) (some ⟨(f:Nat),a4,true,false⟩) [⟨(t:Nat),(t:Nat)+1,a4,true,false,1⟩] 4 4 12 6022):=by
  have hr:=HR.out
  rw [hr.2.2.1.2.1,hr.2.2.1.1]
  exact lw_unmap2 LwA.out hr.2.2.1.2.2 a4 rfl
 clear LwA
 go_wp2_with fail
 refine Calls.mono C9.out ?_
 rintro e wB ⟨rfl,hwB⟩
 have LwB:Hid (Lw w b0 b1 F wB M m p t a3 (some ⟨(f:Nat),a3,true,false⟩) (some 1) (some ⟨(f:Nat),a4,true,false⟩) [⟨(t:Nat),(t:Nat)+1,a4,true,false,1⟩] 4 4 12 6022):=hwB
 clear hwB C9
 have CA:Hid (Calls Tryz.prog 21 #[pp M.mb,.int .i64 1] wB fun e w'=>e=.returned (.int .i64 11)/\Lw w b0 b1 F w' M m p t a3 (some ⟨(f:Nat),a3,true,false⟩) (some 1) (some ⟨(f:Nat),a4,true,false⟩) [⟨(t:Nat),(t:Nat)+1,a4,true,false,1⟩] 4 4 12 6022):=by
  have hr:=HR.out
  exact lw_busy1 LwB.out hr.2.1.2.2 rfl (by omega)
 clear LwB
 go_wp2_with fail
 refine Calls.mono CA.out ?_
 rintro e wC ⟨rfl,hwC⟩
 have LwC:Hid (Lw w b0 b1 F wC M m p t a3 (some ⟨(f:Nat),a3,true,false⟩) (some 1) (some ⟨(f:Nat),a4,true,false⟩) [⟨(t:Nat),(t:Nat)+1,a4,true,false,1⟩] 4 4 12 6022):=hwC
 clear hwC CA
 have CB:Hid (Calls Tryz.prog 21 #[pp M.mb,.int .i64 2] wC fun e w'=>e=.returned (.int .i64 11)/\Lw w b0 b1 F w' M m p t a3 (some ⟨(f:Nat),a3,true,false⟩) (some 1) (some ⟨(f:Nat),a4,true,false⟩) [⟨(t:Nat),(t:Nat)+1,a4,true,false,1⟩] 4 4 12 6022):=by
  have hr:=HR.out
  exact lw_busy2 LwC.out hr.2.2.1.2.2 a4 rfl (by omega)
 clear LwC
 go_wp2_with fail
 refine Calls.mono CB.out ?_
 rintro e wD ⟨rfl,hwD⟩
 have LwD:Hid (Lw w b0 b1 F wD M m p t a3 (some ⟨(f:Nat),a3,true,false⟩) (some 1) (some ⟨(f:Nat),a4,true,false⟩) [⟨(t:Nat),(t:Nat)+1,a4,true,false,1⟩] 4 4 12 6022):=hwD
 clear hwD CB
 have CC:Hid (Calls Tryz.prog 22 #[pp M.mb,.int .i64 1,.int .i64 a1,.int .i64 2,.int .i64 a2] wD fun e w'=>e=.returned (.int .i64 0)/\Lw w b0 b1 F w' M m p t a3 (some ⟨(f:Nat),a3,true,false⟩) (some 0) none [] 4 1 9 6032):=by
  have hr:=HR.out
  rw [hr.2.1.1,hr.2.2.1.1]
  exact lw_back LwD.out hr.2.1.2.2 hr.2.2.1.2.2 f a4 rfl rfl rfl rfl rfl rfl hr.1.2.1 (by omega)
 clear LwD
 go_wp2_with fail
 refine Calls.mono CC.out ?_
 rintro e wE ⟨rfl,hwE⟩
 have LwE:Hid (Lw w b0 b1 F wE M m p t a3 (some ⟨(f:Nat),a3,true,false⟩) (some 0) none [] 4 1 9 6032):=hwE
 clear hwE CC
 have CD:Hid (Calls Tryz.prog 22 #[pp M.mb,.int .i64 1,.int .i64 a1,.int .i64 2,.int .i64 a2] wE fun e w'=>e=.returned (.int .i64 5)/\Lw w b0 b1 F w' M m p t a3 (some ⟨(f:Nat),a3,true,false⟩) (some 0) none [] 4 1 9 6032):=by
  have hr:=HR.out
  rw [hr.2.1.1]
  exact lw_backno LwE.out hr.2.1.2.2 a2 rfl
 clear LwE
 go_wp2_with fail
 refine Calls.mono CD.out ?_
 rintro e wF ⟨rfl,hwF⟩
 have LwF:Hid (Lw w b0 b1 F wF M m p t a3 (some ⟨(f:Nat),a3,true,false⟩) (some 0) none [] 4 1 9 6032):=hwF
 clear hwF CD
 have CE:Hid (Calls Tryz.prog 19 #[pp M.mb,.int .i64 2,.int .i64 a2,.agg #[.bool false,.bool true,.bool false]] wF fun e w'=>e=.returned (.tuple #[.int .i64 0,.int .i64 4,.int .i64 9])/\Lw w b0 b1 F w' M m p t a3 (some ⟨(f:Nat),a3,true,false⟩) (some 0) none [] 4 1 9 6032):=by
  have hr:=HR.out
  rw [hr.2.2.1.1]
  exact lw_touch3 LwF.out rfl rfl
 clear LwF
 go_wp2_with fail
 refine Calls.mono CE.out ?_
 rintro e wG ⟨rfl,hwG⟩
 have LwG:Hid (Lw w b0 b1 F wG M m p t a3 (some ⟨(f:Nat),a3,true,false⟩) (some 0) none [] 4 1 9 6032):=hwG
 clear hwG CE
 have CF:Hid (Calls Tryz.prog 19 #[pp M.mb,.int .i64 1,.int .i64 a1,.agg #[.bool false,.bool true,.bool false]] wG fun e w'=>e=.returned (.tuple #[.int .i64 f,.int .i64 0,.int .i64 0])/\Lw w b0 b1 F w' M m p t a3 (some ⟨(f:Nat),a3,true,false⟩) (some 0) none [] 4 1 9 6032):=by
  have hr:=HR.out
  rw [hr.2.1.1]
  exact lw_touch4 LwG.out f rfl
 clear LwG
 go_wp2_with fail
 refine Calls.mono CF.out ?_
 rintro e wH ⟨rfl,hwH⟩
 have LwH:Hid (Lw w b0 b1 F wH M m p t a3 (some ⟨(f:Nat),a3,true,false⟩) (some 0) none [] 4 1 9 6032):=hwH
 clear hwH CF
 have CG:Hid (Calls Tryz.prog 8 #[] wH fun e w'=>e=.returned (.bool true)/\Lw w b0 b1 F w' M m p t a3 (some ⟨(f:Nat),a3,true,false⟩) (some 0) none [] 4 1 9 6032):=by
  have hr:=HR.out
  exact (AW.out _ LwH.out.tab).mono fun e w' ⟨he,hb⟩=>⟨he,LwH.out.below hb⟩
 clear LwH
 go_wp2_with fail
 refine Calls.mono CG.out ?_
 rintro e wI ⟨rfl,hwI⟩
 have LwI:Hid (Lw w b0 b1 F wI M m p t a3 (some ⟨(f:Nat),a3,true,false⟩) (some 0) none [] 4 1 9 6032):=hwI
 clear hwI CG
 have CH:Hid (Calls Tryz.prog 21 #[pp M.mb,.int .i64 1] wI fun e w'=>e=.returned (.int .i64 0)/\Lo w b0 b1 F w' M m 2 4 6042 (fun L=> ∃ b,L=[b]/\PB b t none [] 1/\b.ln<=6042)):=by
  have hr:=HR.out
  refine Calls.mono (lw_close1 LwI.out hr.2.1.2.2 f rfl rfl rfl rfl rfl rfl hr.1.2.1 (by omega)) ?_
  rintro e w' ⟨he,O,s,L,q1,⟨b,q2,q3,q4⟩,q5⟩
  exact ⟨he,O,s,L,q1,⟨b,q2,q3,by omega⟩,q5⟩
 clear LwI
 go_wp2_with fail
 refine Calls.mono CH.out ?_
 rintro e wJ ⟨rfl,hwJ⟩
 have LwJ:Hid (Lo w b0 b1 F wJ M m 2 4 6042 (fun L=> ∃ b,L=[b]/\PB b t none [] 1/\b.ln<=6042)):=hwJ
 clear hwJ CH
 have CI:Hid (Calls Tryz.prog 21 #[pp M.mb,.int .i64 2] wJ fun e w'=>e=.returned (.int .i64 0)/\Lo w b0 b1 F w' M m 2 3 6052 (fun L=>L=[])):=by
  have hr:=HR.out
  exact lw_close2 hr.1.2.1 (by omega) LwJ.out
 clear LwJ
 go_wp2_with fail
 refine Calls.mono CI.out ?_
 rintro e wK ⟨rfl,hwK⟩
 have LwK:Hid (Lo w b0 b1 F wK M m 2 3 6052 (fun L=>L=[])):=hwK
 clear hwK CI
 have c1:wK.cell? ⟨M.mb,1,none⟩=some (pp m.b):=LwK.out.mac.cell 1
 have CJ:Hid (Calls Tryz.prog 11 #[pp m.b] wK fun e w'=>e=.returned (.int .i64 f3)/\w'=wK):=by
  rw [HR.out.2.2.2]
  exact LwK.out.free
 go_wp2_with fail
 refine Calls.mono CJ.out ?_
 rintro e wL ⟨rfl,hu⟩
 have hu2:=hu.symm
 subst hu2
 clear hu CJ
 have HB:Hid (Below w.heap.size w wK):=LwK.out.bel
 clear c1 LwK
 go_wp2_with fail
 go_returns
 exact ⟨rfl,HB.out⟩
set_option maxRecDepth 100000 in
theorem lifted (os:Os) (started:os.Started) (H:Type) (enc:TypeId × Value->H) :
 ReturnsInHanded {} Tryz.checked os 4 .any (fun w args=>(Rows.spaceLendsSpec.pre enc Tryz.prog Tryz.f4 [] false w args/\laidMetH Tryz.prog laidL w)/\sizedMet enc Tryz.prog Tryz.f4 (OpenSpec.ofChange Rows.spaceLendsSpec) false w args)
  (Rows.spaceLendsSpec.post enc Tryz.prog Tryz.f4 false true false false):=by
 refine returnsInHanded_of_change_and (C:=Tryz.checked) (X:=fun w _=>laidMetH Tryz.prog laidL w) (fun _ _ _ hh h=>h.of_heap hh) own started (by kernel_rfl) Tryz.func4
  (ChangeSpec.witness_shaped (enc:=enc) (C:=Tryz.checked) (os:=os) (X:=fun w _=>laidMetH Tryz.prog laidL w) false (World.doorLaid Tryz.prog 400 os) #[.int .i64 0,.int .i64 0,.int .i64 0,.bool false,.bool false] 8 rfl (World.shaped_of_RefB (by kernel_rfl) (by kernel_rfl)) (by kernel_rfl) (by kernel_rfl) (by kernel_rfl) (door_met os _)) ?_
 intro W base args ds gs before hval0 hW _ _ hL _
 have hval: ∀ (j:Nat) t v,Tryz.f4.params[j]? =some t->args[j]? =some v->Value.okWide Tryz.prog W .any base t v:=hval0
 have hW':=hW
 obtain ⟨p,q,hA0,hV,hbef,hfz,hnd⟩:=hW
 have hA:DataW.TrodAll enc Tryz.prog W 0 (fun _=>true) true Tryz.f4.params.toList args.toList ds p:=hA0
 have hAk:=hA
 have hlt: ∀ x∈p,x.block<W.heap.size:=fun x hx=>hW'.lt x (by rw [hbef];exact List.mem_append_left _ hx)
 rw [Tryz.params4] at hA hval
 obtain ⟨v0,vs0,d0,ds0,p0,q0,hargs,rfl,hp0,h0,r0⟩:=trodAll_cons hA
 obtain ⟨v1,vs1,d1,ds1,p1,q1,rfl,rfl,hp1,h1,r1⟩:=trodAll_cons r0
 obtain ⟨v2,vs2,d2,ds2,p2,q2,rfl,rfl,hp2,h2,r2⟩:=trodAll_cons r1
 obtain ⟨v3,vs3,d3,ds3,p3,q3,rfl,rfl,hp3,h3,r3⟩:=trodAll_cons r2
 obtain ⟨v4,vs4,d4,ds4,p4,q4,rfl,rfl,hp4,h4,r4⟩:=trodAll_cons r3
 obtain ⟨rfl,rfl,hpz⟩:=trodAll_nil r4
 obtain rfl:args= #[v0,v1,v2,v3,v4]:=by cases args;simp_all
 obtain ⟨rfl,rfl⟩:=trodVars_none hV
 obtain ⟨a0,rfl,_,_,w0⟩:=open_int Tryz.underlying3 (hval 0 3 v0 rfl rfl) h0
 obtain ⟨a1,rfl,_,_,w1⟩:=open_int Tryz.underlying3 (hval 1 3 v1 rfl rfl) h1
 obtain ⟨a2,rfl,_,_,w2⟩:=open_int Tryz.underlying3 (hval 2 3 v2 rfl rfl) h2
 obtain ⟨a3,rfl,_,_⟩:=Go.RowKit.open_bool Tryz.underlying4 (hval 3 4 v3 rfl rfl) h3
 obtain ⟨a4,rfl,_,_⟩:=Go.RowKit.open_bool Tryz.underlying4 (hval 4 4 v4 rfl rfl) h4
 clear hA0 hval0
 refine (walk a0 w0 a1 w1 a2 w2 a3 a4 W (of_laid hL) ).mono fun e W' ⟨he,hg⟩=> ?_
 subst he
 exact ⟨_,rfl,⟨_,_,_,[],p,[],hW',(trodAll_cons_mk (shut_bool Tryz.underlying4 _) trodAll_mk0),args_stay laidOut hg (by kernel_rfl) hAk hlt,rfl,hg.frame _,fun h=>by cases h⟩⟩
theorem over:Rows.spaceLendsRow.holds Tryz.pinned (OpenSpec.ofChange Rows.spaceLendsSpec) :=
 OpenClaim.holds_of_wide 4 Tryz.f4 rfl rfl rfl rfl rfl rfl rfl ⟨rfl,rfl,rfl,rfl,rfl⟩ rfl rfl rfl rfl rfl (by kernel_rfl) Tryz.func4 (by kernel_rfl)
  (of_decide_eq_true (by kernel_rfl)) (by unfold Func.isWrapper;first | (rw [if_pos (by decide +kernel)];kernel_rfl) | (rw [if_neg (by decide +kernel)];exact ⟨rfl,rfl⟩))
  (fun os started H enc _=>lifted os started H enc)
theorem proved:Rows.SpaceLendsCardSaid :=
 Claim7.holds_tied_plain_at .later [] [.data] true (true, "a47a28a7c6d7ff40323a5e2f13c7e9e75c586a0c4fb8b4823996e2b6607dec9c") true
  over (fun _ h=>by cases h) (by kernel_rfl) (fun _ h=>by cases h) spaceLends_row_tie rfl ⟨rfl,rfl⟩ (by kernel_rfl) rfl
  (fun f fn hf hfn=>by
   obtain rfl : f = 4 := Option.some.inj ((show Tryz.prog.funcNamed "demesne/demesnelaw12.SpaceLends" = some 4 by kernel_rfl).symm.trans hf) |>.symm
   obtain rfl:fn=Tryz.f4:=(Option.some.inj (Tryz.func4.symm.trans hfn)).symm
   exact ⟨by kernel_rfl,fun j t ht=>by
    rw [Tryz.params4] at ht
    have hm:t∈[3,3,3,4,4]:=by simpa using Array.mem_of_getElem? ht
    have hall:([3,3,3,4,4].all fun u=> !Tryz.prog.wantsStandIn u)=true:=by kernel_rfl
    exact (show Tryz.prog.wantsStandIn t=false by simpa using List.all_eq_true.1 hall t hm)⟩)
  (by kernel_rfl)
#print axioms proved
end Go.Proofs.YtmabmknmnkhhbaaGreatDoor.spaceLends
