/- P19.1 in the law FlatCosts: pages cost just the tables that they don't share,and a frame each. -/
import Derived.Test.YtlaiadheelgbdaaGreatRows
import Derived.ProofKit
import Derived.OpenShut
import Derived.Carry
import Derived.Test.YtlaiadheelgbdaaGreatFTc
namespace Go.Proofs.YtlaiadheelgbdaaGreat.flatCosts
open Go.ChangeShapes Go.WideShapes Go.ChangeAt Go.RowKit Go.Maps
set_option linter.unusedSimpArgs false
set_option linter.unusedVariables false
open Go.Proofs.YtlaiadheelgbdaaGreat.Ca (args_stay)
open Go.Proofs.YtlaiadheelgbdaaGreat.Fl
theorem fs_len {O:Nat->Nat} {W:World} {M:Fb} {fr:List Int} {i:Nat} {u:Int} (h:Fs M fr i u O W):fr.length<=i/\1<=u/\u<=1+4*i:=by
 obtain ⟨n,T,P,_,hC,_,hu⟩:=h
 have:=hC.used
 rw [hu] at this
 exact ⟨hC.len,this⟩
theorem low_grown {O:Nat->Nat} {w V V':World} {r:Option Nat} (h:Low O w V) (hg:V.grownBy V' r) (hb: ∀ g,r=some g->w.heap.size<=g):Low O w V' :=
 ⟨⟨hg.os.trans h.1.os,hg.tape.trans h.1.tape,hg.output.trans h.1.output,Nat.le_trans h.1.size hg.size,fun j hj=>(hg.block j (Nat.lt_of_lt_of_le hj h.1.size) (fun q=>by have:=hb j q.symm;omega)).trans (h.1.block j hj)⟩,h.2⟩
theorem app_after {O:Nat->Nat} {w V V':World} {M:Fb} {fr:List Int} {k:Nat} {u p:Int} {v nv:Value} (h:Fs M fr k u O V) (hl:Low O w V) (hf:Fr O V v fr) (hG: ∀ g,v.ownBlock=some g->w.heap.size<=g) (hown:V'.ownsRow 0 3 1 nv (fr.length+1) (encI fr++[.int .i64 p])) (hg:V.grownBy V' v.ownBlock) (hblk:nv.ownBlock=v.ownBlock\/nv.ownBlock=some V.heap.size) :
 Fs M fr k u O V'/\Low O w V'/\Fr O V' nv (fr++[p])/\ ∀ g,nv.ownBlock=some g->w.heap.size<=g:=by
 refine ⟨h.keep hg.size (fun j hj=>hg.block j (h.lt j hj) (fun q=>hj (hf.2 j q.symm))),low_grown hl hg hG,⟨OwnI.next hown,fun g e=> ?_⟩,fun g e=> ?_⟩
 . rcases hblk with b | b
   . exact hf.2 g (b.symm.trans e)
   . have:V.heap.size=g:=Option.some.inj (b.symm.trans e)
     exact Decidable.byContradiction fun q=>by have:=h.lt g q;omega
 . rcases hblk with b | b
   . exact hG g (b.symm.trans e)
   . have e2:V.heap.size=g:=Option.some.inj (b.symm.trans e)
     have:=hl.1.size;omega
set_option maxRecDepth 8000 in
set_option maxHeartbeats 16000000 in
theorem walk (p0:Option Addr) (n0 c0:Nat) (A0:Nat->Int) (m0:n0<=maxLen) (w:World) (H0:IsInts w p0 n0 A0) :
 Calls Tryz.prog 4 #[.slice p0 n0 c0] w fun e w'=>e=.returned (.bool true)/\Below w.heap.size w w':=by
 have AW:Hid (∀ W:World,Calls Tryz.prog 7 #[] W fun e w'=>e=.returned (.bool true)/\Below W.heap.size W w'):=awake_any
 have BO:Hid (Calls Tryz.prog 10 #[.int .i64 1000,.int .i64 2,.int .i64 1] w _):=boot_ok 1000 2 1 (by omega) (by omega) (by omega) (by omega) (by omega) w
 have mm:(n0:Int)<=9223372036854775807:=by
  have:maxLen<=9223372036854775807:=by decide +kernel
  omega
 have HA:Hid (IsInts w p0 n0 A0):=H0
 clear H0
 go_enter Tryz.func4,Tryz.ntmps4
 go_wp2_with fail
 refine Calls.mono BO.out ?_
 rintro e u0 ⟨O0,M,T,rfl,hF,h1,h2,h3,hO,hb⟩
 have s1:Below u0.heap.size u0 (u0.alloc (.cells #[] 3)):=Go.Joins.below_alloc1 _ _
 have E0:Hid (Fs M [] 0 1 O0 (u0.alloc (.cells #[] 3))/\Low O0 w (u0.alloc (.cells #[] 3))/\Fr O0 (u0.alloc (.cells #[] 3)) (.slice (some ⟨u0.heap.size,0,none⟩) 0 0) []) :=
  ⟨⟨1,T,_,hF.below s1,Cs.start h1 h2 (by omega),by omega,h2⟩,Low.below ⟨hb,hO⟩ s1,⟨(starti u0).1,Or.inr (by
   obtain ⟨_,q | ⟨g,cap,cur,e1,e2,e3⟩⟩:=starti u0
   . cases q.1
   . exact ⟨g,cap,cur,e1,Nat.zero_le _,e3⟩)⟩,fun g hg=>by
   cases hg
   exact Decidable.byContradiction fun q=>Nat.lt_irrefl _ (hF.lt _ q)⟩
 have G0:Hid (∀ g,(Value.slice (some ⟨u0.heap.size,0,none⟩) 0 0).ownBlock=some g->w.heap.size<=g):=fun g hg=>by cases hg;exact hb.size
 clear hF h1 h2 h3 hO hb s1 BO
 go_wp2_with fail
 go_loopw [5,6] (fun fv x W=> ∃ (k:Nat) (fr:List Int) (u:Int) (O:Nat->Nat),k<=n0/\k<=40/\x=.int .i64 k/\Hid (Fs M fr k u O W/\Low O w W/\Fr O W fv fr)/\Hid (∀ g,fv.ownBlock=some g->w.heap.size<=g)) (fun _ x _=>40-(intOf x).toNat)
 case atStart=>exact ⟨0,[],1,O0,by omega,by omega,rfl,E0,G0⟩
 case round =>
  obtain ⟨k,fr,u,O,hk,hk4,rfl,hR,hG⟩:=hrel
  obtain ⟨q,cq,hv,_⟩:=owni_read hR.out.2.2.1
  subst hv
  have lf40:fr.length<=40:=by have:=(fs_len hR.out.1).1;omega
  by_cases hlt:k<n0/\k<40
  . have hd:decide ((k:Int)<(n0:Int))=true:=by simp;omega
    have hd2:decide ((k:Int)<40)=true:=by simp;omega
    obtain ⟨b,o,rfl,lb,c1,wf⟩:=HA.out k hlt.1
    generalize A0 k=p at c1 wf
    have y1:wr.cell? ⟨b,o+k,none⟩=some (.int .i64 p):=(hR.out.2.1.1.cell (p:=⟨b,_,none⟩) lb).trans c1
    have lbw:b<wr.heap.size:=Nat.lt_of_lt_of_le lb hR.out.2.1.1.size
    clear c1 lb
    by_cases pn:p<0
    . have pd:decide (p<0)=true:=by simp [pn]
      go_wp2_with fail
      go_roundw
      case rel=>exact ⟨k+1,fr,u,O,by omega,by omega,by go_num,⟨hR.out.1.later,hR.out.2⟩,hG⟩
      case measure=>simp [intOf];omega
    have pd:decide (p<0)=false:=by simp;omega
    by_cases pt:34359738368<=p
    . have pe:decide (34359738368<=p)=true:=by simp [pt]
      go_wp2_with fail
      go_roundw
      case rel=>exact ⟨k+1,fr,u,O,by omega,by omega,by go_num,⟨hR.out.1.later,hR.out.2⟩,hG⟩
      case measure=>simp [intOf];omega
    have pe:decide (34359738368<=p)=false:=by simp;omega
    have s3:Below wr.heap.size wr (wr.alloc (.cells #[.int .i64 9,.int .i64 18,.int .i64 27] 3)):=Go.Joins.below_alloc1 _ _
    have E3:Hid (Fs M fr k u O (wr.alloc (.cells #[.int .i64 9,.int .i64 18,.int .i64 27] 3))/\Low O w (wr.alloc (.cells #[.int .i64 9,.int .i64 18,.int .i64 27] 3))/\Fr O (wr.alloc (.cells #[.int .i64 9,.int .i64 18,.int .i64 27] 3)) (.slice q fr.length cq) fr/\Blk (wr.alloc (.cells #[.int .i64 9,.int .i64 18,.int .i64 27] 3)) wr.heap.size [.int .i64 9,.int .i64 18,.int .i64 27] 3):=⟨hR.out.1.below s3,hR.out.2.1.below s3,hR.out.2.2.below s3,Blk.made _ _ _⟩
    clear s3 hR
    go_wp2_with fail
    generalize (wr.alloc (.cells #[.int .i64 9,.int .i64 18,.int .i64 27] 3))=V0 at E3 |-
    generalize wr.heap.size=bb at E3 |-
    go_loopw [8,9,51] (fun c t x W=> ∃ (j:Nat) (th:Bool),j<=3/\c=.int .i64 (costQ fr p j)/\t=.bool th/\Hid (th=(if j=0 then false else inB fr p))/\x=.int .i64 j/\Hid (Fs M fr k u O W/\Low O w W/\Fr O W (.slice q fr.length cq) fr/\Blk W bb [.int .i64 9,.int .i64 18,.int .i64 27] 3)) (fun _ _ x _=>3-(intOf x).toNat)
    case atStart=>exact ⟨0,false,by omega,rfl,rfl,rfl,rfl,E3⟩
    case round =>
     obtain ⟨j,th,hj,rfl,rfl,hth,rfl,hX⟩:=hrel
     have hj4:j=0\/j=1\/j=2\/j=3:=by omega
     clear hj
     rcases hj4 with rfl | rfl | rfl | rfl
     . have cby:wr.cell? ⟨bb,0,none⟩=some (.int .i64 9):=hX.out.2.2.2.cell 0
       have lbb:bb<wr.heap.size:=hX.out.2.2.2.lt
       go_wp2_with fail
       clear cby lbb
       go_loopw [9,12,57] (fun t s y W=> ∃ i:Nat,i<=fr.length/\t=.bool (th || inB (fr.take i) p)/\s=.bool (shB 512 (fr.take i) p)/\y=.int .i64 i/\Hid (Fs M fr k u O W/\Low O w W/\Fr O W (.slice q fr.length cq) fr/\Blk W bb [.int .i64 9,.int .i64 18,.int .i64 27] 3)) (fun _ _ y _=>fr.length-(intOf y).toNat)
       case atStart=>exact ⟨0,by omega,by simp [inB],by simp [shB],rfl,hX⟩
       case round =>
        obtain ⟨i,hi,rfl,rfl,rfl,hY⟩:=hrel
        by_cases hl:i<fr.length
        . have hdi:decide ((i:Int)<(fr.length:Int))=true:=by simp;omega
          obtain ⟨q',cq',e,hI⟩:=owni_read hY.out.2.2.1.1
          cases e
          obtain ⟨g,rfl,_,lg,cg⟩:=hI i hl
          have S1:=sh_take 512 fr p i hl
          have I1:=in_take fr p i hl
          generalize fr.getD i 0=z at cg S1 I1
          have T1:(th || inB (fr.take (i+1)) p)=((th || inB (fr.take i) p) || decide (p=z)):=by rw [I1,Bool.or_assoc]
          generalize shB 512 (fr.take i) p=s0 at S1 |-
          generalize (th || inB (fr.take i) p)=t0 at T1 |-
          clear hI I1
          have HL:Hid (i<fr.length):=hl
          have DY:Hid (Fs M fr k u O wr.drew/\Low O w wr.drew/\Fr O wr.drew (.slice (some ⟨g,0,none⟩) fr.length cq) fr/\Blk wr.drew bb [.int .i64 9,.int .i64 18,.int .i64 27] 3):=by
           have bd:Below wr.heap.size wr wr.drew:=below_drew (Below.refl _ _)
           exact ⟨hY.out.1.below bd,hY.out.2.1.below bd,hY.out.2.2.1.below bd,hY.out.2.2.2.below bd⟩
          obtain ⟨fl,hfl⟩: ∃ fl,fl=fr.length:=⟨_,rfl⟩
          rw [<- hfl] at hdi hl DY lf40
          rw [<- hfl]
          clear hfl HL
          have SH:Hid (shB 512 (fr.take (i+1)) p=(s0 || decide (p / 512=z / 512))):=S1
          have TH:Hid ((th || inB (fr.take (i+1)) p)=(t0 || decide (p=z))):=T1
          clear S1 T1
          cases s0 <;> cases t0
          all_goals go_wp2_with fail
          all_goals go_region
          all_goals go_wp2_with fail
          all_goals go_roundw
          all_goals first | exact ⟨i+1,by omega,by rw [TH.out];rfl,by rw [SH.out];rfl,by go_num,DY⟩ | (simp [intOf];omega)
        . obtain rfl:i=fr.length:=by omega
          rw [List.take_length]
          have cb:=costQ_bd fr p 0
          have TH:Hid ((th || inB fr p)=inB fr p):=by
           show (th || inB fr p)=inB fr p
           rw [hth.out]
           simp
          generalize (th || inB fr p)=t0 at TH |-
          have CQ:Hid (costQ fr p 1=costQ fr p 0-(if shB 512 fr p then 1 else 0)):=rfl
          generalize costQ fr p 0=c0 at cb CQ |-
          generalize shB 512 fr p=s0 at CQ |-
          clear hl hi hth
          cases s0
          . go_wp2_with fail
            go_roundw
            case rel=>exact ⟨1,t0,by omega,by rw [CQ.out];simp,rfl,(by show t0=(if 1=0 then false else inB fr p);rw [if_neg (by omega)];exact TH.out),by go_num,hY⟩
            case measure=>simp [intOf]
          . go_wp2_with fail
            go_roundw
            case rel=>exact ⟨1,t0,by omega,by rw [CQ.out];show _=Value.int .i64 (c0-1);go_num,rfl,(by show t0=(if 1=0 then false else inB fr p);rw [if_neg (by omega)];exact TH.out),by go_num,hY⟩
            case measure=>simp [intOf]
     . have cby:wr.cell? ⟨bb,1,none⟩=some (.int .i64 18):=hX.out.2.2.2.cell 1
       have lbb:bb<wr.heap.size:=hX.out.2.2.2.lt
       go_wp2_with fail
       clear cby lbb
       go_loopw [9,12,57] (fun t s y W=> ∃ i:Nat,i<=fr.length/\t=.bool (th || inB (fr.take i) p)/\s=.bool (shB 262144 (fr.take i) p)/\y=.int .i64 i/\Hid (Fs M fr k u O W/\Low O w W/\Fr O W (.slice q fr.length cq) fr/\Blk W bb [.int .i64 9,.int .i64 18,.int .i64 27] 3)) (fun _ _ y _=>fr.length-(intOf y).toNat)
       case atStart=>exact ⟨0,by omega,by simp [inB],by simp [shB],rfl,hX⟩
       case round =>
        obtain ⟨i,hi,rfl,rfl,rfl,hY⟩:=hrel
        by_cases hl:i<fr.length
        . have hdi:decide ((i:Int)<(fr.length:Int))=true:=by simp;omega
          obtain ⟨q',cq',e,hI⟩:=owni_read hY.out.2.2.1.1
          cases e
          obtain ⟨g,rfl,_,lg,cg⟩:=hI i hl
          have S1:=sh_take 262144 fr p i hl
          have I1:=in_take fr p i hl
          generalize fr.getD i 0=z at cg S1 I1
          have T1:(th || inB (fr.take (i+1)) p)=((th || inB (fr.take i) p) || decide (p=z)):=by rw [I1,Bool.or_assoc]
          generalize shB 262144 (fr.take i) p=s0 at S1 |-
          generalize (th || inB (fr.take i) p)=t0 at T1 |-
          clear hI I1
          have HL:Hid (i<fr.length):=hl
          have DY:Hid (Fs M fr k u O wr.drew/\Low O w wr.drew/\Fr O wr.drew (.slice (some ⟨g,0,none⟩) fr.length cq) fr/\Blk wr.drew bb [.int .i64 9,.int .i64 18,.int .i64 27] 3):=by
           have bd:Below wr.heap.size wr wr.drew:=below_drew (Below.refl _ _)
           exact ⟨hY.out.1.below bd,hY.out.2.1.below bd,hY.out.2.2.1.below bd,hY.out.2.2.2.below bd⟩
          obtain ⟨fl,hfl⟩: ∃ fl,fl=fr.length:=⟨_,rfl⟩
          rw [<- hfl] at hdi hl DY lf40
          rw [<- hfl]
          clear hfl HL
          have SH:Hid (shB 262144 (fr.take (i+1)) p=(s0 || decide (p / 262144=z / 262144))):=S1
          have TH:Hid ((th || inB (fr.take (i+1)) p)=(t0 || decide (p=z))):=T1
          clear S1 T1
          cases s0 <;> cases t0
          all_goals go_wp2_with fail
          all_goals go_region
          all_goals go_wp2_with fail
          all_goals go_roundw
          all_goals first | exact ⟨i+1,by omega,by rw [TH.out];rfl,by rw [SH.out];rfl,by go_num,DY⟩ | (simp [intOf];omega)
        . obtain rfl:i=fr.length:=by omega
          rw [List.take_length]
          have cb:=costQ_bd fr p 1
          have TH:Hid ((th || inB fr p)=inB fr p):=by
           show (th || inB fr p)=inB fr p
           rw [hth.out]
           rw [if_neg (by omega)];exact Bool.or_self _
          generalize (th || inB fr p)=t0 at TH |-
          have CQ:Hid (costQ fr p 2=costQ fr p 1-(if shB 262144 fr p then 1 else 0)):=rfl
          generalize costQ fr p 1=c0 at cb CQ |-
          generalize shB 262144 fr p=s0 at CQ |-
          clear hl hi hth
          cases s0
          . go_wp2_with fail
            go_roundw
            case rel=>exact ⟨2,t0,by omega,by rw [CQ.out];simp,rfl,(by show t0=(if 2=0 then false else inB fr p);rw [if_neg (by omega)];exact TH.out),by go_num,hY⟩
            case measure=>simp [intOf]
          . go_wp2_with fail
            go_roundw
            case rel=>exact ⟨2,t0,by omega,by rw [CQ.out];show _=Value.int .i64 (c0-1);go_num,rfl,(by show t0=(if 2=0 then false else inB fr p);rw [if_neg (by omega)];exact TH.out),by go_num,hY⟩
            case measure=>simp [intOf]
     . have cby:wr.cell? ⟨bb,2,none⟩=some (.int .i64 27):=hX.out.2.2.2.cell 2
       have lbb:bb<wr.heap.size:=hX.out.2.2.2.lt
       go_wp2_with fail
       clear cby lbb
       go_loopw [9,12,57] (fun t s y W=> ∃ i:Nat,i<=fr.length/\t=.bool (th || inB (fr.take i) p)/\s=.bool (shB 134217728 (fr.take i) p)/\y=.int .i64 i/\Hid (Fs M fr k u O W/\Low O w W/\Fr O W (.slice q fr.length cq) fr/\Blk W bb [.int .i64 9,.int .i64 18,.int .i64 27] 3)) (fun _ _ y _=>fr.length-(intOf y).toNat)
       case atStart=>exact ⟨0,by omega,by simp [inB],by simp [shB],rfl,hX⟩
       case round =>
        obtain ⟨i,hi,rfl,rfl,rfl,hY⟩:=hrel
        by_cases hl:i<fr.length
        . have hdi:decide ((i:Int)<(fr.length:Int))=true:=by simp;omega
          obtain ⟨q',cq',e,hI⟩:=owni_read hY.out.2.2.1.1
          cases e
          obtain ⟨g,rfl,_,lg,cg⟩:=hI i hl
          have S1:=sh_take 134217728 fr p i hl
          have I1:=in_take fr p i hl
          generalize fr.getD i 0=z at cg S1 I1
          have T1:(th || inB (fr.take (i+1)) p)=((th || inB (fr.take i) p) || decide (p=z)):=by rw [I1,Bool.or_assoc]
          generalize shB 134217728 (fr.take i) p=s0 at S1 |-
          generalize (th || inB (fr.take i) p)=t0 at T1 |-
          clear hI I1
          have HL:Hid (i<fr.length):=hl
          have DY:Hid (Fs M fr k u O wr.drew/\Low O w wr.drew/\Fr O wr.drew (.slice (some ⟨g,0,none⟩) fr.length cq) fr/\Blk wr.drew bb [.int .i64 9,.int .i64 18,.int .i64 27] 3):=by
           have bd:Below wr.heap.size wr wr.drew:=below_drew (Below.refl _ _)
           exact ⟨hY.out.1.below bd,hY.out.2.1.below bd,hY.out.2.2.1.below bd,hY.out.2.2.2.below bd⟩
          obtain ⟨fl,hfl⟩: ∃ fl,fl=fr.length:=⟨_,rfl⟩
          rw [<- hfl] at hdi hl DY lf40
          rw [<- hfl]
          clear hfl HL
          have SH:Hid (shB 134217728 (fr.take (i+1)) p=(s0 || decide (p / 134217728=z / 134217728))):=S1
          have TH:Hid ((th || inB (fr.take (i+1)) p)=(t0 || decide (p=z))):=T1
          clear S1 T1
          cases s0 <;> cases t0
          all_goals go_wp2_with fail
          all_goals go_region
          all_goals go_wp2_with fail
          all_goals go_roundw
          all_goals first | exact ⟨i+1,by omega,by rw [TH.out];rfl,by rw [SH.out];rfl,by go_num,DY⟩ | (simp [intOf];omega)
        . obtain rfl:i=fr.length:=by omega
          rw [List.take_length]
          have cb:=costQ_bd fr p 2
          have TH:Hid ((th || inB fr p)=inB fr p):=by
           show (th || inB fr p)=inB fr p
           rw [hth.out]
           rw [if_neg (by omega)];exact Bool.or_self _
          generalize (th || inB fr p)=t0 at TH |-
          have CQ:Hid (costQ fr p 3=costQ fr p 2-(if shB 134217728 fr p then 1 else 0)):=rfl
          generalize costQ fr p 2=c0 at cb CQ |-
          generalize shB 134217728 fr p=s0 at CQ |-
          clear hl hi hth
          cases s0
          . go_wp2_with fail
            go_roundw
            case rel=>exact ⟨3,t0,by omega,by rw [CQ.out];simp,rfl,(by show t0=(if 3=0 then false else inB fr p);rw [if_neg (by omega)];exact TH.out),by go_num,hY⟩
            case measure=>simp [intOf]
          . go_wp2_with fail
            go_roundw
            case rel=>exact ⟨3,t0,by omega,by rw [CQ.out];show _=Value.int .i64 (c0-1);go_num,rfl,(by show t0=(if 3=0 then false else inB fr p);rw [if_neg (by omega)];exact TH.out),by go_num,hY⟩
            case measure=>simp [intOf]
     . have hp0:0<=p:=by omega
       have hp1:p<34359738368:=by omega
       rw [costQ_three]
       have cb:=costP_bd fr p
       by_cases hin:p∈fr
       . obtain rfl:th=true:=by rw [hth.out,if_neg (by omega)];exact (in_iff fr p).2 hin
         have U1:Hid (Calls Tryz.prog 9 #[pp M.mb,.int .i64 0] wr fun e w'=>e=.returned (.int .i64 u)/\Below wr.heap.size wr w'):=st_used hX.out.1 (by omega)
         clear hth
         go_wp2_with fail
         refine Calls.mono U1.out ?_
         rintro e v1 ⟨rfl,hb⟩
         have F1:Hid (Fs M fr k u O v1/\Low O w v1/\Fr O v1 (.slice q fr.length cq) fr):=⟨hX.out.1.below hb,hX.out.2.1.below hb,hX.out.2.2.1.below hb⟩
         have D1:Hid (Calls Tryz.prog 5 #[pp M.mb,.agg #[.int .u64 1,.int .u64 p,.int .u64 1,.int .u64 1,.int .u64 0,.int .u64 0]] v1 fun e w'=>e=.returned (.agg #[.int .i64 0,.int .u64 0,.int .i64 6,.int .u64 0,.int .i64 0,.bool false])/\Tx O v1 (Fs M fr k u) w'):=st_dup p hp0 hp1 hlt.2 hin F1.out.1
         clear hb U1 hX
         go_wp2_with fail
         refine Calls.mono D1.out ?_
         rintro e v2 ⟨rfl,O2,hF,e1,l1,k1⟩
         have s1:Below v2.heap.size v2 (v2.alloc (.cells #[.int .i64 0,.int .u64 0,.int .i64 6,.int .u64 0,.int .i64 0,.bool false] 39)):=Go.Joins.below_alloc1 _ _
         have F2:Hid (Fs M fr k u O2 (v2.alloc (.cells #[.int .i64 0,.int .u64 0,.int .i64 6,.int .u64 0,.int .i64 0,.bool false] 39))/\Low O2 w (v2.alloc (.cells #[.int .i64 0,.int .u64 0,.int .i64 6,.int .u64 0,.int .i64 0,.bool false] 39))/\Fr O2 (v2.alloc (.cells #[.int .i64 0,.int .u64 0,.int .i64 6,.int .u64 0,.int .i64 0,.bool false] 39)) (.slice q fr.length cq) fr/\Bx O2 (v2.alloc (.cells #[.int .i64 0,.int .u64 0,.int .i64 6,.int .u64 0,.int .i64 0,.bool false] 39)) v2.heap.size [.int .i64 0,.int .u64 0,.int .i64 6,.int .u64 0,.int .i64 0,.bool false] 39):=⟨hF.below s1,(F1.out.2.1.on e1 k1).below s1,(F1.out.2.2.on e1 k1).below s1,Bx.made l1 _ _⟩
         have U2:Hid (Calls Tryz.prog 9 #[pp M.mb,.int .i64 0] (v2.alloc (.cells #[.int .i64 0,.int .u64 0,.int .i64 6,.int .u64 0,.int .i64 0,.bool false] 39)) fun e w'=>e=.returned (.int .i64 u)/\Below (v2.alloc (.cells #[.int .i64 0,.int .u64 0,.int .i64 6,.int .u64 0,.int .i64 0,.bool false] 39)).heap.size (v2.alloc (.cells #[.int .i64 0,.int .u64 0,.int .i64 6,.int .u64 0,.int .i64 0,.bool false] 39)) w'):=st_used F2.out.1 (by omega)
         clear hF e1 l1 k1 s1 D1 F1
         go_wp2_with fail
         refine Calls.mono U2.out ?_
         rintro e v3 ⟨rfl,hb⟩
         have F3:Hid (Fs M fr k u O2 v3/\Low O2 w v3/\Fr O2 v3 (.slice q fr.length cq) fr/\Bx O2 v3 v2.heap.size [.int .i64 0,.int .u64 0,.int .i64 6,.int .u64 0,.int .i64 0,.bool false] 39):=⟨F2.out.1.below hb,F2.out.2.1.below hb,F2.out.2.2.1.below hb,F2.out.2.2.2.below hb⟩
         have D2:Hid (Calls Tryz.prog 5 #[pp M.mb,.agg #[.int .u64 5,.int .u64 (p*4096),.int .u64 8,.int .u64 k,.int .u64 0,.int .u64 0]] v3 fun e w'=>e=.returned (.agg #[.int .i64 0,.int .u64 0,.int .i64 0,.int .u64 0,.int .i64 0,.bool false])/\Tx O2 v3 (Fs M fr k u) w'):=st_old p hp0 hp1 hlt.2 hin F3.out.1
         clear hb U2 F2
         go_wp2_with fail
         refine Calls.mono D2.out ?_
         rintro e v4 ⟨rfl,O4,hF,e1,l1,k1⟩
         have s1:Below v4.heap.size v4 (v4.alloc (.cells #[.int .i64 0,.int .u64 0,.int .i64 0,.int .u64 0,.int .i64 0,.bool false] 39)):=Go.Joins.below_alloc1 _ _
         have F4:Hid (Fs M fr k u O4 (v4.alloc (.cells #[.int .i64 0,.int .u64 0,.int .i64 0,.int .u64 0,.int .i64 0,.bool false] 39))/\Low O4 w (v4.alloc (.cells #[.int .i64 0,.int .u64 0,.int .i64 0,.int .u64 0,.int .i64 0,.bool false] 39))/\Fr O4 (v4.alloc (.cells #[.int .i64 0,.int .u64 0,.int .i64 0,.int .u64 0,.int .i64 0,.bool false] 39)) (.slice q fr.length cq) fr/\Bx O4 v4 v2.heap.size [.int .i64 0,.int .u64 0,.int .i64 6,.int .u64 0,.int .i64 0,.bool false] 39):=⟨hF.below s1,(F3.out.2.1.on e1 k1).below s1,(F3.out.2.2.1.on e1 k1).below s1,F3.out.2.2.2.on e1 k1⟩
         have U3:Hid (Calls Tryz.prog 9 #[pp M.mb,.int .i64 0] (v4.alloc (.cells #[.int .i64 0,.int .u64 0,.int .i64 0,.int .u64 0,.int .i64 0,.bool false] 39)) fun e w'=>e=.returned (.int .i64 u)/\Below (v4.alloc (.cells #[.int .i64 0,.int .u64 0,.int .i64 0,.int .u64 0,.int .i64 0,.bool false] 39)).heap.size (v4.alloc (.cells #[.int .i64 0,.int .u64 0,.int .i64 0,.int .u64 0,.int .i64 0,.bool false] 39)) w'):=st_used F4.out.1 (by omega)
         have c1:v4.cell? ⟨v2.heap.size,2,none⟩=some (.int .i64 6):=F4.out.2.2.2.1.cell 2
         have lt1:v2.heap.size<v4.heap.size:=F4.out.2.2.2.1.lt
         have F5:Hid (Bx O4 (v4.alloc (.cells #[.int .i64 0,.int .u64 0,.int .i64 0,.int .u64 0,.int .i64 0,.bool false] 39)) v2.heap.size [.int .i64 0,.int .u64 0,.int .i64 6,.int .u64 0,.int .i64 0,.bool false] 39):=F4.out.2.2.2.below s1
         have ub:=(fs_len F4.out.1).2
         clear hF e1 l1 k1 s1 D2 F3
         go_wp2_with fail
         refine Calls.mono U3.out ?_
         rintro e v5 ⟨rfl,hb⟩
         have F6:Hid (Fs M fr k u O4 v5/\Low O4 w v5/\Fr O4 v5 (.slice q fr.length cq) fr/\Bx O4 v5 v2.heap.size [.int .i64 0,.int .u64 0,.int .i64 6,.int .u64 0,.int .i64 0,.bool false] 39):=⟨F4.out.1.below hb,F4.out.2.1.below hb,F4.out.2.2.1.below hb,F5.out.below hb⟩
         clear hb U3 F4 F5 c1 lt1
         have c1:v5.cell? ⟨v2.heap.size,2,none⟩=some (.int .i64 6):=F6.out.2.2.2.1.cell 2
         have lt1:v2.heap.size<v5.heap.size:=F6.out.2.2.2.1.lt
         go_wp2_with fail
         go_roundw
         case rel=>exact ⟨k+1,fr,u,O4,by omega,by omega,by go_num,⟨F6.out.1.later,F6.out.2.1,F6.out.2.2.1⟩,hG⟩
         case measure=>simp [intOf];omega
       . obtain rfl:th=false:=by
          rw [hth.out,if_neg (by omega)]
          cases hq:inB fr p
          . rfl
          . exact absurd ((in_iff fr p).1 hq) hin
         obtain ⟨c9,hc9⟩: ∃ c9,c9=costP fr p:=⟨_,rfl⟩
         rw [<- hc9] at cb
         rw [<- hc9]
         have HC:Hid (c9=costP fr p):=hc9
         clear hc9 hth
         obtain ⟨i0,hi,hz⟩:=Option.map_eq_some_iff.1 int_info5
         simp only [Prod.mk.injEq] at hz
         obtain ⟨hz0,hz1,hz2⟩:=hz
         have s1:Below wr.heap.size wr (wr.alloc (.cells #[.int .i64 p] 3)):=Go.Joins.below_alloc1 _ _
         have FA:Hid (Fs M fr k u O (wr.alloc (.cells #[.int .i64 p] 3))/\Low O w (wr.alloc (.cells #[.int .i64 p] 3))/\Fr O (wr.alloc (.cells #[.int .i64 p] 3)) (.slice q fr.length cq) fr):=⟨hX.out.1.below s1,hX.out.2.1.below s1,hX.out.2.2.1.below s1⟩
         have NW:Hid (∀ j x,([.int .i64 p]:List Value)[j]? =some x->(wr.alloc (.cells #[.int .i64 p] 3)).cell? ((⟨wr.heap.size,0,none⟩:Addr).add j)=some x):=one_new ((Blk.made wr [.int .i64 p] 3).cell 0)
         have ON:Hid (∀ x∈([.int .i64 p]:List Value),x.oneCell'=true):=one_one p
         have OW:Hid ((wr.alloc (.cells #[.int .i64 p] 3)).ownsRow 0 3 1 (.slice q fr.length cq) fr.length (encI fr)):=FA.out.2.2.1
         have MX:Hid (fr.length+1<=maxLen):=by show _<=_;unfold maxLen;omega
         have BY:Hid ((fr.length+1)*8<=140737488355328):=by show _<=_;omega
         clear s1 hX
         go_wp2_with (at_builtin;refine wpList_append_own_at _ rfl _ _ 44 rfl 0 3 i0 (.int .i64 0) 1 8 Tryz.underlying44 hi hz0 hz1 hz2 rfl (by decide) (.slice q fr.length cq) fr.length (encI fr) rfl OW.out ⟨wr.heap.size,0,none⟩ 1 1 [.int .i64 p] rfl rfl NW.out ON.out MX.out BY.out (Nat.zero_le _) ?_;intro nv v0 hown hg hnil hblk;have FB:Hid (Fs M fr k u O v0/\Low O w v0/\Fr O v0 nv (fr++[p])/\ ∀ g,nv.ownBlock=some g->w.heap.size<=g):=app_after FA.out.1 FA.out.2.1 FA.out.2.2 hG.out hown hg hblk;clear hown hg hnil hblk OW NW ON MX BY FA)
         have U1:Hid (Calls Tryz.prog 9 #[pp M.mb,.int .i64 0] v0 fun e w'=>e=.returned (.int .i64 u)/\Below v0.heap.size v0 w'):=st_used FB.out.1 (by omega)
         go_wp2_with fail
         refine Calls.mono U1.out ?_
         rintro e v1 ⟨rfl,hb⟩
         have F1:Hid (Fs M fr k u O v1/\Low O w v1/\Fr O v1 nv (fr++[p])):=⟨FB.out.1.below hb,FB.out.2.1.below hb,FB.out.2.2.1.below hb⟩
         have D1:Hid (Calls Tryz.prog 5 #[pp M.mb,.agg #[.int .u64 1,.int .u64 p,.int .u64 1,.int .u64 1,.int .u64 0,.int .u64 0]] v1 fun e w'=>e=.returned (.agg #[.int .i64 0,.int .u64 0,.int .i64 0,.int .u64 0,.int .i64 0,.bool false])/\Tx O v1 (Fh M fr p k u) w'):=st_map p hp0 hp1 hlt.2 hin F1.out.1
         clear hb U1
         go_wp2_with fail
         refine Calls.mono D1.out ?_
         rintro e v2 ⟨rfl,O2,hF,e1,l1,k1⟩
         have s1:Below v2.heap.size v2 (v2.alloc (.cells #[.int .i64 0,.int .u64 0,.int .i64 0,.int .u64 0,.int .i64 0,.bool false] 39)):=Go.Joins.below_alloc1 _ _
         have F2:Hid (Fh M fr p k u O2 (v2.alloc (.cells #[.int .i64 0,.int .u64 0,.int .i64 0,.int .u64 0,.int .i64 0,.bool false] 39))/\Low O2 w (v2.alloc (.cells #[.int .i64 0,.int .u64 0,.int .i64 0,.int .u64 0,.int .i64 0,.bool false] 39))/\Fr O2 (v2.alloc (.cells #[.int .i64 0,.int .u64 0,.int .i64 0,.int .u64 0,.int .i64 0,.bool false] 39)) nv (fr++[p])/\Bx O2 (v2.alloc (.cells #[.int .i64 0,.int .u64 0,.int .i64 0,.int .u64 0,.int .i64 0,.bool false] 39)) v2.heap.size [.int .i64 0,.int .u64 0,.int .i64 0,.int .u64 0,.int .i64 0,.bool false] 39):=⟨hF.below s1,(F1.out.2.1.on e1 k1).below s1,(F1.out.2.2.on e1 k1).below s1,Bx.made l1 _ _⟩
         have U2:Hid (Calls Tryz.prog 9 #[pp M.mb,.int .i64 0] (v2.alloc (.cells #[.int .i64 0,.int .u64 0,.int .i64 0,.int .u64 0,.int .i64 0,.bool false] 39)) fun e w'=>e=.returned (.int .i64 u)/\Below (v2.alloc (.cells #[.int .i64 0,.int .u64 0,.int .i64 0,.int .u64 0,.int .i64 0,.bool false] 39)).heap.size (v2.alloc (.cells #[.int .i64 0,.int .u64 0,.int .i64 0,.int .u64 0,.int .i64 0,.bool false] 39)) w'):=sh_used F2.out.1 (by omega)
         have ub:=(fs_len F1.out.1).2
         clear hF e1 l1 k1 s1 D1 F1
         go_wp2_with fail
         refine Calls.mono U2.out ?_
         rintro e v3 ⟨rfl,hb⟩
         have F3:Hid (Fh M fr p k u O2 v3/\Low O2 w v3/\Fr O2 v3 nv (fr++[p])/\Bx O2 v3 v2.heap.size [.int .i64 0,.int .u64 0,.int .i64 0,.int .u64 0,.int .i64 0,.bool false] 39):=⟨F2.out.1.below hb,F2.out.2.1.below hb,F2.out.2.2.1.below hb,F2.out.2.2.2.below hb⟩
         have D2:Hid (Calls Tryz.prog 5 #[pp M.mb,.agg #[.int .u64 5,.int .u64 (p*4096),.int .u64 8,.int .u64 k,.int .u64 0,.int .u64 0]] v3 fun e w'=>e=.returned (.agg #[.int .i64 0,.int .u64 0,.int .i64 0,.int .u64 0,.int .i64 0,.bool false])/\Tx O2 v3 (Fs M (fr++[p]) (k+1) (u+c9)) w'):=by rw [HC.out];exact sh_new p hp0 hp1 hlt.2 hin F3.out.1
         clear hb U2 F2
         go_wp2_with fail
         refine Calls.mono D2.out ?_
         rintro e v4 ⟨rfl,O4,hF,e1,l1,k1⟩
         have s1:Below v4.heap.size v4 (v4.alloc (.cells #[.int .i64 0,.int .u64 0,.int .i64 0,.int .u64 0,.int .i64 0,.bool false] 39)):=Go.Joins.below_alloc1 _ _
         have F4:Hid (Fs M (fr++[p]) (k+1) (u+c9) O4 (v4.alloc (.cells #[.int .i64 0,.int .u64 0,.int .i64 0,.int .u64 0,.int .i64 0,.bool false] 39))/\Low O4 w (v4.alloc (.cells #[.int .i64 0,.int .u64 0,.int .i64 0,.int .u64 0,.int .i64 0,.bool false] 39))/\Fr O4 (v4.alloc (.cells #[.int .i64 0,.int .u64 0,.int .i64 0,.int .u64 0,.int .i64 0,.bool false] 39)) nv (fr++[p])/\Bx O4 v4 v2.heap.size [.int .i64 0,.int .u64 0,.int .i64 0,.int .u64 0,.int .i64 0,.bool false] 39):=⟨hF.below s1,(F3.out.2.1.on e1 k1).below s1,(F3.out.2.2.1.on e1 k1).below s1,F3.out.2.2.2.on e1 k1⟩
         have U3:Hid (Calls Tryz.prog 9 #[pp M.mb,.int .i64 0] (v4.alloc (.cells #[.int .i64 0,.int .u64 0,.int .i64 0,.int .u64 0,.int .i64 0,.bool false] 39)) fun e w'=>e=.returned (.int .i64 (u+c9))/\Below (v4.alloc (.cells #[.int .i64 0,.int .u64 0,.int .i64 0,.int .u64 0,.int .i64 0,.bool false] 39)).heap.size (v4.alloc (.cells #[.int .i64 0,.int .u64 0,.int .i64 0,.int .u64 0,.int .i64 0,.bool false] 39)) w'):=st_used F4.out.1 (by omega)
         have c1:v4.cell? ⟨v2.heap.size,2,none⟩=some (.int .i64 0):=F4.out.2.2.2.1.cell 2
         have lt1:v2.heap.size<v4.heap.size:=F4.out.2.2.2.1.lt
         have F5:Hid (Bx O4 (v4.alloc (.cells #[.int .i64 0,.int .u64 0,.int .i64 0,.int .u64 0,.int .i64 0,.bool false] 39)) v2.heap.size [.int .i64 0,.int .u64 0,.int .i64 0,.int .u64 0,.int .i64 0,.bool false] 39):=F4.out.2.2.2.below s1
         clear hF e1 l1 k1 s1 D2 F3
         go_wp2_with fail
         refine Calls.mono U3.out ?_
         rintro e v5 ⟨rfl,hb⟩
         have F6:Hid (Fs M (fr++[p]) (k+1) (u+c9) O4 v5/\Low O4 w v5/\Fr O4 v5 nv (fr++[p])/\Bx O4 v5 v2.heap.size [.int .i64 0,.int .u64 0,.int .i64 0,.int .u64 0,.int .i64 0,.bool false] 39):=⟨F4.out.1.below hb,F4.out.2.1.below hb,F4.out.2.2.1.below hb,F5.out.below hb⟩
         clear hb U3 F4 F5 c1 lt1
         have c1:v5.cell? ⟨v2.heap.size,2,none⟩=some (.int .i64 0):=F6.out.2.2.2.1.cell 2
         have lt1:v2.heap.size<v5.heap.size:=F6.out.2.2.2.1.lt
         go_wp2_with fail
         go_roundw
         case rel=>exact ⟨k+1,fr++[p],u+c9,O4,by omega,by omega,by go_num,⟨F6.out.1,F6.out.2.1,F6.out.2.2.1⟩,FB.out.2.2.2⟩
         case measure=>simp [intOf];omega
  . by_cases a:k<n0
    . have hd:decide ((k:Int)<(n0:Int))=true:=by simp;omega
      have hd2:decide ((k:Int)<40)=false:=by simp;omega
      go_wp2_with fail
      refine Calls.mono (AW.out _) ?_
      rintro e v9 ⟨rfl,hb⟩
      have B9:Hid (Below w.heap.size w v9):=below_then hR.out.2.1.1 hb
      clear hb
      go_wp2_with fail
      go_returns
      exact ⟨rfl,B9.out⟩
    . have hd:decide ((k:Int)<(n0:Int))=false:=by simp;omega
      go_wp2_with fail
      refine Calls.mono (AW.out _) ?_
      rintro e v9 ⟨rfl,hb⟩
      have B9:Hid (Below w.heap.size w v9):=below_then hR.out.2.1.1 hb
      clear hb
      go_wp2_with fail
      go_returns
      exact ⟨rfl,B9.out⟩
theorem own:ownKnob Tryz.prog.godebug=none:=by kernel_rfl
theorem laidOut:laidOutB Tryz.prog=true:=by kernel_rfl
set_option maxRecDepth 100000 in
theorem lifted (os:Os) (started:os.Started) (H:Type) (enc:TypeId × Value->H) :
 ReturnsInHanded {} Tryz.checked os 4 .any (Rows.flatCostsSpec.pre6 enc Tryz.prog Tryz.f4 Rows.flatCostsRow.domain false) (Rows.flatCostsSpec.post enc Tryz.prog Tryz.f4 false true false false):=by
 refine returnsInHanded_of_change (C:=Tryz.checked) own started (by kernel_rfl) Tryz.func4
  (ChangeSpec.witness6 (enc:=enc) (C:=Tryz.checked) false ⟨#[],#[.slice none 0 0],[]⟩ 8 (by kernel_rfl) (by kernel_rfl) (by kernel_rfl) (by kernel_rfl)) ?_
 intro W base args ds gs before hval0 hW hcnd _
 have hval: ∀ (j:Nat) t v,Tryz.f4.params[j]? =some t->args[j]? =some v->Value.okWide Tryz.prog W .any base t v:=hval0
 have hW':=hW
 obtain ⟨p,q,hA0,hV,hbef,hfz,hnd⟩:=hW
 have hA:DataW.TrodAll enc Tryz.prog W 0 (fun _=>true) true Tryz.f4.params.toList args.toList ds p:=hA0
 have hAk:=hA
 have hlt: ∀ x∈p,x.block<W.heap.size:=fun x hx=>hW'.lt x (by rw [hbef];exact List.mem_append_left _ hx)
 rw [Tryz.params4] at hA hval
 obtain ⟨v0,vs0,d0,ds0,p0,q0,hargs,rfl,hp0,h0,r0⟩:=trodAll_cons hA
 obtain ⟨rfl,rfl,hpz⟩:=trodAll_nil r0
 obtain rfl:args= #[v0]:=by cases args;simp_all
 obtain ⟨rfl,rfl⟩:=trodVars_none hV
 obtain ⟨p0,n0,c0,A0,rfl,m0,H0⟩:=open_ints (hval 0 44 v0 rfl rfl) h0
 clear hA0 hval0
 refine (walk p0 n0 c0 A0 m0 W H0).mono fun e W' ⟨he,hg⟩=> ?_
 subst he
 exact ⟨_,rfl,⟨_,_,_,[],p,[],hW',(trodAll_cons_mk (shut_bool Tryz.underlying4 _) trodAll_mk0),args_stay laidOut hg (by kernel_rfl) hAk hlt,rfl,hg.frame _,fun h=>by cases h⟩⟩
theorem over:Rows.flatCostsRow.holds Tryz.pinned (OpenSpec.ofChange Rows.flatCostsSpec) :=
 OpenClaim.holds_of_wide 4 Tryz.f4 rfl rfl rfl rfl rfl rfl rfl ⟨rfl,rfl,rfl,rfl,rfl⟩ rfl rfl rfl rfl rfl (by kernel_rfl) Tryz.func4 (by kernel_rfl)
  (of_decide_eq_true (by kernel_rfl)) (by unfold Func.isWrapper;first | (rw [if_pos (by decide +kernel)];kernel_rfl) | (rw [if_neg (by decide +kernel)];exact ⟨rfl,rfl⟩))
  (fun os started H enc _=>lifted os started H enc)
theorem proved:Rows.FlatCostsSaid :=
 over
#print axioms proved
end Go.Proofs.YtlaiadheelgbdaaGreat.flatCosts
