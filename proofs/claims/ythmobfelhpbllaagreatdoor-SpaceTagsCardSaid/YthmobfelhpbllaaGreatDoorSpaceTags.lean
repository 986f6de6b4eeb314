/- SpaceTags: spaces get the tags that layer 11 says,and when a new generation begins all lines are gone,and until then none is;of at most 60 asks. No condition. -/
import Derived.Test.YthmobfelhpbllaaGreatDoorRows
import Derived.Test.YthmobfelhpbllaaGreatDoorCards
import Derived.Test.YthmobfelhpbllaaGreatDoorTie
import Derived.ProofKit
import Derived.OpenShut
import Derived.Stop.Joined
import Derived.SevenTiedAt
import Derived.Test.YthmobfelhpbllaaGreatDoorSWt
namespace Go.Proofs.YthmobfelhpbllaaGreatDoor.spaceTags
open Go.ChangeShapes Go.WideShapes Go.ChangeAt Go.RowKit
set_option linter.unusedSimpArgs false
set_option linter.unusedVariables false
open Go.Proofs.YthmobfelhpbllaaGreatDoor.Tt Go.Proofs.YthmobfelhpbllaaGreatDoor.Sp
set_option maxRecDepth 8000
def TI (w:World) (Y:Nat->Prop) (M:Mb) (m:Pm) (s:Ps) (t2 t0 t1 k c:Nat) (W:World):Prop :=
 ∃ (O:Nat->Nat) (n:Nat) (T:Nat->Tl.Ln) (S:Pc.Tg),Mc Y O n W M m s T S []/\Pc.IsTags W t2 t0 t1 n S/\Pc.Good S/\S.gen<=k/\n<=k/\(∀ i,(T i).g=false)/\c=(Tl.linesT T 16).length/\Kept (fun j=>j<w.heap.size) w W
theorem len_own {w:World} {base n e s:Nat} {v:Value} {xs:List Value} (h:w.ownsRow base e s v n xs): ∃ p c,v=.slice p n c:=Tl.own_len h
set_option maxHeartbeats 16000000 in
theorem walk (a0:Int) (w0:(Lit.int .i64 a0).wf=true) (p1:Option Addr) (n1 c1:Nat) (A1:Nat->Int) (m1:n1<=maxLen) (w:World) (ht:Tab w) (H1:IsInts w p1 n1 A1) :
 Calls Tryz.prog 3 #[.int .i64 a0,.slice p1 n1 c1] w fun e w'=>e=.returned (.bool true)/\Below w.heap.size w w':=by
 have AW:Hid (∀ W:World,Tab W->Calls Tryz.prog 7 #[] W fun e w'=>e=.returned (.bool true)/\Below W.heap.size W w'):=fun W t=>awake_any W t
 have HT:Hid (Tab w):=ht
 have HI:Hid (IsInts w p1 n1 A1):=H1
 rcases Decidable.em (a0<1\/4095<a0) with hbad | hok
 . clear H1
   rcases Decidable.em (a0<1) with b1 | b1
   . have d1:decide (a0<1)=true:=by simp;omega
     go_enter Tryz.func3,Tryz.ntmps3
     go_wp2_with fail
     refine Calls.mono (AW.out _ HT.out) ?_
     rintro e w1 ⟨rfl,hb1⟩
     have HB:Hid (Below w.heap.size w w1):=hb1
     clear hb1
     go_wp2_with fail
     go_returns
     exact ⟨rfl,HB.out⟩
   . have d1:decide (a0<1)=false:=by simp;omega
     have d2:decide (4095<a0)=true:=by simp;omega
     clear b1 hbad
     go_enter Tryz.func3,Tryz.ntmps3
     go_wp2_with fail
     refine Calls.mono (AW.out _ HT.out) ?_
     rintro e w1 ⟨rfl,hb1⟩
     have HB:Hid (Below w.heap.size w w1):=hb1
     clear hb1
     go_wp2_with fail
     go_returns
     exact ⟨rfl,HB.out⟩
 have hk:1<=a0/\a0<=4095:=by omega
 have d1:decide (a0<1)=false:=by simp;omega
 have d2:decide (4095<a0)=false:=by simp;omega
 have BC:Hid _:=begin_ok 30 a0 (by omega) (by omega) hk.1 hk.2 w ht
 have NC:Hid (∀ W:World,_):=fun W=>Pc.new_ok a0 hk.1 hk.2 W
 have HK:Hid (1<=a0/\a0<=4095):=hk
 clear ht H1 hok hk
 go_enter Tryz.func3,Tryz.ntmps3
 go_wp2_with fail
 refine Calls.mono BC.out ?_
 rintro e w1 ⟨M,m,s,xb,rfl,hB⟩
 have G1:Hid (Below w1.heap.size w1 (w1.alloc (.cells #[.slice none 0 0,.slice (some ⟨xb,0,none⟩) 1 1,.int .i64 0] 28))):=Go.Joins.below_alloc1 _ _
 have HB:Hid (Booted 30 a0 w w1 M m s):=hB
 clear hB BC d1 d2
 go_upto_region 4 with fail
 generalize (w1.alloc (.cells #[.slice none 0 0,.slice (some ⟨xb,0,none⟩) 1 1,.int .i64 0] 28))=w2 at G1 |-
 go_wp2_with fail
 refine Calls.mono (NC.out _) ?_
 rintro e w3 ⟨rfl,ho⟩
 obtain ⟨t0,ht0⟩: ∃ t0,t0=w2.heap.size:=⟨_,rfl⟩
 rw [<- ht0] at ho |-
 obtain ⟨Y,hY⟩: ∃ Y:Nat->Prop,Y=fun j=>j<w.heap.size\/(w1.heap.size<=j/\j<w3.heap.size):=⟨_,rfl⟩
 have YT:Hid (Y (t0+2)/\Y t0/\Y (t0+1)/\(∀ j,j<w.heap.size->Y j)/\0<t0):=by
  have q1:=Pc.blk_lt ho.1.blk
  have q2:=ho.2.1.size
  have q3:=G1.out.size
  have q4:0<w1.heap.size:=by obtain ⟨O,hM,_⟩:=HB.out;have:=hM.map.lt;omega
  rw [hY]
  exact ⟨Or.inr ⟨by omega,by omega⟩,Or.inr ⟨by omega,by omega⟩,Or.inr ⟨by omega,by omega⟩,fun j hj=>Or.inl hj,by omega⟩
 have TI0:Hid (TI w Y M m s (t0+2) t0 (t0+1) 0 0 w3):=by
  obtain ⟨O,hM,hN,a1,a2,a3,hb⟩:=HB.out
  refine ⟨O,0,Tl.T0,Pc.freshS a0,?_,ho.1,Pc.fresh_good a0 HK.out.1 HK.out.2,Int.le_refl _,Nat.le_refl _,fun _=>rfl,?_,?_⟩
  . rw [hY];exact hM.grow (below_then G1.out ho.2.1)
  . rw [lines_zero 16 (fun _ _=>rfl)];rfl
  . exact kept_of_below (below_then (below_then hb G1.out) ho.2.1) (fun j hj=>hj)
 have WT:Hid (w.heap.size<=t0):=by
  obtain ⟨O,hM,hN,a1,a2,a3,hb⟩:=HB.out
  have:=hb.size
  have:=G1.out.size
  show _<=_
  omega
 clear ho ht0 hY HB G1 NC
 go_wp2_with fail
 go_loopw [10,11] (fun kv iv W=> ∃ k c:Nat,kv=.int .i64 c/\iv=.int .i64 k/\k<=60/\Hid (TI w Y M m s (t0+2) t0 (t0+1) k c W)) (fun _ iv _=>60-(intOf iv).toNat)
 case atStart=>exact ⟨0,0,rfl,rfl,by omega,TI0.out⟩
 case round =>
  obtain ⟨k,c,rfl,rfl,k60,hTI⟩:=hrel
  by_cases c1:k<n1
  rotate_left
  . have z0:decide ((k:Int)<(n1:Int))=false:=by simp;omega
    have z1: ¬ k<n1:=c1
    have TB:Hid (Tab wr/\Below w.heap.size w wr):=by
     obtain ⟨O,n,T,S,h1,h2,h3,h4,h5,h6,h7,h8⟩:=hTI.out
     exact ⟨h1.pu.tab,below_of_kept h8⟩
    clear hTI TI0
    go_wp2_with fail
    refine Calls.mono (AW.out _ TB.out.1) ?_
    rintro e w9 ⟨rfl,hb9⟩
    have HB:Hid (Below w.heap.size w w9):=below_then TB.out.2 hb9
    clear hb9
    go_wp2_with fail
    go_returns
    exact ⟨rfl,HB.out⟩
  by_cases c2:k<60
  rotate_left
  . have z0:decide ((k:Int)<(n1:Int))=true:=by simp;omega
    have z2: ¬ k<60:=c2
    have z3:decide ((k:Int)<60)=false:=by simp;omega
    have TB:Hid (Tab wr/\Below w.heap.size w wr):=by
     obtain ⟨O,n,T,S,h1,h2,h3,h4,h5,h6,h7,h8⟩:=hTI.out
     exact ⟨h1.pu.tab,below_of_kept h8⟩
    clear hTI TI0
    go_wp2_with fail
    refine Calls.mono (AW.out _ TB.out.1) ?_
    rintro e w9 ⟨rfl,hb9⟩
    have HB:Hid (Below w.heap.size w w9):=below_then TB.out.2 hb9
    clear hb9
    go_wp2_with fail
    go_returns
    exact ⟨rfl,HB.out⟩
  have z0:decide ((k:Int)<(n1:Int))=true:=by simp;omega
  have z3:decide ((k:Int)<60)=true:=by simp;omega
  obtain ⟨O,n,T,S,MM,TT,GD,hgen,hnk,hgl,hc,hKe⟩:=hTI.out
  obtain ⟨b,ob,rfl,lb,hcell,wid⟩:=HI.out k c1
  generalize A1 k=id at hcell wid
  have hkb:=hKe.block b lb
  have cid:wr.cell? ⟨b,ob+k,none⟩=some (.int .i64 id):=(World.cell?_of_block (w:=w) (a:=⟨b,ob+k,none⟩) hkb).trans hcell
  have lbr:b<wr.heap.size:=Nat.lt_of_lt_of_le lb hKe.size
  have MM0:Hid (Mc Y O n wr M m s T S []):=MM
  have TT0:Hid (Pc.IsTags wr (t0+2) t0 (t0+1) n S):=TT
  have KW:Hid (Kept (fun j=>j<w.heap.size) w wr/\w.heap.size<=t0):=⟨hKe,WT.out⟩
  obtain ⟨f1,f2,f3,f4,_⟩:=Pc.get_facts GD id
  have GC:Hid (∀ W:World,Pc.IsTags W (t0+2) t0 (t0+1) n S->_):=fun W hW=>Pc.get_any (t0+2) t0 (t0+1) n S id wid GD.ok (by omega) (by unfold maxLen;omega) W hW
  have GT:Hid (∀ W:World,Mc Y O n W M m s T S []->_):=fun W hW=>tag_ok hW id wid GD.ok (by omega) (by omega)
  have gd2:=GD.get id
  have gen2:=(GD.ok.get id).2.1
  have m4:S.most<=4095:=GD.ok.m1
  generalize Pc.getV S id=v at f3 f4 GC GT
  generalize Pc.getS S id=S2 at GC GT gd2 gen2
  have d9:(k:Int).tmod 9=((k % 9:Nat):Int):=by rw [Int.tmod_eq_emod_of_nonneg (by omega)];omega
  have d2:(k:Int).tmod 2=((k % 2:Nat):Int):=by rw [Int.tmod_eq_emod_of_nonneg (by omega)];omega
  obtain ⟨y9,e9⟩: ∃ y:Int,y=((k % 9:Nat):Int):=⟨_,rfl⟩
  obtain ⟨y2,e2⟩: ∃ y:Int,y=((k % 2:Nat):Int):=⟨_,rfl⟩
  rw [<- e9] at d9
  rw [<- e2] at d2
  have FA:Hid (∀ (T':Nat->Tl.Ln) (W:World),Tl.IsTlb W M.tl T'->Calls Tryz.prog 13 #[pp M.tl,.int .i64 y2,.agg #[.bool true,.int .i64 v,.int .i64 y9,.int .i64 5,.bool false,.bool false,.bool false,.bool false,.bool false]] W fun e w'=>e=.returned (.int .i64 0)/\Tl.IsTlb w' M.tl (Tl.fillT T' (k % 2:Nat) ⟨true,v,y9,5,false,false,false,false,false⟩)/\W.grownBy w' (some M.tl)):=fun T' W hW=>by
   have q:=Tl.fill_ok M.tl T' ⟨true,v,y9,5,false,false,false,false,false⟩ (k % 2) (k % 9 % 8) (by omega) (by unfold Tl.Ln.ok;simp;omega) (by show 0<=y9;omega) (by show y9 % 8=_;rw [e9];omega) W hW
   rw [e2];exact q
  have LA0:Hid (∀ (T':Nat->Tl.Ln) (W:World),Tl.IsTlb W M.tl T'->Calls Tryz.prog 12 #[pp M.tl] W fun e w'=> ∃ sp sc,e=.returned (.slice sp (Tl.linesT T' 16).length sc)/\Below W.heap.size W w'):=fun T' W hW=>by
   refine (Tl.lines_any M.tl T' W hW).mono ?_
   rintro e w' ⟨v,rfl,ho,hb⟩
   obtain ⟨p,c,rfl⟩:=len_own ho
   exact ⟨p,c,rfl,hb⟩
  have HC:Hid (c=(Tl.linesT T 16).length/\(∀ i,(T i).g=false)/\S.gen<=k/\n<=k):=⟨hc,hgl,hgen,hnk⟩
  have k1:IntKind.i64.wrap ((k:Int)+1)=(k:Int)+1:=by rw [IntKind.wrap_i64];omega
  have VV:Hid (1<=v/\v<=4095/\y2=((k % 2:Nat):Int)/\y9=((k % 9:Nat):Int)):=⟨f3,by omega,e2,e9⟩
  have G2:Hid (Pc.Good S2/\S2.gen<=k+1/\n+1<=k+1):=⟨gd2,by omega,by omega⟩
  have LB9:Hid (b<w.heap.size):=lb
  clear hTI MM TT GD hgen hnk hgl hc hKe hkb hcell wid f1 f2 f3 f4 gd2 gen2 m4 e9 e2
  cases hov:Pc.getB S id
  . rw [hov] at GC GT
    clear hov
    obtain ⟨T4,hT4⟩: ∃ T4,T4=Tl.fillT (tagT T false) (k % 2:Nat) ⟨true,v,y9,5,false,false,false,false,false⟩:=⟨_,rfl⟩
    obtain ⟨c4,hc4⟩: ∃ c4,c4=(Tl.linesT T4 16).length:=⟨_,rfl⟩
    have FC:Hid (∀ W:World,Tl.IsTlb W M.tl (tagT T false)->Calls Tryz.prog 13 #[pp M.tl,.int .i64 y2,.agg #[.bool true,.int .i64 v,.int .i64 y9,.int .i64 5,.bool false,.bool false,.bool false,.bool false,.bool false]] W fun e w'=>e=.returned (.int .i64 0)/\Tl.IsTlb w' M.tl T4/\W.grownBy w' (some M.tl)):=fun W hW=>by rw [hT4];exact FA.out _ W hW
    have LA:Hid (∀ W:World,Tl.IsTlb W M.tl (tagT T false)->Calls Tryz.prog 12 #[pp M.tl] W fun e w'=> ∃ sp sc,e=.returned (.slice sp c sc)/\Below W.heap.size W w'):=fun W hW=>by
     have q:=LA0.out _ W hW
     rw [show (Tl.linesT (tagT T false) 16).length=c from HC.out.1.symm] at q
     exact q
    have LB:Hid (∀ W:World,Tl.IsTlb W M.tl T4->Calls Tryz.prog 12 #[pp M.tl] W fun e w'=> ∃ sp sc,e=.returned (.slice sp c4 sc)/\Below W.heap.size W w'):=fun W hW=>by rw [hc4];exact LA0.out _ W hW
    have GG:Hid (Pc.Good S2/\S2.gen<=((k+1:Nat):Int)/\n+1<=k+1/\(∀ i,(T4 i).g=false)/\c4=(Tl.linesT T4 16).length):=⟨G2.out.1,by have:=G2.out.2.1;omega,G2.out.2.2,by rw [hT4];exact fill_glob (tag_glob HC.out.2.1 _) _ _ rfl,hc4⟩
    have lb:b<w.heap.size:=LB9.out
    clear hT4 hc4 FA LA0 HC G2
    go_wp2_with fail
    refine Calls.mono (GC.out _ TT0.out) ?_
    rintro e u1 ⟨rfl,hT1,hK1⟩
    have M1:Hid (Mc Y O n u1 M m s T S []/\Pc.IsTags u1 (t0+2) t0 (t0+1) (n+1) S2/\Kept (fun j=>j<w.heap.size) w u1/\u1.cell? ⟨b,ob+k,none⟩=some (.int .i64 id)/\b<u1.heap.size):=by
     have yt:=YT.out
     have kw:=KW.out.2
     refine ⟨MM0.out.other' hK1.size (fun j hj hn=>hK1.block j hj (fun e=>hn (by rw [e];exact yt.1)) (fun e=>hn (by rw [e];exact yt.2.1)) (fun e=>hn (by rw [e];exact yt.2.2.1))) (hK1.block 0 (MM0.out.pu.lt 0 (Or.inl MM0.out.y0)) (by omega) (by omega) (by omega)),hT1,?_,?_,?_⟩
     . exact KW.out.1.trans ⟨hK1.os,hK1.tape,hK1.output,hK1.size,fun j hj=>hK1.block j (Nat.lt_of_lt_of_le hj KW.out.1.size) (by omega) (by omega) (by omega)⟩
     . rw [hK1.cell (k:=b) (i:=ob+k) (Nat.lt_of_lt_of_le lb KW.out.1.size) (by omega) (by omega) (by omega)];exact cid
     . exact Nat.lt_of_lt_of_le (Nat.lt_of_lt_of_le lb KW.out.1.size) hK1.size
    have cid1:=M1.out.2.2.2.1
    clear hT1 hK1 GC cid TT0
    go_wp2_with fail
    refine Calls.mono (GT.out _ M1.out.1) ?_
    rintro e u2 ⟨rfl,hM2,hK2⟩
    have M2:Hid (Mc Y O (n+1) u2 M m s (tagT T false) S2 []/\Pc.IsTags u2 (t0+2) t0 (t0+1) (n+1) S2/\Kept (fun j=>j<w.heap.size) w u2):=by
     have yt:=YT.out
     refine ⟨hM2,M1.out.2.1.kept (fun j hj hh=>hK2.block j ?_),M1.out.2.2.1.trans (hK2.sub (fun j hj=>yt.2.2.2.1 j hj))⟩
     rcases hh with rfl | rfl | rfl
     . exact yt.1
     . exact yt.2.1
     . exact yt.2.2.1
    have c3:u2.cell? ⟨M.mb,3,none⟩=some (pp M.tl):=M2.out.1.mac.cell 3
    clear hM2 hK2 GT cid1 M1
    go_wp2_with fail
    refine Calls.mono (LA.out _ M2.out.1.tlb) ?_
    rintro e u3 ⟨sp,sc,rfl,hb3⟩
    have M3:Hid (Mc Y O (n+1) u3 M m s (tagT T false) S2 []/\Pc.IsTags u3 (t0+2) t0 (t0+1) (n+1) S2/\Kept (fun j=>j<w.heap.size) w u3):=⟨M2.out.1.below hb3,M2.out.2.1.below hb3,M2.out.2.2.trans (kept_of_below hb3 (fun j hj=>Nat.lt_of_lt_of_le hj M2.out.2.2.size))⟩
    clear hb3 M2 c3
    have c3:u3.cell? ⟨M.mb,3,none⟩=some (pp M.tl):=M3.out.1.mac.cell 3
    go_wp2_with fail
    refine Calls.mono (FC.out _ M3.out.1.tlb) ?_
    rintro e u4 ⟨rfl,hT4,hg4⟩
    have M4:Hid (Mc Y O (n+1) u4 M m s T4 S2 []/\Pc.IsTags u4 (t0+2) t0 (t0+1) (n+1) S2/\Kept (fun j=>j<w.heap.size) w u4):=by
     have yt:=YT.out
     obtain ⟨q1,q2⟩:=M3.out.1.tlbN hT4 hg4
     refine ⟨q1,M3.out.2.1.kept (fun j hj hh=>q2.block j ?_),M3.out.2.2.trans (q2.sub (fun j hj=>yt.2.2.2.1 j hj))⟩
     rcases hh with rfl | rfl | rfl
     . exact yt.1
     . exact yt.2.1
     . exact yt.2.2.1
    clear hT4 hg4 FC c3 M3
    have c3:u4.cell? ⟨M.mb,3,none⟩=some (pp M.tl):=M4.out.1.mac.cell 3
    go_wp2_with fail
    refine Calls.mono (LB.out _ M4.out.1.tlb) ?_
    rintro e u5 ⟨sp5,sc5,rfl,hb5⟩
    have HE:Hid (TI w Y M m s (t0+2) t0 (t0+1) (k+1) c4 u5):=⟨O,n+1,T4,S2,M4.out.1.below hb5,M4.out.2.1.below hb5,GG.out.1,GG.out.2.1,GG.out.2.2.1,GG.out.2.2.2.1,GG.out.2.2.2.2,M4.out.2.2.trans (kept_of_below hb5 (fun j hj=>Nat.lt_of_lt_of_le hj M4.out.2.2.size))⟩
    clear hb5 M4 LB c3
    go_wp2_with fail
    go_roundw
    . exact ⟨k+1,c4,rfl,by simp,by omega,HE.out⟩
    . simp only [intOf];omega
  . rw [hov] at GC GT
    clear hov
    obtain ⟨T4,hT4⟩: ∃ T4,T4=Tl.fillT (tagT T true) (k % 2:Nat) ⟨true,v,y9,5,false,false,false,false,false⟩:=⟨_,rfl⟩
    obtain ⟨c4,hc4⟩: ∃ c4,c4=(Tl.linesT T4 16).length:=⟨_,rfl⟩
    have FC:Hid (∀ W:World,Tl.IsTlb W M.tl (tagT T true)->Calls Tryz.prog 13 #[pp M.tl,.int .i64 y2,.agg #[.bool true,.int .i64 v,.int .i64 y9,.int .i64 5,.bool false,.bool false,.bool false,.bool false,.bool false]] W fun e w'=>e=.returned (.int .i64 0)/\Tl.IsTlb w' M.tl T4/\W.grownBy w' (some M.tl)):=fun W hW=>by rw [hT4];exact FA.out _ W hW
    have LA:Hid (∀ W:World,Tl.IsTlb W M.tl (tagT T true)->Calls Tryz.prog 12 #[pp M.tl] W fun e w'=> ∃ sp sc,e=.returned (.slice sp 0 sc)/\Below W.heap.size W w'):=fun W hW=>by
     have q:=LA0.out _ W hW
     rw [show (Tl.linesT (tagT T true) 16).length=0 from tag_over HC.out.2.1] at q
     exact q
    have LB:Hid (∀ W:World,Tl.IsTlb W M.tl T4->Calls Tryz.prog 12 #[pp M.tl] W fun e w'=> ∃ sp sc,e=.returned (.slice sp c4 sc)/\Below W.heap.size W w'):=fun W hW=>by rw [hc4];exact LA0.out _ W hW
    have GG:Hid (Pc.Good S2/\S2.gen<=((k+1:Nat):Int)/\n+1<=k+1/\(∀ i,(T4 i).g=false)/\c4=(Tl.linesT T4 16).length):=⟨G2.out.1,by have:=G2.out.2.1;omega,G2.out.2.2,by rw [hT4];exact fill_glob (tag_glob HC.out.2.1 _) _ _ rfl,hc4⟩
    have lb:b<w.heap.size:=LB9.out
    clear hT4 hc4 FA LA0 HC G2
    go_wp2_with fail
    refine Calls.mono (GC.out _ TT0.out) ?_
    rintro e u1 ⟨rfl,hT1,hK1⟩
    have M1:Hid (Mc Y O n u1 M m s T S []/\Pc.IsTags u1 (t0+2) t0 (t0+1) (n+1) S2/\Kept (fun j=>j<w.heap.size) w u1/\u1.cell? ⟨b,ob+k,none⟩=some (.int .i64 id)/\b<u1.heap.size):=by
     have yt:=YT.out
     have kw:=KW.out.2
     refine ⟨MM0.out.other' hK1.size (fun j hj hn=>hK1.block j hj (fun e=>hn (by rw [e];exact yt.1)) (fun e=>hn (by rw [e];exact yt.2.1)) (fun e=>hn (by rw [e];exact yt.2.2.1))) (hK1.block 0 (MM0.out.pu.lt 0 (Or.inl MM0.out.y0)) (by omega) (by omega) (by omega)),hT1,?_,?_,?_⟩
     . exact KW.out.1.trans ⟨hK1.os,hK1.tape,hK1.output,hK1.size,fun j hj=>hK1.block j (Nat.lt_of_lt_of_le hj KW.out.1.size) (by omega) (by omega) (by omega)⟩
     . rw [hK1.cell (k:=b) (i:=ob+k) (Nat.lt_of_lt_of_le lb KW.out.1.size) (by omega) (by omega) (by omega)];exact cid
     . exact Nat.lt_of_lt_of_le (Nat.lt_of_lt_of_le lb KW.out.1.size) hK1.size
    have cid1:=M1.out.2.2.2.1
    clear hT1 hK1 GC cid TT0
    go_wp2_with fail
    refine Calls.mono (GT.out _ M1.out.1) ?_
    rintro e u2 ⟨rfl,hM2,hK2⟩
    have M2:Hid (Mc Y O (n+1) u2 M m s (tagT T true) S2 []/\Pc.IsTags u2 (t0+2) t0 (t0+1) (n+1) S2/\Kept (fun j=>j<w.heap.size) w u2):=by
     have yt:=YT.out
     refine ⟨hM2,M1.out.2.1.kept (fun j hj hh=>hK2.block j ?_),M1.out.2.2.1.trans (hK2.sub (fun j hj=>yt.2.2.2.1 j hj))⟩
     rcases hh with rfl | rfl | rfl
     . exact yt.1
     . exact yt.2.1
     . exact yt.2.2.1
    have c3:u2.cell? ⟨M.mb,3,none⟩=some (pp M.tl):=M2.out.1.mac.cell 3
    clear hM2 hK2 GT cid1 M1
    go_wp2_with fail
    refine Calls.mono (LA.out _ M2.out.1.tlb) ?_
    rintro e u3 ⟨sp,sc,rfl,hb3⟩
    have M3:Hid (Mc Y O (n+1) u3 M m s (tagT T true) S2 []/\Pc.IsTags u3 (t0+2) t0 (t0+1) (n+1) S2/\Kept (fun j=>j<w.heap.size) w u3):=⟨M2.out.1.below hb3,M2.out.2.1.below hb3,M2.out.2.2.trans (kept_of_below hb3 (fun j hj=>Nat.lt_of_lt_of_le hj M2.out.2.2.size))⟩
    clear hb3 M2 c3
    have c3:u3.cell? ⟨M.mb,3,none⟩=some (pp M.tl):=M3.out.1.mac.cell 3
    go_wp2_with fail
    refine Calls.mono (FC.out _ M3.out.1.tlb) ?_
    rintro e u4 ⟨rfl,hT4,hg4⟩
    have M4:Hid (Mc Y O (n+1) u4 M m s T4 S2 []/\Pc.IsTags u4 (t0+2) t0 (t0+1) (n+1) S2/\Kept (fun j=>j<w.heap.size) w u4):=by
     have yt:=YT.out
     obtain ⟨q1,q2⟩:=M3.out.1.tlbN hT4 hg4
     refine ⟨q1,M3.out.2.1.kept (fun j hj hh=>q2.block j ?_),M3.out.2.2.trans (q2.sub (fun j hj=>yt.2.2.2.1 j hj))⟩
     rcases hh with rfl | rfl | rfl
     . exact yt.1
     . exact yt.2.1
     . exact yt.2.2.1
    clear hT4 hg4 FC c3 M3
    have c3:u4.cell? ⟨M.mb,3,none⟩=some (pp M.tl):=M4.out.1.mac.cell 3
    go_wp2_with fail
    refine Calls.mono (LB.out _ M4.out.1.tlb) ?_
    rintro e u5 ⟨sp5,sc5,rfl,hb5⟩
    have HE:Hid (TI w Y M m s (t0+2) t0 (t0+1) (k+1) c4 u5):=⟨O,n+1,T4,S2,M4.out.1.below hb5,M4.out.2.1.below hb5,GG.out.1,GG.out.2.1,GG.out.2.2.1,GG.out.2.2.2.1,GG.out.2.2.2.2,M4.out.2.2.trans (kept_of_below hb5 (fun j hj=>Nat.lt_of_lt_of_le hj M4.out.2.2.size))⟩
    clear hb5 M4 LB c3
    go_wp2_with fail
    go_roundw
    . exact ⟨k+1,c4,rfl,by simp,by omega,HE.out⟩
    . simp only [intOf];omega
set_option maxRecDepth 100000 in
theorem lifted (os:Os) (started:os.Started) (H:Type) (enc:TypeId × Value->H) :
 ReturnsInHanded {} Tryz.checked os 3 .any (fun w args=>(Rows.spaceTagsSpec.pre enc Tryz.prog Tryz.f3 [] false w args/\laidMetH Tryz.prog laidL w)/\sizedMet enc Tryz.prog Tryz.f3 (OpenSpec.ofChange Rows.spaceTagsSpec) false w args)
  (Rows.spaceTagsSpec.post enc Tryz.prog Tryz.f3 false true false false):=by
 refine returnsInHanded_of_change_and (C:=Tryz.checked) (X:=fun w _=>laidMetH Tryz.prog laidL w) (fun _ _ _ hh h=>h.of_heap hh) own started (by kernel_rfl) Tryz.func3
  (ChangeSpec.witness_shaped (enc:=enc) (C:=Tryz.checked) (os:=os) (X:=fun w _=>laidMetH Tryz.prog laidL w) false (World.doorLaid Tryz.prog 400 os) #[.int .i64 0,.slice none 0 0] 8 rfl (World.shaped_of_RefB (by kernel_rfl) (by kernel_rfl)) (by kernel_rfl) (by kernel_rfl) (by kernel_rfl) (door_met os _)) ?_
 intro W base args ds gs before hval0 hW _ _ hL _
 have hval: ∀ (j:Nat) t v,Tryz.f3.params[j]? =some t->args[j]? =some v->Value.okWide Tryz.prog W .any base t v:=hval0
 have hW':=hW
 obtain ⟨p,q,hA0,hV,hbef,hfz,hnd⟩:=hW
 have hA:DataW.TrodAll enc Tryz.prog W 0 (fun _=>true) true Tryz.f3.params.toList args.toList ds p:=hA0
 have hAk:=hA
 have hlt: ∀ x∈p,x.block<W.heap.size:=fun x hx=>hW'.lt x (by rw [hbef];exact List.mem_append_left _ hx)
 rw [Tryz.params3] at hA hval
 obtain ⟨v0,vs0,d0,ds0,p0,q0,hargs,rfl,hp0,h0,r0⟩:=trodAll_cons hA
 obtain ⟨v1,vs1,d1,ds1,p1,q1,rfl,rfl,hp1,h1,r1⟩:=trodAll_cons r0
 obtain ⟨rfl,rfl,hpz⟩:=trodAll_nil r1
 obtain rfl:args= #[v0,v1]:=by cases args;simp_all
 obtain ⟨rfl,rfl⟩:=trodVars_none hV
 obtain ⟨a0,rfl,_,_,w0⟩:=open_int Tryz.underlying3 (hval 0 3 v0 rfl rfl) h0
 obtain ⟨p1,n1,c1,A1,rfl,m1,H1⟩:=open_ints (hval 1 22 v1 rfl rfl) h1
 clear hA0 hval0
 refine (walk a0 w0 p1 n1 c1 A1 m1 W (of_laid hL) H1).mono fun e W' ⟨he,hg⟩=> ?_
 subst he
 exact ⟨_,rfl,⟨_,_,_,[],p,[],hW',(trodAll_cons_mk (shut_bool Tryz.underlying4 _) trodAll_mk0),args_stay laidOut hg (by kernel_rfl) hAk hlt,rfl,hg.frame _,fun h=>by cases h⟩⟩
theorem over:Rows.spaceTagsRow.holds Tryz.pinned (OpenSpec.ofChange Rows.spaceTagsSpec) :=
 OpenClaim.holds_of_wide 3 Tryz.f3 rfl rfl rfl rfl rfl rfl rfl ⟨rfl,rfl,rfl,rfl,rfl⟩ rfl rfl rfl rfl rfl (by kernel_rfl) Tryz.func3 (by kernel_rfl)
  (of_decide_eq_true (by kernel_rfl)) (by unfold Func.isWrapper;first | (rw [if_pos (by decide +kernel)];kernel_rfl) | (rw [if_neg (by decide +kernel)];exact ⟨rfl,rfl⟩))
  (fun os started H enc _=>lifted os started H enc)
theorem proved:Rows.SpaceTagsCardSaid :=
 Claim7.holds_tied_plain_at .later [] [.data] true (true, "221282a1b92435b0fa0ff5763a43b8c3d1f8dd54f5d6e60e9b564bbf2eec004e") true
  over (fun _ h=>by cases h) (by kernel_rfl) (fun _ h=>by cases h) spaceTags_row_tie rfl ⟨rfl,rfl⟩ (by kernel_rfl) rfl
  (fun f fn hf hfn=>by
   obtain rfl : f = 3 := Option.some.inj ((show Tryz.prog.funcNamed "demesne/demesnelaw12.SpaceTags" = some 3 by kernel_rfl).symm.trans hf) |>.symm
   obtain rfl:fn=Tryz.f3:=(Option.some.inj (Tryz.func3.symm.trans hfn)).symm
   exact ⟨by kernel_rfl,fun j t ht=>by
    rw [Tryz.params3] at ht
    have hm:t∈[3,22]:=by simpa using Array.mem_of_getElem? ht
    have hall:([3,22].all fun u=> !Tryz.prog.wantsStandIn u)=true:=by kernel_rfl
    exact (show Tryz.prog.wantsStandIn t=false by simpa using List.all_eq_true.1 hall t hm)⟩)
  (by kernel_rfl)
#print axioms proved
end Go.Proofs.YthmobfelhpbllaaGreatDoor.spaceTags
