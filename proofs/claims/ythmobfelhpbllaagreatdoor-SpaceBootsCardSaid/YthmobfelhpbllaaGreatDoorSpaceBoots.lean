/- SpaceBoots: Boot answers as the document says,for any plan. No condition. -/
import Derived.Test.YthmobfelhpbllaaGreatDoorRows
import Derived.Test.YthmobfelhpbllaaGreatDoorCards
import Derived.Test.YthmobfelhpbllaaGreatDoorTie
import Derived.ProofKit
import Derived.OpenShut
import Derived.Stop.Joined
import Derived.SevenTiedAt
import Derived.Test.YthmobfelhpbllaaGreatDoorSXb
namespace Go.Proofs.YthmobfelhpbllaaGreatDoor.spaceBoots
open Go.ChangeShapes Go.WideShapes Go.ChangeAt Go.RowKit
set_option linter.unusedSimpArgs false
set_option linter.unusedVariables false
open Go.Proofs.YthmobfelhpbllaaGreatDoor.Tt Go.Proofs.YthmobfelhpbllaaGreatDoor.Sp Go.Proofs.YthmobfelhpbllaaGreatDoor.Gv
set_option maxRecDepth 8000
set_option maxHeartbeats 16000000 in
theorem walk (a0F a0a a0b a0t:Int) (w0:(Lit.int .i64 a0F).wf=true) (p0:Option Addr) (n0 c0:Nat) (B0:Nat->Int) (m0:n0<=maxLen) (l0:n0<=c0) (w:World) (ht:Tab w) (H0:Bm.IsByts w p0 n0 B0) :
 Calls Tryz.prog 6 #[.agg #[.int .i64 a0F,.int .i64 a0a,.int .i64 a0b,.int .i64 a0t,.slice p0 n0 c0]] w fun e w'=>e=.returned (.bool true)/\Below w.heap.size w w':=by
 have AW:Hid (∀ W:World,Tab W->Calls Tryz.prog 7 #[] W fun e w'=>e=.returned (.bool true)/\Below W.heap.size W w'):=fun W t=>awake_any W t
 have HT:Hid (Tab w):=ht
 obtain ⟨S0,Y0⟩:=Bm.byts_src H0
 have C0:Hid (∀ W:World,Below w.heap.size w W->_):=fun W hb=>Bm.cut_any p0 n0 c0 ((List.range n0).map B0) (by simp) l0 W (S0.below hb)
 have HY:Hid (Bm.Byt (((List.range n0).map B0).take 1400)):=fun x hx=>Y0 x (List.mem_of_mem_take hx)
 generalize (List.range n0).map B0=L0 at C0 HY
 obtain ⟨L,hLL⟩: ∃ L,L0.take 1400=L:=⟨_,rfl⟩
 rw [hLL] at C0 HY
 obtain ⟨n,hn⟩: ∃ n,L.length=n:=⟨_,rfl⟩
 have HN:Hid (n=L.length):=hn.symm
 rw [hn] at C0
 have BP:Hid (Blk (w.alloc (.cells #[.int .i64 a0F,.int .i64 a0a,.int .i64 a0b,.int .i64 a0t,.slice p0 n0 c0] 75)) w.heap.size [.int .i64 a0F,.int .i64 a0a,.int .i64 a0b,.int .i64 a0t,.slice p0 n0 c0] 75/\Below w.heap.size w (w.alloc (.cells #[.int .i64 a0F,.int .i64 a0a,.int .i64 a0b,.int .i64 a0t,.slice p0 n0 c0] 75))/\(w.alloc (.cells #[.int .i64 a0F,.int .i64 a0a,.int .i64 a0b,.int .i64 a0t,.slice p0 n0 c0] 75)).heap.size=w.heap.size+1):=⟨Blk.made _ _ _,Go.Joins.below_alloc1 _ _,World.size_alloc _ _⟩
 clear H0 S0 Y0 hLL hn ht
 go_enter Tryz.func6,Tryz.ntmps6
 go_upto_region 1 with fail
 generalize (w.alloc (.cells #[.int .i64 a0F,.int .i64 a0a,.int .i64 a0b,.int .i64 a0t,.slice p0 n0 c0] 75))=w0 at BP |-
 obtain ⟨P,hP⟩: ∃ P,P=w.heap.size:=⟨_,rfl⟩
 have B0':Hid (Blk w0 P [.int .i64 a0F,.int .i64 a0a,.int .i64 a0b,.int .i64 a0t,.slice p0 n0 c0] 75/\Below w.heap.size w w0/\w0.heap.size=P+1/\P=w.heap.size):=by rw [hP];exact ⟨BP.out.1,BP.out.2.1,BP.out.2.2,rfl⟩
 rw [<- hP]
 clear hP BP
 have c4:w0.cell? ⟨P,4,none⟩=some (.slice p0 n0 c0):=B0'.out.1.cell 4
 go_wp2_with fail
 refine Calls.mono (C0.out _ B0'.out.2.1) ?_
 rintro e w1 ⟨g0,k0,rfl,ho,hb1⟩
 have B1:Hid (Blk w1 P [.int .i64 a0F,.int .i64 a0a,.int .i64 a0b,.int .i64 a0t,.slice p0 n0 c0] 75/\Below w.heap.size w w1/\Bm.OL 5 1 Bm.eB w1 w0.heap.size (.slice (some ⟨g0,0,none⟩) n k0) L):=⟨B0'.out.1.below hb1,below_then B0'.out.2.1 hb1,ho⟩
 have c5:w1.cell? ⟨P,4,none⟩=some (.slice p0 n0 c0):=B1.out.1.cell 4
 have z5:w1.frozen? ⟨P,4,none⟩=false:=B1.out.1.free 4
 have N2:Hid (Blk (w1.setCell ⟨P,4,none⟩ (.slice (some ⟨g0,0,none⟩) n k0)) P [.int .i64 a0F,.int .i64 a0a,.int .i64 a0b,.int .i64 a0t,.slice (some ⟨g0,0,none⟩) n k0] 75/\w1.grownBy (w1.setCell ⟨P,4,none⟩ (.slice (some ⟨g0,0,none⟩) n k0)) (some P)):=⟨B1.out.1.set 4 (.slice (some ⟨g0,0,none⟩) n k0),Qu.grown_setCell1 _ _ _ _⟩
 clear ho hb1 c4 C0
 go_upto_region 2 with fail
 generalize (w1.setCell ⟨P,4,none⟩ (.slice (some ⟨g0,0,none⟩) n k0))=w2 at N2 |-
 clear c5 z5
 have B2:Hid (Blk w2 P [.int .i64 a0F,.int .i64 a0a,.int .i64 a0b,.int .i64 a0t,.slice (some ⟨g0,0,none⟩) n k0] 75/\Below w.heap.size w w2/\Bm.OL 5 1 Bm.eB w2 w0.heap.size (.slice (some ⟨g0,0,none⟩) n k0) L):=by
  have pw:=B0'.out.2.2
  refine ⟨N2.out.1,below_of_kept ((kept_of_below B1.out.2.1 (fun j hj=>hj)).trans (kept_one N2.out.2 (fun j hj=>⟨by have:j<w.heap.size:=hj;omega,Nat.lt_of_lt_of_le hj B1.out.2.1.size⟩))),Bm.row_keep B1.out.2.2 (fun g e=>N2.out.2.block g (Bm.row_lt B1.out.2.2 g e).2 (fun q=>by have:=Option.some.inj q;have:=(Bm.row_lt B1.out.2.2 g e).1;omega))⟩
 have T2:Hid (Tab w2):=tab_block HT.out B2.out.2.1.size (B2.out.2.1.block 0 HT.out.1)
 clear N2 B1 B0'
 have x0:w2.cell? ⟨P,0,none⟩=some (.int .i64 a0F):=B2.out.1.cell 0
 by_cases hA:3000<a0F/\a0F<=1048576
 . have d1:decide ((3000:Int)<a0F)=true:=by simp;omega
   have d2:decide (a0F<=(1048576:Int))=true:=by simp;omega
   clear hA
   go_wp2_with fail
   refine Calls.mono (AW.out _ T2.out) ?_
   rintro e u1 ⟨rfl,hu1⟩
   have HB:Hid (Below w.heap.size w u1):=below_then B2.out.2.1 hu1
   clear hu1
   go_wp2_with fail
   go_returns
   exact ⟨rfl,HB.out⟩
 obtain ⟨z,Ml,hfz⟩:=fz_total (Bm.BL L) n a0F (a0a,a0b)
 have FZ:Hid (Bm.FZ (Bm.BL L) n a0F (a0a,a0b) z Ml):=hfz
 obtain ⟨nl,hnl⟩: ∃ nl,nl=Ml.length:=⟨_,rfl⟩
 obtain ⟨cn,hcn⟩: ∃ cn,cn=(sm Ml).toNat:=⟨_,rfl⟩
 have HM:Hid (nl=Ml.length/\cn=(sm Ml).toNat):=⟨hnl,hcn⟩
 have BC:Hid (Calls Tryz.prog 26 #[.agg #[.int .i64 a0F,.int .i64 a0a,.int .i64 a0b,.int .i64 a0t,.slice (some ⟨g0,0,none⟩) n k0]] w2 fun e w'=> ∃ mp,e=.returned (.tuple #[mp,.int .i64 (errB z a0t nl cn)])/\BR w2 mp (errB z a0t nl cn) a0t cn w'):=by
  rw [hnl,hcn]
  exact boot_any a0F a0a a0b a0t z Ml g0 n k0 _ L HN.out HY.out hfz (by omega) w2 T2.out B2.out.2.2
 have GC:Hid (∀ W:World,Below w2.heap.size w2 W->Calls Tryz.prog 27 #[.slice (some ⟨g0,0,none⟩) n k0,.int .i64 a0F,.agg #[.int .i64 a0a,.int .i64 a0b]] W fun e w'=> ∃ v9,e=.returned (.tuple #[v9,.int .i64 z])/\Bm.RL w' 0 v9 Ml/\Below W.heap.size W w'):=fun W hb=>by
  obtain ⟨h1,h2,h3,_⟩:=Bm.bl_cells HN.out (Bm.row_below B2.out.2.2 hb)
  refine (Bm.rframes_any g0 0 n k0 (Bm.BL L) (Bm.bl_bd HY.out) h2 a0F a0a a0b W h1 h3).mono ?_
  rintro e w' ⟨v',z',M',he,q1,q2,_,q4⟩
  obtain ⟨rfl,rfl⟩:=hfz.one q2
  exact ⟨v',he,q1.low (Nat.zero_le _),q4⟩
 obtain ⟨eB,heB⟩: ∃ eB,eB=errB z a0t nl cn:=⟨_,rfl⟩
 rw [<- heB] at BC
 have HE:Hid (eB=errB z a0t nl cn):=heB
 have x1:w2.cell? ⟨P,1,none⟩=some (.int .i64 a0a):=B2.out.1.cell 1
 have x2:w2.cell? ⟨P,2,none⟩=some (.int .i64 a0b):=B2.out.1.cell 2
 have x3:w2.cell? ⟨P,3,none⟩=some (.int .i64 a0t):=B2.out.1.cell 3
 have x4:w2.cell? ⟨P,4,none⟩=some (.slice (some ⟨g0,0,none⟩) n k0):=B2.out.1.cell 4
 have dA:(if decide ((3000:Int)<a0F)=true then decide (a0F<=(1048576:Int)) else false)=false:=by
  by_cases q:3000<a0F
  . have: ¬ a0F<=1048576:=by omega
    simp [q,this]
  . simp [q]
 clear hfz hnl hcn heB
 have ST:Hid (Calls Tryz.prog 26 #[.agg #[.int .i64 a0F,.int .i64 a0a,.int .i64 a0b,.int .i64 a0t,.slice (some ⟨g0,0,none⟩) n k0]] w2 fun e w'=> ∃ mp,e=.returned (.tuple #[mp,.int .i64 eB])/\BR w2 mp eB a0t cn w'):=BC.out
 clear BC
 rcases Decidable.em (3000<a0F) with hq | hq
 . have d1:decide ((3000:Int)<a0F)=true:=by simp;omega
   have d2:decide (a0F<=(1048576:Int))=false:=by simp;omega
   clear hA dA hq
   go_wp2_with fail
   refine Calls.mono ST.out ?_
   rintro e w3 ⟨mp,rfl,hBR⟩
   have B3:Hid (BR w2 mp eB a0t cn w3/\Blk w3 P [.int .i64 a0F,.int .i64 a0a,.int .i64 a0b,.int .i64 a0t,.slice (some ⟨g0,0,none⟩) n k0] 75):=⟨hBR,B2.out.1.below hBR.1⟩
   clear hBR ST x0 x1 x2 x3 x4
   have x0:w3.cell? ⟨P,0,none⟩=some (.int .i64 a0F):=B3.out.2.cell 0
   have x1:w3.cell? ⟨P,1,none⟩=some (.int .i64 a0a):=B3.out.2.cell 1
   have x2:w3.cell? ⟨P,2,none⟩=some (.int .i64 a0b):=B3.out.2.cell 2
   have x4:w3.cell? ⟨P,4,none⟩=some (.slice (some ⟨g0,0,none⟩) n k0):=B3.out.2.cell 4
   go_wp2_with fail
   refine Calls.mono (GC.out _ B3.out.1.1) ?_
   rintro e w4 ⟨v9,rfl,hR9,hb4⟩
   have B4:Hid (BR w2 mp eB a0t cn w4/\Blk w4 P [.int .i64 a0F,.int .i64 a0a,.int .i64 a0b,.int .i64 a0t,.slice (some ⟨g0,0,none⟩) n k0] 75/\Bm.RL w4 0 v9 Ml):=⟨B3.out.1.below hb4,B3.out.2.below hb4,hR9⟩
   clear hR9 hb4 B3 GC x0 x1 x2 x4
   have BE:Hid (∀ W:World,Below w4.heap.size w4 W->BR w2 mp eB a0t cn W/\W.cell? ⟨P,3,none⟩=some (.int .i64 a0t)/\Below w.heap.size w W):=fun W hb=>⟨B4.out.1.below hb,(B4.out.2.1.below hb).cell 3,below_then B2.out.2.1 (B4.out.1.below hb).1⟩
   by_cases z0:z=0
   rotate_left
   . have dz:decide (z=0)=false:=by simp [z0]
     have hM0:Ml=[]:=by
      rcases FZ.out with ⟨_,_,q⟩ | ⟨_,_,_,_,_,_,q⟩ | ⟨_,_,_,_,_,q⟩
      . exact q
      . exact q
      . by_cases c:Ml.length=0
        . exact List.length_eq_zero_iff.1 c
        . rw [if_neg c] at q;exact absurd q z0
     obtain ⟨p9,c9,rfl⟩: ∃ p9 c9,v9=.slice p9 0 c9:=by
      have q:=B4.out.2.2
      rw [hM0] at q
      rcases q with ⟨q,_⟩ | ⟨g,o,c,q,_⟩
      . exact ⟨_,_,q⟩
      . exact ⟨_,_,q⟩
     obtain rfl:eB=z:=by rw [HE.out];exact if_pos z0
     obtain rfl:mp=.pointer none:=by
      rcases B4.out.1.2.2 with q | q
      . exact q.2
      . exact absurd q.1 z0
     clear hM0 B4 HE FZ HM
     go_wp2_with fail
     go_loopw [7,40] (fun nv iv wr=>nv=.int .i64 0/\iv=.int .i64 0/\Hid (Below w4.heap.size w4 wr)) (fun _ _ _=>0)
     case atStart=>exact ⟨rfl,rfl,Below.refl _ _⟩
     case round =>
      obtain ⟨rfl,rfl,hb⟩:=hrel
      have TB:Hid (Tab wr/\Below w.heap.size w wr):=⟨(BE.out wr hb.out).1.2.1,(BE.out wr hb.out).2.2⟩
      clear BE hb
      go_wp2_with fail
      refine Calls.mono (AW.out _ TB.out.1) ?_
      rintro e u1 ⟨rfl,hu1⟩
      have TU:Hid (Tab u1/\Below w.heap.size w u1):=⟨tab_block TB.out.1 hu1.size (hu1.block 0 (TB.out.1).1),below_then TB.out.2 hu1⟩
      clear hu1
      go_wp2_with fail
      refine Calls.mono (AW.out _ TU.out.1) ?_
      rintro e u2 ⟨rfl,hu2⟩
      have HB:Hid (Below w.heap.size w u2):=below_then TU.out.2 hu2
      clear hu2 TU
      go_wp2_with fail
      go_returns
      exact ⟨rfl,HB.out⟩
   subst z0
   have fb:=fz_bounds FZ.out (Bm.bl_bd HY.out)
   obtain ⟨g9,o9,c9,hv9,rc⟩: ∃ g9 o9 c9,v9=.slice (some ⟨g9,o9,none⟩) nl c9/\g9<w4.heap.size/\ ∀ i (hi:i<Ml.length),w4.cell? ⟨g9,o9+i*2,none⟩=some (.int .i64 Ml[i].1)/\w4.cell? ⟨g9,o9+i*2+1,none⟩=some (.int .i64 Ml[i].2):=by
    rcases B4.out.2.2 with ⟨_,q⟩ | ⟨g,o,c,q,_,_,lg,h⟩
    . exact absurd q fb.2.2
    . exact ⟨g,o,c,by rw [q,HM.out.1],lg,fun i hi=>⟨h i hi 0 (by omega),h i hi 1 (by omega)⟩⟩
   subst hv9
   have RC:Hid (g9<w4.heap.size/\ ∀ i (hi:i<Ml.length),w4.cell? ⟨g9,o9+i*2,none⟩=some (.int .i64 Ml[i].1)/\w4.cell? ⟨g9,o9+i*2+1,none⟩=some (.int .i64 Ml[i].2)):=rc
   have hG:a0F<=1048576:=by
    rcases FZ.out with ⟨_,b,_⟩ | ⟨_,_,_,_,q,b,_⟩ | ⟨a,_⟩
    . cases b
    . exact absurd b.symm q
    . exact a.2.1
   have hh: ∀ x,Bm.Has Ml x->0<=x/\x<1048576:=fun x hx=>⟨(fb.1 x hx).1,by have:=(fb.1 x hx).2.1;omega⟩
   have SB:Hid (∀ i,0<=sm (Ml.take i)/\sm (Ml.take i)<=1048576):=fun i=>sm_bd fb.2.1 hh i
   have RB:Hid (∀ i (hi:i<Ml.length),0<=Ml[i].1/\Ml[i].1<Ml[i].2/\Ml[i].2<=1048576):=fun i hi=>by
    have q:=fb.2.1.1 _ (List.getElem_mem hi)
    have q1:=hh Ml[i].1 ⟨_,List.getElem_mem hi,Int.le_refl _,q⟩
    have q2:=hh (Ml[i].2-1) ⟨_,List.getElem_mem hi,by omega,by omega⟩
    exact ⟨q1.1,q,by omega⟩
   have HC:Hid (nl<=5000000/\sm (Ml.take nl)=(cn:Nat)/\cn<=1048576):=by
    have s1:=SB.out nl
    have e:Ml.take nl=Ml:=by rw [HM.out.1];exact List.take_length
    have e2:=HM.out.2
    rw [e] at s1 |-
    have le: ∀ M:List (Int × Int),Bm.Can M->(M.length:Int)<=sm M:=fun M=>by
     induction M with
     | nil => intro _; exact Int.le_refl _
     | cons r T ih => intro h; have := ih ⟨fun q hq => h.1 q (List.mem_cons_of_mem _ hq), (List.pairwise_cons.1 h.2).2⟩; have := h.1 r List.mem_cons_self; show (((r :: T).length : Nat) : Int) ≤ (r.2 - r.1) + sm T; rw [List.length_cons]; omega
    have:=le Ml fb.2.1
    have:=HM.out.1
    exact ⟨by omega,by omega,by omega⟩
   clear fb rc hG hh B4 FZ
   go_wp2_with fail
   go_loopw [7,40] (fun nv iv wr=> ∃ i:Nat,i<=nl/\nv=.int .i64 (sm (Ml.take i))/\iv=.int .i64 i/\Hid (Below w4.heap.size w4 wr)) (fun _ iv _=>nl-(Go.RowKit.intOf iv).toNat)
   case atStart=>exact ⟨0,by omega,rfl,rfl,Below.refl _ _⟩
   case round =>
    obtain ⟨i,hi,rfl,rfl,hb⟩:=hrel
    by_cases ci:i<nl
    . have iL:i<Ml.length:=by rw [<- HM.out.1];exact ci
      have dj:decide ((i:Int)<(nl:Int))=true:=decide_eq_true (by omega)
      have d0:decide ((i:Int)<0)=false:=by simp
      have y0:wr.cell? ⟨g9,o9+i*2,none⟩=some (.int .i64 Ml[i].1):=(World.cell?_of_block (hb.out.block g9 RC.out.1)).trans (RC.out.2 i iL).1
      have y1:wr.cell? ⟨g9,o9+i*2+1,none⟩=some (.int .i64 Ml[i].2):=(World.cell?_of_block (hb.out.block g9 RC.out.1)).trans (RC.out.2 i iL).2
      have lg:g9<wr.heap.size:=Nat.lt_of_lt_of_le RC.out.1 hb.out.size
      have sn:=sm_next iL
      have r1:=RB.out i iL
      have s1:=SB.out i
      have s2:=SB.out (i+1)
      have hb2:Hid (Below w4.heap.size w4 (wr.alloc (.cells #[.int .i64 Ml[i].1,.int .i64 Ml[i].2] 56))):=below_then hb.out (Go.Joins.below_alloc1 _ _)
      generalize Ml[i].1=a at *
      generalize Ml[i].2=b at *
      generalize sm (Ml.take i)=sa at *
      have w1':IntKind.i64.wrap (b-a)=b-a:=by simp only [IntKind.wrap_i64];omega
      have w2':IntKind.i64.wrap (sa+(b-a))=sm (Ml.take (i+1)):=by rw [sn];simp only [IntKind.wrap_i64];omega
      have w3':IntKind.i64.wrap ((i:Int)+1)=((i+1:Nat):Int):=by have:=HC.out.1;simp only [IntKind.wrap_i64];omega
      clear sn r1 s1 s2 iL hb
      go_wp2_with fail
      go_roundw
      case rel=>exact ⟨i+1,by omega,rfl,rfl,hb2⟩
      case measure=>show nl-(Int.toNat ((i+1:Nat):Int))<nl-(Int.toNat (i:Int));omega
    obtain rfl:i=nl:=by omega
    have dj:decide ((i:Int)<(i:Int))=false:=by simp
    rw [HC.out.2.1]
    obtain ⟨q1,q2,q3⟩:=BE.out wr hb.out
    have TB:Hid (Tab wr/\Below w.heap.size w wr/\BR w2 mp eB a0t cn wr):=⟨q1.2.1,q3,q1⟩
    have e0:errB 0 a0t i cn=if a0t<1\/4095<a0t then 1 else if 64<i then 4 else if cn<2 then 8 else 0:=if_neg (by simp)
    have HE2:=HE.out
    rw [e0] at HE2
    clear q1 q3 BE hb SB RB RC HM HE e0 ci hi
    by_cases t1:a0t<1
    . rw [if_pos (Or.inl t1)] at HE2
      subst HE2
      have d1:decide (a0t<(1:Int))=true:=by simp;omega
      obtain rfl:mp=.pointer none:=by
       rcases TB.out.2.2.2.2 with q | q
       . exact q.2
       . exact absurd q.1 (by decide)
      clear t1
      go_wp2_with fail
      refine Calls.mono (AW.out _ TB.out.1) ?_
      rintro e u1 ⟨rfl,hu1⟩
      have TU:Hid (Tab u1/\Below w.heap.size w u1):=⟨tab_block TB.out.1 hu1.size (hu1.block 0 (TB.out.1).1),below_then TB.out.2.1 hu1⟩
      clear hu1
      go_wp2_with fail
      refine Calls.mono (AW.out _ TU.out.1) ?_
      rintro e u2 ⟨rfl,hu2⟩
      have HB:Hid (Below w.heap.size w u2):=below_then TU.out.2 hu2
      clear hu2 TU
      go_wp2_with fail
      go_returns
      exact ⟨rfl,HB.out⟩
    by_cases t2:4095<a0t
    . rw [if_pos (Or.inr t2)] at HE2
      subst HE2
      have d1:decide (a0t<(1:Int))=false:=by simp;omega
      have d2:decide ((4095:Int)<a0t)=true:=by simp;omega
      obtain rfl:mp=.pointer none:=by
       rcases TB.out.2.2.2.2 with q | q
       . exact q.2
       . exact absurd q.1 (by decide)
      clear t1 t2
      go_wp2_with fail
      refine Calls.mono (AW.out _ TB.out.1) ?_
      rintro e u1 ⟨rfl,hu1⟩
      have TU:Hid (Tab u1/\Below w.heap.size w u1):=⟨tab_block TB.out.1 hu1.size (hu1.block 0 (TB.out.1).1),below_then TB.out.2.1 hu1⟩
      clear hu1
      go_wp2_with fail
      refine Calls.mono (AW.out _ TU.out.1) ?_
      rintro e u2 ⟨rfl,hu2⟩
      have HB:Hid (Below w.heap.size w u2):=below_then TU.out.2 hu2
      clear hu2 TU
      go_wp2_with fail
      go_returns
      exact ⟨rfl,HB.out⟩
    rw [if_neg (by omega)] at HE2
    have d1:decide (a0t<(1:Int))=false:=by simp;omega
    have d2:decide ((4095:Int)<a0t)=false:=by simp;omega
    clear t1 t2
    by_cases t3:64<i
    . rw [if_pos t3] at HE2
      subst HE2
      have d3:decide ((64:Int)<(i:Int))=true:=by simp;omega
      obtain rfl:mp=.pointer none:=by
       rcases TB.out.2.2.2.2 with q | q
       . exact q.2
       . exact absurd q.1 (by decide)
      clear t3
      go_wp2_with fail
      refine Calls.mono (AW.out _ TB.out.1) ?_
      rintro e u1 ⟨rfl,hu1⟩
      have TU:Hid (Tab u1/\Below w.heap.size w u1):=⟨tab_block TB.out.1 hu1.size (hu1.block 0 (TB.out.1).1),below_then TB.out.2.1 hu1⟩
      clear hu1
      go_wp2_with fail
      refine Calls.mono (AW.out _ TU.out.1) ?_
      rintro e u2 ⟨rfl,hu2⟩
      have HB:Hid (Below w.heap.size w u2):=below_then TU.out.2 hu2
      clear hu2 TU
      go_wp2_with fail
      go_returns
      exact ⟨rfl,HB.out⟩
    rw [if_neg t3] at HE2
    have d3:decide ((64:Int)<(i:Int))=false:=by simp;omega
    clear t3
    by_cases t4:cn<2
    . rw [if_pos t4] at HE2
      subst HE2
      have d4:decide ((cn:Int)<2)=true:=by simp;omega
      obtain rfl:mp=.pointer none:=by
       rcases TB.out.2.2.2.2 with q | q
       . exact q.2
       . exact absurd q.1 (by decide)
      clear t4
      go_wp2_with fail
      refine Calls.mono (AW.out _ TB.out.1) ?_
      rintro e u1 ⟨rfl,hu1⟩
      have TU:Hid (Tab u1/\Below w.heap.size w u1):=⟨tab_block TB.out.1 hu1.size (hu1.block 0 (TB.out.1).1),below_then TB.out.2.1 hu1⟩
      clear hu1
      go_wp2_with fail
      refine Calls.mono (AW.out _ TU.out.1) ?_
      rintro e u2 ⟨rfl,hu2⟩
      have HB:Hid (Below w.heap.size w u2):=below_then TU.out.2 hu2
      clear hu2 TU
      go_wp2_with fail
      go_returns
      exact ⟨rfl,HB.out⟩
    rw [if_neg t4] at HE2
    subst HE2
    have d4:decide ((cn:Int)<2)=false:=by simp;omega
    obtain ⟨k,hk⟩: ∃ k,k=cn-2:=⟨_,rfl⟩
    have hw:IntKind.i64.wrap ((cn:Int)-2)=(k:Nat):=by have:=HC.out.2.2;simp only [IntKind.wrap_i64];omega
    obtain ⟨O,M,m,s,rfl,hM,hN⟩: ∃ O M m s,mp=pp M.mb/\Mc (fun j=>j<w2.heap.size) O 0 wr M m s Tl.T0 (Pc.freshS a0t) []/\Nums m s 0 ((cn:Int)-2) 2 (cn-2):=by
     rcases TB.out.2.2.2.2 with q | q
     . exact absurd rfl q.1
     . exact q.2
    rw [<- hk] at hN
    have NN:Hid (Nums m s 0 ((cn:Int)-2) 2 k):=hN
    have KK:Hid ((cn:Int)-2=(k:Nat)):=by show _=_;omega
    have MR:Hid (Mc (fun j=>j<w2.heap.size) O 0 wr M m s Tl.T0 (Pc.freshS a0t) []):=hM
    have BL0:Hid (Tab wr/\Below w.heap.size w wr):=⟨TB.out.1,TB.out.2.1⟩
    clear hM hN hk t4 TB HC
    go_wp2_with fail
    refine Calls.mono (AW.out _ BL0.out.1) ?_
    rintro e u1 ⟨rfl,hu1⟩
    have MU:Hid (Mc (fun j=>j<w2.heap.size) O 0 u1 M m s Tl.T0 (Pc.freshS a0t) []/\Below w.heap.size w u1):=⟨MR.out.below hu1,below_then BL0.out.2 hu1⟩
    clear hu1 MR BL0
    have FC:Hid (Calls Tryz.prog 15 #[pp m.b] u1 fun e w'=>e=.returned (.int .i64 (k:Nat))/\w'=u1):=by
     have q:=MU.out.1.pu.free
     rw [NN.out.free] at q;exact q
    have c1:u1.cell? ⟨M.mb,1,none⟩=some (pp m.b):=MU.out.1.mac.cell 1
    have c2:u1.cell? ⟨M.mb,2,none⟩=some (pp m.tb):=MU.out.1.mac.cell 2
    have RC:Hid (Calls Tryz.prog 28 #[pp m.tb,.int .i64 0] u1 fun e w'=>e=.returned (.int .i64 (k:Nat))/\Below u1.heap.size u1 w'):=by
     have q:=Pu.room MU.out.1.pu 0
     rw [getN0,NN.out.room,KK.out] at q;exact q
    go_wp2_with fail
    refine Calls.mono FC.out ?_
    rintro e u1' ⟨rfl,hu⟩
    have hu2:=hu.symm
    subst hu2
    clear hu FC
    go_wp2_with fail
    refine Calls.mono RC.out ?_
    rintro e u2 ⟨rfl,hu2⟩
    have M2:Hid (Mc (fun j=>j<w2.heap.size) O 0 u2 M m s Tl.T0 (Pc.freshS a0t) []/\Below w.heap.size w u2):=⟨MU.out.1.below hu2,below_then MU.out.2 hu2⟩
    clear hu2 MU RC c1 c2
    have SC:Hid _:=spaces_none M2.out.1
    go_wp2_with fail
    refine Calls.mono SC.out ?_
    rintro e u3 ⟨pf,cf,rfl,hu3⟩
    have M3:Hid (Mc (fun j=>j<w2.heap.size) O 0 u3 M m s Tl.T0 (Pc.freshS a0t) []/\Below w.heap.size w u3):=⟨M2.out.1.below hu3,below_then M2.out.2 hu3⟩
    clear hu3 M2 SC
    have SC:Hid _:=stale_none M3.out.1
    go_wp2_with fail
    refine Calls.mono SC.out ?_
    rintro e u4 ⟨pf2,cf2,rfl,hu4⟩
    have HB:Hid (Below w.heap.size w u4):=below_then M3.out.2 hu4
    clear hu4 M3 SC
    go_wp2_with fail
    go_returns
    exact ⟨rfl,HB.out⟩
 . have d1:decide ((3000:Int)<a0F)=false:=by simp;omega
   clear hA dA hq
   go_wp2_with fail
   refine Calls.mono ST.out ?_
   rintro e w3 ⟨mp,rfl,hBR⟩
   have B3:Hid (BR w2 mp eB a0t cn w3/\Blk w3 P [.int .i64 a0F,.int .i64 a0a,.int .i64 a0b,.int .i64 a0t,.slice (some ⟨g0,0,none⟩) n k0] 75):=⟨hBR,B2.out.1.below hBR.1⟩
   clear hBR ST x0 x1 x2 x3 x4
   have x0:w3.cell? ⟨P,0,none⟩=some (.int .i64 a0F):=B3.out.2.cell 0
   have x1:w3.cell? ⟨P,1,none⟩=some (.int .i64 a0a):=B3.out.2.cell 1
   have x2:w3.cell? ⟨P,2,none⟩=some (.int .i64 a0b):=B3.out.2.cell 2
   have x4:w3.cell? ⟨P,4,none⟩=some (.slice (some ⟨g0,0,none⟩) n k0):=B3.out.2.cell 4
   go_wp2_with fail
   refine Calls.mono (GC.out _ B3.out.1.1) ?_
   rintro e w4 ⟨v9,rfl,hR9,hb4⟩
   have B4:Hid (BR w2 mp eB a0t cn w4/\Blk w4 P [.int .i64 a0F,.int .i64 a0a,.int .i64 a0b,.int .i64 a0t,.slice (some ⟨g0,0,none⟩) n k0] 75/\Bm.RL w4 0 v9 Ml):=⟨B3.out.1.below hb4,B3.out.2.below hb4,hR9⟩
   clear hR9 hb4 B3 GC x0 x1 x2 x4
   have BE:Hid (∀ W:World,Below w4.heap.size w4 W->BR w2 mp eB a0t cn W/\W.cell? ⟨P,3,none⟩=some (.int .i64 a0t)/\Below w.heap.size w W):=fun W hb=>⟨B4.out.1.below hb,(B4.out.2.1.below hb).cell 3,below_then B2.out.2.1 (B4.out.1.below hb).1⟩
   by_cases z0:z=0
   rotate_left
   . have dz:decide (z=0)=false:=by simp [z0]
     have hM0:Ml=[]:=by
      rcases FZ.out with ⟨_,_,q⟩ | ⟨_,_,_,_,_,_,q⟩ | ⟨_,_,_,_,_,q⟩
      . exact q
      . exact q
      . by_cases c:Ml.length=0
        . exact List.length_eq_zero_iff.1 c
        . rw [if_neg c] at q;exact absurd q z0
     obtain ⟨p9,c9,rfl⟩: ∃ p9 c9,v9=.slice p9 0 c9:=by
      have q:=B4.out.2.2
      rw [hM0] at q
      rcases q with ⟨q,_⟩ | ⟨g,o,c,q,_⟩
      . exact ⟨_,_,q⟩
      . exact ⟨_,_,q⟩
     obtain rfl:eB=z:=by rw [HE.out];exact if_pos z0
     obtain rfl:mp=.pointer none:=by
      rcases B4.out.1.2.2 with q | q
      . exact q.2
      . exact absurd q.1 z0
     clear hM0 B4 HE FZ HM
     go_wp2_with fail
     go_loopw [7,40] (fun nv iv wr=>nv=.int .i64 0/\iv=.int .i64 0/\Hid (Below w4.heap.size w4 wr)) (fun _ _ _=>0)
     case atStart=>exact ⟨rfl,rfl,Below.refl _ _⟩
     case round =>
      obtain ⟨rfl,rfl,hb⟩:=hrel
      have TB:Hid (Tab wr/\Below w.heap.size w wr):=⟨(BE.out wr hb.out).1.2.1,(BE.out wr hb.out).2.2⟩
      clear BE hb
      go_wp2_with fail
      refine Calls.mono (AW.out _ TB.out.1) ?_
      rintro e u1 ⟨rfl,hu1⟩
      have TU:Hid (Tab u1/\Below w.heap.size w u1):=⟨tab_block TB.out.1 hu1.size (hu1.block 0 (TB.out.1).1),below_then TB.out.2 hu1⟩
      clear hu1
      go_wp2_with fail
      refine Calls.mono (AW.out _ TU.out.1) ?_
      rintro e u2 ⟨rfl,hu2⟩
      have HB:Hid (Below w.heap.size w u2):=below_then TU.out.2 hu2
      clear hu2 TU
      go_wp2_with fail
      go_returns
      exact ⟨rfl,HB.out⟩
   subst z0
   have fb:=fz_bounds FZ.out (Bm.bl_bd HY.out)
   obtain ⟨g9,o9,c9,hv9,rc⟩: ∃ g9 o9 c9,v9=.slice (some ⟨g9,o9,none⟩) nl c9/\g9<w4.heap.size/\ ∀ i (hi:i<Ml.length),w4.cell? ⟨g9,o9+i*2,none⟩=some (.int .i64 Ml[i].1)/\w4.cell? ⟨g9,o9+i*2+1,none⟩=some (.int .i64 Ml[i].2):=by
    rcases B4.out.2.2 with ⟨_,q⟩ | ⟨g,o,c,q,_,_,lg,h⟩
    . exact absurd q fb.2.2
    . exact ⟨g,o,c,by rw [q,HM.out.1],lg,fun i hi=>⟨h i hi 0 (by omega),h i hi 1 (by omega)⟩⟩
   subst hv9
   have RC:Hid (g9<w4.heap.size/\ ∀ i (hi:i<Ml.length),w4.cell? ⟨g9,o9+i*2,none⟩=some (.int .i64 Ml[i].1)/\w4.cell? ⟨g9,o9+i*2+1,none⟩=some (.int .i64 Ml[i].2)):=rc
   have hG:a0F<=1048576:=by
    rcases FZ.out with ⟨_,b,_⟩ | ⟨_,_,_,_,q,b,_⟩ | ⟨a,_⟩
    . cases b
    . exact absurd b.symm q
    . exact a.2.1
   have hh: ∀ x,Bm.Has Ml x->0<=x/\x<1048576:=fun x hx=>⟨(fb.1 x hx).1,by have:=(fb.1 x hx).2.1;omega⟩
   have SB:Hid (∀ i,0<=sm (Ml.take i)/\sm (Ml.take i)<=1048576):=fun i=>sm_bd fb.2.1 hh i
   have RB:Hid (∀ i (hi:i<Ml.length),0<=Ml[i].1/\Ml[i].1<Ml[i].2/\Ml[i].2<=1048576):=fun i hi=>by
    have q:=fb.2.1.1 _ (List.getElem_mem hi)
    have q1:=hh Ml[i].1 ⟨_,List.getElem_mem hi,Int.le_refl _,q⟩
    have q2:=hh (Ml[i].2-1) ⟨_,List.getElem_mem hi,by omega,by omega⟩
    exact ⟨q1.1,q,by omega⟩
   have HC:Hid (nl<=5000000/\sm (Ml.take nl)=(cn:Nat)/\cn<=1048576):=by
    have s1:=SB.out nl
    have e:Ml.take nl=Ml:=by rw [HM.out.1];exact List.take_length
    have e2:=HM.out.2
    rw [e] at s1 |-
    have le: ∀ M:List (Int × Int),Bm.Can M->(M.length:Int)<=sm M:=fun M=>by
     induction M with
     | nil => intro _; exact Int.le_refl _
     | cons r T ih => intro h; have := ih ⟨fun q hq => h.1 q (List.mem_cons_of_mem _ hq), (List.pairwise_cons.1 h.2).2⟩; have := h.1 r List.mem_cons_self; show (((r :: T).length : Nat) : Int) ≤ (r.2 - r.1) + sm T; rw [List.length_cons]; omega
    have:=le Ml fb.2.1
    have:=HM.out.1
    exact ⟨by omega,by omega,by omega⟩
   clear fb rc hG hh B4 FZ
   go_wp2_with fail
   go_loopw [7,40] (fun nv iv wr=> ∃ i:Nat,i<=nl/\nv=.int .i64 (sm (Ml.take i))/\iv=.int .i64 i/\Hid (Below w4.heap.size w4 wr)) (fun _ iv _=>nl-(Go.RowKit.intOf iv).toNat)
   case atStart=>exact ⟨0,by omega,rfl,rfl,Below.refl _ _⟩
   case round =>
    obtain ⟨i,hi,rfl,rfl,hb⟩:=hrel
    by_cases ci:i<nl
    . have iL:i<Ml.length:=by rw [<- HM.out.1];exact ci
      have dj:decide ((i:Int)<(nl:Int))=true:=decide_eq_true (by omega)
      have d0:decide ((i:Int)<0)=false:=by simp
      have y0:wr.cell? ⟨g9,o9+i*2,none⟩=some (.int .i64 Ml[i].1):=(World.cell?_of_block (hb.out.block g9 RC.out.1)).trans (RC.out.2 i iL).1
      have y1:wr.cell? ⟨g9,o9+i*2+1,none⟩=some (.int .i64 Ml[i].2):=(World.cell?_of_block (hb.out.block g9 RC.out.1)).trans (RC.out.2 i iL).2
      have lg:g9<wr.heap.size:=Nat.lt_of_lt_of_le RC.out.1 hb.out.size
      have sn:=sm_next iL
      have r1:=RB.out i iL
      have s1:=SB.out i
      have s2:=SB.out (i+1)
      have hb2:Hid (Below w4.heap.size w4 (wr.alloc (.cells #[.int .i64 Ml[i].1,.int .i64 Ml[i].2] 56))):=below_then hb.out (Go.Joins.below_alloc1 _ _)
      generalize Ml[i].1=a at *
      generalize Ml[i].2=b at *
      generalize sm (Ml.take i)=sa at *
      have w1':IntKind.i64.wrap (b-a)=b-a:=by simp only [IntKind.wrap_i64];omega
      have w2':IntKind.i64.wrap (sa+(b-a))=sm (Ml.take (i+1)):=by rw [sn];simp only [IntKind.wrap_i64];omega
      have w3':IntKind.i64.wrap ((i:Int)+1)=((i+1:Nat):Int):=by have:=HC.out.1;simp only [IntKind.wrap_i64];omega
      clear sn r1 s1 s2 iL hb
      go_wp2_with fail
      go_roundw
      case rel=>exact ⟨i+1,by omega,rfl,rfl,hb2⟩
      case measure=>show nl-(Int.toNat ((i+1:Nat):Int))<nl-(Int.toNat (i:Int));omega
    obtain rfl:i=nl:=by omega
    have dj:decide ((i:Int)<(i:Int))=false:=by simp
    rw [HC.out.2.1]
    obtain ⟨q1,q2,q3⟩:=BE.out wr hb.out
    have TB:Hid (Tab wr/\Below w.heap.size w wr/\BR w2 mp eB a0t cn wr):=⟨q1.2.1,q3,q1⟩
    have e0:errB 0 a0t i cn=if a0t<1\/4095<a0t then 1 else if 64<i then 4 else if cn<2 then 8 else 0:=if_neg (by simp)
    have HE2:=HE.out
    rw [e0] at HE2
    clear q1 q3 BE hb SB RB RC HM HE e0 ci hi
    by_cases t1:a0t<1
    . rw [if_pos (Or.inl t1)] at HE2
      subst HE2
      have d1:decide (a0t<(1:Int))=true:=by simp;omega
      obtain rfl:mp=.pointer none:=by
       rcases TB.out.2.2.2.2 with q | q
       . exact q.2
       . exact absurd q.1 (by decide)
      clear t1
      go_wp2_with fail
      refine Calls.mono (AW.out _ TB.out.1) ?_
      rintro e u1 ⟨rfl,hu1⟩
      have TU:Hid (Tab u1/\Below w.heap.size w u1):=⟨tab_block TB.out.1 hu1.size (hu1.block 0 (TB.out.1).1),below_then TB.out.2.1 hu1⟩
      clear hu1
      go_wp2_with fail
      refine Calls.mono (AW.out _ TU.out.1) ?_
      rintro e u2 ⟨rfl,hu2⟩
      have HB:Hid (Below w.heap.size w u2):=below_then TU.out.2 hu2
      clear hu2 TU
      go_wp2_with fail
      go_returns
      exact ⟨rfl,HB.out⟩
    by_cases t2:4095<a0t
    . rw [if_pos (Or.inr t2)] at HE2
      subst HE2
      have d1:decide (a0t<(1:Int))=false:=by simp;omega
      have d2:decide ((4095:Int)<a0t)=true:=by simp;omega
      obtain rfl:mp=.pointer none:=by
       rcases TB.out.2.2.2.2 with q | q
       . exact q.2
       . exact absurd q.1 (by decide)
      clear t1 t2
      go_wp2_with fail
      refine Calls.mono (AW.out _ TB.out.1) ?_
      rintro e u1 ⟨rfl,hu1⟩
      have TU:Hid (Tab u1/\Below w.heap.size w u1):=⟨tab_block TB.out.1 hu1.size (hu1.block 0 (TB.out.1).1),below_then TB.out.2.1 hu1⟩
      clear hu1
      go_wp2_with fail
      refine Calls.mono (AW.out _ TU.out.1) ?_
      rintro e u2 ⟨rfl,hu2⟩
      have HB:Hid (Below w.heap.size w u2):=below_then TU.out.2 hu2
      clear hu2 TU
      go_wp2_with fail
      go_returns
      exact ⟨rfl,HB.out⟩
    rw [if_neg (by omega)] at HE2
    have d1:decide (a0t<(1:Int))=false:=by simp;omega
    have d2:decide ((4095:Int)<a0t)=false:=by simp;omega
    clear t1 t2
    by_cases t3:64<i
    . rw [if_pos t3] at HE2
      subst HE2
      have d3:decide ((64:Int)<(i:Int))=true:=by simp;omega
      obtain rfl:mp=.pointer none:=by
       rcases TB.out.2.2.2.2 with q | q
       . exact q.2
       . exact absurd q.1 (by decide)
      clear t3
      go_wp2_with fail
      refine Calls.mono (AW.out _ TB.out.1) ?_
      rintro e u1 ⟨rfl,hu1⟩
      have TU:Hid (Tab u1/\Below w.heap.size w u1):=⟨tab_block TB.out.1 hu1.size (hu1.block 0 (TB.out.1).1),below_then TB.out.2.1 hu1⟩
      clear hu1
      go_wp2_with fail
      refine Calls.mono (AW.out _ TU.out.1) ?_
      rintro e u2 ⟨rfl,hu2⟩
      have HB:Hid (Below w.heap.size w u2):=below_then TU.out.2 hu2
      clear hu2 TU
      go_wp2_with fail
      go_returns
      exact ⟨rfl,HB.out⟩
    rw [if_neg t3] at HE2
    have d3:decide ((64:Int)<(i:Int))=false:=by simp;omega
    clear t3
    by_cases t4:cn<2
    . rw [if_pos t4] at HE2
      subst HE2
      have d4:decide ((cn:Int)<2)=true:=by simp;omega
      obtain rfl:mp=.pointer none:=by
       rcases TB.out.2.2.2.2 with q | q
       . exact q.2
       . exact absurd q.1 (by decide)
      clear t4
      go_wp2_with fail
      refine Calls.mono (AW.out _ TB.out.1) ?_
      rintro e u1 ⟨rfl,hu1⟩
      have TU:Hid (Tab u1/\Below w.heap.size w u1):=⟨tab_block TB.out.1 hu1.size (hu1.block 0 (TB.out.1).1),below_then TB.out.2.1 hu1⟩
      clear hu1
      go_wp2_with fail
      refine Calls.mono (AW.out _ TU.out.1) ?_
      rintro e u2 ⟨rfl,hu2⟩
      have HB:Hid (Below w.heap.size w u2):=below_then TU.out.2 hu2
      clear hu2 TU
      go_wp2_with fail
      go_returns
      exact ⟨rfl,HB.out⟩
    rw [if_neg t4] at HE2
    subst HE2
    have d4:decide ((cn:Int)<2)=false:=by simp;omega
    obtain ⟨k,hk⟩: ∃ k,k=cn-2:=⟨_,rfl⟩
    have hw:IntKind.i64.wrap ((cn:Int)-2)=(k:Nat):=by have:=HC.out.2.2;simp only [IntKind.wrap_i64];omega
    obtain ⟨O,M,m,s,rfl,hM,hN⟩: ∃ O M m s,mp=pp M.mb/\Mc (fun j=>j<w2.heap.size) O 0 wr M m s Tl.T0 (Pc.freshS a0t) []/\Nums m s 0 ((cn:Int)-2) 2 (cn-2):=by
     rcases TB.out.2.2.2.2 with q | q
     . exact absurd rfl q.1
     . exact q.2
    rw [<- hk] at hN
    have NN:Hid (Nums m s 0 ((cn:Int)-2) 2 k):=hN
    have KK:Hid ((cn:Int)-2=(k:Nat)):=by show _=_;omega
    have MR:Hid (Mc (fun j=>j<w2.heap.size) O 0 wr M m s Tl.T0 (Pc.freshS a0t) []):=hM
    have BL0:Hid (Tab wr/\Below w.heap.size w wr):=⟨TB.out.1,TB.out.2.1⟩
    clear hM hN hk t4 TB HC
    go_wp2_with fail
    refine Calls.mono (AW.out _ BL0.out.1) ?_
    rintro e u1 ⟨rfl,hu1⟩
    have MU:Hid (Mc (fun j=>j<w2.heap.size) O 0 u1 M m s Tl.T0 (Pc.freshS a0t) []/\Below w.heap.size w u1):=⟨MR.out.below hu1,below_then BL0.out.2 hu1⟩
    clear hu1 MR BL0
    have FC:Hid (Calls Tryz.prog 15 #[pp m.b] u1 fun e w'=>e=.returned (.int .i64 (k:Nat))/\w'=u1):=by
     have q:=MU.out.1.pu.free
     rw [NN.out.free] at q;exact q
    have c1:u1.cell? ⟨M.mb,1,none⟩=some (pp m.b):=MU.out.1.mac.cell 1
    have c2:u1.cell? ⟨M.mb,2,none⟩=some (pp m.tb):=MU.out.1.mac.cell 2
    have RC:Hid (Calls Tryz.prog 28 #[pp m.tb,.int .i64 0] u1 fun e w'=>e=.returned (.int .i64 (k:Nat))/\Below u1.heap.size u1 w'):=by
     have q:=Pu.room MU.out.1.pu 0
     rw [getN0,NN.out.room,KK.out] at q;exact q
    go_wp2_with fail
    refine Calls.mono FC.out ?_
    rintro e u1' ⟨rfl,hu⟩
    have hu2:=hu.symm
    subst hu2
    clear hu FC
    go_wp2_with fail
    refine Calls.mono RC.out ?_
    rintro e u2 ⟨rfl,hu2⟩
    have M2:Hid (Mc (fun j=>j<w2.heap.size) O 0 u2 M m s Tl.T0 (Pc.freshS a0t) []/\Below w.heap.size w u2):=⟨MU.out.1.below hu2,below_then MU.out.2 hu2⟩
    clear hu2 MU RC c1 c2
    have SC:Hid _:=spaces_none M2.out.1
    go_wp2_with fail
    refine Calls.mono SC.out ?_
    rintro e u3 ⟨pf,cf,rfl,hu3⟩
    have M3:Hid (Mc (fun j=>j<w2.heap.size) O 0 u3 M m s Tl.T0 (Pc.freshS a0t) []/\Below w.heap.size w u3):=⟨M2.out.1.below hu3,below_then M2.out.2 hu3⟩
    clear hu3 M2 SC
    have SC:Hid _:=stale_none M3.out.1
    go_wp2_with fail
    refine Calls.mono SC.out ?_
    rintro e u4 ⟨pf2,cf2,rfl,hu4⟩
    have HB:Hid (Below w.heap.size w u4):=below_then M3.out.2 hu4
    clear hu4 M3 SC
    go_wp2_with fail
    go_returns
    exact ⟨rfl,HB.out⟩
set_option maxRecDepth 100000 in
theorem lifted (os:Os) (started:os.Started) (H:Type) (enc:TypeId × Value->H) :
 ReturnsInHanded {} Tryz.checked os 6 .any (fun w args=>(Rows.spaceBootsSpec.pre enc Tryz.prog Tryz.f6 [] false w args/\laidMetH Tryz.prog laidL w)/\sizedMet enc Tryz.prog Tryz.f6 (OpenSpec.ofChange Rows.spaceBootsSpec) false w args)
  (Rows.spaceBootsSpec.post enc Tryz.prog Tryz.f6 false true false false):=by
 refine returnsInHanded_of_change_and (C:=Tryz.checked) (X:=fun w _=>laidMetH Tryz.prog laidL w) (fun _ _ _ hh h=>h.of_heap hh) own started (by kernel_rfl) Tryz.func6
  (ChangeSpec.witness_shaped (enc:=enc) (C:=Tryz.checked) (os:=os) (X:=fun w _=>laidMetH Tryz.prog laidL w) false (World.doorLaid Tryz.prog 400 os) #[.agg #[.int .i64 0,.int .i64 0,.int .i64 0,.int .i64 0,.slice none 0 0]] 8 rfl (World.shaped_of_RefB (by kernel_rfl) (by kernel_rfl)) (by kernel_rfl) (by kernel_rfl) (by kernel_rfl) (door_met os _)) ?_
 intro W base args ds gs before hval0 hW _ _ hL _
 have hval: ∀ (j:Nat) t v,Tryz.f6.params[j]? =some t->args[j]? =some v->Value.okWide Tryz.prog W .any base t v:=hval0
 have hW':=hW
 obtain ⟨p,q,hA0,hV,hbef,hfz,hnd⟩:=hW
 have hA:DataW.TrodAll enc Tryz.prog W 0 (fun _=>true) true Tryz.f6.params.toList args.toList ds p:=hA0
 have hAk:=hA
 have hlt: ∀ x∈p,x.block<W.heap.size:=fun x hx=>hW'.lt x (by rw [hbef];exact List.mem_append_left _ hx)
 rw [Tryz.params6] at hA hval
 obtain ⟨v0,vs0,d0,ds0,p0,q0,hargs,rfl,hp0,h0,r0⟩:=trodAll_cons hA
 obtain ⟨rfl,rfl,hpz⟩:=trodAll_nil r0
 obtain rfl:args= #[v0]:=by cases args;simp_all
 obtain ⟨rfl,rfl⟩:=trodVars_none hV
 obtain ⟨a0F,a0a,a0b,a0t,p0,n0,c0,B0,rfl,w0,m0,l0,H0⟩:=open_plan (hval 0 75 v0 rfl rfl) h0
 clear hA0 hval0
 refine (walk a0F a0a a0b a0t w0 p0 n0 c0 B0 m0 l0 W (of_laid hL) H0).mono fun e W' ⟨he,hg⟩=> ?_
 subst he
 exact ⟨_,rfl,⟨_,_,_,[],p,[],hW',(trodAll_cons_mk (shut_bool Tryz.underlying4 _) trodAll_mk0),args_stay laidOut hg (by kernel_rfl) hAk hlt,rfl,hg.frame _,fun h=>by cases h⟩⟩
theorem over:Rows.spaceBootsRow.holds Tryz.pinned (OpenSpec.ofChange Rows.spaceBootsSpec) :=
 OpenClaim.holds_of_wide 6 Tryz.f6 rfl rfl rfl rfl rfl rfl rfl ⟨rfl,rfl,rfl,rfl,rfl⟩ rfl rfl rfl rfl rfl (by kernel_rfl) Tryz.func6 (by kernel_rfl)
  (of_decide_eq_true (by kernel_rfl)) (by unfold Func.isWrapper;first | (rw [if_pos (by decide +kernel)];kernel_rfl) | (rw [if_neg (by decide +kernel)];exact ⟨rfl,rfl⟩))
  (fun os started H enc _=>lifted os started H enc)
theorem proved:Rows.SpaceBootsCardSaid :=
 Claim7.holds_tied_plain_at .later [] [.data] true (true, "221282a1b92435b0fa0ff5763a43b8c3d1f8dd54f5d6e60e9b564bbf2eec004e") true
  over (fun _ h=>by cases h) (by kernel_rfl) (fun _ h=>by cases h) spaceBoots_row_tie rfl ⟨rfl,rfl⟩ (by kernel_rfl) rfl
  (fun f fn hf hfn=>by
   obtain rfl : f = 6 := Option.some.inj ((show Tryz.prog.funcNamed "demesne/demesnelaw12.SpaceBoots" = some 6 by kernel_rfl).symm.trans hf) |>.symm
   obtain rfl:fn=Tryz.f6:=(Option.some.inj (Tryz.func6.symm.trans hfn)).symm
   exact ⟨by kernel_rfl,fun j t ht=>by
    rw [Tryz.params6] at ht
    have hm:t∈[75]:=by simpa using Array.mem_of_getElem? ht
    have hall:([75].all fun u=> !Tryz.prog.wantsStandIn u)=true:=by kernel_rfl
    exact (show Tryz.prog.wantsStandIn t=false by simpa using List.all_eq_true.1 hall t hm)⟩)
  (by kernel_rfl)
#print axioms proved
end Go.Proofs.YthmobfelhpbllaaGreatDoor.spaceBoots
