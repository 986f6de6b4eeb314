/- AuditCounts: of any list of uses (of its first 200) Count tells how many there are of each kind. No condition. -/
import Derived.Test.YtajfbieacfjhnaaGreatDoorRows
import Derived.Test.YtajfbieacfjhnaaGreatDoorCards
import Derived.Test.YtajfbieacfjhnaaGreatDoorTie
import Derived.ProofKit
import Derived.OpenShut
import Derived.Stop.Joined
import Derived.SevenTiedAt
import Derived.Test.YtajfbieacfjhnaaGreatDoorAFc
import Derived.Test.YtajfbieacfjhnaaGreatDoorUVc
namespace Go.Proofs.YtajfbieacfjhnaaGreatDoor.auditCounts
open Go.ChangeShapes Go.WideShapes Go.ChangeAt Go.RowKit
set_option linter.unusedSimpArgs false
set_option linter.unusedVariables false
open Go.Proofs.YtajfbieacfjhnaaGreatDoor.Tt Go.Proofs.YtajfbieacfjhnaaGreatDoor.Sp Go.Proofs.YtajfbieacfjhnaaGreatDoor.Au
set_option maxRecDepth 8000
theorem kc_step (k:Int) {L:List Us} {i:Nat} (hi:i<L.length):kc k (L.take (i+1))=kc k (L.take i)+(if L[i].2.1 % 4=k then 1 else 0):=Au.kc_take k hi
theorem rem_is (x:Int): ∃ y,x.tmod 4=y/\ -4<y/\y<4/\(0<=y->y=x % 4)/\(y<0->y+4=x % 4):=by
 have e:x.tmod 4=x % 4\/x.tmod 4=x % 4-4/\x % 4≠0:=by
  have h2:= @Int.tmod_eq_emod x 4
  by_cases c:0<=x\/(4:Int)∣x
  . rw [if_pos c] at h2;left;omega
  . rw [if_neg c] at h2
    right
    refine ⟨by simpa using h2,fun h=>c (Or.inr (Int.dvd_of_emod_eq_zero h))⟩
 exact ⟨x.tmod 4,rfl,by omega,by omega,by omega,by omega⟩
set_option maxHeartbeats 16000000 in
theorem walk (p0:Option Addr) (n0 c0:Nat) (A0:Nat->Au.Us) (m0:n0<=maxLen) (k0:n0<=c0) (w:World) (ht:Tab w) (H0:Au.IsUses w p0 n0 A0) :
 Calls Tryz.prog 3 #[.slice p0 n0 c0] w fun e w'=>e=.returned (.bool true)/\Below w.heap.size w w':=by
 have AW:Hid (∀ W:World,Tab W->Calls Tryz.prog 6 #[] W fun e w'=>e=.returned (.bool true)/\Below W.heap.size W w'):=fun W t=>Au.awake_any W t
 have HT:Hid (Tab w):=ht
 by_cases cn:200<n0
 . have d0:decide (200<(n0:Int))=true:=by simp;omega
   have dn:decide (200<n0)=true:=by simp;omega
   have k9:200<=c0:=by omega
   obtain ⟨gp,op,rfl,lgp,_⟩:=H0 0 (by omega)
   obtain ⟨n,hn⟩: ∃ n:Nat,n=200:=⟨_,rfl⟩
   have nb:n<=200:=by omega
   have H0:IsUses w (some ⟨gp,op,none⟩) n A0:=fun i hi=>H0 i (by omega)
   obtain ⟨L,hL⟩: ∃ L:List Us,L=(List.range n).map A0:=⟨_,rfl⟩
   have lL:n=L.length:=by rw [hL,List.length_map,List.length_range]
   have RD:Hid (∀ i (hi:i<L.length),∃ g o,(some ⟨gp,op,none⟩:Option Addr)=some ⟨g,o,none⟩/\0<=g/\g<w.heap.size/\ ∀ j,j<3->w.cell? ⟨g,o+i*3+j,none⟩=(eU L[i])[j]?):=fun i hi=>by
    obtain ⟨g,o,e,l,c1,c2,c3⟩:=H0 i (by omega)
    refine ⟨g,o,e,Nat.zero_le g,l,fun j hj=> ?_⟩
    have ex:L[i]=A0 i:=by simp [hL]
    rw [ex]
    match j,hj with
    | 0, _ => exact c1
    | 1, _ => exact c2
    | 2, _ => exact c3
   have CT:Hid _:=count_form 0 ((some ⟨gp,op,none⟩:Option Addr)) n c0 L lL (by omega) w RD.out
   have LN:Hid (n=L.length):=lL
   obtain ⟨k0,e0⟩: ∃ k:Int,k=(kc 0 L:Nat):=⟨_,rfl⟩
   obtain ⟨k1,e1⟩: ∃ k:Int,k=(kc 1 L:Nat):=⟨_,rfl⟩
   obtain ⟨k2,e2⟩: ∃ k:Int,k=(kc 2 L:Nat):=⟨_,rfl⟩
   obtain ⟨k3,e3⟩: ∃ k:Int,k=(kc 3 L:Nat):=⟨_,rfl⟩
   have HK:Hid (k0=(kc 0 L:Nat)/\k1=(kc 1 L:Nat)/\k2=(kc 2 L:Nat)/\k3=(kc 3 L:Nat)):=⟨e0,e1,e2,e3⟩
   rw [<- e0,<- e1,<- e2,<- e3] at CT
   clear hL lL e0 e1 e2 e3 H0
   rw [hn] at CT
   go_enter Tryz.func3,Tryz.ntmps3
   go_wp2_with fail
   refine Calls.mono CT.out ?_
   rintro e w1 ⟨rfl,hb⟩
   have B1:Hid (Below w.heap.size w (w1.alloc (.cells #[.int .i64 k0,.int .i64 k1,.int .i64 k2,.int .i64 k3] 23))/\Blk (w1.alloc (.cells #[.int .i64 k0,.int .i64 k1,.int .i64 k2,.int .i64 k3] 23)) w1.heap.size [.int .i64 k0,.int .i64 k1,.int .i64 k2,.int .i64 k3] 23):=⟨Bm.below_new hb _,Blk.made _ _ _⟩
   clear hb CT
   go_upto_region 4 with fail
   generalize (w1.alloc (.cells #[.int .i64 k0,.int .i64 k1,.int .i64 k2,.int .i64 k3] 23))=w2 at B1 |-
   generalize w1.heap.size=q at B1 |-
   rw [<- hn]
   clear hn
   go_wp2_with fail
   go_loopw [4] (fun jj V=> ∃ j:Nat,j<=4/\jj=.int .i64 j/\Hid (Below w2.heap.size w2 V)) (fun jj _=>4-(Go.RowKit.intOf jj).toNat)
   case atStart=>exact ⟨0,by omega,rfl,Below.refl _ _⟩
   case round =>
    obtain ⟨j,hj,rfl,JV⟩:=hrel
    by_cases cj:j<4
    rotate_left
    . have j4:j=4:=by omega
      subst j4
      have bw:Hid (Below w.heap.size w wr):=below_then B1.out.1 JV.out
      clear JV
      go_wp2_with fail
      refine Calls.mono (AW.out _ (HT.out.below bw.out HT.out.1)) ?_
      rintro e w9 ⟨rfl,hb9⟩
      have HE:Hid (Below w.heap.size w w9):=below_then bw.out hb9
      clear hb9 bw
      go_wp2_with fail
      go_returns
      exact ⟨rfl,HE.out⟩
    have d1:decide ((j:Int)<4)=true:=by simp;omega
    have JJ:Hid (j<4):=cj
    have S0:Hid (Below w2.heap.size w2 wr):=JV.out
    obtain ⟨wv,hwv⟩: ∃ wv,wv=wr:=⟨_,rfl⟩
    go_wp2_with fail
    go_loopw [5,22] (fun kk ii V=> ∃ i:Nat,i<=n/\ii=.int .i64 i/\kk=.int .i64 ((kc j (L.take i):Nat):Int)/\Hid (Below w2.heap.size w2 V)) (fun _ ii _=>n-(Go.RowKit.intOf ii).toNat)
    case atStart=>exact ⟨0,by omega,rfl,rfl,JV⟩
    case round =>
     clear JV S0 hwv
     obtain ⟨i,hi,rfl,rfl,JI⟩:=hrel
     by_cases ci:i<n
     rotate_left
     . have d2:decide ((i:Int)<(n:Int))=false:=by simp;omega
       have ei:i=L.length:=by have:=LN.out;omega
       have el:L.take i=L:=by rw [ei,List.take_length]
       rw [el]
       obtain ⟨kk,hkk⟩: ∃ kk:Int,kk=((kc j L:Nat):Int):=⟨_,rfl⟩
       rw [<- hkk]
       have cq:wr.cell? ⟨q,j,none⟩=some (.int .i64 kk):=by
        have b:=B1.out.2.below JI.out
        have k:=HK.out
        have c:=JJ.out
        rw [hkk]
        match j,c with
        | 0, _ => exact (b.cell 0).trans (by rw [k.1]; rfl)
        | 1, _ => exact (b.cell 1).trans (by rw [k.2.1]; rfl)
        | 2, _ => exact (b.cell 2).trans (by rw [k.2.2.1]; rfl)
        | 3, _ => exact (b.cell 3).trans (by rw [k.2.2.2]; rfl)
       have e5:(kk==kk)=true:=by simp
       have e6:(kk != kk)=false:=by simp
       have wj:IntKind.i64.wrap ((j:Int)+1)=((j+1:Nat):Int):=by rw [IntKind.wrap_i64];have:=JJ.out;omega
       clear hkk ei el
       go_wp2_with fail
       go_roundw
       case rel=>exact ⟨j+1,by have:=JJ.out;omega,by go_num,JI⟩
       case measure=>have:=JJ.out;simp only [Go.RowKit.intOf];omega
     have d2:decide ((i:Int)<(n:Int))=true:=by simp;omega
     have iL:i<L.length:=by have:=LN.out;omega
     have ks:=kc_step (j:Int) iL
     have kb:kc j (L.take i)<=200:=Nat.le_trans (kc_le _ _) (by rw [List.length_take];omega)
     obtain ⟨g,og,ep,_,lg,rc⟩:=RD.out i iL
     have eg:=Option.some.inj ep;cases eg
     have bw:=below_then B1.out.1 JI.out
     have y0:wr.cell? ⟨gp,op+i*3,none⟩=some (.int .i64 L[i].1):=(World.cell?_of_block (bw.block _ lg)).trans (rc 0 (by omega))
     have y1:wr.cell? ⟨gp,op+i*3+1,none⟩=some (.int .i64 L[i].2.1):=(World.cell?_of_block (bw.block _ lg)).trans (rc 1 (by omega))
     have y2:wr.cell? ⟨gp,op+i*3+2,none⟩=some (.int .i64 L[i].2.2):=(World.cell?_of_block (bw.block _ lg)).trans (rc 2 (by omega))
     have lgr:=Nat.lt_of_lt_of_le lg bw.size
     obtain ⟨y,ry,yl,yu,r0,r1⟩:=rem_is L[i].2.1
     generalize L[i]=x at y0 y1 y2 ry r0 r1 ks
     obtain ⟨x1,x2,x3⟩:=x
     simp only at y0 y1 y2 ry r0 r1 ks
     obtain ⟨k,hk⟩: ∃ k:Int,k=((kc j (L.take i):Nat):Int):=⟨_,rfl⟩
     have kb2:0<=k/\k<=200:=by omega
     rw [<- hk]
     have wi:IntKind.i64.wrap (k+1)=k+1:=by rw [IntKind.wrap_i64];omega
     have wn:IntKind.i64.wrap ((i:Int)+1)=((i+1:Nat):Int):=by rw [IntKind.wrap_i64];omega
     have NB:Hid (Below w2.heap.size w2 (wr.alloc (.cells #[.int .i64 x1,.int .i64 x2,.int .i64 x3] 26))):=Bm.below_new JI.out _
     have j0:0<=j:=Nat.zero_le _
     clear rc bw lg JI kb
     by_cases cy:y<0
     . have d3:decide (y<0)=true:=by simp [cy]
       have wy:IntKind.i64.wrap (y+4)=y+4:=by rw [IntKind.wrap_i64];omega
       by_cases cm:y+4=(j:Int)
       . have d4:(y+4==(j:Int))=true:=by simp [cm]
         have d5:decide (y+4=(j:Int))=true:=by simp [cm]
         have EK:Hid (((kc j (L.take (i+1)):Nat):Int)=k+1):=by show _=_;rw [ks,if_pos (by have:=r1 cy;omega)];omega
         clear r0 r1 ks hk
         go_wp2_with fail
         go_roundw
         case rel=>exact ⟨i+1,by omega,by go_num,by rw [EK.out],NB⟩
         case measure=>simp only [Go.RowKit.intOf];omega
       . have d4:(y+4==(j:Int))=false:=by simp [cm]
         have d5:decide (y+4=(j:Int))=false:=by simp [cm]
         have EK:Hid (((kc j (L.take (i+1)):Nat):Int)=k):=by show _=_;rw [ks,if_neg (by have:=r1 cy;omega)];omega
         clear r0 r1 ks hk
         go_wp2_with fail
         go_roundw
         case rel=>exact ⟨i+1,by omega,by go_num,by rw [EK.out],NB⟩
         case measure=>simp only [Go.RowKit.intOf];omega
     . have d3:decide (y<0)=false:=by simp;omega
       by_cases cm:y=(j:Int)
       . have EK:Hid (((kc j (L.take (i+1)):Nat):Int)=k+1):=by show _=_;rw [ks,if_pos (by have:=r0 (by omega);omega)];omega
         have d4:(y==(j:Int))=true:=by simp [cm]
         have d5:decide (y=(j:Int))=true:=by simp [cm]
         clear r0 r1 ks hk
         go_wp2_with fail
         go_roundw
         case rel=>exact ⟨i+1,by omega,by go_num,by rw [EK.out],NB⟩
         case measure=>simp only [Go.RowKit.intOf];omega
       . have EK:Hid (((kc j (L.take (i+1)):Nat):Int)=k):=by show _=_;rw [ks,if_neg (by have:=r0 (by omega);omega)];omega
         have d4:(y==(j:Int))=false:=by simp [cm]
         have d5:decide (y=(j:Int))=false:=by simp [cm]
         clear r0 r1 ks hk
         go_wp2_with fail
         go_roundw
         case rel=>exact ⟨i+1,by omega,by go_num,by rw [EK.out],NB⟩
         case measure=>simp only [Go.RowKit.intOf];omega
 have d0:decide (200<(n0:Int))=false:=by simp;omega
 have dn:decide (200<n0)=false:=by simp;omega
 have nb:n0<=200:=by omega
 obtain ⟨L,hL⟩: ∃ L:List Us,L=(List.range n0).map A0:=⟨_,rfl⟩
 have lL:n0=L.length:=by rw [hL,List.length_map,List.length_range]
 have RD:Hid (∀ i (hi:i<L.length),∃ g o,p0=some ⟨g,o,none⟩/\0<=g/\g<w.heap.size/\ ∀ j,j<3->w.cell? ⟨g,o+i*3+j,none⟩=(eU L[i])[j]?):=fun i hi=>by
  obtain ⟨g,o,e,l,c1,c2,c3⟩:=H0 i (by omega)
  refine ⟨g,o,e,Nat.zero_le g,l,fun j hj=> ?_⟩
  have ex:L[i]=A0 i:=by simp [hL]
  rw [ex]
  match j,hj with
  | 0, _ => exact c1
  | 1, _ => exact c2
  | 2, _ => exact c3
 have CT:Hid _:=count_form 0 (p0) n0 c0 L lL (by omega) w RD.out
 have LN:Hid (n0=L.length):=lL
 obtain ⟨k0,e0⟩: ∃ k:Int,k=(kc 0 L:Nat):=⟨_,rfl⟩
 obtain ⟨k1,e1⟩: ∃ k:Int,k=(kc 1 L:Nat):=⟨_,rfl⟩
 obtain ⟨k2,e2⟩: ∃ k:Int,k=(kc 2 L:Nat):=⟨_,rfl⟩
 obtain ⟨k3,e3⟩: ∃ k:Int,k=(kc 3 L:Nat):=⟨_,rfl⟩
 have HK:Hid (k0=(kc 0 L:Nat)/\k1=(kc 1 L:Nat)/\k2=(kc 2 L:Nat)/\k3=(kc 3 L:Nat)):=⟨e0,e1,e2,e3⟩
 rw [<- e0,<- e1,<- e2,<- e3] at CT
 clear hL lL e0 e1 e2 e3 H0
 go_enter Tryz.func3,Tryz.ntmps3
 go_wp2_with fail
 refine Calls.mono CT.out ?_
 rintro e w1 ⟨rfl,hb⟩
 have B1:Hid (Below w.heap.size w (w1.alloc (.cells #[.int .i64 k0,.int .i64 k1,.int .i64 k2,.int .i64 k3] 23))/\Blk (w1.alloc (.cells #[.int .i64 k0,.int .i64 k1,.int .i64 k2,.int .i64 k3] 23)) w1.heap.size [.int .i64 k0,.int .i64 k1,.int .i64 k2,.int .i64 k3] 23):=⟨Bm.below_new hb _,Blk.made _ _ _⟩
 clear hb CT
 go_upto_region 4 with fail
 generalize (w1.alloc (.cells #[.int .i64 k0,.int .i64 k1,.int .i64 k2,.int .i64 k3] 23))=w2 at B1 |-
 generalize w1.heap.size=q at B1 |-
 go_wp2_with fail
 go_loopw [4] (fun jj V=> ∃ j:Nat,j<=4/\jj=.int .i64 j/\Hid (Below w2.heap.size w2 V)) (fun jj _=>4-(Go.RowKit.intOf jj).toNat)
 case atStart=>exact ⟨0,by omega,rfl,Below.refl _ _⟩
 case round =>
  obtain ⟨j,hj,rfl,JV⟩:=hrel
  by_cases cj:j<4
  rotate_left
  . have j4:j=4:=by omega
    subst j4
    have bw:Hid (Below w.heap.size w wr):=below_then B1.out.1 JV.out
    clear JV
    go_wp2_with fail
    refine Calls.mono (AW.out _ (HT.out.below bw.out HT.out.1)) ?_
    rintro e w9 ⟨rfl,hb9⟩
    have HE:Hid (Below w.heap.size w w9):=below_then bw.out hb9
    clear hb9 bw
    go_wp2_with fail
    go_returns
    exact ⟨rfl,HE.out⟩
  have d1:decide ((j:Int)<4)=true:=by simp;omega
  have JJ:Hid (j<4):=cj
  have S0:Hid (Below w2.heap.size w2 wr):=JV.out
  obtain ⟨wv,hwv⟩: ∃ wv,wv=wr:=⟨_,rfl⟩
  go_wp2_with fail
  go_loopw [5,22] (fun kk ii V=> ∃ i:Nat,i<=n0/\ii=.int .i64 i/\kk=.int .i64 ((kc j (L.take i):Nat):Int)/\Hid (Below w2.heap.size w2 V)) (fun _ ii _=>n0-(Go.RowKit.intOf ii).toNat)
  case atStart=>exact ⟨0,by omega,rfl,rfl,JV⟩
  case round =>
   clear JV S0 hwv
   obtain ⟨i,hi,rfl,rfl,JI⟩:=hrel
   by_cases ci:i<n0
   rotate_left
   . have d2:decide ((i:Int)<(n0:Int))=false:=by simp;omega
     have ei:i=L.length:=by have:=LN.out;omega
     have el:L.take i=L:=by rw [ei,List.take_length]
     rw [el]
     obtain ⟨kk,hkk⟩: ∃ kk:Int,kk=((kc j L:Nat):Int):=⟨_,rfl⟩
     rw [<- hkk]
     have cq:wr.cell? ⟨q,j,none⟩=some (.int .i64 kk):=by
      have b:=B1.out.2.below JI.out
      have k:=HK.out
      have c:=JJ.out
      rw [hkk]
      match j,c with
      | 0, _ => exact (b.cell 0).trans (by rw [k.1]; rfl)
      | 1, _ => exact (b.cell 1).trans (by rw [k.2.1]; rfl)
      | 2, _ => exact (b.cell 2).trans (by rw [k.2.2.1]; rfl)
      | 3, _ => exact (b.cell 3).trans (by rw [k.2.2.2]; rfl)
     have e5:(kk==kk)=true:=by simp
     have e6:(kk != kk)=false:=by simp
     have wj:IntKind.i64.wrap ((j:Int)+1)=((j+1:Nat):Int):=by rw [IntKind.wrap_i64];have:=JJ.out;omega
     clear hkk ei el
     go_wp2_with fail
     go_roundw
     case rel=>exact ⟨j+1,by have:=JJ.out;omega,by go_num,JI⟩
     case measure=>have:=JJ.out;simp only [Go.RowKit.intOf];omega
   have d2:decide ((i:Int)<(n0:Int))=true:=by simp;omega
   have iL:i<L.length:=by have:=LN.out;omega
   have ks:=kc_step (j:Int) iL
   have kb:kc j (L.take i)<=200:=Nat.le_trans (kc_le _ _) (by rw [List.length_take];omega)
   obtain ⟨g,og,ep,_,lg,rc⟩:=RD.out i iL
   subst ep
   have bw:=below_then B1.out.1 JI.out
   have y0:wr.cell? ⟨g,og+i*3,none⟩=some (.int .i64 L[i].1):=(World.cell?_of_block (bw.block _ lg)).trans (rc 0 (by omega))
   have y1:wr.cell? ⟨g,og+i*3+1,none⟩=some (.int .i64 L[i].2.1):=(World.cell?_of_block (bw.block _ lg)).trans (rc 1 (by omega))
   have y2:wr.cell? ⟨g,og+i*3+2,none⟩=some (.int .i64 L[i].2.2):=(World.cell?_of_block (bw.block _ lg)).trans (rc 2 (by omega))
   have lgr:=Nat.lt_of_lt_of_le lg bw.size
   obtain ⟨y,ry,yl,yu,r0,r1⟩:=rem_is L[i].2.1
   generalize L[i]=x at y0 y1 y2 ry r0 r1 ks
   obtain ⟨x1,x2,x3⟩:=x
   simp only at y0 y1 y2 ry r0 r1 ks
   obtain ⟨k,hk⟩: ∃ k:Int,k=((kc j (L.take i):Nat):Int):=⟨_,rfl⟩
   have kb2:0<=k/\k<=200:=by omega
   rw [<- hk]
   have wi:IntKind.i64.wrap (k+1)=k+1:=by rw [IntKind.wrap_i64];omega
   have wn:IntKind.i64.wrap ((i:Int)+1)=((i+1:Nat):Int):=by rw [IntKind.wrap_i64];omega
   have NB:Hid (Below w2.heap.size w2 (wr.alloc (.cells #[.int .i64 x1,.int .i64 x2,.int .i64 x3] 26))):=Bm.below_new JI.out _
   have j0:0<=j:=Nat.zero_le _
   clear rc bw lg JI kb
   by_cases cy:y<0
   . have d3:decide (y<0)=true:=by simp [cy]
     have wy:IntKind.i64.wrap (y+4)=y+4:=by rw [IntKind.wrap_i64];omega
     by_cases cm:y+4=(j:Int)
     . have d4:(y+4==(j:Int))=true:=by simp [cm]
       have d5:decide (y+4=(j:Int))=true:=by simp [cm]
       have EK:Hid (((kc j (L.take (i+1)):Nat):Int)=k+1):=by show _=_;rw [ks,if_pos (by have:=r1 cy;omega)];omega
       clear r0 r1 ks hk
       go_wp2_with fail
       go_roundw
       case rel=>exact ⟨i+1,by omega,by go_num,by rw [EK.out],NB⟩
       case measure=>simp only [Go.RowKit.intOf];omega
     . have d4:(y+4==(j:Int))=false:=by simp [cm]
       have d5:decide (y+4=(j:Int))=false:=by simp [cm]
       have EK:Hid (((kc j (L.take (i+1)):Nat):Int)=k):=by show _=_;rw [ks,if_neg (by have:=r1 cy;omega)];omega
       clear r0 r1 ks hk
       go_wp2_with fail
       go_roundw
       case rel=>exact ⟨i+1,by omega,by go_num,by rw [EK.out],NB⟩
       case measure=>simp only [Go.RowKit.intOf];omega
   . have d3:decide (y<0)=false:=by simp;omega
     by_cases cm:y=(j:Int)
     . have EK:Hid (((kc j (L.take (i+1)):Nat):Int)=k+1):=by show _=_;rw [ks,if_pos (by have:=r0 (by omega);omega)];omega
       have d4:(y==(j:Int))=true:=by simp [cm]
       have d5:decide (y=(j:Int))=true:=by simp [cm]
       clear r0 r1 ks hk
       go_wp2_with fail
       go_roundw
       case rel=>exact ⟨i+1,by omega,by go_num,by rw [EK.out],NB⟩
       case measure=>simp only [Go.RowKit.intOf];omega
     . have EK:Hid (((kc j (L.take (i+1)):Nat):Int)=k):=by show _=_;rw [ks,if_neg (by have:=r0 (by omega);omega)];omega
       have d4:(y==(j:Int))=false:=by simp [cm]
       have d5:decide (y=(j:Int))=false:=by simp [cm]
       clear r0 r1 ks hk
       go_wp2_with fail
       go_roundw
       case rel=>exact ⟨i+1,by omega,by go_num,by rw [EK.out],NB⟩
       case measure=>simp only [Go.RowKit.intOf];omega
set_option maxRecDepth 100000 in
theorem lifted (os:Os) (started:os.Started) (H:Type) (enc:TypeId × Value->H) :
 ReturnsInHanded {} Tryz.checked os 3 .any (fun w args=>(Rows.auditCountsSpec.pre enc Tryz.prog Tryz.f3 [] false w args/\laidMetH Tryz.prog laidL w)/\sizedMet enc Tryz.prog Tryz.f3 (OpenSpec.ofChange Rows.auditCountsSpec) false w args)
  (Rows.auditCountsSpec.post enc Tryz.prog Tryz.f3 false true false false):=by
 refine returnsInHanded_of_change_and (C:=Tryz.checked) (X:=fun w _=>laidMetH Tryz.prog laidL w) (fun _ _ _ hh h=>h.of_heap hh) own started (by kernel_rfl) Tryz.func3
  (ChangeSpec.witness_shaped (enc:=enc) (C:=Tryz.checked) (os:=os) (X:=fun w _=>laidMetH Tryz.prog laidL w) false (World.doorLaid Tryz.prog 400 os) #[.slice none 0 0] 8 rfl (World.shaped_of_RefB (by kernel_rfl) (by kernel_rfl)) (by kernel_rfl) (by kernel_rfl) (by kernel_rfl) (door_met os _)) ?_
 intro W base args ds gs before hval0 hW _ _ hL _
 have hval: ∀ (j:Nat) t v,Tryz.f3.params[j]? =some t->args[j]? =some v->Value.okWide Tryz.prog W .any base t v:=hval0
 have hW':=hW
 obtain ⟨p,q,hA0,hV,hbef,hfz,hnd⟩:=hW
 have hA:DataW.TrodAll enc Tryz.prog W 0 (fun _=>true) true Tryz.f3.params.toList args.toList ds p:=hA0
 have hAk:=hA
 have hlt: ∀ x∈p,x.block<W.heap.size:=fun x hx=>hW'.lt x (by rw [hbef];exact List.mem_append_left _ hx)
 rw [Tryz.params3] at hA hval
 obtain ⟨v0,vs0,d0,ds0,p0,q0,hargs,rfl,hp0,h0,r0⟩:=trodAll_cons hA
 obtain ⟨rfl,rfl,hpz⟩:=trodAll_nil r0
 obtain rfl:args= #[v0]:=by cases args;simp_all
 obtain ⟨rfl,rfl⟩:=trodVars_none hV
 obtain ⟨p0,n0,c0,A0,rfl,m0,k0,H0⟩:=Au.open_uses (hval 0 22 v0 rfl rfl) h0
 clear hA0 hval0
 refine (walk p0 n0 c0 A0 m0 k0 W (of_laid hL) H0).mono fun e W' ⟨he,hg⟩=> ?_
 subst he
 exact ⟨_,rfl,⟨_,_,_,[],p,[],hW',(trodAll_cons_mk (shut_bool Tryz.underlying4 _) trodAll_mk0),args_stay laidOut hg (by kernel_rfl) hAk hlt,rfl,hg.frame _,fun h=>by cases h⟩⟩
theorem over:Rows.auditCountsRow.holds Tryz.pinned (OpenSpec.ofChange Rows.auditCountsSpec) :=
 OpenClaim.holds_of_wide 3 Tryz.f3 rfl rfl rfl rfl rfl rfl rfl ⟨rfl,rfl,rfl,rfl,rfl⟩ rfl rfl rfl rfl rfl (by kernel_rfl) Tryz.func3 (by kernel_rfl)
  (of_decide_eq_true (by kernel_rfl)) (by unfold Func.isWrapper;first | (rw [if_pos (by decide +kernel)];kernel_rfl) | (rw [if_neg (by decide +kernel)];exact ⟨rfl,rfl⟩))
  (fun os started H enc _=>lifted os started H enc)
theorem proved:Rows.AuditCountsCardSaid :=
 Claim7.holds_tied_plain_at .later [] [.data] true (true, "e15e4586846bf2ce074db05960c1ec1dcd57f48b999ba9d2a78598767a4abaca") true
  over (fun _ h=>by cases h) (by kernel_rfl) (fun _ h=>by cases h) auditCounts_row_tie rfl ⟨rfl,rfl⟩ (by kernel_rfl) rfl
  (fun f fn hf hfn=>by
   obtain rfl : f = 3 := Option.some.inj ((show Tryz.prog.funcNamed "demesne/demesnelaw20.AuditCounts" = some 3 by kernel_rfl).symm.trans hf) |>.symm
   obtain rfl:fn=Tryz.f3:=(Option.some.inj (Tryz.func3.symm.trans hfn)).symm
   exact ⟨by kernel_rfl,fun j t ht=>by
    rw [Tryz.params3] at ht
    have hm:t∈[22]:=by simpa using Array.mem_of_getElem? ht
    have hall:([22].all fun u=> !Tryz.prog.wantsStandIn u)=true:=by kernel_rfl
    exact (show Tryz.prog.wantsStandIn t=false by simpa using List.all_eq_true.1 hall t hm)⟩)
  (by kernel_rfl)
#print axioms proved
end Go.Proofs.YtajfbieacfjhnaaGreatDoor.auditCounts
