/- AuditBoots: of a machine without spaces all frames that its map says are free,but the kernel's tables,which are told with the first space. No condition. -/
import Derived.Test.YtajfbieacfjhnaaGreatDoorRows
import Derived.Test.YtajfbieacfjhnaaGreatDoorCards
import Derived.Test.YtajfbieacfjhnaaGreatDoorTie
import Derived.ProofKit
import Derived.OpenShut
import Derived.Stop.Joined
import Derived.SevenTiedAt
import Derived.Test.YtajfbieacfjhnaaGreatDoorAFa
import Derived.Test.YtajfbieacfjhnaaGreatDoorUXa
namespace Go.Proofs.YtajfbieacfjhnaaGreatDoor.auditBoots
open Go.ChangeShapes Go.WideShapes Go.ChangeAt Go.RowKit
set_option linter.unusedSimpArgs false
set_option linter.unusedVariables false
open Go.Proofs.YtajfbieacfjhnaaGreatDoor.Tt Go.Proofs.YtajfbieacfjhnaaGreatDoor.Sp Go.Proofs.YtajfbieacfjhnaaGreatDoor.Au
set_option maxRecDepth 8000
set_option maxHeartbeats 16000000 in
theorem walk (a0:Int) (w0:(Lit.int .i64 a0).wf=true) (w:World) (ht:Tab w)  :
 Calls Tryz.prog 4 #[.int .i64 a0] w fun e w'=>e=.returned (.bool true)/\Below w.heap.size w w':=by
 have AW:Hid (∀ W:World,Tab W->Calls Tryz.prog 6 #[] W fun e w'=>e=.returned (.bool true)/\Below W.heap.size W w'):=fun W t=>Au.awake_any W t
 have HT:Hid (Tab w):=ht
 by_cases h1:a0<20
 . have d0:decide (a0<20)=true:=by simp;omega
   clear h1
   go_enter Tryz.func4,Tryz.ntmps4
   go_wp2_with fail
   refine Calls.mono (AW.out _ HT.out) ?_
   rintro e w1 ⟨rfl,hb1⟩
   have HB:Hid (Below w.heap.size w w1):=hb1
   clear hb1
   go_wp2_with fail
   go_returns
   exact ⟨rfl,HB.out⟩
 by_cases h2:300<a0
 . have d0:decide (a0<20)=false:=by simp;omega
   have d1:decide (300<a0)=true:=by simp;omega
   clear h2 h1
   go_enter Tryz.func4,Tryz.ntmps4
   go_wp2_with fail
   refine Calls.mono (AW.out _ HT.out) ?_
   rintro e w1 ⟨rfl,hb1⟩
   have HB:Hid (Below w.heap.size w w1):=hb1
   clear hb1
   go_wp2_with fail
   go_returns
   exact ⟨rfl,HB.out⟩
 have d1:decide (a0<20)=false:=by simp;omega
 have d2:decide (300<a0)=false:=by simp;omega
 obtain ⟨c,hc⟩: ∃ c:Nat,(c:Int)=a0-3:=⟨(a0-3).toNat,by omega⟩
 obtain ⟨d,hd⟩: ∃ d:Nat,(d:Int)=a0-4:=⟨(a0-4).toNat,by omega⟩
 have HN:Hid ((c:Int)=a0-3/\(d:Int)=a0-4/\20<=a0/\a0<=300/\c=a0.toNat-3/\d=a0.toNat-4):=⟨hc,hd,by omega,by omega,by omega,by omega⟩
 have wc:IntKind.i64.wrap (a0-3)=(c:Int):=by rw [IntKind.wrap_i64];omega
 have wd:IntKind.i64.wrap (a0-4)=(d:Int):=by rw [IntKind.wrap_i64];omega
 have BC:Hid _:=begin_ok a0 3 (by omega) (by omega) (by omega) (by omega) w ht
 clear ht h1 h2 hc hd
 go_enter Tryz.func4,Tryz.ntmps4
 go_wp2_with fail
 refine Calls.mono BC.out ?_
 rintro e w1 ⟨M,m,s,xb,rfl,hB⟩
 have G1:Hid (Below w1.heap.size w1 (w1.alloc (.cells #[.slice none 0 0,.slice (some ⟨xb,0,none⟩) 1 1,.int .i64 0] 33))):=Go.Joins.below_alloc1 _ _
 have HB:Hid (Booted a0 3 w w1 M m s):=hB
 have B1:Hid (Below w.heap.size w w1):=by obtain ⟨O,_,_,_,_,_,hb,_⟩:=hB;exact hb
 clear hB BC d1 d2
 go_upto_region 4 with fail
 generalize (w1.alloc (.cells #[.slice none 0 0,.slice (some ⟨xb,0,none⟩) 1 1,.int .i64 0] 33))=w2 at G1 |-
 have DA:Hid (∀ V,Below w1.heap.size w1 V->Tells V M.mb c 0 0 0/\Calls Tryz.prog 9 #[pp M.mb] V fun e w'=>e=.returned (.int .i64 0)/\Below V.heap.size V w'):=fun V hV=>by
  obtain ⟨O,hM,hN,a1,a2,a3,hb,hP,z,hK⟩:=HB.out
  have n1:=HN.out
  have hf:Bd.cnt s.Fr 1048576=c:=by rw [hN.free];omega
  have hM2:=hM.below hV
  have t:=none_tells hM2 (by omega) hf (by omega) (by omega)
  have hN2:Nums m s 0 (a0-3) ((2:Nat):Int) (a0.toNat-3):=hN
  refine ⟨t,check_of hM2 (by omega) hP hN2 (by omega) ?_ t (Or.inl rfl) (fun ha h=>len_none ha h)⟩
  have q:=given_cnt hP hM.pu.so (G:=a0.toNat) (by omega) (by rw [a1];omega) hf
  omega
 go_wp2_with fail
 refine Calls.mono ((DA.out _ G1.out).1) ?_
 rintro e w3 ⟨v,R,rfl,a1,a2,a3,a4,a5⟩
 have CT:Hid (Calls Tryz.prog 5 #[v] w3 fun e w'=>e=.returned (.agg #[.int .i64 c,.int .i64 0,.int .i64 0,.int .i64 0])/\Below w3.heap.size w3 w'):=count_of ((DA.out _ G1.out).1) (Bm.ol_ll eU_len a1) a3 a4
 have BF:Hid (Below w2.heap.size w2 w3):=a5
 clear a1 a2 a3 a4 a5
 go_wp2_with fail
 refine Calls.mono CT.out ?_
 rintro e w4 ⟨rfl,hb⟩
 have Bw4:Hid (Below w2.heap.size w2 (w4.alloc (.cells #[.int .i64 c,.int .i64 0,.int .i64 0,.int .i64 0] 23))/\Blk (w4.alloc (.cells #[.int .i64 c,.int .i64 0,.int .i64 0,.int .i64 0] 23)) w4.heap.size [.int .i64 c,.int .i64 0,.int .i64 0,.int .i64 0] 23/\w2.heap.size<=w4.heap.size):=⟨Bm.below_new (below_then BF.out hb) _,Blk.made _ _ _,(below_then BF.out hb).size⟩
 clear hb CT BF
 go_upto_region 7 with fail
 generalize (w4.alloc (.cells #[.int .i64 c,.int .i64 0,.int .i64 0,.int .i64 0] 23))=w4b at Bw4 |-
 obtain ⟨q6,hq6⟩: ∃ q6,q6=w4.heap.size:=⟨_,rfl⟩
 rw [<- hq6] at Bw4 |-
 clear hq6
 go_wp2_with fail
 refine Calls.mono (DA.out _ (below_then G1.out Bw4.out.1)).2 ?_
 rintro e w5 ⟨rfl,hb⟩
 have B5:Hid (Below w1.heap.size w1 w5/\Blk w5 q6 [.int .i64 c,.int .i64 0,.int .i64 0,.int .i64 0] 23):=⟨below_then (below_then G1.out Bw4.out.1) hb,Bw4.out.2.1.below hb⟩
 have Q6:Hid (w1.heap.size<=q6):=Nat.le_trans G1.out.size Bw4.out.2.2
 clear hb Bw4 G1 DA
 have OC:Hid (Calls Tryz.prog 10 #[pp M.mb,.int .i64 0,.int .i64 0] w5 fun e w'=>e=.returned (.int .i64 0)/\ ∃ (O:Nat->Nat) (s1:Ps) (root sb lb z:Nat),Mc (fun j=>j<w.heap.size\/(w1.heap.size<=j/\j<w5.heap.size)) O 1 w' M m s1 Tl.T0 (Pc.freshS 3) [sr0 0 0 sb 0 root lb]/\Nums m s1 0 (d:Int) 3 d/\Kept (fun j=>j<w.heap.size\/(w1.heap.size<=j/\j<w5.heap.size)) w5 w'/\Prt m s1/\Kern s1 [sr0 0 0 sb 0 root lb] M.kf z/\m.F=a0):=by
  obtain ⟨O,hM,hN,a1,a2,a3,hb,hP,z,hK⟩:=HB.out
  have n1:=HN.out
  have q:=open_ok (hM.grow B5.out.1) 0 (by omega) (by omega) (by simp) 0 (by simp) 0 (hN.box (by omega)) (by omega) (by rw [hN.room];omega) (by omega)
  refine Calls.mono q ?_
  rintro e w' ⟨he,O',root,sb,lb,M2,fr,h1,h2,h3,h4⟩
  have nn:=hN.take hM.pu.so (L:=[root]) ⟨by simp,fun x hx=>by simp at hx;rw [hx];exact fr⟩ M2 (s.q+2)
  have e1:a0-3-(([root]:List Nat).length:Int)=(d:Int):=by simp;omega
  have e2:(2:Int)+(([root]:List Nat).length:Int)=3:=by simp
  have e3:a0.toNat-3-([root]:List Nat).length=d:=by simp;omega
  rw [e1,e2,e3] at nn
  exact ⟨he,O',_,root,sb,lb,z,h1,nn,h2,h3 hP,h4 z hK,a1⟩
 clear HB
 go_wp2_with fail
 refine Calls.mono OC.out ?_
 rintro e w6 ⟨rfl,O6,s6,root,sb,lb,z,hM6,hN6,hK6,hP6,hE6,hF6⟩
 have DB:Hid (∀ V,Below w6.heap.size w6 V->Tells V M.mb d 2 1 0/\Calls Tryz.prog 9 #[pp M.mb] V fun e w'=>e=.returned (.int .i64 0)/\Below V.heap.size V w'):=fun V hV=>by
  have n1:=HN.out
  have hM2:=hM6.below hV
  have zw:(Lit.int .i64 0).wf=true:=by decide
  have t:=root_tells (root:=root) hM2 (by omega) zw hE6 (fun x e=>by cases e) rfl rfl rfl hN6.free (by omega) (by omega)
  have hN2:Nums m s6 0 (d:Int) ((3:Nat):Int) d:=hN6
  refine ⟨t,check_of hM2 (by omega) hP6 hN2 (by omega) ?_ t (Or.inr (by omega)) (fun ha h=>len_one ha h)⟩
  have q:=given_cnt hP6 hM6.pu.so (G:=a0.toNat) (by omega) (by rw [hF6];omega) hN6.free
  omega
 have M6:Hid (Mc (fun j=>j<w.heap.size\/(w1.heap.size<=j/\j<w5.heap.size)) O6 1 w6 M m s6 Tl.T0 (Pc.freshS 3) [sr0 0 0 sb 0 root lb]/\Nums m s6 0 (d:Int) 3 d):=⟨hM6,hN6⟩
 have B6:Hid (Below w.heap.size w w6/\Blk w6 q6 [.int .i64 c,.int .i64 0,.int .i64 0,.int .i64 0] 23/\q6<w5.heap.size):=by
  have l5:=B5.out.2.lt
  have l1:=B1.out.size
  refine ⟨⟨hK6.os.trans (B5.out.1.os.trans B1.out.os),hK6.tape.trans (B5.out.1.tape.trans B1.out.tape),hK6.output.trans (B5.out.1.output.trans B1.out.output),Nat.le_trans l1 (Nat.le_trans B5.out.1.size hK6.size),fun j hj=>(hK6.block j (Or.inl hj)).trans ((B5.out.1.block j (by omega)).trans (B1.out.block j hj))⟩,(hK6.block q6 (Or.inr ⟨Q6.out,l5⟩)).trans B5.out.2,l5⟩
 clear hM6 hN6 hK6 hP6 hE6 hF6 OC B5 B1
 go_wp2_with fail
 refine Calls.mono ((DB.out _ (Below.refl _ _)).1) ?_
 rintro e w7 ⟨v,R,rfl,a1,a2,a3,a4,a5⟩
 have CT:Hid (Calls Tryz.prog 5 #[v] w7 fun e w'=>e=.returned (.agg #[.int .i64 d,.int .i64 2,.int .i64 1,.int .i64 0])/\Below w7.heap.size w7 w'):=count_of ((DB.out _ (Below.refl _ _)).1) (Bm.ol_ll eU_len a1) a3 a4
 have BF:Hid (Below w6.heap.size w6 w7):=a5
 clear a1 a2 a3 a4 a5
 go_wp2_with fail
 refine Calls.mono CT.out ?_
 rintro e w8 ⟨rfl,hb⟩
 have Bw8:Hid (Below w6.heap.size w6 (w8.alloc (.cells #[.int .i64 d,.int .i64 2,.int .i64 1,.int .i64 0] 23))/\Blk (w8.alloc (.cells #[.int .i64 d,.int .i64 2,.int .i64 1,.int .i64 0] 23)) w8.heap.size [.int .i64 d,.int .i64 2,.int .i64 1,.int .i64 0] 23/\w6.heap.size<=w8.heap.size):=⟨Bm.below_new (below_then BF.out hb) _,Blk.made _ _ _,(below_then BF.out hb).size⟩
 clear hb CT BF
 go_upto_region 10 with fail
 generalize (w8.alloc (.cells #[.int .i64 d,.int .i64 2,.int .i64 1,.int .i64 0] 23))=w8b at Bw8 |-
 obtain ⟨q9,hq9⟩: ∃ q9,q9=w8.heap.size:=⟨_,rfl⟩
 rw [<- hq9] at Bw8 |-
 clear hq9
 go_wp2_with fail
 refine Calls.mono (DB.out _ Bw8.out.1).2 ?_
 rintro e w9 ⟨rfl,hb⟩
 have B9:Hid (Below w6.heap.size w6 w9/\Blk w9 q9 [.int .i64 d,.int .i64 2,.int .i64 1,.int .i64 0] 23):=⟨below_then Bw8.out.1 hb,Bw8.out.2.1.below hb⟩
 have Q9:Hid (w6.heap.size<=q9):=Bw8.out.2.2
 clear hb Bw8 DB
 have CC:Hid (Calls Tryz.prog 11 #[pp M.mb,.int .i64 0] w9 fun e w'=>e=.returned (.int .i64 0)/\ ∃ (Y:Nat->Prop) (O:Nat->Nat) (s1:Ps) (S1:Pc.Tg),Mc Y O 1 w' M m s1 Tl.T0 S1 []/\Nums m s1 0 ((d:Int)+1) (3-1) (d+1)/\Kept (fun j=>(j<w.heap.size\/(w1.heap.size<=j/\j<w5.heap.size))\/(w6.heap.size<=j/\j<w9.heap.size)) w9 w'):=by
  have n1:=HN.out
  have q:=close_none (M6.out.1.grow B9.out.1) (by show 0<=1048600;omega) rfl (fun _=>rfl) (fun _=>rfl) M6.out.2 (by omega) (by show (Lit.int .i64 0).wf=true;decide) rfl
  refine Calls.mono q ?_
  rintro e w' ⟨he,s1,h1,h2,h3,h4⟩
  exact ⟨he,_,_,s1,_,h1,h2,h4⟩
 go_wp2_with fail
 refine Calls.mono CC.out ?_
 rintro e wA ⟨rfl,YA,OA,sA,SA,hMA,hNA,hKA⟩
 have DC:Hid (Tells wA M.mb c 0 0 0):=by
  have n1:=HN.out
  exact none_tells hMA (by omega) (by rw [hNA.free];omega) (by omega) (by omega)
 have BA:Hid (Below w.heap.size w wA/\Blk wA q6 [.int .i64 c,.int .i64 0,.int .i64 0,.int .i64 0] 23/\Blk wA q9 [.int .i64 d,.int .i64 2,.int .i64 1,.int .i64 0] 23/\q6<q9):=by
  have l9:=B9.out.2.lt
  have l1:=B6.out.1.size
  have l6:=B6.out.2.1.lt
  refine ⟨⟨hKA.os.trans (B9.out.1.os.trans B6.out.1.os),hKA.tape.trans (B9.out.1.tape.trans B6.out.1.tape),hKA.output.trans (B9.out.1.output.trans B6.out.1.output),Nat.le_trans l1 (Nat.le_trans B9.out.1.size hKA.size),fun j hj=>(hKA.block j (Or.inl (Or.inl hj))).trans ((B9.out.1.block j (by omega)).trans (B6.out.1.block j hj))⟩,(hKA.block q6 (Or.inl (Or.inr ⟨Q6.out,B6.out.2.2⟩))).trans (B6.out.2.1.below B9.out.1),(hKA.block q9 (Or.inr ⟨Q9.out,l9⟩)).trans B9.out.2,by have:=Q9.out;omega⟩
 clear hMA hNA hKA CC B9 B6 M6
 go_wp2_with fail
 refine Calls.mono (DC.out) ?_
 rintro e wB ⟨v,R,rfl,a1,a2,a3,a4,a5⟩
 have CT:Hid (Calls Tryz.prog 5 #[v] wB fun e w'=>e=.returned (.agg #[.int .i64 c,.int .i64 0,.int .i64 0,.int .i64 0])/\Below wB.heap.size wB w'):=count_of (DC.out) (Bm.ol_ll eU_len a1) a3 a4
 have BF:Hid (Below wA.heap.size wA wB):=a5
 clear a1 a2 a3 a4 a5
 go_wp2_with fail
 refine Calls.mono CT.out ?_
 rintro e wC ⟨rfl,hb⟩
 have BwC:Hid (Below wA.heap.size wA (wC.alloc (.cells #[.int .i64 c,.int .i64 0,.int .i64 0,.int .i64 0] 23))/\Blk (wC.alloc (.cells #[.int .i64 c,.int .i64 0,.int .i64 0,.int .i64 0] 23)) wC.heap.size [.int .i64 c,.int .i64 0,.int .i64 0,.int .i64 0] 23/\wA.heap.size<=wC.heap.size):=⟨Bm.below_new (below_then BF.out hb) _,Blk.made _ _ _,(below_then BF.out hb).size⟩
 clear hb CT BF
 go_upto_region 13 with fail
 generalize (wC.alloc (.cells #[.int .i64 c,.int .i64 0,.int .i64 0,.int .i64 0] 23))=wCb at BwC |-
 obtain ⟨qC,hqC⟩: ∃ qC,qC=wC.heap.size:=⟨_,rfl⟩
 rw [<- hqC] at BwC |-
 clear hqC
 have E1: ∀ V:World,(Op.equalIn 10000 23 (.agg #[.int .i64 c,.int .i64 0,.int .i64 0,.int .i64 0]) (.agg #[.int .i64 c,.int .i64 0,.int .i64 0,.int .i64 0])).run Tryz.prog V=.ok true V:=fun V=>by have q:=eq4 (c:Int) 0 0 0 (c:Int) 0 0 0 V;simpa using q
 have E2: ∀ V:World,(Op.equalIn 10000 23 (.agg #[.int .i64 d,.int .i64 2,.int .i64 1,.int .i64 0]) (.agg #[.int .i64 d,.int .i64 2,.int .i64 1,.int .i64 0])).run Tryz.prog V=.ok true V:=fun V=>by have q:=eq4 (d:Int) 2 1 0 (d:Int) 2 1 0 V;simpa using q
 go_wp2_with fail
 refine Calls.mono (AW.out _ (HT.out.below (below_then BA.out.1 BwC.out.1) HT.out.1)) ?_
 rintro e wD ⟨rfl,hb⟩
 have k6:=(BA.out.2.1.below BwC.out.1).below hb
 have k9:=(BA.out.2.2.1.below BwC.out.1).below hb
 have kC:=BwC.out.2.1.below hb
 have HE:Hid (Below w.heap.size w wD):=below_then (below_then BA.out.1 BwC.out.1) hb
 have k6_0:wD.cell? ⟨q6,0,none⟩=some (.int .i64 c):=k6.cell 0
 have k6_1:wD.cell? ⟨q6,1,none⟩=some (.int .i64 0):=k6.cell 1
 have k6_2:wD.cell? ⟨q6,2,none⟩=some (.int .i64 0):=k6.cell 2
 have k6_3:wD.cell? ⟨q6,3,none⟩=some (.int .i64 0):=k6.cell 3
 have k9_0:wD.cell? ⟨q9,0,none⟩=some (.int .i64 d):=k9.cell 0
 have k9_1:wD.cell? ⟨q9,1,none⟩=some (.int .i64 2):=k9.cell 1
 have k9_2:wD.cell? ⟨q9,2,none⟩=some (.int .i64 1):=k9.cell 2
 have k9_3:wD.cell? ⟨q9,3,none⟩=some (.int .i64 0):=k9.cell 3
 have kC_0:wD.cell? ⟨qC,0,none⟩=some (.int .i64 c):=kC.cell 0
 have kC_1:wD.cell? ⟨qC,1,none⟩=some (.int .i64 0):=kC.cell 1
 have kC_2:wD.cell? ⟨qC,2,none⟩=some (.int .i64 0):=kC.cell 2
 have kC_3:wD.cell? ⟨qC,3,none⟩=some (.int .i64 0):=kC.cell 3
 clear hb k6 k9 kC BwC BA AW DC
 go_wp2_with fail
 go_returns
 exact ⟨rfl,HE.out⟩
set_option maxRecDepth 100000 in
theorem lifted (os:Os) (started:os.Started) (H:Type) (enc:TypeId × Value->H) :
 ReturnsInHanded {} Tryz.checked os 4 .any (fun w args=>(Rows.auditBootsSpec.pre enc Tryz.prog Tryz.f4 [] false w args/\laidMetH Tryz.prog laidL w)/\sizedMet enc Tryz.prog Tryz.f4 (OpenSpec.ofChange Rows.auditBootsSpec) false w args)
  (Rows.auditBootsSpec.post enc Tryz.prog Tryz.f4 false true false false):=by
 refine returnsInHanded_of_change_and (C:=Tryz.checked) (X:=fun w _=>laidMetH Tryz.prog laidL w) (fun _ _ _ hh h=>h.of_heap hh) own started (by kernel_rfl) Tryz.func4
  (ChangeSpec.witness_shaped (enc:=enc) (C:=Tryz.checked) (os:=os) (X:=fun w _=>laidMetH Tryz.prog laidL w) false (World.doorLaid Tryz.prog 400 os) #[.int .i64 0] 8 rfl (World.shaped_of_RefB (by kernel_rfl) (by kernel_rfl)) (by kernel_rfl) (by kernel_rfl) (by kernel_rfl) (door_met os _)) ?_
 intro W base args ds gs before hval0 hW _ _ hL _
 have hval: ∀ (j:Nat) t v,Tryz.f4.params[j]? =some t->args[j]? =some v->Value.okWide Tryz.prog W .any base t v:=hval0
 have hW':=hW
 obtain ⟨p,q,hA0,hV,hbef,hfz,hnd⟩:=hW
 have hA:DataW.TrodAll enc Tryz.prog W 0 (fun _=>true) true Tryz.f4.params.toList args.toList ds p:=hA0
 have hAk:=hA
 have hlt: ∀ x∈p,x.block<W.heap.size:=fun x hx=>hW'.lt x (by rw [hbef];exact List.mem_append_left _ hx)
 rw [Tryz.params4] at hA hval
 obtain ⟨v0,vs0,d0,ds0,p0,q0,hargs,rfl,hp0,h0,r0⟩:=trodAll_cons hA
 obtain ⟨rfl,rfl,hpz⟩:=trodAll_nil r0
 obtain rfl:args= #[v0]:=by cases args;simp_all
 obtain ⟨rfl,rfl⟩:=trodVars_none hV
 obtain ⟨a0,rfl,_,_,w0⟩:=open_int Tryz.underlying3 (hval 0 3 v0 rfl rfl) h0
 clear hA0 hval0
 refine (walk a0 w0 W (of_laid hL) ).mono fun e W' ⟨he,hg⟩=> ?_
 subst he
 exact ⟨_,rfl,⟨_,_,_,[],p,[],hW',(trodAll_cons_mk (shut_bool Tryz.underlying4 _) trodAll_mk0),args_stay laidOut hg (by kernel_rfl) hAk hlt,rfl,hg.frame _,fun h=>by cases h⟩⟩
theorem over:Rows.auditBootsRow.holds Tryz.pinned (OpenSpec.ofChange Rows.auditBootsSpec) :=
 OpenClaim.holds_of_wide 4 Tryz.f4 rfl rfl rfl rfl rfl rfl rfl ⟨rfl,rfl,rfl,rfl,rfl⟩ rfl rfl rfl rfl rfl (by kernel_rfl) Tryz.func4 (by kernel_rfl)
  (of_decide_eq_true (by kernel_rfl)) (by unfold Func.isWrapper;first | (rw [if_pos (by decide +kernel)];kernel_rfl) | (rw [if_neg (by decide +kernel)];exact ⟨rfl,rfl⟩))
  (fun os started H enc _=>lifted os started H enc)
theorem proved:Rows.AuditBootsCardSaid :=
 Claim7.holds_tied_plain_at .later [] [.data] true (true, "e15e4586846bf2ce074db05960c1ec1dcd57f48b999ba9d2a78598767a4abaca") true
  over (fun _ h=>by cases h) (by kernel_rfl) (fun _ h=>by cases h) auditBoots_row_tie rfl ⟨rfl,rfl⟩ (by kernel_rfl) rfl
  (fun f fn hf hfn=>by
   obtain rfl : f = 4 := Option.some.inj ((show Tryz.prog.funcNamed "demesne/demesnelaw20.AuditBoots" = some 4 by kernel_rfl).symm.trans hf) |>.symm
   obtain rfl:fn=Tryz.f4:=(Option.some.inj (Tryz.func4.symm.trans hfn)).symm
   exact ⟨by kernel_rfl,fun j t ht=>by
    rw [Tryz.params4] at ht
    have hm:t∈[3]:=by simpa using Array.mem_of_getElem? ht
    have hall:([3].all fun u=> !Tryz.prog.wantsStandIn u)=true:=by kernel_rfl
    exact (show Tryz.prog.wantsStandIn t=false by simpa using List.all_eq_true.1 hall t hm)⟩)
  (by kernel_rfl)
#print axioms proved
end Go.Proofs.YtajfbieacfjhnaaGreatDoor.auditBoots
