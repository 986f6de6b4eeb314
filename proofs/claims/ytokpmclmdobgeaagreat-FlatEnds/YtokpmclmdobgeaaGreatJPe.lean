import Derived.Test.YtokpmclmdobgeaaGreatKZe
import Derived.Test.YtokpmclmdobgeaaGreatJOe
import Derived.Test.YtokpmclmdobgeaaGreatJLe
set_option linter.unusedSimpArgs false
set_option linter.unusedVariables false
set_option maxRecDepth 8000
set_option maxHeartbeats 4000000
open Go.ChangeShapes Go.WideShapes Go.ChangeAt Go.RowKit Go.Maps
namespace Go.Proofs.YtokpmclmdobgeaaGreat.Fl
theorem Pr.at_state (P:Pr) {w:World} (h:Blk w P.pb P.enc 88):w.rangeAt P.pb 2 (sd1 P.st.r0 P.st.r1 P.st.r2 P.st.r3 P.st.told P.st.en P.st.inn P.st.fa P.st.fc P.st.s0 P.st.s1 P.st.s2 P.st.s3):=fun j v hv=>by
 have hj:j<13:=(List.getElem?_eq_some_iff.1 hv).1
 rw [h.cell]
 rcases (by omega:j=0\/j=1\/j=2\/j=3\/j=4\/j=5\/j=6\/j=7\/j=8\/j=9\/j=10\/j=11\/j=12) with e | e | e | e | e | e | e | e | e | e | e | e | e <;> (subst e;exact hv)
section
variable {O:Nat->Nat} {n:Nat} {W:World} {M:Mb} {Q:Ca.Qu} {T:Nat->Qo.Nd} {root:Int} {I:Nat->Sh.Gr} {A:Nat->Option Pr} {B:Nat->Nat->Int}
theorem Mn.alter10 (h:Mn O n W M Q T root I A B) {i:Nat} {P:Pr} (hi:i<16) (hA:A i=some P) (k1 k2:Int) (k3 k4 k5:Bool) (ad sz x k6 k7 k8 k9:Int) (S:Tr.St) (E:Int)
 (HL: ∀ w,Calls Tryz.prog 90 #[P.st.val,.int .u64 ad] w (re (.tuple #[S.val,.int .i64 E]) w)) :
 Calls Tryz.prog 66 #[pp P.pb,.agg (sq 10 k1 k2 k3 k4 k5 ad sz x k6 k7 k8 k9)] W fun e w'=>e=.returned (.int .i64 E)/\Tx O W (fun O' V=>Mn O' n V M Q T root I (setA A i (some { P with st:=S })) B) w':=by
 have HM:Hid (Mn O n W M Q T root I A B):=h
 have HP:Hid (IsPr O n i W P):=h.prs i P hi hA
 have HI:Hid (i<16/\A i=some P):=⟨hi,hA⟩
 have PL:Hid (P.pb<W.heap.size/\O P.pb≠0):=⟨HP.out.pro.lt,by rw [HP.out.o0];omega⟩
 have TCC:Hid (∀ w,Calls Tryz.prog 90 #[P.st.val,.int .u64 ad] w (re (.tuple #[S.val,.int .i64 E]) w)):=HL
 have G0:Hid (bc W (W.alloc (.cells (sq 10 k1 k2 k3 k4 k5 ad sz x k6 k7 k8 k9) 70))/\Blk (W.alloc (.cells (sq 10 k1 k2 k3 k4 k5 ad sz x k6 k7 k8 k9) 70)) W.heap.size (su 10 k1 k2 k3 k4 k5 ad sz x k6 k7 k8 k9) 70):=⟨baa,Blk.made _ _ _⟩
 clear h hi hA HL
 go_enter Tryz.func66,Tryz.ntmps66
 go_upto_region 1 with fail
 generalize (W.alloc (.cells (sq 10 k1 k2 k3 k4 k5 ad sz x k6 k7 k8 k9) 70))=V at G0 |-
 obtain ⟨b1,hb1⟩: ∃ b1,b1=W.heap.size:=⟨_,rfl⟩
 have G1:Hid (bc W V/\Blk V b1 (su 10 k1 k2 k3 k4 k5 ad sz x k6 k7 k8 k9) 70):=kt1
 have NB:Hid (b1≠P.pb):=by have:=PL.out;show b1≠_;omega
 rw [<- hb1]
 clear hb1 G0
 have x0:V.cell? ⟨b1,0,none⟩=some (.int .i64 10):=G1.out.2.cell 0
 go_upto_region 3 with fail
 clear x0
 refine hda (fun cw=>Kp W P.pb cw/\Blk cw b1 (su 10 k1 k2 k3 k4 k5 ad sz x k6 k7 k8 k9) 70) (⟨Kp.of_below (below_drew G1.out.1),G1.out.2⟩) fun hHeld=> ?_
 have XU:Hid (Blk V.drew P.pb P.enc 88):=HP.out.pro.below (below_drew G1.out.1)
 clear G1
 generalize V.drew=U at hHeld XU |-
 refine tma 0 10 rfl ?_
 refine tma 1 11 rfl ?_
 refine tma 2 12 rfl ?_
 refine tma 3 13 rfl ?_
 refine tma 5 15 rfl ?_
 refine tla 6 16 (.int .u64 ad) rfl ?_ ?_
 . intro w hSw;(try dsimp only at hSw);have r:w.cell? ⟨b1,6,none⟩=some (.int .u64 ad):=hSw.2.cell 6;(try go_simp);(try simp [*])
 refine rda 4 ⟨some 14,_,_,_,_,none⟩ rfl fun K hK=> ?_
 refine wanted_mp rfl ?_
 refine wp_load_mid 82 _ rfl P.pb 2 rfl (sd1 P.st.r0 P.st.r1 P.st.r2 P.st.r3 P.st.told P.st.en P.st.inn P.st.fa P.st.fc P.st.s0 P.st.s1 P.st.s2 P.st.s3) _ (P.at_state XU.out) Tryz.underlying82 rfl state_info ?_
 refine hK.out _ _ hHeld ?_
 clear hK K hHeld
 intro hHeld
 try simp only [Act.put,zaa,zba,zca]
 refine rda 7 ⟨some 17,_,_,_,_,none⟩ rfl fun K hK=> ?_
 go_simp
 go_wp2_with (go_at_call 90;refine Calls.mono (TCC.out _) ?_;rintro e u ⟨rfl,hb⟩)
 have K8:Hid (Kp W P.pb u):=hHeld.1.below hb
 have X8:Hid (Blk u P.pb P.enc 88):=XU.out.below hb
 have S8:Hid (Blk u b1 (su 10 k1 k2 k3 k4 k5 ad sz x k6 k7 k8 k9) 70):=hHeld.2.below hb
 refine hK.out _ _ ⟨K8.out,S8.out⟩ ?_
 clear hK K hHeld hb XU TCC S8
 intro hHeld
 try simp only [Act.put,zaa,zba,zca]
 refine tma 8 9 rfl ?_
 refine tma 9 18 rfl ?_
 refine tma 10 19 rfl ?_
 refine tma 11 20 rfl ?_
 refine tma 12 21 rfl ?_
 refine rda 13 ⟨none,.store 82 (.tmp 21) (.tmp 18),_,_,_,none⟩ rfl fun K hK=> ?_
 refine wanted_mp rfl ?_
 have th:u.there P.pb 2 13:=(fun j hj=>by have:=X8.out.there (2+j) (by have:j<13:=hj;show 2+j<18;omega);rwa [Nat.zero_add] at this)
 refine wp_store_mid _ _ _ rfl P.pb 2 (sc1 S.r0 S.r1 S.r2 S.r3 S.told S.en S.inn S.fa S.fc S.s0 S.s1 S.s2 S.s3) rfl rfl th kc kq1 ?_
 (try simp only [List.toList_toArray])
 have gk:=grown_setCells P.pb (sd1 S.r0 S.r1 S.r2 S.r3 S.told S.en S.inn S.fa S.fc S.s0 S.s1 S.s2 S.s3) 2 u
 have X9:Hid (Blk (u.setCells P.pb 2 (sd1 S.r0 S.r1 S.r2 S.r3 S.told S.en S.inn S.fa S.fc S.s0 S.s1 S.s2 S.s3)) P.pb ({ P with st:=S }:Pr).enc 88):=P.state S X8.out
 have K9:Hid (Kp W P.pb (u.setCells P.pb 2 (sd1 S.r0 S.r1 S.r2 S.r3 S.told S.en S.inn S.fa S.fc S.s0 S.s1 S.s2 S.s3))):=K8.out.grown gk (Or.inr rfl)
 have S9:Hid (Blk (u.setCells P.pb 2 (sd1 S.r0 S.r1 S.r2 S.r3 S.told S.en S.inn S.fa S.fc S.s0 S.s1 S.s2 S.s3)) b1 (su 10 k1 k2 k3 k4 k5 ad sz x k6 k7 k8 k9) 70):=(gk.block b1 hHeld.2.lt (fun e=>NB.out (sia e))).trans hHeld.2
 clear gk
 generalize u.setCells P.pb 2 (sd1 S.r0 S.r1 S.r2 S.r3 S.told S.en S.inn S.fa S.fc S.s0 S.s1 S.s2 S.s3)=V9 at X9 K9 S9 |-
 refine hK.out _ _ ⟨K9.out,S9.out⟩ ?_
 clear hK K hHeld th X8 K8 S9
 intro hHeld
 try simp only [Act.put,zaa,zba,zca]
 refine tma 14 4 rfl ?_
 clear hHeld
 refine wpAnyH_done kc ?_ _
 refine NoPanic.normal ?_
 go_wp2_with fail
 go_returns
 exact ⟨rfl,O,HM.out.state HI.out.1 HI.out.2 S K9.out.size (fun j hj hn=>K9.out.block j ⟨hj,hn⟩) X9.out,fun _ _=>rfl,fun j hj=>nla (HM.out.lt j hj) K9.out.size,K9.out.ko PL.out.2⟩
theorem Mn.alter11 (h:Mn O n W M Q T root I A B) {i:Nat} {P:Pr} (hi:i<16) (hA:A i=some P) (k1 k2:Int) (k3 k4 k5:Bool) (ad sz x k6 k7 k8 k9:Int) (S:Tr.St) (E:Int)
 (HL: ∀ w,Calls Tryz.prog 91 #[P.st.val] w (re (.tuple #[S.val,.int .i64 E]) w)) :
 Calls Tryz.prog 66 #[pp P.pb,.agg (sq 11 k1 k2 k3 k4 k5 ad sz x k6 k7 k8 k9)] W fun e w'=>e=.returned (.int .i64 E)/\Tx O W (fun O' V=>Mn O' n V M Q T root I (setA A i (some { P with st:=S })) B) w':=by
 have HM:Hid (Mn O n W M Q T root I A B):=h
 have HP:Hid (IsPr O n i W P):=h.prs i P hi hA
 have HI:Hid (i<16/\A i=some P):=⟨hi,hA⟩
 have PL:Hid (P.pb<W.heap.size/\O P.pb≠0):=⟨HP.out.pro.lt,by rw [HP.out.o0];omega⟩
 have TCC:Hid (∀ w,Calls Tryz.prog 91 #[P.st.val] w (re (.tuple #[S.val,.int .i64 E]) w)):=HL
 have G0:Hid (bc W (W.alloc (.cells (sq 11 k1 k2 k3 k4 k5 ad sz x k6 k7 k8 k9) 70))/\Blk (W.alloc (.cells (sq 11 k1 k2 k3 k4 k5 ad sz x k6 k7 k8 k9) 70)) W.heap.size (su 11 k1 k2 k3 k4 k5 ad sz x k6 k7 k8 k9) 70):=⟨baa,Blk.made _ _ _⟩
 clear h hi hA HL
 go_enter Tryz.func66,Tryz.ntmps66
 go_upto_region 1 with fail
 generalize (W.alloc (.cells (sq 11 k1 k2 k3 k4 k5 ad sz x k6 k7 k8 k9) 70))=V at G0 |-
 obtain ⟨b1,hb1⟩: ∃ b1,b1=W.heap.size:=⟨_,rfl⟩
 have G1:Hid (bc W V/\Blk V b1 (su 11 k1 k2 k3 k4 k5 ad sz x k6 k7 k8 k9) 70):=kt1
 have NB:Hid (b1≠P.pb):=by have:=PL.out;show b1≠_;omega
 rw [<- hb1]
 clear hb1 G0
 have x0:V.cell? ⟨b1,0,none⟩=some (.int .i64 11):=G1.out.2.cell 0
 go_upto_region 5 with fail
 clear x0
 refine wp_region_lit ?_
 iterate 12 go_step
 refine Tr.load_pat P.pb 2 (sd1 P.st.r0 P.st.r1 P.st.r2 P.st.r3 P.st.told P.st.en P.st.inn P.st.fa P.st.fc P.st.s0 P.st.s1 P.st.s2 P.st.s3) _ rfl (P.at_state (HP.out.pro.below G1.out.1)) Tryz.underlying82 rfl state_info ?_
 go_wp2_with fail
 refine Calls.mono (TCC.out _) ?_
 rintro e u ⟨rfl,hb⟩
 have K8:Hid (Kp W P.pb u):=Kp.of_below (below_then G1.out.1 hb)
 have X8:Hid (Blk u P.pb P.enc 88):=(HP.out.pro.below G1.out.1).below hb
 clear hb G1 TCC
 dsimp only
 rename_i hKK
 refine hKK _ _ ?_
 clear hKK
 iterate 15 go_step
 refine Tr.store_pat P.pb 2 (sc1 S.r0 S.r1 S.r2 S.r3 S.told S.en S.inn S.fa S.fc S.s0 S.s1 S.s2 S.s3) rfl rfl (fun j hj=>by have:=X8.out.there (2+j) (by have:j<13:=hj;show 2+j<18;omega);rwa [Nat.zero_add] at this) state_info kq1 ?_
 have X9:Hid (Blk (u.setCells P.pb 2 ((sc1 S.r0 S.r1 S.r2 S.r3 S.told S.en S.inn S.fa S.fc S.s0 S.s1 S.s2 S.s3):Array Value).toList) P.pb ({ P with st:=S }:Pr).enc 88):=P.state S X8.out
 have K9:Hid (Kp W P.pb (u.setCells P.pb 2 ((sc1 S.r0 S.r1 S.r2 S.r3 S.told S.en S.inn S.fa S.fc S.s0 S.s1 S.s2 S.s3):Array Value).toList)):=K8.out.grown (grown_setCells P.pb ((sc1 S.r0 S.r1 S.r2 S.r3 S.told S.en S.inn S.fa S.fc S.s0 S.s1 S.s2 S.s3):Array Value).toList 2 u) (Or.inr rfl)
 generalize u.setCells P.pb 2 ((sc1 S.r0 S.r1 S.r2 S.r3 S.told S.en S.inn S.fa S.fc S.s0 S.s1 S.s2 S.s3):Array Value).toList=V9 at X9 K9 |-
 clear X8 K8
 go_wp2_with fail
 go_returns
 exact ⟨rfl,O,HM.out.state HI.out.1 HI.out.2 S K9.out.size (fun j hj hn=>K9.out.block j ⟨hj,hn⟩) X9.out,fun _ _=>rfl,fun j hj=>nla (HM.out.lt j hj) K9.out.size,K9.out.ko PL.out.2⟩
theorem Mn.alter15 (h:Mn O n W M Q T root I A B) {i:Nat} {P:Pr} (hi:i<16) (hA:A i=some P) (k1 k2:Int) (k3 k4 k5:Bool) (ad sz x k6 k7 k8 k9:Int) (S:Tr.St) (E:Int)
 (HL: ∀ w,Calls Tryz.prog 92 #[P.st.val,.int .i64 k6,.int .i64 k7,.int .i64 k8,.int .i64 k9] w (re (.tuple #[S.val,.int .i64 E]) w)) :
 Calls Tryz.prog 66 #[pp P.pb,.agg (sq 15 k1 k2 k3 k4 k5 ad sz x k6 k7 k8 k9)] W fun e w'=>e=.returned (.int .i64 E)/\Tx O W (fun O' V=>Mn O' n V M Q T root I (setA A i (some { P with st:=S })) B) w':=by
 have HM:Hid (Mn O n W M Q T root I A B):=h
 have HP:Hid (IsPr O n i W P):=h.prs i P hi hA
 have HI:Hid (i<16/\A i=some P):=⟨hi,hA⟩
 have PL:Hid (P.pb<W.heap.size/\O P.pb≠0):=⟨HP.out.pro.lt,by rw [HP.out.o0];omega⟩
 have TCC:Hid (∀ w,Calls Tryz.prog 92 #[P.st.val,.int .i64 k6,.int .i64 k7,.int .i64 k8,.int .i64 k9] w (re (.tuple #[S.val,.int .i64 E]) w)):=HL
 have G0:Hid (bc W (W.alloc (.cells (sq 15 k1 k2 k3 k4 k5 ad sz x k6 k7 k8 k9) 70))/\Blk (W.alloc (.cells (sq 15 k1 k2 k3 k4 k5 ad sz x k6 k7 k8 k9) 70)) W.heap.size (su 15 k1 k2 k3 k4 k5 ad sz x k6 k7 k8 k9) 70):=⟨baa,Blk.made _ _ _⟩
 clear h hi hA HL
 go_enter Tryz.func66,Tryz.ntmps66
 go_upto_region 1 with fail
 generalize (W.alloc (.cells (sq 15 k1 k2 k3 k4 k5 ad sz x k6 k7 k8 k9) 70))=V at G0 |-
 obtain ⟨b1,hb1⟩: ∃ b1,b1=W.heap.size:=⟨_,rfl⟩
 have G1:Hid (bc W V/\Blk V b1 (su 15 k1 k2 k3 k4 k5 ad sz x k6 k7 k8 k9) 70):=kt1
 have NB:Hid (b1≠P.pb):=by have:=PL.out;show b1≠_;omega
 rw [<- hb1]
 clear hb1 G0
 have x0:V.cell? ⟨b1,0,none⟩=some (.int .i64 15):=G1.out.2.cell 0
 go_upto_region 7 with fail
 clear x0
 refine hda (fun cw=>Kp W P.pb cw/\Blk cw b1 (su 15 k1 k2 k3 k4 k5 ad sz x k6 k7 k8 k9) 70) (⟨Kp.of_below (below_drew G1.out.1),G1.out.2⟩) fun hHeld=> ?_
 have XU:Hid (Blk V.drew P.pb P.enc 88):=HP.out.pro.below (below_drew G1.out.1)
 clear G1
 generalize V.drew=U at hHeld XU |-
 refine tma 0 38 rfl ?_
 refine tma 1 39 rfl ?_
 refine tma 2 40 rfl ?_
 refine tma 3 41 rfl ?_
 refine tma 5 43 rfl ?_
 refine tla 6 44 (.int .i64 k6) rfl ?_ ?_
 . intro w hSw;(try dsimp only at hSw);have r:w.cell? ⟨b1,9,none⟩=some (.int .i64 k6):=hSw.2.cell 9;(try go_simp);(try simp [*])
 refine tma 7 45 rfl ?_
 refine tla 8 46 (.int .i64 k7) rfl ?_ ?_
 . intro w hSw;(try dsimp only at hSw);have r:w.cell? ⟨b1,10,none⟩=some (.int .i64 k7):=hSw.2.cell 10;(try go_simp);(try simp [*])
 refine tma 9 47 rfl ?_
 refine tla 10 48 (.int .i64 k8) rfl ?_ ?_
 . intro w hSw;(try dsimp only at hSw);have r:w.cell? ⟨b1,11,none⟩=some (.int .i64 k8):=hSw.2.cell 11;(try go_simp);(try simp [*])
 refine tma 11 49 rfl ?_
 refine tla 12 50 (.int .i64 k9) rfl ?_ ?_
 . intro w hSw;(try dsimp only at hSw);have r:w.cell? ⟨b1,12,none⟩=some (.int .i64 k9):=hSw.2.cell 12;(try go_simp);(try simp [*])
 refine rda 4 ⟨some 42,_,_,_,_,none⟩ rfl fun K hK=> ?_
 refine wanted_mp rfl ?_
 refine wp_load_mid 82 _ rfl P.pb 2 rfl (sd1 P.st.r0 P.st.r1 P.st.r2 P.st.r3 P.st.told P.st.en P.st.inn P.st.fa P.st.fc P.st.s0 P.st.s1 P.st.s2 P.st.s3) _ (P.at_state XU.out) Tryz.underlying82 rfl state_info ?_
 refine hK.out _ _ hHeld ?_
 clear hK K hHeld
 intro hHeld
 try simp only [Act.put,zaa,zba,zca]
 refine rda 13 ⟨some 51,_,_,_,_,none⟩ rfl fun K hK=> ?_
 go_simp
 go_wp2_with (go_at_call 92;refine Calls.mono (TCC.out _) ?_;rintro e u ⟨rfl,hb⟩)
 have K8:Hid (Kp W P.pb u):=hHeld.1.below hb
 have X8:Hid (Blk u P.pb P.enc 88):=XU.out.below hb
 have S8:Hid (Blk u b1 (su 15 k1 k2 k3 k4 k5 ad sz x k6 k7 k8 k9) 70):=hHeld.2.below hb
 refine hK.out _ _ ⟨K8.out,S8.out⟩ ?_
 clear hK K hHeld hb XU TCC S8
 intro hHeld
 try simp only [Act.put,zaa,zba,zca]
 refine tma 14 37 rfl ?_
 refine tma 15 52 rfl ?_
 refine tma 16 53 rfl ?_
 refine tma 17 54 rfl ?_
 refine tma 18 55 rfl ?_
 refine rda 19 ⟨none,.store 82 (.tmp 55) (.tmp 52),_,_,_,none⟩ rfl fun K hK=> ?_
 refine wanted_mp rfl ?_
 have th:u.there P.pb 2 13:=(fun j hj=>by have:=X8.out.there (2+j) (by have:j<13:=hj;show 2+j<18;omega);rwa [Nat.zero_add] at this)
 refine wp_store_mid _ _ _ rfl P.pb 2 (sc1 S.r0 S.r1 S.r2 S.r3 S.told S.en S.inn S.fa S.fc S.s0 S.s1 S.s2 S.s3) rfl rfl th kc kq1 ?_
 (try simp only [List.toList_toArray])
 have gk:=grown_setCells P.pb (sd1 S.r0 S.r1 S.r2 S.r3 S.told S.en S.inn S.fa S.fc S.s0 S.s1 S.s2 S.s3) 2 u
 have X9:Hid (Blk (u.setCells P.pb 2 (sd1 S.r0 S.r1 S.r2 S.r3 S.told S.en S.inn S.fa S.fc S.s0 S.s1 S.s2 S.s3)) P.pb ({ P with st:=S }:Pr).enc 88):=P.state S X8.out
 have K9:Hid (Kp W P.pb (u.setCells P.pb 2 (sd1 S.r0 S.r1 S.r2 S.r3 S.told S.en S.inn S.fa S.fc S.s0 S.s1 S.s2 S.s3))):=K8.out.grown gk (Or.inr rfl)
 have S9:Hid (Blk (u.setCells P.pb 2 (sd1 S.r0 S.r1 S.r2 S.r3 S.told S.en S.inn S.fa S.fc S.s0 S.s1 S.s2 S.s3)) b1 (su 15 k1 k2 k3 k4 k5 ad sz x k6 k7 k8 k9) 70):=(gk.block b1 hHeld.2.lt (fun e=>NB.out (sia e))).trans hHeld.2
 clear gk
 generalize u.setCells P.pb 2 (sd1 S.r0 S.r1 S.r2 S.r3 S.told S.en S.inn S.fa S.fc S.s0 S.s1 S.s2 S.s3)=V9 at X9 K9 S9 |-
 refine hK.out _ _ ⟨K9.out,S9.out⟩ ?_
 clear hK K hHeld th X8 K8 S9
 intro hHeld
 try simp only [Act.put,zaa,zba,zca]
 refine tma 20 4 rfl ?_
 clear hHeld
 refine wpAnyH_done kc ?_ _
 refine NoPanic.normal ?_
 go_wp2_with fail
 go_returns
 exact ⟨rfl,O,HM.out.state HI.out.1 HI.out.2 S K9.out.size (fun j hj hn=>K9.out.block j ⟨hj,hn⟩) X9.out,fun _ _=>rfl,fun j hj=>nla (HM.out.lt j hj) K9.out.size,K9.out.ko PL.out.2⟩
theorem Mn.alter16 (h:Mn O n W M Q T root I A B) {i:Nat} {P:Pr} (hi:i<16) (hA:A i=some P) (k1 k2:Int) (k3 k4 k5:Bool) (ad sz x k6 k7 k8 k9:Int) (S:Tr.St) (E:Int)
 (HL: ∀ w,Calls Tryz.prog 93 #[P.st.val,.int .i64 k6,.int .u64 x] w (re (.tuple #[S.val,.int .i64 E]) w)) :
 Calls Tryz.prog 66 #[pp P.pb,.agg (sq 16 k1 k2 k3 k4 k5 ad sz x k6 k7 k8 k9)] W fun e w'=>e=.returned (.int .i64 E)/\Tx O W (fun O' V=>Mn O' n V M Q T root I (setA A i (some { P with st:=S })) B) w':=by
 have HM:Hid (Mn O n W M Q T root I A B):=h
 have HP:Hid (IsPr O n i W P):=h.prs i P hi hA
 have HI:Hid (i<16/\A i=some P):=⟨hi,hA⟩
 have PL:Hid (P.pb<W.heap.size/\O P.pb≠0):=⟨HP.out.pro.lt,by rw [HP.out.o0];omega⟩
 have TCC:Hid (∀ w,Calls Tryz.prog 93 #[P.st.val,.int .i64 k6,.int .u64 x] w (re (.tuple #[S.val,.int .i64 E]) w)):=HL
 have G0:Hid (bc W (W.alloc (.cells (sq 16 k1 k2 k3 k4 k5 ad sz x k6 k7 k8 k9) 70))/\Blk (W.alloc (.cells (sq 16 k1 k2 k3 k4 k5 ad sz x k6 k7 k8 k9) 70)) W.heap.size (su 16 k1 k2 k3 k4 k5 ad sz x k6 k7 k8 k9) 70):=⟨baa,Blk.made _ _ _⟩
 clear h hi hA HL
 go_enter Tryz.func66,Tryz.ntmps66
 go_upto_region 1 with fail
 generalize (W.alloc (.cells (sq 16 k1 k2 k3 k4 k5 ad sz x k6 k7 k8 k9) 70))=V at G0 |-
 obtain ⟨b1,hb1⟩: ∃ b1,b1=W.heap.size:=⟨_,rfl⟩
 have G1:Hid (bc W V/\Blk V b1 (su 16 k1 k2 k3 k4 k5 ad sz x k6 k7 k8 k9) 70):=kt1
 have NB:Hid (b1≠P.pb):=by have:=PL.out;show b1≠_;omega
 rw [<- hb1]
 clear hb1 G0
 have x0:V.cell? ⟨b1,0,none⟩=some (.int .i64 16):=G1.out.2.cell 0
 go_upto_region 9 with fail
 clear x0
 refine hda (fun cw=>Kp W P.pb cw/\Blk cw b1 (su 16 k1 k2 k3 k4 k5 ad sz x k6 k7 k8 k9) 70) (⟨Kp.of_below (below_drew G1.out.1),G1.out.2⟩) fun hHeld=> ?_
 have XU:Hid (Blk V.drew P.pb P.enc 88):=HP.out.pro.below (below_drew G1.out.1)
 clear G1
 generalize V.drew=U at hHeld XU |-
 refine tma 0 59 rfl ?_
 refine tma 1 60 rfl ?_
 refine tma 2 61 rfl ?_
 refine tma 3 62 rfl ?_
 refine tma 5 64 rfl ?_
 refine tla 6 65 (.int .i64 k6) rfl ?_ ?_
 . intro w hSw;(try dsimp only at hSw);have r:w.cell? ⟨b1,9,none⟩=some (.int .i64 k6):=hSw.2.cell 9;(try go_simp);(try simp [*])
 refine tma 7 66 rfl ?_
 refine tla 8 67 (.int .u64 x) rfl ?_ ?_
 . intro w hSw;(try dsimp only at hSw);have r:w.cell? ⟨b1,8,none⟩=some (.int .u64 x):=hSw.2.cell 8;(try go_simp);(try simp [*])
 refine rda 4 ⟨some 63,_,_,_,_,none⟩ rfl fun K hK=> ?_
 refine wanted_mp rfl ?_
 refine wp_load_mid 82 _ rfl P.pb 2 rfl (sd1 P.st.r0 P.st.r1 P.st.r2 P.st.r3 P.st.told P.st.en P.st.inn P.st.fa P.st.fc P.st.s0 P.st.s1 P.st.s2 P.st.s3) _ (P.at_state XU.out) Tryz.underlying82 rfl state_info ?_
 refine hK.out _ _ hHeld ?_
 clear hK K hHeld
 intro hHeld
 try simp only [Act.put,zaa,zba,zca]
 refine rda 9 ⟨some 68,_,_,_,_,none⟩ rfl fun K hK=> ?_
 go_simp
 go_wp2_with (go_at_call 93;refine Calls.mono (TCC.out _) ?_;rintro e u ⟨rfl,hb⟩)
 have K8:Hid (Kp W P.pb u):=hHeld.1.below hb
 have X8:Hid (Blk u P.pb P.enc 88):=XU.out.below hb
 have S8:Hid (Blk u b1 (su 16 k1 k2 k3 k4 k5 ad sz x k6 k7 k8 k9) 70):=hHeld.2.below hb
 refine hK.out _ _ ⟨K8.out,S8.out⟩ ?_
 clear hK K hHeld hb XU TCC S8
 intro hHeld
 try simp only [Act.put,zaa,zba,zca]
 refine tma 10 58 rfl ?_
 refine tma 11 69 rfl ?_
 refine tma 12 70 rfl ?_
 refine tma 13 71 rfl ?_
 refine tma 14 72 rfl ?_
 refine rda 15 ⟨none,.store 82 (.tmp 72) (.tmp 69),_,_,_,none⟩ rfl fun K hK=> ?_
 refine wanted_mp rfl ?_
 have th:u.there P.pb 2 13:=(fun j hj=>by have:=X8.out.there (2+j) (by have:j<13:=hj;show 2+j<18;omega);rwa [Nat.zero_add] at this)
 refine wp_store_mid _ _ _ rfl P.pb 2 (sc1 S.r0 S.r1 S.r2 S.r3 S.told S.en S.inn S.fa S.fc S.s0 S.s1 S.s2 S.s3) rfl rfl th kc kq1 ?_
 (try simp only [List.toList_toArray])
 have gk:=grown_setCells P.pb (sd1 S.r0 S.r1 S.r2 S.r3 S.told S.en S.inn S.fa S.fc S.s0 S.s1 S.s2 S.s3) 2 u
 have X9:Hid (Blk (u.setCells P.pb 2 (sd1 S.r0 S.r1 S.r2 S.r3 S.told S.en S.inn S.fa S.fc S.s0 S.s1 S.s2 S.s3)) P.pb ({ P with st:=S }:Pr).enc 88):=P.state S X8.out
 have K9:Hid (Kp W P.pb (u.setCells P.pb 2 (sd1 S.r0 S.r1 S.r2 S.r3 S.told S.en S.inn S.fa S.fc S.s0 S.s1 S.s2 S.s3))):=K8.out.grown gk (Or.inr rfl)
 have S9:Hid (Blk (u.setCells P.pb 2 (sd1 S.r0 S.r1 S.r2 S.r3 S.told S.en S.inn S.fa S.fc S.s0 S.s1 S.s2 S.s3)) b1 (su 16 k1 k2 k3 k4 k5 ad sz x k6 k7 k8 k9) 70):=(gk.block b1 hHeld.2.lt (fun e=>NB.out (sia e))).trans hHeld.2
 clear gk
 generalize u.setCells P.pb 2 (sd1 S.r0 S.r1 S.r2 S.r3 S.told S.en S.inn S.fa S.fc S.s0 S.s1 S.s2 S.s3)=V9 at X9 K9 S9 |-
 refine hK.out _ _ ⟨K9.out,S9.out⟩ ?_
 clear hK K hHeld th X8 K8 S9
 intro hHeld
 try simp only [Act.put,zaa,zba,zca]
 refine tma 16 4 rfl ?_
 clear hHeld
 refine wpAnyH_done kc ?_ _
 refine NoPanic.normal ?_
 go_wp2_with fail
 go_returns
 exact ⟨rfl,O,HM.out.state HI.out.1 HI.out.2 S K9.out.size (fun j hj hn=>K9.out.block j ⟨hj,hn⟩) X9.out,fun _ _=>rfl,fun j hj=>nla (HM.out.lt j hj) K9.out.size,K9.out.ko PL.out.2⟩
theorem exit_first (mb:Nat) (W:World):Calls Tryz.prog 65 #[pp mb,.int .i64 0] W (re (.int .i64 10) W):=by
 go_enter Tryz.func65,Tryz.ntmps65
 go_wp2_with fail
 go_returns
 exact ⟨rfl,Below.refl _ _⟩
theorem Mn.exit (h:Mn O n W M Q T root I A B) (i:Nat) (i0:i≠0) (Y:(Nat->Nat)->World->Prop) (HL: ∀ w,Mn O n w M Q T root I A B->Calls Tryz.prog 89 #[pp M.mb,.int .i64 (i:Nat)] w fun e w'=>e=.returned (.tuple #[])/\Tx O w Y w') :
 Calls Tryz.prog 65 #[pp M.mb,.int .i64 (i:Nat)] W fun e w'=>e=.returned (.int .i64 0)/\Tx O W Y w':=by
 have HM:Hid (Mn O n W M Q T root I A B):=h
 have LC:Hid _:=HL
 have d0:(((i:Nat):Int)==0)=false:=by simp [i0]
 clear h HL i0
 go_enter Tryz.func65,Tryz.ntmps65
 go_wp2_with fail
 refine Calls.mono (LC.out _ HM.out) ?_
 rintro e u ⟨rfl,hx⟩
 have HX:Hid (Tx O W Y u):=hx
 clear hx LC
 go_wp2_with fail
 go_returns
 exact ⟨rfl,HX.out⟩
theorem Mn.spawn (h:Mn O n W M Q T root I A B) {i:Nat} {P:Pr} (hi:i<16) (hA:A i=some P) (q:Int) (c E:Int) (hc:IntKind.u64.wrap c=c) (Y:(Nat->Nat)->World->Prop) (hY:Sta Y) (HL: ∀ w,Mn O n w M Q T root I A B->Calls Tryz.prog 15 #[pp M.mb,.int .i64 (i:Nat),.int .i64 P.k,.int .i64 q] w fun e w'=>e=.returned (.tuple #[.int .i64 c,.int .i64 E])/\Tx O w Y w') :
 Calls Tryz.prog 35 #[pp M.mb,.int .i64 (i:Nat),.int .i64 q] W fun e w'=>e=.returned (.agg (sw 0 c E 0 0 false))/\Tx O W Y w':=by
 have HM:Hid (Mn O n W M Q T root I A B):=h
 have OB:Hid (∀ b,W.heap.size<=b->O b=0):=fun b hb=>bca fun hh=>by have:=h.lt b hh;omega
 have LC:Hid _:=HL
 have SY:Hid (Sta Y):=hY
 have HI:Hid (i<16/\A i=some P):=⟨hi,hA⟩
 have G0:Hid (bc W (W.alloc (.cells sl1 36))/\Blk (W.alloc (.cells sl1 36)) W.heap.size sm1 36):=⟨baa,Blk.made _ _ _⟩
 clear h HL hY hi hA
 go_enter Tryz.func35,Tryz.ntmps35
 go_upto_region 1 with fail
 generalize (W.alloc (.cells sl1 36))=V at G0 |-
 obtain ⟨b2,hb1⟩: ∃ b2,b2=W.heap.size:=⟨_,rfl⟩
 have G1:Hid (bc W V/\Blk V b2 sm1 36):=kt1
 have NB:Hid (W.heap.size<=b2):=ks
 rw [<- hb1]
 clear hb1 G0
 have M1:Hid (Mn O n V M Q T root I A B):=HM.out.below G1.out.1
 have m3:V.cell? ⟨M.mb,1538,none⟩=some (.map (some M.pm)):=M1.out.mod.2.2.1
 have lk:(Instr.lookup 53 (.map (some M.pm)) (.int .i64 (i:Nat)) false).run Tryz.prog V=.ok (pp P.pb) V:=M1.out.proc HI.out.1 HI.out.2
 have c1:V.cell? ⟨P.pb,1,none⟩=some (.int .i64 P.k):=(M1.out.prs i P HI.out.1 HI.out.2).pro.cell 1
 go_wp2_with fail
 refine Calls.mono (LC.out _ M1.out) ?_
 rintro e u ⟨rfl,hx⟩
 have K1:Hid (Tx O V Y u/\Blk u b2 sm1 36):=⟨hx,hx.choose_spec.2.2.2.blk G1.out.2 (OB.out b2 NB.out)⟩
 have R2:Hid (Blk u b2 sm1 36):=K1.out.2
 clear hx LC m3 lk c1
 go_upto_region 2 with fail
 refine wp_region_lit ?_
 iterate 12 go_step
 refine Tr.store_pat b2 0 (sw 0 c E 0 0 false) rfl rfl R2.out.there result_info kq1 ?_
 have R4:Hid (Blk (u.setCells b2 0 ((sw 0 c E 0 0 false):Array Value).toList) b2 (sx 0 c E 0 0 false) 36):=R2.out.put rfl
 have GK:=grown_setCells b2 ((sw 0 c E 0 0 false):Array Value).toList 0 u
 generalize u.setCells b2 0 ((sw 0 c E 0 0 false):Array Value).toList=V8 at R4 GK |-
 have HE:Hid (Tx O W Y V8):=Tx.to SY.out G1.out.1 K1.out.1 NB.out G1.out.2.lt (OB.out b2 NB.out) GK
 clear GK
 go_wp2_with fail
 have LV:(loadVar 36 ⟨b2,0,none⟩).run Tryz.prog V8=.ok (.agg (sw 0 c E 0 0 false)) V8:=run_loadVar_mid (P:=Tryz.prog) _ b2 0 36 (sx 0 c E 0 0 false) _ R4.out.range Tryz.underlying36 rfl kc
 refine bodyPost_ret (v:=.agg (sw 0 c E 0 0 false)) (results_one Tryz.results35 _ _ _ ⟨b2,0,none⟩ _ rfl LV) rfl ?_
 exact ⟨rfl,HE.out⟩
theorem Mn.change1 (h:Mn O n W M Q T root I A B) {i:Nat} {P:Pr} (hi:i<16) (hA:A i=some P) (k1 k2:Int) (k3 k4 k5:Bool) (ad sz x k6 k7 k8 k9:Int) (E:Int) (Y:(Nat->Nat)->World->Prop) (nn:Nat) (hnn:n<=nn) (hM: ∀ O' w,Y O' w->Md w M.mb M.tq M.tb M.pm/\MapF w M.pm nn (prF A)) (HL: ∀ w,Mn O n w M Q T root I A B->Calls Tryz.prog 60 #[pp P.pb,.agg (sq 1 k1 k2 k3 k4 k5 ad sz x k6 k7 k8 k9)] w fun e w'=>e=.returned (.int .i64 E)/\Tx O w Y w') :
 Calls Tryz.prog 36 #[pp M.mb,.int .i64 (i:Nat),.agg (sq 1 k1 k2 k3 k4 k5 ad sz x k6 k7 k8 k9)] W fun e w'=>e=.returned (.int .i64 E)/\Tx O W Y w':=by
 have HM:Hid (Mn O n W M Q T root I A B):=h
 have OB:Hid (∀ b,W.heap.size<=b->O b=0):=fun b hb=>bca fun hh=>by have:=h.lt b hh;omega
 have LC:Hid _:=HL
 have PL:Hid (∀ w:World,MapF w M.pm nn (prF A)->(Instr.lookup 53 (.map (some M.pm)) (.int .i64 (i:Nat)) false).run Tryz.prog w=.ok (pp P.pb) w):=fun w hw=>by
  have q:=hw.look (k:=((i:Nat):Int)) (wf64 (by omega) (by omega))
  rw [prF_nat,if_pos hi,hA] at q;exact q
 have YM:Hid _:=hM
 have NN:Hid (n<=nn):=hnn
 have G0:Hid (bc W (W.alloc (.cells (sq 1 k1 k2 k3 k4 k5 ad sz x k6 k7 k8 k9) 70))/\Blk (W.alloc (.cells (sq 1 k1 k2 k3 k4 k5 ad sz x k6 k7 k8 k9) 70)) W.heap.size (su 1 k1 k2 k3 k4 k5 ad sz x k6 k7 k8 k9) 70):=⟨baa,Blk.made _ _ _⟩
 clear h HL hi hA hM hnn
 go_enter Tryz.func36,Tryz.ntmps36
 go_upto_region 1 with fail
 generalize (W.alloc (.cells (sq 1 k1 k2 k3 k4 k5 ad sz x k6 k7 k8 k9) 70))=V at G0 |-
 obtain ⟨b1,hb1⟩: ∃ b1,b1=W.heap.size:=⟨_,rfl⟩
 have G1:Hid (bc W V/\Blk V b1 (su 1 k1 k2 k3 k4 k5 ad sz x k6 k7 k8 k9) 70):=kt1
 have NB:Hid (W.heap.size<=b1):=ks
 rw [<- hb1]
 clear hb1 G0
 have x0:V.cell? ⟨b1,0,none⟩=some (.int .i64 1):=G1.out.2.cell 0
 go_upto_region 3 with fail
 clear x0
 have BS:Hid (Md V M.mb M.tq M.tb M.pm/\MapF V M.pm nn (prF A)/\Blk V b1 (su 1 k1 k2 k3 k4 k5 ad sz x k6 k7 k8 k9) 70):=⟨(HM.out.below G1.out.1).mod,(HM.out.below G1.out.1).prm.mono NN.out,G1.out.2⟩
 refine hda (fun cw=>Md cw M.mb M.tq M.tb M.pm/\MapF cw M.pm nn (prF A)/\Blk cw b1 (su 1 k1 k2 k3 k4 k5 ad sz x k6 k7 k8 k9) 70) BS.out fun hHeld=> ?_
 have KU:Hid (bc W V.drew):=below_drew G1.out.1
 clear BS
 generalize V.drew=U at hHeld KU |-
 refine tma 0 11 rfl ?_
 refine tma 1 12 rfl ?_
 refine tma 2 13 rfl ?_
 refine tla 3 14 ((.map (some M.pm))) rfl ?_ ?_
 . exact k31
 refine tma 4 15 rfl ?_
 refine tla 5 16 (pp P.pb) rfl ?_ ?_
 . exact k41
 refine tla 6 17 (.agg (sq 1 k1 k2 k3 k4 k5 ad sz x k6 k7 k8 k9)) rfl ?_ ?_
 . exact k51
 refine rda 7 ⟨some 18,_,_,_,_,none⟩ rfl fun K hK=> ?_
 go_simp
 go_wp2_with (go_at_call 60;refine Calls.mono (LC.out _ (HM.out.below KU.out)) ?_;rintro e u1 ⟨rfl,hx⟩)
 have E1:Hid (Tx O W Y u1):=Tx.up KU.out hx
 obtain ⟨O1,hy1,eo1,_,ko1⟩:=hx
 have S1:Hid (Md u1 M.mb M.tq M.tb M.pm/\MapF u1 M.pm nn (prF A)/\Blk u1 b1 (su 1 k1 k2 k3 k4 k5 ad sz x k6 k7 k8 k9) 70):=⟨(YM.out _ _ hy1).1,(YM.out _ _ hy1).2,ko1.blk hHeld.2.2 (OB.out b1 NB.out)⟩
 refine hK.out _ _ S1.out ?_
 clear hK K hHeld eo1 ko1 hy1 S1 KU
 intro hHeld
 try simp only [Act.put,zaa,zba,zca]
 refine tma 8 6 rfl ?_
 clear hHeld
 refine wpAnyH_done kc ?_ _
 refine NoPanic.normal ?_
 go_wp2_with fail
 go_returns
 exact ⟨rfl,E1.out⟩
theorem Mn.change10 (h:Mn O n W M Q T root I A B) {i:Nat} {P:Pr} (hi:i<16) (hA:A i=some P) (k1 k2:Int) (k3 k4 k5:Bool) (ad sz x k6 k7 k8 k9:Int) (E:Int) (Y:(Nat->Nat)->World->Prop) (nn:Nat) (hnn:n<=nn) (hM: ∀ O' w,Y O' w->Md w M.mb M.tq M.tb M.pm/\MapF w M.pm nn (prF A)) (HL: ∀ w,Mn O n w M Q T root I A B->Calls Tryz.prog 66 #[pp P.pb,.agg (sq 10 k1 k2 k3 k4 k5 ad sz x k6 k7 k8 k9)] w fun e w'=>e=.returned (.int .i64 E)/\Tx O w Y w') :
 Calls Tryz.prog 36 #[pp M.mb,.int .i64 (i:Nat),.agg (sq 10 k1 k2 k3 k4 k5 ad sz x k6 k7 k8 k9)] W fun e w'=>e=.returned (.int .i64 E)/\Tx O W Y w':=by
 have HM:Hid (Mn O n W M Q T root I A B):=h
 have OB:Hid (∀ b,W.heap.size<=b->O b=0):=fun b hb=>bca fun hh=>by have:=h.lt b hh;omega
 have LC:Hid _:=HL
 have PL:Hid (∀ w:World,MapF w M.pm nn (prF A)->(Instr.lookup 53 (.map (some M.pm)) (.int .i64 (i:Nat)) false).run Tryz.prog w=.ok (pp P.pb) w):=fun w hw=>by
  have q:=hw.look (k:=((i:Nat):Int)) (wf64 (by omega) (by omega))
  rw [prF_nat,if_pos hi,hA] at q;exact q
 have YM:Hid _:=hM
 have NN:Hid (n<=nn):=hnn
 have G0:Hid (bc W (W.alloc (.cells (sq 10 k1 k2 k3 k4 k5 ad sz x k6 k7 k8 k9) 70))/\Blk (W.alloc (.cells (sq 10 k1 k2 k3 k4 k5 ad sz x k6 k7 k8 k9) 70)) W.heap.size (su 10 k1 k2 k3 k4 k5 ad sz x k6 k7 k8 k9) 70):=⟨baa,Blk.made _ _ _⟩
 clear h HL hi hA hM hnn
 go_enter Tryz.func36,Tryz.ntmps36
 go_upto_region 1 with fail
 generalize (W.alloc (.cells (sq 10 k1 k2 k3 k4 k5 ad sz x k6 k7 k8 k9) 70))=V at G0 |-
 obtain ⟨b1,hb1⟩: ∃ b1,b1=W.heap.size:=⟨_,rfl⟩
 have G1:Hid (bc W V/\Blk V b1 (su 10 k1 k2 k3 k4 k5 ad sz x k6 k7 k8 k9) 70):=kt1
 have NB:Hid (W.heap.size<=b1):=ks
 rw [<- hb1]
 clear hb1 G0
 have x0:V.cell? ⟨b1,0,none⟩=some (.int .i64 10):=G1.out.2.cell 0
 go_upto_region 18 with fail
 clear x0
 have BS:Hid (Md V M.mb M.tq M.tb M.pm/\MapF V M.pm nn (prF A)/\Blk V b1 (su 10 k1 k2 k3 k4 k5 ad sz x k6 k7 k8 k9) 70):=⟨(HM.out.below G1.out.1).mod,(HM.out.below G1.out.1).prm.mono NN.out,G1.out.2⟩
 refine hda (fun cw=>Md cw M.mb M.tq M.tb M.pm/\MapF cw M.pm nn (prF A)/\Blk cw b1 (su 10 k1 k2 k3 k4 k5 ad sz x k6 k7 k8 k9) 70) BS.out fun hHeld=> ?_
 have KU:Hid (bc W V.drew):=below_drew G1.out.1
 clear BS
 generalize V.drew=U at hHeld KU |-
 refine tma 0 56 rfl ?_
 refine tma 1 57 rfl ?_
 refine tma 2 58 rfl ?_
 refine tla 3 59 ((.map (some M.pm))) rfl ?_ ?_
 . exact k31
 refine tma 4 60 rfl ?_
 refine tla 5 61 (pp P.pb) rfl ?_ ?_
 . exact k41
 refine tla 6 62 (.agg (sq 10 k1 k2 k3 k4 k5 ad sz x k6 k7 k8 k9)) rfl ?_ ?_
 . exact k51
 refine rda 7 ⟨some 63,_,_,_,_,none⟩ rfl fun K hK=> ?_
 go_simp
 go_wp2_with (go_at_call 66;refine Calls.mono (LC.out _ (HM.out.below KU.out)) ?_;rintro e u1 ⟨rfl,hx⟩)
 have E1:Hid (Tx O W Y u1):=Tx.up KU.out hx
 obtain ⟨O1,hy1,eo1,_,ko1⟩:=hx
 have S1:Hid (Md u1 M.mb M.tq M.tb M.pm/\MapF u1 M.pm nn (prF A)/\Blk u1 b1 (su 10 k1 k2 k3 k4 k5 ad sz x k6 k7 k8 k9) 70):=⟨(YM.out _ _ hy1).1,(YM.out _ _ hy1).2,ko1.blk hHeld.2.2 (OB.out b1 NB.out)⟩
 refine hK.out _ _ S1.out ?_
 clear hK K hHeld eo1 ko1 hy1 S1 KU
 intro hHeld
 try simp only [Act.put,zaa,zba,zca]
 refine tma 8 6 rfl ?_
 clear hHeld
 refine wpAnyH_done kc ?_ _
 refine NoPanic.normal ?_
 go_wp2_with fail
 go_returns
 exact ⟨rfl,E1.out⟩
theorem Mn.change11 (h:Mn O n W M Q T root I A B) {i:Nat} {P:Pr} (hi:i<16) (hA:A i=some P) (k1 k2:Int) (k3 k4 k5:Bool) (ad sz x k6 k7 k8 k9:Int) (E:Int) (Y:(Nat->Nat)->World->Prop) (nn:Nat) (hnn:n<=nn) (hM: ∀ O' w,Y O' w->Md w M.mb M.tq M.tb M.pm/\MapF w M.pm nn (prF A)) (HL: ∀ w,Mn O n w M Q T root I A B->Calls Tryz.prog 66 #[pp P.pb,.agg (sq 11 k1 k2 k3 k4 k5 ad sz x k6 k7 k8 k9)] w fun e w'=>e=.returned (.int .i64 E)/\Tx O w Y w') :
 Calls Tryz.prog 36 #[pp M.mb,.int .i64 (i:Nat),.agg (sq 11 k1 k2 k3 k4 k5 ad sz x k6 k7 k8 k9)] W fun e w'=>e=.returned (.int .i64 E)/\Tx O W Y w':=by
 have HM:Hid (Mn O n W M Q T root I A B):=h
 have OB:Hid (∀ b,W.heap.size<=b->O b=0):=fun b hb=>bca fun hh=>by have:=h.lt b hh;omega
 have LC:Hid _:=HL
 have PL:Hid (∀ w:World,MapF w M.pm nn (prF A)->(Instr.lookup 53 (.map (some M.pm)) (.int .i64 (i:Nat)) false).run Tryz.prog w=.ok (pp P.pb) w):=fun w hw=>by
  have q:=hw.look (k:=((i:Nat):Int)) (wf64 (by omega) (by omega))
  rw [prF_nat,if_pos hi,hA] at q;exact q
 have YM:Hid _:=hM
 have NN:Hid (n<=nn):=hnn
 have G0:Hid (bc W (W.alloc (.cells (sq 11 k1 k2 k3 k4 k5 ad sz x k6 k7 k8 k9) 70))/\Blk (W.alloc (.cells (sq 11 k1 k2 k3 k4 k5 ad sz x k6 k7 k8 k9) 70)) W.heap.size (su 11 k1 k2 k3 k4 k5 ad sz x k6 k7 k8 k9) 70):=⟨baa,Blk.made _ _ _⟩
 clear h HL hi hA hM hnn
 go_enter Tryz.func36,Tryz.ntmps36
 go_upto_region 1 with fail
 generalize (W.alloc (.cells (sq 11 k1 k2 k3 k4 k5 ad sz x k6 k7 k8 k9) 70))=V at G0 |-
 obtain ⟨b1,hb1⟩: ∃ b1,b1=W.heap.size:=⟨_,rfl⟩
 have G1:Hid (bc W V/\Blk V b1 (su 11 k1 k2 k3 k4 k5 ad sz x k6 k7 k8 k9) 70):=kt1
 have NB:Hid (W.heap.size<=b1):=ks
 rw [<- hb1]
 clear hb1 G0
 have x0:V.cell? ⟨b1,0,none⟩=some (.int .i64 11):=G1.out.2.cell 0
 go_upto_region 18 with fail
 clear x0
 have BS:Hid (Md V M.mb M.tq M.tb M.pm/\MapF V M.pm nn (prF A)/\Blk V b1 (su 11 k1 k2 k3 k4 k5 ad sz x k6 k7 k8 k9) 70):=⟨(HM.out.below G1.out.1).mod,(HM.out.below G1.out.1).prm.mono NN.out,G1.out.2⟩
 refine hda (fun cw=>Md cw M.mb M.tq M.tb M.pm/\MapF cw M.pm nn (prF A)/\Blk cw b1 (su 11 k1 k2 k3 k4 k5 ad sz x k6 k7 k8 k9) 70) BS.out fun hHeld=> ?_
 have KU:Hid (bc W V.drew):=below_drew G1.out.1
 clear BS
 generalize V.drew=U at hHeld KU |-
 refine tma 0 56 rfl ?_
 refine tma 1 57 rfl ?_
 refine tma 2 58 rfl ?_
 refine tla 3 59 ((.map (some M.pm))) rfl ?_ ?_
 . exact k31
 refine tma 4 60 rfl ?_
 refine tla 5 61 (pp P.pb) rfl ?_ ?_
 . exact k41
 refine tla 6 62 (.agg (sq 11 k1 k2 k3 k4 k5 ad sz x k6 k7 k8 k9)) rfl ?_ ?_
 . exact k51
 refine rda 7 ⟨some 63,_,_,_,_,none⟩ rfl fun K hK=> ?_
 go_simp
 go_wp2_with (go_at_call 66;refine Calls.mono (LC.out _ (HM.out.below KU.out)) ?_;rintro e u1 ⟨rfl,hx⟩)
 have E1:Hid (Tx O W Y u1):=Tx.up KU.out hx
 obtain ⟨O1,hy1,eo1,_,ko1⟩:=hx
 have S1:Hid (Md u1 M.mb M.tq M.tb M.pm/\MapF u1 M.pm nn (prF A)/\Blk u1 b1 (su 11 k1 k2 k3 k4 k5 ad sz x k6 k7 k8 k9) 70):=⟨(YM.out _ _ hy1).1,(YM.out _ _ hy1).2,ko1.blk hHeld.2.2 (OB.out b1 NB.out)⟩
 refine hK.out _ _ S1.out ?_
 clear hK K hHeld eo1 ko1 hy1 S1 KU
 intro hHeld
 try simp only [Act.put,zaa,zba,zca]
 refine tma 8 6 rfl ?_
 clear hHeld
 refine wpAnyH_done kc ?_ _
 refine NoPanic.normal ?_
 go_wp2_with fail
 go_returns
 exact ⟨rfl,E1.out⟩
theorem Mn.change15 (h:Mn O n W M Q T root I A B) {i:Nat} {P:Pr} (hi:i<16) (hA:A i=some P) (k1 k2:Int) (k3 k4 k5:Bool) (ad sz x k6 k7 k8 k9:Int) (E:Int) (Y:(Nat->Nat)->World->Prop) (nn:Nat) (hnn:n<=nn) (hM: ∀ O' w,Y O' w->Md w M.mb M.tq M.tb M.pm/\MapF w M.pm nn (prF A)) (HL: ∀ w,Mn O n w M Q T root I A B->Calls Tryz.prog 66 #[pp P.pb,.agg (sq 15 k1 k2 k3 k4 k5 ad sz x k6 k7 k8 k9)] w fun e w'=>e=.returned (.int .i64 E)/\Tx O w Y w') :
 Calls Tryz.prog 36 #[pp M.mb,.int .i64 (i:Nat),.agg (sq 15 k1 k2 k3 k4 k5 ad sz x k6 k7 k8 k9)] W fun e w'=>e=.returned (.int .i64 E)/\Tx O W Y w':=by
 have HM:Hid (Mn O n W M Q T root I A B):=h
 have OB:Hid (∀ b,W.heap.size<=b->O b=0):=fun b hb=>bca fun hh=>by have:=h.lt b hh;omega
 have LC:Hid _:=HL
 have PL:Hid (∀ w:World,MapF w M.pm nn (prF A)->(Instr.lookup 53 (.map (some M.pm)) (.int .i64 (i:Nat)) false).run Tryz.prog w=.ok (pp P.pb) w):=fun w hw=>by
  have q:=hw.look (k:=((i:Nat):Int)) (wf64 (by omega) (by omega))
  rw [prF_nat,if_pos hi,hA] at q;exact q
 have YM:Hid _:=hM
 have NN:Hid (n<=nn):=hnn
 have G0:Hid (bc W (W.alloc (.cells (sq 15 k1 k2 k3 k4 k5 ad sz x k6 k7 k8 k9) 70))/\Blk (W.alloc (.cells (sq 15 k1 k2 k3 k4 k5 ad sz x k6 k7 k8 k9) 70)) W.heap.size (su 15 k1 k2 k3 k4 k5 ad sz x k6 k7 k8 k9) 70):=⟨baa,Blk.made _ _ _⟩
 clear h HL hi hA hM hnn
 go_enter Tryz.func36,Tryz.ntmps36
 go_upto_region 1 with fail
 generalize (W.alloc (.cells (sq 15 k1 k2 k3 k4 k5 ad sz x k6 k7 k8 k9) 70))=V at G0 |-
 obtain ⟨b1,hb1⟩: ∃ b1,b1=W.heap.size:=⟨_,rfl⟩
 have G1:Hid (bc W V/\Blk V b1 (su 15 k1 k2 k3 k4 k5 ad sz x k6 k7 k8 k9) 70):=kt1
 have NB:Hid (W.heap.size<=b1):=ks
 rw [<- hb1]
 clear hb1 G0
 have x0:V.cell? ⟨b1,0,none⟩=some (.int .i64 15):=G1.out.2.cell 0
 go_upto_region 18 with fail
 clear x0
 have BS:Hid (Md V M.mb M.tq M.tb M.pm/\MapF V M.pm nn (prF A)/\Blk V b1 (su 15 k1 k2 k3 k4 k5 ad sz x k6 k7 k8 k9) 70):=⟨(HM.out.below G1.out.1).mod,(HM.out.below G1.out.1).prm.mono NN.out,G1.out.2⟩
 refine hda (fun cw=>Md cw M.mb M.tq M.tb M.pm/\MapF cw M.pm nn (prF A)/\Blk cw b1 (su 15 k1 k2 k3 k4 k5 ad sz x k6 k7 k8 k9) 70) BS.out fun hHeld=> ?_
 have KU:Hid (bc W V.drew):=below_drew G1.out.1
 clear BS
 generalize V.drew=U at hHeld KU |-
 refine tma 0 56 rfl ?_
 refine tma 1 57 rfl ?_
 refine tma 2 58 rfl ?_
 refine tla 3 59 ((.map (some M.pm))) rfl ?_ ?_
 . exact k31
 refine tma 4 60 rfl ?_
 refine tla 5 61 (pp P.pb) rfl ?_ ?_
 . exact k41
 refine tla 6 62 (.agg (sq 15 k1 k2 k3 k4 k5 ad sz x k6 k7 k8 k9)) rfl ?_ ?_
 . exact k51
 refine rda 7 ⟨some 63,_,_,_,_,none⟩ rfl fun K hK=> ?_
 go_simp
 go_wp2_with (go_at_call 66;refine Calls.mono (LC.out _ (HM.out.below KU.out)) ?_;rintro e u1 ⟨rfl,hx⟩)
 have E1:Hid (Tx O W Y u1):=Tx.up KU.out hx
 obtain ⟨O1,hy1,eo1,_,ko1⟩:=hx
 have S1:Hid (Md u1 M.mb M.tq M.tb M.pm/\MapF u1 M.pm nn (prF A)/\Blk u1 b1 (su 15 k1 k2 k3 k4 k5 ad sz x k6 k7 k8 k9) 70):=⟨(YM.out _ _ hy1).1,(YM.out _ _ hy1).2,ko1.blk hHeld.2.2 (OB.out b1 NB.out)⟩
 refine hK.out _ _ S1.out ?_
 clear hK K hHeld eo1 ko1 hy1 S1 KU
 intro hHeld
 try simp only [Act.put,zaa,zba,zca]
 refine tma 8 6 rfl ?_
 clear hHeld
 refine wpAnyH_done kc ?_ _
 refine NoPanic.normal ?_
 go_wp2_with fail
 go_returns
 exact ⟨rfl,E1.out⟩
theorem Mn.change16 (h:Mn O n W M Q T root I A B) {i:Nat} {P:Pr} (hi:i<16) (hA:A i=some P) (k1 k2:Int) (k3 k4 k5:Bool) (ad sz x k6 k7 k8 k9:Int) (E:Int) (Y:(Nat->Nat)->World->Prop) (nn:Nat) (hnn:n<=nn) (hM: ∀ O' w,Y O' w->Md w M.mb M.tq M.tb M.pm/\MapF w M.pm nn (prF A)) (HL: ∀ w,Mn O n w M Q T root I A B->Calls Tryz.prog 66 #[pp P.pb,.agg (sq 16 k1 k2 k3 k4 k5 ad sz x k6 k7 k8 k9)] w fun e w'=>e=.returned (.int .i64 E)/\Tx O w Y w') :
 Calls Tryz.prog 36 #[pp M.mb,.int .i64 (i:Nat),.agg (sq 16 k1 k2 k3 k4 k5 ad sz x k6 k7 k8 k9)] W fun e w'=>e=.returned (.int .i64 E)/\Tx O W Y w':=by
 have HM:Hid (Mn O n W M Q T root I A B):=h
 have OB:Hid (∀ b,W.heap.size<=b->O b=0):=fun b hb=>bca fun hh=>by have:=h.lt b hh;omega
 have LC:Hid _:=HL
 have PL:Hid (∀ w:World,MapF w M.pm nn (prF A)->(Instr.lookup 53 (.map (some M.pm)) (.int .i64 (i:Nat)) false).run Tryz.prog w=.ok (pp P.pb) w):=fun w hw=>by
  have q:=hw.look (k:=((i:Nat):Int)) (wf64 (by omega) (by omega))
  rw [prF_nat,if_pos hi,hA] at q;exact q
 have YM:Hid _:=hM
 have NN:Hid (n<=nn):=hnn
 have G0:Hid (bc W (W.alloc (.cells (sq 16 k1 k2 k3 k4 k5 ad sz x k6 k7 k8 k9) 70))/\Blk (W.alloc (.cells (sq 16 k1 k2 k3 k4 k5 ad sz x k6 k7 k8 k9) 70)) W.heap.size (su 16 k1 k2 k3 k4 k5 ad sz x k6 k7 k8 k9) 70):=⟨baa,Blk.made _ _ _⟩
 clear h HL hi hA hM hnn
 go_enter Tryz.func36,Tryz.ntmps36
 go_upto_region 1 with fail
 generalize (W.alloc (.cells (sq 16 k1 k2 k3 k4 k5 ad sz x k6 k7 k8 k9) 70))=V at G0 |-
 obtain ⟨b1,hb1⟩: ∃ b1,b1=W.heap.size:=⟨_,rfl⟩
 have G1:Hid (bc W V/\Blk V b1 (su 16 k1 k2 k3 k4 k5 ad sz x k6 k7 k8 k9) 70):=kt1
 have NB:Hid (W.heap.size<=b1):=ks
 rw [<- hb1]
 clear hb1 G0
 have x0:V.cell? ⟨b1,0,none⟩=some (.int .i64 16):=G1.out.2.cell 0
 go_upto_region 18 with fail
 clear x0
 have BS:Hid (Md V M.mb M.tq M.tb M.pm/\MapF V M.pm nn (prF A)/\Blk V b1 (su 16 k1 k2 k3 k4 k5 ad sz x k6 k7 k8 k9) 70):=⟨(HM.out.below G1.out.1).mod,(HM.out.below G1.out.1).prm.mono NN.out,G1.out.2⟩
 refine hda (fun cw=>Md cw M.mb M.tq M.tb M.pm/\MapF cw M.pm nn (prF A)/\Blk cw b1 (su 16 k1 k2 k3 k4 k5 ad sz x k6 k7 k8 k9) 70) BS.out fun hHeld=> ?_
 have KU:Hid (bc W V.drew):=below_drew G1.out.1
 clear BS
 generalize V.drew=U at hHeld KU |-
 refine tma 0 56 rfl ?_
 refine tma 1 57 rfl ?_
 refine tma 2 58 rfl ?_
 refine tla 3 59 ((.map (some M.pm))) rfl ?_ ?_
 . exact k31
 refine tma 4 60 rfl ?_
 refine tla 5 61 (pp P.pb) rfl ?_ ?_
 . exact k41
 refine tla 6 62 (.agg (sq 16 k1 k2 k3 k4 k5 ad sz x k6 k7 k8 k9)) rfl ?_ ?_
 . exact k51
 refine rda 7 ⟨some 63,_,_,_,_,none⟩ rfl fun K hK=> ?_
 go_simp
 go_wp2_with (go_at_call 66;refine Calls.mono (LC.out _ (HM.out.below KU.out)) ?_;rintro e u1 ⟨rfl,hx⟩)
 have E1:Hid (Tx O W Y u1):=Tx.up KU.out hx
 obtain ⟨O1,hy1,eo1,_,ko1⟩:=hx
 have S1:Hid (Md u1 M.mb M.tq M.tb M.pm/\MapF u1 M.pm nn (prF A)/\Blk u1 b1 (su 16 k1 k2 k3 k4 k5 ad sz x k6 k7 k8 k9) 70):=⟨(YM.out _ _ hy1).1,(YM.out _ _ hy1).2,ko1.blk hHeld.2.2 (OB.out b1 NB.out)⟩
 refine hK.out _ _ S1.out ?_
 clear hK K hHeld eo1 ko1 hy1 S1 KU
 intro hHeld
 try simp only [Act.put,zaa,zba,zca]
 refine tma 8 6 rfl ?_
 clear hHeld
 refine wpAnyH_done kc ?_ _
 refine NoPanic.normal ?_
 go_wp2_with fail
 go_returns
 exact ⟨rfl,E1.out⟩
theorem Mn.change2 (h:Mn O n W M Q T root I A B) (i:Nat) (k1 k2:Int) (k3 k4 k5:Bool) (ad sz x k6 k7 k8 k9:Int) (E:Int) (Y:(Nat->Nat)->World->Prop) (HL: ∀ w,Mn O n w M Q T root I A B->Calls Tryz.prog 61 #[pp M.mb,.int .i64 (i:Nat),.agg (sq 2 k1 k2 k3 k4 k5 ad sz x k6 k7 k8 k9)] w fun e w'=>e=.returned (.int .i64 E)/\Tx O w Y w') :
 Calls Tryz.prog 36 #[pp M.mb,.int .i64 (i:Nat),.agg (sq 2 k1 k2 k3 k4 k5 ad sz x k6 k7 k8 k9)] W fun e w'=>e=.returned (.int .i64 E)/\Tx O W Y w':=by
 have HM:Hid (Mn O n W M Q T root I A B):=h
 have OB:Hid (∀ b,W.heap.size<=b->O b=0):=fun b hb=>bca fun hh=>by have:=h.lt b hh;omega
 have LC:Hid _:=HL
 have G0:Hid (bc W (W.alloc (.cells (sq 2 k1 k2 k3 k4 k5 ad sz x k6 k7 k8 k9) 70))/\Blk (W.alloc (.cells (sq 2 k1 k2 k3 k4 k5 ad sz x k6 k7 k8 k9) 70)) W.heap.size (su 2 k1 k2 k3 k4 k5 ad sz x k6 k7 k8 k9) 70):=⟨baa,Blk.made _ _ _⟩
 clear h HL
 go_enter Tryz.func36,Tryz.ntmps36
 go_upto_region 1 with fail
 generalize (W.alloc (.cells (sq 2 k1 k2 k3 k4 k5 ad sz x k6 k7 k8 k9) 70))=V at G0 |-
 obtain ⟨b1,hb1⟩: ∃ b1,b1=W.heap.size:=⟨_,rfl⟩
 have G1:Hid (bc W V/\Blk V b1 (su 2 k1 k2 k3 k4 k5 ad sz x k6 k7 k8 k9) 70):=kt1
 have NB:Hid (W.heap.size<=b1):=ks
 rw [<- hb1]
 clear hb1 G0
 have x0:V.cell? ⟨b1,0,none⟩=some (.int .i64 2):=G1.out.2.cell 0
 have x1:V.cell? ⟨b1,1,none⟩=some (.int .i64 k1):=G1.out.2.cell 1
 have x2:V.cell? ⟨b1,2,none⟩=some (.int .i64 k2):=G1.out.2.cell 2
 have x3:V.cell? ⟨b1,3,none⟩=some (.bool k3):=G1.out.2.cell 3
 have x4:V.cell? ⟨b1,4,none⟩=some (.bool k4):=G1.out.2.cell 4
 have x5:V.cell? ⟨b1,5,none⟩=some (.bool k5):=G1.out.2.cell 5
 have x6:V.cell? ⟨b1,6,none⟩=some (.int .u64 ad):=G1.out.2.cell 6
 have x7:V.cell? ⟨b1,7,none⟩=some (.int .i64 sz):=G1.out.2.cell 7
 have x8:V.cell? ⟨b1,8,none⟩=some (.int .u64 x):=G1.out.2.cell 8
 have x9:V.cell? ⟨b1,9,none⟩=some (.int .i64 k6):=G1.out.2.cell 9
 have x10:V.cell? ⟨b1,10,none⟩=some (.int .i64 k7):=G1.out.2.cell 10
 have x11:V.cell? ⟨b1,11,none⟩=some (.int .i64 k8):=G1.out.2.cell 11
 have x12:V.cell? ⟨b1,12,none⟩=some (.int .i64 k9):=G1.out.2.cell 12
 go_wp2_with fail
 refine Calls.mono (LC.out _ (HM.out.below G1.out.1)) ?_
 rintro e u ⟨rfl,hx⟩
 have HX:Hid (Tx O W Y u):=Tx.up G1.out.1 hx
 clear hx LC x0 x1 x2 x3 x4 x5 x6 x7 x8 x9 x10 x11 x12
 go_wp2_with fail
 go_returns
 exact ⟨rfl,HX.out⟩
theorem Mn.change3 (h:Mn O n W M Q T root I A B) (i:Nat) (k1 k2:Int) (k3 k4 k5:Bool) (ad sz x k6 k7 k8 k9:Int) (E:Int) (Y:(Nat->Nat)->World->Prop) (HL: ∀ w,Mn O n w M Q T root I A B->Calls Tryz.prog 62 #[pp M.mb,.int .i64 (i:Nat),.agg (sq 3 k1 k2 k3 k4 k5 ad sz x k6 k7 k8 k9)] w fun e w'=>e=.returned (.int .i64 E)/\Tx O w Y w') :
 Calls Tryz.prog 36 #[pp M.mb,.int .i64 (i:Nat),.agg (sq 3 k1 k2 k3 k4 k5 ad sz x k6 k7 k8 k9)] W fun e w'=>e=.returned (.int .i64 E)/\Tx O W Y w':=by
 have HM:Hid (Mn O n W M Q T root I A B):=h
 have OB:Hid (∀ b,W.heap.size<=b->O b=0):=fun b hb=>bca fun hh=>by have:=h.lt b hh;omega
 have LC:Hid _:=HL
 have G0:Hid (bc W (W.alloc (.cells (sq 3 k1 k2 k3 k4 k5 ad sz x k6 k7 k8 k9) 70))/\Blk (W.alloc (.cells (sq 3 k1 k2 k3 k4 k5 ad sz x k6 k7 k8 k9) 70)) W.heap.size (su 3 k1 k2 k3 k4 k5 ad sz x k6 k7 k8 k9) 70):=⟨baa,Blk.made _ _ _⟩
 clear h HL
 go_enter Tryz.func36,Tryz.ntmps36
 go_upto_region 1 with fail
 generalize (W.alloc (.cells (sq 3 k1 k2 k3 k4 k5 ad sz x k6 k7 k8 k9) 70))=V at G0 |-
 obtain ⟨b1,hb1⟩: ∃ b1,b1=W.heap.size:=⟨_,rfl⟩
 have G1:Hid (bc W V/\Blk V b1 (su 3 k1 k2 k3 k4 k5 ad sz x k6 k7 k8 k9) 70):=kt1
 have NB:Hid (W.heap.size<=b1):=ks
 rw [<- hb1]
 clear hb1 G0
 have x0:V.cell? ⟨b1,0,none⟩=some (.int .i64 3):=G1.out.2.cell 0
 have x1:V.cell? ⟨b1,1,none⟩=some (.int .i64 k1):=G1.out.2.cell 1
 have x2:V.cell? ⟨b1,2,none⟩=some (.int .i64 k2):=G1.out.2.cell 2
 have x3:V.cell? ⟨b1,3,none⟩=some (.bool k3):=G1.out.2.cell 3
 have x4:V.cell? ⟨b1,4,none⟩=some (.bool k4):=G1.out.2.cell 4
 have x5:V.cell? ⟨b1,5,none⟩=some (.bool k5):=G1.out.2.cell 5
 have x6:V.cell? ⟨b1,6,none⟩=some (.int .u64 ad):=G1.out.2.cell 6
 have x7:V.cell? ⟨b1,7,none⟩=some (.int .i64 sz):=G1.out.2.cell 7
 have x8:V.cell? ⟨b1,8,none⟩=some (.int .u64 x):=G1.out.2.cell 8
 have x9:V.cell? ⟨b1,9,none⟩=some (.int .i64 k6):=G1.out.2.cell 9
 have x10:V.cell? ⟨b1,10,none⟩=some (.int .i64 k7):=G1.out.2.cell 10
 have x11:V.cell? ⟨b1,11,none⟩=some (.int .i64 k8):=G1.out.2.cell 11
 have x12:V.cell? ⟨b1,12,none⟩=some (.int .i64 k9):=G1.out.2.cell 12
 go_wp2_with fail
 refine Calls.mono (LC.out _ (HM.out.below G1.out.1)) ?_
 rintro e u ⟨rfl,hx⟩
 have HX:Hid (Tx O W Y u):=Tx.up G1.out.1 hx
 clear hx LC x0 x1 x2 x3 x4 x5 x6 x7 x8 x9 x10 x11 x12
 go_wp2_with fail
 go_returns
 exact ⟨rfl,HX.out⟩
theorem Mn.change7 (h:Mn O n W M Q T root I A B) (i:Nat) (k1 k2:Int) (k3 k4 k5:Bool) (ad sz x k6 k7 k8 k9:Int) (E:Int) (Y:(Nat->Nat)->World->Prop) (HL: ∀ w,Mn O n w M Q T root I A B->Calls Tryz.prog 63 #[pp M.mb,.int .i64 (i:Nat),.agg (sq 7 k1 k2 k3 k4 k5 ad sz x k6 k7 k8 k9)] w fun e w'=>e=.returned (.int .i64 E)/\Tx O w Y w') :
 Calls Tryz.prog 36 #[pp M.mb,.int .i64 (i:Nat),.agg (sq 7 k1 k2 k3 k4 k5 ad sz x k6 k7 k8 k9)] W fun e w'=>e=.returned (.int .i64 E)/\Tx O W Y w':=by
 have HM:Hid (Mn O n W M Q T root I A B):=h
 have OB:Hid (∀ b,W.heap.size<=b->O b=0):=fun b hb=>bca fun hh=>by have:=h.lt b hh;omega
 have LC:Hid _:=HL
 have G0:Hid (bc W (W.alloc (.cells (sq 7 k1 k2 k3 k4 k5 ad sz x k6 k7 k8 k9) 70))/\Blk (W.alloc (.cells (sq 7 k1 k2 k3 k4 k5 ad sz x k6 k7 k8 k9) 70)) W.heap.size (su 7 k1 k2 k3 k4 k5 ad sz x k6 k7 k8 k9) 70):=⟨baa,Blk.made _ _ _⟩
 clear h HL
 go_enter Tryz.func36,Tryz.ntmps36
 go_upto_region 1 with fail
 generalize (W.alloc (.cells (sq 7 k1 k2 k3 k4 k5 ad sz x k6 k7 k8 k9) 70))=V at G0 |-
 obtain ⟨b1,hb1⟩: ∃ b1,b1=W.heap.size:=⟨_,rfl⟩
 have G1:Hid (bc W V/\Blk V b1 (su 7 k1 k2 k3 k4 k5 ad sz x k6 k7 k8 k9) 70):=kt1
 have NB:Hid (W.heap.size<=b1):=ks
 rw [<- hb1]
 clear hb1 G0
 have x0:V.cell? ⟨b1,0,none⟩=some (.int .i64 7):=G1.out.2.cell 0
 have x1:V.cell? ⟨b1,1,none⟩=some (.int .i64 k1):=G1.out.2.cell 1
 have x2:V.cell? ⟨b1,2,none⟩=some (.int .i64 k2):=G1.out.2.cell 2
 have x3:V.cell? ⟨b1,3,none⟩=some (.bool k3):=G1.out.2.cell 3
 have x4:V.cell? ⟨b1,4,none⟩=some (.bool k4):=G1.out.2.cell 4
 have x5:V.cell? ⟨b1,5,none⟩=some (.bool k5):=G1.out.2.cell 5
 have x6:V.cell? ⟨b1,6,none⟩=some (.int .u64 ad):=G1.out.2.cell 6
 have x7:V.cell? ⟨b1,7,none⟩=some (.int .i64 sz):=G1.out.2.cell 7
 have x8:V.cell? ⟨b1,8,none⟩=some (.int .u64 x):=G1.out.2.cell 8
 have x9:V.cell? ⟨b1,9,none⟩=some (.int .i64 k6):=G1.out.2.cell 9
 have x10:V.cell? ⟨b1,10,none⟩=some (.int .i64 k7):=G1.out.2.cell 10
 have x11:V.cell? ⟨b1,11,none⟩=some (.int .i64 k8):=G1.out.2.cell 11
 have x12:V.cell? ⟨b1,12,none⟩=some (.int .i64 k9):=G1.out.2.cell 12
 go_wp2_with fail
 refine Calls.mono (LC.out _ (HM.out.below G1.out.1)) ?_
 rintro e u ⟨rfl,hx⟩
 have HX:Hid (Tx O W Y u):=Tx.up G1.out.1 hx
 clear hx LC x0 x1 x2 x3 x4 x5 x6 x7 x8 x9 x10 x11 x12
 go_wp2_with fail
 go_returns
 exact ⟨rfl,HX.out⟩
theorem Mn.change8 (h:Mn O n W M Q T root I A B) (i:Nat) (k1 k2:Int) (k3 k4 k5:Bool) (ad sz x k6 k7 k8 k9:Int) (E:Int) (Y:(Nat->Nat)->World->Prop) (HL: ∀ w,Mn O n w M Q T root I A B->Calls Tryz.prog 64 #[pp M.mb,.int .i64 (i:Nat),.agg (sq 8 k1 k2 k3 k4 k5 ad sz x k6 k7 k8 k9)] w fun e w'=>e=.returned (.int .i64 E)/\Tx O w Y w') :
 Calls Tryz.prog 36 #[pp M.mb,.int .i64 (i:Nat),.agg (sq 8 k1 k2 k3 k4 k5 ad sz x k6 k7 k8 k9)] W fun e w'=>e=.returned (.int .i64 E)/\Tx O W Y w':=by
 have HM:Hid (Mn O n W M Q T root I A B):=h
 have OB:Hid (∀ b,W.heap.size<=b->O b=0):=fun b hb=>bca fun hh=>by have:=h.lt b hh;omega
 have LC:Hid _:=HL
 have G0:Hid (bc W (W.alloc (.cells (sq 8 k1 k2 k3 k4 k5 ad sz x k6 k7 k8 k9) 70))/\Blk (W.alloc (.cells (sq 8 k1 k2 k3 k4 k5 ad sz x k6 k7 k8 k9) 70)) W.heap.size (su 8 k1 k2 k3 k4 k5 ad sz x k6 k7 k8 k9) 70):=⟨baa,Blk.made _ _ _⟩
 clear h HL
 go_enter Tryz.func36,Tryz.ntmps36
 go_upto_region 1 with fail
 generalize (W.alloc (.cells (sq 8 k1 k2 k3 k4 k5 ad sz x k6 k7 k8 k9) 70))=V at G0 |-
 obtain ⟨b1,hb1⟩: ∃ b1,b1=W.heap.size:=⟨_,rfl⟩
 have G1:Hid (bc W V/\Blk V b1 (su 8 k1 k2 k3 k4 k5 ad sz x k6 k7 k8 k9) 70):=kt1
 have NB:Hid (W.heap.size<=b1):=ks
 rw [<- hb1]
 clear hb1 G0
 have x0:V.cell? ⟨b1,0,none⟩=some (.int .i64 8):=G1.out.2.cell 0
 have x1:V.cell? ⟨b1,1,none⟩=some (.int .i64 k1):=G1.out.2.cell 1
 have x2:V.cell? ⟨b1,2,none⟩=some (.int .i64 k2):=G1.out.2.cell 2
 have x3:V.cell? ⟨b1,3,none⟩=some (.bool k3):=G1.out.2.cell 3
 have x4:V.cell? ⟨b1,4,none⟩=some (.bool k4):=G1.out.2.cell 4
 have x5:V.cell? ⟨b1,5,none⟩=some (.bool k5):=G1.out.2.cell 5
 have x6:V.cell? ⟨b1,6,none⟩=some (.int .u64 ad):=G1.out.2.cell 6
 have x7:V.cell? ⟨b1,7,none⟩=some (.int .i64 sz):=G1.out.2.cell 7
 have x8:V.cell? ⟨b1,8,none⟩=some (.int .u64 x):=G1.out.2.cell 8
 have x9:V.cell? ⟨b1,9,none⟩=some (.int .i64 k6):=G1.out.2.cell 9
 have x10:V.cell? ⟨b1,10,none⟩=some (.int .i64 k7):=G1.out.2.cell 10
 have x11:V.cell? ⟨b1,11,none⟩=some (.int .i64 k8):=G1.out.2.cell 11
 have x12:V.cell? ⟨b1,12,none⟩=some (.int .i64 k9):=G1.out.2.cell 12
 go_wp2_with fail
 refine Calls.mono (LC.out _ (HM.out.below G1.out.1)) ?_
 rintro e u ⟨rfl,hx⟩
 have HX:Hid (Tx O W Y u):=Tx.up G1.out.1 hx
 clear hx LC x0 x1 x2 x3 x4 x5 x6 x7 x8 x9 x10 x11 x12
 go_wp2_with fail
 go_returns
 exact ⟨rfl,HX.out⟩
theorem Mn.change9 (h:Mn O n W M Q T root I A B) (i:Nat) (k1 k2:Int) (k3 k4 k5:Bool) (ad sz x k6 k7 k8 k9:Int) (E:Int) (Y:(Nat->Nat)->World->Prop) (HL: ∀ w,Mn O n w M Q T root I A B->Calls Tryz.prog 64 #[pp M.mb,.int .i64 (i:Nat),.agg (sq 9 k1 k2 k3 k4 k5 ad sz x k6 k7 k8 k9)] w fun e w'=>e=.returned (.int .i64 E)/\Tx O w Y w') :
 Calls Tryz.prog 36 #[pp M.mb,.int .i64 (i:Nat),.agg (sq 9 k1 k2 k3 k4 k5 ad sz x k6 k7 k8 k9)] W fun e w'=>e=.returned (.int .i64 E)/\Tx O W Y w':=by
 have HM:Hid (Mn O n W M Q T root I A B):=h
 have OB:Hid (∀ b,W.heap.size<=b->O b=0):=fun b hb=>bca fun hh=>by have:=h.lt b hh;omega
 have LC:Hid _:=HL
 have G0:Hid (bc W (W.alloc (.cells (sq 9 k1 k2 k3 k4 k5 ad sz x k6 k7 k8 k9) 70))/\Blk (W.alloc (.cells (sq 9 k1 k2 k3 k4 k5 ad sz x k6 k7 k8 k9) 70)) W.heap.size (su 9 k1 k2 k3 k4 k5 ad sz x k6 k7 k8 k9) 70):=⟨baa,Blk.made _ _ _⟩
 clear h HL
 go_enter Tryz.func36,Tryz.ntmps36
 go_upto_region 1 with fail
 generalize (W.alloc (.cells (sq 9 k1 k2 k3 k4 k5 ad sz x k6 k7 k8 k9) 70))=V at G0 |-
 obtain ⟨b1,hb1⟩: ∃ b1,b1=W.heap.size:=⟨_,rfl⟩
 have G1:Hid (bc W V/\Blk V b1 (su 9 k1 k2 k3 k4 k5 ad sz x k6 k7 k8 k9) 70):=kt1
 have NB:Hid (W.heap.size<=b1):=ks
 rw [<- hb1]
 clear hb1 G0
 have x0:V.cell? ⟨b1,0,none⟩=some (.int .i64 9):=G1.out.2.cell 0
 have x1:V.cell? ⟨b1,1,none⟩=some (.int .i64 k1):=G1.out.2.cell 1
 have x2:V.cell? ⟨b1,2,none⟩=some (.int .i64 k2):=G1.out.2.cell 2
 have x3:V.cell? ⟨b1,3,none⟩=some (.bool k3):=G1.out.2.cell 3
 have x4:V.cell? ⟨b1,4,none⟩=some (.bool k4):=G1.out.2.cell 4
 have x5:V.cell? ⟨b1,5,none⟩=some (.bool k5):=G1.out.2.cell 5
 have x6:V.cell? ⟨b1,6,none⟩=some (.int .u64 ad):=G1.out.2.cell 6
 have x7:V.cell? ⟨b1,7,none⟩=some (.int .i64 sz):=G1.out.2.cell 7
 have x8:V.cell? ⟨b1,8,none⟩=some (.int .u64 x):=G1.out.2.cell 8
 have x9:V.cell? ⟨b1,9,none⟩=some (.int .i64 k6):=G1.out.2.cell 9
 have x10:V.cell? ⟨b1,10,none⟩=some (.int .i64 k7):=G1.out.2.cell 10
 have x11:V.cell? ⟨b1,11,none⟩=some (.int .i64 k8):=G1.out.2.cell 11
 have x12:V.cell? ⟨b1,12,none⟩=some (.int .i64 k9):=G1.out.2.cell 12
 go_wp2_with fail
 refine Calls.mono (LC.out _ (HM.out.below G1.out.1)) ?_
 rintro e u ⟨rfl,hx⟩
 have HX:Hid (Tx O W Y u):=Tx.up G1.out.1 hx
 clear hx LC x0 x1 x2 x3 x4 x5 x6 x7 x8 x9 x10 x11 x12
 go_wp2_with fail
 go_returns
 exact ⟨rfl,HX.out⟩
theorem Mn.change13 (h:Mn O n W M Q T root I A B) (i:Nat) (k1 k2:Int) (k3 k4 k5:Bool) (ad sz x k6 k7 k8 k9:Int) (E:Int) (Y:(Nat->Nat)->World->Prop) (HL: ∀ w,Mn O n w M Q T root I A B->Calls Tryz.prog 65 #[pp M.mb,.int .i64 (i:Nat)] w fun e w'=>e=.returned (.int .i64 E)/\Tx O w Y w') :
 Calls Tryz.prog 36 #[pp M.mb,.int .i64 (i:Nat),.agg (sq 13 k1 k2 k3 k4 k5 ad sz x k6 k7 k8 k9)] W fun e w'=>e=.returned (.int .i64 E)/\Tx O W Y w':=by
 have HM:Hid (Mn O n W M Q T root I A B):=h
 have OB:Hid (∀ b,W.heap.size<=b->O b=0):=fun b hb=>bca fun hh=>by have:=h.lt b hh;omega
 have LC:Hid _:=HL
 have G0:Hid (bc W (W.alloc (.cells (sq 13 k1 k2 k3 k4 k5 ad sz x k6 k7 k8 k9) 70))/\Blk (W.alloc (.cells (sq 13 k1 k2 k3 k4 k5 ad sz x k6 k7 k8 k9) 70)) W.heap.size (su 13 k1 k2 k3 k4 k5 ad sz x k6 k7 k8 k9) 70):=⟨baa,Blk.made _ _ _⟩
 clear h HL
 go_enter Tryz.func36,Tryz.ntmps36
 go_upto_region 1 with fail
 generalize (W.alloc (.cells (sq 13 k1 k2 k3 k4 k5 ad sz x k6 k7 k8 k9) 70))=V at G0 |-
 obtain ⟨b1,hb1⟩: ∃ b1,b1=W.heap.size:=⟨_,rfl⟩
 have G1:Hid (bc W V/\Blk V b1 (su 13 k1 k2 k3 k4 k5 ad sz x k6 k7 k8 k9) 70):=kt1
 have NB:Hid (W.heap.size<=b1):=ks
 rw [<- hb1]
 clear hb1 G0
 have x0:V.cell? ⟨b1,0,none⟩=some (.int .i64 13):=G1.out.2.cell 0
 go_wp2_with fail
 refine Calls.mono (LC.out _ (HM.out.below G1.out.1)) ?_
 rintro e u ⟨rfl,hx⟩
 have HX:Hid (Tx O W Y u):=Tx.up G1.out.1 hx
 clear hx LC x0
 go_wp2_with fail
 go_returns
 exact ⟨rfl,HX.out⟩
theorem Mn.change14 (h:Mn O n W M Q T root I A B) (i:Nat) (k1 k2:Int) (k3 k4 k5:Bool) (ad sz x k6 k7 k8 k9:Int) :
 Calls Tryz.prog 36 #[pp M.mb,.int .i64 (i:Nat),.agg (sq 14 k1 k2 k3 k4 k5 ad sz x k6 k7 k8 k9)] W fun e w'=>e=.returned (.int .i64 0)/\Tx O W (fun O' V=>Mn O' n V M (Ca.yldS Q) T root I A B) w':=by
 have HL: ∀ w,Mn O n w M Q T root I A B->Calls Tryz.prog 37 #[pp M.tq] w fun e w'=>e=.returned (.tuple #[])/\Ca.IsQ w' M.tq (Ca.yldS Q)/\Ca.Kb M.tq w w':=fun w hw=>Ca.yld_any M.tq Q w hw.que
 have HM:Hid (Mn O n W M Q T root I A B):=h
 have OB:Hid (∀ b,W.heap.size<=b->O b=0):=fun b hb=>bca fun hh=>by have:=h.lt b hh;omega
 have LC:Hid _:=HL
 have G0:Hid (bc W (W.alloc (.cells (sq 14 k1 k2 k3 k4 k5 ad sz x k6 k7 k8 k9) 70))/\Blk (W.alloc (.cells (sq 14 k1 k2 k3 k4 k5 ad sz x k6 k7 k8 k9) 70)) W.heap.size (su 14 k1 k2 k3 k4 k5 ad sz x k6 k7 k8 k9) 70):=⟨baa,Blk.made _ _ _⟩
 clear h HL
 go_enter Tryz.func36,Tryz.ntmps36
 go_upto_region 1 with fail
 generalize (W.alloc (.cells (sq 14 k1 k2 k3 k4 k5 ad sz x k6 k7 k8 k9) 70))=V at G0 |-
 obtain ⟨b1,hb1⟩: ∃ b1,b1=W.heap.size:=⟨_,rfl⟩
 have G1:Hid (bc W V/\Blk V b1 (su 14 k1 k2 k3 k4 k5 ad sz x k6 k7 k8 k9) 70):=kt1
 have NB:Hid (W.heap.size<=b1):=ks
 rw [<- hb1]
 clear hb1 G0
 have x0:V.cell? ⟨b1,0,none⟩=some (.int .i64 14):=G1.out.2.cell 0
 have M1:Hid (Mn O n V M Q T root I A B):=HM.out.below G1.out.1
 have m0:V.cell? ⟨M.mb,0,none⟩=some (pp M.tq):=M1.out.mod.1
 go_wp2_with fail
 refine Calls.mono (LC.out _ M1.out) ?_
 rintro e u ⟨rfl,hq,hk⟩
 have MT:=M1.out.queue hq hk
 have HX:Hid (Tx O W (fun O' V=>Mn O' n V M (Ca.yldS Q) T root I A B) u):=Tx.up G1.out.1 ⟨O,MT.1,fun _ _=>rfl,MT.1.lt,MT.2⟩
 clear MT hq hk LC x0 m0
 go_wp2_with fail
 go_returns
 exact ⟨rfl,HX.out⟩
end
end Go.Proofs.YtokpmclmdobgeaaGreat.Fl
