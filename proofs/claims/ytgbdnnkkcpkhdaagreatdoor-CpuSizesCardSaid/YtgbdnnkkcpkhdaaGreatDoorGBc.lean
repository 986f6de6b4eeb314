import Derived.Test.YtgbdnnkkcpkhdaaGreatDoorG6c
import Derived.Test.YtgbdnnkkcpkhdaaGreatDoorG7c
import Derived.Test.YtgbdnnkkcpkhdaaGreatDoorG8c
import Derived.Test.YtgbdnnkkcpkhdaaGreatDoorKZc
set_option linter.unusedSimpArgs false
set_option linter.unusedVariables false
set_option maxRecDepth 8000
set_option maxHeartbeats 8000000
namespace Go.Proofs.YtgbdnnkkcpkhdaaGreatDoor.Re
open Go.ChangeShapes Go.WideShapes Go.ChangeAt Go.RowKit Go.Maps
theorem good_at {L:List Rg} (h:goodB L=true):L.length<=64/\ ∀ i,i<L.length->(0<=(L.getD i Rg.zero).fr/\(L.getD i Rg.zero).fr<(L.getD i Rg.zero).tt/\(L.getD i Rg.zero).tt<=34359738368)/\(i+1<L.length->(L.getD i Rg.zero).tt<=(L.getD (i+1) Rg.zero).fr/\(L.getD i Rg.zero).joins (L.getD (i+1) Rg.zero)=false):=by
 unfold goodB at h
 rw [Bool.and_eq_true,allB_iff] at h
 obtain ⟨h1,h2⟩:=h
 have e: ∀ i,i<L.length->endAt L i<=(L.getD i Rg.zero).fr/\(L.getD i Rg.zero).fr<(L.getD i Rg.zero).tt/\(L.getD i Rg.zero).tt<=34359738368/\jnAt L i=false:=fun i hi=>by
  have:=h2 i hi
  unfold okAt okR at this
  generalize L.getD i Rg.zero=rr at this |-
  simp at this
  obtain ⟨⟨a,b,c⟩,d⟩:=this
  exact ⟨by omega,by omega,by omega,by simpa using d⟩
 have z: ∀ i,i<L.length->0<=(L.getD i Rg.zero).fr:=by
  intro i
  induction i with
  | zero => intro hi; have := (e 0 hi).1; exact this
  | succ n ih =>
   intro hi
   have q:=ih (by omega)
   have a:=e n (by omega)
   have b:=(e (n+1) hi).1
   have:endAt L (n+1)=(L.getD n Rg.zero).tt:=rfl
   omega
 refine ⟨by simpa using h1,fun i hi=>⟨⟨z i hi,(e i hi).2.1,(e i hi).2.2.1⟩,fun hj=>⟨(e (i+1) hj).1,(e (i+1) hj).2.2.2⟩⟩⟩
theorem good_num {L:List Rg} (h:goodB L=true):NumL L:=fun k hk=>by
 have:=((good_at h).2 k hk).1
 exact ⟨by omega,by omega⟩
theorem check_zero {L:List Rg} {f t:Int} (h:checkN L f t=0):rightB f t=true/\goodB L=true:=by
 unfold checkN at h
 by_cases a:rightB f t=true
 . rw [if_pos a] at h
   by_cases b:goodB L=true
   . exact ⟨a,b⟩
   . rw [if_neg b] at h;omega
 . rw [if_neg a] at h;omega
def lowR (f:Int) (r:Rg):Bool:=decide (r.tt<=f)
def aheadN (L:List Rg) (f:Int):Nat:=(L.takeWhile (lowR f)).length
theorem ahead_is (f:Int): ∀ (L:List Rg) (k:Nat),k<=L.length->(∀ j,j<k->(L.getD j Rg.zero).tt<=f)->(k=L.length\/f<(L.getD k Rg.zero).tt)->aheadN L f=k
 | [], k, h, _, _ => by
  have:k=0:=by simpa using h
  subst this;rfl
 | r :: l, 0, _, _, h => by
  rcases h with h | h
  . simp at h
  . have: ¬ (r.tt<=f):=by have:=h;simp [List.getD] at this;omega
    unfold aheadN;rw [List.takeWhile_cons_of_neg (by unfold lowR;simpa using this)];rfl
 | r :: l, k + 1, hk, hj, h => by
  have h0:r.tt<=f:=by have:=hj 0 (by omega);simpa [List.getD] using this
  unfold aheadN
  rw [List.takeWhile_cons_of_pos (by unfold lowR;simpa using h0),List.length_cons]
  congr 1
  refine ahead_is f l k (by simpa using hk) (fun j q=>by have:=hj (j+1) (by omega);simpa [List.getD] using this) ?_
  rcases h with h | h
  . left;simpa using h
  . right;simpa [List.getD] using h
def preL (M:List Rg) (L:List Rg):List Rg:=L.foldl withL M
theorem pre_next (M L:List Rg) (m:Nat) (h:m<L.length):preL M (L.take (m+1))=withL (preL M (L.take m)) (L.getD m Rg.zero):=by
 unfold preL;rw [takeR_next L m h,List.foldl_append];rfl
theorem pre_len (M L:List Rg): ∀ m,m<=L.length->(preL M (L.take m)).length<=M.length+m
 | 0, _ => by simp [preL]
 | m + 1, h => by
  rw [pre_next M L m (by omega)]
  have h1:=pre_len M L m (by omega)
  have h2:=withL_len (preL M (L.take m)) (L.getD m Rg.zero)
  omega
def addL (L:List Rg) (r:Rg):List Rg:=preL (withL (preL [] (L.take (aheadN L r.fr))) r) (L.drop (aheadN L r.fr))
def addN (L:List Rg) (r:Rg):Int:=if checkN L r.fr r.tt=0 then (if 0<cntR r.fr r.tt L then 6 else 0) else checkN L r.fr r.tt
end Go.Proofs.YtgbdnnkkcpkhdaaGreatDoor.Re
namespace Go.Proofs.YtgbdnnkkcpkhdaaGreatDoor.Re
abbrev Att:=Bool × Bool × Bool × Int
def Rg.att (r:Rg):Att:=(r.w,r.u,r.x,r.kd)
def Can (e:Int):List Rg->Prop
 | [] => True
 | r :: l => (e ≤ r.fr ∧ r.fr < r.tt) ∧ Can r.tt l ∧ ∀ c, l.head? = some c → r.joins c = false
def Rg.pg (r:Rg) (x:Int):Option Att:=if r.fr<=x/\x<r.tt then some r.att else none
end Go.Proofs.YtgbdnnkkcpkhdaaGreatDoor.Re
namespace Go.Proofs.YtgbdnnkkcpkhdaaGreatDoor.Re
open Go.ChangeShapes Go.WideShapes Go.ChangeAt Go.RowKit Go.Maps
def Ans (w':World) (base:Nat) (v:Value) (er:Int) (E:Int) (M:List Rg):Prop:=(E≠0/\er=E/\v=.slice none 0 0)\/(E=0/\Res w' base v er M)
theorem add_any (base:Nat) (p:Option Addr) (c:Nat) (L:List Rg) (hL:L.length<=100) (hc:L.length<=c) (r:Rg) (w:World) (h:IsL w base p L) :
 Calls Tryz.prog 14 #[.slice p L.length c,r.val] w fun e w'=> ∃ v er,e=.returned (.tuple #[v,.int .i64 er])/\Ans w' w.heap.size v er (addN L r) (addL L r)/\bc w w':=by
 have HI:Hid (IsL w base p L):=h
 obtain ⟨r1,r2,r3,r4,r5,r6⟩:=r
 have CK:Hid (∀ W:World,IsL W base p L->Calls Tryz.prog 25 #[.slice p L.length c,rgV r1 r2] W (re (.int .i64 (checkN L r1 r2)) W)):=fun W h=>check_any base p c L hL r1 r2 W h
 have CNH:Hid (checkN L r1 r2=0-> ∀ W:World,IsL W base p L->Calls Tryz.prog 26 #[.slice p L.length c,rgV r1 r2] W (re (.int .i64 (cntR r1 r2 L)) W)):=fun q W h=>count_any base p c L hL (good_num (check_zero q).2) r1 r2 W h
 have WI:Hid (∀ (base:Nat) (v:Value) (M:List Rg),M.length<=1000-> ∀ (r:Rg) (W:World),base<=W.heap.size->OwnL W base v M->Calls Tryz.prog 27 #[v,r.val] W fun e w'=> ∃ v',e=.returned v'/\OwnL w' base v' (withL M r)/\WithK W w' v v'):=fun base v M hM r W hW ho=>with_any base v M hM r W hW ho
 have FY:Hid (∀ (q:Option Addr) (n d:Nat),n<=64-> ∀ W:World,Calls Tryz.prog 28 #[.slice q n d] W (re (.tuple #[.slice q n d,.int .i64 0]) W)):=fun q n d hn W=>few_yes q n d hn W
 have FN:Hid (∀ (q:Option Addr) (n d:Nat),64<n->n<=1000-> ∀ W:World,Calls Tryz.prog 28 #[.slice q n d] W (re (.tuple #[.slice none 0 0,.int .i64 4]) W)):=fun q n d hn hm W=>few_no q n d hn hm W
 have EP:Hid (addN L ⟨r1,r2,r3,r4,r5,r6⟩=if checkN L r1 r2=0 then (if 0<cntR r1 r2 L then 6 else 0) else checkN L r1 r2):=rfl
 obtain ⟨E,hE⟩: ∃ E,checkN L r1 r2=E:=⟨_,rfl⟩
 obtain ⟨N,hN⟩: ∃ N,cntR r1 r2 L=N:=⟨_,rfl⟩
 obtain ⟨EE,hEE⟩: ∃ x,addN L ⟨r1,r2,r3,r4,r5,r6⟩=x:=⟨_,rfl⟩
 obtain ⟨MM,hMM⟩: ∃ x,addL L ⟨r1,r2,r3,r4,r5,r6⟩=x:=⟨_,rfl⟩
 rw [hE] at CK EP CNH
 rw [hN] at EP CNH
 rw [hEE] at EP |-
 rw [hMM]
 have HM:Hid (addL L ⟨r1,r2,r3,r4,r5,r6⟩=MM):=hMM
 clear hE hN hEE hMM h
 by_cases cz:E=0
 rotate_left
 . have eb:(E==0)=false:=by simp [cz]
   have ee:EE=E:=by rw [EP.out,if_neg cz]
   subst ee
   have A1:Hid (∀ W:World,Ans W w.heap.size (.slice none 0 0) EE EE MM):=fun W=>Or.inl ⟨cz,rfl,rfl⟩
   clear cz EP CNH
   go_enter Tryz.func14,Tryz.ntmps14
   go_wp2_with fail
   refine (CK.out _ (HI.out.below baa)).mono ?_
   rintro e u1 ⟨rfl,hb1⟩
   have B1:Hid (bc w u1):=below_then baa hb1
   clear hb1
   go_wp2_with fail
   go_returns
   exact ⟨.slice none 0 0,EE,rfl,A1.out _,B1.out⟩
 subst cz
 have CN:Hid _:=CNH.out rfl
 have EQ:Hid (EE=if 0<N then 6 else 0):=by
  have:=EP.out
  rw [if_pos rfl] at this;exact this
 clear CNH EP
 go_enter Tryz.func14,Tryz.ntmps14
 go_wp2_with fail
 refine (CK.out _ (HI.out.below baa)).mono ?_
 rintro e u1 ⟨rfl,hb1⟩
 have F1:Hid (u1.heap[w.heap.size]? =some (.cells (sr r1 r2 r3 r4 r5 r6) 75 (0,0))):=(hb1.block _ (by simp)).trans (own1 w _)
 have b0:u1.cell? ⟨w.heap.size,0,none⟩=some (.int .i64 r1):=Go.Joins.cell_of_block F1.out 0
 have b1:u1.cell? ⟨w.heap.size,1,none⟩=some (.int .i64 r2):=Go.Joins.cell_of_block F1.out 1
 have lw:w.heap.size<u1.heap.size:=blk_lt F1.out
 have B1:Hid (bc w u1):=below_then baa hb1
 clear hb1
 go_wp2_with fail
 refine (CN.out _ (HI.out.below B1.out)).mono ?_
 rintro e u2 ⟨rfl,hb2⟩
 have F2:Hid (u2.heap[w.heap.size]? =some (.cells (sr r1 r2 r3 r4 r5 r6) 75 (0,0))):=(hb2.block _ lw).trans F1.out
 have B2:Hid (bc w u2):=below_then B1.out hb2
 clear hb2 b0 b1 lw F1 B1 CN CK
 by_cases cn:0<N
 . have e6:EE=6:=by rw [EQ.out,if_pos cn]
   subst e6
   have A1:Hid (∀ W:World,Ans W w.heap.size (.slice none 0 0) 6 6 MM):=fun W=>Or.inl ⟨by omega,rfl,rfl⟩
   have dn:decide (0<N)=true:=by simp [cn]
   go_wp2_with fail
   go_returns
   exact ⟨.slice none 0 0,6,rfl,A1.out _,B2.out⟩
 have e6:EE=0:=by rw [EQ.out,if_neg cn]
 subst e6
 have dn:decide (0<N)=false:=kh
 clear EQ cn
 have LO:Hid (LowL u2 u2.heap.size p L):=(HI.out.below B2.out).lowl (Nat.le_refl _)
 have lw2:w.heap.size<u2.heap.size:=blk_lt F2.out
 obtain ⟨b,hb⟩: ∃ b,u2.heap.size=b:=⟨_,rfl⟩
 rw [hb] at LO lw2
 have HB:Hid (u2.heap.size=b):=hb
 clear hb HI
 go_wp2_with fail
 go_loopw [7,8] (fun v x W=> ∃ k:Nat,k<=L.length/\x=.int .i64 k/\Hid (OwnL W b v (preL [] (L.take k)))/\Hid (Below b u2 W)/\Hid (∀ j,j<k->(L.getD j Rg.zero).tt<=r1)) (fun _ x _=>L.length-(intOf x).toNat)
 case atStart=>exact ⟨0,by omega,rfl,⟨by simp [preL],Or.inl ⟨rfl,rfl⟩⟩,Below.refl _ _,fun j hj=>absurd hj (Nat.not_lt_zero _)⟩
 case round =>
  obtain ⟨k,hk,rfl,hO,hW,hJ⟩:=hrel
  have lb:b<=wr.heap.size:=by have:=hW.out.size;rw [HB.out] at this;exact this
  have FW:Hid (wr.heap[w.heap.size]? =some (.cells (sr r1 r2 r3 r4 r5 r6) 75 (0,0))):=(hW.out.block _ lw2).trans F2.out
  have lww:w.heap.size<wr.heap.size:=blk_lt FW.out
  have x0:wr.cell? ⟨w.heap.size,0,none⟩=some (.int .i64 r1):=Go.Joins.cell_of_block FW.out 0
  have x1:wr.cell? ⟨w.heap.size,1,none⟩=some (.int .i64 r2):=Go.Joins.cell_of_block FW.out 1
  have x2:wr.cell? ⟨w.heap.size,2,none⟩=some (.bool r3):=Go.Joins.cell_of_block FW.out 2
  have x3:wr.cell? ⟨w.heap.size,3,none⟩=some (.bool r4):=Go.Joins.cell_of_block FW.out 3
  have x4:wr.cell? ⟨w.heap.size,4,none⟩=some (.bool r5):=Go.Joins.cell_of_block FW.out 4
  have x5:wr.cell? ⟨w.heap.size,5,none⟩=some (.int .i64 r6):=Go.Joins.cell_of_block FW.out 5
  by_cases hlk:k<L.length
  . obtain ⟨gl,ep,gl1,gc⟩:=(LO.out.low hW.out) k hlk
    subst ep
    have NX:Hid (preL [] (L.take (k+1))=withL (preL [] (L.take k)) (L.getD k Rg.zero)):=pre_next [] L k hlk
    have QE:Hid ((L.getD k Rg.zero).tt=(L.getD k Rg.zero).tt):=rfl
    obtain ⟨rr,hrr⟩: ∃ rr,L.getD k Rg.zero=rr:=⟨_,rfl⟩
    rw [hrr] at gc NX QE
    have HR:Hid (L.getD k Rg.zero=rr):=hrr
    clear hrr QE
    obtain ⟨q1,q2,q3,q4,q5,q6⟩:=rr
    have QE:Hid ((L.getD k Rg.zero).tt=q2):=by show _=_;rw [HR.out]
    have y0:wr.cell? ⟨gl,k*6,none⟩=some (.int .i64 q1):=gc 0 _ rfl
    have y1:wr.cell? ⟨gl,k*6+1,none⟩=some (.int .i64 q2):=gc 1 _ rfl
    have y2:wr.cell? ⟨gl,k*6+2,none⟩=some (.bool q3):=gc 2 _ rfl
    have y3:wr.cell? ⟨gl,k*6+3,none⟩=some (.bool q4):=gc 3 _ rfl
    have y4:wr.cell? ⟨gl,k*6+4,none⟩=some (.bool q5):=gc 4 _ rfl
    have y5:wr.cell? ⟨gl,k*6+5,none⟩=some (.int .i64 q6):=gc 5 _ rfl
    clear gc
    have glw:gl<wr.heap.size:=by omega
    by_cases cq:q2<=r1
    . have PL:Hid ((preL [] (L.take k)).length<=100):=by have:=pre_len [] L k hk;simp at this;exact Nat.le_trans this (by omega)
      go_wp2_with fail
      refine hda (fun c=>c.cell? ⟨w.heap.size,0,none⟩=some (.int .i64 r1)/\c.cell? ⟨gl,k*6+1,none⟩=some (.int .i64 q2)) (⟨x0,y1⟩) fun hHeld=> ?_
      refine tma 0 23 rfl ?_
      try simp only [Act.put,zaa,zba,zca]
      refine tma 1 24 rfl ?_
      try simp only [Act.put,zaa,zba,zca]
      refine tma 2 25 rfl ?_
      try simp only [Act.put,zaa,zba,zca]
      refine tla 3 26 (.bool true) rfl ?_ ?_
      . exact kc1
      try simp only [Act.put,zaa,zba,zca]
      refine tma 4 27 rfl ?_
      try simp only [Act.put,zaa,zba,zca]
      refine wpAnyH_take (i:=5) (oi:=⟨some 28,_,_,_,_,some (4,true)⟩) (v:= ?_) rfl ka ka ka (fun _ _ _ h=>h) (Or.inl ⟨by rfl,?_⟩) ka1 ?_
      rotate_left
      . exact ke1
      try simp only [Act.put,zaa,zba,zca]
      refine wpAnyH_take (i:=6) (oi:=⟨some 29,_,_,_,_,some (4,true)⟩) (v:= ?_) rfl ka ka ka (fun _ _ _ h=>h) (Or.inl ⟨by rfl,?_⟩) ka1 ?_
      rotate_left
      . exact ke1
      try simp only [Act.put,zaa,zba,zca]
      refine wpAnyH_take (i:=7) (oi:=⟨some 30,_,_,_,_,some (4,true)⟩) (v:=(.pointer (some ⟨gl,k*6,none⟩))) rfl ka ka ka (fun _ _ _ h=>h) (Or.inl ⟨by rfl,?_⟩) ka1 ?_
      . intro w hSw;(try dsimp only at hSw);go_simp;(try simp [hlk]);(try omega)
      try simp only [Act.put,zaa,zba,zca]
      refine wpAnyH_take (i:=8) (oi:=⟨some 31,_,_,_,_,some (4,true)⟩) (v:= ?_) rfl ka ka ka (fun _ _ _ h=>h) (Or.inl ⟨by rfl,?_⟩) ka1 ?_
      rotate_left
      . exact ke1
      try simp only [Act.put,zaa,zba,zca]
      refine wpAnyH_take (i:=9) (oi:=⟨some 32,_,_,_,_,some (4,true)⟩) (v:= ?_) rfl ka ka ka (fun _ _ _ h=>h) (Or.inl ⟨by rfl,?_⟩) ka1 ?_
      rotate_left
      . exact ke1
      try simp only [Act.put,zaa,zba,zca]
      refine wpAnyH_take (i:=10) (oi:=⟨some 33,_,_,_,_,some (4,true)⟩) (v:=.int .i64 q2) rfl ka ka ka (fun _ _ _ h=>h) (Or.inl ⟨by rfl,?_⟩) ka1 ?_
      . exact kf1
      try simp only [Act.put,zaa,zba,zca]
      refine wpAnyH_take (i:=11) (oi:=⟨some 34,_,_,_,_,some (4,true)⟩) (v:= ?_) rfl ka ka ka (fun _ _ _ h=>h) (Or.inl ⟨by rfl,?_⟩) ka1 ?_
      rotate_left
      . exact ke1
      try simp only [Act.put,zaa,zba,zca]
      refine wpAnyH_take (i:=12) (oi:=⟨some 35,_,_,_,_,some (4,true)⟩) (v:= ?_) rfl ka ka ka (fun _ _ _ h=>h) (Or.inl ⟨by rfl,?_⟩) ka1 ?_
      rotate_left
      . exact ke1
      try simp only [Act.put,zaa,zba,zca]
      refine wpAnyH_take (i:=13) (oi:=⟨some 36,_,_,_,_,some (4,true)⟩) (v:=.int .i64 r1) rfl ka ka ka (fun _ _ _ h=>h) (Or.inl ⟨by rfl,?_⟩) ka1 ?_
      . exact kf1
      try simp only [Act.put,zaa,zba,zca]
      refine wpAnyH_take (i:=14) (oi:=⟨some 37,_,_,_,_,some (4,true)⟩) (v:=.bool true) rfl ka ka ka (fun _ _ _ h=>h) (Or.inl ⟨by rfl,?_⟩) ka1 ?_
      . exact kc1
      try simp only [Act.put,zaa,zba,zca]
      refine tma 15 38 rfl ?_
      try simp only [Act.put,zaa,zba,zca]
      clear hHeld
      refine wpAnyH_done ka ?_ _
      refine NoPanic.normal ?_
      have OV:Hid (OwnL wr.drew b u7 (preL [] (L.take k))):=OwnL.below hO.out (below_drew (Below.refl _ _))
      have BV:Hid (Below b u2 wr.drew):=below_drew hW.out
      have FV:Hid (wr.drew.heap[w.heap.size]? =some (.cells (sr r1 r2 r3 r4 r5 r6) 75 (0,0))):=FW.out
      have lV:b<=wr.drew.heap.size:=lb
      have z0:wr.drew.cell? ⟨gl,k*6,none⟩=some (.int .i64 q1):=y0
      have z1:wr.drew.cell? ⟨gl,k*6+1,none⟩=some (.int .i64 q2):=y1
      have z2:wr.drew.cell? ⟨gl,k*6+2,none⟩=some (.bool q3):=y2
      have z3:wr.drew.cell? ⟨gl,k*6+3,none⟩=some (.bool q4):=y3
      have z4:wr.drew.cell? ⟨gl,k*6+4,none⟩=some (.bool q5):=y4
      have z5:wr.drew.cell? ⟨gl,k*6+5,none⟩=some (.int .i64 q6):=y5
      clear x0 x1 x2 x3 x4 x5 y0 y1 y2 y3 y4 y5 hO hW FW lww lb
      generalize wr.drew=V at OV BV FV lV z0 z1 z2 z3 z4 z5 |-
      have glv:gl<V.heap.size:=by omega
      go_wp2_with fail
      refine (WI.out b u7 _ (Nat.le_trans PL.out (by omega)) ⟨q1,q2,q3,q4,q5,q6⟩ _ lV OV.out).mono ?_
      rintro e u3 ⟨v1,rfl,ho,hk1⟩
      have O3:Hid (OwnL u3 b v1 (preL [] (L.take (k+1)))):=by show OwnL _ _ _ _;rw [NX.out];exact ho
      have B3:Hid (Below b u2 u3):=BV.out.trans (hk1.below OV.out lV)
      have J3:Hid (∀ j,j<k+1->(L.getD j Rg.zero).tt<=r1):=fun j hj=>by
       by_cases c:j=k
       . subst c;rw [QE.out];exact cq
       . exact hJ.out j (by omega)
      clear ho hk1
      go_wp2_with fail
      go_roundw
      case rel=>exact ⟨k+1,by omega,by go_num,O3,B3,J3⟩
      case measure=>simp [intOf];omega
    . replace cq:r1<q2:=by omega
      go_wp2_with fail
      refine hda (fun c=>c.cell? ⟨w.heap.size,0,none⟩=some (.int .i64 r1)/\c.cell? ⟨gl,k*6+1,none⟩=some (.int .i64 q2)) (⟨x0,y1⟩) fun hHeld=> ?_
      refine tma 0 23 rfl ?_
      try simp only [Act.put,zaa,zba,zca]
      refine tma 1 24 rfl ?_
      try simp only [Act.put,zaa,zba,zca]
      refine tma 2 25 rfl ?_
      try simp only [Act.put,zaa,zba,zca]
      refine tla 3 26 (.bool true) rfl ?_ ?_
      . exact kc1
      try simp only [Act.put,zaa,zba,zca]
      refine tma 4 27 rfl ?_
      try simp only [Act.put,zaa,zba,zca]
      refine wpAnyH_take (i:=5) (oi:=⟨some 28,_,_,_,_,some (4,true)⟩) (v:= ?_) rfl ka ka ka (fun _ _ _ h=>h) (Or.inl ⟨by rfl,?_⟩) ka1 ?_
      rotate_left
      . exact ke1
      try simp only [Act.put,zaa,zba,zca]
      refine wpAnyH_take (i:=6) (oi:=⟨some 29,_,_,_,_,some (4,true)⟩) (v:= ?_) rfl ka ka ka (fun _ _ _ h=>h) (Or.inl ⟨by rfl,?_⟩) ka1 ?_
      rotate_left
      . exact ke1
      try simp only [Act.put,zaa,zba,zca]
      refine wpAnyH_take (i:=7) (oi:=⟨some 30,_,_,_,_,some (4,true)⟩) (v:=(.pointer (some ⟨gl,k*6,none⟩))) rfl ka ka ka (fun _ _ _ h=>h) (Or.inl ⟨by rfl,?_⟩) ka1 ?_
      . intro w hSw;(try dsimp only at hSw);go_simp;(try simp [hlk]);(try omega)
      try simp only [Act.put,zaa,zba,zca]
      refine wpAnyH_take (i:=8) (oi:=⟨some 31,_,_,_,_,some (4,true)⟩) (v:= ?_) rfl ka ka ka (fun _ _ _ h=>h) (Or.inl ⟨by rfl,?_⟩) ka1 ?_
      rotate_left
      . exact ke1
      try simp only [Act.put,zaa,zba,zca]
      refine wpAnyH_take (i:=9) (oi:=⟨some 32,_,_,_,_,some (4,true)⟩) (v:= ?_) rfl ka ka ka (fun _ _ _ h=>h) (Or.inl ⟨by rfl,?_⟩) ka1 ?_
      rotate_left
      . exact ke1
      try simp only [Act.put,zaa,zba,zca]
      refine wpAnyH_take (i:=10) (oi:=⟨some 33,_,_,_,_,some (4,true)⟩) (v:=.int .i64 q2) rfl ka ka ka (fun _ _ _ h=>h) (Or.inl ⟨by rfl,?_⟩) ka1 ?_
      . exact kf1
      try simp only [Act.put,zaa,zba,zca]
      refine wpAnyH_take (i:=11) (oi:=⟨some 34,_,_,_,_,some (4,true)⟩) (v:= ?_) rfl ka ka ka (fun _ _ _ h=>h) (Or.inl ⟨by rfl,?_⟩) ka1 ?_
      rotate_left
      . exact ke1
      try simp only [Act.put,zaa,zba,zca]
      refine wpAnyH_take (i:=12) (oi:=⟨some 35,_,_,_,_,some (4,true)⟩) (v:= ?_) rfl ka ka ka (fun _ _ _ h=>h) (Or.inl ⟨by rfl,?_⟩) ka1 ?_
      rotate_left
      . exact ke1
      try simp only [Act.put,zaa,zba,zca]
      refine wpAnyH_take (i:=13) (oi:=⟨some 36,_,_,_,_,some (4,true)⟩) (v:=.int .i64 r1) rfl ka ka ka (fun _ _ _ h=>h) (Or.inl ⟨by rfl,?_⟩) ka1 ?_
      . exact kf1
      try simp only [Act.put,zaa,zba,zca]
      refine wpAnyH_take (i:=14) (oi:=⟨some 37,_,_,_,_,some (4,true)⟩) (v:=.bool false) rfl ka ka ka (fun _ _ _ h=>h) (Or.inl ⟨by rfl,?_⟩) ka1 ?_
      . exact kc1
      try simp only [Act.put,zaa,zba,zca]
      refine tma 15 38 rfl ?_
      try simp only [Act.put,zaa,zba,zca]
      clear hHeld
      refine wpAnyH_done ka ?_ _
      refine NoPanic.normal ?_
      have OV:Hid (OwnL wr.drew b u7 (preL [] (L.take k))):=OwnL.below hO.out (below_drew (Below.refl _ _))
      have BV:Hid (Below b u2 wr.drew):=below_drew hW.out
      have FV:Hid (wr.drew.heap[w.heap.size]? =some (.cells (sr r1 r2 r3 r4 r5 r6) 75 (0,0))):=FW.out
      have lV:b<=wr.drew.heap.size:=lb
      clear x0 x1 x2 x3 x4 x5 y0 y1 y2 y3 y4 y5 hO hW FW lww lb
      generalize wr.drew=V at OV BV FV lV |-
      have AN:aheadN L r1=k:=ahead_is r1 L k hk hJ.out (Or.inr (by rw [QE.out];exact cq))
      have EM:Hid (MM=preL (withL (preL [] (L.take k)) ⟨r1,r2,r3,r4,r5,r6⟩) (L.drop k)):=by show _=_;rw [<- HM.out];unfold addL;simp only;rw [AN]
      have PL:Hid ((preL [] (L.take k)).length<=100):=by have:=pre_len [] L k hk;simp at this;exact Nat.le_trans this (by omega)
      clear AN hJ HM
      have x0:V.cell? ⟨w.heap.size,0,none⟩=some (.int .i64 r1):=Go.Joins.cell_of_block FV.out 0
      have x1:V.cell? ⟨w.heap.size,1,none⟩=some (.int .i64 r2):=Go.Joins.cell_of_block FV.out 1
      have x2:V.cell? ⟨w.heap.size,2,none⟩=some (.bool r3):=Go.Joins.cell_of_block FV.out 2
      have x3:V.cell? ⟨w.heap.size,3,none⟩=some (.bool r4):=Go.Joins.cell_of_block FV.out 3
      have x4:V.cell? ⟨w.heap.size,4,none⟩=some (.bool r5):=Go.Joins.cell_of_block FV.out 4
      have x5:V.cell? ⟨w.heap.size,5,none⟩=some (.int .i64 r6):=Go.Joins.cell_of_block FV.out 5
      have lv:w.heap.size<V.heap.size:=blk_lt FV.out
      generalize preL [] (L.take k)=P at OV EM PL
      go_wp2_with fail
      refine (WI.out b u7 P (Nat.le_trans PL.out (by omega)) ⟨r1,r2,r3,r4,r5,r6⟩ _ lV OV.out).mono ?_
      rintro e u3 ⟨v1,rfl,ho,hk1⟩
      have O3:Hid (OwnL u3 b v1 (withL P ⟨r1,r2,r3,r4,r5,r6⟩)):=ho
      have B3:Hid (Below b u2 u3):=BV.out.trans (hk1.below OV.out lV)
      have LQ:Hid ((withL P ⟨r1,r2,r3,r4,r5,r6⟩).length<=101):=by have:=withL_len P ⟨r1,r2,r3,r4,r5,r6⟩;have:=PL.out;show _<=_;omega
      generalize withL P ⟨r1,r2,r3,r4,r5,r6⟩=Q at O3 EM LQ
      clear ho hk1 x0 x1 x2 x3 x4 x5 lv OV BV FV lV PL
      go_wp2_with fail
      generalize hdd:L.length-k=dd
      go_loopw [7,54] (fun v x W=> ∃ j:Nat,j<=dd/\x=.int .i64 j/\Hid (OwnL W b v (preL Q ((L.drop k).take j)))/\Hid (Below b u2 W)) (fun _ x _=>dd-(intOf x).toNat)
      case atStart=>exact ⟨0,by omega,rfl,O3,B3⟩
      case round =>
       obtain ⟨j,hj,rfl,hO4,hW4⟩:=hrel
       have dl:(L.drop k).length=dd:=by rw [List.length_drop];exact hdd
       have PL4:Hid ((preL Q ((L.drop k).take j)).length<=201):=by have h1:=pre_len Q (L.drop k) j (by omega);have h2:=LQ.out;show _<=_;omega
       have lb4:b<=wr.heap.size:=by have:=hW4.out.size;rw [HB.out] at this;exact this
       by_cases hlj:j<dd
       . have hdj:decide ((j:Int)<(dd:Int))=true:=by simp;omega
         obtain ⟨g',ge,gl2,gc⟩:=(LO.out.low hW4.out) (k+j) (by omega)
         obtain rfl:g'=gl:=by cases ge;rfl
         have NX4:Hid (preL Q ((L.drop k).take (j+1))=withL (preL Q ((L.drop k).take j)) (L.getD (k+j) Rg.zero)):=by
          show _=_
          rw [pre_next Q (L.drop k) j (by omega)]
          congr 1
          simp [List.getD,List.getElem?_drop]
         generalize L.getD (k+j) Rg.zero=rr at gc NX4
         obtain ⟨s1,s2,s3,s4,s5,s6⟩:=rr
         have t0:wr.cell? ⟨g',k*6+j*6,none⟩=some (.int .i64 s1):=by have:=gc 0 _ rfl;rw [show (k+j)*6+0=k*6+j*6 by omega] at this;exact this
         have t1:wr.cell? ⟨g',k*6+j*6+1,none⟩=some (.int .i64 s2):=by have:=gc 1 _ rfl;rw [show (k+j)*6+1=k*6+j*6+1 by omega] at this;exact this
         have t2:wr.cell? ⟨g',k*6+j*6+2,none⟩=some (.bool s3):=by have:=gc 2 _ rfl;rw [show (k+j)*6+2=k*6+j*6+2 by omega] at this;exact this
         have t3:wr.cell? ⟨g',k*6+j*6+3,none⟩=some (.bool s4):=by have:=gc 3 _ rfl;rw [show (k+j)*6+3=k*6+j*6+3 by omega] at this;exact this
         have t4:wr.cell? ⟨g',k*6+j*6+4,none⟩=some (.bool s5):=by have:=gc 4 _ rfl;rw [show (k+j)*6+4=k*6+j*6+4 by omega] at this;exact this
         have t5:wr.cell? ⟨g',k*6+j*6+5,none⟩=some (.int .i64 s6):=by have:=gc 5 _ rfl;rw [show (k+j)*6+5=k*6+j*6+5 by omega] at this;exact this
         clear gc ge
         have glw4:g'<wr.heap.size:=by omega
         have O5:Hid (OwnL (wr.alloc (.cells (sr s1 s2 s3 s4 s5 s6) 75)) b u7 (preL Q ((L.drop k).take j))):=OwnL.below hO4.out baa
         have B5:Hid (Below b u2 (wr.alloc (.cells (sr s1 s2 s3 s4 s5 s6) 75))):=hW4.out.trans (Go.Joins.below_le baa lb4)
         have lb5:b<=(wr.alloc (.cells (sr s1 s2 s3 s4 s5 s6) 75)).heap.size:=ke
         go_wp2_with fail
         refine (WI.out b u7 _ (Nat.le_trans PL4.out (by omega)) ⟨s1,s2,s3,s4,s5,s6⟩ _ lb5 O5.out).mono ?_
         rintro e u6 ⟨v2,rfl,ho,hk2⟩
         have O6:Hid (OwnL u6 b v2 (preL Q ((L.drop k).take (j+1)))):=by show OwnL _ _ _ _;rw [NX4.out];exact ho
         have B6:Hid (Below b u2 u6):=B5.out.trans (hk2.below O5.out lb5)
         clear ho hk2
         go_wp2_with fail
         go_roundw
         case rel=>exact ⟨j+1,by omega,by go_num,O6,B6⟩
         case measure=>simp [intOf];omega
       . obtain rfl:j=dd:=by omega
         have EF:Hid (MM=preL Q ((L.drop k).take j)):=by show _=_;rw [EM.out,<- dl,List.take_length]
         clear EM
         generalize preL Q ((L.drop k).take j)=QQ at hO4 EF PL4
         obtain ⟨q,d,ev,hq⟩:=own_read hO4.out
         clear hq
         obtain ⟨n,hn⟩: ∃ n,QQ.length=n:=⟨_,rfl⟩
         have HN:Hid (QQ.length=n):=hn
         rw [hn] at ev PL4
         clear hn
         subst ev
         by_cases few:n<=64
         . go_wp2_with fail
           refine (FY.out _ _ _ few _).mono ?_
           rintro e u9 ⟨rfl,hb9⟩
           have B9:Hid (bc w u9):=below_then (B2.out.trans (Go.Joins.below_le hW4.out (by omega))) hb9
           have R9:Hid (Ans u9 w.heap.size (.slice q n d) 0 0 MM):=Or.inr ⟨rfl,Or.inl ⟨by rw [EF.out,HN.out];exact few,rfl,by rw [EF.out];exact Go.Joins.ownsRow_le (OwnL.below hO4.out hb9) (by omega)⟩⟩
           clear hb9
           go_wp2_with fail
           go_returns
           exact ⟨.slice q n d,0,rfl,R9.out,B9.out⟩
         . go_wp2_with fail
           refine (FN.out _ _ _ (by omega) (Nat.le_trans PL4.out (by omega)) _).mono ?_
           rintro e u9 ⟨rfl,hb9⟩
           have B9:Hid (bc w u9):=below_then (B2.out.trans (Go.Joins.below_le hW4.out (by omega))) hb9
           have R9:Hid (Ans u9 w.heap.size (.slice none 0 0) 4 0 MM):=Or.inr ⟨rfl,Or.inr ⟨by rw [EF.out,HN.out];omega,rfl,rfl⟩⟩
           clear hb9
           go_wp2_with fail
           go_returns
           exact ⟨.slice none 0 0,4,rfl,R9.out,B9.out⟩
  . have hkn:k=L.length:=by omega
    go_wp2_with fail
    refine hda (fun c=>c.cell? ⟨w.heap.size,0,none⟩=some (.int .i64 r1)) x0 fun hHeld=> ?_
    refine tma 0 23 rfl ?_
    try simp only [Act.put,zaa,zba,zca]
    refine tma 1 24 rfl ?_
    try simp only [Act.put,zaa,zba,zca]
    refine tma 2 25 rfl ?_
    try simp only [Act.put,zaa,zba,zca]
    refine tla 3 26 (.bool false) rfl ?_ ?_
    . exact kc1
    try simp only [Act.put,zaa,zba,zca]
    refine tma 4 27 rfl ?_
    try simp only [Act.put,zaa,zba,zca]
    refine wpAnyH_take (i:=5) (oi:=⟨some 28,_,_,_,_,some (4,true)⟩) (v:=undef) rfl ka ka ka (fun _ _ _ h=>h) (Or.inr ⟨by rfl,rfl⟩) ka1 ?_
    try simp only [Act.put,zaa,zba,zca]
    refine wpAnyH_take (i:=6) (oi:=⟨some 29,_,_,_,_,some (4,true)⟩) (v:=undef) rfl ka ka ka (fun _ _ _ h=>h) (Or.inr ⟨by rfl,rfl⟩) ka1 ?_
    try simp only [Act.put,zaa,zba,zca]
    refine wpAnyH_take (i:=7) (oi:=⟨some 30,_,_,_,_,some (4,true)⟩) (v:=undef) rfl ka ka ka (fun _ _ _ h=>h) (Or.inr ⟨by rfl,rfl⟩) ka1 ?_
    try simp only [Act.put,zaa,zba,zca]
    refine wpAnyH_take (i:=8) (oi:=⟨some 31,_,_,_,_,some (4,true)⟩) (v:=undef) rfl ka ka ka (fun _ _ _ h=>h) (Or.inr ⟨by rfl,rfl⟩) ka1 ?_
    try simp only [Act.put,zaa,zba,zca]
    refine wpAnyH_take (i:=9) (oi:=⟨some 32,_,_,_,_,some (4,true)⟩) (v:=undef) rfl ka ka ka (fun _ _ _ h=>h) (Or.inr ⟨by rfl,rfl⟩) ka1 ?_
    try simp only [Act.put,zaa,zba,zca]
    refine wpAnyH_take (i:=10) (oi:=⟨some 33,_,_,_,_,some (4,true)⟩) (v:=undef) rfl ka ka ka (fun _ _ _ h=>h) (Or.inr ⟨by rfl,rfl⟩) ka1 ?_
    try simp only [Act.put,zaa,zba,zca]
    refine wpAnyH_take (i:=11) (oi:=⟨some 34,_,_,_,_,some (4,true)⟩) (v:=undef) rfl ka ka ka (fun _ _ _ h=>h) (Or.inr ⟨by rfl,rfl⟩) ka1 ?_
    try simp only [Act.put,zaa,zba,zca]
    refine wpAnyH_take (i:=12) (oi:=⟨some 35,_,_,_,_,some (4,true)⟩) (v:=undef) rfl ka ka ka (fun _ _ _ h=>h) (Or.inr ⟨by rfl,rfl⟩) ka1 ?_
    try simp only [Act.put,zaa,zba,zca]
    refine wpAnyH_take (i:=13) (oi:=⟨some 36,_,_,_,_,some (4,true)⟩) (v:=undef) rfl ka ka ka (fun _ _ _ h=>h) (Or.inr ⟨by rfl,rfl⟩) ka1 ?_
    try simp only [Act.put,zaa,zba,zca]
    refine wpAnyH_take (i:=14) (oi:=⟨some 37,_,_,_,_,some (4,true)⟩) (v:=undef) rfl ka ka ka (fun _ _ _ h=>h) (Or.inr ⟨by rfl,rfl⟩) ka1 ?_
    try simp only [Act.put,zaa,zba,zca]
    refine tma 15 38 rfl ?_
    try simp only [Act.put,zaa,zba,zca]
    clear hHeld
    refine wpAnyH_done ka ?_ _
    refine NoPanic.normal ?_
    have OV:Hid (OwnL wr.drew b u7 (preL [] (L.take k))):=OwnL.below hO.out (below_drew (Below.refl _ _))
    have BV:Hid (Below b u2 wr.drew):=below_drew hW.out
    have FV:Hid (wr.drew.heap[w.heap.size]? =some (.cells (sr r1 r2 r3 r4 r5 r6) 75 (0,0))):=FW.out
    have lV:b<=wr.drew.heap.size:=lb
    clear x0 x1 x2 x3 x4 x5  hO hW FW lww lb
    generalize wr.drew=V at OV BV FV lV |-
    have AN:aheadN L r1=k:=ahead_is r1 L k hk hJ.out (Or.inl hkn)
    have EM:Hid (MM=preL (withL (preL [] (L.take k)) ⟨r1,r2,r3,r4,r5,r6⟩) (L.drop k)):=by show _=_;rw [<- HM.out];unfold addL;simp only;rw [AN]
    have PL:Hid ((preL [] (L.take k)).length<=100):=by have:=pre_len [] L k hk;simp at this;exact Nat.le_trans this (by omega)
    clear AN hJ HM
    have x0:V.cell? ⟨w.heap.size,0,none⟩=some (.int .i64 r1):=Go.Joins.cell_of_block FV.out 0
    have x1:V.cell? ⟨w.heap.size,1,none⟩=some (.int .i64 r2):=Go.Joins.cell_of_block FV.out 1
    have x2:V.cell? ⟨w.heap.size,2,none⟩=some (.bool r3):=Go.Joins.cell_of_block FV.out 2
    have x3:V.cell? ⟨w.heap.size,3,none⟩=some (.bool r4):=Go.Joins.cell_of_block FV.out 3
    have x4:V.cell? ⟨w.heap.size,4,none⟩=some (.bool r5):=Go.Joins.cell_of_block FV.out 4
    have x5:V.cell? ⟨w.heap.size,5,none⟩=some (.int .i64 r6):=Go.Joins.cell_of_block FV.out 5
    have lv:w.heap.size<V.heap.size:=blk_lt FV.out
    generalize preL [] (L.take k)=P at OV EM PL
    go_wp2_with fail
    refine (WI.out b u7 P (Nat.le_trans PL.out (by omega)) ⟨r1,r2,r3,r4,r5,r6⟩ _ lV OV.out).mono ?_
    rintro e u3 ⟨v1,rfl,ho,hk1⟩
    have O3:Hid (OwnL u3 b v1 (withL P ⟨r1,r2,r3,r4,r5,r6⟩)):=ho
    have B3:Hid (Below b u2 u3):=BV.out.trans (hk1.below OV.out lV)
    have LQ:Hid ((withL P ⟨r1,r2,r3,r4,r5,r6⟩).length<=101):=by have:=withL_len P ⟨r1,r2,r3,r4,r5,r6⟩;have:=PL.out;show _<=_;omega
    generalize withL P ⟨r1,r2,r3,r4,r5,r6⟩=Q at O3 EM LQ
    clear ho hk1 x0 x1 x2 x3 x4 x5 lv OV BV FV lV PL
    have EF:Hid (MM=Q):=by show _=_;rw [EM.out,hkn,List.drop_length];rfl
    clear EM
    go_wp2_with fail
    all_goals
     refine wp_loop_rounds 1 ?_
     rw [rounds_succ]
     obtain ⟨q,d,ev,hq⟩:=own_read O3.out
     clear hq
     obtain ⟨n,hn⟩: ∃ n,Q.length=n:=⟨_,rfl⟩
     have HN:Hid (Q.length=n):=hn
     rw [hn] at ev LQ
     clear hn
     subst ev
     by_cases few:n<=64
     . go_wp2_with fail
       refine (FY.out _ _ _ few _).mono ?_
       rintro e u9 ⟨rfl,hb9⟩
       have B9:Hid (bc w u9):=below_then (B2.out.trans (Go.Joins.below_le B3.out (by omega))) hb9
       have R9:Hid (Ans u9 w.heap.size (.slice q n d) 0 0 MM):=Or.inr ⟨rfl,Or.inl ⟨by rw [EF.out,HN.out];exact few,rfl,by rw [EF.out];exact Go.Joins.ownsRow_le (OwnL.below O3.out hb9) (by omega)⟩⟩
       clear hb9
       go_wp2_with fail
       go_returns
       exact ⟨.slice q n d,0,rfl,R9.out,B9.out⟩
     . go_wp2_with fail
       refine (FN.out _ _ _ (by omega) (Nat.le_trans LQ.out (by omega)) _).mono ?_
       rintro e u9 ⟨rfl,hb9⟩
       have B9:Hid (bc w u9):=below_then (B2.out.trans (Go.Joins.below_le B3.out (by omega))) hb9
       have R9:Hid (Ans u9 w.heap.size (.slice none 0 0) 4 0 MM):=Or.inr ⟨rfl,Or.inr ⟨by rw [EF.out,HN.out];omega,rfl,rfl⟩⟩
       clear hb9
       go_wp2_with fail
       go_returns
       exact ⟨.slice none 0 0,4,rfl,R9.out,B9.out⟩
def errA (E:Int) (M:List Rg):Int:=if E=0 then (if M.length<=64 then 0 else 4) else E
def outL (E:Int) (M:List Rg):List Rg:=if errA E M=0 then M else []
structure Ac where
 how:Int
 fr:Int
 til:Int
 w:Bool
 u:Bool
 x:Bool
 kd:Int
abbrev Ac.val (a:Ac):Value:=.agg #[.int .i64 a.how,.int .i64 a.fr,.int .i64 a.til,.bool a.w,.bool a.u,.bool a.x,.int .i64 a.kd]
def Ac.rg (a:Ac):Rg:=⟨a.fr,a.til,a.w,a.u,a.x,a.kd⟩
theorem IsL.weak {w:World} {base base':Nat} {p:Option Addr} {L:List Rg} (h:IsL w base p L) (hb:base'<=base):IsL w base' p L:=fun i hi=>by
 obtain ⟨g,e,l1,l2,c⟩:=h i hi
 exact ⟨g,e,by omega,l2,c⟩
theorem nil_isb (w:World) (base:Nat):IsL w base none []:=fun i hi=>absurd hi (Nat.not_lt_zero _)
theorem own_readb {w:World} {base:Nat} {v:Value} {L:List Rg} (h:OwnL w base v L): ∃ p c,v=.slice p L.length c/\L.length<=c/\IsL w base p L:=by
 obtain ⟨p,c,e,hi⟩:=own_read h
 refine ⟨p,c,e,?_,hi⟩
 rcases h.2 with ⟨h1,h2⟩ | ⟨g,cap,cur,e1,e2,e3,e4,_⟩
 . omega
 . rw [e] at e1;cases e1;exact e4
theorem ans_readb {w':World} {base:Nat} {v:Value} {er E:Int} {M:List Rg} (h:Ans w' base v er E M):er=errA E M/\ ∃ p c,v=.slice p (outL E M).length c/\(outL E M).length<=c/\IsL w' base p (outL E M):=by
 unfold outL errA
 rcases h with ⟨h1,h2,h3⟩ | ⟨h1,⟨h2,h3,h4⟩ | ⟨h2,h3,h4⟩⟩
 . rw [if_neg h1,if_neg h1]
   exact ⟨h2,none,0,h3,Nat.le_refl _,nil_isb _ _⟩
 . rw [if_pos h1,if_pos h2,if_pos rfl]
   obtain ⟨p,c,e1,e2,e3⟩:=own_readb h4
   exact ⟨h3,p,c,e1,e2,e3⟩
 . rw [if_pos h1,if_neg (by omega),if_neg (by omega)]
   exact ⟨h3,none,0,h4,Nat.le_refl _,nil_isb _ _⟩
end Go.Proofs.YtgbdnnkkcpkhdaaGreatDoor.Re
