import Derived.Test.YtgbdnnkkcpkhdaaGreatDoorOZc
import Derived.Test.YtgbdnnkkcpkhdaaGreatDoorOYc
set_option linter.unusedSimpArgs false
set_option linter.unusedVariables false
set_option maxRecDepth 8000
set_option maxHeartbeats 4000000
open Go.ChangeShapes Go.WideShapes Go.ChangeAt Go.RowKit Go.Maps
namespace Go.Proofs.YtgbdnnkkcpkhdaaGreatDoor.Bm
def PZ (B:Nat->Int) (n:Nat) (z:Int) (A:List Ar):Prop :=
 (1280<n/\z=4/\A=[])\/(n<=1280/\n % 20≠0/\z=14/\A=[])\/(n<=1280/\n % 20=0/\(∃ x∈areasL B (n / 20),¬ Fit x)/\z=3/\A=[])\/(n<=1280/\n % 20=0/\(∀ x∈areasL B (n / 20),Fit x)/\z=0/\A=areasL B (n / 20))
theorem PZ.one {B:Nat->Int} {n:Nat} {z z':Int} {A A':List Ar} (h:PZ B n z A) (k:PZ B n z' A'):z=z'/\A=A':=by
 rcases h with ⟨a,b,c⟩ | ⟨a,d,b,c⟩ | ⟨a,d,⟨x,hx,nx⟩,b,c⟩ | ⟨a,d,e,b,c⟩ <;> rcases k with ⟨a',b',c'⟩ | ⟨a',d',b',c'⟩ | ⟨a',d',⟨y,hy,ny⟩,b',c'⟩ | ⟨a',d',e',b',c'⟩ <;> first
  | exact ⟨b.trans b'.symm, c.trans c'.symm⟩
  | exact absurd a (by omega)
  | exact absurd d (by omega)
  | exact absurd d' (by omega)
  | exact absurd (e' x hx) nx
  | exact absurd (e y hy) ny
theorem PZ.ok {B:Nat->Int} {n:Nat} {A:List Ar} (h:PZ B n 0 A):n<=1280/\n % 20=0/\(∀ x∈A,Fit x)/\A=areasL B (n / 20):=by
 rcases h with ⟨a,b,c⟩ | ⟨a,d,b,c⟩ | ⟨a,d,_,b,c⟩ | ⟨a,d,e,b,c⟩
 . cases b
 . cases b
 . cases b
 . exact ⟨a,d,by rw [c];exact e,c⟩
theorem arB_wf {B:Nat->Int} (hB: ∀ i,0<=B i/\B i<256) (a:Nat):(arB B a).wf:=by
 have h1:=le_bd hB a 8
 have h2:=le_bd hB (a+8) 8
 have h3:=le_bd hB (a+16) 4
 exact ⟨⟨h1.1,by simpa [arB] using h1.2⟩,⟨h2.1,by simpa [arB] using h2.2⟩,⟨h3.1,by simpa [arB] using h3.2⟩⟩
theorem areas_wf {B:Nat->Int} (hB: ∀ i,0<=B i/\B i<256) (m:Nat): ∀ x∈areasL B m,x.wf:=by
 intro x hx
 unfold areasL at hx
 obtain ⟨q,_,rfl⟩:=List.mem_map.1 hx
 exact arB_wf hB _
theorem fit_iff {x:Ar} (h:x.wf):Fit x↔x.f+x.l<18446744073709551616:=by
 obtain ⟨⟨a,b⟩,⟨c,d⟩,_⟩:=h
 unfold Fit
 rw [IntKind.wrap_u64]
 constructor
 . intro k
   apply Int.not_le.1
   intro q
   apply k
   omega
 . intro k q
   omega
theorem parse_any (g o n c:Nat) (B:Nat->Int) (hB: ∀ i,0<=B i/\B i<256) (hc:n<=c) (w:World) (lg:g<w.heap.size) (hcs: ∀ i,i<n->w.cell? ⟨g,o+i,none⟩=some (.int .u8 (B i))) :
 Calls Tryz.prog 77 #[.slice (some ⟨g,o,none⟩) n c] w fun e w'=> ∃ v' z A,e=.returned (.tuple #[v',.int .i64 z])/\LL 3 eA w' w.heap.size v' A/\PZ B n z A/\bc w w':=by
 by_cases h1:1280<n
 . refine (parse_big (some ⟨g,o,none⟩) n c h1 w).mono ?_
   rintro e w' ⟨rfl,hb⟩
   exact ⟨_,4,[],rfl,ll_nil _ _ _ _,Or.inl ⟨h1,rfl,rfl⟩,hb⟩
 . by_cases h2:n % 20≠0
   . refine (parse_end (some ⟨g,o,none⟩) n c (by omega) h2 w).mono ?_
     rintro e w' ⟨rfl,hb⟩
     exact ⟨_,14,[],rfl,ll_nil _ _ _ _,Or.inr (Or.inl ⟨by omega,h2,rfl,rfl⟩),hb⟩
   . refine (parse_loop g o (n / 20) n c B hB (by omega) (by omega) hc w lg hcs).mono ?_
     rintro e w' ⟨⟨v',rfl,ho,hf⟩ | ⟨rfl,hx⟩,hb⟩
     . exact ⟨v',0,_,rfl,ol_ll eA_len ho,Or.inr (Or.inr (Or.inr ⟨by omega,by omega,hf,rfl,rfl⟩)),hb⟩
     . exact ⟨_,3,[],rfl,ll_nil _ _ _ _,Or.inr (Or.inr (Or.inl ⟨by omega,by omega,hx,rfl,rfl⟩)),hb⟩
def useR (F:Int) (x:Ar):Int × Int:=((x.f+4095) / 4096,min ((x.f+x.l) / 4096) F)
def tchR (x:Ar):Int × Int:=if x.l=0 then (0,0) else (x.f / 4096,(x.f+x.l-1) / 4096+1)
def useL (F:Int) (A:List Ar):List (Int × Int):=(A.filter (fun x=>decide (x.k=1))).map (useR F)
def awayL (k:Int × Int) (A:List Ar):List (Int × Int):=k::(A.filter (fun x=>decide (x.k≠1))).map tchR
theorem use_len (F:Int) (A:List Ar):(useL F A).length<=A.length:=by unfold useL;rw [List.length_map];exact List.length_filter_le _ _
theorem away_len (k:Int × Int) (A:List Ar):(awayL k A).length<=A.length+1:=by
 have:=List.length_filter_le (fun x:Ar=>decide (x.k≠1)) A
 unfold awayL;rw [List.length_cons,List.length_map];omega
theorem take_next {α :Type} (L:List α) (i:Nat) (h:i<L.length):L.take (i+1)=L.take i++[L[i]]:=List.take_succ_eq_append_getElem h
theorem use_yes {F:Int} {A:List Ar} {i:Nat} (h:i<A.length) (hk:A[i].k=1):useL F (A.take (i+1))=useL F (A.take i)++[useR F A[i]]:=by
 unfold useL;rw [take_next A i h,List.filter_append];simp [List.filter_cons,hk]
theorem use_no {F:Int} {A:List Ar} {i:Nat} (h:i<A.length) (hk:A[i].k≠1):useL F (A.take (i+1))=useL F (A.take i):=by
 unfold useL;rw [take_next A i h,List.filter_append];simp [List.filter_cons,hk]
theorem away_yes {k:Int × Int} {A:List Ar} {i:Nat} (h:i<A.length) (hk:A[i].k≠1):awayL k (A.take (i+1))=awayL k (A.take i)++[tchR A[i]]:=by
 unfold awayL;rw [take_next A i h,List.filter_append];simp [List.filter_cons,hk]
theorem away_no {k:Int × Int} {A:List Ar} {i:Nat} (h:i<A.length) (hk:A[i].k=1):awayL k (A.take (i+1))=awayL k (A.take i):=by
 unfold awayL;rw [take_next A i h,List.filter_append];simp [List.filter_cons,hk]
def FR (F:Int) (k:Int × Int) (A:List Ar) (x:Int):Prop:=Has (useL F A) x/\ ¬ Has (awayL k A) x
def Good (F:Int) (k:Int × Int):Prop:=1<=F/\F<=1048576/\0<=k.1/\k.1<=k.2/\k.2<=F
def FZ (B:Nat->Int) (n:Nat) (F:Int) (k:Int × Int) (z:Int) (M:List (Int × Int)):Prop :=
 (¬ Good F k/\z=1/\M=[])\/(Good F k/\ ∃ z' A,PZ B n z' A/\z'≠0/\z=z'/\M=[])\/(Good F k/\ ∃ A,PZ B n 0 A/\Can M/\(∀ x,Has M x↔FR F k A x)/\z=if M.length=0 then 7 else 0)
theorem FZ.one {B:Nat->Int} {n:Nat} {F:Int} {k:Int × Int} {z z':Int} {M M':List (Int × Int)} (h:FZ B n F k z M) (h':FZ B n F k z' M'):z=z'/\M=M':=by
 rcases h with ⟨a,b,c⟩ | ⟨a,y,A,p,q,b,c⟩ | ⟨a,A,p,q,r,b⟩ <;> rcases h' with ⟨a',b',c'⟩ | ⟨a',y',A',p',q',b',c'⟩ | ⟨a',A',p',q',r',b'⟩
 . exact ⟨b.trans b'.symm,c.trans c'.symm⟩
 . exact absurd a' a
 . exact absurd a' a
 . exact absurd a a'
 . exact ⟨b.trans ((p.one p').1.trans b'.symm),c.trans c'.symm⟩
 . exact absurd (p.one p').1 q
 . exact absurd a a'
 . exact absurd (p'.one p).1 q'
 . obtain rfl:=(p.one p').2
   have e:=can_eq M M' q q' (fun x=>(r x).trans (r' x).symm)
   exact ⟨by rw [b,b',e],e⟩
structure TW (w0:World) (v u:Value) (A B:List (Int × Int)) (W:World):Prop where
 o1:OR W w0.heap.size v A
 o2:OR W w0.heap.size u B
 ne: ∀ g,v.ownBlock=some g->u.ownBlock≠some g
 bel:bc w0 W
theorem TW.below {w0 W W':World} {v u:Value} {A B:List (Int × Int)} (H:TW w0 v u A B W) (hb:bc W W'):TW w0 v u A B W':=⟨row_below H.o1 hb,row_below H.o2 hb,H.ne,below_then H.bel hb⟩
theorem TW.swap {w0 W:World} {v u:Value} {A B:List (Int × Int)} (H:TW w0 v u A B W):TW w0 u v B A W:=⟨H.o2,H.o1,fun g e h=>H.ne g h e,H.bel⟩
theorem TW.app {w0 W:World} {v u:Value} {A B:List (Int × Int)} (H:TW w0 v u A B W) (hA:A.length<=1048576) (x:Int × Int) :
 ∃ v' W2,(Builtin.append_ #[121,121] 121 #[v,.slice (some ⟨W.heap.size,0,none⟩) 1 1]).run Tryz.prog (W.alloc (.cells #[.int .i64 x.1,.int .i64 x.2] 43))=.ok v' W2/\TW w0 v' u (A++[x]) B W2:=by
 obtain ⟨v',W2,r,ho,hg,hat⟩:=app_row eR_len eR_one (by decide) Tryz.underlying121 infoR rfl (by decide) w0.heap.size v A x hA W H.o1 H.bel.size
 have hb:=Go.Joins.below_alloc1 W (.cells (eR x).toArray 43)
 have o2:=row_below H.o2 hb
 refine ⟨v',W2,r,ho,row_keep o2 (fun g e=>hg.block g (row_lt o2 g e).2 (fun h=>H.ne g h.symm e)),fun g e h=> ?_,(below_new H.bel _).grown hg (by rw [World.size_alloc];have:=H.bel.size;omega) (fun g e=>(row_lt H.o1 g e).1)⟩
 rcases hat with q | q
 . exact H.ne g (by rw [<- q];exact e) h
 . have h1:=(row_lt H.o2 g h).2
   rw [q] at e
   have:=sia e
   omega
theorem frames_bad (v:Value) (F k1 k2:Int) (h: ¬ Good F (k1,k2)) (w:World):Calls Tryz.prog 41 #[v,.int .i64 F,.agg #[.int .i64 k1,.int .i64 k2]] w (re (.tuple #[.slice none 0 0,.int .i64 1]) w):=by
 by_cases c1:F<1
 . have d1:decide (F<1)=true:=decide_eq_true c1
   go_enter Tryz.func41,Tryz.ntmps41
   go_wp2_with fail
   go_returns
   exact ⟨rfl,baa⟩
 have d1:decide (F<1)=false:=decide_eq_false c1
 by_cases c2:1048576<F
 . have d2:decide (1048576<F)=true:=decide_eq_true c2
   go_enter Tryz.func41,Tryz.ntmps41
   go_wp2_with fail
   go_returns
   exact ⟨rfl,baa⟩
 have d2:decide (1048576<F)=false:=decide_eq_false c2
 by_cases c3:k1<0
 . have d3:decide (k1<0)=true:=decide_eq_true c3
   go_enter Tryz.func41,Tryz.ntmps41
   go_wp2_with fail
   go_returns
   exact ⟨rfl,baa⟩
 have d3:decide (k1<0)=false:=decide_eq_false c3
 by_cases c4:k2<k1
 . have d4:decide (k2<k1)=true:=decide_eq_true c4
   go_enter Tryz.func41,Tryz.ntmps41
   go_wp2_with fail
   go_returns
   exact ⟨rfl,baa⟩
 have d4:decide (k2<k1)=false:=decide_eq_false c4
 by_cases c5:F<k2
 . have d5:decide (F<k2)=true:=decide_eq_true c5
   go_enter Tryz.func41,Tryz.ntmps41
   go_wp2_with fail
   go_returns
   exact ⟨rfl,baa⟩
 exact absurd (show Good F (k1,k2) from ⟨by omega,by omega,by show 0<=k1;omega,by show k1<=k2;omega,by show k2<=F;omega⟩) h
def At0 (v:Value):Prop:= ∀ p n c,v=.slice p n c-> ∀ a,p=some a->a.off=0
theorem at0_nil:At0 (.slice none 0 0):=by
 intro p n c e a ha
 cases e;cases ha
theorem at0_row {w:World} {base e s:Nat} {v:Value} {n:Nat} {xs:List Value} (h:w.ownsRow base e s v n xs):At0 v:=by
 intro p n' c e' a ha
 obtain ⟨_,⟨hv,_⟩ | ⟨g,cap,cur,hv,_⟩⟩:=h
 . rw [hv] at e';cases e';cases ha
 . rw [hv] at e';cases e';cases ha;rfl
theorem frames_z (g o n c:Nat) (B:Nat->Int) (hB: ∀ i,0<=B i/\B i<256) (hc:n<=c) (F k1 k2:Int) (w:World) (lg:g<w.heap.size) (hcs: ∀ i,i<n->w.cell? ⟨g,o+i,none⟩=some (.int .u8 (B i))) :
 Calls Tryz.prog 41 #[.slice (some ⟨g,o,none⟩) n c,.int .i64 F,.agg #[.int .i64 k1,.int .i64 k2]] w fun e w'=> ∃ v' z M,e=.returned (.tuple #[v',.int .i64 z])/\(RL w' w.heap.size v' M/\At0 v')/\FZ B n F (k1,k2) z M/\M.length<=5000/\bc w w':=by
 by_cases hG:Good F (k1,k2)
 rotate_left
 . refine (frames_bad _ F k1 k2 hG w).mono ?_
   rintro e w' ⟨rfl,hb⟩
   exact ⟨_,1,[],rfl,⟨ll_nil _ _ _ _,at0_nil⟩,Or.inl ⟨hG,rfl,rfl⟩,by simp,hb⟩
 have HG:Hid (Good F (k1,k2)):=hG
 obtain ⟨g1,g2,g3,g4,g5⟩:=hG
 simp only at g3 g4 g5
 have d1:decide (F<1)=false:=decide_eq_false (by omega)
 have d2:decide (1048576<F)=false:=decide_eq_false (by omega)
 have d3:decide (k1<0)=false:=decide_eq_false (by omega)
 have d4:decide (k2<k1)=false:=decide_eq_false (by omega)
 have d5:decide (F<k2)=false:=decide_eq_false (by omega)
 have b0:bc w (w.alloc (.cells #[.int .i64 k1,.int .i64 k2] 43)):=baa
 have PC:Hid _:=parse_any g o n c B hB hc (w.alloc (.cells #[.int .i64 k1,.int .i64 k2] 43)) (nla lg b0.size) (fun i hi=>(b0.cell (p:=⟨g,o+i,none⟩) lg).trans (hcs i hi))
 have HWF:Hid (∀ x∈areasL B (n / 20),x.wf):=areas_wf hB _
 have HB0:Hid (bc w (w.alloc (.cells #[.int .i64 k1,.int .i64 k2] 43))/\(w.alloc (.cells #[.int .i64 k1,.int .i64 k2] 43)).heap.size=w.heap.size+1/\Blk (w.alloc (.cells #[.int .i64 k1,.int .i64 k2] 43)) w.heap.size [.int .i64 k1,.int .i64 k2] 43):=⟨b0,World.size_alloc _ _,Blk.made w [.int .i64 k1,.int .i64 k2] 43⟩
 clear hB hcs b0
 go_enter Tryz.func41,Tryz.ntmps41
 go_wp2_with fail
 refine Calls.mono PC.out ?_
 rintro e w1 ⟨v8,z,A,rfl,R8,pz,B1⟩
 have H8:Hid (LL 3 eA w1 w.heap.size v8 A):=R8.low (by have:=HB0.out.2.1;omega)
 have HPZ:Hid (PZ B n z A):=pz
 have HB1:Hid (bc w w1):=HB0.out.1.trans (B1.mono (by have:=HB0.out.2.1;omega))
 have q1:w1.cell? ⟨w.heap.size,0,none⟩=some (.int .i64 k1):=(HB0.out.2.2.below B1).cell 0
 have q2:w1.cell? ⟨w.heap.size,1,none⟩=some (.int .i64 k2):=(HB0.out.2.2.below B1).cell 1
 clear R8 pz B1 PC HB0
 by_cases cz:z=0
 rotate_left
 . have e1:(z != 0)=true:=by simp [cz]
   have HZ:Hid (z≠0):=cz
   go_wp2_with fail
   go_returns
   exact ⟨_,_,_,rfl,⟨ll_nil _ _ _ _,at0_nil⟩,Or.inr (Or.inl ⟨HG.out,z,A,HPZ.out,HZ.out,rfl,rfl⟩),by simp,HB1.out⟩
 subst cz
 have HA:Hid (A.length<=64/\ ∀ x∈A,x.wf/\x.f+x.l<18446744073709551616):=by
  obtain ⟨n1,n2,n3,n4⟩:=HPZ.out.ok
  refine ⟨by rw [n4,areas_len];omega,fun x hx=> ?_⟩
  have hw:=HWF.out x (by rw [<- n4];exact hx)
  exact ⟨hw,(fit_iff hw).1 (n3 x hx)⟩
 obtain ⟨p8,c8,hv8,_,_,rd⟩:=H8.out.form
 have RD:Hid (∀ i (hi:i<A.length),∃ g o,p8=some ⟨g,o,none⟩/\w.heap.size<=g/\g<w1.heap.size/\ ∀ j,j<3->w1.cell? ⟨g,o+i*3+j,none⟩=(eA A[i])[j]?):=rd
 obtain ⟨m,hm⟩: ∃ m,A.length=m:=⟨_,rfl⟩
 have HM:Hid (A.length=m):=hm
 have m9:m<=64:=by rw [<- hm];exact HA.out.1
 rw [hm] at hv8
 subst hv8
 have T0:Hid (TW w1 (.slice none 0 0) (.slice (some ⟨w1.heap.size,0,none⟩) 1 1) (useL F (A.take 0)) (awayL (k1,k2) (A.take 0)) (w1.alloc (.cells #[.int .i64 k1,.int .i64 k2] 43))) :=
  ⟨ol_none _ _ _ _ _,ol_one eR_len w1 _ (Nat.le_refl _) (k1,k2),(fun g e=>by cases e),baa⟩
 clear rd hm H8
 go_wp2_with fail
 clear q1 q2
 generalize w1.alloc (.cells #[.int .i64 k1,.int .i64 k2] 43)=w2 at T0 |-
 generalize Value.slice (some ⟨w1.heap.size,0,none⟩) 1 1=v11 at T0 |-
 go_loopw [10,11,49] (fun u a i W=> ∃ k:Nat,k<=m/\i=.int .i64 k/\Hid (TW w1 u a (useL F (A.take k)) (awayL (k1,k2) (A.take k)) W)) (fun _ _ i _=>m-(Go.RowKit.intOf i).toNat)
 case atStart=>exact ⟨0,by omega,rfl,T0⟩
 case round =>
  clear T0
  obtain ⟨k,hk,rfl,T⟩:=hrel
  have UL:=use_len F (A.take k)
  have AL:=away_len (k1,k2) (A.take k)
  rw [List.length_take] at UL AL
  by_cases ck:k<m
  rotate_left
  . obtain rfl:k=m:=by omega
    have e9:A.take k=A:=by rw [<- HM.out,List.take_length]
    rw [e9] at T UL AL
    have U2:(useL F A).length*((awayL (k1,k2) A).length+1)<=64*66:=Nat.mul_le_mul (by omega) (by omega)
    have LC:Hid _:=less_call 0 0 u10 u11 (useL F A) (awayL (k1,k2) A) (by omega) (by omega) (by omega) wr ((ol_ll eR_len T.out.o1).low (Nat.zero_le _)) ((ol_ll eR_len T.out.o2).low (Nat.zero_le _))
    have HU:Hid ((useL F A).length*((awayL (k1,k2) A).length+1)<=64*66):=U2
    have HW:Hid (bc w wr):=below_then HB1.out T.out.bel
    have dk:decide ((k:Int)<(k:Int))=false:=by simp
    clear T UL AL U2 e9
    go_wp2_with fail
    refine Calls.mono LC.out ?_
    rintro e w3 ⟨v',M,rfl,O3,C3,S3,L3,B3⟩
    have Z3:Hid (At0 v'):=at0_row O3
    have E3:Hid (RL w3 w.heap.size v' M/\Can M/\(∀ x,Has M x↔FR F (k1,k2) A x)/\M.length<=5000/\bc w w3):=⟨(ol_ll eR_len O3).low HW.out.size,C3,S3,by have:=HU.out;omega,below_then HW.out B3⟩
    obtain ⟨p9,c9,hv9,_,_,_⟩:=(ol_ll eR_len O3).form
    obtain ⟨l9,hl9⟩: ∃ l9,M.length=l9:=⟨_,rfl⟩
    rw [hl9] at hv9
    subst hv9
    have HL9:Hid (M.length=l9):=hl9
    clear O3 C3 S3 L3 B3 LC hl9
    by_cases c0:l9=0
    . subst c0
      go_wp2_with fail
      go_returns
      refine ⟨_,_,_,rfl,⟨ll_nil _ _ _ _,at0_nil⟩,Or.inr (Or.inr ⟨HG.out,A,HPZ.out,can_nil,?_,?_⟩),by simp,E3.out.2.2.2.2⟩
      . have:M=[]:=List.eq_nil_of_length_eq_zero HL9.out
        have q:=E3.out.2.2.1
        rw [this] at q
        exact q
      . rfl
    . have e0:((l9:Int)==0)=false:=by simp;omega
      have e00: ¬ ((l9:Int)=0):=by omega
      go_wp2_with fail
      go_returns
      exact ⟨_,_,M,rfl,⟨E3.out.1,Z3.out⟩,Or.inr (Or.inr ⟨HG.out,A,HPZ.out,E3.out.2.1,E3.out.2.2.1,by rw [if_neg (by rw [HL9.out];exact c0)]⟩),E3.out.2.2.2.1,E3.out.2.2.2.2⟩
  have dk:decide ((k:Int)<(m:Int))=true:=decide_eq_true (by omega)
  have d0:decide ((k:Int)<0)=false:=by simp
  have kS:k<A.length:=by rw [HM.out];exact ck
  obtain ⟨ga,oa,rfl,_,la,rc⟩:=RD.out k kS
  have y0:wr.cell? ⟨ga,oa+k*3,none⟩=some (.int .u64 A[k].f):=(World.cell?_of_block (T.out.bel.block ga la)).trans (rc 0 (by omega))
  have y1:wr.cell? ⟨ga,oa+k*3+1,none⟩=some (.int .u64 A[k].l):=(World.cell?_of_block (T.out.bel.block ga la)).trans (rc 1 (by omega))
  have y2:wr.cell? ⟨ga,oa+k*3+2,none⟩=some (.int .u32 A[k].k):=(World.cell?_of_block (T.out.bel.block ga la)).trans (rc 2 (by omega))
  have HX:=HA.out.2 A[k] (List.getElem_mem kS)
  have U1:Hid (A[k].k=1->useL F (A.take (k+1))=useL F (A.take k)++[useR F A[k]]/\awayL (k1,k2) (A.take (k+1))=awayL (k1,k2) (A.take k)):=fun h=>⟨use_yes kS h,away_no kS h⟩
  have U2:Hid (A[k].k≠1->useL F (A.take (k+1))=useL F (A.take k)/\awayL (k1,k2) (A.take (k+1))=awayL (k1,k2) (A.take k)++[tchR A[k]]):=fun h=>⟨use_no kS h,away_yes kS h⟩
  generalize A[k]=x at y0 y1 y2 HX U1 U2
  obtain ⟨xf,xl,xk⟩:=x
  obtain ⟨⟨⟨x0,x1⟩,⟨x2,x3⟩,_⟩,x4⟩:=HX
  simp only at y0 y1 y2 x0 x1 x2 x3 x4 U1 U2
  have ULN:Hid ((useL F (A.take k)).length<=1048576/\(awayL (k1,k2) (A.take k)).length<=1048576):=⟨by omega,by omega⟩
  have TB:Hid (TW w1 u10 u11 (useL F (A.take k)) (awayL (k1,k2) (A.take k)) (wr.alloc (.cells #[.int .u64 xf,.int .u64 xl,.int .u32 xk] 179))):=T.out.below baa
  clear T rc la UL AL
  by_cases cu:xk=1
  . subst cu
    obtain ⟨N1,N2⟩:=U1.out rfl
    obtain ⟨aa,haa⟩: ∃ aa,aa=(xf+4095) / 4096:=⟨_,rfl⟩
    obtain ⟨bb,hbb⟩: ∃ bb,bb=(xf+xl) / 4096:=⟨_,rfl⟩
    obtain ⟨cc,hcc⟩: ∃ cc,cc=min bb F:=⟨_,rfl⟩
    have WC:Hid (∀ W:World,_):=fun W=>whole_any xf xl 1 x0 x2 x4 aa bb haa hbb W
    have BC:Hid (∀ W:World,_):=fun W=>below_any aa bb F cc hcc W
    have NX:Hid (useL F (A.take (k+1))=useL F (A.take k)++[(aa,cc)]/\awayL (k1,k2) (A.take (k+1))=awayL (k1,k2) (A.take k)):=⟨by rw [N1,hcc,haa,hbb];rfl,N2⟩
    clear N1 N2 U1 U2 haa hbb hcc x0 x1 x2 x3 x4
    go_upto_region 14 with fail
    have z0:(wr.alloc (.cells #[.int .u64 xf,.int .u64 xl,.int .u32 1] 179)).cell? ⟨wr.heap.size,0,none⟩=some (.int .u64 xf):=(Blk.made wr [.int .u64 xf,.int .u64 xl,.int .u32 1] 179).cell 0
    have z1:(wr.alloc (.cells #[.int .u64 xf,.int .u64 xl,.int .u32 1] 179)).cell? ⟨wr.heap.size,1,none⟩=some (.int .u64 xl):=(Blk.made wr [.int .u64 xf,.int .u64 xl,.int .u32 1] 179).cell 1
    have z2:(wr.alloc (.cells #[.int .u64 xf,.int .u64 xl,.int .u32 1] 179)).cell? ⟨wr.heap.size,2,none⟩=some (.int .u32 1):=(Blk.made wr [.int .u64 xf,.int .u64 xl,.int .u32 1] 179).cell 2
    clear y0 y1 y2
    generalize wr.alloc (.cells #[.int .u64 xf,.int .u64 xl,.int .u32 1] 179)=wx at TB z0 z1 z2 |-
    generalize wr.heap.size=xb at z0 z1 z2 |-
    go_wp2_with fail
    refine Calls.mono (WC.out _) ?_
    rintro e w3 ⟨rfl,hb⟩
    have T3:Hid (TW w1 u10 u11 (useL F (A.take k)) (awayL (k1,k2) (A.take k)) w3):=TB.out.below hb
    clear hb TB z0 z1 z2 WC
    go_wp2_with fail
    refine Calls.mono (BC.out _) ?_
    rintro e w4 ⟨rfl,hb⟩
    have T4:Hid (TW w1 u10 u11 (useL F (A.take k)) (awayL (k1,k2) (A.take k)) w4):=T3.out.below hb
    obtain ⟨v',W2,r,T5⟩:=T4.out.app ULN.out.1 (aa,cc)
    have T6:Hid (TW w1 v' u11 (useL F (A.take (k+1))) (awayL (k1,k2) (A.take (k+1))) W2):=by rw [NX.out.1,NX.out.2];exact T5
    clear hb T3 T4 T5 BC NX ULN
    go_wp2_with (at_builtin;refine wpList_app rfl _ _ 121 rfl u10 (.slice (some ⟨w4.heap.size,0,none⟩) 1 1) rfl rfl v' W2 r ?_)
    go_roundw
    case rel=>exact ⟨k+1,by omega,by go_num,T6⟩
    case measure=>simp [Go.RowKit.intOf];omega
  . have eu:(xk==1)=false:=by simp [cu]
    obtain ⟨N1,N2⟩:=U2.out cu
    obtain ⟨⟨aa,bb⟩,haa⟩: ∃ q,tchR ⟨xf,xl,xk⟩=q:=⟨_,rfl⟩
    have TC:Hid (∀ W:World,Calls Tryz.prog 80 #[.agg #[.int .u64 xf,.int .u64 xl,.int .u32 xk]] W (re (.agg #[.int .i64 aa,.int .i64 bb]) W)):=fun W=>by
     unfold tchR at haa
     by_cases l0:xl=0
     . subst l0
       rw [if_pos rfl] at haa
       cases haa
       exact touched_none xf xk W
     . rw [if_neg l0] at haa
       cases haa
       exact touched_any xf xl xk x0 (by omega) x4 W
    rw [haa] at N2
    have NX:Hid (useL F (A.take (k+1))=useL F (A.take k)/\awayL (k1,k2) (A.take (k+1))=awayL (k1,k2) (A.take k)++[(aa,bb)]):=⟨N1,N2⟩
    clear N1 N2 U1 U2 haa x0 x1 x2 x3 x4
    go_upto_region 15 with fail
    have z0:(wr.alloc (.cells #[.int .u64 xf,.int .u64 xl,.int .u32 xk] 179)).cell? ⟨wr.heap.size,0,none⟩=some (.int .u64 xf):=(Blk.made wr [.int .u64 xf,.int .u64 xl,.int .u32 xk] 179).cell 0
    have z1:(wr.alloc (.cells #[.int .u64 xf,.int .u64 xl,.int .u32 xk] 179)).cell? ⟨wr.heap.size,1,none⟩=some (.int .u64 xl):=(Blk.made wr [.int .u64 xf,.int .u64 xl,.int .u32 xk] 179).cell 1
    have z2:(wr.alloc (.cells #[.int .u64 xf,.int .u64 xl,.int .u32 xk] 179)).cell? ⟨wr.heap.size,2,none⟩=some (.int .u32 xk):=(Blk.made wr [.int .u64 xf,.int .u64 xl,.int .u32 xk] 179).cell 2
    clear y0 y1 y2
    generalize wr.alloc (.cells #[.int .u64 xf,.int .u64 xl,.int .u32 xk] 179)=wx at TB z0 z1 z2 |-
    generalize wr.heap.size=xb at z0 z1 z2 |-
    go_wp2_with fail
    refine Calls.mono (TC.out _) ?_
    rintro e w4 ⟨rfl,hb⟩
    have T4:Hid (TW w1 u10 u11 (useL F (A.take k)) (awayL (k1,k2) (A.take k)) w4):=TB.out.below hb
    obtain ⟨v',W2,r,T5⟩:=T4.out.swap.app ULN.out.2 (aa,bb)
    have T6:Hid (TW w1 u10 v' (useL F (A.take (k+1))) (awayL (k1,k2) (A.take (k+1))) W2):=by rw [NX.out.1,NX.out.2];exact T5.swap
    clear hb TB T4 T5 TC NX ULN z0 z1 z2
    go_wp2_with (at_builtin;refine wpList_app rfl _ _ 121 rfl u11 (.slice (some ⟨w4.heap.size,0,none⟩) 1 1) rfl rfl v' W2 r ?_)
    go_roundw
    case rel=>exact ⟨k+1,by omega,by go_num,T6⟩
    case measure=>simp [Go.RowKit.intOf];omega
variable {α :Type}
def Src (k:Nat) (enc: α ->List Value) (w:World) (p:Option Addr) (M:List α):Prop:= ∀ i (hi:i<M.length),∃ g o,p=some ⟨g,o,none⟩/\g<w.heap.size/\ ∀ j,j<k->w.cell? ⟨g,o+i*k+j,none⟩=(enc M[i])[j]?
end Go.Proofs.YtgbdnnkkcpkhdaaGreatDoor.Bm
namespace Go.Proofs.YtgbdnnkkcpkhdaaGreatDoor.Bm
def Pg (W:World) (g:Nat) (E:Nat->Int):Prop:= ∃ cs:List Value,Blk W g cs 5/\cs.length=20/\ ∀ q,q<20->cs[q]? =some (.int .u8 (E q))
theorem Pg.cell {W:World} {g:Nat} {E:Nat->Int} (h:Pg W g E) {q:Nat} (hq:q<20):W.cell? ⟨g,q,none⟩=some (.int .u8 (E q))/\W.frozen? ⟨g,q,none⟩=false:=by
 obtain ⟨cs,hb,hl,h⟩:=h
 exact ⟨(hb.cell q).trans (h q hq),hb.free q⟩
theorem Pg.set {W:World} {g:Nat} {E:Nat->Int} (h:Pg W g E) {q:Nat} (hq:q<20) (v:Int):Pg (W.setCell ⟨g,q,none⟩ (.int .u8 v)) g (fun x=>if x=q then v else E x):=by
 obtain ⟨cs,hb,hl,h⟩:=h
 refine ⟨cs.set q (.int .u8 v),hb.set q _,by rw [List.length_set];exact hl,fun x hx=> ?_⟩
 by_cases e:x=q
 . subst e;rw [List.getElem?_set_self (by omega)];simp
 . rw [List.getElem?_set_ne (Ne.symm e)];simp only [if_neg e];exact h x hx
theorem Pg.congr {W:World} {g:Nat} {E E':Nat->Int} (h:Pg W g E) (he: ∀ q,q<20->E q=E' q):Pg W g E':=by
 obtain ⟨cs,hb,hl,h⟩:=h
 exact ⟨cs,hb,hl,fun q hq=>by rw [<- he q hq];exact h q hq⟩
def lst (E:Nat->Int) (n:Nat):List Int:=(List.range n).map E
theorem lst_len (E:Nat->Int) (n:Nat):(lst E n).length=n:=by simp [lst]
theorem Pg.own {W:World} {g base:Nat} {E:Nat->Int} (h:Pg W g E) (hb:base<=g):OL 5 1 eB W base (.slice (some ⟨g,0,none⟩) 20 20) (lst E 20):=by
 obtain ⟨cs,hk,hl,h⟩:=h
 have e:(lst E 20).flatMap eB=cs:=by
  apply List.ext_getElem?
  intro q
  by_cases hq:q<20
  . have:=flat_get eB_len (lst E 20) q (by rw [lst_len];exact hq) 0 (by omega)
    rw [Nat.mul_one,Nat.add_zero] at this
    rw [this,h q hq]
    simp [lst,eB]
  . rw [List.getElem?_eq_none (by rw [flat_len eB_len,lst_len];omega),List.getElem?_eq_none (by omega)]
 refine ⟨by rw [flat_len eB_len],Or.inr ⟨g,20,cs.toArray,by rw [lst_len],hb,hk,by rw [lst_len];exact Nat.le_refl _,by unfold maxLen;omega,by simp [hl],?_⟩⟩
 rw [e,lst_len]
 simp [<- hl]
def bt (x:Int) (i:Nat):Int:=x / 256 ^ i % 256
theorem bt_bd (x:Int) (i:Nat):0<=bt x i/\bt x i<256:=by unfold bt;omega
theorem pow256' (n:Nat):(2:Int) ^ (8*n)=256 ^ n:=by rw [Int.pow_mul];rfl
theorem byte_is (x:Int) (j:Int) (j0:0<=j):x / 2 ^ (8*j).toNat % 256=bt x j.toNat:=by
 rw [show (8*j).toNat=8*j.toNat by omega,pow256'];rfl
theorem mod_step (X P:Nat) (hP:0<P):X % (P*256)=X % P+X / P % 256*P:=by
 rw [Nat.mod_mul,Nat.mul_comm]
theorem le_bt {c:Nat->Int} {a:Nat} {x:Int} (x0:0<=x): ∀ n,(∀ i,i<n->c (a+i)=bt x i)->le c a n=x % 256 ^ n
 | 0, _ => by simp [le]
 | n + 1, h => by
  rw [le,le_bt x0 n (fun i hi=>h i (by omega)),h n (by omega)]
  unfold bt
  obtain ⟨X,rfl⟩: ∃ X:Nat,x=X:=⟨x.toNat,by omega⟩
  have:=mod_step X (256 ^ n) (Nat.pow_pos (by omega))
  have e:((256 ^ n:Nat):Int)=256 ^ n:=by rw [Int.natCast_pow];rfl
  rw [Int.pow_succ,<- e]
  have:=congrArg (fun q:Nat=>(q:Int)) this
  simp only [Int.natCast_emod,Int.natCast_add,Int.natCast_mul,Int.natCast_ediv] at this
  rw [show (((256:Nat)):Int)=256 from rfl] at this
  exact this.symm
def ent1 (f l:Int) (k:Nat):Nat->Int:=fun q=>if q<k then bt f q else if 8<=q/\q<8+k then bt l (q-8) else 0
def ent2 (f l d:Int) (k:Nat):Nat->Int:=fun q=>if 16<=q/\q<16+k then bt d (q-16) else ent1 f l 8 q
def entB (x:Ar):List Int:=lst (ent2 x.f x.l x.k 4) 20
theorem makeB (w:World): ∃ w',(Instr.makeSlice 88 (.int .i64 20) (.int .i64 20)).run Tryz.prog w=.ok (.slice (some ⟨w.heap.size,0,none⟩) 20 20) w'/\Pg w' w.heap.size (ent1 0 0 0)/\bc w w':=by
 obtain ⟨i0,hq,h1,h2,h3⟩:=infoB
 have r:=run_make (P:=Tryz.prog) w 88 5 i0 (.int .u8 0) Tryz.underlying88 hq h1 .i64 .i64 20 20 (by omega) (by omega) (by rw [h3];omega) (by omega)
 rw [show (20:Int).toNat=20 from rfl,h2,Nat.mul_one] at r
 refine ⟨_,r,⟨(madeCells (Value.int .u8 0).cells 20).toList,?_,?_,fun q hq=> ?_⟩,baa⟩
 . have:=own1 w (.cells (madeCells (Value.int .u8 0).cells 20) 5)
   show _=_
   rw [Array.toArray_toList];exact this
 . rw [Array.length_toList,size_madeCells]
 . rw [Array.getElem?_toList]
   unfold madeCells ent1
   simp [hq,Value.cells]
   rw [Nat.mod_one]
   rw [if_neg (by omega)];rfl
theorem entry_call (f l d:Int) (f0:0<=f) (f1:f<18446744073709551616) (l0:0<=l) (l1:l<18446744073709551616) (d0:0<=d) (d1:d<4294967296) (w:World) :
 Calls Tryz.prog 48 #[.int .u64 f,.int .u64 l,.int .u32 d] w fun e w'=> ∃ g,e=.returned (.slice (some ⟨g,0,none⟩) 20 20)/\OL 5 1 eB w' w.heap.size (.slice (some ⟨g,0,none⟩) 20 20) (entB ⟨f,l,d⟩)/\bc w w':=by
 obtain ⟨w1,hr,P0,B0⟩:=makeB w
 obtain ⟨g,hg⟩: ∃ g,w.heap.size=g:=⟨_,rfl⟩
 have HG:Hid (w.heap.size=g):=hg
 rw [hg] at P0 hr
 have HP0:Hid (Pg w1 g (ent1 f l 0)/\bc w w1):=⟨P0.congr (fun q _=>by unfold ent1;rw [if_neg (by omega),if_neg (by omega),if_neg (by omega),if_neg (by omega)]),B0⟩
 clear P0 B0 hg
 go_enter Tryz.func48,Tryz.ntmps48
 go_wp2_with fail
 go_loopw [8] (fun i W=> ∃ j:Int,0<=j/\j<=8/\i=.int .i64 j/\Hid (Pg W g (ent1 f l j.toNat)/\bc w W)) (fun i _=>(8-Go.RowKit.intOf i).toNat)
 case atStart=>exact ⟨0,by omega,by omega,rfl,HP0⟩
 case round =>
  clear HP0 hr
  obtain ⟨j,j0,j8,rfl,J⟩:=hrel
  by_cases cj:j<8
  . have e1:decide (j<8)=true:=decide_eq_true cj
    obtain ⟨y0,y1⟩:=J.out.1.cell (q:=j.toNat) (by omega)
    have HJ:Hid (Pg wr g (ent1 f l j.toNat)):=J.out.1
    have S1:=J.out.1.set (q:=j.toNat) (by omega) (f / 2 ^ (8*j).toNat % 256)
    have HS1:Hid (Pg (wr.setCell ⟨g,j.toNat,none⟩ (.int .u8 (f / 2 ^ (8*j).toNat % 256))) g (fun x=>if x=j.toNat then f / 2 ^ (8*j).toNat % 256 else ent1 f l j.toNat x)/\bc w (wr.setCell ⟨g,j.toNat,none⟩ (.int .u8 (f / 2 ^ (8*j).toNat % 256)))):=⟨S1,J.out.2.setCell (p:=⟨g,j.toNat,none⟩) (by show _<=g;have:=HG.out;omega) _⟩
    clear S1 J y0 y1
    obtain ⟨y0,y1⟩:=(show Pg wr g (ent1 f l j.toNat) from HJ.out).cell (q:=j.toNat) (by omega)
    go_upto_region 6 with fail
    clear y0 y1
    generalize wr.setCell ⟨g,j.toNat,none⟩ (.int .u8 (f / 2 ^ (8*j).toNat % 256))=X at HS1 |-
    obtain ⟨y2,y3⟩:=HS1.out.1.cell (q:=(8+j).toNat) (by omega)
    have S2:=HS1.out.1.set (q:=(8+j).toNat) (by omega) (l / 2 ^ (8*j).toNat % 256)
    have J2:Hid (Pg (X.setCell ⟨g,(8+j).toNat,none⟩ (.int .u8 (l / 2 ^ (8*j).toNat % 256))) g (ent1 f l (j+1).toNat)/\bc w (X.setCell ⟨g,(8+j).toNat,none⟩ (.int .u8 (l / 2 ^ (8*j).toNat % 256)))):=by
     refine ⟨S2.congr (fun q hq=> ?_),HS1.out.2.setCell (p:=⟨g,(8+j).toNat,none⟩) (by show _<=g;have:=HG.out;omega) _⟩
     rw [byte_is f j j0,byte_is l j j0]
     unfold ent1
     by_cases q1:q=(8+j).toNat
     . rw [if_pos q1,if_neg (by omega),if_pos (by omega),show q-8=j.toNat by omega]
     . rw [if_neg q1]
       by_cases q2:q=j.toNat
       . rw [if_pos q2,if_pos (by omega),q2]
       . rw [if_neg q2]
         by_cases q3:q<j.toNat
         . rw [if_pos q3,if_pos (by omega)]
         . have a1: ¬ q<(j+1).toNat:=by omega
           by_cases q4:8<=q/\q<8+j.toNat
           . have a2:8<=q/\q<8+(j+1).toNat:=by omega
             rw [if_neg q3,if_pos q4,if_neg a1,if_pos a2]
           . have a2: ¬ (8<=q/\q<8+(j+1).toNat):=by omega
             rw [if_neg q3,if_neg q4,if_neg a1,if_neg a2]
    clear S2 HS1 HJ
    generalize ent1 f l j.toNat (8+j).toNat=old at y2
    go_wp2_with fail
    go_roundw
    case rel=>exact ⟨j+1,by omega,by omega,rfl,J2⟩
    case measure=>simp [Go.RowKit.intOf];omega
  . obtain rfl:j=8:=by omega
    have e1:decide ((8:Int)<8)=false:=by decide
    have P1:Hid (Pg wr g (ent2 f l d 0)/\bc w wr):=⟨J.out.1.congr (fun q _=>by unfold ent2;rw [if_neg (by omega)];rfl),J.out.2⟩
    clear J
    go_wp2_with fail
    go_loopw [9] (fun i W=> ∃ j:Int,0<=j/\j<=4/\i=.int .i64 j/\Hid (Pg W g (ent2 f l d j.toNat)/\bc w W)) (fun i _=>(4-Go.RowKit.intOf i).toNat)
    case atStart=>exact ⟨0,by omega,by omega,rfl,P1⟩
    case round =>
     clear P1
     obtain ⟨j,j0,j8,rfl,J⟩:=hrel
     by_cases cj:j<4
     . have e1:decide (j<4)=true:=decide_eq_true cj
       obtain ⟨y0,y1⟩:=J.out.1.cell (q:=(16+j).toNat) (by omega)
       have S1:=J.out.1.set (q:=(16+j).toNat) (by omega) (d / 2 ^ (8*j).toNat % 256)
       have J2:Hid (Pg (wr.setCell ⟨g,(16+j).toNat,none⟩ (.int .u8 (d / 2 ^ (8*j).toNat % 256))) g (ent2 f l d (j+1).toNat)/\bc w (wr.setCell ⟨g,(16+j).toNat,none⟩ (.int .u8 (d / 2 ^ (8*j).toNat % 256)))):=by
        refine ⟨S1.congr (fun q hq=> ?_),J.out.2.setCell (p:=⟨g,(16+j).toNat,none⟩) (by show _<=g;have:=HG.out;omega) _⟩
        rw [byte_is d j j0]
        unfold ent2
        by_cases q1:q=(16+j).toNat
        . rw [if_pos q1,if_pos (by omega),show q-16=j.toNat by omega]
        . rw [if_neg q1]
          by_cases q4:16<=q/\q<16+j.toNat
          . rw [if_pos q4,if_pos (by omega)]
          . rw [if_neg q4,if_neg (by omega)]
       clear S1 J
       generalize ent2 f l d j.toNat (16+j).toNat=old at y0
       go_wp2_with fail
       go_roundw
       case rel=>exact ⟨j+1,by omega,by omega,rfl,J2⟩
       case measure=>simp [Go.RowKit.intOf];omega
     . obtain rfl:j=4:=by omega
       have e1:decide ((4:Int)<4)=false:=by decide
       go_wp2_with fail
       go_ret
       exact ⟨g,rfl,J.out.1.own (by have:=HG.out;omega),J.out.2⟩
theorem ent_byt (x:Ar): ∀ y∈entB x,0<=y/\y<256:=by
 intro y hy
 unfold entB lst at hy
 obtain ⟨q,_,rfl⟩:=List.mem_map.1 hy
 unfold ent2 ent1
 split
 . exact bt_bd _ _
 . split
   . exact bt_bd _ _
   . split
     . exact bt_bd _ _
     . omega
theorem ent_len (x:Ar):(entB x).length=20:=lst_len _ _
theorem ent_back {x:Ar} (hx:x.wf) {B:Nat->Int} {a:Nat} (h: ∀ i,i<20->B (a+i)=(entB x).getD i 0):arB B a=x:=by
 have g: ∀ i,i<20->B (a+i)=ent2 x.f x.l x.k 4 i:=fun i hi=>by
  rw [h i hi,List.getD_eq_getElem?_getD]
  simp [entB,lst,hi]
 obtain ⟨⟨f0,f1⟩,⟨l0,l1⟩,⟨k0,k1⟩⟩:=hx
 have h1:le B a 8=x.f % 256 ^ 8:=le_bt f0 8 (fun i hi=>by rw [g i (by omega)];unfold ent2 ent1;rw [if_neg (by omega),if_pos hi])
 have h2:le B (a+8) 8=x.l % 256 ^ 8:=le_bt l0 8 (fun i hi=>by rw [Nat.add_assoc,g (8+i) (by omega)];unfold ent2 ent1;rw [if_neg (by omega),if_neg (by omega),if_pos (by omega),show 8+i-8=i by omega])
 have h3:le B (a+16) 4=x.k % 256 ^ 4:=le_bt k0 4 (fun i hi=>by rw [Nat.add_assoc,g (16+i) (by omega)];unfold ent2;rw [if_pos (by omega),show 16+i-16=i by omega])
 unfold arB
 rw [h1,h2,h3]
 have e1:x.f % 256 ^ 8=x.f:=Int.emod_eq_of_lt f0 (by simpa using f1)
 have e2:x.l % 256 ^ 8=x.l:=Int.emod_eq_of_lt l0 (by simpa using l1)
 have e3:x.k % 256 ^ 4=x.k:=Int.emod_eq_of_lt k0 (by simpa using k1)
 rw [e1,e2,e3]
def BL (L:List Int):Nat->Int:=fun i=>L.getD i 0
theorem bl_bd {L:List Int} (h:Byt L) (i:Nat):0<=BL L i/\BL L i<256:=by
 unfold BL
 rw [List.getD_eq_getElem?_getD]
 by_cases c:i<L.length
 . rw [List.getElem?_eq_getElem c];exact h _ (List.getElem_mem c)
 . rw [List.getElem?_eq_none (by omega)];simp
theorem bl_cells {w:World} {base g n c:Nat} {L:List Int} (hn:n=L.length) (O:OL 5 1 eB w base (.slice (some ⟨g,0,none⟩) n c) L):g<w.heap.size/\n<=c/\(∀ i,i<n->w.cell? ⟨g,0+i,none⟩=some (.int .u8 (BL L i)))/\base<=g:=by
 subst hn
 rcases ol_ll eB_len O with ⟨e,_⟩ | ⟨g',o',c',e,hc,l0,lg,h⟩
 . cases e
 . cases e
   refine ⟨lg,hc,fun i hi=> ?_,l0⟩
   have:=h i hi 0 (by omega)
   rw [Nat.mul_one,Nat.add_zero] at this
   rw [this]
   unfold BL
   rw [List.getD_eq_getElem?_getD,List.getElem?_eq_getElem hi];rfl
end Go.Proofs.YtgbdnnkkcpkhdaaGreatDoor.Bm
