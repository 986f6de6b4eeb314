import Derived.Test.YtgbdnnkkcpkhdaaGreatDoorMBc
set_option linter.unusedSimpArgs false
set_option linter.unusedVariables false
set_option maxRecDepth 8000
set_option maxHeartbeats 4000000
open Go.ChangeShapes Go.WideShapes Go.ChangeAt Go.RowKit Go.Maps
namespace Go.Proofs.YtgbdnnkkcpkhdaaGreatDoor.Tt
theorem frames_c {X:Nat->Prop} {W:World} {m:Pm} {s:Ps} (h:Pu X W m s):Calls Tryz.prog 86 #[pp m.rb] W fun e w'=>e=.returned (.int .i64 m.F)/\w'=W:=by
 obtain ⟨mb,S,pg,q1,q2,hk,q3,q4,_⟩:=h.isRam
 have lr:=hk.2.1 _ hk.1
 clear hk q1 q2 q3 h
 go_enter Tryz.func86,Tryz.ntmps86
 go_wp2_with fail
 go_ret
 exact ⟨rfl,rfl⟩
theorem TI.q {X:Nat->Prop} {W0 w:World} {A k:Nat} {m:Pm} {st:Ps} {L:List Nat} {v:Value} (H:TI X W0 A m k st L v w) {q':Nat} (hq:st.q<=q'):TI X W0 A m k { st with q:=q' } L v w :=
 ⟨H.pu.q hq,H.box,H.own,H.kx,H.ne,H.pos,H.x0,H.xl⟩
def tab1 (root:Nat):Nat->Nat->Option Nat:=fun l x=>if l=4/\x=0 then some root else none
theorem tab1_is {root l x f:Nat} (h:tab1 root l x=some f):l=4/\x=0/\f=root:=by
 unfold tab1 at h
 by_cases c:l=4/\x=0
 . rw [if_pos c] at h;cases h;exact ⟨c.1,c.2,rfl⟩
 . rw [if_neg c] at h;cases h
theorem tab1_4 (root:Nat):tab1 root 4 0=some root:=if_pos ⟨rfl,rfl⟩
theorem pw_root {M:Int->Int} {root:Nat} (hz: ∀ i:Nat,i<512->i≠256->En M root i=0):PW M root (tab1 root) (fun _=>none):=by
 refine ⟨tab1_4 root,fun l x f e=> ?_,fun l x f hl e=> ?_,fun l x g h1 h2 h3 e1 e2=> ?_,(fun p v e=>by cases e),fun p g hp _ e=> ?_,fun l x l' x' f e1 e2=> ?_⟩
 . obtain ⟨rfl,rfl,_⟩:=tab1_is e;exact ⟨by omega,by omega,fun _=>rfl,by omega⟩
 . have:=(tab1_is e).1;omega
 . obtain ⟨a,b,rfl⟩:=tab1_is e2
   have:=h3 (by omega)
   exact hz _ (m512 x) (by omega)
 . have:=(tab1_is e).1;omega
 . have a:=tab1_is e1;have b:=tab1_is e2;omega
theorem full_root (root:Nat):Full (tab1 root) (fun _=>none):=fun l x f hl e=>by have:=(tab1_is e).1;omega
def Rooted (X:Nat->Prop) (W:World) (m:Pm) (s:Ps) (k root:Nat) (w':World):Prop :=
 ∃ M':Int->Int,s.Fr root/\Pu X w' m { takeS s k [root] with M:=M',q:=s.q+2 }/\Kx X W w'/\(∀ i:Nat,i<512->i≠256->En M' root i=0)/\ ∀ f:Nat,f≠root-> ∀ j:Nat,j<512->En M' f j=En s.M f j
theorem root_ok {X:Nat->Prop} {W:World} {m:Pm} {s:Ps} (h:Pu X W m s) (k:Nat) (b:Box m s k) (hq:s.q<4000000000000000000) (hr:1<=(s.T k).room) (kf:Nat) (hkf:kf<1048576) :
 Calls Tryz.prog 12 #[pv m k,.int .i64 kf] W fun e w'=> ∃ root:Nat,e=.returned (.tuple #[.int .i64 root,.int .i64 0])/\Rooted X W m s k root w':=by
 have HB:bc W (W.alloc (.cells #[pp m.rb,pp m.b,pp m.tb,.int .i64 k] 66)):=baa
 obtain ⟨X2,hX2⟩: ∃ X2:Nat->Prop,X2=XW X W (W.alloc (.cells #[pp m.rb,pp m.b,pp m.tb,.int .i64 k] 66)):=⟨_,rfl⟩
 have xl:X2 W.heap.size:=by rw [hX2];exact xw_last X W _
 have P0:Pu X2 (W.alloc (.cells #[pp m.rb,pp m.b,pp m.tb,.int .i64 k] 66)) m s:=by rw [hX2];exact h.grow HB
 have BA:Blk (W.alloc (.cells #[pp m.rb,pp m.b,pp m.tb,.int .i64 k] 66)) W.heap.size [pp m.rb,pp m.b,pp m.tb,.int .i64 k] 66:=Blk.made W [pp m.rb,pp m.b,pp m.tb,.int .i64 k] 66
 have TC:Hid (Calls Tryz.prog 23 #[pv m k] (W.alloc (.cells #[pp m.rb,pp m.b,pp m.tb,.int .i64 k] 66)) fun e w'=> ∃ p:Nat,e=.returned (.tuple #[.int .i64 p,.int .i64 0])/\s.Fr p/\Pu X2 w' m { takeS s k [p] with M:=mzero s.M p }/\Kx X2 (W.alloc (.cells #[pp m.rb,pp m.b,pp m.tb,.int .i64 k] 66)) w'/\Blk w' W.heap.size [pp m.rb,pp m.b,pp m.tb,.int .i64 k] 66):=by
  refine (take_ok P0 k b hr).mono ?_
  rintro e w' ⟨p,he,hF,hp,hk⟩
  exact ⟨p,he,hF,hp,hk,BA.kx hk xl⟩
 have SC:Hid (∀ (w:World) (p:Nat),s.Fr p->Pu X2 w m { takeS s k [p] with M:=mzero s.M p }->Kx X2 (W.alloc (.cells #[pp m.rb,pp m.b,pp m.tb,.int .i64 k] 66)) w->Calls Tryz.prog 24 #[pv m k,.int .i64 p,.int .i64 256,ev true true false false false false false false (kf:Nat)] w fun e w'=>e=.returned (.tuple #[])/\Rooted X W m s k p w'):=fun w p hF hp hk=>by
  refine (set_any hp (by show s.q<_;omega) k p 256 (h.so.fh p hF) (by omega) (by omega) true true false false false false false false (kf:Nat) (by omega) (by omega)).mono ?_
  rintro e w' ⟨he,hp2,hk2⟩
  refine ⟨he,_,hF,hp2.less (fun j hj=>by rw [hX2];exact Or.inl hj) h.x0,?_,fun i hi h6=> ?_,fun f hf j hj=> ?_⟩
  . have k3:=hk.trans hk2
    rw [hX2] at k3
    exact kx_of h HB k3
  . show En (enSet (mzero s.M p) p 256 _) p i=0
    rw [en_other _ _ (by omega) (by omega) (by omega) (by omega) (Or.inr (by omega))]
    exact en_zero _ _ _ (by omega) (by omega)
  . show En (enSet (mzero s.M p) p 256 _) f j=_
    rw [en_other _ _ (by omega) (by omega) (by omega) (by omega) (Or.inl (by omega))]
    exact en_zero_other _ (by omega) (by omega) (by omega)
 have BX:=BA
 have c0:(W.alloc (.cells #[pp m.rb,pp m.b,pp m.tb,.int .i64 k] 66)).cell? ⟨W.heap.size,0,none⟩=some (pp m.rb):=BX.cell 0
 have c1:(W.alloc (.cells #[pp m.rb,pp m.b,pp m.tb,.int .i64 k] 66)).cell? ⟨W.heap.size,1,none⟩=some (pp m.b):=BX.cell 1
 have c2:(W.alloc (.cells #[pp m.rb,pp m.b,pp m.tb,.int .i64 k] 66)).cell? ⟨W.heap.size,2,none⟩=some (pp m.tb):=BX.cell 2
 have c3:(W.alloc (.cells #[pp m.rb,pp m.b,pp m.tb,.int .i64 k] 66)).cell? ⟨W.heap.size,3,none⟩=some (.int .i64 k):=BX.cell 3
 have HA:Hid (_):=BA
 clear h b hq hr hkf HB P0 BA BX xl hX2
 go_enter Tryz.func12,Tryz.ntmps12
 go_wp2_with fail
 refine Calls.mono TC.out ?_
 rintro e w1 ⟨p,rfl,hF,hp,hk,BX⟩
 have S1:Hid (_):=SC.out w1 p hF hp hk
 clear c0 c1 c2 c3
 have c0:w1.cell? ⟨W.heap.size,0,none⟩=some (pp m.rb):=BX.cell 0
 have c1:w1.cell? ⟨W.heap.size,1,none⟩=some (pp m.b):=BX.cell 1
 have c2:w1.cell? ⟨W.heap.size,2,none⟩=some (pp m.tb):=BX.cell 2
 have c3:w1.cell? ⟨W.heap.size,3,none⟩=some (.int .i64 k):=BX.cell 3
 have lA:=BX.lt
 clear hF hp hk BX TC SC HA
 go_wp2_with fail
 refine Calls.mono S1.out ?_
 rintro e w2 ⟨rfl,hR⟩
 have H2:Hid (Rooted X W m s k p w2):=hR
 clear hR
 go_wp2_with fail
 go_returns
 exact ⟨p,rfl,H2.out⟩
theorem new5 (F:Int) (f0:1<=F) (f1:F<=1048576) (w:World) :
 Calls Tryz.prog 44 #[.int .i64 F,.slice none 0 0] w fun e w'=> ∃ (rb:Nat) (K:Nat->Prop) (S:List Nat),e=.returned (.tuple #[.pointer (some ⟨rb,0,none⟩),.int .i64 0])/\Ram5 w' K S rb (hasF F) F (fun _=>0) 0/\(∀ j,j<w.heap.size->K j)/\(∀ s,s∈S->w.heap.size<=s)/\bc w w':=by
 refine (new_walk F f0 f1 w).mono ?_
 rintro e w' ⟨he,hw⟩
 subst hw
 have hsz:(w.alloc (.map #[] 0)).heap.size=w.heap.size+1:=World.size_alloc ..
 have hg:(w.alloc (.map #[] 0)).grownBy ((w.alloc (.map #[] 0)).alloc (.cells #[.int .i64 F,.slice none 0 0,.map (some w.heap.size)] 195)) none:=World.grownBy_alloc _ _ none
 have hc: ∀ i,((w.alloc (.map #[] 0)).alloc (.cells #[.int .i64 F,.slice none 0 0,.map (some w.heap.size)] 195)).cell? ⟨w.heap.size+1,i,none⟩= #[Value.int .i64 F,.slice none 0 0,.map (some w.heap.size)][i]? :=fun i=>World.cell?_alloc_at _ _ _ _ hsz.symm
 have hok:HasOk ((w.alloc (.map #[] 0)).alloc (.cells #[.int .i64 F,.slice none 0 0,.map (some w.heap.size)] 195)) (w.heap.size+1) [w.heap.size+1] (hasF F):=by
  refine ⟨by simp,?_,?_⟩
  . intro s hs
    simp at hs
    subst hs
    rw [World.size_alloc,hsz];omega
  . intro w1 e1 _ k
    have hb:=e1 (w.heap.size+1) (by simp)
    refine (has_nil (w.heap.size+1) F k w1 ?_ ?_).mono ?_
    . rw [World.cell?_of_block (a:=⟨w.heap.size+1,0,none⟩) hb];exact hc 0
    . rw [World.cell?_of_block (a:=⟨w.heap.size+1,1,none⟩) hb];exact hc 1
    . rintro e w2 ⟨he2,hw2⟩
      exact ⟨he2,by rw [hw2];exact World.grownBy.refl _ _⟩
 refine ⟨w.heap.size+1,fun j=>j<w.heap.size\/j∈[w.heap.size+1],[w.heap.size+1],he,⟨⟨w.heap.size,[w.heap.size+1],fun _=>none,⟨Nat.zero_le _,Nat.zero_le _,hok,by simp,hc 0,hc 2,(Mem.made w).kept hg (by simp),?_,?_,?_,?_⟩,?_,?_,?_⟩,hok,fun s hs=>Or.inr hs⟩,fun j hj=>Or.inl hj,?_,?_⟩
 . intro k b h;cases h
 . intro k k' b h;cases h
 . intro k _ i _;rfl
 . intro t;exact ⟨by simp,by simp⟩
 . simp
 . intro k b h;cases h
 . intro j hj
   rw [World.size_alloc,hsz]
   simp at hj;omega
 . intro s hs';simp at hs';omega
 . exact ((Below.refl _ _).alloc (Nat.le_refl _) _).alloc ke _
abbrev from1 (F:Int):Nat->Prop:=fun i=>1<=i/\(i:Int)<F
abbrev pm0 (rb b tb:Nat) (F:Int):Pm:=⟨rb,b,tb,hasF F,F⟩
abbrev ps0 (Fr:Nat->Prop) (may:Int):Ps:=⟨fun _=>0,Fr,Bd.noneF,Qu.rootT may,0⟩
theorem has_is (F k:Int):hasF F k=true↔0<=k/\k<F:=by unfold hasF;simp
theorem sound0 {rb b tb:Nat} {F G may:Int} (h1:F<=1000000) (hG:G<=F) (m0:0<=may) (m1:may<=1048576):Sound (pm0 rb b tb F) (ps0 (fun i=>1<=i/\(i:Int)<G) may) :=
 ⟨fun k hk=>(has_is F k).1 hk,h1,fun i hi=>(has_is F i).2 ⟨by omega,by have:=hi.2;omega⟩,(fun x hx=>by cases hx),(Qu.root_good may m0 m1).okT,fun i _=>rfl⟩
theorem cnt_from (G:Nat) (hG:1<=G) (h:G<=1048576):Bd.cnt (fun i:Nat=>1<=i/\(i:Int)<(G:Int)) 1048576=G-1:=by
 have e:(fun i:Nat=>1<=i/\(i:Int)<(G:Int))=(fun i=>1<=i/\i<G):=by funext i;apply propext;omega
 rw [e,Bd.cnt_seg 1 G hG];omega
theorem root0 (q:Int):Qu.rootT q 0=⟨-1,q,0,0,true⟩:=Qu.put_same _ _ _
theorem take_room (s:Ps) (k:Nat) (L:List Nat):((takeS s k L).T k).room=(s.T k).room-L.length:=by
 show (usedT s.T k (L.length:Int) k).room=_
 rw [used_at]
 show (s.T k).quota-((s.T k).used+L.length)-(s.T k).lent=(s.T k).quota-(s.T k).used-(s.T k).lent-L.length
 omega
theorem take_used (s:Ps) (k:Nat) (L:List Nat):((takeS s k L).T k).used=(s.T k).used+L.length:=by
 show (usedT s.T k (L.length:Int) k).used=_
 rw [used_at];rfl
theorem take_live (s:Ps) (k:Nat) (L:List Nat):((takeS s k L).T k).live=(s.T k).live:=by
 show (usedT s.T k (L.length:Int) k).live=_
 rw [used_at];rfl
theorem take_cnt {m:Pm} {s:Ps} (so:Sound m s) (k:Nat) {L:List Nat} (IN:InL s L):Bd.cnt (takeS s k L).Fr 1048576+L.length=Bd.cnt s.Fr 1048576:=cnt_out so.frb L IN.1 IN.2
structure Nums (m:Pm) (s:Ps) (k:Nat) (room used:Int) (free:Nat):Prop where
 k6:k<64
 live:(s.T k).live=true
 room:(s.T k).room=room
 used:(s.T k).used=used
 free:Bd.cnt s.Fr 1048576=free
theorem Nums.box {m:Pm} {s:Ps} {k:Nat} {r u:Int} {f:Nat} (h:Nums m s k r u f) (hf:10<=f\/r<=f):Box m s k :=
 ⟨h.k6,h.live,by rw [h.room,h.free];omega⟩
theorem Nums.take {m:Pm} {s:Ps} {k:Nat} {r u:Int} {f:Nat} (h:Nums m s k r u f) (so:Sound m s) {L:List Nat} (IN:InL s L) (M:Int->Int) (q:Nat):Nums m { takeS s k L with M:=M,q:=q } k (r-L.length) (u+L.length) (f-L.length) :=
 ⟨h.k6,(take_live s k L).trans h.live,(take_room s k L).trans (by rw [h.room]),(take_used s k L).trans (by rw [h.used]),by have:=take_cnt so k IN;have:=h.free;show Bd.cnt (takeS s k L).Fr 1048576=_;omega⟩
theorem nums0 (m:Pm) (G:Nat) (may:Int) (hG:1<=G) (h:G<=1048576):Nums m (ps0 (fun i=>1<=i/\(i:Int)<(G:Int)) may) 0 may 0 (G-1):=by
 refine ⟨by omega,?_,?_,?_,cnt_from G hG h⟩
 . show (Qu.rootT may 0).live=true;rw [root0]
 . show (Qu.rootT may 0).room=may;rw [root0];show may-0-0=may;omega
 . show (Qu.rootT may 0).used=0;rw [root0]
theorem rt_root {m:Pm} {s:Ps} {k root:Nat} {M':Int->Int} {q:Nat} (so:Sound m s) (hF:s.Fr root) (hz: ∀ i:Nat,i<512->i≠256->En M' root i=0):Rt m { takeS s k [root] with M:=M',q:=q } root (tab1 root) (fun _=>none) :=
 ⟨pw_root hz,full_root root,fun l x f e=>by
  obtain ⟨_,_,rfl⟩:=tab1_is e
  refine ⟨so.fh f hF,?_,fun q=> ?_⟩
  . show (if 0<=(f:Int)/\(f:Int).toNat∈[f] then some 0 else s.G f)=some 0
    rw [if_pos ⟨by omega,by simp⟩]
  . exact q.2 (by simp)⟩
theorem rt_mapped {m:Pm} {s:Ps} {k root:Nat} {tab tab':Nat->Nat->Option Nat} {lf lf':Nat->Option Lf} {M':Int->Int} {q:Nat} {L:List Nat} (so:Sound m s) (H:Rt m s root tab lf) (IN:InL s L) (pw:PW M' root tab' lf') (fu:Full tab' lf') (new: ∀ l x f,tab' l x=some f->tab l x=some f\/f∈L):Rt m { takeS s k L with M:=M',q:=q } root tab' lf' :=
 ⟨pw,fu,fun l x f e=>by
  rcases new l x f e with o | o
  . obtain ⟨a,b,c⟩:=H.ow l x f o
    refine ⟨a,?_,fun q=>c q.1⟩
    show (if 0<=(f:Int)/\(f:Int).toNat∈L then some 0 else s.G f)=some 0
    split
    . rfl
    . exact b
  . refine ⟨so.fh f (IN.2 f o),?_,fun q=>q.2 o⟩
    show (if 0<=(f:Int)/\(f:Int).toNat∈L then some 0 else s.G f)=some 0
    rw [if_pos ⟨by omega,by simpa using o⟩]⟩
def KT (L:List Nat) (kf st:Nat) (M0 M:Int->Int):Prop:= ∃ z:Nat,L=[kf,z]/\(∀ f:Nat,f∉L-> ∀ j:Nat,j<512->En M f j=En M0 f j)/\(∀ j:Nat,j<512->En M kf j=if 1<=st/\j=0 then packV true true false false false false false false (z:Nat) else 0)/\ ∀ j:Nat,j<512->En M z j=if 2<=st/\j=0 then packV true true false false false true true true 0 else 0
theorem kt_zero (M0:Int->Int) (L:List Nat) (kf:Nat) (hl:L.length=2) (hk:L[0]'(by omega)=kf):KT L kf (2*0) M0 (zeroL M0 L):=by
 obtain ⟨x,y,e⟩: ∃ x y,L=[x,y]:=by
  match L,hl with
  | [x, y], _ => exact ⟨x, y, rfl⟩
 subst e
 have hx:x=kf:=hk
 subst hx
 refine ⟨y,rfl,fun f hf j hj=>zeroL_other _ hf j hj,fun j hj=> ?_,fun j hj=> ?_⟩
 . rw [zeroL_in _ (by simp) j hj,if_neg (by omega)]
 . rw [zeroL_in _ (by simp) j hj,if_neg (by omega)]
theorem kt_list {L:List Nat} {kf st z:Nat} {M0 M:Int->Int} (h:KT L kf st M0 M) (hz:L[1]? =some z):L=[kf,z]:=by
 obtain ⟨y,e,_⟩:=h
 subst e
 have:y=z:=by simpa using hz
 rw [this]
theorem kt_one {L:List Nat} {kf z:Nat} {M0 M:Int->Int} (h:KT L kf (2*0) M0 M) (nd:L.Nodup) (hz:L[1]? =some z) (z6:z<1048576):KT L kf 1 M0 (enSet M kf (0:Nat) (packV true true false false false false false false (z:Nat))):=by
 have e:=kt_list h hz
 obtain ⟨y,e',q1,q2,q3⟩:=h
 rw [e] at e'
 have:z=y:=by simpa using e'
 subst this
 subst e
 have ne:kf≠z:=fun q=>by rw [q] at nd;simp at nd
 have bd:=pack_bd true true false false false false false false (z:Int) (by omega) (by omega)
 refine ⟨z,rfl,fun f hf j hj=> ?_,fun j hj=> ?_,fun j hj=> ?_⟩
 . rw [<- q1 f hf j hj]
   exact en_o M _ (i:=0) (by omega) hj (fun e=>hf (by rw [e.1];simp))
 . by_cases c:j=0
   . subst c
     rw [if_pos ⟨by omega,rfl⟩]
     exact en_same M _ _ _ bd.1 bd.2
   . rw [if_neg (by omega),en_o M _ (i:=0) (by omega) hj (fun e=>c e.2),q2 j hj,if_neg (by omega)]
 . rw [en_o M _ (i:=0) (by omega) hj (fun e=>ne e.1.symm),q3 j hj,if_neg (by omega),if_neg (by omega)]
theorem kt_two {L:List Nat} {kf z:Nat} {M0 M:Int->Int} (h:KT L kf (1+0) M0 M) (nd:L.Nodup) (hz:L=[kf,z]):KT L kf (1+(0+1)) M0 (enSet M (z:Nat) (0:Nat) (packV true true false false false true true true (((0:Nat):Int)*262144+((0:Nat):Int)*512))):=by
 obtain ⟨y,e',q1,q2,q3⟩:=h
 rw [hz] at e'
 have:z=y:=by simpa using e'
 subst this
 subst hz
 have ne:kf≠z:=fun q=>by rw [q] at nd;simp at nd
 have z0:(((0:Nat):Int)*262144+((0:Nat):Int)*512)=0:=by omega
 rw [z0]
 have bd:=pack_bd true true false false false true true true 0 (by omega) (by omega)
 refine ⟨z,rfl,fun f hf j hj=> ?_,fun j hj=> ?_,fun j hj=> ?_⟩
 . rw [<- q1 f hf j hj]
   exact en_o M _ (i:=0) (by omega) hj (fun e=>hf (by rw [e.1];simp))
 . rw [en_o M _ (i:=0) (by omega) hj (fun e=>ne e.1),q2 j hj]
   by_cases c:j=0
   . rw [if_pos ⟨by omega,c⟩,if_pos ⟨by omega,c⟩]
   . rw [if_neg (by omega),if_neg (by omega)]
 . by_cases c:j=0
   . subst c
     rw [if_pos ⟨by omega,rfl⟩]
     exact en_same M _ _ _ bd.1 bd.2
   . rw [if_neg (by omega),en_o M _ (i:=0) (by omega) hj (fun e=>c e.2),q3 j hj,if_neg (by omega)]
theorem kernel_small {X:Nat->Prop} {W:World} {m:Pm} {s:Ps} (h:Pu X W m s) (hF:1<=m.F) (h5:m.F<=512) (k:Nat) (b:Box m s k) (hq:s.q<4000000000000000000) (hr:1+(m.F+262143) / 262144<=(s.T k).room) :
 Calls Tryz.prog 47 #[pv m k] W fun e w'=> ∃ (kf z:Nat),e=.returned (.tuple #[.int .i64 kf,.int .i64 0])/\InL s [kf,z]/\ ∃ M':Int->Int,Pu X w' m { takeS s k [kf,z] with M:=M',q:=s.q+5000 }/\Kx X W w'/\KT [kf,z] kf 2 s.M M':=by
 have HB:Hid (bc W (W.alloc (.cells #[pp m.rb,pp m.b,pp m.tb,.int .i64 k] 66))):=baa
 have BA:Hid (Blk (W.alloc (.cells #[pp m.rb,pp m.b,pp m.tb,.int .i64 k] 66)) W.heap.size [pp m.rb,pp m.b,pp m.tb,.int .i64 k] 66):=Blk.made W [pp m.rb,pp m.b,pp m.tb,.int .i64 k] 66
 have FC:Hid (∀ w:World,bc W w->Calls Tryz.prog 86 #[pp m.rb] w fun e w'=>e=.returned (.int .i64 m.F)/\w'=w):=fun w hb=>frames_c (h.below hb)
 have f0:1<=m.F:=hF
 have f1:m.F<=1000000:=h.so.F1
 have f5:m.F<=512:=h5
 obtain ⟨nt,hnt⟩: ∃ nt:Nat,(nt:Int)=1+(m.F+262143) / 262144:=⟨(1+(m.F+262143) / 262144).toNat,by omega⟩
 have nt5:nt<=5:=by omega
 have nt1:2<=nt:=by omega
 have NT2:Hid (nt=2):=by show nt=2;omega
 obtain ⟨F,hFF⟩: ∃ F,F=m.F:=⟨_,rfl⟩
 rw [<- hFF] at FC f0 f1 f5 hnt
 have w1:IntKind.i64.wrap (F+262144)=F+262144:=kz
 have w2:IntKind.i64.wrap (F+262144-1)=F+262144-1:=kz
 have w3:(F+262144-1).tdiv 262144=(nt:Int)-1:=by rw [Int.tdiv_eq_ediv_of_nonneg (by omega)];omega
 have w4:IntKind.i64.wrap ((nt:Int)-1)=(nt:Int)-1:=kz
 have w5:IntKind.i64.wrap (1+((nt:Int)-1))=(nt:Int):=kz
 have w6:1+((nt:Int)-1)=(nt:Int):=by omega
 have TC:Hid (Calls Tryz.prog 49 #[pv m k,.int .i64 nt] (W.alloc (.cells #[pp m.rb,pp m.b,pp m.tb,.int .i64 k] 66)) fun e w'=> ∃ (L:List Nat) (g c:Nat),e=.returned (.tuple #[.slice (some ⟨g,0,none⟩) nt c,.int .i64 0])/\L.length=nt/\InL s L/\nt<=c/\TI X W W.heap.size m k { takeS s k L with M:=zeroL s.M L } L (.slice (some ⟨g,0,none⟩) nt c) w'):=by
  refine (takeall_ok (h.grow HB.out) k b nt (by omega) (by omega)).mono ?_
  rintro e w' ⟨L,v,he,hl,IN,hp,ho,hk⟩
  obtain ⟨pf,cf,hv,lc,_⟩:=(Li.ol_ll Li.eI_len ho).form
  rw [List.length_map,hl] at hv lc
  subst hv
  obtain ⟨g,rfl,lg,_⟩:=ii_read ho 0 (by omega)
  have bl:=(Li.row_lt ho g rfl).1
  have s1:(W.alloc (.cells #[pp m.rb,pp m.b,pp m.tb,.int .i64 k] 66)).heap.size=W.heap.size+1:=World.size_alloc _ _
  refine ⟨L,g,cf,he,hl,IN,lc,⟨hp.less (fun j hj=> ?_) (Or.inl h.x0),BA.out.kx hk (Or.inr ⟨Nat.le_refl _,by omega⟩),Li.row_weak ho HB.out.size,kx_of h HB.out hk,?_,h.tab.1,h.x0,h.lt⟩⟩
  . rcases hj with x | x | x
    . exact Or.inl (Or.inl x)
    . exact Or.inl (Or.inr ⟨by omega,by omega⟩)
    . exact Or.inr x
  . intro e;have e':some g=some W.heap.size:=e;cases e';omega
 have HFR:Hid (∀ L:List Nat,InL s L-> ∀ x∈L,m.has (x:Nat)=true/\x<1000000):=fun L IN x hx=>⟨h.so.fh x (IN.2 x hx),h.so.frb x (IN.2 x hx)⟩
 have HQ:Hid (s.q<4000000000000000000):=hq
 clear b hr hq
 have HNT:Hid ((nt:Int)=1+(F+262143) / 262144/\F=m.F):=⟨hnt,hFF⟩
 clear h hnt hFF
 go_enter Tryz.func47,Tryz.ntmps47
 go_upto_region 1 with fail
 generalize (W.alloc (.cells #[pp m.rb,pp m.b,pp m.tb,.int .i64 k] 66))=W1 at HB BA TC |-
 obtain ⟨A,hA⟩: ∃ A,W.heap.size=A:=⟨_,rfl⟩
 have HA:Hid (A=W.heap.size):=hA.symm
 rw [hA] at BA |-
 clear hA
 have BX:=BA.out
 have c0:W1.cell? ⟨A,0,none⟩=some (pp m.rb):=BX.cell 0
 have c1:W1.cell? ⟨A,1,none⟩=some (pp m.b):=BX.cell 1
 have c2:W1.cell? ⟨A,2,none⟩=some (pp m.tb):=BX.cell 2
 have c3:W1.cell? ⟨A,3,none⟩=some (.int .i64 k):=BX.cell 3
 have lA:=BX.lt
 clear BX
 go_wp2_with fail
 refine Calls.mono (FC.out W1 HB.out) ?_
 rintro e w0 ⟨rfl,rfl⟩
 go_wp2_with fail
 refine Calls.mono TC.out ?_
 rintro e w4' ⟨L,g,c,rfl,hl,IN0,lc,TI0⟩
 have HI:Hid (L.length=nt/\InL s L):=⟨hl,IN0⟩
 obtain ⟨g',e',lg,hc0⟩:=ii_read TI0.own 0 (by omega)
 cases e'
 obtain ⟨kf,hkf⟩: ∃ kf:Nat,L[0]'(by omega)=kf:=⟨_,rfl⟩
 rw [hkf] at hc0
 have HK:Hid (kf∈L/\m.has (kf:Nat)=true):=by rw [<- hkf];exact ⟨List.getElem_mem _,(HFR.out L IN0 _ (List.getElem_mem _)).1⟩
 have T0:Hid (TI X W A m k { takeS s k L with M:=zeroL s.M L,q:=s.q+2*0 } L (.slice (some ⟨g,0,none⟩) nt c) w4'):=by rw [HA.out];exact TI0
 have OT0:Hid (KT L kf (2*0) s.M (zeroL s.M L)):=kt_zero s.M L kf (hl.trans NT2.out) hkf
 clear TI0 hl IN0 hkf TC FC HB BA c0 c1 c2 c3 lA w1 w2 w3 w4 w5 w6
 have d1:((nt:Int) != 0)=true:=kh
 have d2:decide ((1:Int)<=(nt:Int))=true:=kh
 have d3:decide ((0:Int)<(nt:Int))=true:=kh
 have d4: ¬ (nt:Int)<1:=by omega
 have d5: ¬ (nt:Int)<0:=by omega
 have d6:decide ((nt:Int)<=(c:Int))=true:=kh
 have d7: ¬ nt=1:=by omega
 have d8: ¬ c=1:=by omega
 have d9: ¬ c-1=0:=by omega
 have d10: ¬ c<=1:=by omega
 have d11:1<c:=by omega
 go_upto_region 7 with fail
 obtain ⟨n1,hn1⟩: ∃ n1,nt=n1+1:=⟨nt-1,by omega⟩
 rw [show nt-1=n1 by omega]
 generalize c-1=c1
 have HN1:Hid (nt=n1+1):=hn1
 have n14:n1<=4:=by omega
 clear d1 d2 d3 d4 d5 d6 d7 d8 d9 d10 d11 hc0 lg hn1
 go_loopw [8,9,10,11,34,45] (fun _ _ _ _ va _ w=> ∃ (a:Nat) (M:Int->Int),a<=n1/\va=.int .i64 a/\Hid (TI X W A m k { takeS s k L with M:=M,q:=s.q+1100*a } L (.slice (some ⟨g,0,none⟩) nt c) w)/\Hid (KT L kf (2*a) s.M M)) (fun _ _ _ _ va _ _=>n1-(Go.RowKit.intOf va).toNat)
 case atStart=>exact ⟨0,_,by omega,rfl,T0,OT0⟩
 case round =>
  clear T0 OT0
  obtain ⟨a,M,ha,rfl,TIa,OTa⟩:=hrel
  by_cases ca:a<n1
  rotate_left
  . obtain rfl:a=n1:=by omega
    have d1:decide ((a:Int)<(a:Int))=false:=by simp
    go_wp2_with fail
    go_returns
    have a1:2*a=2:=by have:=HN1.out;have:=NT2.out;omega
    have K2:=OTa.out
    rw [a1] at K2
    obtain ⟨z,eL,q1,q2,q3⟩:=K2
    have IN2:=HI.out.2
    have TP:=TIa.out.pu.less (X':=X) (fun j hj=>Or.inl hj) TIa.out.x0
    have TK:=TIa.out.kx
    clear TIa OTa HI HK HFR
    subst eL
    refine ⟨kf,rfl,z,IN2,M,?_,TK,⟨z,rfl,q1,q2,q3⟩⟩
    exact TP.q (by show s.q+1100*a<=s.q+5000;omega)
  have d1:decide ((a:Int)<(n1:Int))=true:=kh
  have d2:decide ((a:Int)<0)=false:=by simp
  have aL:a+1<L.length:=by have:=HI.out.1;have:=HN1.out;omega
  obtain ⟨g',e',lg,hc⟩:=ii_read TIa.out.own (a+1) aL
  cases e'
  obtain ⟨z,hz⟩: ∃ z:Nat,L[a+1]=z:=⟨_,rfl⟩
  rw [hz] at hc
  rw [Nat.add_comm a 1] at hc
  have HZ:Hid (z∈L/\m.has (z:Nat)=true/\z<1000000):=by
   have zm:z∈L:=by rw [<- hz];exact List.getElem_mem _
   exact ⟨zm,HFR.out L HI.out.2 z zm⟩
  have a9:(a:Int)<512:=by omega
  have SC:Hid (Calls Tryz.prog 24 #[pv m k,.int .i64 kf,.int .i64 a,ev true true false false false false false false (z:Nat)] wr fun e w'=>e=.returned (.tuple #[])/\TI X W A m k { takeS s k L with M:=enSet M kf a (packV true true false false false false false false (z:Nat)),q:=s.q+1100*a+2+2*0 } L (.slice (some ⟨g,0,none⟩) nt c) w'):=by
   refine (set_any TIa.out.pu (by have:=HQ.out;show s.q+1100*a<_;omega) k kf a HK.out.2 (by omega) a9 true true false false false false false false (z:Nat) (by omega) (by have:=HZ.out.2.2;omega)).mono ?_
   rintro e w' ⟨he,hp,hk⟩
   exact ⟨he,TIa.out.step hp hk⟩
  have A0:Hid (a=0):=by have:=HN1.out;have:=NT2.out;show a=0;omega
  have HL1:L[1]? =some z:=by
   rw [<- hz]
   have e1:a+1=1:=by have:=A0.out;omega
   rw [List.getElem?_eq_getElem (by have:=A0.out;omega)]
   congr 1
   simp only [e1]
  have OT1:Hid (KT L kf 1 s.M (enSet M kf a (packV true true false false false false false false (z:Nat)))):=by
   have K0:=OTa.out
   have a0:=A0.out
   rw [a0] at K0 |-
   exact kt_one K0 HI.out.2.1 HL1 (by have:=HZ.out.2.2;omega)
  have HZ1:Hid (L=[kf,z]):=kt_list OTa.out HL1
  clear HL1
  generalize enSet M kf a (packV true true false false false false false false (z:Nat))=M1 at SC OT1
  have BX:=TIa.out.box
  have c0:wr.cell? ⟨A,0,none⟩=some (pp m.rb):=BX.cell 0
  have c1':wr.cell? ⟨A,1,none⟩=some (pp m.b):=BX.cell 1
  have c2:wr.cell? ⟨A,2,none⟩=some (pp m.tb):=BX.cell 2
  have c3:wr.cell? ⟨A,3,none⟩=some (.int .i64 k):=BX.cell 3
  have lA:=BX.lt
  clear BX TIa OTa hz aL
  go_wp2_with fail
  refine Calls.mono SC.out ?_
  rintro e w5 ⟨rfl,hT5⟩
  have TI1:Hid (TI X W A m k { takeS s k L with M:=M1,q:=s.q+1100*a+2+2*0 } L (.slice (some ⟨g,0,none⟩) nt c) w5):=hT5
  clear hT5 SC c0 c1' c2 c3 lA lg hc
  go_wp2_with fail
  go_loopw [10,11,45] (fun _ _ vi w=> ∃ (i:Nat) (M:Int->Int),i<=512/\vi=.int .i64 i/\Hid (TI X W A m k { takeS s k L with M:=M,q:=s.q+1100*a+2+2*i } L (.slice (some ⟨g,0,none⟩) nt c) w)/\Hid (i<=1/\KT L kf (1+i) s.M M)) (fun _ _ vi _=>512-(Go.RowKit.intOf vi).toNat)
  case atStart=>exact ⟨0,M1,by omega,rfl,TI1,⟨by omega,OT1.out⟩⟩
  case round =>
   clear TI1 OT1
   obtain ⟨i,M,hi,rfl,TIi,OTi⟩:=hrel
   by_cases ci:i<512
   rotate_left
   . exact absurd OTi.out.1 (by omega)
   have d3:decide ((i:Int)<512)=true:=kh
   have w1:IntKind.i64.wrap ((a:Int)*262144)=(a:Int)*262144:=kz
   have w2:IntKind.i64.wrap ((i:Int)*512)=(i:Int)*512:=kz
   have w3:IntKind.i64.wrap ((a:Int)*262144+(i:Int)*512)=(a:Int)*262144+(i:Int)*512:=kz
   by_cases cf:F<=(a:Int)*262144+(i:Int)*512
   . have d4:decide (F<=(a:Int)*262144+(i:Int)*512)=true:=by simp [cf]
     have TI2:Hid (TI X W A m k { takeS s k L with M:=M,q:=s.q+1100*(a+1) } L (.slice (some ⟨g,0,none⟩) nt c) wr):=TIi.out.q (by show s.q+1100*a+2+2*i<=_;omega)
     clear TIi
     go_wp2_with fail
     go_roundw
     case rel =>
      have K2:KT L kf (2*(a+1)) s.M M:=by
       have q:=OTi.out
       have a0:=A0.out
       have i1:i=1:=by rw [a0] at cf;omega
       rw [i1] at q
       rw [a0]
       exact q.2
      exact ⟨a+1,M,by omega,by go_num,TI2,K2⟩
     case measure=>simp [Go.RowKit.intOf];omega
   have d4:decide (F<=(a:Int)*262144+(i:Int)*512)=false:=kh
   have SC:Hid (Calls Tryz.prog 24 #[pv m k,.int .i64 (z:Nat),.int .i64 i,ev true true false false false true true true ((a:Int)*262144+(i:Int)*512)] wr fun e w'=>e=.returned (.tuple #[])/\TI X W A m k { takeS s k L with M:=enSet M (z:Nat) i (packV true true false false false true true true ((a:Int)*262144+(i:Int)*512)),q:=s.q+1100*a+2+2*(i+1) } L (.slice (some ⟨g,0,none⟩) nt c) w'):=by
    refine (set_any TIi.out.pu (by have:=HQ.out;show s.q+1100*a+2+2*i<_;omega) k (z:Nat) i HZ.out.2.1 (by omega) (by omega) true true false false false true true true ((a:Int)*262144+(i:Int)*512) (by omega) (by omega)).mono ?_
    rintro e w' ⟨he,hp,hk⟩
    exact ⟨he,TIi.out.step hp hk⟩
   have OT2:Hid (KT L kf (1+(i+1)) s.M (enSet M (z:Nat) i (packV true true false false false true true true ((a:Int)*262144+(i:Int)*512)))):=by
    have K1:=OTi.out.2
    have a0:=A0.out
    have i0:i=0:=by have:=OTi.out.1;rw [a0] at cf;omega
    rw [i0] at K1 |-
    rw [a0]
    exact kt_two K1 HI.out.2.1 HZ1.out
   generalize enSet M (z:Nat) i (packV true true false false false true true true ((a:Int)*262144+(i:Int)*512))=M2 at SC OT2
   have BX:=TIi.out.box
   have c0:wr.cell? ⟨A,0,none⟩=some (pp m.rb):=BX.cell 0
   have c1':wr.cell? ⟨A,1,none⟩=some (pp m.b):=BX.cell 1
   have c2:wr.cell? ⟨A,2,none⟩=some (pp m.tb):=BX.cell 2
   have c3:wr.cell? ⟨A,3,none⟩=some (.int .i64 k):=BX.cell 3
   have lA:=BX.lt
   clear BX TIi OTi
   go_wp2_with fail
   refine Calls.mono SC.out ?_
   rintro e w6 ⟨rfl,hT6⟩
   have TI3:Hid (TI X W A m k { takeS s k L with M:=M2,q:=s.q+1100*a+2+2*(i+1) } L (.slice (some ⟨g,0,none⟩) nt c) w6):=hT6
   clear hT6 SC c0 c1' c2 c3 lA
   go_wp2_with fail
   go_roundw
   case rel=>exact ⟨i+1,M2,by omega,by go_num,TI3,⟨by omega,OT2.out⟩⟩
   case measure=>simp [Go.RowKit.intOf];omega
end Go.Proofs.YtgbdnnkkcpkhdaaGreatDoor.Tt
