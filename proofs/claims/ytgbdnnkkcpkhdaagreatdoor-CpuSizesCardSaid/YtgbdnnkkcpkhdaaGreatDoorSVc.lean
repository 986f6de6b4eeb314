import Derived.Test.YtgbdnnkkcpkhdaaGreatDoorKZc
import Derived.Test.YtgbdnnkkcpkhdaaGreatDoorSUc
set_option linter.unusedSimpArgs false
set_option linter.unusedVariables false
set_option maxRecDepth 8000
set_option maxHeartbeats 4000000
open Go.ChangeShapes Go.WideShapes Go.ChangeAt Go.RowKit Go.Maps
open Go.Proofs.YtgbdnnkkcpkhdaaGreatDoor.Tt
namespace Go.Proofs.YtgbdnnkkcpkhdaaGreatDoor.Sp
theorem rt_apt {m:Pm} {s s':Ps} {rc:Nat} {t t' tc:Nat->Nat->Option Nat} {lc:Nat->Option Lf} (H:Rt m s rc tc lc) (A:Apt s s' t t') (dis: ∀ l x l' x' f,t l x=some f->tc l' x'≠some f):Rt m s' rc tc lc/\ ∀ l x l' x' f,t' l x=some f->tc l' x'≠some f:=by
 have o: ∀ l x (f:Nat),tc l x=some f->(∀ l x,t l x≠some f)/\ ¬ s.Fr f:=fun l x f e=>⟨fun l' x' e'=>dis l' x' l x f e' e,(H.ow l x f e).2.2⟩
 refine ⟨⟨H.pw.keep (fun l x f e i hi=>(A.oth f (o l x f e).1 (o l x f e).2).2.2 i hi),H.fu,fun l x f e=> ?_⟩,fun l x l' x' f e e'=> ?_⟩
 . obtain ⟨q1,q2,_⟩:=A.oth f (o l x f e).1 (o l x f e).2
   have r:=H.ow l x f e
   exact ⟨r.1,by rw [q1];exact r.2.1,q2⟩
 . rcases A.new l x f e with q | q
   . exact dis l x l' x' f q e'
   . exact (o l' x' f e').2 q
section
variable {Y:Nat->Prop} {O:Nat->Nat} {n:Nat} {W:World} {M:Mb} {m:Pm} {s:Ps} {T:Nat->Tl.Ln} {S:Pc.Tg}
theorem Mc.next {A:List Sr} {W':World} {s':Ps} (h:Mc Y O n W M m s T S A) (hk:Kx (fun j=>Y j\/O j≠0) W W') (hp:Pu (fun j=>Y j\/O j≠0) W' m s') (rt: ∀ a∈A,Rt m s' a.root a.tab a.lf) (dat: ∀ a∈A,∀ p v,a.lf p=some v->m.has v.f=true/\(∃ f:Nat,v.f=f/\s'.G f=some 0/\ ¬ s'.Fr f/\ ∀ b∈A,∀ l x,b.tab l x≠some f)):Mc Y O n W' M m s' T S A:=by
 have lm: ∀ b,O b≠0->W'.heap[b]? =W.heap[b]? :=fun b hO=>hk.block b (Or.inr hO)
 exact ⟨hp,h.y0,h.yo,(lm _ (by rw [h.o1];omega)).trans h.mac,tlb_block h.tlb hk.size (lm _ (by rw [h.o2];omega)),h.tgs.kept fun b _ hb=>lm b kk1,h.map.block (lm _ (by rw [h.o4];omega)),h.o1,h.o2,h.o3,h.o4,fun a ha=>(h.sp a ha).keep hk.size fun b hl b1 b2=>⟨lm b (by omega),rfl⟩,rt,h.ni,h.nj,h.dj,dat,h.kf⟩
theorem Mc.add {A:List Sr} {W1 W2:World} {id:Int} {jj sb lb k root:Nat} {tab:Nat->Nat->Option Nat} (h:Mc Y O n W M m s T S A) (hb:bc W W1) (hl:lb=W.heap.size) (hs:sb=W.heap.size+1) (hz:W1.heap.size=W.heap.size+2) (hB:Blk W1 sb [.int .i64 k,.int .i64 root,.slice none 0 0,.map (some lb)] 71) (hm:Pc.MapI W1 lb 0 Pc.noneF) (hg:W1.grownBy W2 (some M.sm)) (hp:MapP W2 M.sm (n+1) (put (spF A) id (some sb)))
 (hn: ∀ a∈A,a.id≠id) (hj: ∀ a∈A,a.j≠jj) (rt:Rt m s root tab (fun _=>none)) (dj: ∀ a∈A,∀ l x l' x' f,a.tab l x=some f->tab l' x'≠some f) (df: ∀ a∈A,∀ p v,a.lf p=some v-> ∀ f:Nat,v.f=f-> ∀ l x,tab l x≠some f) :
 ∃ O',Mc Y O' (n+1) W2 M m s T S (⟨id,jj,sb,k,root,tab,fun _=>none,none,0,[],lb,0,Pc.noneF⟩::A):=by
 have q:=h.below hb
 have ol: ∀ j,W.heap.size<=j->O j=0:=fun j hj=>bca fun c=>by have:=h.lt j c;omega
 have sml:M.sm<W.heap.size:=h.map.lt
 have ne: ∀ j,j≠M.sm->j<W1.heap.size->W2.heap[j]? =W1.heap[j]? :=fun j c l=>hg.block j l (fun e=>c (sia e))
 have om: ∀ j,O j≠0->O j≠4->W2.heap[j]? =W1.heap[j]? :=fun j c c4=>ne j (fun e=>c4 (by rw [e];exact h.o4)) (by have:=h.lt j c;omega)
 refine ⟨fun j=>if j=sb then 5+3*jj else if j=lb then 6+3*jj else O j,?_⟩
 have eq: ∀ j,j<W.heap.size->(if j=sb then 5+3*jj else if j=lb then 6+3*jj else O j)=O j:=fun j hj=>by rw [if_neg (by omega),if_neg (by omega)]
 have lto: ∀ {j:Nat} {c:Nat},O j=c->c≠0->j<W.heap.size:=fun {j c} e c0=>h.lt j (by omega)
 refine ⟨?_,h.y0,fun j hj=> ?_,(om _ (by rw [h.o1];omega) (by rw [h.o1];omega)).trans q.mac,tlb_block q.tlb hg.size (om _ (by rw [h.o2];omega) (by rw [h.o2];omega)),(q.tgs.kept fun b _ hb=>om b kk1 kk1).mono (Nat.le_succ n),?_,?_,?_,?_,?_,fun a ha=> ?_,fun a ha=> ?_,?_,?_,fun a ha b hb' hab=> ?_,fun a ha p v e=> ?_,h.kf⟩
 . refine ((h.pu.grow hb).poke (j:=M.sm) (Or.inl (Or.inr (by rw [h.o4];omega))) (fun e=>by have:=h.yo 0 h.y0;rw [<- e,h.o4] at this;omega) hg).less (fun j hj=> ?_) (Or.inl h.y0)
   rcases hj with c | c
   . exact Or.inl (Or.inl c)
   . by_cases c1:j<W.heap.size
     . have c:(if j=sb then 5+3*jj else if j=lb then 6+3*jj else O j)≠0:=c
       rw [eq j c1] at c;exact Or.inl (Or.inr c)
     . refine Or.inr ⟨by omega,?_⟩
       by_cases c2:j=sb
       . omega
       . by_cases c3:j=lb
         . omega
         . exact absurd (show (if j=sb then 5+3*jj else if j=lb then 6+3*jj else O j)=0 by rw [if_neg c2,if_neg c3];exact ol j (by omega)) c
 . have lj:j<W.heap.size:=h.pu.lt j (Or.inl hj)
   exact (eq j lj).trans (h.yo j hj)
 . have e:spF (⟨id,jj,sb,k,root,tab,fun _=>none,none,0,[],lb,0,Pc.noneF⟩::A)=put (spF A) id (some sb):=by
    funext i;rfl
   rw [e];exact hp
 . exact (eq _ (lto h.o1 (by omega))).trans h.o1
 . exact (eq _ (lto h.o2 (by omega))).trans h.o2
 . exact ⟨(eq _ (lto h.o3.1 (by omega))).trans h.o3.1,(eq _ (lto h.o3.2.1 (by omega))).trans h.o3.2.1,(eq _ (lto h.o3.2.2 (by omega))).trans h.o3.2.2⟩
 . exact (eq _ (lto h.o4 (by omega))).trans h.o4
 . rcases List.mem_cons.1 ha with rfl | ha
   . obtain ⟨c,hm⟩:=hm
     refine ⟨(ne sb (by omega) (by omega)).trans hB,⟨c,hm.block (ne lb (by omega) (by omega))⟩,fun i hi=>absurd hi (Nat.not_lt_zero _),Nat.le_refl _,Nat.zero_le _,if_pos rfl,?_,fun g e=>by cases e⟩
     show (if lb=sb then 5+3*jj else if lb=lb then 6+3*jj else O lb)=6+3*jj
     rw [if_neg (by omega),if_pos rfl]
   . refine (q.sp a ha).keep hg.size fun b hl b1 b2=>⟨om b (by omega) (by omega),eq b (h.lt b (by omega))⟩
 . rcases List.mem_cons.1 ha with rfl | ha
   . exact rt
   . exact h.rt a ha
 . refine List.nodup_cons.2 ⟨fun q=> ?_,h.ni⟩
   obtain ⟨b,hb',e⟩:=List.mem_map.1 q
   exact hn b hb' e
 . refine List.nodup_cons.2 ⟨fun q=> ?_,h.nj⟩
   obtain ⟨b,hb',e⟩:=List.mem_map.1 q
   exact hj b hb' e
 . rcases List.mem_cons.1 ha with rfl | ha <;> rcases List.mem_cons.1 hb' with rfl | hb'
   . exact absurd rfl hab
   . exact fun l x l' x' f e e'=>dj b hb' l' x' l x f e' e
   . exact dj a ha
   . exact h.dj a ha b hb' hab
 . rcases List.mem_cons.1 ha with rfl | ha
   . cases e
   . obtain ⟨d1,f,d2,d3,d4,d5⟩:=h.dat a ha p v e
     refine ⟨d1,f,d2,d3,d4,fun b hb'=> ?_⟩
     rcases List.mem_cons.1 hb' with rfl | hb'
     . exact df a ha p v e f d2
     . exact d5 b hb'
def Opened (Y:Nat->Prop) (n:Nat) (W w':World) (M:Mb) (m:Pm) (s:Ps) (T:Nat->Tl.Ln) (S:Pc.Tg) (A:List Sr) (id:Int) (jj k:Nat):Prop :=
 ∃ (O':Nat->Nat) (root sb lb:Nat) (M2:Int->Int),s.Fr root/\Mc Y O' (n+1) w' M m { takeS s k [root] with M:=M2,q:=s.q+2 } T S (⟨id,jj,sb,k,root,tab1 root,fun _=>none,none,0,[],lb,0,Pc.noneF⟩::A)/\Kx Y W w'
theorem open_ok {A:List Sr} (h:Mc Y O n W M m s T S A) (id:Int) (i0:0<=id) (i1:id<=9223372036854775807) (hn: ∀ a∈A,a.id≠id) (jj:Nat) (hj: ∀ a∈A,a.j≠jj) (k:Nat) (b:Box m s k) (hq:s.q<4000000000000000000) (hr:1<=(s.T k).room) (nn:n<1000000) :
 Calls Tryz.prog 7 (sf (pp M.mb) id k) W fun e w'=>e=.returned (.int .i64 0)/\Opened Y n W w' M m s T S A id jj k:=by
 have PC:Hid (∀ w:World,Blk w M.mb [pp m.rb,pp m.b,pp m.tb,pp M.tl,pp M.tg,.int .i64 M.kf,.map (some M.sm)] 62->_):=fun w hb=>purse_any M.mb m.rb m.b m.tb k _ _ _ _ w hb
 have RC:Hid (∀ w:World,Pu (fun j=>Y j\/O j≠0) w m s->_):=fun w hp=>root_ok hp k b hq hr M.kf h.kf
 have HM:Hid (Mc Y O n W M m s T S A):=h
 have HH:Hid ((∀ a∈A,a.id≠id)/\(∀ a∈A,a.j≠jj)/\0<=id/\id<=9223372036854775807/\n<1000000):=⟨hn,hj,i0,i1,nn⟩
 have BM:Hid (Blk W M.mb [pp m.rb,pp m.b,pp m.tb,pp M.tl,pp M.tg,.int .i64 M.kf,.map (some M.sm)] 62):=h.mac
 have d1:decide (id<0)=false:=kh
 have lk:(Instr.lookup 60 (.map (some M.sm)) (.int .i64 id) false).run Tryz.prog W=.ok (.pointer none) W:=by
  have q:=h.map.look (k:=id) (wf64 (by omega) i1)
  rw [spF_none hn] at q;exact q
 have c6:W.cell? ⟨M.mb,6,none⟩=some (.map (some M.sm)):=h.mac.cell 6
 clear h hn hj b hq hr i0 i1 nn
 go_enter Tryz.func7,Tryz.ntmps7
 go_upto_region 5 with fail
 clear lk c6
 refine hda (fun cw=>Blk cw M.mb [pp m.rb,pp m.b,pp m.tb,pp M.tl,pp M.tg,.int .i64 M.kf,.map (some M.sm)] 62) BM.out fun hHeld=> ?_
 have KU:Hid (bc W W.drew):=below_drew (Below.refl _ _)
 have MU:Hid (Mc Y O n W.drew M m s T S A):=HM.out.below (below_drew (Below.refl _ _))
 clear BM
 generalize W.drew=U at hHeld MU KU |-
 refine tma 0 19 rfl ?_
 refine tma 1 20 rfl ?_
 refine tma 3 22 rfl ?_
 refine tma 4 23 rfl ?_
 refine tma 5 24 rfl ?_
 refine tla 6 25 (.int .i64 M.kf) rfl ?_ ?_
 . intro w hSw;(try dsimp only at hSw);have r:=Blk.cell hSw 5;(try go_simp);(try simp [*])
 refine rda 2 ⟨some 21,_,_,_,_,none⟩ rfl fun K hK=> ?_
 go_simp
 go_wp2_with (go_at_call 13;refine Calls.mono (PC.out _ hHeld) ?_;rintro e u1 ⟨rfl,hb1⟩)
 have MU1:Hid (Mc Y O n u1 M m s T S A):=MU.out.below hb1
 have KY1:Hid (bc W u1):=below_then KU.out hb1
 refine hK.out _ _ (hHeld.below hb1) ?_
 clear hK K hHeld hb1 MU
 intro hHeld
 try simp only [Act.put,zaa,zba,zca]
 refine rda 7 ⟨some 26,_,_,_,_,none⟩ rfl fun K hK=> ?_
 go_simp
 go_wp2_with (go_at_call 12;refine Calls.mono (RC.out _ MU1.out.pu) ?_;rintro e u2 ⟨root,rfl,M2,hf,hp,hk,hz,ho⟩)
 have R2:Hid (s.Fr root/\Pu (fun j=>Y j\/O j≠0) u2 m { takeS s k [root] with M:=M2,q:=s.q+2 }/\Kx (fun j=>Y j\/O j≠0) u1 u2/\(∀ i:Nat,i<512->i≠256->En M2 root i=0)/\ ∀ f:Nat,f≠root-> ∀ j:Nat,j<512->En M2 f j=En s.M f j):=⟨hf,hp,hk,hz,ho⟩
 refine hK.out _ _ (hHeld.kx hk (Or.inr (by rw [MU1.out.o1];omega))) ?_
 clear hK K hHeld hf hp hk hz ho
 intro hHeld
 try simp only [Act.put,zaa,zba,zca]
 refine tma 8 18 rfl ?_
 refine tma 9 27 rfl ?_
 refine tma 10 28 rfl ?_
 refine tma 11 7 rfl ?_
 refine tma 12 8 rfl ?_
 clear hHeld
 refine wpAnyH_done ka ?_ _
 refine NoPanic.normal ?_
 have MR:Hid (Mc Y O n u2 M m { takeS s k [root] with M:=M2,q:=s.q+2 } T S A/\Kx Y W u2/\Rt m { takeS s k [root] with M:=M2,q:=s.q+2 } root (tab1 root) (fun _=>none)/\(∀ a∈A,∀ l x l' x' f,a.tab l x=some f->tab1 root l' x'≠some f)):=by
  obtain ⟨hf,hp,hk,hz,ho⟩:=R2.out
  have M1:=MU1.out
  have so:=M1.pu.so
  have ap:Apt s { takeS s k [root] with M:=M2,q:=s.q+2 } (fun _ _=>none) (tab1 root):=⟨fun f _ nf=>by
   have fr:f≠root:=fun e=>nf (by rw [e];exact hf)
   refine ⟨?_,fun q=>nf q.1,fun j hj=>ho f fr j hj⟩
   show (if 0<=(f:Int)/\(f:Int).toNat∈[root] then some 0 else s.G f)=s.G f
   rw [if_neg (by rintro ⟨_,q⟩;simp at q;exact fr q)],fun l x f e=>by
   obtain ⟨_,_,rfl⟩:=tab1_is e;exact Or.inr hf,fun f e=>by cases e⟩
  have ra: ∀ a∈A,Rt m { takeS s k [root] with M:=M2,q:=s.q+2 } a.root a.tab a.lf/\ ∀ l x l' x' f,tab1 root l x=some f->a.tab l' x'≠some f:=fun a ha=>rt_apt (M1.rt a ha) ap (fun l x l' x' f e=>by cases e)
  refine ⟨M1.next hk hp (fun a ha=>(ra a ha).1) (fun a ha p v e=> ?_),(Kept.trans (kept_of_below KY1.out (fun j hj=>HM.out.pu.lt j (Or.inl hj))) (hk.sub (fun j hj=>Or.inl hj))),rt_root so hf hz,fun a ha l x l' x' f e e'=>(ra a ha).2 l' x' l x f e' e⟩
  obtain ⟨d1,f,d2,d3,d4,d5⟩:=M1.dat a ha p v e
  obtain ⟨g1,g2,_⟩:=ap.oth f (fun l x e=>by cases e) d4
  exact ⟨d1,f,d2,by rw [g1];exact d3,g2,d5⟩
 have c6:u2.cell? ⟨M.mb,6,none⟩=some (.map (some M.sm)):=MR.out.1.mac.cell 6
 have lm:=MR.out.1.mac.lt
 have hmm:= @run_makeMap Tryz.prog
 have s1:(u2.alloc (.map #[] 0)).heap.size=u2.heap.size+1:=World.size_alloc _ _
 have hb2:bc u2 ((u2.alloc (.map #[] 0)).alloc (.cells #[.int .i64 k,.int .i64 root,.slice none 0 0,.map (some u2.heap.size)] 71)):=Go.Joins.below_alloc2 _ _ _
 obtain ⟨u5,hset,hmap,hg⟩:=MapP.set (w:=((u2.alloc (.map #[] 0)).alloc (.cells #[.int .i64 k,.int .i64 root,.slice none 0 0,.map (some u2.heap.size)] 71))) (MR.out.1.map.block (hb2.block _ MR.out.1.map.lt)) (by have:=HH.out.2.2.2.2;unfold maxLen;omega) (wf64 (k:=id) (by have:=HH.out.2.2;omega) (by have:=HH.out.2.2;omega)) (u2.heap.size+1)
 have hset:(Instr.mapUpdate 60 (.map (some M.sm)) (.int .i64 id) (.pointer (some ⟨u2.heap.size+1,0,none⟩))).run Tryz.prog ((u2.alloc (.map #[] 0)).alloc (.cells #[.int .i64 k,.int .i64 root,.slice none 0 0,.map (some u2.heap.size)] 71))=.ok () u5:=hset
 have HE:Hid (Opened Y n W u5 M m s T S A id jj k):=by
  obtain ⟨hM,hK,hR,hD⟩:=MR.out
  have fr:=R2.out.1
  have bk:Blk ((u2.alloc (.map #[] 0)).alloc (.cells #[.int .i64 k,.int .i64 root,.slice none 0 0,.map (some u2.heap.size)] 71)) (u2.heap.size+1) [.int .i64 k,.int .i64 root,.slice none 0 0,.map (some u2.heap.size)] 71:=by
   rw [<- s1];exact Blk.made _ _ _
  have mp:Pc.MapI ((u2.alloc (.map #[] 0)).alloc (.cells #[.int .i64 k,.int .i64 root,.slice none 0 0,.map (some u2.heap.size)] 71)) u2.heap.size 0 Pc.noneF:=⟨0,(Pc.MapC.made u2).block ((Go.Joins.below_alloc1 (u2.alloc (.map #[] 0)) _).block _ (by rw [s1];omega))⟩
  obtain ⟨O',hO⟩:=hM.add (id:=id) (jj:=jj) (sb:=u2.heap.size+1) (lb:=u2.heap.size) hb2 rfl rfl kj bk mp hg hmap HH.out.1 HH.out.2.1 hR hD (fun a ha p v e f ef l x et=>by
   obtain ⟨_,f',e2,_,_,_⟩:=hM.dat a ha p v e
   obtain ⟨_,_,rfl⟩:=tab1_is et
   obtain ⟨_,f3,e3,_,e5,_⟩:=MU1.out.dat a ha p v e
   have:f3=f:=by omega
   subst this
   exact e5 fr)
  refine ⟨O',root,u2.heap.size+1,u2.heap.size,M2,fr,hO,?_⟩
  refine hK.trans (Kept.trans (kept_of_below hb2 (fun j hj=>hM.pu.lt j (Or.inl hj))) (kept_one hg fun j hj=>⟨fun e=> ?_,nla (hM.pu.lt j (Or.inl hj)) hb2.size⟩))
  have:=hM.yo j hj
  rw [e,hM.o4] at this;omega
 clear hmap hg MR R2 MU1 KY1
 go_wp2_with fail
 go_returns
 exact ⟨rfl,HE.out⟩
theorem add_new (p:Option Addr) (c:Nat) (L:List Re.Rg) (hL:L.length<=100) (hc:L.length<=c) (r:Re.Rg) (E:Int) (M:List Re.Rg) (hE:Re.errA (Re.addN L r) (Re.addL L r)=E) (hM:Re.outL (Re.addN L r) (Re.addL L r)=M) (w:World) (h:Re.IsL w 0 p L) :
 Calls Tryz.prog 14 #[.slice p L.length c,r.val] w fun e w'=> ∃ p' c',e=.returned (.tuple #[.slice p' M.length c',.int .i64 E])/\M.length<=c'/\Re.IsL w' w.heap.size p' M/\bc w w' :=
 (Re.add_any 0 p c L hL hc r w h).mono fun e w' ⟨v,er,h1,h2,h3⟩=>by
  obtain ⟨k1,p',c',k2,k3,k4⟩:=Re.ans_readb h2
  rw [hE] at k1;rw [hM] at k2 k3 k4
  exact ⟨p',c',by rw [h1,k1,k2],k3,k4,h3⟩
theorem spF_head (a:Sr) (B:List Sr):spF (a::B) a.id=some a.sb:=if_pos rfl
theorem Mc.other {a:Sr} {B:List Sr} (h:Mc Y O n W M m s T S (a::B)): ∀ b∈B,b.j≠a.j:=fun b hb e=>(List.nodup_cons.1 h.nj).1 (List.mem_map.2 ⟨b,hb,e⟩)
theorem forall_head2 {P:Sr->Sr->Prop} {a a':Sr} {B:List Sr} (h: ∀ x∈a::B,∀ y∈a::B,P x y) (h1: ∀ y,P a y->P a' y) (h2: ∀ x,P x a->P x a') (h3:P a a->P a' a'): ∀ x∈a'::B,∀ y∈a'::B,P x y:=fun x hx y hy=>by
 rcases List.mem_cons.1 hx with ex | hx <;> rcases List.mem_cons.1 hy with ey | hy
 . rw [ex,ey];exact h3 (h a (List.mem_cons_self ..) a (List.mem_cons_self ..))
 . rw [ex];exact h1 y (h a (List.mem_cons_self ..) y (List.mem_cons_of_mem _ hy))
 . rw [ey];exact h2 x (h x (List.mem_cons_of_mem _ hx) a (List.mem_cons_self ..))
 . exact h x (List.mem_cons_of_mem _ hx) y (List.mem_cons_of_mem _ hy)
theorem Mc.list {a:Sr} {B:List Sr} {W1:World} (h:Mc Y O n W M m s T S (a::B)) (hb:bc W W1) {p':Option Addr} {c':Nat} {L':List Re.Rg} (hl:Re.IsL W1 W.heap.size p' L') (hc:L'.length<=c') (h64:L'.length<=64) :
 ∃ O',Mc Y O' n (W1.setCell ⟨a.sb,2,none⟩ (.slice p' L'.length c')) M m s T S ({ a with rp:=p',rc:=c',L:=L' }::B)/\Kx Y W (W1.setCell ⟨a.sb,2,none⟩ (.slice p' L'.length c')):=by
 have q:=h.below hb
 have qa:=q.sp a (List.mem_cons_self ..)
 have sa:=(h.sp a (List.mem_cons_self ..))
 have hg:=Qu.grown_setCell1 W1 a.sb 2 (.slice p' L'.length c')
 have bs:=qa.blk.set 2 (.slice p' L'.length c')
 generalize W1.setCell ⟨a.sb,2,none⟩ (.slice p' L'.length c')=V at hg bs |-
 have ya: ∀ j,Y j->j≠a.sb:=fun j hj e=>by have:=h.yo j hj;rw [e,sa.o1] at this;omega
 have kk:Kx Y W V:=(kept_of_below hb (fun j hj=>h.pu.lt j (Or.inl hj))).trans (kept_one hg fun j hj=>⟨ya j hj,nla (h.pu.lt j (Or.inl hj)) hb.size⟩)
 obtain ⟨O',eO,nO,oO⟩: ∃ O':Nat->Nat,(∀ j,j<W.heap.size->O' j=O j)/\(∀ j,W.heap.size<=j->O' j≠0->j<W1.heap.size)/\(∀ g,p'=some ⟨g,0,none⟩->0<L'.length->O' g=7+3*a.j):=by
  by_cases c:0<L'.length
  . obtain ⟨g,e1,l1,l2,_⟩:=hl 0 c
    refine ⟨fun j=>if j=g then 7+3*a.j else O j,fun j hj=>if_neg (by omega),fun j hj hn=> ?_,fun g' e2 _=> ?_⟩
    . by_cases e:j=g
      . omega
      . have hn:(if j=g then 7+3*a.j else O j)≠0:=hn
        rw [if_neg e] at hn;have:=h.lt j hn;omega
    . rw [e1] at e2;cases e2;exact if_pos rfl
  . exact ⟨O,fun _ _=>rfl,fun j hj hn=>by have:=h.lt j hn;omega,fun _ _ c'=>absurd c' c⟩
 have lm: ∀ b,O b≠0->b≠a.sb->V.heap[b]? =W1.heap[b]? :=fun b hO hs=>hg.block b (nla (h.lt b hO) hb.size) (fun e=>hs (sia e))
 have ns: ∀ b,O b≠5+3*a.j->b≠a.sb:=fun b hO e=>hO (by rw [e];exact sa.o1)
 have lto: ∀ {j c:Nat},O j=c->c≠0->j<W.heap.size:=fun {j c} e c0=>h.lt j (by omega)
 have oq: ∀ {j c:Nat},O j=c->c≠0->O' j=c:=fun {j c} e c0=>(eO j (lto e c0)).trans e
 refine ⟨O',⟨?_,h.y0,fun j hj=>(eO j (h.pu.lt j (Or.inl hj))).trans (h.yo j hj),(lm _ (by rw [h.o1];omega) (ns _ (by rw [h.o1];omega))).trans q.mac,tlb_block q.tlb hg.size (lm _ (by rw [h.o2];omega) (ns _ (by rw [h.o2];omega))),q.tgs.kept fun b _ hb=> ?_,?_,oq h.o1 (by omega),oq h.o2 (by omega),⟨oq h.o3.1 (by omega),oq h.o3.2.1 (by omega),oq h.o3.2.2 (by omega)⟩,oq h.o4 (by omega),fun b hb'=> ?_,fun b hb'=> ?_,h.ni,h.nj,?_,?_,h.kf⟩,kk⟩
 . refine ((h.pu.grow hb).poke (j:=a.sb) (Or.inl (Or.inr (by rw [sa.o1];omega))) (fun e=>ya 0 h.y0 e.symm) hg).less (fun j hj=> ?_) (Or.inl h.y0)
   rcases hj with c | c
   . exact Or.inl (Or.inl c)
   . by_cases c1:j<W.heap.size
     . rw [eO j c1] at c;exact Or.inl (Or.inr c)
     . exact Or.inr ⟨by omega,nO j (by omega) c⟩
 . have o:O b=3:=by rcases hb with rfl | rfl | rfl;exact h.o3.1;exact h.o3.2.1;exact h.o3.2.2
   exact lm b (by omega) (ns b (by omega))
 . have e:spF ({ a with rp:=p',rc:=c',L:=L' }::B)=spF (a::B):=rfl
   rw [e];exact q.map.block (lm _ (by rw [h.o4];omega) (ns _ (by rw [h.o4];omega)))
 . rcases List.mem_cons.1 hb' with rfl | hb'
   . obtain ⟨c,hm⟩:=qa.map
     refine ⟨bs,⟨c,hm.block (lm a.lb (by rw [sa.o2];omega) (ns _ (by rw [sa.o2];omega)))⟩,?_,hc,h64,oq sa.o1 (by omega),oq sa.o2 (by omega),oO⟩
     refine list_block (hl.weak (Nat.zero_le _)) hg.size fun g eg lg hl'=> ?_
     obtain ⟨g',e',l1,l2,_⟩:=hl 0 hl'
     have e':p'=some ⟨g',0,none⟩:=e'
     have eg:p'=some ⟨g,0,none⟩:=eg
     rw [e'] at eg
     have gg:g=g':=by cases eg;rfl
     exact hg.block g lg (fun e=>by have:=sia e;have:=sa.blk.lt;omega)
   . have nj:=h.other b hb'
     exact (q.sp b (List.mem_cons_of_mem _ hb')).keep hg.size fun d hl b1 b2=>⟨lm d (by omega) (ns d (by omega)),eO d (h.lt d (by omega))⟩
 . rcases List.mem_cons.1 hb' with rfl | hb'
   . exact h.rt a (List.mem_cons_self ..)
   . exact h.rt b (List.mem_cons_of_mem _ hb')
 . exact forall_head2 (P:=fun x y=>x.j≠y.j-> ∀ l i l' i' f,x.tab l i=some f->y.tab l' i'≠some f) h.dj (fun _ q=>q) (fun _ q=>q) (fun q=>q)
 . intro b hb' p v e
   have e2: ∃ b0∈a::B,b0.lf p=some v:=by
    rcases List.mem_cons.1 hb' with rfl | hb'
    . exact ⟨a,List.mem_cons_self ..,e⟩
    . exact ⟨b,List.mem_cons_of_mem _ hb',e⟩
   obtain ⟨b0,m0,e0⟩:=e2
   obtain ⟨d1,f,d2,d3,d4,d5⟩:=h.dat b0 m0 p v e0
   refine ⟨d1,f,d2,d3,d4,fun x hx=> ?_⟩
   rcases List.mem_cons.1 hx with rfl | hx
   . exact d5 a (List.mem_cons_self ..)
   . exact d5 x (List.mem_cons_of_mem _ hx)
theorem map_ok {a:Sr} {B:List Sr} (h:Mc Y O n W M m s T S (a::B)) (f t:Int) (pa pb pc:Bool) (L':List Re.Rg) (hE:Re.errA (Re.addN a.L ⟨f,t,pa,pb,pc,0⟩) (Re.addL a.L ⟨f,t,pa,pb,pc,0⟩)=0) (hL:Re.addL a.L ⟨f,t,pa,pb,pc,0⟩=L') (h64:L'.length<=64) (wi:(Lit.int .i64 a.id).wf=true) :
 Calls Tryz.prog 8 #[pp M.mb,.int .i64 a.id,.agg #[.int .i64 f,.int .i64 t],.agg (sn pa pb pc)] W fun e w'=>e=.returned (.int .i64 0)/\ ∃ O' p' c',Mc Y O' n w' M m s T S ({ a with rp:=p',rc:=c',L:=L' }::B)/\Kx Y W w':=by
 have sa:=h.sp a (List.mem_cons_self ..)
 have AC:Hid (∀ w:World,bc W w->Calls Tryz.prog 14 #[.slice a.rp a.L.length a.rc,.agg (sr f t pa pb pc 0)] w fun e w'=> ∃ p' c',e=.returned (.tuple #[.slice p' L'.length c',.int .i64 0])/\L'.length<=c'/\Re.IsL w' w.heap.size p' L'/\bc w w'):=fun w hb=>add_new a.rp a.rc a.L (by have:=sa.few;omega) sa.cap ⟨f,t,pa,pb,pc,0⟩ 0 L' hE (by unfold Re.outL;rw [if_pos hE];exact hL) w (sa.lis.below hb)
 have HM:Hid (Mc Y O n W M m s T S (a::B)/\L'.length<=64):=⟨h,h64⟩
 have s1:(W.alloc (.cells #[.int .i64 f,.int .i64 t] 43)).heap.size=W.heap.size+1:=World.size_alloc _ _
 have bb:bc W ((W.alloc (.cells #[.int .i64 f,.int .i64 t] 43)).alloc (.cells (sn pa pb pc) 45)):=Go.Joins.below_alloc2 _ _ _
 have lk:(Instr.lookup 60 (.map (some M.sm)) (.int .i64 a.id) false).run Tryz.prog ((W.alloc (.cells #[.int .i64 f,.int .i64 t] 43)).alloc (.cells (sn pa pb pc) 45))=.ok (.pointer (some ⟨a.sb,0,none⟩)) ((W.alloc (.cells #[.int .i64 f,.int .i64 t] 43)).alloc (.cells (sn pa pb pc) 45)):=by
  have q:=(h.below bb).map.look wi
  rw [spF_head] at q;exact q
 have G0:Hid (bc W ((W.alloc (.cells #[.int .i64 f,.int .i64 t] 43)).alloc (.cells (sn pa pb pc) 45))/\Blk ((W.alloc (.cells #[.int .i64 f,.int .i64 t] 43)).alloc (.cells (sn pa pb pc) 45)) W.heap.size [.int .i64 f,.int .i64 t] 43/\Blk ((W.alloc (.cells #[.int .i64 f,.int .i64 t] 43)).alloc (.cells (sn pa pb pc) 45)) (W.heap.size+1) (sk pa pb pc) 45/\Blk ((W.alloc (.cells #[.int .i64 f,.int .i64 t] 43)).alloc (.cells (sn pa pb pc) 45)) a.sb [.int .i64 a.k,.int .i64 a.root,.slice a.rp a.L.length a.rc,.map (some a.lb)] 71/\Blk ((W.alloc (.cells #[.int .i64 f,.int .i64 t] 43)).alloc (.cells (sn pa pb pc) 45)) M.mb [pp m.rb,pp m.b,pp m.tb,pp M.tl,pp M.tg,.int .i64 M.kf,.map (some M.sm)] 62):=⟨bb,(Blk.made _ _ _).below baa,by rw [<- s1];exact Blk.made _ _ _,sa.blk.below bb,h.mac.below bb⟩
 clear h hE hL h64 wi sa bb s1
 go_enter Tryz.func8,Tryz.ntmps8
 go_upto_region 1 with fail
 generalize ((W.alloc (.cells #[.int .i64 f,.int .i64 t] 43)).alloc (.cells (sn pa pb pc) 45))=W0 at lk G0 |-
 obtain ⟨q2,hq2⟩: ∃ q2,q2=W.heap.size+1:=⟨_,rfl⟩
 rw [<- hq2] at G0 |-
 obtain ⟨q1,hq1⟩: ∃ q1,q1=W.heap.size:=⟨_,rfl⟩
 have KW:Hid (bc W W0):=G0.out.1
 have G1:Hid (Blk W0 q1 [.int .i64 f,.int .i64 t] 43/\Blk W0 q2 (sk pa pb pc) 45/\Blk W0 a.sb [.int .i64 a.k,.int .i64 a.root,.slice a.rp a.L.length a.rc,.map (some a.lb)] 71/\Blk W0 M.mb [pp m.rb,pp m.b,pp m.tb,pp M.tl,pp M.tg,.int .i64 M.kf,.map (some M.sm)] 62):=by rw [hq1];exact G0.out.2
 rw [<- hq1]
 clear hq1 hq2 G0
 have c6:W0.cell? ⟨M.mb,6,none⟩=some (.map (some M.sm)):=G1.out.2.2.2.cell 6
 go_upto_region 4 with fail
 clear c6 lk
 have BS:Hid (Blk W0 a.sb [.int .i64 a.k,.int .i64 a.root,.slice a.rp a.L.length a.rc,.map (some a.lb)] 71/\Blk W0 q1 [.int .i64 f,.int .i64 t] 43/\Blk W0 q2 (sk pa pb pc) 45):=⟨G1.out.2.2.1,G1.out.1,G1.out.2.1⟩
 clear G1
 refine hda (fun cw=>Blk cw a.sb [.int .i64 a.k,.int .i64 a.root,.slice a.rp a.L.length a.rc,.map (some a.lb)] 71/\Blk cw q1 [.int .i64 f,.int .i64 t] 43/\Blk cw q2 (sk pa pb pc) 45) BS.out fun hHeld=> ?_
 have KU:Hid (bc W W0.drew):=below_drew KW.out
 clear BS
 generalize W0.drew=U at hHeld KU |-
 refine tma 0 21 rfl ?_
 try simp only [Act.put,zaa,zba,zca]
 refine tma 1 22 rfl ?_
 try simp only [Act.put,zaa,zba,zca]
 refine tma 2 23 rfl ?_
 try simp only [Act.put,zaa,zba,zca]
 refine tla 3 24 (.slice a.rp a.L.length a.rc) rfl ?_ ?_
 . intro w hSw;(try dsimp only at hSw);have r:=Blk.cell hSw.1 2;(try go_simp);(try simp [*])
 try simp only [Act.put,zaa,zba,zca]
 refine tla 4 25 (.agg #[.int .i64 f,.int .i64 t]) rfl ?_ ?_
 . intro w hSw;(try dsimp only at hSw);have r0:=Blk.cell hSw.2.1 0;have r1:=Blk.cell hSw.2.1 1;(try go_simp);(try simp [*])
 try simp only [Act.put,zaa,zba,zca]
 refine tla 5 26 (.agg (sn pa pb pc)) rfl ?_ ?_
 . exact k5
 try simp only [Act.put,zaa,zba,zca]
 refine tma 6 27 rfl ?_
 try simp only [Act.put,zaa,zba,zca]
 refine rda 7 ⟨some 28,_,_,_,_,none⟩ rfl fun K hK=> ?_
 go_simp
 go_wp2_with (go_at_call 14;refine Calls.mono (AC.out _ KU.out) ?_;rintro e u1 ⟨p',c',rfl,hc,hi,hb1⟩)
 have KU1:Hid (bc W u1/\L'.length<=c'/\Re.IsL u1 W.heap.size p' L'):=⟨below_then KU.out hb1,hc,hi.weak KU.out.size⟩
 refine hK.out _ _ ⟨hHeld.1.below hb1,hHeld.2.1.below hb1,hHeld.2.2.below hb1⟩ ?_
 clear hK K hHeld hc hi hb1 KU
 intro hHeld
 try simp only [Act.put,zaa,zba,zca]
 refine tma 8 20 rfl ?_
 try simp only [Act.put,zaa,zba,zca]
 refine tma 9 29 rfl ?_
 try simp only [Act.put,zaa,zba,zca]
 refine tma 10 30 rfl ?_
 try simp only [Act.put,zaa,zba,zca]
 refine tma 11 10 rfl ?_
 try simp only [Act.put,zaa,zba,zca]
 refine tma 12 11 rfl ?_
 try simp only [Act.put,zaa,zba,zca]
 clear hHeld
 refine wpAnyH_done ka ?_ _
 refine NoPanic.normal ?_
 have SB1:=(HM.out.1.below KU1.out.1).sp a (List.mem_cons_self ..)
 have c2:u1.cell? ⟨a.sb,2,none⟩=some (.slice a.rp a.L.length a.rc):=SB1.blk.cell 2
 have z2:u1.frozen? ⟨a.sb,2,none⟩=false:=SB1.blk.free 2
 have HE:Hid (∃ O',Mc Y O' n (u1.setCell ⟨a.sb,2,none⟩ (.slice p' L'.length c')) M m s T S ({ a with rp:=p',rc:=c',L:=L' }::B)/\Kx Y W (u1.setCell ⟨a.sb,2,none⟩ (.slice p' L'.length c'))):=HM.out.1.list KU1.out.1 KU1.out.2.2 KU1.out.2.1 HM.out.2
 clear SB1 KU1 AC
 go_wp2_with fail
 go_returns
 obtain ⟨O',hO⟩:=HE.out
 exact ⟨rfl,O',p',c',hO⟩
def mayV (pw pu px x u f:Bool):Bool:=(!x || pw) && (!u || pu) && (!f || px)
theorem may_any (pw pu px x u f:Bool) (w:World):Calls Tryz.prog 34 #[.agg (sn pw pu px),.agg #[.bool x,.bool u,.bool f]] w (re (.bool (mayV pw pu px x u f)) w):=by
 cases x <;> cases u <;> cases f
 all_goals
  go_enter Tryz.func34,Tryz.ntmps34
  go_wp2
  all_goals
   go_returns
   refine ⟨?_,Go.Joins.below_alloc2 _ _ _⟩
   simp_all [mayV]
def codeV (x u f th:Bool):Int:=(if th then 1 else 0)+(if x then 2 else 0)+(if u then 4 else 0)+(if f then 16 else 0)
theorem code_any (x u f th:Bool) (w:World):Calls Tryz.prog 95 #[.agg #[.bool x,.bool u,.bool f],.bool th] w (re (.int .i64 (codeV x u f th)) w):=by
 cases x <;> cases u <;> cases f <;> cases th
 all_goals
  go_enter Tryz.func95,Tryz.ntmps95
  go_wp2
  go_returns
  exact ⟨rfl,baa⟩
theorem reserve_ok {A:List Sr} (h:Mc Y O n W M m s T S A) (k:Nat) (b:Box m s k) (hr:1<=(s.T k).room) :
 Calls Tryz.prog 110 #[pp M.mb,.int .i64 k] W fun e w'=> ∃ f:Nat,e=.returned (.tuple #[.int .i64 f,.int .i64 0])/\s.Fr f/\Pu (fun j=>Y j\/O j≠0) w' m (takeS s k [f])/\Kx (fun j=>Y j\/O j≠0) W w':=by
 have HM:Hid (Mc Y O n W M m s T S A):=h
 have xm:Y M.mb\/O M.mb≠0:=Or.inr (by rw [h.o1];omega)
 obtain ⟨c1,c2⟩:=used_charge (n:=0) b.k6 b.live (by omega)
 rw [used_zero] at c1 c2
 obtain ⟨i,hi,_⟩:=b.some h.pu.so (L:=[]) List.nodup_nil (by simp) kh (by simp)
 have CC:Hid (Calls Tryz.prog 105 (sf (pp m.tb) k 1) W fun e w'=>e=.returned (.int .i64 0)/\Pu (fun j=>Y j\/O j≠0) w' m { s with T:=Qu.chargeT s.T k 1 }/\Kx (fun j=>Y j\/O j≠0) W w'/\Blk w' M.mb [pp m.rb,pp m.b,pp m.tb,pp M.tl,pp M.tg,.int .i64 M.kf,.map (some M.sm)] 62):=by
  refine (h.pu.charge k 1 (ok_charge h.pu.so.ok k 1)).mono ?_
  rintro e w' ⟨he,hp,hk⟩
  rw [c1] at he
  exact ⟨he,hp,hk,h.mac.kx hk xm⟩
 have TC:Hid (∀ w:World,Pu (fun j=>Y j\/O j≠0) w m { s with T:=Qu.chargeT s.T k 1 }->Kx (fun j=>Y j\/O j≠0) W w->Calls Tryz.prog 106 #[pp m.b,.int .i64 0] w fun e w'=> ∃ f:Nat,e=.returned (.tuple #[.int .i64 f,.int .i64 0])/\s.Fr f/\Pu (fun j=>Y j\/O j≠0) w' m (takeS s k [f])/\Kx (fun j=>Y j\/O j≠0) W w'):=fun w hp hk=>by
  refine (hp.take ⟨i,hi⟩).mono ?_
  rintro e w' ⟨f,he,hF,hp2,hk2⟩
  refine ⟨f,he,hF,?_,hk.trans hk2⟩
  have q:=take_snoc s k [] f
  rw [take_nil] at q
  rw [List.nil_append] at q
  rw [<- q]
  rw [c2] at hp2
  exact hp2
 have c2':W.cell? ⟨M.mb,2,none⟩=some (pp m.tb):=h.mac.cell 2
 clear h b hr c1 c2 hi xm
 go_enter Tryz.func110,Tryz.ntmps110
 go_wp2_with fail
 refine Calls.mono CC.out ?_
 rintro e w1 ⟨rfl,hp1,hk1,hB1⟩
 have T1:Hid (_):=TC.out w1 hp1 hk1
 have c1:w1.cell? ⟨M.mb,1,none⟩=some (pp m.b):=hB1.cell 1
 clear hp1 hk1 hB1 CC TC c2'
 go_wp2_with fail
 refine Calls.mono T1.out ?_
 rintro e w2 ⟨f,rfl,hF,hp2,hk2⟩
 have H2:Hid (s.Fr f/\Pu (fun j=>Y j\/O j≠0) w2 m (takeS s k [f])/\Kx (fun j=>Y j\/O j≠0) W w2):=⟨hF,hp2,hk2⟩
 clear hF hp2 hk2 T1 c1
 go_wp2_with fail
 go_returns
 exact ⟨f,rfl,H2.out⟩
theorem apt_take {s:Ps} {k f:Nat} (hf:s.Fr f):Apt s (takeS s k [f]) (fun _ _=>none) (fun _ _=>none):=⟨fun f0 _ nf=>by
 have fr:f0≠f:=fun e=>nf (by rw [e];exact hf)
 refine ⟨?_,fun q=>nf q.1,fun _ _=>rfl⟩
 show (if 0<=(f0:Int)/\(f0:Int).toNat∈[f] then some 0 else s.G f0)=s.G f0
 rw [if_neg (by rintro ⟨_,q⟩;simp at q;exact fr q)],fun l x f e=>(by cases e),fun f e=>(by cases e)⟩
theorem Mc.take {A:List Sr} {W':World} {k f:Nat} (h:Mc Y O n W M m s T S A) (hf:s.Fr f) (hk:Kx (fun j=>Y j\/O j≠0) W W') (hp:Pu (fun j=>Y j\/O j≠0) W' m (takeS s k [f])):Mc Y O n W' M m (takeS s k [f]) T S A/\m.has f=true/\(takeS s k [f]).G f=some 0/\ ¬ (takeS s k [f]).Fr f/\ ∀ a∈A,∀ l x,a.tab l x≠some f:=by
 have ap:=apt_take (k:=k) hf
 refine ⟨h.next hk hp (fun a ha=>(rt_apt (h.rt a ha) ap (fun l x l' x' f e=>by cases e)).1) (fun a ha p v e=> ?_),h.pu.so.fh f hf,?_,fun q=>q.2 (by simp),fun a ha l x e=>(h.rt a ha).ow l x f e |>.2.2 hf⟩
 . obtain ⟨d1,g,d2,d3,d4,d5⟩:=h.dat a ha p v e
   obtain ⟨g1,g2,_⟩:=ap.oth g (fun l x e=>by cases e) d4
   exact ⟨d1,g,d2,by rw [g1];exact d3,g2,d5⟩
 . show (if 0<=(f:Int)/\(f:Int).toNat∈[f] then some 0 else s.G f)=some 0
   rw [if_pos ⟨by omega,by simp⟩]
theorem Mc.tabs {a:Sr} {B:List Sr} {W':World} {s':Ps} {tab':Nat->Nat->Option Nat} {lf':Nat->Option Lf} (h:Mc Y O n W M m s T S (a::B)) (hk:Kx (fun j=>Y j\/O j≠0) W W') (hp:Pu (fun j=>Y j\/O j≠0) W' m s') (ra:Rt m s' a.root tab' lf') (ap:Apt s s' a.tab tab')
 (da: ∀ p v,lf' p=some v->m.has v.f=true/\ ∃ f:Nat,v.f=f/\s'.G f=some 0/\ ¬ s'.Fr f/\(∀ l x,tab' l x≠some f)/\ ∀ b∈B,∀ l x,b.tab l x≠some f):Mc Y O n W' M m s' T S ({ a with tab:=tab',lf:=lf' }::B):=by
 have ma:=List.mem_cons_self (a:=a) (l:=B)
 have lm: ∀ b,O b≠0->W'.heap[b]? =W.heap[b]? :=fun b hO=>hk.block b (Or.inr hO)
 have rb: ∀ b∈B,Rt m s' b.root b.tab b.lf/\ ∀ l x l' x' f,tab' l x=some f->b.tab l' x'≠some f:=fun b hb=>rt_apt (h.rt b (List.mem_cons_of_mem _ hb)) ap (fun l x l' x' f e=>h.dj a ma b (List.mem_cons_of_mem _ hb) (fun e=>h.other b hb e.symm) l x l' x' f e)
 refine ⟨hp,h.y0,h.yo,(lm _ (by rw [h.o1];omega)).trans h.mac,tlb_block h.tlb hk.size (lm _ (by rw [h.o2];omega)),h.tgs.kept fun b _ hb=>lm b kk1,h.map.block (lm _ (by rw [h.o4];omega)),h.o1,h.o2,h.o3,h.o4,fun b hb=> ?_,fun b hb=> ?_,h.ni,h.nj,fun x hx y hy hxy=> ?_,fun b hb p v e=> ?_,h.kf⟩
 . rcases List.mem_cons.1 hb with rfl | hb
   . have q:=(h.sp a ma).keep (O':=O) hk.size fun b hl b1 b2=>⟨lm b (by omega),rfl⟩
     exact ⟨q.blk,q.map,q.lis,q.cap,q.few,q.o1,q.o2,q.o3⟩
   . exact (h.sp b (List.mem_cons_of_mem _ hb)).keep hk.size fun d hl b1 b2=>⟨lm d (by omega),rfl⟩
 . rcases List.mem_cons.1 hb with rfl | hb
   . exact ra
   . exact (rb b hb).1
 . rcases List.mem_cons.1 hx with rfl | hx <;> rcases List.mem_cons.1 hy with rfl | hy
   . exact absurd rfl hxy
   . exact (rb y hy).2
   . exact fun l i l' i' f e e'=>(rb x hx).2 l' i' l i f e' e
   . exact h.dj x (List.mem_cons_of_mem _ hx) y (List.mem_cons_of_mem _ hy) hxy
 . rcases List.mem_cons.1 hb with rfl | hb
   . obtain ⟨d1,f,d2,d3,d4,d5,d6⟩:=da p v e
     refine ⟨d1,f,d2,d3,d4,fun x hx=> ?_⟩
     rcases List.mem_cons.1 hx with rfl | hx
     . exact d5
     . exact d6 x hx
   . obtain ⟨d1,f,d2,d3,d4,d5⟩:=h.dat b (List.mem_cons_of_mem _ hb) p v e
     obtain ⟨g1,g2,_⟩:=ap.oth f (d5 a ma) d4
     refine ⟨d1,f,d2,by rw [g1];exact d3,g2,fun x hx=> ?_⟩
     rcases List.mem_cons.1 hx with rfl | hx
     . intro l i e'
       rcases ap.new l i f e' with q | q
       . exact d5 a ma l i q
       . exact d4 q
     . exact d5 x (List.mem_cons_of_mem _ hx)
theorem Mc.zero {A:List Sr} {W':World} {f:Nat} (h:Mc Y O n W M m s T S A) (hn: ∀ a∈A,∀ l x,a.tab l x≠some f) (hk:Kx (fun j=>Y j\/O j≠0) W W') (hp:Pu (fun j=>Y j\/O j≠0) W' m { s with M:=mzero s.M f }):Mc Y O n W' M m { s with M:=mzero s.M f } T S A :=
 h.next hk hp (fun a ha=>⟨(h.rt a ha).pw.keep fun l x g e i hi=>by
  have q:=zeroL_other (M:=s.M) [f] (f:=g) (by simp;intro c;exact hn a ha l x (by rw [<- c];exact e)) i hi
  exact q,(h.rt a ha).fu,(h.rt a ha).ow⟩) h.dat
theorem Mc.lent {a:Sr} {B:List Sr} {W':World} {ln':Nat} {lt':Int->Option Int} (h:Mc Y O n W M m s T S (a::B)) (hg:W.grownBy W' (some a.lb)) (hm:Pc.MapI W' a.lb ln' lt'):Mc Y O n W' M m s T S ({ a with ln:=ln',lt:=lt' }::B)/\Kx Y W W':=by
 have ma:=List.mem_cons_self (a:=a) (l:=B)
 have sa:=h.sp a ma
 have ya: ∀ j,Y j->j≠a.lb:=fun j hj e=>by have:=h.yo j hj;rw [e,sa.o2] at this;omega
 have lm: ∀ b,O b≠0->O b≠6+3*a.j->W'.heap[b]? =W.heap[b]? :=fun b hO c=>hg.block b (h.lt b hO) (fun e=>c (by rw [sia e];exact sa.o2))
 refine ⟨⟨h.pu.poke (Or.inr (by rw [sa.o2];omega)) (fun e=>ya 0 h.y0 e.symm) hg,h.y0,h.yo,(lm _ (by rw [h.o1];omega) (by rw [h.o1];omega)).trans h.mac,tlb_block h.tlb hg.size (lm _ (by rw [h.o2];omega) (by rw [h.o2];omega)),h.tgs.kept fun b _ hb=> ?_,h.map.block (lm _ (by rw [h.o4];omega) (by rw [h.o4];omega)),h.o1,h.o2,h.o3,h.o4,fun b hb=> ?_,fun b hb=> ?_,h.ni,h.nj,?_,fun b hb p v e=> ?_,h.kf⟩,kept_one hg fun j hj=>⟨ya j hj,h.pu.lt j (Or.inl hj)⟩⟩
 . have o:O b=3:=by rcases hb with rfl | rfl | rfl;exact h.o3.1;exact h.o3.2.1;exact h.o3.2.2
   exact lm b (by omega) (by omega)
 . rcases List.mem_cons.1 hb with rfl | hb
   . refine ⟨(lm _ (by rw [sa.o1];omega) (by rw [sa.o1];omega)).trans sa.blk,hm,list_block sa.lis hg.size fun g eg lg hl=>lm g (by rw [sa.o3 g eg hl];omega) (by rw [sa.o3 g eg hl];omega),sa.cap,sa.few,sa.o1,sa.o2,sa.o3⟩
   . have:=h.other b hb
     exact (h.sp b (List.mem_cons_of_mem _ hb)).keep hg.size fun d hl b1 b2=>⟨lm d (by omega) (by omega),rfl⟩
 . rcases List.mem_cons.1 hb with rfl | hb
   . exact h.rt a ma
   . exact h.rt b (List.mem_cons_of_mem _ hb)
 . exact forall_head2 (P:=fun x y=>x.j≠y.j-> ∀ l i l' i' f,x.tab l i=some f->y.tab l' i'≠some f) h.dj (fun _ q=>q) (fun _ q=>q) (fun q=>q)
 . have e2: ∃ b0∈a::B,b0.lf p=some v:=by
    rcases List.mem_cons.1 hb with rfl | hb
    . exact ⟨a,ma,e⟩
    . exact ⟨b,List.mem_cons_of_mem _ hb,e⟩
   obtain ⟨b0,m0,e0⟩:=e2
   obtain ⟨d1,f,d2,d3,d4,d5⟩:=h.dat b0 m0 p v e0
   refine ⟨d1,f,d2,d3,d4,fun x hx=> ?_⟩
   rcases List.mem_cons.1 hx with rfl | hx
   . exact d5 a ma
   . exact d5 x (List.mem_cons_of_mem _ hx)
end
end Go.Proofs.YtgbdnnkkcpkhdaaGreatDoor.Sp
