import Derived.Test.YtmabmknmnkhhbaaGreatDoorMDl
import Derived.Test.YtmabmknmnkhhbaaGreatDoorMCl
namespace Go.Proofs.YtmabmknmnkhhbaaGreatDoor.Tt
set_option linter.unusedSimpArgs false
set_option linter.unusedVariables false
set_option maxRecDepth 8000
def pg (lf:Nat->Option Lf):Nat->Nat->List Nat
 | 0, p => if (lf p).isSome = true then [p] else []
 | l + 1, x => (List.range 512).flatMap fun i => pg lf l (x * 512 + i)
def pgN (lf:Nat->Option Lf) (l x n:Nat):List Nat:=(List.range n).flatMap fun i=>pg lf l (x*512+i)
theorem pgN_zero (lf:Nat->Option Lf) (l x:Nat):pgN lf l x 0=[]:=rfl
theorem pgN_succ (lf:Nat->Option Lf) (l x n:Nat):pgN lf l x (n+1)=pgN lf l x n++pg lf l (x*512+n):=by
 unfold pgN
 rw [List.range_succ,List.flatMap_append]
 simp
theorem pgN_all (lf:Nat->Option Lf) (l x:Nat):pgN lf l x 512=pg lf (l+1) x:=rfl
theorem mem_pg (lf:Nat->Option Lf) (p:Nat): ∀ l x,p∈pg lf l x↔pre l p=x/\(lf p).isSome=true:=by
 intro l
 induction l with
 | zero =>
  intro x
  show p∈(if (lf x).isSome=true then [x] else [])↔p=x/\_
  constructor
  . intro h
    by_cases c:(lf x).isSome=true
    . rw [if_pos c] at h
      simp at h
      subst h
      exact ⟨rfl,c⟩
    . rw [if_neg c] at h;cases h
  . rintro ⟨rfl,h⟩
    rw [if_pos h];simp
 | succ l ih =>
  intro x
  show p∈(List.range 512).flatMap _↔pre l p / 512=x/\_
  rw [List.mem_flatMap]
  constructor
  . rintro ⟨i,hi,h⟩
    rw [List.mem_range] at hi
    obtain ⟨a,b⟩:=(ih _).1 h
    exact ⟨by omega,b⟩
  . rintro ⟨a,b⟩
    exact ⟨pre l p % 512,List.mem_range.2 (Nat.mod_lt _ (by omega)),(ih _).2 ⟨by omega,b⟩⟩
theorem pre_mono {p q:Nat} (h:p<=q): ∀ l,pre l p<=pre l q:=by
 intro l
 induction l with
 | zero => exact h
 | succ l ih => show pre l p / 512 ≤ pre l q / 512; exact Nat.div_le_div_right ih
theorem pg_rising (lf:Nat->Option Lf): ∀ l x,(pg lf l x).Pairwise (· < ·):=by
 intro l
 induction l with
 | zero =>
  intro x
  show (if (lf x).isSome=true then [x] else []).Pairwise _
  split <;> simp
 | succ l ih =>
  intro x
  show ((List.range 512).flatMap fun i=>pg lf l (x*512+i)).Pairwise _
  rw [List.pairwise_flatMap]
  refine ⟨fun i _=>ih _,?_⟩
  refine List.pairwise_lt_range.imp ?_
  intro i j hij a ha c hc
  have e1:=((mem_pg lf a l _).1 ha).1
  have e2:=((mem_pg lf c l _).1 hc).1
  apply Nat.lt_of_not_le
  intro hle
  have:=pre_mono hle l
  omega
theorem pg_none {M:Int->Int} {root:Nat} {tab:Nat->Nat->Option Nat} {lf:Nat->Option Lf} (H:PW M root tab lf) {l x:Nat} (l1:1<=l) (l3:l<=3) (h:tab l x=none):pg lf l x=[]:=by
 apply List.eq_nil_iff_forall_not_mem.2
 intro p hp
 obtain ⟨e,hs⟩:=(mem_pg lf p l x).1 hp
 obtain ⟨v,hv⟩:=Option.isSome_iff_exists.1 hs
 obtain ⟨_,g,hg,_⟩:=H.lf1 p v hv
 have t1:tab 1 (pre 1 p)=some g:=hg
 obtain ⟨g2,t2,_⟩:=H.up 1 _ g (by omega) t1
 have t2':tab 2 (pre 2 p)=some g2:=t2
 obtain ⟨g3,t3,_⟩:=H.up 2 _ g2 (by omega) t2'
 have t3':tab 3 (pre 3 p)=some g3:=t3
 rcases (show l=1\/l=2\/l=3 by omega) with rfl | rfl | rfl
 . rw [e,h] at t1;cases t1
 . rw [e,h] at t2';cases t2'
 . rw [e,h] at t3';cases t3'
theorem pg_far {M:Int->Int} {root:Nat} {tab:Nat->Nat->Option Nat} {lf:Nat->Option Lf} (H:PW M root tab lf) {x:Nat} (hx:256<=x):pg lf 3 x=[]:=by
 apply List.eq_nil_iff_forall_not_mem.2
 intro p hp
 obtain ⟨e,hs⟩:=(mem_pg lf p 3 x).1 hp
 obtain ⟨v,hv⟩:=Option.isSome_iff_exists.1 hs
 have:=pre3 (H.lf1 p v hv).1
 omega
end Go.Proofs.YtmabmknmnkhhbaaGreatDoor.Tt
namespace Go.Proofs.YtmabmknmnkhhbaaGreatDoor.Tt
open Go.ChangeShapes Go.WideShapes Go.ChangeAt Go.RowKit Go.Maps
set_option linter.unusedSimpArgs false
set_option linter.unusedVariables false
set_option maxRecDepth 8000
theorem pgN_le (lf:Nat->Option Lf) (l x n:Nat) (hn:n<=512):(pgN lf l x n).length<=(pg lf (l+1) x).length:=by
 rw [<- pgN_all]
 obtain ⟨d,rfl⟩: ∃ d,n=512-d:=⟨512-n,by omega⟩
 clear hn
 induction d with
 | zero => exact Nat.le_refl _
 | succ d ih =>
  by_cases c:d<512
  . refine Nat.le_trans ?_ ih
    rw [show 512-d=(512-(d+1))+1 by omega,pgN_succ,List.length_append]
    omega
  . rw [show 512-(d+1)=512-d by omega];exact ih
theorem pgN_next (lf:Nat->Option Lf) (l x n:Nat) (hn:n<512):(pgN lf l x n).length+(pg lf l (x*512+n)).length<=(pg lf (l+1) x).length:=by
 have:=pgN_le lf l x (n+1) (by omega)
 rw [pgN_succ,List.length_append] at this
 exact this
section
variable {M:Int->Int} {root:Nat} {tab:Nat->Nat->Option Nat} {lf:Nat->Option Lf}
theorem PW.lt3 (H:PW M root tab lf) {x g:Nat} (h:tab 3 x=some g):x<256:=(H.dom 3 x g h).2.2.2 rfl
theorem PW.lt2 (H:PW M root tab lf) {x g:Nat} (h:tab 2 x=some g):x<131072:=by
 obtain ⟨f,hf,_⟩:=H.up 2 x g (by omega) h
 have:=H.lt3 hf
 omega
theorem PW.lt1 (H:PW M root tab lf) {x g:Nat} (h:tab 1 x=some g):x<67108864:=by
 obtain ⟨f,hf,_⟩:=H.up 1 x g (by omega) h
 have:=H.lt2 hf
 omega
theorem PW.at (H:PW M root tab lf) {l x g n:Nat} (l1:1<=l) (l3:l<=3) (h:tab (l+1) x=some g) (n5:n<512) (far:l=3->n<256) :
 (tab l (x*512+n)=none/\En M g n=0)\/ ∃ f,tab l (x*512+n)=some f/\MkT (En M g n) f:=by
 have e1:(x*512+n) / 512=x:=by omega
 have e2:(x*512+n) % 512=n:=by omega
 cases c:tab l (x*512+n) with
 | none =>
  left
  have q:=H.no l (x*512+n) g l1 (by omega) (fun e=> ?_) c (by rw [e1];exact h)
  . rw [e2] at q;exact ⟨rfl,q⟩
  . subst e
    have:=(H.dom 4 x g h).2.2.1 rfl
    have:=far rfl
    omega
 | some f =>
  right
  obtain ⟨g',hg',mk⟩:=H.up l _ f (by omega) c
  rw [e1,h] at hg'
  cases hg'
  rw [e2] at mk
  exact ⟨f,rfl,mk⟩
theorem PW.at1 (H:PW M root tab lf) {x g n:Nat} (h:tab 1 x=some g) (n5:n<512) :
 (lf (x*512+n)=none/\En M g n=0)\/ ∃ v,lf (x*512+n)=some v/\MkL (En M g n) v:=by
 have e1:(x*512+n) / 512=x:=by omega
 have e2:(x*512+n) % 512=n:=by omega
 have hx:=H.lt1 h
 cases c:lf (x*512+n) with
 | none =>
  left
  have q:=H.lf0 (x*512+n) g (by omega) c (by rw [e1];exact h)
  rw [e2] at q;exact ⟨rfl,q⟩
 | some v =>
  right
  obtain ⟨_,g',hg',mk⟩:=H.lf1 _ v c
  rw [e1,h] at hg'
  cases hg'
  rw [e2] at mk
  exact ⟨v,rfl,mk⟩
end
theorem pg0_none {lf:Nat->Option Lf} {p:Nat} (h:lf p=none):pg lf 0 p=[]:=by show (if (lf p).isSome=true then [p] else [])=[];rw [h];rfl
theorem pg0_some {lf:Nat->Option Lf} {p:Nat} {v:Lf} (h:lf p=some v):pg lf 0 p=[p]:=by show (if (lf p).isSome=true then [p] else [])=[p];rw [h];rfl
structure Lg (W w':World) (v v':Value):Prop where
 gr:W.grownBy w' v.ownBlock
 ob: ∀ g,v'.ownBlock=some g->v.ownBlock=some g\/W.heap.size<=g
theorem Lg.then {W w1 w2:World} {v v1 v2:Value} (h1:Lg W w1 v v1) (h2:Lg w1 w2 v1 v2):Lg W w2 v v2:=by
 refine ⟨⟨h2.gr.os.trans h1.gr.os,h2.gr.tape.trans h1.gr.tape,h2.gr.output.trans h1.gr.output,Nat.le_trans h1.gr.size h2.gr.size,fun j hj ne=> ?_⟩,fun g e=> ?_⟩
 . refine (h2.gr.block j (Nat.lt_of_lt_of_le hj h1.gr.size) (fun e=> ?_)).trans (h1.gr.block j hj ne)
   rcases h1.ob j e.symm with q | q
   . exact ne q.symm
   . omega
 . rcases h2.ob g e with q | q
   . exact h1.ob g q
   . have:=h1.gr.size
     exact Or.inr (by omega)
theorem Lg.grow {W w:World} (v:Value) (hb:Below W.heap.size W w):Lg W w v v:=⟨⟨hb.os,hb.tape,hb.output,hb.size,fun j hj _=>hb.block j hj⟩,fun g e=>Or.inl e⟩
theorem Lg.below {W0 W w:World} {v v':Value} {L:List Int} (h:Lg W w v v') (ho:Li.OI W W0.heap.size v L) (hb:Below W0.heap.size W0 W):Below W0.heap.size W0 w :=
 hb.trans ⟨h.gr.os,h.gr.tape,h.gr.output,h.gr.size,fun j hj=>h.gr.block j (Nat.lt_of_lt_of_le hj hb.size) (fun e=>by have:=(Li.row_lt ho j e.symm).1;omega)⟩
theorem Lg.blk {W w:World} {v v':Value} {b:Nat} {C:List Value} {t:TypeId} (h:Lg W w v v') (hb:Blk W b C t) (ne:v.ownBlock≠some b):Blk w b C t:=(h.gr.block b hb.lt (fun e=>ne e.symm)).trans hb
structure BI (W0 W:World) (A:Nat) (m:Pm) (k:Int) (v0:Value) (L:List Nat) (v:Value) (w:World):Prop where
 bel:Below W0.heap.size W0 w
 box:Blk w A [pp m.rb,pp m.b,pp m.tb,.int .i64 k] 99
 own:Li.OI w W0.heap.size v (ints L)
 lg:Lg W w v0 v
 ne:v.ownBlock≠some A
theorem BI.grow {W0 W w w':World} {A:Nat} {m:Pm} {k:Int} {v0 v:Value} {L:List Nat} (H:BI W0 W A m k v0 L v w) (hb:Below w.heap.size w w'):BI W0 W A m k v0 L v w' :=
 ⟨(Lg.grow v hb).below H.own H.bel,H.box.below hb,Li.row_below H.own hb,H.lg.then (Lg.grow v hb),H.ne⟩
theorem BI.step {W0 W w w':World} {A:Nat} {m:Pm} {k:Int} {v0 v v':Value} {L L':List Nat} (H:BI W0 W A m k v0 L v w) (ho:Li.OI w' W0.heap.size v' (ints L')) (h:Lg w w' v v'):BI W0 W A m k v0 L' v' w' :=
 ⟨h.below H.own H.bel,h.blk H.box H.ne,ho,H.lg.then h,fun e=>by
  rcases h.ob A e with q | q
  . exact H.ne q
  . have:=H.box.lt;omega⟩
theorem BI.app {W0 W w:World} {A:Nat} {m:Pm} {k:Int} {v0 v:Value} {L:List Nat} (H:BI W0 W A m k v0 L v w) (hL:L.length<=1000000) (p:Nat) :
 ∃ v' W2,(Builtin.append_ #[46,46] 46 #[v,.slice (some ⟨w.heap.size,0,none⟩) 1 1]).run Tryz.prog (w.alloc (.cells #[.int .i64 p] 3))=.ok v' W2/\BI W0 W A m k v0 (L++[p]) v' W2:=by
 obtain ⟨v',W2,r,ho,hg,hat⟩:=Li.app_row Li.eI_len Li.eI_one (by decide) Tryz.underlying46 Li.infoI rfl (by decide) W0.heap.size v (ints L) (p:Int) (by rw [List.length_map];omega) w H.own H.bel.size
 have s1:(w.alloc (.cells (Li.eI p).toArray 3)).heap.size=w.heap.size+1:=World.size_alloc _ _
 have b1:Below w.heap.size w (w.alloc (.cells (Li.eI p).toArray 3)):=Go.Joins.below_alloc1 _ _
 refine ⟨v',W2,r,H.step (v':=v') ?_ ((Lg.grow v b1).then ⟨hg,fun g e=> ?_⟩)⟩
 . have e:ints (L++[p])=ints L++[(p:Int)]:=by simp [ints]
   rw [e];exact ho
 . rcases hat with q | q
   . exact Or.inl (by rw [<- q];exact e)
   . rw [q] at e
     have:=Option.some.inj e
     exact Or.inr (by rw [s1];omega)
end Go.Proofs.YtmabmknmnkhhbaaGreatDoor.Tt
namespace Go.Proofs.YtmabmknmnkhhbaaGreatDoor.Tt
open Go.ChangeShapes Go.WideShapes Go.ChangeAt Go.RowKit Go.Maps
open Go.Proofs.YtmabmknmnkhhbaaGreatDoor.Li (wpList_app)
set_option linter.unusedSimpArgs false
set_option linter.unusedVariables false
set_option maxRecDepth 8000
structure Grew (W0 W:World) (lf:Nat->Option Lf) (v:Value) (L:List Nat) (l x:Nat) (v':Value) (w':World):Prop where
 own:Li.OI w' W0.heap.size v' (ints (L++pg lf l x))
 lg:Lg W w' v v'
theorem pgN_far {M:Int->Int} {root:Nat} {tab:Nat->Nat->Option Nat} {lf:Nat->Option Lf} (H:PW M root tab lf):pgN lf 3 0 256=pg lf 4 0:=by
 rw [<- pgN_all]
 have: ∀ d,d<=256->pgN lf 3 0 (256+d)=pgN lf 3 0 256:=by
  intro d
  induction d with
  | zero => intro _; rfl
  | succ d ih =>
   intro hd
   rw [<- ih (by omega),show 256+(d+1)=(256+d)+1 by omega,pgN_succ,pg_far H (by omega),List.append_nil]
 exact (this 256 (by omega)).symm
set_option maxHeartbeats 2000000 in
theorem below_1 {X:Nat->Prop} {W0:World} {m:Pm} {s:Ps} (h:Pu X W0 m s) {root:Nat} {tab:Nat->Nat->Option Nat} {lf:Nat->Option Lf} (H:PW s.M root tab lf) (ow: ∀ l x (f:Nat),tab l x=some f->m.has f=true) (k:Int) {x g:Nat} (hg:tab 1 x=some g) (W:World) (hb:Below W0.heap.size W0 W) (v:Value) (L:List Nat) (ho:Li.OI W W0.heap.size v (ints L)) (hl:L.length+(pg lf 1 x).length<=1000000) :
 Calls Tryz.prog 122 #[pv m k,v,.int .i64 g,.int .i64 ((x*512:Nat):Int),.int .i64 1] W fun e w'=> ∃ v',e=.returned v'/\Grew W0 W lf v L 1 x v' w':=by
 have hb1:Below W.heap.size W (W.alloc (.cells #[pp m.rb,pp m.b,pp m.tb,.int .i64 k] 99)):=Go.Joins.below_alloc1 _ _
 have B0:Hid (BI W0 W W.heap.size m k v (L++pgN lf 0 x 0) v (W.alloc (.cells #[pp m.rb,pp m.b,pp m.tb,.int .i64 k] 99))):=by
  refine ⟨hb.trans (Go.Joins.below_le hb1 hb.size),Blk.made W [pp m.rb,pp m.b,pp m.tb,.int .i64 k] 99,?_,Lg.grow v hb1,fun e=> ?_⟩
  . rw [pgN_zero,List.append_nil];exact Li.row_below ho hb1
  . have:=(Li.row_lt ho _ e).2;omega
 have xb:=H.lt1 hg
 have GC:Hid (∀ (w:World) (n:Nat),n<512->Below W0.heap.size W0 w->Calls Tryz.prog 142 #[pv m k,.int .i64 g,.int .i64 n] w fun e w'=>e=.returned (unp (En s.M g n))/\Below w.heap.size w w'):=fun w n n5 hbw=>get_any (h.below hbw) k g n (ow _ _ _ hg) (by omega) (by omega)
 have AT:Hid (∀ n:Nat,n<512->n<512-> ∃ y,((bt (En s.M g n)=false/\pg lf 0 (x*512+n)=[])\/(bt (En s.M g n)=true/\nx (En s.M g n)=y/\pg lf 0 (x*512+n)=[x*512+n]))):=fun n n5 nf=>by
  rcases H.at1 hg n5 with ⟨e1,e2⟩ | ⟨v,e1,mk⟩
  . exact ⟨0,Or.inl ⟨by rw [e2];exact bt_zero,pg0_none e1⟩⟩
  . exact ⟨_,Or.inr ⟨mk.bt,rfl,pg0_some e1⟩⟩
 have HL:Hid (L.length+(pg lf 1 x).length<=1000000):=hl
 have PCy:Hid (∀ (p:Int),0<=p->p<34359738368-> ∀ w:World,Calls Tryz.prog 105 #[.int .i64 p] w fun e w'=>e=.returned (.bool true)/\w'=w):=fun p p0 p1 w=>page_any p true ⟨fun _=>⟨p0,p1⟩,fun _=>rfl⟩ w
 have PCn:Hid (∀ (p:Int),34359738368<=p-> ∀ w:World,Calls Tryz.prog 105 #[.int .i64 p] w fun e w'=>e=.returned (.bool false)/\w'=w):=fun p p1 w=>page_any p false ⟨fun e=>(by cases e),fun e=>by omega⟩ w
 clear h H ow hg hb ho hl hb1
 obtain ⟨fi,hfi⟩: ∃ fi:Int,fi=((x*512:Nat):Int):=⟨_,rfl⟩
 have HF:Hid (fi=((x*512:Nat):Int)):=hfi
 rw [<- hfi]
 have f0:0<=fi:=by omega
 have f1:fi+512<=34359738368:=by omega
 clear hfi
 go_enter Tryz.func122,Tryz.ntmps122
 go_upto_region 1 with fail
 generalize (W.alloc (.cells #[pp m.rb,pp m.b,pp m.tb,.int .i64 k] 99))=W1 at B0 |-
 obtain ⟨A,hA⟩: ∃ A,W.heap.size=A:=⟨_,rfl⟩
 rw [hA] at B0 |-
 clear hA
 go_wp2_with fail
 go_loopw [1,11,12,13,14,39,43] (fun vf _ _ _ vi _ _ w=> ∃ n:Nat,n<=512/\vi=.int .i64 n/\Hid (BI W0 W A m k v (L++pgN lf 0 x n) vf w)) (fun _ _ _ _ vi _ _ _=>512-(Go.RowKit.intOf vi).toNat)
 case atStart=>exact ⟨0,by omega,rfl,B0⟩
 case round =>
  clear B0
  obtain ⟨n,hn,rfl,BN⟩:=hrel
  by_cases cn:n<512
  rotate_left
  . obtain rfl:n=512:=by omega
    go_wp2_with fail
    go_returns
    exact ⟨_,rfl,BN.out.own,BN.out.lg⟩
  have n5:n<512:=by omega
  have d1:decide ((n:Int)<512)=true:=by simp;omega
  obtain ⟨y,hy⟩:=AT.out n n5 cn
  have GN:Hid _:=fun w hw=>GC.out w n n5 hw
  obtain ⟨z,hz⟩: ∃ z,En s.M g n=z:=⟨_,rfl⟩
  rw [hz] at GN hy
  obtain ⟨pgv,hpg⟩: ∃ pgv:Int,pgv=fi+(n:Int)*1:=⟨_,rfl⟩
  have p0:0<=pgv:=by omega
  have p1:pgv<34359738368:=by omega
  have w1:IntKind.i64.wrap ((n:Int)*1)=(n:Int)*1:=by simp only [IntKind.wrap_i64];omega
  have w2:IntKind.i64.wrap (fi+(n:Int)*1)=pgv:=by simp only [IntKind.wrap_i64];omega
  have HPG:Hid (pgv=(((x*512+n)*1:Nat):Int)):=by have q:=HF.out;show _=_;omega
  have HPF:Hid (pgv=fi+(n:Int)):=by show _=_;omega
  clear hpg hz
  go_upto_region 5 with fail
  rw [<- HPF.out]
  clear HPF
  go_wp2_with fail
  refine Calls.mono (PCy.out pgv p0 p1 wr) ?_
  rintro e w0' ⟨rfl,hw0⟩
  have hw1:=hw0.symm
  subst hw1
  clear hw0
  clear w1 w2
  have BX:=BN.out.box
  have c0:wr.cell? ⟨A,0,none⟩=some (pp m.rb):=BX.cell 0
  have c1:wr.cell? ⟨A,1,none⟩=some (pp m.b):=BX.cell 1
  have c2:wr.cell? ⟨A,2,none⟩=some (pp m.tb):=BX.cell 2
  have c3:wr.cell? ⟨A,3,none⟩=some (.int .i64 k):=BX.cell 3
  have lA:=BX.lt
  clear BX
  obtain ⟨b1,b2,b3,b4,b5,b6,b7,hu⟩: ∃ b1 b2 b3 b4 b5 b6 b7,unp z=.agg #[.bool (bt z),.bool b1,.bool b2,.bool b3,.bool b4,.bool b5,.bool b6,.bool b7,.int .i64 (nx z:Nat)]:=⟨_,_,_,_,_,_,_,by unfold unp;rw [nx_cast]⟩
  have GX:=GN.out wr BN.out.bel
  rw [hu] at GX
  obtain ⟨yy,hyy⟩: ∃ yy:Nat,nx z=yy:=⟨_,rfl⟩
  obtain ⟨bb,hbb⟩: ∃ bb:Bool,bt z=bb:=⟨_,rfl⟩
  rw [hyy,hbb] at GX hy
  have HY:Hid _:=hy
  have GX:Hid _:=GX
  clear hu hyy hbb hy GN
  go_wp2_with fail
  refine Calls.mono GX.out ?_
  rintro e w2 ⟨rfl,hb2⟩
  clear c0 c1 c2 c3 lA GX
  obtain ⟨V,hV⟩: ∃ V,V=(w2.alloc (.cells #[.bool false,.bool false,.bool false,.bool false,.bool false,.bool false,.bool false,.bool false,.int .i64 0] 184)).setCells w2.heap.size 0 [.bool bb,.bool b1,.bool b2,.bool b3,.bool b4,.bool b5,.bool b6,.bool b7,.int .i64 (yy:Nat)]:=⟨_,rfl⟩
  have HV:Hid (Blk V w2.heap.size [.bool bb,.bool b1,.bool b2,.bool b3,.bool b4,.bool b5,.bool b6,.bool b7,.int .i64 (yy:Nat)] 184/\Below w2.heap.size w2 V):=by
   rw [hV]
   have q:=Qu.grown_setCells w2.heap.size [.bool bb,.bool b1,.bool b2,.bool b3,.bool b4,.bool b5,.bool b6,.bool b7,.int .i64 (yy:Nat)] 0 (w2.alloc (.cells #[.bool false,.bool false,.bool false,.bool false,.bool false,.bool false,.bool false,.bool false,.int .i64 0] 184))
   have q1:Below w2.heap.size w2 (w2.alloc (.cells #[.bool false,.bool false,.bool false,.bool false,.bool false,.bool false,.bool false,.bool false,.int .i64 0] 184)):=Go.Joins.below_alloc1 _ _
   exact ⟨(Blk.made w2 [.bool false,.bool false,.bool false,.bool false,.bool false,.bool false,.bool false,.bool false,.int .i64 0] 184).put rfl,q1.trans ⟨q.os,q.tape,q.output,q.size,fun j hj=>q.block j (Nat.lt_of_lt_of_le hj q1.size) (fun e=>by have:=Option.some.inj e;omega)⟩⟩
  have BV:Hid (BI W0 W A m k v (L++pgN lf 0 x n) u1 V):=(BN.out.grow hb2).grow HV.out.2
  clear hb2 BN
  rename_i hcont
  refine hcont _ _ ?_
  clear hcont
  iterate 3 go_step
  refine store_pat w2.heap.size 0 #[.bool bb,.bool b1,.bool b2,.bool b3,.bool b4,.bool b5,.bool b6,.bool b7,.int .i64 (yy:Nat)] rfl rfl (Blk.made w2 [.bool false,.bool false,.bool false,.bool false,.bool false,.bool false,.bool false,.bool false,.int .i64 0] 184).there (by kernel_rfl) (by simp [Value.oneCell']) ?_
  simp only [List.toList_toArray]
  rw [<- hV]
  clear hV
  go_upto_region 8 with fail
  have e0:V.cell? ⟨w2.heap.size,0,none⟩=some (.bool bb):=HV.out.1.cell 0
  have e8:V.cell? ⟨w2.heap.size,8,none⟩=some (.int .i64 (yy:Nat)):=HV.out.1.cell 8
  have lE:=HV.out.1.lt
  have BN:=BV
  clear BV HV
  generalize w2.heap.size=E at e0 e8 lE |-
  have HLn:Hid ((L++pgN lf 0 x n).length+(pg lf 0 (x*512+n)).length<=1000000):=by
   have a:=HL.out
   have b:(pgN lf 0 x n).length+(pg lf 0 (x*512+n)).length<=(pg lf 1 x).length:=pgN_next lf 0 x n n5
   show _<=_
   rw [List.length_append]
   omega
  cases bb with
  | false =>
   have HE:Hid (BI W0 W A m k v (L++pgN lf 0 x (n+1)) u1 V):=by
    rcases HY.out with q | q
    . rw [pgN_succ,q.2,List.append_nil];exact BN.out
    . cases q.1
   clear BN HY HLn
   go_wp2_with fail
   go_roundw
   case rel=>exact ⟨n+1,by omega,by go_num,HE⟩
   case measure=>simp [Go.RowKit.intOf];omega
  | true =>
   have HS:Hid (pg lf 0 (x*512+n)=[x*512+n]):=by
    rcases HY.out with q | q
    . cases q.1
    . exact q.2.2
   obtain ⟨v',W2,r,B2⟩:=BN.out.app (by have:=HLn.out;omega) (x*512+n)
   have HE:Hid (BI W0 W A m k v (L++pgN lf 0 x (n+1)) v' W2):=by
    show BI _ _ _ _ _ _ _ _ _
    rw [pgN_succ,HS.out,<- List.append_assoc];exact B2
   rw [show ((x*512+n:Nat):Int)=pgv by have:=HPG.out;omega] at r
   clear B2 BN HY HS HLn
   go_wp2_with (at_builtin;refine wpList_app rfl _ _ 46 rfl u1 (.slice (some ⟨V.heap.size,0,none⟩) 1 1) rfl rfl v' W2 r ?_)
   go_roundw
   case rel=>exact ⟨n+1,by omega,by go_num,HE⟩
   case measure=>simp [Go.RowKit.intOf];omega
set_option maxHeartbeats 2000000 in
theorem below_2 {X:Nat->Prop} {W0:World} {m:Pm} {s:Ps} (h:Pu X W0 m s) {root:Nat} {tab:Nat->Nat->Option Nat} {lf:Nat->Option Lf} (H:PW s.M root tab lf) (ow: ∀ l x (f:Nat),tab l x=some f->m.has f=true) (k:Int) {x g:Nat} (hg:tab 2 x=some g) (W:World) (hb:Below W0.heap.size W0 W) (v:Value) (L:List Nat) (ho:Li.OI W W0.heap.size v (ints L)) (hl:L.length+(pg lf 2 x).length<=1000000) :
 Calls Tryz.prog 122 #[pv m k,v,.int .i64 g,.int .i64 ((x*262144:Nat):Int),.int .i64 2] W fun e w'=> ∃ v',e=.returned v'/\Grew W0 W lf v L 2 x v' w':=by
 have hb1:Below W.heap.size W (W.alloc (.cells #[pp m.rb,pp m.b,pp m.tb,.int .i64 k] 99)):=Go.Joins.below_alloc1 _ _
 have B0:Hid (BI W0 W W.heap.size m k v (L++pgN lf 1 x 0) v (W.alloc (.cells #[pp m.rb,pp m.b,pp m.tb,.int .i64 k] 99))):=by
  refine ⟨hb.trans (Go.Joins.below_le hb1 hb.size),Blk.made W [pp m.rb,pp m.b,pp m.tb,.int .i64 k] 99,?_,Lg.grow v hb1,fun e=> ?_⟩
  . rw [pgN_zero,List.append_nil];exact Li.row_below ho hb1
  . have:=(Li.row_lt ho _ e).2;omega
 have xb:=H.lt2 hg
 have GC:Hid (∀ (w:World) (n:Nat),n<512->Below W0.heap.size W0 w->Calls Tryz.prog 142 #[pv m k,.int .i64 g,.int .i64 n] w fun e w'=>e=.returned (unp (En s.M g n))/\Below w.heap.size w w'):=fun w n n5 hbw=>get_any (h.below hbw) k g n (ow _ _ _ hg) (by omega) (by omega)
 have AT:Hid (∀ n:Nat,n<512->n<512-> ∃ y,((bt (En s.M g n)=false/\pg lf 1 (x*512+n)=[])\/(bt (En s.M g n)=true/\nx (En s.M g n)=y/\tab 1 (x*512+n)=some y))):=fun n n5 nf=>by
  rcases H.at (l:=1) (by omega) (by omega) hg n5 (fun e=>by omega) with ⟨e1,e2⟩ | ⟨f,e1,mk⟩
  . exact ⟨0,Or.inl ⟨by rw [e2];exact bt_zero,pg_none H (by omega) (by omega) e1⟩⟩
  . exact ⟨f,Or.inr ⟨mk.bt.1,mk.bt.2,e1⟩⟩
 have RC:Hid (∀ (w:World) (n y:Nat) (v:Value) (L:List Nat),tab 1 (x*512+n)=some y->Below W0.heap.size W0 w->Li.OI w W0.heap.size v (ints L)->L.length+(pg lf 1 (x*512+n)).length<=1000000->Calls Tryz.prog 122 #[pv m k,v,.int .i64 y,.int .i64 (((x*512+n)*512:Nat):Int),.int .i64 1] w fun e w'=> ∃ v',e=.returned v'/\Grew W0 w lf v L 1 (x*512+n) v' w'):=fun w n y v L e hb ho hl=>below_1 h H ow k e w hb v L ho hl
 have HL:Hid (L.length+(pg lf 2 x).length<=1000000):=hl
 have PCy:Hid (∀ (p:Int),0<=p->p<34359738368-> ∀ w:World,Calls Tryz.prog 105 #[.int .i64 p] w fun e w'=>e=.returned (.bool true)/\w'=w):=fun p p0 p1 w=>page_any p true ⟨fun _=>⟨p0,p1⟩,fun _=>rfl⟩ w
 have PCn:Hid (∀ (p:Int),34359738368<=p-> ∀ w:World,Calls Tryz.prog 105 #[.int .i64 p] w fun e w'=>e=.returned (.bool false)/\w'=w):=fun p p1 w=>page_any p false ⟨fun e=>(by cases e),fun e=>by omega⟩ w
 clear h H ow hg hb ho hl hb1
 obtain ⟨fi,hfi⟩: ∃ fi:Int,fi=((x*262144:Nat):Int):=⟨_,rfl⟩
 have HF:Hid (fi=((x*262144:Nat):Int)):=hfi
 rw [<- hfi]
 have f0:0<=fi:=by omega
 have f1:fi+262144<=34359738368:=by omega
 clear hfi
 go_enter Tryz.func122,Tryz.ntmps122
 go_upto_region 1 with fail
 generalize (W.alloc (.cells #[pp m.rb,pp m.b,pp m.tb,.int .i64 k] 99))=W1 at B0 |-
 obtain ⟨A,hA⟩: ∃ A,W.heap.size=A:=⟨_,rfl⟩
 rw [hA] at B0 |-
 clear hA
 go_wp2_with fail
 go_loopw [1,11,12,13,14,39,43] (fun vf _ _ _ vi _ _ w=> ∃ n:Nat,n<=512/\vi=.int .i64 n/\Hid (BI W0 W A m k v (L++pgN lf 1 x n) vf w)) (fun _ _ _ _ vi _ _ _=>512-(Go.RowKit.intOf vi).toNat)
 case atStart=>exact ⟨0,by omega,rfl,B0⟩
 case round =>
  clear B0
  obtain ⟨n,hn,rfl,BN⟩:=hrel
  by_cases cn:n<512
  rotate_left
  . obtain rfl:n=512:=by omega
    go_wp2_with fail
    go_returns
    exact ⟨_,rfl,BN.out.own,BN.out.lg⟩
  have n5:n<512:=by omega
  have d1:decide ((n:Int)<512)=true:=by simp;omega
  obtain ⟨y,hy⟩:=AT.out n n5 cn
  have GN:Hid _:=fun w hw=>GC.out w n n5 hw
  obtain ⟨z,hz⟩: ∃ z,En s.M g n=z:=⟨_,rfl⟩
  rw [hz] at GN hy
  obtain ⟨pgv,hpg⟩: ∃ pgv:Int,pgv=fi+(n:Int)*512:=⟨_,rfl⟩
  have p0:0<=pgv:=by omega
  have p1:pgv<34359738368:=by omega
  have w1:IntKind.i64.wrap ((n:Int)*512)=(n:Int)*512:=by simp only [IntKind.wrap_i64];omega
  have w2:IntKind.i64.wrap (fi+(n:Int)*512)=pgv:=by simp only [IntKind.wrap_i64];omega
  have HPG:Hid (pgv=(((x*512+n)*512:Nat):Int)):=by have q:=HF.out;show _=_;omega
  have HPF:Hid (pgv=fi+(n:Int)*512):=by show _=_;omega
  clear hpg hz
  go_upto_region 5 with fail
  skip
  clear HPF
  go_wp2_with fail
  refine Calls.mono (PCy.out pgv p0 p1 wr) ?_
  rintro e w0' ⟨rfl,hw0⟩
  have hw1:=hw0.symm
  subst hw1
  clear hw0
  clear w1 w2
  have BX:=BN.out.box
  have c0:wr.cell? ⟨A,0,none⟩=some (pp m.rb):=BX.cell 0
  have c1:wr.cell? ⟨A,1,none⟩=some (pp m.b):=BX.cell 1
  have c2:wr.cell? ⟨A,2,none⟩=some (pp m.tb):=BX.cell 2
  have c3:wr.cell? ⟨A,3,none⟩=some (.int .i64 k):=BX.cell 3
  have lA:=BX.lt
  clear BX
  obtain ⟨b1,b2,b3,b4,b5,b6,b7,hu⟩: ∃ b1 b2 b3 b4 b5 b6 b7,unp z=.agg #[.bool (bt z),.bool b1,.bool b2,.bool b3,.bool b4,.bool b5,.bool b6,.bool b7,.int .i64 (nx z:Nat)]:=⟨_,_,_,_,_,_,_,by unfold unp;rw [nx_cast]⟩
  have GX:=GN.out wr BN.out.bel
  rw [hu] at GX
  obtain ⟨yy,hyy⟩: ∃ yy:Nat,nx z=yy:=⟨_,rfl⟩
  obtain ⟨bb,hbb⟩: ∃ bb:Bool,bt z=bb:=⟨_,rfl⟩
  rw [hyy,hbb] at GX hy
  have HY:Hid _:=hy
  have GX:Hid _:=GX
  clear hu hyy hbb hy GN
  go_wp2_with fail
  refine Calls.mono GX.out ?_
  rintro e w2 ⟨rfl,hb2⟩
  clear c0 c1 c2 c3 lA GX
  obtain ⟨V,hV⟩: ∃ V,V=(w2.alloc (.cells #[.bool false,.bool false,.bool false,.bool false,.bool false,.bool false,.bool false,.bool false,.int .i64 0] 184)).setCells w2.heap.size 0 [.bool bb,.bool b1,.bool b2,.bool b3,.bool b4,.bool b5,.bool b6,.bool b7,.int .i64 (yy:Nat)]:=⟨_,rfl⟩
  have HV:Hid (Blk V w2.heap.size [.bool bb,.bool b1,.bool b2,.bool b3,.bool b4,.bool b5,.bool b6,.bool b7,.int .i64 (yy:Nat)] 184/\Below w2.heap.size w2 V):=by
   rw [hV]
   have q:=Qu.grown_setCells w2.heap.size [.bool bb,.bool b1,.bool b2,.bool b3,.bool b4,.bool b5,.bool b6,.bool b7,.int .i64 (yy:Nat)] 0 (w2.alloc (.cells #[.bool false,.bool false,.bool false,.bool false,.bool false,.bool false,.bool false,.bool false,.int .i64 0] 184))
   have q1:Below w2.heap.size w2 (w2.alloc (.cells #[.bool false,.bool false,.bool false,.bool false,.bool false,.bool false,.bool false,.bool false,.int .i64 0] 184)):=Go.Joins.below_alloc1 _ _
   exact ⟨(Blk.made w2 [.bool false,.bool false,.bool false,.bool false,.bool false,.bool false,.bool false,.bool false,.int .i64 0] 184).put rfl,q1.trans ⟨q.os,q.tape,q.output,q.size,fun j hj=>q.block j (Nat.lt_of_lt_of_le hj q1.size) (fun e=>by have:=Option.some.inj e;omega)⟩⟩
  have BV:Hid (BI W0 W A m k v (L++pgN lf 1 x n) u1 V):=(BN.out.grow hb2).grow HV.out.2
  clear hb2 BN
  rename_i hcont
  refine hcont _ _ ?_
  clear hcont
  iterate 3 go_step
  refine store_pat w2.heap.size 0 #[.bool bb,.bool b1,.bool b2,.bool b3,.bool b4,.bool b5,.bool b6,.bool b7,.int .i64 (yy:Nat)] rfl rfl (Blk.made w2 [.bool false,.bool false,.bool false,.bool false,.bool false,.bool false,.bool false,.bool false,.int .i64 0] 184).there (by kernel_rfl) (by simp [Value.oneCell']) ?_
  simp only [List.toList_toArray]
  rw [<- hV]
  clear hV
  go_upto_region 8 with fail
  have e0:V.cell? ⟨w2.heap.size,0,none⟩=some (.bool bb):=HV.out.1.cell 0
  have e8:V.cell? ⟨w2.heap.size,8,none⟩=some (.int .i64 (yy:Nat)):=HV.out.1.cell 8
  have lE:=HV.out.1.lt
  have BN:=BV
  clear BV HV
  generalize w2.heap.size=E at e0 e8 lE |-
  have HLn:Hid ((L++pgN lf 1 x n).length+(pg lf 1 (x*512+n)).length<=1000000):=by
   have a:=HL.out
   have b:(pgN lf 1 x n).length+(pg lf 1 (x*512+n)).length<=(pg lf 2 x).length:=pgN_next lf 1 x n n5
   show _<=_
   rw [List.length_append]
   omega
  cases bb with
  | false =>
   have HE:Hid (BI W0 W A m k v (L++pgN lf 1 x (n+1)) u1 V):=by
    rcases HY.out with q | q
    . rw [pgN_succ,q.2,List.append_nil];exact BN.out
    . cases q.1
   clear BN HY HLn
   go_wp2_with fail
   go_roundw
   case rel=>exact ⟨n+1,by omega,by go_num,HE⟩
   case measure=>simp [Go.RowKit.intOf];omega
  | true =>
   have HS:Hid (tab 1 (x*512+n)=some yy):=by
    rcases HY.out with q | q
    . cases q.1
    . rw [q.2.1];exact q.2.2
   have RX:=RC.out V n yy u1 _ HS.out BN.out.bel BN.out.own HLn.out
   rw [<- HPG.out] at RX
   have RX:Hid _:=RX
   have BX:=BN.out.box
   have c0:V.cell? ⟨A,0,none⟩=some (pp m.rb):=BX.cell 0
   have c1:V.cell? ⟨A,1,none⟩=some (pp m.b):=BX.cell 1
   have c2:V.cell? ⟨A,2,none⟩=some (pp m.tb):=BX.cell 2
   have c3:V.cell? ⟨A,3,none⟩=some (.int .i64 k):=BX.cell 3
   have lA:=BX.lt
   clear BX
   clear HY HS HLn
   go_wp2_with fail
   refine Calls.mono RX.out ?_
   rintro e w3 ⟨v',rfl,hG⟩
   have HE:Hid (BI W0 W A m k v (L++pgN lf 1 x (n+1)) v' w3):=by
    have q:=BN.out.step hG.own hG.lg
    show BI _ _ _ _ _ _ _ _ _
    rw [pgN_succ,<- List.append_assoc];exact q
   clear hG RX BN e0 e8 lE c0 c1 c2 c3 lA
   go_wp2_with fail
   go_roundw
   case rel=>exact ⟨n+1,by omega,by go_num,HE⟩
   case measure=>simp [Go.RowKit.intOf];omega
set_option maxHeartbeats 2000000 in
theorem below_3 {X:Nat->Prop} {W0:World} {m:Pm} {s:Ps} (h:Pu X W0 m s) {root:Nat} {tab:Nat->Nat->Option Nat} {lf:Nat->Option Lf} (H:PW s.M root tab lf) (ow: ∀ l x (f:Nat),tab l x=some f->m.has f=true) (k:Int) {x g:Nat} (hg:tab 3 x=some g) (W:World) (hb:Below W0.heap.size W0 W) (v:Value) (L:List Nat) (ho:Li.OI W W0.heap.size v (ints L)) (hl:L.length+(pg lf 3 x).length<=1000000) :
 Calls Tryz.prog 122 #[pv m k,v,.int .i64 g,.int .i64 ((x*134217728:Nat):Int),.int .i64 3] W fun e w'=> ∃ v',e=.returned v'/\Grew W0 W lf v L 3 x v' w':=by
 have hb1:Below W.heap.size W (W.alloc (.cells #[pp m.rb,pp m.b,pp m.tb,.int .i64 k] 99)):=Go.Joins.below_alloc1 _ _
 have B0:Hid (BI W0 W W.heap.size m k v (L++pgN lf 2 x 0) v (W.alloc (.cells #[pp m.rb,pp m.b,pp m.tb,.int .i64 k] 99))):=by
  refine ⟨hb.trans (Go.Joins.below_le hb1 hb.size),Blk.made W [pp m.rb,pp m.b,pp m.tb,.int .i64 k] 99,?_,Lg.grow v hb1,fun e=> ?_⟩
  . rw [pgN_zero,List.append_nil];exact Li.row_below ho hb1
  . have:=(Li.row_lt ho _ e).2;omega
 have xb:=H.lt3 hg
 have GC:Hid (∀ (w:World) (n:Nat),n<512->Below W0.heap.size W0 w->Calls Tryz.prog 142 #[pv m k,.int .i64 g,.int .i64 n] w fun e w'=>e=.returned (unp (En s.M g n))/\Below w.heap.size w w'):=fun w n n5 hbw=>get_any (h.below hbw) k g n (ow _ _ _ hg) (by omega) (by omega)
 have AT:Hid (∀ n:Nat,n<512->n<512-> ∃ y,((bt (En s.M g n)=false/\pg lf 2 (x*512+n)=[])\/(bt (En s.M g n)=true/\nx (En s.M g n)=y/\tab 2 (x*512+n)=some y))):=fun n n5 nf=>by
  rcases H.at (l:=2) (by omega) (by omega) hg n5 (fun e=>by omega) with ⟨e1,e2⟩ | ⟨f,e1,mk⟩
  . exact ⟨0,Or.inl ⟨by rw [e2];exact bt_zero,pg_none H (by omega) (by omega) e1⟩⟩
  . exact ⟨f,Or.inr ⟨mk.bt.1,mk.bt.2,e1⟩⟩
 have RC:Hid (∀ (w:World) (n y:Nat) (v:Value) (L:List Nat),tab 2 (x*512+n)=some y->Below W0.heap.size W0 w->Li.OI w W0.heap.size v (ints L)->L.length+(pg lf 2 (x*512+n)).length<=1000000->Calls Tryz.prog 122 #[pv m k,v,.int .i64 y,.int .i64 (((x*512+n)*262144:Nat):Int),.int .i64 2] w fun e w'=> ∃ v',e=.returned v'/\Grew W0 w lf v L 2 (x*512+n) v' w'):=fun w n y v L e hb ho hl=>below_2 h H ow k e w hb v L ho hl
 have HL:Hid (L.length+(pg lf 3 x).length<=1000000):=hl
 have PCy:Hid (∀ (p:Int),0<=p->p<34359738368-> ∀ w:World,Calls Tryz.prog 105 #[.int .i64 p] w fun e w'=>e=.returned (.bool true)/\w'=w):=fun p p0 p1 w=>page_any p true ⟨fun _=>⟨p0,p1⟩,fun _=>rfl⟩ w
 have PCn:Hid (∀ (p:Int),34359738368<=p-> ∀ w:World,Calls Tryz.prog 105 #[.int .i64 p] w fun e w'=>e=.returned (.bool false)/\w'=w):=fun p p1 w=>page_any p false ⟨fun e=>(by cases e),fun e=>by omega⟩ w
 clear h H ow hg hb ho hl hb1
 obtain ⟨fi,hfi⟩: ∃ fi:Int,fi=((x*134217728:Nat):Int):=⟨_,rfl⟩
 have HF:Hid (fi=((x*134217728:Nat):Int)):=hfi
 rw [<- hfi]
 have f0:0<=fi:=by omega
 have f1:fi+134217728<=34359738368:=by omega
 clear hfi
 go_enter Tryz.func122,Tryz.ntmps122
 go_upto_region 1 with fail
 generalize (W.alloc (.cells #[pp m.rb,pp m.b,pp m.tb,.int .i64 k] 99))=W1 at B0 |-
 obtain ⟨A,hA⟩: ∃ A,W.heap.size=A:=⟨_,rfl⟩
 rw [hA] at B0 |-
 clear hA
 go_wp2_with fail
 go_loopw [1,11,12,13,14,39,43] (fun vf _ _ _ vi _ _ w=> ∃ n:Nat,n<=512/\vi=.int .i64 n/\Hid (BI W0 W A m k v (L++pgN lf 2 x n) vf w)) (fun _ _ _ _ vi _ _ _=>512-(Go.RowKit.intOf vi).toNat)
 case atStart=>exact ⟨0,by omega,rfl,B0⟩
 case round =>
  clear B0
  obtain ⟨n,hn,rfl,BN⟩:=hrel
  by_cases cn:n<512
  rotate_left
  . obtain rfl:n=512:=by omega
    go_wp2_with fail
    go_returns
    exact ⟨_,rfl,BN.out.own,BN.out.lg⟩
  have n5:n<512:=by omega
  have d1:decide ((n:Int)<512)=true:=by simp;omega
  obtain ⟨y,hy⟩:=AT.out n n5 cn
  have GN:Hid _:=fun w hw=>GC.out w n n5 hw
  obtain ⟨z,hz⟩: ∃ z,En s.M g n=z:=⟨_,rfl⟩
  rw [hz] at GN hy
  obtain ⟨pgv,hpg⟩: ∃ pgv:Int,pgv=fi+(n:Int)*262144:=⟨_,rfl⟩
  have p0:0<=pgv:=by omega
  have p1:pgv<34359738368:=by omega
  have w1:IntKind.i64.wrap ((n:Int)*262144)=(n:Int)*262144:=by simp only [IntKind.wrap_i64];omega
  have w2:IntKind.i64.wrap (fi+(n:Int)*262144)=pgv:=by simp only [IntKind.wrap_i64];omega
  have HPG:Hid (pgv=(((x*512+n)*262144:Nat):Int)):=by have q:=HF.out;show _=_;omega
  have HPF:Hid (pgv=fi+(n:Int)*262144):=by show _=_;omega
  clear hpg hz
  go_upto_region 5 with fail
  skip
  clear HPF
  go_wp2_with fail
  refine Calls.mono (PCy.out pgv p0 p1 wr) ?_
  rintro e w0' ⟨rfl,hw0⟩
  have hw1:=hw0.symm
  subst hw1
  clear hw0
  clear w1 w2
  have BX:=BN.out.box
  have c0:wr.cell? ⟨A,0,none⟩=some (pp m.rb):=BX.cell 0
  have c1:wr.cell? ⟨A,1,none⟩=some (pp m.b):=BX.cell 1
  have c2:wr.cell? ⟨A,2,none⟩=some (pp m.tb):=BX.cell 2
  have c3:wr.cell? ⟨A,3,none⟩=some (.int .i64 k):=BX.cell 3
  have lA:=BX.lt
  clear BX
  obtain ⟨b1,b2,b3,b4,b5,b6,b7,hu⟩: ∃ b1 b2 b3 b4 b5 b6 b7,unp z=.agg #[.bool (bt z),.bool b1,.bool b2,.bool b3,.bool b4,.bool b5,.bool b6,.bool b7,.int .i64 (nx z:Nat)]:=⟨_,_,_,_,_,_,_,by unfold unp;rw [nx_cast]⟩
  have GX:=GN.out wr BN.out.bel
  rw [hu] at GX
  obtain ⟨yy,hyy⟩: ∃ yy:Nat,nx z=yy:=⟨_,rfl⟩
  obtain ⟨bb,hbb⟩: ∃ bb:Bool,bt z=bb:=⟨_,rfl⟩
  rw [hyy,hbb] at GX hy
  have HY:Hid _:=hy
  have GX:Hid _:=GX
  clear hu hyy hbb hy GN
  go_wp2_with fail
  refine Calls.mono GX.out ?_
  rintro e w2 ⟨rfl,hb2⟩
  clear c0 c1 c2 c3 lA GX
  obtain ⟨V,hV⟩: ∃ V,V=(w2.alloc (.cells #[.bool false,.bool false,.bool false,.bool false,.bool false,.bool false,.bool false,.bool false,.int .i64 0] 184)).setCells w2.heap.size 0 [.bool bb,.bool b1,.bool b2,.bool b3,.bool b4,.bool b5,.bool b6,.bool b7,.int .i64 (yy:Nat)]:=⟨_,rfl⟩
  have HV:Hid (Blk V w2.heap.size [.bool bb,.bool b1,.bool b2,.bool b3,.bool b4,.bool b5,.bool b6,.bool b7,.int .i64 (yy:Nat)] 184/\Below w2.heap.size w2 V):=by
   rw [hV]
   have q:=Qu.grown_setCells w2.heap.size [.bool bb,.bool b1,.bool b2,.bool b3,.bool b4,.bool b5,.bool b6,.bool b7,.int .i64 (yy:Nat)] 0 (w2.alloc (.cells #[.bool false,.bool false,.bool false,.bool false,.bool false,.bool false,.bool false,.bool false,.int .i64 0] 184))
   have q1:Below w2.heap.size w2 (w2.alloc (.cells #[.bool false,.bool false,.bool false,.bool false,.bool false,.bool false,.bool false,.bool false,.int .i64 0] 184)):=Go.Joins.below_alloc1 _ _
   exact ⟨(Blk.made w2 [.bool false,.bool false,.bool false,.bool false,.bool false,.bool false,.bool false,.bool false,.int .i64 0] 184).put rfl,q1.trans ⟨q.os,q.tape,q.output,q.size,fun j hj=>q.block j (Nat.lt_of_lt_of_le hj q1.size) (fun e=>by have:=Option.some.inj e;omega)⟩⟩
  have BV:Hid (BI W0 W A m k v (L++pgN lf 2 x n) u1 V):=(BN.out.grow hb2).grow HV.out.2
  clear hb2 BN
  rename_i hcont
  refine hcont _ _ ?_
  clear hcont
  iterate 3 go_step
  refine store_pat w2.heap.size 0 #[.bool bb,.bool b1,.bool b2,.bool b3,.bool b4,.bool b5,.bool b6,.bool b7,.int .i64 (yy:Nat)] rfl rfl (Blk.made w2 [.bool false,.bool false,.bool false,.bool false,.bool false,.bool false,.bool false,.bool false,.int .i64 0] 184).there (by kernel_rfl) (by simp [Value.oneCell']) ?_
  simp only [List.toList_toArray]
  rw [<- hV]
  clear hV
  go_upto_region 8 with fail
  have e0:V.cell? ⟨w2.heap.size,0,none⟩=some (.bool bb):=HV.out.1.cell 0
  have e8:V.cell? ⟨w2.heap.size,8,none⟩=some (.int .i64 (yy:Nat)):=HV.out.1.cell 8
  have lE:=HV.out.1.lt
  have BN:=BV
  clear BV HV
  generalize w2.heap.size=E at e0 e8 lE |-
  have HLn:Hid ((L++pgN lf 2 x n).length+(pg lf 2 (x*512+n)).length<=1000000):=by
   have a:=HL.out
   have b:(pgN lf 2 x n).length+(pg lf 2 (x*512+n)).length<=(pg lf 3 x).length:=pgN_next lf 2 x n n5
   show _<=_
   rw [List.length_append]
   omega
  cases bb with
  | false =>
   have HE:Hid (BI W0 W A m k v (L++pgN lf 2 x (n+1)) u1 V):=by
    rcases HY.out with q | q
    . rw [pgN_succ,q.2,List.append_nil];exact BN.out
    . cases q.1
   clear BN HY HLn
   go_wp2_with fail
   go_roundw
   case rel=>exact ⟨n+1,by omega,by go_num,HE⟩
   case measure=>simp [Go.RowKit.intOf];omega
  | true =>
   have HS:Hid (tab 2 (x*512+n)=some yy):=by
    rcases HY.out with q | q
    . cases q.1
    . rw [q.2.1];exact q.2.2
   have RX:=RC.out V n yy u1 _ HS.out BN.out.bel BN.out.own HLn.out
   rw [<- HPG.out] at RX
   have RX:Hid _:=RX
   have BX:=BN.out.box
   have c0:V.cell? ⟨A,0,none⟩=some (pp m.rb):=BX.cell 0
   have c1:V.cell? ⟨A,1,none⟩=some (pp m.b):=BX.cell 1
   have c2:V.cell? ⟨A,2,none⟩=some (pp m.tb):=BX.cell 2
   have c3:V.cell? ⟨A,3,none⟩=some (.int .i64 k):=BX.cell 3
   have lA:=BX.lt
   clear BX
   clear HY HS HLn
   go_wp2_with fail
   refine Calls.mono RX.out ?_
   rintro e w3 ⟨v',rfl,hG⟩
   have HE:Hid (BI W0 W A m k v (L++pgN lf 2 x (n+1)) v' w3):=by
    have q:=BN.out.step hG.own hG.lg
    show BI _ _ _ _ _ _ _ _ _
    rw [pgN_succ,<- List.append_assoc];exact q
   clear hG RX BN e0 e8 lE c0 c1 c2 c3 lA
   go_wp2_with fail
   go_roundw
   case rel=>exact ⟨n+1,by omega,by go_num,HE⟩
   case measure=>simp [Go.RowKit.intOf];omega
set_option maxHeartbeats 2000000 in
theorem below_4 {X:Nat->Prop} {W0:World} {m:Pm} {s:Ps} (h:Pu X W0 m s) {root:Nat} {tab:Nat->Nat->Option Nat} {lf:Nat->Option Lf} (H:PW s.M root tab lf) (ow: ∀ l x (f:Nat),tab l x=some f->m.has f=true) (k:Int) {x g:Nat} (hg:tab 4 x=some g) (W:World) (hb:Below W0.heap.size W0 W) (v:Value) (L:List Nat) (ho:Li.OI W W0.heap.size v (ints L)) (hl:L.length+(pg lf 4 x).length<=1000000) :
 Calls Tryz.prog 122 #[pv m k,v,.int .i64 g,.int .i64 ((x*68719476736:Nat):Int),.int .i64 4] W fun e w'=> ∃ v',e=.returned v'/\Grew W0 W lf v L 4 x v' w':=by
 have hb1:Below W.heap.size W (W.alloc (.cells #[pp m.rb,pp m.b,pp m.tb,.int .i64 k] 99)):=Go.Joins.below_alloc1 _ _
 have B0:Hid (BI W0 W W.heap.size m k v (L++pgN lf 3 x 0) v (W.alloc (.cells #[pp m.rb,pp m.b,pp m.tb,.int .i64 k] 99))):=by
  refine ⟨hb.trans (Go.Joins.below_le hb1 hb.size),Blk.made W [pp m.rb,pp m.b,pp m.tb,.int .i64 k] 99,?_,Lg.grow v hb1,fun e=> ?_⟩
  . rw [pgN_zero,List.append_nil];exact Li.row_below ho hb1
  . have:=(Li.row_lt ho _ e).2;omega
 have xb:x=0:=(H.dom 4 x g hg).2.2.1 rfl
 have GC:Hid (∀ (w:World) (n:Nat),n<512->Below W0.heap.size W0 w->Calls Tryz.prog 142 #[pv m k,.int .i64 g,.int .i64 n] w fun e w'=>e=.returned (unp (En s.M g n))/\Below w.heap.size w w'):=fun w n n5 hbw=>get_any (h.below hbw) k g n (ow _ _ _ hg) (by omega) (by omega)
 have AT:Hid (∀ n:Nat,n<512->n<256-> ∃ y,((bt (En s.M g n)=false/\pg lf 3 (x*512+n)=[])\/(bt (En s.M g n)=true/\nx (En s.M g n)=y/\tab 3 (x*512+n)=some y))):=fun n n5 nf=>by
  rcases H.at (l:=3) (by omega) (by omega) hg n5 (fun _=>nf) with ⟨e1,e2⟩ | ⟨f,e1,mk⟩
  . exact ⟨0,Or.inl ⟨by rw [e2];exact bt_zero,pg_none H (by omega) (by omega) e1⟩⟩
  . exact ⟨f,Or.inr ⟨mk.bt.1,mk.bt.2,e1⟩⟩
 have RC:Hid (∀ (w:World) (n y:Nat) (v:Value) (L:List Nat),tab 3 (x*512+n)=some y->Below W0.heap.size W0 w->Li.OI w W0.heap.size v (ints L)->L.length+(pg lf 3 (x*512+n)).length<=1000000->Calls Tryz.prog 122 #[pv m k,v,.int .i64 y,.int .i64 (((x*512+n)*134217728:Nat):Int),.int .i64 3] w fun e w'=> ∃ v',e=.returned v'/\Grew W0 w lf v L 3 (x*512+n) v' w'):=fun w n y v L e hb ho hl=>below_3 h H ow k e w hb v L ho hl
 have FAR:Hid (pgN lf 3 x 256=pg lf 4 x):=by subst xb;exact pgN_far H
 have HL:Hid (L.length+(pg lf 4 x).length<=1000000):=hl
 have PCy:Hid (∀ (p:Int),0<=p->p<34359738368-> ∀ w:World,Calls Tryz.prog 105 #[.int .i64 p] w fun e w'=>e=.returned (.bool true)/\w'=w):=fun p p0 p1 w=>page_any p true ⟨fun _=>⟨p0,p1⟩,fun _=>rfl⟩ w
 have PCn:Hid (∀ (p:Int),34359738368<=p-> ∀ w:World,Calls Tryz.prog 105 #[.int .i64 p] w fun e w'=>e=.returned (.bool false)/\w'=w):=fun p p1 w=>page_any p false ⟨fun e=>(by cases e),fun e=>by omega⟩ w
 clear h H ow hg hb ho hl hb1
 obtain ⟨fi,hfi⟩: ∃ fi:Int,fi=((x*68719476736:Nat):Int):=⟨_,rfl⟩
 have HF:Hid (fi=((x*68719476736:Nat):Int)):=hfi
 rw [<- hfi]
 have f0:0<=fi:=by omega
 have f1:fi<=0:=by omega
 clear hfi
 go_enter Tryz.func122,Tryz.ntmps122
 go_upto_region 1 with fail
 generalize (W.alloc (.cells #[pp m.rb,pp m.b,pp m.tb,.int .i64 k] 99))=W1 at B0 |-
 obtain ⟨A,hA⟩: ∃ A,W.heap.size=A:=⟨_,rfl⟩
 rw [hA] at B0 |-
 clear hA
 go_wp2_with fail
 go_loopw [1,11,12,13,14,39,43] (fun vf _ _ _ vi _ _ w=> ∃ n:Nat,n<=256/\vi=.int .i64 n/\Hid (BI W0 W A m k v (L++pgN lf 3 x n) vf w)) (fun _ _ _ _ vi _ _ _=>512-(Go.RowKit.intOf vi).toNat)
 case atStart=>exact ⟨0,by omega,rfl,B0⟩
 case round =>
  clear B0
  obtain ⟨n,hn,rfl,BN⟩:=hrel
  by_cases cn:n<256
  rotate_left
  . obtain rfl:n=256:=by omega
    have w1:IntKind.i64.wrap (fi+34359738368)=fi+34359738368:=by simp only [IntKind.wrap_i64];omega
    go_wp2_with fail
    refine Calls.mono (PCn.out _ (by omega) _) ?_
    rintro e w2 ⟨rfl,rfl⟩
    go_wp2_with fail
    go_returns
    have q:=BN.out.own
    rw [FAR.out] at q
    exact ⟨_,rfl,q,BN.out.lg⟩
  have n5:n<512:=by omega
  have d1:decide ((n:Int)<512)=true:=by simp;omega
  obtain ⟨y,hy⟩:=AT.out n n5 cn
  have GN:Hid _:=fun w hw=>GC.out w n n5 hw
  obtain ⟨z,hz⟩: ∃ z,En s.M g n=z:=⟨_,rfl⟩
  rw [hz] at GN hy
  obtain ⟨pgv,hpg⟩: ∃ pgv:Int,pgv=fi+(n:Int)*134217728:=⟨_,rfl⟩
  have p0:0<=pgv:=by omega
  have p1:pgv<34359738368:=by omega
  have w1:IntKind.i64.wrap ((n:Int)*134217728)=(n:Int)*134217728:=by simp only [IntKind.wrap_i64];omega
  have w2:IntKind.i64.wrap (fi+(n:Int)*134217728)=pgv:=by simp only [IntKind.wrap_i64];omega
  have HPG:Hid (pgv=(((x*512+n)*134217728:Nat):Int)):=by have q:=HF.out;show _=_;omega
  have HPF:Hid (pgv=fi+(n:Int)*134217728):=by show _=_;omega
  clear hpg hz
  go_upto_region 5 with fail
  skip
  clear HPF
  go_wp2_with fail
  refine Calls.mono (PCy.out pgv p0 p1 wr) ?_
  rintro e w0' ⟨rfl,hw0⟩
  have hw1:=hw0.symm
  subst hw1
  clear hw0
  clear w1 w2
  have BX:=BN.out.box
  have c0:wr.cell? ⟨A,0,none⟩=some (pp m.rb):=BX.cell 0
  have c1:wr.cell? ⟨A,1,none⟩=some (pp m.b):=BX.cell 1
  have c2:wr.cell? ⟨A,2,none⟩=some (pp m.tb):=BX.cell 2
  have c3:wr.cell? ⟨A,3,none⟩=some (.int .i64 k):=BX.cell 3
  have lA:=BX.lt
  clear BX
  obtain ⟨b1,b2,b3,b4,b5,b6,b7,hu⟩: ∃ b1 b2 b3 b4 b5 b6 b7,unp z=.agg #[.bool (bt z),.bool b1,.bool b2,.bool b3,.bool b4,.bool b5,.bool b6,.bool b7,.int .i64 (nx z:Nat)]:=⟨_,_,_,_,_,_,_,by unfold unp;rw [nx_cast]⟩
  have GX:=GN.out wr BN.out.bel
  rw [hu] at GX
  obtain ⟨yy,hyy⟩: ∃ yy:Nat,nx z=yy:=⟨_,rfl⟩
  obtain ⟨bb,hbb⟩: ∃ bb:Bool,bt z=bb:=⟨_,rfl⟩
  rw [hyy,hbb] at GX hy
  have HY:Hid _:=hy
  have GX:Hid _:=GX
  clear hu hyy hbb hy GN
  go_wp2_with fail
  refine Calls.mono GX.out ?_
  rintro e w2 ⟨rfl,hb2⟩
  clear c0 c1 c2 c3 lA GX
  obtain ⟨V,hV⟩: ∃ V,V=(w2.alloc (.cells #[.bool false,.bool false,.bool false,.bool false,.bool false,.bool false,.bool false,.bool false,.int .i64 0] 184)).setCells w2.heap.size 0 [.bool bb,.bool b1,.bool b2,.bool b3,.bool b4,.bool b5,.bool b6,.bool b7,.int .i64 (yy:Nat)]:=⟨_,rfl⟩
  have HV:Hid (Blk V w2.heap.size [.bool bb,.bool b1,.bool b2,.bool b3,.bool b4,.bool b5,.bool b6,.bool b7,.int .i64 (yy:Nat)] 184/\Below w2.heap.size w2 V):=by
   rw [hV]
   have q:=Qu.grown_setCells w2.heap.size [.bool bb,.bool b1,.bool b2,.bool b3,.bool b4,.bool b5,.bool b6,.bool b7,.int .i64 (yy:Nat)] 0 (w2.alloc (.cells #[.bool false,.bool false,.bool false,.bool false,.bool false,.bool false,.bool false,.bool false,.int .i64 0] 184))
   have q1:Below w2.heap.size w2 (w2.alloc (.cells #[.bool false,.bool false,.bool false,.bool false,.bool false,.bool false,.bool false,.bool false,.int .i64 0] 184)):=Go.Joins.below_alloc1 _ _
   exact ⟨(Blk.made w2 [.bool false,.bool false,.bool false,.bool false,.bool false,.bool false,.bool false,.bool false,.int .i64 0] 184).put rfl,q1.trans ⟨q.os,q.tape,q.output,q.size,fun j hj=>q.block j (Nat.lt_of_lt_of_le hj q1.size) (fun e=>by have:=Option.some.inj e;omega)⟩⟩
  have BV:Hid (BI W0 W A m k v (L++pgN lf 3 x n) u1 V):=(BN.out.grow hb2).grow HV.out.2
  clear hb2 BN
  rename_i hcont
  refine hcont _ _ ?_
  clear hcont
  iterate 3 go_step
  refine store_pat w2.heap.size 0 #[.bool bb,.bool b1,.bool b2,.bool b3,.bool b4,.bool b5,.bool b6,.bool b7,.int .i64 (yy:Nat)] rfl rfl (Blk.made w2 [.bool false,.bool false,.bool false,.bool false,.bool false,.bool false,.bool false,.bool false,.int .i64 0] 184).there (by kernel_rfl) (by simp [Value.oneCell']) ?_
  simp only [List.toList_toArray]
  rw [<- hV]
  clear hV
  go_upto_region 8 with fail
  have e0:V.cell? ⟨w2.heap.size,0,none⟩=some (.bool bb):=HV.out.1.cell 0
  have e8:V.cell? ⟨w2.heap.size,8,none⟩=some (.int .i64 (yy:Nat)):=HV.out.1.cell 8
  have lE:=HV.out.1.lt
  have BN:=BV
  clear BV HV
  generalize w2.heap.size=E at e0 e8 lE |-
  have HLn:Hid ((L++pgN lf 3 x n).length+(pg lf 3 (x*512+n)).length<=1000000):=by
   have a:=HL.out
   have b:(pgN lf 3 x n).length+(pg lf 3 (x*512+n)).length<=(pg lf 4 x).length:=pgN_next lf 3 x n n5
   show _<=_
   rw [List.length_append]
   omega
  cases bb with
  | false =>
   have HE:Hid (BI W0 W A m k v (L++pgN lf 3 x (n+1)) u1 V):=by
    rcases HY.out with q | q
    . rw [pgN_succ,q.2,List.append_nil];exact BN.out
    . cases q.1
   clear BN HY HLn
   go_wp2_with fail
   go_roundw
   case rel=>exact ⟨n+1,by omega,by go_num,HE⟩
   case measure=>simp [Go.RowKit.intOf];omega
  | true =>
   have HS:Hid (tab 3 (x*512+n)=some yy):=by
    rcases HY.out with q | q
    . cases q.1
    . rw [q.2.1];exact q.2.2
   have RX:=RC.out V n yy u1 _ HS.out BN.out.bel BN.out.own HLn.out
   rw [<- HPG.out] at RX
   have RX:Hid _:=RX
   have BX:=BN.out.box
   have c0:V.cell? ⟨A,0,none⟩=some (pp m.rb):=BX.cell 0
   have c1:V.cell? ⟨A,1,none⟩=some (pp m.b):=BX.cell 1
   have c2:V.cell? ⟨A,2,none⟩=some (pp m.tb):=BX.cell 2
   have c3:V.cell? ⟨A,3,none⟩=some (.int .i64 k):=BX.cell 3
   have lA:=BX.lt
   clear BX
   clear HY HS HLn
   go_wp2_with fail
   refine Calls.mono RX.out ?_
   rintro e w3 ⟨v',rfl,hG⟩
   have HE:Hid (BI W0 W A m k v (L++pgN lf 3 x (n+1)) v' w3):=by
    have q:=BN.out.step hG.own hG.lg
    show BI _ _ _ _ _ _ _ _ _
    rw [pgN_succ,<- List.append_assoc];exact q
   clear hG RX BN e0 e8 lE c0 c1 c2 c3 lA
   go_wp2_with fail
   go_roundw
   case rel=>exact ⟨n+1,by omega,by go_num,HE⟩
   case measure=>simp [Go.RowKit.intOf];omega
end Go.Proofs.YtmabmknmnkhhbaaGreatDoor.Tt
namespace Go.Proofs.YtmabmknmnkhhbaaGreatDoor.Tt
set_option linter.unusedSimpArgs false
set_option linter.unusedVariables false
set_option maxRecDepth 8000
def Lo (tab:Nat->Nat->Option Nat) (lf:Nat->Option Lf) (p l:Nat):Prop :=
 (∀ l' x f,l'<4->tab l' x=some f->(∃ p',(lf p').isSome=true/\pre l' p'=x)\/(l<=l'/\x=pre l' p))/\ ∀ l',1<=l'->l'<l->tab l' (pre l' p)=none
theorem Lo.start {M:Int->Int} {root:Nat} {tab:Nat->Nat->Option Nat} {lf:Nat->Option Lf} (H:PW M root tab lf) (fu:Full tab lf) (p:Nat):Lo tab (lfSet lf p none) p 1:=by
 refine ⟨fun l' x f l4 e=> ?_,fun l' a b=>by omega⟩
 obtain ⟨p',hs,hp⟩:=fu l' x f l4 e
 by_cases c:p'=p
 . subst c
   exact Or.inr ⟨(H.dom _ _ _ e).1,hp.symm⟩
 . exact Or.inl ⟨p',by rw [lf_other c];exact hs,hp⟩
theorem Lo.step {tab:Nat->Nat->Option Nat} {lf:Nat->Option Lf} {p l:Nat} (h:Lo tab lf p l):Lo (tabSet tab l (pre l p) none) lf p (l+1):=by
 refine ⟨fun l' x f l4 e=> ?_,fun l' a b=> ?_⟩
 . by_cases c:l'=l/\x=pre l p
   . obtain ⟨rfl,rfl⟩:=c
     rw [tab_same] at e;cases e
   . rw [tab_other c] at e
     rcases h.1 l' x f l4 e with q | ⟨q1,q2⟩
     . exact Or.inl q
     . refine Or.inr ⟨?_,q2⟩
       by_cases c2:l'=l
       . subst c2;exact absurd ⟨rfl,q2⟩ c
       . omega
 . by_cases c:l'=l
   . subst c;exact tab_same _ _ _ _
   . rw [tab_other (fun q=>c q.1)]
     exact h.2 l' a (by omega)
theorem Lo.done {tab:Nat->Nat->Option Nat} {lf:Nat->Option Lf} {p:Nat} (h:Lo tab lf p 4):Full tab lf:=fun l x f l4 e=>by
 rcases h.1 l x f l4 e with q | ⟨q,_⟩
 . exact q
 . omega
theorem pre_up {p q l:Nat} (h:pre l p=pre l q): ∀ d,pre (l+d) p=pre (l+d) q:=by
 intro d
 induction d with
 | zero => exact h
 | succ d ih => show pre (l + d) p / 512 = pre (l + d) q / 512; rw [ih]
theorem Lo.stop {M:Int->Int} {root:Nat} {tab:Nat->Nat->Option Nat} {lf:Nat->Option Lf} (H:PW M root tab lf) {p l f:Nat} (h:Lo tab lf p l) (l1:1<=l) (l3:l<=3) (hf:tab l (pre l p)=some f) (nz: ¬ ∀ i:Nat,i<512->En M f i=0):Full tab lf:=by
 obtain ⟨p',hs,hp⟩: ∃ p',(lf p').isSome=true/\pre l p'=pre l p:=by
  have ne:=fun q=>nz ((H.empty l1 l3 hf).2 q)
  by_cases c:l=1
  . subst c
    apply Classical.byContradiction
    intro no
    refine ne ⟨fun _ p' hp'=> ?_,fun q=>by omega⟩
    cases e:lf p' with
    | none => rfl
    | some v => exact absurd ⟨p', by rw [e]; rfl, hp'⟩ no
  . apply Classical.byContradiction
    intro no
    refine ne ⟨fun q=>absurd q c,fun _ y hy=> ?_⟩
    cases e:tab (l-1) y with
    | none => rfl
    | some g =>
     rcases h.1 (l-1) y g (by omega) e with ⟨p',hs,hp⟩ | ⟨q,_⟩
     . refine absurd ⟨p',hs,?_⟩ no
       have el:l=(l-1)+1:=by omega
       rw [<- hy,<- hp]
       rw [el]
       rfl
     . omega
 intro l' x f' l4 e
 rcases h.1 l' x f' l4 e with q | ⟨q1,q2⟩
 . exact q
 . refine ⟨p',hs,?_⟩
   have:=pre_up hp (l'-l)
   rw [show l+(l'-l)=l' by omega] at this
   rw [this,q2]
end Go.Proofs.YtmabmknmnkhhbaaGreatDoor.Tt
namespace Go.Proofs.YtmabmknmnkhhbaaGreatDoor.Tt
open Go.ChangeShapes Go.WideShapes Go.ChangeAt Go.RowKit Go.Maps
set_option linter.unusedSimpArgs false
set_option linter.unusedVariables false
set_option maxRecDepth 8000
theorem give_cnt {s:Ps} (k p:Nat) (hp:p<1000000) (hf: ¬ s.Fr p):Bd.cnt (giveS s k p).Fr 1048576=Bd.cnt s.Fr 1048576+1:=by
 show Bd.cnt (fun i=>s.Fr i\/i=p) 1048576=_
 rw [Bd.cnt_or s.Fr (fun i=>i=p) (fun i h e=>hf (by rw [<- e];exact h))]
 have e1:Bd.cnt (fun i=>i=p) 1048576=1:=by
  have b:=Bd.cnt_blk (o:=0) (q:=p) (M:=1048576) (by simp;omega)
  simpa using b
 rw [e1]
theorem Nums.give {m:Pm} {s:Ps} {k:Nat} {r u:Int} {f:Nat} (h:Nums m s k r u f) {p:Nat} (hp:p<1000000) (hf: ¬ s.Fr p) (M:Int->Int) (q:Nat):Nums m { giveS s k p with M:=M,q:=q } k (r+1) (u-1) (f+1):=by
 have e:usedT s.T k (-1) k=(s.T k).plus (-1):=used_at _ _ _
 refine ⟨h.k6,?_,?_,?_,?_⟩
 . show (usedT s.T k (-1) k).live=true
   rw [e];exact h.live
 . show (usedT s.T k (-1) k).room=_
   rw [e]
   have q:=h.room
   have q':(s.T k).quota-(s.T k).used-(s.T k).lent=r:=q
   show (s.T k).quota-((s.T k).used+ -1)-(s.T k).lent=r+1
   omega
 . show (usedT s.T k (-1) k).used=_
   rw [e]
   have q:=h.used
   show (s.T k).used+ -1=u-1
   omega
 . have q:=give_cnt (s:=s) k p hp hf
   have:=h.free
   show Bd.cnt (giveS s k p).Fr 1048576=f+1
   omega
theorem ow_give {m:Pm} {s:Ps} {k:Nat} {M:Int->Int} {root:Nat} {tab:Nat->Nat->Option Nat} {lf:Nat->Option Lf} (H:PW M root tab lf) (ow: ∀ l x (f:Nat),tab l x=some f->m.has f=true/\s.G f=some 0/\ ¬ s.Fr f) {l x f:Nat} (hf:tab l x=some f) :
 ∀ l' x' (g:Nat),tabSet tab l x none l' x'=some g->m.has g=true/\(giveS s k f).G g=some 0/\ ¬ (giveS s k f).Fr g:=fun l' x' g e=>by
 by_cases c:l'=l/\x'=x
 . obtain ⟨rfl,rfl⟩:=c
   rw [tab_same] at e;cases e
 . rw [tab_other c] at e
   have ne:g≠f:=fun q=>c (by subst q;exact H.inj _ _ _ _ _ e hf)
   obtain ⟨a,b,d⟩:=ow l' x' g e
   refine ⟨a,?_,fun q=> ?_⟩
   . show Bd.setF s.G f none g=some 0
     unfold Bd.setF
     rw [if_neg (by omega)]
     exact b
   . rcases q with q | q
     . exact d q
     . exact ne q
end Go.Proofs.YtmabmknmnkhhbaaGreatDoor.Tt
namespace Go.Proofs.YtmabmknmnkhhbaaGreatDoor.Tt
open Go.ChangeShapes Go.WideShapes Go.ChangeAt Go.RowKit Go.Maps
set_option linter.unusedSimpArgs false
set_option linter.unusedVariables false
set_option maxRecDepth 8000
def frL (l:Nat) (P:List Nat) (p:Nat):Nat:=if P.any (fun q=>pre l q==pre l p) then 0 else 1
def fresh (P:List Nat) (p:Nat):Nat:=frL 1 P p+frL 2 P p+frL 3 P p
def tabsN:List Nat->Nat
 | [] => 1
 | p :: P => tabsN P + fresh P p
theorem frL_zero {l:Nat} {P:List Nat} {p q:Nat} (hq:q∈P) (e:pre l q=pre l p):frL l P p=0:=by
 unfold frL
 rw [if_pos]
 rw [List.any_eq_true]
 exact ⟨q,hq,by simp [e]⟩
theorem frL_one {l:Nat} {P:List Nat} {p:Nat} (h: ∀ q∈P,pre l q≠pre l p):frL l P p=1:=by
 unfold frL
 rw [if_neg]
 intro e
 rw [List.any_eq_true] at e
 obtain ⟨q,hq,e⟩:=e
 exact h q hq (by simpa using e)
theorem frL_or (l:Nat) (P:List Nat) (p:Nat):(frL l P p=0/\ ∃ q∈P,pre l q=pre l p)\/(frL l P p=1/\ ∀ q∈P,pre l q≠pre l p):=by
 by_cases c: ∃ q∈P,pre l q=pre l p
 . obtain ⟨q,hq,e⟩:=c
   exact Or.inl ⟨frL_zero hq e,q,hq,e⟩
 . have h: ∀ q∈P,pre l q≠pre l p:=fun q hq e=>c ⟨q,hq,e⟩
   exact Or.inr ⟨frL_one h,h⟩
theorem frL_mem {l:Nat} {P P':List Nat} {p:Nat} (h: ∀ q,q∈P↔q∈P'):frL l P p=frL l P' p:=by
 rcases frL_or l P p with ⟨e,q,hq,eq⟩ | ⟨e,hn⟩
 . rw [e,frL_zero ((h q).1 hq) eq]
 . rw [e,frL_one (fun q hq=>hn q ((h q).2 hq))]
theorem fresh_mem {P P':List Nat} {p:Nat} (h: ∀ q,q∈P↔q∈P'):fresh P p=fresh P' p:=by
 unfold fresh;rw [frL_mem h,frL_mem h,frL_mem h]
theorem frL_swap (l p q:Nat) (P:List Nat):frL l P q+frL l (q::P) p=frL l P p+frL l (p::P) q:=by
 by_cases c:pre l p=pre l q
 . rw [frL_zero (q:=q) List.mem_cons_self c.symm,frL_zero (q:=p) (p:=q) List.mem_cons_self c]
   have:frL l P p=frL l P q:=by unfold frL;rw [c]
   omega
 . have h1:frL l (q::P) p=frL l P p:=by
    unfold frL;rw [List.any_cons]
    have:(pre l q==pre l p)=false:=by simp;exact fun e=>c e.symm
    rw [this,Bool.false_or]
   have h2:frL l (p::P) q=frL l P q:=by
    unfold frL;rw [List.any_cons]
    have:(pre l p==pre l q)=false:=by simp;exact c
    rw [this,Bool.false_or]
   omega
theorem tabs_perm {P P':List Nat} (h:P.Perm P'):tabsN P=tabsN P':=by
 induction h with
 | nil => rfl
 | cons p h ih =>
  show tabsN _+fresh _ p=tabsN _+fresh _ p
  rw [ih,fresh_mem (fun q=>h.mem_iff)]
 | swap p q P =>
  show tabsN P+fresh P p+fresh (p::P) q=tabsN P+fresh P q+fresh (q::P) p
  have a:=frL_swap 1 p q P
  have b:=frL_swap 2 p q P
  have c:=frL_swap 3 p q P
  unfold fresh
  omega
 | trans _ _ a b => exact a.trans b
theorem tabs_four {P:List Nat} (h:P≠[]):4<=tabsN P:=by
 cases P with
 | nil => exact absurd rfl h
 | cons p P =>
  have q: ∀ (P:List Nat) (p:Nat),4<=tabsN (p::P):=by
   intro P
   induction P with
   | nil => intro p; exact Nat.le_refl _
   | cons q P ih => intro p; exact Nat.le_trans (ih q) (Nat.le_add_right _ _)
  exact q P p
abbrev pgs (lf:Nat->Option Lf):List Nat:=pg lf 4 0
section
variable {M:Int->Int} {root:Nat} {tab:Nat->Nat->Option Nat} {lf:Nat->Option Lf}
theorem PW.mem (H:PW M root tab lf) (p:Nat):p∈pgs lf↔(lf p).isSome=true:=by
 rw [mem_pg]
 constructor
 . exact fun h=>h.2
 . intro h
   obtain ⟨v,hv⟩:=Option.isSome_iff_exists.1 h
   exact ⟨pre4 (H.lf1 p v hv).1,h⟩
theorem pgs_nodup (lf:Nat->Option Lf):(pgs lf).Nodup:=(pg_rising lf 4 0).imp (fun h=>Nat.ne_of_lt h)
theorem PW.has (H:PW M root tab lf) {q:Nat} (h:(lf q).isSome=true) {l:Nat} (l1:1<=l) (l3:l<=3): ∃ f,tab l (pre l q)=some f:=by
 obtain ⟨v,hv⟩:=Option.isSome_iff_exists.1 h
 obtain ⟨_,g,hg,_⟩:=H.lf1 q v hv
 have t1:tab 1 (pre 1 q)=some g:=hg
 obtain ⟨g2,t2,_⟩:=H.up 1 _ g (by omega) t1
 have t2':tab 2 (pre 2 q)=some g2:=t2
 obtain ⟨g3,t3,_⟩:=H.up 2 _ g2 (by omega) t2'
 have t3':tab 3 (pre 3 q)=some g3:=t3
 rcases (show l=1\/l=2\/l=3 by omega) with rfl | rfl | rfl
 . exact ⟨g,t1⟩
 . exact ⟨g2,t2'⟩
 . exact ⟨g3,t3'⟩
theorem PW.frL (H:PW M root tab lf) (F:Full tab lf) (p:Nat) {l:Nat} (l1:1<=l) (l3:l<=3):(tab l (pre l p)=none/\frL l (pgs lf) p=1)\/((∃ f,tab l (pre l p)=some f)/\frL l (pgs lf) p=0):=by
 cases c:tab l (pre l p) with
 | none =>
  refine Or.inl ⟨rfl,frL_one (fun q hq e=> ?_)⟩
  obtain ⟨f,hf⟩:=H.has ((H.mem q).1 hq) l1 l3
  rw [e,c] at hf;cases hf
 | some f =>
  refine Or.inr ⟨⟨f,rfl⟩,?_⟩
  obtain ⟨q,hq,e⟩:=F l _ f (by omega) c
  exact frL_zero ((H.mem q).2 hq) e
theorem PW.miss (H:PW M root tab lf) (F:Full tab lf) (p:Nat):miss tab p=fresh (pgs lf) p:=by
 have n32:tab 3 (pre 3 p)=none->tab 2 (pre 2 p)=none:=fun h=>none_below H 1 2 (by omega) (by omega) h
 have n21:tab 2 (pre 2 p)=none->tab 1 (pre 1 p)=none:=fun h=>none_below H 1 1 (by omega) (by omega) h
 unfold Tt.miss fresh
 rcases H.frL F p (l:=1) (by omega) (by omega) with ⟨a1,b1⟩ | ⟨⟨f1,a1⟩,b1⟩ <;>
 rcases H.frL F p (l:=2) (by omega) (by omega) with ⟨a2,b2⟩ | ⟨⟨f2,a2⟩,b2⟩ <;>
 rcases H.frL F p (l:=3) (by omega) (by omega) with ⟨a3,b3⟩ | ⟨⟨f3,a3⟩,b3⟩ <;>
 rw [b1,b2,b3] <;> simp [a1,a2,a3]
 . have:=n32 a3;rw [a2] at this;cases this
 . have:=n21 a2;rw [a1] at this;cases this
 . have:=n21 a2;rw [a1] at this;cases this
 . have:=n32 a3;rw [a2] at this;cases this
theorem pgs_more (H:PW M root tab lf) {M':Int->Int} {tab':Nat->Nat->Option Nat} {p:Nat} {v:Lf} (h:lf p=none) (H':PW M' root tab' (lfSet lf p (some v))):(pgs (lfSet lf p (some v))).Perm (p::pgs lf):=by
 refine (List.perm_ext_iff_of_nodup (pgs_nodup _) (List.nodup_cons.2 ⟨fun e=> ?_,pgs_nodup _⟩)).2 (fun q=> ?_)
 . have:=(H.mem p).1 e;rw [h] at this;cases this
 . rw [H'.mem,List.mem_cons,H.mem]
   by_cases c:q=p
   . subst c;rw [lf_same];simp
   . rw [lf_other c];simp [c]
theorem pgs_less (H:PW M root tab lf) {M':Int->Int} {tab':Nat->Nat->Option Nat} {p:Nat} {v:Lf} (h:lf p=some v) (H':PW M' root tab' (lfSet lf p none)):(pgs lf).Perm (p::pgs (lfSet lf p none)):=by
 refine (List.perm_ext_iff_of_nodup (pgs_nodup _) (List.nodup_cons.2 ⟨fun e=> ?_,pgs_nodup _⟩)).2 (fun q=> ?_)
 . have:=(H'.mem p).1 e;rw [lf_same] at this;cases this
 . rw [H.mem,List.mem_cons,H'.mem]
   by_cases c:q=p
   . subst c;rw [h];simp
   . rw [lf_other c];simp [c]
end
theorem pgs_none:pgs (fun _=>none)=[]:=by
 apply List.eq_nil_iff_forall_not_mem.2
 intro p hp
 have:=((mem_pg _ p 4 0).1 hp).2
 cases this
end Go.Proofs.YtmabmknmnkhhbaaGreatDoor.Tt
namespace Go.Proofs.YtmabmknmnkhhbaaGreatDoor.Tt
open Go.ChangeShapes Go.WideShapes Go.ChangeAt Go.RowKit Go.Maps
set_option linter.unusedSimpArgs false
set_option linter.unusedVariables false
set_option maxRecDepth 8000
structure UM (m:Pm) (s:Ps) (k root:Nat) (tab:Nat->Nat->Option Nat) (lf:Nat->Option Lf) (p d:Nat) (s':Ps) (tab':Nat->Nat->Option Nat):Prop where
 pw:PW s'.M root tab' (lfSet lf p none)
 lo:Lo tab' (lfSet lf p none) p (d+1)
 ow: ∀ l x (f:Nat),tab' l x=some f->m.has f=true/\s'.G f=some 0/\ ¬ s'.Fr f
 old: ∀ l x f,tab' l x=some f->tab l x=some f
 way: ∀ l x,d<l->tab' l x=tab l x
 oth: ∀ f:Nat,(∀ l x,tab l x≠some f)->s'.G f=s.G f/\(s'.Fr f↔s.Fr f)/\ ∀ j:Nat,j<512->En s'.M f j=En s.M f j
 live:(s'.T k).live=(s.T k).live
 used:(s'.T k).used=(s.T k).used-d
 tree: ∀ j,j≠k->s'.T j=s.T j
 nums: ∀ r u f,Nums m s k r u f->Nums m s' k (r+d) (u-d) (f+d)
 q:s'.q=s.q+2+2*d
 hi: ∀ j:Nat,256<=j->j<512->En s'.M root j=En s.M root j
theorem pack_zero:packV false false false false false false false false 0=0:=by decide
theorem UM.start {m:Pm} {s:Ps} {k root:Nat} {tab:Nat->Nat->Option Nat} {lf:Nat->Option Lf} (H:Rt m s root tab lf) {p g:Nat} (hg:tab 1 (p / 512)=some g) :
 UM m s k root tab lf p 0 { s with M:=enSet s.M g (atP p 3) 0,q:=s.q+2 } tab:=by
 refine ⟨?_,Lo.start H.pw H.fu p,H.ow,fun _ _ _ e=>e,fun _ _ _=>rfl,fun f hf=>⟨rfl,Iff.rfl,fun j hj=> ?_⟩,rfl,?_,fun _ _=>rfl,fun r u f hn=> ?_,rfl,fun j h1 hj=> ?_⟩
 . exact H.pw.delLeaf hg
 . have fg:f≠g:=fun q=>hf _ _ (by rw [q];exact hg)
   exact en_other s.M _ (at_bd p 3).1 (at_bd p 3).2 (by omega) (by omega) (Or.inl (by omega))
 . show (s.T k).used=(s.T k).used-((0:Nat):Int);omega
 . obtain ⟨a,b,c,d,e⟩:=hn
   exact ⟨a,b,by show (s.T k).room=r+((0:Nat):Int);omega,by show (s.T k).used=u-((0:Nat):Int);omega,e⟩
 . have ne:root≠g:=fun q=>by
    have:=(H.pw.inj 4 0 1 (p / 512) root H.pw.t4 (by rw [hg,q])).1
    omega
   exact en_other s.M _ (at_bd p 3).1 (at_bd p 3).2 (by omega) (by omega) (Or.inl (by omega))
theorem UM.step {m:Pm} {s s':Ps} {k root:Nat} {tab tab':Nat->Nat->Option Nat} {lf:Nat->Option Lf} {p d:Nat} (U:UM m s k root tab lf p d s' tab') (d2:d<=2) {f g:Nat} (f6:f<1000000) (hf:tab' (d+1) (pre (d+1) p)=some f) (hg:tab' (d+2) (pre (d+2) p)=some g) (fz: ∀ i:Nat,i<512->En s'.M f i=0) :
 UM m s k root tab lf p (d+1) { giveS s' k f with M:=enSet s'.M g (pre (d+1) p % 512:Nat) 0,q:=s'.q+2 } (tabSet tab' (d+1) (pre (d+1) p) none):=by
 have hF:=(U.ow _ _ _ hf).2.2
 have eu:usedT s'.T k (-1) k=(s'.T k).plus (-1):=used_at _ _ _
 refine ⟨U.pw.delTab (by omega) hf hg fz,U.lo.step,ow_give (s:=s') (k:=k) U.pw U.ow hf,fun l x f' e=> ?_,fun l x hl=> ?_,fun f' hf'=> ?_,?_,?_,fun j hj=> ?_,fun r u n hn=> ?_,?_,fun j h1 hj=> ?_⟩
 . by_cases c:l=d+1/\x=pre (d+1) p
   . obtain ⟨rfl,rfl⟩:=c
     rw [tab_same] at e;cases e
   . rw [tab_other c] at e;exact U.old l x f' e
 . rw [tab_other (by omega)];exact U.way l x (by omega)
 . obtain ⟨a,b,c⟩:=U.oth f' hf'
   have ff:f'≠f:=fun q=>hf' _ _ (by rw [q];exact U.old _ _ _ hf)
   have fg:f'≠g:=fun q=>hf' _ _ (by rw [q];exact U.old _ _ _ hg)
   refine ⟨?_,?_,fun j hj=> ?_⟩
   . rw [<- a]
     show Bd.setF s'.G f none f'=s'.G f'
     exact Bd.set_other _ _ _ _ (by omega)
   . rw [<- b]
     show s'.Fr f'\/f'=f↔s'.Fr f'
     constructor
     . rintro (q | q)
       . exact q
       . exact absurd q ff
     . exact Or.inl
   . rw [<- c j hj]
     exact en_other s'.M _ (by omega) (by omega) (by omega) (by omega) (Or.inl (by omega))
 . show (usedT s'.T k (-1) k).live=_
   rw [eu];exact U.live
 . show (usedT s'.T k (-1) k).used=_
   rw [eu]
   show (s'.T k).used+ -1=_
   rw [U.used];omega
 . show usedT s'.T k (-1) j=s.T j
   unfold usedT
   rw [Qu.put_other _ _ _ _ hj];exact U.tree j hj
 . have q:=(U.nums r u n hn).give f6 hF (enSet s'.M g (pre (d+1) p % 512:Nat) 0) (s'.q+2)
   rw [show r+((d+1:Nat):Int)=r+(d:Int)+1 by omega,show u-((d+1:Nat):Int)=u-(d:Int)-1 by omega,show n+(d+1)=n+d+1 by omega]
   exact q
 . show s'.q+2=_
   rw [U.q];omega
 . rw [<- U.hi j h1 hj]
   show En (enSet s'.M g (pre (d+1) p % 512:Nat) 0) root j=_
   by_cases c:root=g
   . have e0:=(U.pw.inj 4 0 (d+2) (pre (d+2) p) root U.pw.t4 (by rw [hg,c])).1
     have x3:=(U.pw.dom _ _ _ hf).2.2.2 (by omega)
     exact en_other s'.M _ (by omega) (by omega) (by omega) (by omega) (Or.inr (by omega))
   . exact en_other s'.M _ (by omega) (by omega) (by omega) (by omega) (Or.inl (by omega))
theorem UM.fresh {m:Pm} {s s':Ps} {k root:Nat} {tab tab':Nat->Nat->Option Nat} {lf:Nat->Option Lf} {p d:Nat} (H:PW s.M root tab lf) (U:UM m s k root tab lf p d s' tab') (d3:d<=3) (fu:Full tab' (lfSet lf p none)) (hp:(lf p).isSome=true):d=fresh (pgs (lfSet lf p none)) p:=by
 have one: ∀ l,1<=l->l<=3->frL l (pgs (lfSet lf p none)) p=if l<=d then 1 else 0:=fun l l1 l3=>by
  rcases U.pw.frL fu p l1 l3 with ⟨a,b⟩ | ⟨⟨f,a⟩,b⟩
  . by_cases c:l<=d
    . rw [if_pos c,b]
    . obtain ⟨f,hf⟩:=H.has hp l1 l3
      rw [U.way l _ (by omega),hf] at a;cases a
  . by_cases c:l<=d
    . have:=U.lo.2 l l1 (by omega)
      rw [this] at a;cases a
    . rw [if_neg c,b]
 unfold Tt.fresh
 rw [one 1 (by omega) (by omega),one 2 (by omega) (by omega),one 3 (by omega) (by omega)]
 rcases (show d=0\/d=1\/d=2\/d=3 by omega) with rfl | rfl | rfl | rfl <;> simp
def Unmapped (X:Nat->Prop) (W:World) (m:Pm) (s:Ps) (k root:Nat) (tab:Nat->Nat->Option Nat) (lf:Nat->Option Lf) (p:Nat) (w':World):Prop :=
 ∃ (d:Nat) (s':Ps) (tab':Nat->Nat->Option Nat),d<=3/\Pu X w' m s'/\Kx X W w'/\UM m s k root tab lf p d s' tab'/\Rt m s' root tab' (lfSet lf p none)
structure UI (X Y:Nat->Prop) (W:World) (A T E g c:Nat) (m:Pm) (k:Nat) (at_:At) (L:List Nat) (C9:List Value) (n:Nat) (s':Ps) (w:World):Prop where
 pu:Pu Y w m s'
 kx:Kx X W w
 bA:Blk w A [pp m.rb,pp m.b,pp m.tb,.int .i64 k] 99
 bT:Blk w T [.int .i64 (at_ 0),.int .i64 (at_ 1),.int .i64 (at_ 2),.int .i64 (at_ 3),.slice (some ⟨g,0,none⟩) n c] 200
 bE:Blk w E C9 184
 ir:IR w g L
 y:Y A/\Y T/\Y E/\Y g
 ne:T≠A/\T≠E/\T≠g/\T≠0
 xy: ∀ j,X j->Y j/\j≠T
theorem UI.step {X Y:Nat->Prop} {W w w':World} {A T E g c:Nat} {m:Pm} {k:Nat} {at_:At} {L:List Nat} {C9:List Value} {n:Nat} {s' s2:Ps} (H:UI X Y W A T E g c m k at_ L C9 n s' w) (hp:Pu Y w' m s2) (hk:Kx Y w w'):UI X Y W A T E g c m k at_ L C9 n s2 w' :=
 ⟨hp,H.kx.trans (hk.sub (fun j hj=>(H.xy j hj).1)),H.bA.kx hk H.y.1,H.bT.kx hk H.y.2.1,H.bE.kx hk H.y.2.2.1,H.ir.kx hk H.y.2.2.2,H.y,H.ne,H.xy⟩
theorem UI.cut {X Y:Nat->Prop} {W w:World} {A T E g c:Nat} {m:Pm} {k:Nat} {at_:At} {L:List Nat} {C9:List Value} {n:Nat} {s':Ps} (H:UI X Y W A T E g c m k at_ L C9 n s' w) (n':Nat):UI X Y W A T E g c m k at_ L C9 n' s' (w.setCell ⟨T,4,none⟩ (.slice (some ⟨g,0,none⟩) n' c)):=by
 have hg:w.grownBy (w.setCell ⟨T,4,none⟩ (.slice (some ⟨g,0,none⟩) n' c)) (some T):=Qu.grown_setCells T [.slice (some ⟨g,0,none⟩) n' c] 4 w
 have hb: ∀ j,j<w.heap.size->j≠T->(w.setCell ⟨T,4,none⟩ (.slice (some ⟨g,0,none⟩) n' c)).heap[j]? =w.heap[j]? :=fun j hj ne=>hg.block j hj (fun e=>ne (by have:=Option.some.inj e;omega))
 refine ⟨H.pu.poke H.y.2.1 H.ne.2.2.2 hg,?_,(hb A H.bA.lt (Ne.symm H.ne.1)).trans H.bA,H.bT.set 4 _,(hb E H.bE.lt (Ne.symm H.ne.2.1)).trans H.bE,⟨Nat.lt_of_lt_of_le H.ir.1 hg.size,fun i hi=> ?_⟩,H.y,H.ne,H.xy⟩
 . refine ⟨hg.os.trans H.kx.os,hg.tape.trans H.kx.tape,hg.output.trans H.kx.output,Nat.le_trans H.kx.size hg.size,fun j hj=> ?_⟩
   have q:=H.kx.block j hj
   have xj:=H.xy j hj
   by_cases l:j<w.heap.size
   . exact (hb j l xj.2).trans q
   . exact absurd (H.pu.lt j xj.1) l
 . rw [World.cell?_of_block (w:=w) (a:=⟨g,i,none⟩) (hb g H.ir.1 (Ne.symm H.ne.2.2.1))]
   exact H.ir.2 i hi
end Go.Proofs.YtmabmknmnkhhbaaGreatDoor.Tt
namespace Go.Proofs.YtmabmknmnkhhbaaGreatDoor.Tt
open Go.ChangeShapes Go.WideShapes Go.ChangeAt Go.RowKit Go.Maps
set_option linter.unusedSimpArgs false
set_option linter.unusedVariables false
set_option maxRecDepth 8000
end Go.Proofs.YtmabmknmnkhhbaaGreatDoor.Tt
namespace Go.Proofs.YtmabmknmnkhhbaaGreatDoor.Tt
open Go.ChangeShapes Go.WideShapes Go.ChangeAt Go.RowKit Go.Maps
set_option linter.unusedSimpArgs false
set_option linter.unusedVariables false
set_option maxRecDepth 8000
theorem ir_take {w:World} {g:Nat} {L:List Nat} (h:IR w g L) (n:Nat):IR w g (L.take n):=⟨h.1,fun i hi=>by
 rw [List.length_take] at hi
 rw [List.getElem_take]
 exact h.2 i (by omega)⟩
theorem link_cut {X:Nat->Prop} {W:World} {m:Pm} {s:Ps} (h:Pu X W m s) (hq:s.q<4611686018427387904) (k:Int) (at_:At) (g c:Nat) (L:List Nat) (l n:Nat) (hn:n=l+1) (hl:l<L.length) (l3:l<4) (hL:m.has (L[l]'hl:Nat)=true) (ha:0<=at_ l/\at_ l<512) (hr:IR W g L) (hg:X g) :
 Calls Tryz.prog 108 #[pv m k,tv at_ g n c,ev false false false false false false false false 0] W fun e w'=>e=.returned (.tuple #[])/\Pu X w' m { s with M:=enSet s.M (L[l]'hl:Nat) (at_ l) 0,q:=s.q+2 }/\Kx X W w':=by
 have hl2:(L.take n).length=l+1:=by rw [List.length_take];omega
 have e1:(L.take n)[l]'(by omega)=L[l]'hl:=List.getElem_take
 have q:=link_n h hq k at_ g c (L.take n) l n hn hl2 l3 (by rw [e1];exact hL) ha (ir_take hr n) hg false false false false false false false false 0 (by omega) (by omega)
 rw [e1,pack_zero] at q
 exact q
theorem clr_nz {M:Int->Int} (hM: ∀ t,0<=M t/\M t<256) {f:Int} (h:clr M f=false): ¬ ∀ i:Nat,i<512->En M f i=0:=fun q=>by
 rw [(clr_iff hM f).2 q] at h;cases h
set_option maxHeartbeats 4000000 in
theorem unmap_ok {X:Nat->Prop} {W:World} {m:Pm} {s:Ps} (h:Pu X W m s) {root:Nat} {tab:Nat->Nat->Option Nat} {lf:Nat->Option Lf} (H:Rt m s root tab lf) (k p:Nat) (v:Lf) (e:lf p=some v) (k6:k<64) (hl:(s.T k).live=true) (hu:3<=(s.T k).used) (hq:s.q<4000000000000000000) :
 Calls Tryz.prog 69 #[pv m k,.int .i64 root,.int .i64 p] W fun e w'=>e=.returned (.tuple #[.int .i64 v.f,.int .i64 0])/\Unmapped X W m s k root tab lf p w':=by
 have hp:=(H.pw.lf1 p v e).1
 obtain ⟨ff,hff⟩: ∃ ff,v.f=ff:=⟨_,rfl⟩
 obtain ⟨at_,hat⟩: ∃ at_,atP p=at_:=⟨_,rfl⟩
 have FC:Hid (Calls Tryz.prog 117 #[pv m k,.int .i64 root,.int .i64 p] (W.alloc (.cells #[pp m.rb,pp m.b,pp m.tb,.int .i64 k] 99)) fun e w'=> ∃ (g c:Nat) (L:List Nat) (b1 b2 b3 b4 b5 b6 b7:Bool),e=.returned (.tuple #[.agg #[.int .i64 (at_ 0),.int .i64 (at_ 1),.int .i64 (at_ 2),.int .i64 (at_ 3),.slice (some ⟨g,0,none⟩) 4 c],.agg #[.bool true,.bool b1,.bool b2,.bool b3,.bool b4,.bool b5,.bool b6,.bool b7,.int .i64 ff]])/\(IR w' g L/\L.length=4/\W.heap.size<g/\Trl tab p L/\4<=c)/\Below (W.alloc (.cells #[pp m.rb,pp m.b,pp m.tb,.int .i64 k] 99)).heap.size (W.alloc (.cells #[pp m.rb,pp m.b,pp m.tb,.int .i64 k] 99)) w'):=by
  refine (find_any (h.below (Go.Joins.below_alloc1 _ _)) H k p hp).mono ?_
  rintro e' w' ⟨g,c,n,L,y,rfl,⟨hr,hl,gl,ho,T,hh,q | ⟨v',q,mk,n4⟩⟩,hb'⟩
  . rw [e] at q;cases q.1
  . rw [e] at q
    cases q
    obtain ⟨hv,a,d,rfl⟩:=mk
    unfold leafV
    rw [unp_pack _ _ _ _ _ _ _ _ _ hv.1 hv.2,hff,n4,hat]
    refine ⟨_,_,L,_,_,_,_,_,_,_,rfl,⟨hr,by omega,?_,T,?_⟩,hb'⟩
    . rw [World.size_alloc] at gl;omega
    . obtain ⟨pf,cf,hv',lc,_⟩:=(Li.ol_ll Li.eI_len ho).form
      rw [List.length_map] at hv' lc
      cases hv'
      omega
 rw [hff]
 have HAT:Hid (at_=atP p):=hat.symm
 have HP:Hid (Pu X W m s):=h
 have HR:Hid (Rt m s root tab lf):=H
 have HPS:Hid ((lf p).isSome=true/\p<34359738368):=⟨by rw [e];rfl,hp⟩
 have HU:Hid (k<64/\(s.T k).live=true/\3<=(s.T k).used/\s.q<4000000000000000000):=⟨k6,hl,hu,hq⟩
 clear h H e hp hff hat k6 hl hu hq
 have HB:Hid (Below W.heap.size W (W.alloc (.cells #[pp m.rb,pp m.b,pp m.tb,.int .i64 k] 99))):=Go.Joins.below_alloc1 _ _
 have BA:Hid (Blk (W.alloc (.cells #[pp m.rb,pp m.b,pp m.tb,.int .i64 k] 99)) W.heap.size [pp m.rb,pp m.b,pp m.tb,.int .i64 k] 99):=Blk.made W [pp m.rb,pp m.b,pp m.tb,.int .i64 k] 99
 have S1:Hid ((W.alloc (.cells #[pp m.rb,pp m.b,pp m.tb,.int .i64 k] 99)).heap.size=W.heap.size+1):=World.size_alloc _ _
 go_enter Tryz.func69,Tryz.ntmps69
 go_upto_region 1 with fail
 generalize (W.alloc (.cells #[pp m.rb,pp m.b,pp m.tb,.int .i64 k] 99))=W1 at HB BA FC S1 |-
 obtain ⟨A,hA⟩: ∃ A,W.heap.size=A:=⟨_,rfl⟩
 have HA:Hid (A=W.heap.size):=hA.symm
 rw [hA] at BA |-
 clear hA
 have BX:=BA.out
 have c0:W1.cell? ⟨A,0,none⟩=some (pp m.rb):=BX.cell 0
 have c1:W1.cell? ⟨A,1,none⟩=some (pp m.b):=BX.cell 1
 have c2:W1.cell? ⟨A,2,none⟩=some (pp m.tb):=BX.cell 2
 have c3:W1.cell? ⟨A,3,none⟩=some (.int .i64 k):=BX.cell 3
 have lA:=BX.lt
 clear BX
 go_wp2_with fail
 refine Calls.mono FC.out ?_
 rintro e w1 ⟨g,c,L,b1,b2,b3,b4,b5,b6,b7,rfl,hF,hb1⟩
 have HL:Hid (L.length=4/\Trl tab p L):=⟨hF.2.1,hF.2.2.2.1⟩
 have c4:4<=c:=hF.2.2.2.2
 obtain ⟨HV0,TH0⟩:=two_boxes w1 [.int .i64 (at_ 0),.int .i64 (at_ 1),.int .i64 (at_ 2),.int .i64 (at_ 3),.slice (some ⟨g,0,none⟩) 4 c] [.bool true,.bool b1,.bool b2,.bool b3,.bool b4,.bool b5,.bool b6,.bool b7,.int .i64 ff] rfl rfl
 obtain ⟨V,hV⟩: ∃ V,V=((((w1.alloc (.cells #[.int .i64 0,.int .i64 0,.int .i64 0,.int .i64 0,.slice none 0 0] 200)).alloc (.cells #[.bool false,.bool false,.bool false,.bool false,.bool false,.bool false,.bool false,.bool false,.int .i64 0] 184)).setCells w1.heap.size 0 [.int .i64 (at_ 0),.int .i64 (at_ 1),.int .i64 (at_ 2),.int .i64 (at_ 3),.slice (some ⟨g,0,none⟩) 4 c]).setCells (w1.heap.size+1) 0 [.bool true,.bool b1,.bool b2,.bool b3,.bool b4,.bool b5,.bool b6,.bool b7,.int .i64 ff]):=⟨_,rfl⟩
 have HV:Hid (Blk V w1.heap.size [.int .i64 (at_ 0),.int .i64 (at_ 1),.int .i64 (at_ 2),.int .i64 (at_ 3),.slice (some ⟨g,0,none⟩) 4 c] 200/\Blk V (w1.heap.size+1) [.bool true,.bool b1,.bool b2,.bool b3,.bool b4,.bool b5,.bool b6,.bool b7,.int .i64 ff] 184/\Below w1.heap.size w1 V):=by
  rw [<- hV] at HV0
  exact HV0
 have TH:Hid (((w1.alloc (.cells #[.int .i64 0,.int .i64 0,.int .i64 0,.int .i64 0,.slice none 0 0] 200)).alloc (.cells #[.bool false,.bool false,.bool false,.bool false,.bool false,.bool false,.bool false,.bool false,.int .i64 0] 184)).there w1.heap.size 0 5/\(((w1.alloc (.cells #[.int .i64 0,.int .i64 0,.int .i64 0,.int .i64 0,.slice none 0 0] 200)).alloc (.cells #[.bool false,.bool false,.bool false,.bool false,.bool false,.bool false,.bool false,.bool false,.int .i64 0] 184)).setCells w1.heap.size 0 [.int .i64 (at_ 0),.int .i64 (at_ 1),.int .i64 (at_ 2),.int .i64 (at_ 3),.slice (some ⟨g,0,none⟩) 4 c]).there (w1.heap.size+1) 0 9):=TH0
 clear HV0 TH0
 have BW:Hid (Below W.heap.size W V):=below_then (below_then HB.out hb1) HV.out.2.2
 have U0:Hid (UI X (XW X W V) W A w1.heap.size (w1.heap.size+1) g c m k at_ L [.bool true,.bool b1,.bool b2,.bool b3,.bool b4,.bool b5,.bool b6,.bool b7,.int .i64 ff] 4 s V):=by
  have bw:Below W.heap.size W V:=below_then (below_then HB.out hb1) HV.out.2.2
  have z1:=HB.out.size
  have z2:=hb1.size
  have z3:=HV.out.2.2.size
  have z4:=hF.1.1
  have z5:=HV.out.1.lt
  have z6:=HV.out.2.1.lt
  have z7:=S1.out
  have z8:=HP.out.tab.1
  have a1:=HA.out
  refine ⟨HP.out.grow bw,Kx.of_below HP.out bw,(BA.out.below hb1).below HV.out.2.2,HV.out.1,HV.out.2.1,(hF.1.below HV.out.2.2),⟨Or.inr ⟨by omega,by omega⟩,Or.inr ⟨by omega,by omega⟩,Or.inr ⟨by omega,by omega⟩,Or.inr ⟨by have:=hF.2.2.1;omega,by omega⟩⟩,⟨by omega,by omega,by omega,by omega⟩,fun j hj=>⟨Or.inl hj,?_⟩⟩
  have:=HP.out.lt j hj
  omega
 clear hb1 HB BA FC c0 c1 c2 c3 lA S1
 rename_i hcont
 refine hcont _ _ ?_
 clear hcont
 iterate 15 go_step
 refine store_pat w1.heap.size 0 #[.int .i64 (at_ 0),.int .i64 (at_ 1),.int .i64 (at_ 2),.int .i64 (at_ 3),.slice (some ⟨g,0,none⟩) 4 c] rfl rfl TH.out.1 (by kernel_rfl) (by simp [Value.oneCell']) ?_
 refine store_pat (w1.heap.size+1) 0 #[.bool true,.bool b1,.bool b2,.bool b3,.bool b4,.bool b5,.bool b6,.bool b7,.int .i64 ff] rfl rfl TH.out.2 (by kernel_rfl) (by simp [Value.oneCell']) ?_
 simp only [List.toList_toArray]
 rw [<- hV]
 clear hV TH
 go_upto_region 2 with fail
 generalize w1.heap.size+1=E at HV U0 |-
 generalize w1.heap.size=T at HV U0 |-
 have e0:V.cell? ⟨E,0,none⟩=some (.bool true):=HV.out.2.1.cell 0
 have lE:=HV.out.2.1.lt
 clear HV hF
 have UU:=U0
 clear U0
 have LK0:Hid (Calls Tryz.prog 108 #[pv m k,.agg #[.int .i64 (at_ 0),.int .i64 (at_ 1),.int .i64 (at_ 2),.int .i64 (at_ 3),.slice (some ⟨g,0,none⟩) 4 c],ev false false false false false false false false 0] V fun e w'=>e=.returned (.tuple #[])/\ ∃ s':Ps,UI X (XW X W V) W A T E g c m k at_ L [.bool true,.bool b1,.bool b2,.bool b3,.bool b4,.bool b5,.bool b6,.bool b7,.int .i64 ff] 4 s' w'/\UM m s k root tab lf p 0 s' tab):=by
  have hl:=HL.out.1
  have tr:=HL.out.2
  have i3:tab 1 (pre 1 p)=some L[3]:=tr.is 3 _ (List.getElem?_eq_getElem (by omega))
  refine (link_cut UU.out.pu (by have:=HU.out.2.2.2;omega) k at_ g c L 3 4 rfl (by omega) (by omega) (HR.out.ow _ _ _ i3).1 (by rw [HAT.out];exact at_bd p 3) UU.out.ir UU.out.y.2.2.2).mono ?_
  rintro e w' ⟨he,hp',hk'⟩
  have u0:=UM.start (k:=k) HR.out (p:=p) (g:=L[3]) i3
  rw [<- HAT.out] at u0
  exact ⟨he,_,UU.out.step hp' hk',u0⟩
 have BT:=UU.out.bT
 have t0:V.cell? ⟨T,0,none⟩=some (.int .i64 (at_ 0)):=BT.cell 0
 have t1:V.cell? ⟨T,1,none⟩=some (.int .i64 (at_ 1)):=BT.cell 1
 have t2:V.cell? ⟨T,2,none⟩=some (.int .i64 (at_ 2)):=BT.cell 2
 have t3:V.cell? ⟨T,3,none⟩=some (.int .i64 (at_ 3)):=BT.cell 3
 have t4:V.cell? ⟨T,4,none⟩=some (.slice (some ⟨g,0,none⟩) 4 c):=BT.cell 4
 have lT:=BT.lt
 have BX:=UU.out.bA
 have c0:V.cell? ⟨A,0,none⟩=some (pp m.rb):=BX.cell 0
 have c1:V.cell? ⟨A,1,none⟩=some (pp m.b):=BX.cell 1
 have c2:V.cell? ⟨A,2,none⟩=some (pp m.tb):=BX.cell 2
 have c3:V.cell? ⟨A,3,none⟩=some (.int .i64 k):=BX.cell 3
 have lA:=BX.lt
 clear BX BT
 go_wp2_with fail
 refine Calls.mono LK0.out ?_
 rintro e w2 ⟨rfl,s0,hU0,hM0⟩
 have U0:Hid (UI X (XW X W V) W A T E g c m k at_ L [.bool true,.bool b1,.bool b2,.bool b3,.bool b4,.bool b5,.bool b6,.bool b7,.int .i64 ff] 4 s0 w2/\UM m s k root tab lf p 0 s0 tab):=⟨hU0,hM0⟩
 clear hU0 hM0 LK0 UU e0 lE t0 t1 t2 t3 t4 lT c0 c1 c2 c3 lA
 go_upto_region 5 with fail
 go_loopw [10] (fun _ w=> ∃ (n:Nat) (s':Ps) (tab':Nat->Nat->Option Nat),1<=n/\n<=4/\Hid (UI X (XW X W V) W A T E g c m k at_ L [.bool true,.bool b1,.bool b2,.bool b3,.bool b4,.bool b5,.bool b6,.bool b7,.int .i64 ff] n s' w)/\Hid (UM m s k root tab lf p (4-n) s' tab')) (fun _ w=>(match w.cell? ⟨T,4,none⟩ with | some (.slice _ n _)=>n | _=>0))
 case atStart=>exact ⟨4,s0,tab,by omega,by omega,U0.out.1,U0.out.2⟩
 case round =>
  clear U0
  obtain ⟨n,s',tab',n1,n4,UU,UMH⟩:=hrel
  have HM:Hid ((match wr.cell? ⟨T,4,none⟩ with | some (.slice _ n _)=>n | _=>0)=n):=by
   show _=_
   rw [UU.out.bT.cell 4];rfl
  by_cases cn:1<n
  rotate_left
  . obtain rfl:n=1:=by omega
    have FU:Hid (Full tab' (lfSet lf p none)):=Lo.done UMH.out.lo
    clear HM
    have t4:wr.cell? ⟨T,4,none⟩=some (.slice (some ⟨g,0,none⟩) 1 c):=UU.out.bT.cell 4
    have lT:=UU.out.bT.lt
    have e8:wr.cell? ⟨E,8,none⟩=some (.int .i64 ff):=UU.out.bE.cell 8
    have lE:=UU.out.bE.lt
    have PX:Hid (Unmapped X W m s k root tab lf p wr):=⟨_,s',tab',by omega,UU.out.pu.less (fun j hj=>(UU.out.xy j hj).1) HP.out.x0,UU.out.kx,UMH.out,⟨UMH.out.pw,FU.out,UMH.out.ow⟩⟩
    clear UU UMH FU
    go_wp2_with fail
    go_returns
    exact ⟨rfl,PX.out⟩
  obtain ⟨l,hl⟩: ∃ l,n=l+1:=⟨n-1,by omega⟩
  have l1:1<=l:=by omega
  have l3:l<=3:=by omega
  have HN:Hid (n=l+1):=hl
  obtain ⟨z,hz⟩: ∃ z,L[l]'(by have:=HL.out.1;omega)=z:=⟨_,rfl⟩
  have HZ:Hid (tab' (4-n+1) (pre (4-n+1) p)=some z):=by
   show _=_
   rw [UMH.out.way _ _ (by omega),show 4-n+1=4-l by omega,<- hz]
   exact HL.out.2.is l _ (List.getElem?_eq_getElem (by have:=HL.out.1;omega))
  have HH:Hid (m.has (z:Nat)=true/\s'.G z=some 0/\ ¬ s'.Fr z):=UMH.out.ow _ _ _ HZ.out
  have gz:wr.cell? ⟨g,l,none⟩=some (.int .i64 (z:Nat)):=by
   have q:=UU.out.ir.2 l (by have:=HL.out.1;omega)
   rw [hz] at q;exact q
  have lg:=UU.out.ir.1
  have d1:decide ((1:Int)<(n:Int))=true:=by simp;omega
  have d2:decide ((l:Int)<0)=false:=by simp
  have d3:decide ((l:Int)<(n:Int))=true:=by simp;omega
  have d4:IntKind.i64.wrap ((n:Int)-1)=(l:Int):=by simp only [IntKind.wrap_i64];omega
  have d5:l<n:=by omega
  have CLC:Hid (Calls Tryz.prog 118 #[pp m.rb,.int .i64 (z:Nat)] wr fun e w'=>e=.returned (.bool (clr s'.M z))/\w'=wr):=UU.out.pu.clear z HH.out.1
  obtain ⟨cl,hcl⟩: ∃ cl,clr s'.M z=cl:=⟨_,rfl⟩
  rw [hcl] at CLC
  have HCL:Hid (clr s'.M z=cl):=hcl
  have n4':n<=4:=n4
  clear hcl hl hz cn n1 n4
  have BT:=UU.out.bT
  have t0:wr.cell? ⟨T,0,none⟩=some (.int .i64 (at_ 0)):=BT.cell 0
  have t1:wr.cell? ⟨T,1,none⟩=some (.int .i64 (at_ 1)):=BT.cell 1
  have t2:wr.cell? ⟨T,2,none⟩=some (.int .i64 (at_ 2)):=BT.cell 2
  have t3:wr.cell? ⟨T,3,none⟩=some (.int .i64 (at_ 3)):=BT.cell 3
  have t4:wr.cell? ⟨T,4,none⟩=some (.slice (some ⟨g,0,none⟩) n c):=BT.cell 4
  have lT:=BT.lt
  have BX:=UU.out.bA
  have c0:wr.cell? ⟨A,0,none⟩=some (pp m.rb):=BX.cell 0
  have c1:wr.cell? ⟨A,1,none⟩=some (pp m.b):=BX.cell 1
  have c2:wr.cell? ⟨A,2,none⟩=some (pp m.tb):=BX.cell 2
  have c3:wr.cell? ⟨A,3,none⟩=some (.int .i64 k):=BX.cell 3
  have lA:=BX.lt
  clear BX BT
  go_upto_region 7 with fail
  go_wp2_with fail
  refine Calls.mono CLC.out ?_
  rintro e w3 ⟨rfl,rfl⟩
  clear CLC
  cases cl with
  | false =>
   have FU:Hid (Full tab' (lfSet lf p none)):=Lo.stop UMH.out.pw UMH.out.lo (by omega) (by have:=HN.out;omega) HZ.out (clr_nz UU.out.pu.byte HCL.out)
   clear HM HCL HZ HH gz lg d1 d2 d3 d4 d5 t0 t1 t2 t3 t4 lT c0 c1 c2 c3 lA
   have e8:w3.cell? ⟨E,8,none⟩=some (.int .i64 ff):=UU.out.bE.cell 8
   have lE:=UU.out.bE.lt
   have PX:Hid (Unmapped X W m s k root tab lf p w3):=⟨_,s',tab',by have:=HN.out;omega,UU.out.pu.less (fun j hj=>(UU.out.xy j hj).1) HP.out.x0,UU.out.kx,UMH.out,⟨UMH.out.pw,FU.out,UMH.out.ow⟩⟩
   clear UU UMH FU
   go_wp2_with fail
   go_returns
   exact ⟨rfl,PX.out⟩
  | true =>
   have EZ:Hid (∀ i:Nat,i<512->En s'.M z i=0):=(clr_iff UU.out.pu.byte z).1 HCL.out
   have GVC:Hid (Calls Tryz.prog 111 #[pv m k,.int .i64 (z:Nat)] w3 fun e w'=>e=.returned (.tuple #[])/\UI X (XW X W V) W A T E g c m k at_ L [.bool true,.bool b1,.bool b2,.bool b3,.bool b4,.bool b5,.bool b6,.bool b7,.int .i64 ff] n (giveS s' k z) w'):=by
    refine (give_any UU.out.pu k z HU.out.1 (by rw [UMH.out.live];exact HU.out.2.1) (by rw [UMH.out.used];have:=HU.out.2.2.1;omega) HH.out.2.1 HH.out.2.2).mono ?_
    rintro e w' ⟨he,hp',hk'⟩
    exact ⟨he,UU.out.step hp' hk'⟩
   clear gz lg HCL
   go_wp2_with fail
   refine Calls.mono GVC.out ?_
   rintro e w4 ⟨rfl,hU4⟩
   have U4:Hid (UI X (XW X W V) W A T E g c m k at_ L [.bool true,.bool b1,.bool b2,.bool b3,.bool b4,.bool b5,.bool b6,.bool b7,.int .i64 ff] n (giveS s' k z) w4):=hU4
   clear hU4 GVC UU t0 t1 t2 t3 t4 lT c0 c1 c2 c3 lA
   have UU:=U4
   clear U4
   have e1:decide ((l:Int)<=(c:Int))=true:=by simp;omega
   have e2: ¬ (l:Int)<0:=by omega
   have e3: ¬ c=0:=by omega
   have e4:l<=c:=by omega
   have e5:decide ((c:Int)<(l:Int))=false:=by simp;omega
   have e6: ¬ c<l:=by omega
   have U5:Hid (UI X (XW X W V) W A T E g c m k at_ L [.bool true,.bool b1,.bool b2,.bool b3,.bool b4,.bool b5,.bool b6,.bool b7,.int .i64 ff] l (giveS s' k z) (w4.setCell ⟨T,4,none⟩ (.slice (some ⟨g,0,none⟩) l c))):=UU.out.cut l
   have t4:w4.cell? ⟨T,4,none⟩=some (.slice (some ⟨g,0,none⟩) n c):=UU.out.bT.cell 4
   have z4:w4.frozen? ⟨T,4,none⟩=false:=UU.out.bT.free 4
   have lT:=UU.out.bT.lt
   clear UU
   go_upto_region 10 with fail
   generalize w4.setCell ⟨T,4,none⟩ (.slice (some ⟨g,0,none⟩) l c)=w5 at U5 |-
   clear t4 z4 lT e1 e2 e3 e4 e5 e6
   have UU:=U5
   clear U5
   have LK1:Hid (Calls Tryz.prog 108 #[pv m k,.agg #[.int .i64 (at_ 0),.int .i64 (at_ 1),.int .i64 (at_ 2),.int .i64 (at_ 3),.slice (some ⟨g,0,none⟩) l c],ev false false false false false false false false 0] w5 fun e w'=>e=.returned (.tuple #[])/\ ∃ (s2:Ps) (tab2:Nat->Nat->Option Nat),UI X (XW X W V) W A T E g c m k at_ L [.bool true,.bool b1,.bool b2,.bool b3,.bool b4,.bool b5,.bool b6,.bool b7,.int .i64 ff] l s2 w'/\UM m s k root tab lf p (4-l) s2 tab2):=by
    have hl:=HL.out.1
    have hn:=HN.out
    obtain ⟨l',rfl⟩: ∃ l',l=l'+1:=⟨l-1,by omega⟩
    have i2:tab' (4-n+2) (pre (4-n+2) p)=some (L[l']'(by omega)):=by
     rw [UMH.out.way _ _ (by omega),show 4-n+2=4-l' by omega]
     exact HL.out.2.is l' _ (List.getElem?_eq_getElem (by omega))
    have bz:=UU.out.pu.so.hb z HH.out.1
    have F1:=UU.out.pu.so.F1
    have um:=UMH.out.step (by omega) (by omega) HZ.out i2 EZ.out
    refine (link_cut UU.out.pu (by show s'.q<_;rw [UMH.out.q];have:=HU.out.2.2.2;omega) k at_ g c L l' (l'+1) rfl (by omega) (by omega) (UMH.out.ow _ _ _ i2).1 (by rw [HAT.out];exact at_bd p l') UU.out.ir UU.out.y.2.2.2).mono ?_
    rintro e w' ⟨he,hp',hk'⟩
    have ea:at_ l'=((pre (4-n+1) p % 512:Nat):Int):=by
     rw [HAT.out]
     show ((pre (3-l') p % 512:Nat):Int)=_
     rw [show 3-l'=4-n+1 by omega]
    rw [ea] at hp'
    rw [show 4-n+1=4-(l'+1) by omega] at um hp'
    exact ⟨he,_,_,UU.out.step hp' hk',um⟩
   have BT:=UU.out.bT
   have t0:w5.cell? ⟨T,0,none⟩=some (.int .i64 (at_ 0)):=BT.cell 0
   have t1:w5.cell? ⟨T,1,none⟩=some (.int .i64 (at_ 1)):=BT.cell 1
   have t2:w5.cell? ⟨T,2,none⟩=some (.int .i64 (at_ 2)):=BT.cell 2
   have t3:w5.cell? ⟨T,3,none⟩=some (.int .i64 (at_ 3)):=BT.cell 3
   have t4:w5.cell? ⟨T,4,none⟩=some (.slice (some ⟨g,0,none⟩) l c):=BT.cell 4
   have lT:=BT.lt
   have BX:=UU.out.bA
   have c0:w5.cell? ⟨A,0,none⟩=some (pp m.rb):=BX.cell 0
   have c1:w5.cell? ⟨A,1,none⟩=some (pp m.b):=BX.cell 1
   have c2:w5.cell? ⟨A,2,none⟩=some (pp m.tb):=BX.cell 2
   have c3:w5.cell? ⟨A,3,none⟩=some (.int .i64 k):=BX.cell 3
   have lA:=BX.lt
   clear BX BT
   go_wp2_with fail
   refine Calls.mono LK1.out ?_
   rintro e w6 ⟨rfl,s2,tab2,hU6,hM6⟩
   have U6:Hid (UI X (XW X W V) W A T E g c m k at_ L [.bool true,.bool b1,.bool b2,.bool b3,.bool b4,.bool b5,.bool b6,.bool b7,.int .i64 ff] l s2 w6):=hU6
   have M6:Hid (UM m s k root tab lf p (4-l) s2 tab2):=hM6
   have HM2:Hid ((match w6.cell? ⟨T,4,none⟩ with | some (.slice _ n _)=>n | _=>0)=l):=by
    show _=_
    rw [hU6.bT.cell 4];rfl
   clear hU6 hM6 LK1 UU t0 t1 t2 t3 t4 lT c0 c1 c2 c3 lA
   go_wp2_with fail
   go_roundw
   case rel=>exact ⟨l,s2,tab2,l1,by omega,U6,M6⟩
   case measure=>rw [HM2.out,HM.out];exact d5
end Go.Proofs.YtmabmknmnkhhbaaGreatDoor.Tt
namespace Go.Proofs.YtmabmknmnkhhbaaGreatDoor.Tt
open Go.ChangeShapes Go.WideShapes Go.ChangeAt Go.RowKit Go.Maps
set_option linter.unusedSimpArgs false
set_option linter.unusedVariables false
set_option maxRecDepth 8000
structure Listed (W w':World) (L:List Nat) (pf:Option Addr) (n cf:Nat):Prop where
 own:Li.OI w' W.heap.size (.slice pf n cf) (ints L)
 len:n=L.length
 bel:Below W.heap.size W w'
set_option maxHeartbeats 1000000 in
theorem pages_any {X:Nat->Prop} {W:World} {m:Pm} {s:Ps} (h:Pu X W m s) {root:Nat} {tab:Nat->Nat->Option Nat} {lf:Nat->Option Lf} (H:Rt m s root tab lf) (k:Int) (hl:(pgs lf).length<=1000000) :
 Calls Tryz.prog 72 #[pv m k,.int .i64 root] W fun e w'=> ∃ (pf:Option Addr) (n cf:Nat),e=.returned (.slice pf n cf)/\Listed W w' (pgs lf) pf n cf:=by
 have hb1:Below W.heap.size W (W.alloc (.cells #[pp m.rb,pp m.b,pp m.tb,.int .i64 k] 99)):=Go.Joins.below_alloc1 _ _
 have BC:Hid (Calls Tryz.prog 122 #[pv m k,.slice none 0 0,.int .i64 root,.int .i64 0,.int .i64 4] (W.alloc (.cells #[pp m.rb,pp m.b,pp m.tb,.int .i64 k] 99)) fun e w'=> ∃ (pf:Option Addr) (n cf:Nat),e=.returned (.slice pf n cf)/\Listed W w' (pgs lf) pf n cf):=by
  refine (below_4 h H.pw (fun l x f e=>(H.ow l x f e).1) k H.pw.t4 _ hb1 (.slice none 0 0) [] (Li.ol_none _ _ _ _ _) (by simpa using hl)).mono ?_
  rintro e w' ⟨v',rfl,ho,hg⟩
  rw [List.nil_append] at ho
  obtain ⟨p,c,hv,_⟩:=(Li.ol_ll Li.eI_len ho).form
  rw [List.length_map] at hv
  subst hv
  exact ⟨p,_,c,rfl,ho,rfl,hg.below (Li.ol_none _ _ _ _ _) hb1⟩
 clear h H hl hb1
 go_enter Tryz.func72,Tryz.ntmps72
 go_wp2_with fail
 refine Calls.mono BC.out ?_
 rintro e w1 ⟨pf,n,cf,rfl,hL⟩
 have HL:Hid (Listed W w1 (pgs lf) pf n cf):=hL
 clear hL BC
 go_wp2_with fail
 go_returns
 exact ⟨pf,n,cf,rfl,HL.out⟩
set_option maxHeartbeats 1000000 in
theorem drop_ok {X:Nat->Prop} {W:World} {m:Pm} {s:Ps} (h:Pu X W m s) {root:Nat} {tab:Nat->Nat->Option Nat} {lf:Nat->Option Lf} (H:Rt m s root tab lf) (k:Nat) (em:pgs lf=[]) (k6:k<64) (hl:(s.T k).live=true) (hu:1<=(s.T k).used) :
 Calls Tryz.prog 64 #[pv m k,.int .i64 root] W fun e w'=>e=.returned (.int .i64 0)/\Pu X w' m (giveS s k root)/\Kx X W w':=by
 have hb1:Below W.heap.size W (W.alloc (.cells #[pp m.rb,pp m.b,pp m.tb,.int .i64 k] 99)):=Go.Joins.below_alloc1 _ _
 have BA:Hid (Blk (W.alloc (.cells #[pp m.rb,pp m.b,pp m.tb,.int .i64 k] 99)) W.heap.size [pp m.rb,pp m.b,pp m.tb,.int .i64 k] 99):=Blk.made W [pp m.rb,pp m.b,pp m.tb,.int .i64 k] 99
 have PC:Hid (Calls Tryz.prog 72 #[pv m k,.int .i64 root] (W.alloc (.cells #[pp m.rb,pp m.b,pp m.tb,.int .i64 k] 99)) fun e w'=> ∃ (pf:Option Addr) (cf:Nat),e=.returned (.slice pf 0 cf)/\Below W.heap.size W w'/\Blk w' W.heap.size [pp m.rb,pp m.b,pp m.tb,.int .i64 k] 99):=by
  refine (pages_any (h.below hb1) H k (by rw [em];simp)).mono ?_
  rintro e w' ⟨pf,n,cf,rfl,hL⟩
  have e0:n=0:=by rw [hL.len,em];rfl
  subst e0
  exact ⟨pf,cf,rfl,below_then hb1 hL.bel,BA.out.below hL.bel⟩
 have t4:=H.ow _ _ _ H.pw.t4
 have GC:Hid (∀ w:World,Below W.heap.size W w->Calls Tryz.prog 111 #[pv m k,.int .i64 root] w fun e w'=>e=.returned (.tuple #[])/\Pu X w' m (giveS s k root)/\Kx X W w'):=fun w hb=>by
  refine (give_any (h.below hb) k root k6 hl hu t4.2.1 t4.2.2).mono ?_
  rintro e w' ⟨he,hp,hk⟩
  exact ⟨he,hp,(Kx.of_below h hb).trans hk⟩
 clear h H hl hb1 em t4 k6 hu BA
 generalize giveS s k root=s2 at GC |-
 go_enter Tryz.func64,Tryz.ntmps64
 go_wp2_with fail
 refine Calls.mono PC.out ?_
 rintro e w1 ⟨pf,cf,rfl,hb,hbk⟩
 have HL:Hid (Below W.heap.size W w1):=hb
 have c0:w1.cell? ⟨W.heap.size,0,none⟩=some (pp m.rb):=hbk.cell 0
 have c1:w1.cell? ⟨W.heap.size,1,none⟩=some (pp m.b):=hbk.cell 1
 have c2:w1.cell? ⟨W.heap.size,2,none⟩=some (pp m.tb):=hbk.cell 2
 have c3:w1.cell? ⟨W.heap.size,3,none⟩=some (.int .i64 k):=hbk.cell 3
 have lA:=hbk.lt
 clear hb PC hbk
 go_wp2_with fail
 refine Calls.mono (GC.out w1 HL.out) ?_
 rintro e w2 ⟨rfl,hp2⟩
 have H2:Hid (Pu X w2 m s2/\Kx X W w2):=hp2
 clear hp2
 go_wp2_with fail
 go_returns
 exact ⟨rfl,H2.out⟩
end Go.Proofs.YtmabmknmnkhhbaaGreatDoor.Tt
namespace Go.Proofs.YtmabmknmnkhhbaaGreatDoor.Tt
open Go.ChangeShapes Go.WideShapes Go.ChangeAt Go.RowKit Go.Maps
set_option linter.unusedSimpArgs false
set_option linter.unusedVariables false
set_option maxRecDepth 8000
end Go.Proofs.YtmabmknmnkhhbaaGreatDoor.Tt
namespace Go.Proofs.YtmabmknmnkhhbaaGreatDoor.Tt
open Go.ChangeShapes Go.WideShapes Go.ChangeAt Go.RowKit Go.Maps
set_option linter.unusedSimpArgs false
set_option linter.unusedVariables false
set_option maxRecDepth 8000
structure St (X:Nat->Prop) (m:Pm) (root k:Nat) (R U:Int) (F:Nat) (s:Ps) (tab:Nat->Nat->Option Nat) (lf:Nat->Option Lf) (w:World):Prop where
 pu:Pu X w m s
 rt:Rt m s root tab lf
 nm:Nums m s k (R-tabsN (pgs lf)) (U+tabsN (pgs lf)) (F-tabsN (pgs lf))
 tF:tabsN (pgs lf)<=F
section
variable {X:Nat->Prop} {m:Pm} {root k:Nat} {R U:Int} {F:Nat} {s:Ps} {tab:Nat->Nat->Option Nat} {lf:Nat->Option Lf} {W:World}
structure Apt (s s':Ps) (tab tab':Nat->Nat->Option Nat):Prop where
 oth: ∀ f:Nat,(∀ l x,tab l x≠some f)-> ¬ s.Fr f->s'.G f=s.G f/\ ¬ s'.Fr f/\ ∀ j:Nat,j<512->En s'.M f j=En s.M f j
 new: ∀ l x f,tab' l x=some f->tab l x=some f\/s.Fr f
 hi: ∀ f:Nat,tab 4 0=some f-> ∀ j:Nat,256<=j->j<512->En s'.M f j=En s.M f j
def StTo (X:Nat->Prop) (m:Pm) (root k:Nat) (R U:Int) (F:Nat) (s:Ps) (tab:Nat->Nat->Option Nat) (lf':Nat->Option Lf) (W w':World):Prop :=
 ∃ (s':Ps) (tab':Nat->Nat->Option Nat),St X m root k R U F s' tab' lf' w'/\s'.q<=s.q+10/\Apt s s' tab tab'/\Kx X W w'
theorem St.map_ok (h:St X m root k R U F s tab lf W) (hF:R<=F\/10+tabsN (pgs lf)<=F) (hq:s.q<4000000000000000000) (p:Nat) (hp:p<34359738368) (fr:Int) (hfr:0<=fr/\fr<1048576) (pa pb pc:Bool) (ht:lf p=none) (hr:(tabsN (pgs lf)+fresh (pgs lf) p:Nat)<=R) :
 Calls Tryz.prog 53 #[pv m k,.int .i64 root,.int .i64 p,.int .i64 fr,.agg #[.bool pa,.bool pb,.bool pc]] W fun e w'=>e=.returned (.int .i64 0)/\StTo X m root k R U F s tab (lfSet lf p (some ⟨fr,pa,pb,pc⟩)) W w':=by
 have tF:=h.tF
 have ms:=h.rt.pw.miss h.rt.fu p
 refine (Tt.map_ok h.pu h.rt k (h.nm.box (by omega)) p hp fr hfr pa pb pc ht hq (by rw [h.nm.room,ms];omega)).mono ?_
 rintro e w' ⟨rfl,Lm,M6,tab6,hl6,IN6,hp6,hk6,pw6,fu6,new6,oth6,hi6⟩
 have N6:=h.nm.take h.pu.so IN6 M6 (s.q+10)
 have R6:=rt_mapped (k:=k) (q:=s.q+10) h.pu.so h.rt IN6 pw6 fu6 new6
 have pm:=pgs_more h.rt.pw ht pw6
 have tt:tabsN (pgs (lfSet lf p (some ⟨fr,pa,pb,pc⟩)))=tabsN (pgs lf)+fresh (pgs lf) p:=(tabs_perm pm).trans rfl
 have cn:=take_cnt h.pu.so k IN6
 have cf:=h.nm.free
 rw [hl6,ms] at N6
 rw [hl6,ms] at cn
 refine ⟨rfl,_,tab6,⟨hp6,R6,?_,by omega⟩,?_,⟨fun f hf hn=> ?_,fun l x f e=> ?_,fun f e j h1 hj=> ?_⟩,hk6⟩
 . rw [tt,show R-((tabsN (pgs lf)+fresh (pgs lf) p:Nat):Int)=R-(tabsN (pgs lf):Int)-(fresh (pgs lf) p:Int) by omega,show U+((tabsN (pgs lf)+fresh (pgs lf) p:Nat):Int)=U+(tabsN (pgs lf):Int)+(fresh (pgs lf) p:Int) by omega,show F-(tabsN (pgs lf)+fresh (pgs lf) p)=F-tabsN (pgs lf)-fresh (pgs lf) p by omega]
   exact N6
 . show s.q+10<=_;omega
 . have nl:f∉Lm:=fun q=>hn (IN6.2 f q)
   refine ⟨?_,fun q=>hn q.1,fun j hj=>oth6 f hf nl j hj⟩
   show (if 0<=(f:Int)/\(f:Int).toNat∈Lm then some 0 else s.G f)=s.G f
   rw [if_neg]
   rintro ⟨_,q⟩
   exact nl (by simpa using q)
 . rcases new6 l x f e with q | q
   . exact Or.inl q
   . exact Or.inr (IN6.2 f q)
 . rw [h.rt.pw.t4] at e;cases e;exact hi6 j h1 hj
theorem St.unmap_ok (h:St X m root k R U F s tab lf W) (hU:0<=U) (hq:s.q<4000000000000000000) (p:Nat) {v:Lf} (e:lf p=some v) :
 Calls Tryz.prog 69 #[pv m k,.int .i64 root,.int .i64 p] W fun e w'=>e=.returned (.tuple #[.int .i64 v.f,.int .i64 0])/\StTo X m root k R U F s tab (lfSet lf p none) W w':=by
 have tF:=h.tF
 have ne:pgs lf≠[]:=fun q=>by
  have:=(h.rt.pw.mem p).2 (by rw [e];rfl)
  rw [q] at this;cases this
 have t4:=tabs_four ne
 refine (Tt.unmap_ok h.pu h.rt k p v e h.nm.k6 h.nm.live (by rw [h.nm.used];omega) hq).mono ?_
 rintro e' w' ⟨rfl,d,s',tab',d3,hp',hk',um,rt'⟩
 have dd:=um.fresh h.rt.pw d3 rt'.fu (by rw [e];rfl)
 have pm:=pgs_less h.rt.pw e um.pw
 have tt:tabsN (pgs lf)=tabsN (pgs (lfSet lf p none))+d:=(tabs_perm pm).trans (by rw [dd];rfl)
 have nn:=um.nums _ _ _ h.nm
 have qq:=um.q
 refine ⟨rfl,s',tab',⟨hp',rt',?_,by omega⟩,by omega,⟨fun f hf hn=> ?_,fun l x f e=>Or.inl (um.old l x f e),fun f e j h1 hj=> ?_⟩,hk'⟩
 . rw [show R-((tabsN (pgs (lfSet lf p none)):Nat):Int)=R-(tabsN (pgs lf):Int)+(d:Int) by omega,show U+((tabsN (pgs (lfSet lf p none)):Nat):Int)=U+(tabsN (pgs lf):Int)-(d:Int) by omega,show F-tabsN (pgs (lfSet lf p none))=F-tabsN (pgs lf)+d by omega]
   exact nn
 . obtain ⟨a,b,c⟩:=um.oth f hf
   exact ⟨a,fun q=>hn (b.1 q),c⟩
 . rw [h.rt.pw.t4] at e;cases e;exact um.hi j h1 hj
end
end Go.Proofs.YtmabmknmnkhhbaaGreatDoor.Tt
