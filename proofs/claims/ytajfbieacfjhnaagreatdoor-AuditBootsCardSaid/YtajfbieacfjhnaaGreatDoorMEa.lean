import Derived.Test.YtajfbieacfjhnaaGreatDoorMDa
import Derived.Test.YtajfbieacfjhnaaGreatDoorMCa
namespace Go.Proofs.YtajfbieacfjhnaaGreatDoor.Tt
set_option linter.unusedSimpArgs false
set_option linter.unusedVariables false
set_option maxRecDepth 8000
def pg (lf:Nat->Option Lf):Nat->Nat->List Nat
 | 0, p => if (lf p).isSome = true then [p] else []
 | l + 1, x => (List.range 512).flatMap fun i => pg lf l (x * 512 + i)
def pgN (lf:Nat->Option Lf) (l x n:Nat):List Nat:=(List.range n).flatMap fun i=>pg lf l (x*512+i)
theorem pgN_zero (lf:Nat->Option Lf) (l x:Nat):pgN lf l x 0=[]:=rfl
theorem pgN_succ (lf:Nat->Option Lf) (l x n:Nat):pgN lf l x (n+1)=pgN lf l x n++pg lf l (x*512+n):=by
 unfold pgN
 rw [List.range_succ,List.flatMap_append]
 simp
theorem pgN_all (lf:Nat->Option Lf) (l x:Nat):pgN lf l x 512=pg lf (l+1) x:=rfl
theorem mem_pg (lf:Nat->Option Lf) (p:Nat): ∀ l x,p∈pg lf l x↔pre l p=x/\(lf p).isSome=true:=by
 intro l
 induction l with
 | zero =>
  intro x
  show p∈(if (lf x).isSome=true then [x] else [])↔p=x/\_
  constructor
  . intro h
    by_cases c:(lf x).isSome=true
    . rw [if_pos c] at h
      simp at h
      subst h
      exact ⟨rfl,c⟩
    . rw [if_neg c] at h;cases h
  . rintro ⟨rfl,h⟩
    rw [if_pos h];simp
 | succ l ih =>
  intro x
  show p∈(List.range 512).flatMap _↔pre l p / 512=x/\_
  rw [List.mem_flatMap]
  constructor
  . rintro ⟨i,hi,h⟩
    rw [List.mem_range] at hi
    obtain ⟨a,b⟩:=(ih _).1 h
    exact ⟨by omega,b⟩
  . rintro ⟨a,b⟩
    exact ⟨pre l p % 512,List.mem_range.2 (Nat.mod_lt _ (by omega)),(ih _).2 ⟨by omega,b⟩⟩
theorem pre_mono {p q:Nat} (h:p<=q): ∀ l,pre l p<=pre l q:=by
 intro l
 induction l with
 | zero => exact h
 | succ l ih => show pre l p / 512 ≤ pre l q / 512; exact Nat.div_le_div_right ih
theorem pg_rising (lf:Nat->Option Lf): ∀ l x,(pg lf l x).Pairwise (· < ·):=by
 intro l
 induction l with
 | zero =>
  intro x
  show (if (lf x).isSome=true then [x] else []).Pairwise _
  split <;> simp
 | succ l ih =>
  intro x
  show ((List.range 512).flatMap fun i=>pg lf l (x*512+i)).Pairwise _
  rw [List.pairwise_flatMap]
  refine ⟨fun i _=>ih _,?_⟩
  refine List.pairwise_lt_range.imp ?_
  intro i j hij a ha c hc
  have e1:=((mem_pg lf a l _).1 ha).1
  have e2:=((mem_pg lf c l _).1 hc).1
  apply Nat.lt_of_not_le
  intro hle
  have:=pre_mono hle l
  omega
theorem pg_none {M:Int->Int} {root:Nat} {tab:Nat->Nat->Option Nat} {lf:Nat->Option Lf} (H:PW M root tab lf) {l x:Nat} (l1:1<=l) (l3:l<=3) (h:tab l x=none):pg lf l x=[]:=by
 apply List.eq_nil_iff_forall_not_mem.2
 intro p hp
 obtain ⟨e,hs⟩:=(mem_pg lf p l x).1 hp
 obtain ⟨v,hv⟩:=Option.isSome_iff_exists.1 hs
 obtain ⟨_,g,hg,_⟩:=H.lf1 p v hv
 have t1:tab 1 (pre 1 p)=some g:=hg
 obtain ⟨g2,t2,_⟩:=H.up 1 _ g (by omega) t1
 have t2':tab 2 (pre 2 p)=some g2:=t2
 obtain ⟨g3,t3,_⟩:=H.up 2 _ g2 (by omega) t2'
 have t3':tab 3 (pre 3 p)=some g3:=t3
 rcases (show l=1\/l=2\/l=3 by omega) with rfl | rfl | rfl
 . rw [e,h] at t1;cases t1
 . rw [e,h] at t2';cases t2'
 . rw [e,h] at t3';cases t3'
theorem pg_far {M:Int->Int} {root:Nat} {tab:Nat->Nat->Option Nat} {lf:Nat->Option Lf} (H:PW M root tab lf) {x:Nat} (hx:256<=x):pg lf 3 x=[]:=by
 apply List.eq_nil_iff_forall_not_mem.2
 intro p hp
 obtain ⟨e,hs⟩:=(mem_pg lf p 3 x).1 hp
 obtain ⟨v,hv⟩:=Option.isSome_iff_exists.1 hs
 have:=pre3 (H.lf1 p v hv).1
 omega
end Go.Proofs.YtajfbieacfjhnaaGreatDoor.Tt
namespace Go.Proofs.YtajfbieacfjhnaaGreatDoor.Tt
open Go.ChangeShapes Go.WideShapes Go.ChangeAt Go.RowKit Go.Maps
set_option linter.unusedSimpArgs false
set_option linter.unusedVariables false
set_option maxRecDepth 8000
theorem pgN_le (lf:Nat->Option Lf) (l x n:Nat) (hn:n<=512):(pgN lf l x n).length<=(pg lf (l+1) x).length:=by
 rw [<- pgN_all]
 obtain ⟨d,rfl⟩: ∃ d,n=512-d:=⟨512-n,by omega⟩
 clear hn
 induction d with
 | zero => exact Nat.le_refl _
 | succ d ih =>
  by_cases c:d<512
  . refine Nat.le_trans ?_ ih
    rw [show 512-d=(512-(d+1))+1 by omega,pgN_succ,List.length_append]
    omega
  . rw [show 512-(d+1)=512-d by omega];exact ih
theorem pgN_next (lf:Nat->Option Lf) (l x n:Nat) (hn:n<512):(pgN lf l x n).length+(pg lf l (x*512+n)).length<=(pg lf (l+1) x).length:=by
 have:=pgN_le lf l x (n+1) (by omega)
 rw [pgN_succ,List.length_append] at this
 exact this
section
variable {M:Int->Int} {root:Nat} {tab:Nat->Nat->Option Nat} {lf:Nat->Option Lf}
theorem PW.lt3 (H:PW M root tab lf) {x g:Nat} (h:tab 3 x=some g):x<256:=(H.dom 3 x g h).2.2.2 rfl
theorem PW.lt2 (H:PW M root tab lf) {x g:Nat} (h:tab 2 x=some g):x<131072:=by
 obtain ⟨f,hf,_⟩:=H.up 2 x g (by omega) h
 have:=H.lt3 hf
 omega
theorem PW.lt1 (H:PW M root tab lf) {x g:Nat} (h:tab 1 x=some g):x<67108864:=by
 obtain ⟨f,hf,_⟩:=H.up 1 x g (by omega) h
 have:=H.lt2 hf
 omega
theorem PW.at (H:PW M root tab lf) {l x g n:Nat} (l1:1<=l) (l3:l<=3) (h:tab (l+1) x=some g) (n5:n<512) (far:l=3->n<256) :
 (tab l (x*512+n)=none/\En M g n=0)\/ ∃ f,tab l (x*512+n)=some f/\MkT (En M g n) f:=by
 have e1:(x*512+n) / 512=x:=by omega
 have e2:(x*512+n) % 512=n:=by omega
 cases c:tab l (x*512+n) with
 | none =>
  left
  have q:=H.no l (x*512+n) g l1 (by omega) (fun e=> ?_) c (by rw [e1];exact h)
  . rw [e2] at q;exact ⟨rfl,q⟩
  . subst e
    have:=(H.dom 4 x g h).2.2.1 rfl
    have:=far rfl
    omega
 | some f =>
  right
  obtain ⟨g',hg',mk⟩:=H.up l _ f (by omega) c
  rw [e1,h] at hg'
  cases hg'
  rw [e2] at mk
  exact ⟨f,rfl,mk⟩
theorem PW.at1 (H:PW M root tab lf) {x g n:Nat} (h:tab 1 x=some g) (n5:n<512) :
 (lf (x*512+n)=none/\En M g n=0)\/ ∃ v,lf (x*512+n)=some v/\MkL (En M g n) v:=by
 have e1:(x*512+n) / 512=x:=by omega
 have e2:(x*512+n) % 512=n:=by omega
 have hx:=H.lt1 h
 cases c:lf (x*512+n) with
 | none =>
  left
  have q:=H.lf0 (x*512+n) g (by omega) c (by rw [e1];exact h)
  rw [e2] at q;exact ⟨rfl,q⟩
 | some v =>
  right
  obtain ⟨_,g',hg',mk⟩:=H.lf1 _ v c
  rw [e1,h] at hg'
  cases hg'
  rw [e2] at mk
  exact ⟨v,rfl,mk⟩
end
theorem pg0_none {lf:Nat->Option Lf} {p:Nat} (h:lf p=none):pg lf 0 p=[]:=by show (if (lf p).isSome=true then [p] else [])=[];rw [h];rfl
theorem pg0_some {lf:Nat->Option Lf} {p:Nat} {v:Lf} (h:lf p=some v):pg lf 0 p=[p]:=by show (if (lf p).isSome=true then [p] else [])=[p];rw [h];rfl
structure Lg (W w':World) (v v':Value):Prop where
 gr:W.grownBy w' v.ownBlock
 ob: ∀ g,v'.ownBlock=some g->v.ownBlock=some g\/W.heap.size<=g
theorem Lg.then {W w1 w2:World} {v v1 v2:Value} (h1:Lg W w1 v v1) (h2:Lg w1 w2 v1 v2):Lg W w2 v v2:=by
 refine ⟨⟨h2.gr.os.trans h1.gr.os,h2.gr.tape.trans h1.gr.tape,h2.gr.output.trans h1.gr.output,Nat.le_trans h1.gr.size h2.gr.size,fun j hj ne=> ?_⟩,fun g e=> ?_⟩
 . refine (h2.gr.block j (Nat.lt_of_lt_of_le hj h1.gr.size) (fun e=> ?_)).trans (h1.gr.block j hj ne)
   rcases h1.ob j e.symm with q | q
   . exact ne q.symm
   . omega
 . rcases h2.ob g e with q | q
   . exact h1.ob g q
   . have:=h1.gr.size
     exact Or.inr (by omega)
theorem Lg.grow {W w:World} (v:Value) (hb:Below W.heap.size W w):Lg W w v v:=⟨⟨hb.os,hb.tape,hb.output,hb.size,fun j hj _=>hb.block j hj⟩,fun g e=>Or.inl e⟩
theorem Lg.below {W0 W w:World} {v v':Value} {L:List Int} (h:Lg W w v v') (ho:Li.OI W W0.heap.size v L) (hb:Below W0.heap.size W0 W):Below W0.heap.size W0 w :=
 hb.trans ⟨h.gr.os,h.gr.tape,h.gr.output,h.gr.size,fun j hj=>h.gr.block j (Nat.lt_of_lt_of_le hj hb.size) (fun e=>by have:=(Li.row_lt ho j e.symm).1;omega)⟩
theorem Lg.blk {W w:World} {v v':Value} {b:Nat} {C:List Value} {t:TypeId} (h:Lg W w v v') (hb:Blk W b C t) (ne:v.ownBlock≠some b):Blk w b C t:=(h.gr.block b hb.lt (fun e=>ne e.symm)).trans hb
structure BI (W0 W:World) (A:Nat) (m:Pm) (k:Int) (v0:Value) (L:List Nat) (v:Value) (w:World):Prop where
 bel:Below W0.heap.size W0 w
 box:Blk w A [pp m.rb,pp m.b,pp m.tb,.int .i64 k] 81
 own:Li.OI w W0.heap.size v (ints L)
 lg:Lg W w v0 v
 ne:v.ownBlock≠some A
theorem BI.grow {W0 W w w':World} {A:Nat} {m:Pm} {k:Int} {v0 v:Value} {L:List Nat} (H:BI W0 W A m k v0 L v w) (hb:Below w.heap.size w w'):BI W0 W A m k v0 L v w' :=
 ⟨(Lg.grow v hb).below H.own H.bel,H.box.below hb,Li.row_below H.own hb,H.lg.then (Lg.grow v hb),H.ne⟩
theorem BI.step {W0 W w w':World} {A:Nat} {m:Pm} {k:Int} {v0 v v':Value} {L L':List Nat} (H:BI W0 W A m k v0 L v w) (ho:Li.OI w' W0.heap.size v' (ints L')) (h:Lg w w' v v'):BI W0 W A m k v0 L' v' w' :=
 ⟨h.below H.own H.bel,h.blk H.box H.ne,ho,H.lg.then h,fun e=>by
  rcases h.ob A e with q | q
  . exact H.ne q
  . have:=H.box.lt;omega⟩
theorem BI.app {W0 W w:World} {A:Nat} {m:Pm} {k:Int} {v0 v:Value} {L:List Nat} (H:BI W0 W A m k v0 L v w) (hL:L.length<=1000000) (p:Nat) :
 ∃ v' W2,(Builtin.append_ #[60,60] 60 #[v,.slice (some ⟨w.heap.size,0,none⟩) 1 1]).run Tryz.prog (w.alloc (.cells #[.int .i64 p] 3))=.ok v' W2/\BI W0 W A m k v0 (L++[p]) v' W2:=by
 obtain ⟨v',W2,r,ho,hg,hat⟩:=Li.app_row Li.eI_len Li.eI_one (by decide) Tryz.underlying60 Li.infoI rfl (by decide) W0.heap.size v (ints L) (p:Int) (by rw [List.length_map];omega) w H.own H.bel.size
 have s1:(w.alloc (.cells (Li.eI p).toArray 3)).heap.size=w.heap.size+1:=World.size_alloc _ _
 have b1:Below w.heap.size w (w.alloc (.cells (Li.eI p).toArray 3)):=Go.Joins.below_alloc1 _ _
 refine ⟨v',W2,r,H.step (v':=v') ?_ ((Lg.grow v b1).then ⟨hg,fun g e=> ?_⟩)⟩
 . have e:ints (L++[p])=ints L++[(p:Int)]:=by simp [ints]
   rw [e];exact ho
 . rcases hat with q | q
   . exact Or.inl (by rw [<- q];exact e)
   . rw [q] at e
     have:=Option.some.inj e
     exact Or.inr (by rw [s1];omega)
end Go.Proofs.YtajfbieacfjhnaaGreatDoor.Tt
namespace Go.Proofs.YtajfbieacfjhnaaGreatDoor.Tt
open Go.ChangeShapes Go.WideShapes Go.ChangeAt Go.RowKit Go.Maps
open Go.Proofs.YtajfbieacfjhnaaGreatDoor.Li (wpList_app)
set_option linter.unusedSimpArgs false
set_option linter.unusedVariables false
set_option maxRecDepth 8000
structure Grew (W0 W:World) (lf:Nat->Option Lf) (v:Value) (L:List Nat) (l x:Nat) (v':Value) (w':World):Prop where
 own:Li.OI w' W0.heap.size v' (ints (L++pg lf l x))
 lg:Lg W w' v v'
theorem pgN_far {M:Int->Int} {root:Nat} {tab:Nat->Nat->Option Nat} {lf:Nat->Option Lf} (H:PW M root tab lf):pgN lf 3 0 256=pg lf 4 0:=by
 rw [<- pgN_all]
 have: ∀ d,d<=256->pgN lf 3 0 (256+d)=pgN lf 3 0 256:=by
  intro d
  induction d with
  | zero => intro _; rfl
  | succ d ih =>
   intro hd
   rw [<- ih (by omega),show 256+(d+1)=(256+d)+1 by omega,pgN_succ,pg_far H (by omega),List.append_nil]
 exact (this 256 (by omega)).symm
set_option maxHeartbeats 2000000 in
theorem below_1 {X:Nat->Prop} {W0:World} {m:Pm} {s:Ps} (h:Pu X W0 m s) {root:Nat} {tab:Nat->Nat->Option Nat} {lf:Nat->Option Lf} (H:PW s.M root tab lf) (ow: ∀ l x (f:Nat),tab l x=some f->m.has f=true) (k:Int) {x g:Nat} (hg:tab 1 x=some g) (W:World) (hb:Below W0.heap.size W0 W) (v:Value) (L:List Nat) (ho:Li.OI W W0.heap.size v (ints L)) (hl:L.length+(pg lf 1 x).length<=1000000) :
 Calls Tryz.prog 131 #[pv m k,v,.int .i64 g,.int .i64 ((x*512:Nat):Int),.int .i64 1] W fun e w'=> ∃ v',e=.returned v'/\Grew W0 W lf v L 1 x v' w':=by
 have hb1:Below W.heap.size W (W.alloc (.cells #[pp m.rb,pp m.b,pp m.tb,.int .i64 k] 81)):=Go.Joins.below_alloc1 _ _
 have B0:Hid (BI W0 W W.heap.size m k v (L++pgN lf 0 x 0) v (W.alloc (.cells #[pp m.rb,pp m.b,pp m.tb,.int .i64 k] 81))):=by
  refine ⟨hb.trans (Go.Joins.below_le hb1 hb.size),Blk.made W [pp m.rb,pp m.b,pp m.tb,.int .i64 k] 81,?_,Lg.grow v hb1,fun e=> ?_⟩
  . rw [pgN_zero,List.append_nil];exact Li.row_below ho hb1
  . have:=(Li.row_lt ho _ e).2;omega
 have xb:=H.lt1 hg
 have GC:Hid (∀ (w:World) (n:Nat),n<512->Below W0.heap.size W0 w->Calls Tryz.prog 177 #[pv m k,.int .i64 g,.int .i64 n] w fun e w'=>e=.returned (unp (En s.M g n))/\Below w.heap.size w w'):=fun w n n5 hbw=>get_any (h.below hbw) k g n (ow _ _ _ hg) (by omega) (by omega)
 have AT:Hid (∀ n:Nat,n<512->n<512-> ∃ y,((bt (En s.M g n)=false/\pg lf 0 (x*512+n)=[])\/(bt (En s.M g n)=true/\nx (En s.M g n)=y/\pg lf 0 (x*512+n)=[x*512+n]))):=fun n n5 nf=>by
  rcases H.at1 hg n5 with ⟨e1,e2⟩ | ⟨v,e1,mk⟩
  . exact ⟨0,Or.inl ⟨by rw [e2];exact bt_zero,pg0_none e1⟩⟩
  . exact ⟨_,Or.inr ⟨mk.bt,rfl,pg0_some e1⟩⟩
 have HL:Hid (L.length+(pg lf 1 x).length<=1000000):=hl
 have PCy:Hid (∀ (p:Int),0<=p->p<34359738368-> ∀ w:World,Calls Tryz.prog 137 #[.int .i64 p] w fun e w'=>e=.returned (.bool true)/\w'=w):=fun p p0 p1 w=>page_any p true ⟨fun _=>⟨p0,p1⟩,fun _=>rfl⟩ w
 have PCn:Hid (∀ (p:Int),34359738368<=p-> ∀ w:World,Calls Tryz.prog 137 #[.int .i64 p] w fun e w'=>e=.returned (.bool false)/\w'=w):=fun p p1 w=>page_any p false ⟨fun e=>(by cases e),fun e=>by omega⟩ w
 clear h H ow hg hb ho hl hb1
 obtain ⟨fi,hfi⟩: ∃ fi:Int,fi=((x*512:Nat):Int):=⟨_,rfl⟩
 have HF:Hid (fi=((x*512:Nat):Int)):=hfi
 rw [<- hfi]
 have f0:0<=fi:=by omega
 have f1:fi+512<=34359738368:=by omega
 clear hfi
 go_enter Tryz.func131,Tryz.ntmps131
 go_upto_region 1 with fail
 generalize (W.alloc (.cells #[pp m.rb,pp m.b,pp m.tb,.int .i64 k] 81))=W1 at B0 |-
 obtain ⟨A,hA⟩: ∃ A,W.heap.size=A:=⟨_,rfl⟩
 rw [hA] at B0 |-
 clear hA
 go_wp2_with fail
 go_loopw [1,11,12,13,14,39,43] (fun vf _ _ _ vi _ _ w=> ∃ n:Nat,n<=512/\vi=.int .i64 n/\Hid (BI W0 W A m k v (L++pgN lf 0 x n) vf w)) (fun _ _ _ _ vi _ _ _=>512-(Go.RowKit.intOf vi).toNat)
 case atStart=>exact ⟨0,by omega,rfl,B0⟩
 case round =>
  clear B0
  obtain ⟨n,hn,rfl,BN⟩:=hrel
  by_cases cn:n<512
  rotate_left
  . obtain rfl:n=512:=by omega
    go_wp2_with fail
    go_returns
    exact ⟨_,rfl,BN.out.own,BN.out.lg⟩
  have n5:n<512:=by omega
  have d1:decide ((n:Int)<512)=true:=by simp;omega
  obtain ⟨y,hy⟩:=AT.out n n5 cn
  have GN:Hid _:=fun w hw=>GC.out w n n5 hw
  obtain ⟨z,hz⟩: ∃ z,En s.M g n=z:=⟨_,rfl⟩
  rw [hz] at GN hy
  obtain ⟨pgv,hpg⟩: ∃ pgv:Int,pgv=fi+(n:Int)*1:=⟨_,rfl⟩
  have p0:0<=pgv:=by omega
  have p1:pgv<34359738368:=by omega
  have w1:IntKind.i64.wrap ((n:Int)*1)=(n:Int)*1:=by simp only [IntKind.wrap_i64];omega
  have w2:IntKind.i64.wrap (fi+(n:Int)*1)=pgv:=by simp only [IntKind.wrap_i64];omega
  have HPG:Hid (pgv=(((x*512+n)*1:Nat):Int)):=by have q:=HF.out;show _=_;omega
  have HPF:Hid (pgv=fi+(n:Int)):=by show _=_;omega
  clear hpg hz
  go_upto_region 5 with fail
  rw [<- HPF.out]
  clear HPF
  go_wp2_with fail
  refine Calls.mono (PCy.out pgv p0 p1 wr) ?_
  rintro e w0' ⟨rfl,hw0⟩
  have hw1:=hw0.symm
  subst hw1
  clear hw0
  clear w1 w2
  have BX:=BN.out.box
  have c0:wr.cell? ⟨A,0,none⟩=some (pp m.rb):=BX.cell 0
  have c1:wr.cell? ⟨A,1,none⟩=some (pp m.b):=BX.cell 1
  have c2:wr.cell? ⟨A,2,none⟩=some (pp m.tb):=BX.cell 2
  have c3:wr.cell? ⟨A,3,none⟩=some (.int .i64 k):=BX.cell 3
  have lA:=BX.lt
  clear BX
  obtain ⟨b1,b2,b3,b4,b5,b6,b7,hu⟩: ∃ b1 b2 b3 b4 b5 b6 b7,unp z=.agg #[.bool (bt z),.bool b1,.bool b2,.bool b3,.bool b4,.bool b5,.bool b6,.bool b7,.int .i64 (nx z:Nat)]:=⟨_,_,_,_,_,_,_,by unfold unp;rw [nx_cast]⟩
  have GX:=GN.out wr BN.out.bel
  rw [hu] at GX
  obtain ⟨yy,hyy⟩: ∃ yy:Nat,nx z=yy:=⟨_,rfl⟩
  obtain ⟨bb,hbb⟩: ∃ bb:Bool,bt z=bb:=⟨_,rfl⟩
  rw [hyy,hbb] at GX hy
  have HY:Hid _:=hy
  have GX:Hid _:=GX
  clear hu hyy hbb hy GN
  go_wp2_with fail
  refine Calls.mono GX.out ?_
  rintro e w2 ⟨rfl,hb2⟩
  clear c0 c1 c2 c3 lA GX
  obtain ⟨V,hV⟩: ∃ V,V=(w2.alloc (.cells #[.bool false,.bool false,.bool false,.bool false,.bool false,.bool false,.bool false,.bool false,.int .i64 0] 135)).setCells w2.heap.size 0 [.bool bb,.bool b1,.bool b2,.bool b3,.bool b4,.bool b5,.bool b6,.bool b7,.int .i64 (yy:Nat)]:=⟨_,rfl⟩
  have HV:Hid (Blk V w2.heap.size [.bool bb,.bool b1,.bool b2,.bool b3,.bool b4,.bool b5,.bool b6,.bool b7,.int .i64 (yy:Nat)] 135/\Below w2.heap.size w2 V):=by
   rw [hV]
   have q:=Qu.grown_setCells w2.heap.size [.bool bb,.bool b1,.bool b2,.bool b3,.bool b4,.bool b5,.bool b6,.bool b7,.int .i64 (yy:Nat)] 0 (w2.alloc (.cells #[.bool false,.bool false,.bool false,.bool false,.bool false,.bool false,.bool false,.bool false,.int .i64 0] 135))
   have q1:Below w2.heap.size w2 (w2.alloc (.cells #[.bool false,.bool false,.bool false,.bool false,.bool false,.bool false,.bool false,.bool false,.int .i64 0] 135)):=Go.Joins.below_alloc1 _ _
   exact ⟨(Blk.made w2 [.bool false,.bool false,.bool false,.bool false,.bool false,.bool false,.bool false,.bool false,.int .i64 0] 135).put rfl,q1.trans ⟨q.os,q.tape,q.output,q.size,fun j hj=>q.block j (Nat.lt_of_lt_of_le hj q1.size) (fun e=>by have:=Option.some.inj e;omega)⟩⟩
  have BV:Hid (BI W0 W A m k v (L++pgN lf 0 x n) u1 V):=(BN.out.grow hb2).grow HV.out.2
  clear hb2 BN
  rename_i hcont
  refine hcont _ _ ?_
  clear hcont
  iterate 3 go_step
  refine store_pat w2.heap.size 0 #[.bool bb,.bool b1,.bool b2,.bool b3,.bool b4,.bool b5,.bool b6,.bool b7,.int .i64 (yy:Nat)] rfl rfl (Blk.made w2 [.bool false,.bool false,.bool false,.bool false,.bool false,.bool false,.bool false,.bool false,.int .i64 0] 135).there (by kernel_rfl) (by simp [Value.oneCell']) ?_
  simp only [List.toList_toArray]
  rw [<- hV]
  clear hV
  go_upto_region 8 with fail
  have e0:V.cell? ⟨w2.heap.size,0,none⟩=some (.bool bb):=HV.out.1.cell 0
  have e8:V.cell? ⟨w2.heap.size,8,none⟩=some (.int .i64 (yy:Nat)):=HV.out.1.cell 8
  have lE:=HV.out.1.lt
  have BN:=BV
  clear BV HV
  generalize w2.heap.size=E at e0 e8 lE |-
  have HLn:Hid ((L++pgN lf 0 x n).length+(pg lf 0 (x*512+n)).length<=1000000):=by
   have a:=HL.out
   have b:(pgN lf 0 x n).length+(pg lf 0 (x*512+n)).length<=(pg lf 1 x).length:=pgN_next lf 0 x n n5
   show _<=_
   rw [List.length_append]
   omega
  cases bb with
  | false =>
   have HE:Hid (BI W0 W A m k v (L++pgN lf 0 x (n+1)) u1 V):=by
    rcases HY.out with q | q
    . rw [pgN_succ,q.2,List.append_nil];exact BN.out
    . cases q.1
   clear BN HY HLn
   go_wp2_with fail
   go_roundw
   case rel=>exact ⟨n+1,by omega,by go_num,HE⟩
   case measure=>simp [Go.RowKit.intOf];omega
  | true =>
   have HS:Hid (pg lf 0 (x*512+n)=[x*512+n]):=by
    rcases HY.out with q | q
    . cases q.1
    . exact q.2.2
   obtain ⟨v',W2,r,B2⟩:=BN.out.app (by have:=HLn.out;omega) (x*512+n)
   have HE:Hid (BI W0 W A m k v (L++pgN lf 0 x (n+1)) v' W2):=by
    show BI _ _ _ _ _ _ _ _ _
    rw [pgN_succ,HS.out,<- List.append_assoc];exact B2
   rw [show ((x*512+n:Nat):Int)=pgv by have:=HPG.out;omega] at r
   clear B2 BN HY HS HLn
   go_wp2_with (at_builtin;refine wpList_app rfl _ _ 60 rfl u1 (.slice (some ⟨V.heap.size,0,none⟩) 1 1) rfl rfl v' W2 r ?_)
   go_roundw
   case rel=>exact ⟨n+1,by omega,by go_num,HE⟩
   case measure=>simp [Go.RowKit.intOf];omega
set_option maxHeartbeats 2000000 in
theorem below_2 {X:Nat->Prop} {W0:World} {m:Pm} {s:Ps} (h:Pu X W0 m s) {root:Nat} {tab:Nat->Nat->Option Nat} {lf:Nat->Option Lf} (H:PW s.M root tab lf) (ow: ∀ l x (f:Nat),tab l x=some f->m.has f=true) (k:Int) {x g:Nat} (hg:tab 2 x=some g) (W:World) (hb:Below W0.heap.size W0 W) (v:Value) (L:List Nat) (ho:Li.OI W W0.heap.size v (ints L)) (hl:L.length+(pg lf 2 x).length<=1000000) :
 Calls Tryz.prog 131 #[pv m k,v,.int .i64 g,.int .i64 ((x*262144:Nat):Int),.int .i64 2] W fun e w'=> ∃ v',e=.returned v'/\Grew W0 W lf v L 2 x v' w':=by
 have hb1:Below W.heap.size W (W.alloc (.cells #[pp m.rb,pp m.b,pp m.tb,.int .i64 k] 81)):=Go.Joins.below_alloc1 _ _
 have B0:Hid (BI W0 W W.heap.size m k v (L++pgN lf 1 x 0) v (W.alloc (.cells #[pp m.rb,pp m.b,pp m.tb,.int .i64 k] 81))):=by
  refine ⟨hb.trans (Go.Joins.below_le hb1 hb.size),Blk.made W [pp m.rb,pp m.b,pp m.tb,.int .i64 k] 81,?_,Lg.grow v hb1,fun e=> ?_⟩
  . rw [pgN_zero,List.append_nil];exact Li.row_below ho hb1
  . have:=(Li.row_lt ho _ e).2;omega
 have xb:=H.lt2 hg
 have GC:Hid (∀ (w:World) (n:Nat),n<512->Below W0.heap.size W0 w->Calls Tryz.prog 177 #[pv m k,.int .i64 g,.int .i64 n] w fun e w'=>e=.returned (unp (En s.M g n))/\Below w.heap.size w w'):=fun w n n5 hbw=>get_any (h.below hbw) k g n (ow _ _ _ hg) (by omega) (by omega)
 have AT:Hid (∀ n:Nat,n<512->n<512-> ∃ y,((bt (En s.M g n)=false/\pg lf 1 (x*512+n)=[])\/(bt (En s.M g n)=true/\nx (En s.M g n)=y/\tab 1 (x*512+n)=some y))):=fun n n5 nf=>by
  rcases H.at (l:=1) (by omega) (by omega) hg n5 (fun e=>by omega) with ⟨e1,e2⟩ | ⟨f,e1,mk⟩
  . exact ⟨0,Or.inl ⟨by rw [e2];exact bt_zero,pg_none H (by omega) (by omega) e1⟩⟩
  . exact ⟨f,Or.inr ⟨mk.bt.1,mk.bt.2,e1⟩⟩
 have RC:Hid (∀ (w:World) (n y:Nat) (v:Value) (L:List Nat),tab 1 (x*512+n)=some y->Below W0.heap.size W0 w->Li.OI w W0.heap.size v (ints L)->L.length+(pg lf 1 (x*512+n)).length<=1000000->Calls Tryz.prog 131 #[pv m k,v,.int .i64 y,.int .i64 (((x*512+n)*512:Nat):Int),.int .i64 1] w fun e w'=> ∃ v',e=.returned v'/\Grew W0 w lf v L 1 (x*512+n) v' w'):=fun w n y v L e hb ho hl=>below_1 h H ow k e w hb v L ho hl
 have HL:Hid (L.length+(pg lf 2 x).length<=1000000):=hl
 have PCy:Hid (∀ (p:Int),0<=p->p<34359738368-> ∀ w:World,Calls Tryz.prog 137 #[.int .i64 p] w fun e w'=>e=.returned (.bool true)/\w'=w):=fun p p0 p1 w=>page_any p true ⟨fun _=>⟨p0,p1⟩,fun _=>rfl⟩ w
 have PCn:Hid (∀ (p:Int),34359738368<=p-> ∀ w:World,Calls Tryz.prog 137 #[.int .i64 p] w fun e w'=>e=.returned (.bool false)/\w'=w):=fun p p1 w=>page_any p false ⟨fun e=>(by cases e),fun e=>by omega⟩ w
 clear h H ow hg hb ho hl hb1
 obtain ⟨fi,hfi⟩: ∃ fi:Int,fi=((x*262144:Nat):Int):=⟨_,rfl⟩
 have HF:Hid (fi=((x*262144:Nat):Int)):=hfi
 rw [<- hfi]
 have f0:0<=fi:=by omega
 have f1:fi+262144<=34359738368:=by omega
 clear hfi
 go_enter Tryz.func131,Tryz.ntmps131
 go_upto_region 1 with fail
 generalize (W.alloc (.cells #[pp m.rb,pp m.b,pp m.tb,.int .i64 k] 81))=W1 at B0 |-
 obtain ⟨A,hA⟩: ∃ A,W.heap.size=A:=⟨_,rfl⟩
 rw [hA] at B0 |-
 clear hA
 go_wp2_with fail
 go_loopw [1,11,12,13,14,39,43] (fun vf _ _ _ vi _ _ w=> ∃ n:Nat,n<=512/\vi=.int .i64 n/\Hid (BI W0 W A m k v (L++pgN lf 1 x n) vf w)) (fun _ _ _ _ vi _ _ _=>512-(Go.RowKit.intOf vi).toNat)
 case atStart=>exact ⟨0,by omega,rfl,B0⟩
 case round =>
  clear B0
  obtain ⟨n,hn,rfl,BN⟩:=hrel
  by_cases cn:n<512
  rotate_left
  . obtain rfl:n=512:=by omega
    go_wp2_with fail
    go_returns
    exact ⟨_,rfl,BN.out.own,BN.out.lg⟩
  have n5:n<512:=by omega
  have d1:decide ((n:Int)<512)=true:=by simp;omega
  obtain ⟨y,hy⟩:=AT.out n n5 cn
  have GN:Hid _:=fun w hw=>GC.out w n n5 hw
  obtain ⟨z,hz⟩: ∃ z,En s.M g n=z:=⟨_,rfl⟩
  rw [hz] at GN hy
  obtain ⟨pgv,hpg⟩: ∃ pgv:Int,pgv=fi+(n:Int)*512:=⟨_,rfl⟩
  have p0:0<=pgv:=by omega
  have p1:pgv<34359738368:=by omega
  have w1:IntKind.i64.wrap ((n:Int)*512)=(n:Int)*512:=by simp only [IntKind.wrap_i64];omega
  have w2:IntKind.i64.wrap (fi+(n:Int)*512)=pgv:=by simp only [IntKind.wrap_i64];omega
  have HPG:Hid (pgv=(((x*512+n)*512:Nat):Int)):=by have q:=HF.out;show _=_;omega
  have HPF:Hid (pgv=fi+(n:Int)*512):=by show _=_;omega
  clear hpg hz
  go_upto_region 5 with fail
  skip
  clear HPF
  go_wp2_with fail
  refine Calls.mono (PCy.out pgv p0 p1 wr) ?_
  rintro e w0' ⟨rfl,hw0⟩
  have hw1:=hw0.symm
  subst hw1
  clear hw0
  clear w1 w2
  have BX:=BN.out.box
  have c0:wr.cell? ⟨A,0,none⟩=some (pp m.rb):=BX.cell 0
  have c1:wr.cell? ⟨A,1,none⟩=some (pp m.b):=BX.cell 1
  have c2:wr.cell? ⟨A,2,none⟩=some (pp m.tb):=BX.cell 2
  have c3:wr.cell? ⟨A,3,none⟩=some (.int .i64 k):=BX.cell 3
  have lA:=BX.lt
  clear BX
  obtain ⟨b1,b2,b3,b4,b5,b6,b7,hu⟩: ∃ b1 b2 b3 b4 b5 b6 b7,unp z=.agg #[.bool (bt z),.bool b1,.bool b2,.bool b3,.bool b4,.bool b5,.bool b6,.bool b7,.int .i64 (nx z:Nat)]:=⟨_,_,_,_,_,_,_,by unfold unp;rw [nx_cast]⟩
  have GX:=GN.out wr BN.out.bel
  rw [hu] at GX
  obtain ⟨yy,hyy⟩: ∃ yy:Nat,nx z=yy:=⟨_,rfl⟩
  obtain ⟨bb,hbb⟩: ∃ bb:Bool,bt z=bb:=⟨_,rfl⟩
  rw [hyy,hbb] at GX hy
  have HY:Hid _:=hy
  have GX:Hid _:=GX
  clear hu hyy hbb hy GN
  go_wp2_with fail
  refine Calls.mono GX.out ?_
  rintro e w2 ⟨rfl,hb2⟩
  clear c0 c1 c2 c3 lA GX
  obtain ⟨V,hV⟩: ∃ V,V=(w2.alloc (.cells #[.bool false,.bool false,.bool false,.bool false,.bool false,.bool false,.bool false,.bool false,.int .i64 0] 135)).setCells w2.heap.size 0 [.bool bb,.bool b1,.bool b2,.bool b3,.bool b4,.bool b5,.bool b6,.bool b7,.int .i64 (yy:Nat)]:=⟨_,rfl⟩
  have HV:Hid (Blk V w2.heap.size [.bool bb,.bool b1,.bool b2,.bool b3,.bool b4,.bool b5,.bool b6,.bool b7,.int .i64 (yy:Nat)] 135/\Below w2.heap.size w2 V):=by
   rw [hV]
   have q:=Qu.grown_setCells w2.heap.size [.bool bb,.bool b1,.bool b2,.bool b3,.bool b4,.bool b5,.bool b6,.bool b7,.int .i64 (yy:Nat)] 0 (w2.alloc (.cells #[.bool false,.bool false,.bool false,.bool false,.bool false,.bool false,.bool false,.bool false,.int .i64 0] 135))
   have q1:Below w2.heap.size w2 (w2.alloc (.cells #[.bool false,.bool false,.bool false,.bool false,.bool false,.bool false,.bool false,.bool false,.int .i64 0] 135)):=Go.Joins.below_alloc1 _ _
   exact ⟨(Blk.made w2 [.bool false,.bool false,.bool false,.bool false,.bool false,.bool false,.bool false,.bool false,.int .i64 0] 135).put rfl,q1.trans ⟨q.os,q.tape,q.output,q.size,fun j hj=>q.block j (Nat.lt_of_lt_of_le hj q1.size) (fun e=>by have:=Option.some.inj e;omega)⟩⟩
  have BV:Hid (BI W0 W A m k v (L++pgN lf 1 x n) u1 V):=(BN.out.grow hb2).grow HV.out.2
  clear hb2 BN
  rename_i hcont
  refine hcont _ _ ?_
  clear hcont
  iterate 3 go_step
  refine store_pat w2.heap.size 0 #[.bool bb,.bool b1,.bool b2,.bool b3,.bool b4,.bool b5,.bool b6,.bool b7,.int .i64 (yy:Nat)] rfl rfl (Blk.made w2 [.bool false,.bool false,.bool false,.bool false,.bool false,.bool false,.bool false,.bool false,.int .i64 0] 135).there (by kernel_rfl) (by simp [Value.oneCell']) ?_
  simp only [List.toList_toArray]
  rw [<- hV]
  clear hV
  go_upto_region 8 with fail
  have e0:V.cell? ⟨w2.heap.size,0,none⟩=some (.bool bb):=HV.out.1.cell 0
  have e8:V.cell? ⟨w2.heap.size,8,none⟩=some (.int .i64 (yy:Nat)):=HV.out.1.cell 8
  have lE:=HV.out.1.lt
  have BN:=BV
  clear BV HV
  generalize w2.heap.size=E at e0 e8 lE |-
  have HLn:Hid ((L++pgN lf 1 x n).length+(pg lf 1 (x*512+n)).length<=1000000):=by
   have a:=HL.out
   have b:(pgN lf 1 x n).length+(pg lf 1 (x*512+n)).length<=(pg lf 2 x).length:=pgN_next lf 1 x n n5
   show _<=_
   rw [List.length_append]
   omega
  cases bb with
  | false =>
   have HE:Hid (BI W0 W A m k v (L++pgN lf 1 x (n+1)) u1 V):=by
    rcases HY.out with q | q
    . rw [pgN_succ,q.2,List.append_nil];exact BN.out
    . cases q.1
   clear BN HY HLn
   go_wp2_with fail
   go_roundw
   case rel=>exact ⟨n+1,by omega,by go_num,HE⟩
   case measure=>simp [Go.RowKit.intOf];omega
  | true =>
   have HS:Hid (tab 1 (x*512+n)=some yy):=by
    rcases HY.out with q | q
    . cases q.1
    . rw [q.2.1];exact q.2.2
   have RX:=RC.out V n yy u1 _ HS.out BN.out.bel BN.out.own HLn.out
   rw [<- HPG.out] at RX
   have RX:Hid _:=RX
   have BX:=BN.out.box
   have c0:V.cell? ⟨A,0,none⟩=some (pp m.rb):=BX.cell 0
   have c1:V.cell? ⟨A,1,none⟩=some (pp m.b):=BX.cell 1
   have c2:V.cell? ⟨A,2,none⟩=some (pp m.tb):=BX.cell 2
   have c3:V.cell? ⟨A,3,none⟩=some (.int .i64 k):=BX.cell 3
   have lA:=BX.lt
   clear BX
   clear HY HS HLn
   go_wp2_with fail
   refine Calls.mono RX.out ?_
   rintro e w3 ⟨v',rfl,hG⟩
   have HE:Hid (BI W0 W A m k v (L++pgN lf 1 x (n+1)) v' w3):=by
    have q:=BN.out.step hG.own hG.lg
    show BI _ _ _ _ _ _ _ _ _
    rw [pgN_succ,<- List.append_assoc];exact q
   clear hG RX BN e0 e8 lE c0 c1 c2 c3 lA
   go_wp2_with fail
   go_roundw
   case rel=>exact ⟨n+1,by omega,by go_num,HE⟩
   case measure=>simp [Go.RowKit.intOf];omega
set_option maxHeartbeats 2000000 in
theorem below_3 {X:Nat->Prop} {W0:World} {m:Pm} {s:Ps} (h:Pu X W0 m s) {root:Nat} {tab:Nat->Nat->Option Nat} {lf:Nat->Option Lf} (H:PW s.M root tab lf) (ow: ∀ l x (f:Nat),tab l x=some f->m.has f=true) (k:Int) {x g:Nat} (hg:tab 3 x=some g) (W:World) (hb:Below W0.heap.size W0 W) (v:Value) (L:List Nat) (ho:Li.OI W W0.heap.size v (ints L)) (hl:L.length+(pg lf 3 x).length<=1000000) :
 Calls Tryz.prog 131 #[pv m k,v,.int .i64 g,.int .i64 ((x*134217728:Nat):Int),.int .i64 3] W fun e w'=> ∃ v',e=.returned v'/\Grew W0 W lf v L 3 x v' w':=by
 have hb1:Below W.heap.size W (W.alloc (.cells #[pp m.rb,pp m.b,pp m.tb,.int .i64 k] 81)):=Go.Joins.below_alloc1 _ _
 have B0:Hid (BI W0 W W.heap.size m k v (L++pgN lf 2 x 0) v (W.alloc (.cells #[pp m.rb,pp m.b,pp m.tb,.int .i64 k] 81))):=by
  refine ⟨hb.trans (Go.Joins.below_le hb1 hb.size),Blk.made W [pp m.rb,pp m.b,pp m.tb,.int .i64 k] 81,?_,Lg.grow v hb1,fun e=> ?_⟩
  . rw [pgN_zero,List.append_nil];exact Li.row_below ho hb1
  . have:=(Li.row_lt ho _ e).2;omega
 have xb:=H.lt3 hg
 have GC:Hid (∀ (w:World) (n:Nat),n<512->Below W0.heap.size W0 w->Calls Tryz.prog 177 #[pv m k,.int .i64 g,.int .i64 n] w fun e w'=>e=.returned (unp (En s.M g n))/\Below w.heap.size w w'):=fun w n n5 hbw=>get_any (h.below hbw) k g n (ow _ _ _ hg) (by omega) (by omega)
 have AT:Hid (∀ n:Nat,n<512->n<512-> ∃ y,((bt (En s.M g n)=false/\pg lf 2 (x*512+n)=[])\/(bt (En s.M g n)=true/\nx (En s.M g n)=y/\tab 2 (x*512+n)=some y))):=fun n n5 nf=>by
  rcases H.at (l:=2) (by omega) (by omega) hg n5 (fun e=>by omega) with ⟨e1,e2⟩ | ⟨f,e1,mk⟩
  . exact ⟨0,Or.inl ⟨by rw [e2];exact bt_zero,pg_none H (by omega) (by omega) e1⟩⟩
  . exact ⟨f,Or.inr ⟨mk.bt.1,mk.bt.2,e1⟩⟩
 have RC:Hid (∀ (w:World) (n y:Nat) (v:Value) (L:List Nat),tab 2 (x*512+n)=some y->Below W0.heap.size W0 w->Li.OI w W0.heap.size v (ints L)->L.length+(pg lf 2 (x*512+n)).length<=1000000->Calls Tryz.prog 131 #[pv m k,v,.int .i64 y,.int .i64 (((x*512+n)*262144:Nat):Int),.int .i64 2] w fun e w'=> ∃ v',e=.returned v'/\Grew W0 w lf v L 2 (x*512+n) v' w'):=fun w n y v L e hb ho hl=>below_2 h H ow k e w hb v L ho hl
 have HL:Hid (L.length+(pg lf 3 x).length<=1000000):=hl
 have PCy:Hid (∀ (p:Int),0<=p->p<34359738368-> ∀ w:World,Calls Tryz.prog 137 #[.int .i64 p] w fun e w'=>e=.returned (.bool true)/\w'=w):=fun p p0 p1 w=>page_any p true ⟨fun _=>⟨p0,p1⟩,fun _=>rfl⟩ w
 have PCn:Hid (∀ (p:Int),34359738368<=p-> ∀ w:World,Calls Tryz.prog 137 #[.int .i64 p] w fun e w'=>e=.returned (.bool false)/\w'=w):=fun p p1 w=>page_any p false ⟨fun e=>(by cases e),fun e=>by omega⟩ w
 clear h H ow hg hb ho hl hb1
 obtain ⟨fi,hfi⟩: ∃ fi:Int,fi=((x*134217728:Nat):Int):=⟨_,rfl⟩
 have HF:Hid (fi=((x*134217728:Nat):Int)):=hfi
 rw [<- hfi]
 have f0:0<=fi:=by omega
 have f1:fi+134217728<=34359738368:=by omega
 clear hfi
 go_enter Tryz.func131,Tryz.ntmps131
 go_upto_region 1 with fail
 generalize (W.alloc (.cells #[pp m.rb,pp m.b,pp m.tb,.int .i64 k] 81))=W1 at B0 |-
 obtain ⟨A,hA⟩: ∃ A,W.heap.size=A:=⟨_,rfl⟩
 rw [hA] at B0 |-
 clear hA
 go_wp2_with fail
 go_loopw [1,11,12,13,14,39,43] (fun vf _ _ _ vi _ _ w=> ∃ n:Nat,n<=512/\vi=.int .i64 n/\Hid (BI W0 W A m k v (L++pgN lf 2 x n) vf w)) (fun _ _ _ _ vi _ _ _=>512-(Go.RowKit.intOf vi).toNat)
 case atStart=>exact ⟨0,by omega,rfl,B0⟩
 case round =>
  clear B0
  obtain ⟨n,hn,rfl,BN⟩:=hrel
  by_cases cn:n<512
  rotate_left
  . obtain rfl:n=512:=by omega
    go_wp2_with fail
    go_returns
    exact ⟨_,rfl,BN.out.own,BN.out.lg⟩
  have n5:n<512:=by omega
  have d1:decide ((n:Int)<512)=true:=by simp;omega
  obtain ⟨y,hy⟩:=AT.out n n5 cn
  have GN:Hid _:=fun w hw=>GC.out w n n5 hw
  obtain ⟨z,hz⟩: ∃ z,En s.M g n=z:=⟨_,rfl⟩
  rw [hz] at GN hy
  obtain ⟨pgv,hpg⟩: ∃ pgv:Int,pgv=fi+(n:Int)*262144:=⟨_,rfl⟩
  have p0:0<=pgv:=by omega
  have p1:pgv<34359738368:=by omega
  have w1:IntKind.i64.wrap ((n:Int)*262144)=(n:Int)*262144:=by simp only [IntKind.wrap_i64];omega
  have w2:IntKind.i64.wrap (fi+(n:Int)*262144)=pgv:=by simp only [IntKind.wrap_i64];omega
  have HPG:Hid (pgv=(((x*512+n)*262144:Nat):Int)):=by have q:=HF.out;show _=_;omega
  have HPF:Hid (pgv=fi+(n:Int)*262144):=by show _=_;omega
  clear hpg hz
  go_upto_region 5 with fail
  skip
  clear HPF
  go_wp2_with fail
  refine Calls.mono (PCy.out pgv p0 p1 wr) ?_
  rintro e w0' ⟨rfl,hw0⟩
  have hw1:=hw0.symm
  subst hw1
  clear hw0
  clear w1 w2
  have BX:=BN.out.box
  have c0:wr.cell? ⟨A,0,none⟩=some (pp m.rb):=BX.cell 0
  have c1:wr.cell? ⟨A,1,none⟩=some (pp m.b):=BX.cell 1
  have c2:wr.cell? ⟨A,2,none⟩=some (pp m.tb):=BX.cell 2
  have c3:wr.cell? ⟨A,3,none⟩=some (.int .i64 k):=BX.cell 3
  have lA:=BX.lt
  clear BX
  obtain ⟨b1,b2,b3,b4,b5,b6,b7,hu⟩: ∃ b1 b2 b3 b4 b5 b6 b7,unp z=.agg #[.bool (bt z),.bool b1,.bool b2,.bool b3,.bool b4,.bool b5,.bool b6,.bool b7,.int .i64 (nx z:Nat)]:=⟨_,_,_,_,_,_,_,by unfold unp;rw [nx_cast]⟩
  have GX:=GN.out wr BN.out.bel
  rw [hu] at GX
  obtain ⟨yy,hyy⟩: ∃ yy:Nat,nx z=yy:=⟨_,rfl⟩
  obtain ⟨bb,hbb⟩: ∃ bb:Bool,bt z=bb:=⟨_,rfl⟩
  rw [hyy,hbb] at GX hy
  have HY:Hid _:=hy
  have GX:Hid _:=GX
  clear hu hyy hbb hy GN
  go_wp2_with fail
  refine Calls.mono GX.out ?_
  rintro e w2 ⟨rfl,hb2⟩
  clear c0 c1 c2 c3 lA GX
  obtain ⟨V,hV⟩: ∃ V,V=(w2.alloc (.cells #[.bool false,.bool false,.bool false,.bool false,.bool false,.bool false,.bool false,.bool false,.int .i64 0] 135)).setCells w2.heap.size 0 [.bool bb,.bool b1,.bool b2,.bool b3,.bool b4,.bool b5,.bool b6,.bool b7,.int .i64 (yy:Nat)]:=⟨_,rfl⟩
  have HV:Hid (Blk V w2.heap.size [.bool bb,.bool b1,.bool b2,.bool b3,.bool b4,.bool b5,.bool b6,.bool b7,.int .i64 (yy:Nat)] 135/\Below w2.heap.size w2 V):=by
   rw [hV]
   have q:=Qu.grown_setCells w2.heap.size [.bool bb,.bool b1,.bool b2,.bool b3,.bool b4,.bool b5,.bool b6,.bool b7,.int .i64 (yy:Nat)] 0 (w2.alloc (.cells #[.bool false,.bool false,.bool false,.bool false,.bool false,.bool false,.bool false,.bool false,.int .i64 0] 135))
   have q1:Below w2.heap.size w2 (w2.alloc (.cells #[.bool false,.bool false,.bool false,.bool false,.bool false,.bool false,.bool false,.bool false,.int .i64 0] 135)):=Go.Joins.below_alloc1 _ _
   exact ⟨(Blk.made w2 [.bool false,.bool false,.bool false,.bool false,.bool false,.bool false,.bool false,.bool false,.int .i64 0] 135).put rfl,q1.trans ⟨q.os,q.tape,q.output,q.size,fun j hj=>q.block j (Nat.lt_of_lt_of_le hj q1.size) (fun e=>by have:=Option.some.inj e;omega)⟩⟩
  have BV:Hid (BI W0 W A m k v (L++pgN lf 2 x n) u1 V):=(BN.out.grow hb2).grow HV.out.2
  clear hb2 BN
  rename_i hcont
  refine hcont _ _ ?_
  clear hcont
  iterate 3 go_step
  refine store_pat w2.heap.size 0 #[.bool bb,.bool b1,.bool b2,.bool b3,.bool b4,.bool b5,.bool b6,.bool b7,.int .i64 (yy:Nat)] rfl rfl (Blk.made w2 [.bool false,.bool false,.bool false,.bool false,.bool false,.bool false,.bool false,.bool false,.int .i64 0] 135).there (by kernel_rfl) (by simp [Value.oneCell']) ?_
  simp only [List.toList_toArray]
  rw [<- hV]
  clear hV
  go_upto_region 8 with fail
  have e0:V.cell? ⟨w2.heap.size,0,none⟩=some (.bool bb):=HV.out.1.cell 0
  have e8:V.cell? ⟨w2.heap.size,8,none⟩=some (.int .i64 (yy:Nat)):=HV.out.1.cell 8
  have lE:=HV.out.1.lt
  have BN:=BV
  clear BV HV
  generalize w2.heap.size=E at e0 e8 lE |-
  have HLn:Hid ((L++pgN lf 2 x n).length+(pg lf 2 (x*512+n)).length<=1000000):=by
   have a:=HL.out
   have b:(pgN lf 2 x n).length+(pg lf 2 (x*512+n)).length<=(pg lf 3 x).length:=pgN_next lf 2 x n n5
   show _<=_
   rw [List.length_append]
   omega
  cases bb with
  | false =>
   have HE:Hid (BI W0 W A m k v (L++pgN lf 2 x (n+1)) u1 V):=by
    rcases HY.out with q | q
    . rw [pgN_succ,q.2,List.append_nil];exact BN.out
    . cases q.1
   clear BN HY HLn
   go_wp2_with fail
   go_roundw
   case rel=>exact ⟨n+1,by omega,by go_num,HE⟩
   case measure=>simp [Go.RowKit.intOf];omega
  | true =>
   have HS:Hid (tab 2 (x*512+n)=some yy):=by
    rcases HY.out with q | q
    . cases q.1
    . rw [q.2.1];exact q.2.2
   have RX:=RC.out V n yy u1 _ HS.out BN.out.bel BN.out.own HLn.out
   rw [<- HPG.out] at RX
   have RX:Hid _:=RX
   have BX:=BN.out.box
   have c0:V.cell? ⟨A,0,none⟩=some (pp m.rb):=BX.cell 0
   have c1:V.cell? ⟨A,1,none⟩=some (pp m.b):=BX.cell 1
   have c2:V.cell? ⟨A,2,none⟩=some (pp m.tb):=BX.cell 2
   have c3:V.cell? ⟨A,3,none⟩=some (.int .i64 k):=BX.cell 3
   have lA:=BX.lt
   clear BX
   clear HY HS HLn
   go_wp2_with fail
   refine Calls.mono RX.out ?_
   rintro e w3 ⟨v',rfl,hG⟩
   have HE:Hid (BI W0 W A m k v (L++pgN lf 2 x (n+1)) v' w3):=by
    have q:=BN.out.step hG.own hG.lg
    show BI _ _ _ _ _ _ _ _ _
    rw [pgN_succ,<- List.append_assoc];exact q
   clear hG RX BN e0 e8 lE c0 c1 c2 c3 lA
   go_wp2_with fail
   go_roundw
   case rel=>exact ⟨n+1,by omega,by go_num,HE⟩
   case measure=>simp [Go.RowKit.intOf];omega
set_option maxHeartbeats 2000000 in
theorem below_4 {X:Nat->Prop} {W0:World} {m:Pm} {s:Ps} (h:Pu X W0 m s) {root:Nat} {tab:Nat->Nat->Option Nat} {lf:Nat->Option Lf} (H:PW s.M root tab lf) (ow: ∀ l x (f:Nat),tab l x=some f->m.has f=true) (k:Int) {x g:Nat} (hg:tab 4 x=some g) (W:World) (hb:Below W0.heap.size W0 W) (v:Value) (L:List Nat) (ho:Li.OI W W0.heap.size v (ints L)) (hl:L.length+(pg lf 4 x).length<=1000000) :
 Calls Tryz.prog 131 #[pv m k,v,.int .i64 g,.int .i64 ((x*68719476736:Nat):Int),.int .i64 4] W fun e w'=> ∃ v',e=.returned v'/\Grew W0 W lf v L 4 x v' w':=by
 have hb1:Below W.heap.size W (W.alloc (.cells #[pp m.rb,pp m.b,pp m.tb,.int .i64 k] 81)):=Go.Joins.below_alloc1 _ _
 have B0:Hid (BI W0 W W.heap.size m k v (L++pgN lf 3 x 0) v (W.alloc (.cells #[pp m.rb,pp m.b,pp m.tb,.int .i64 k] 81))):=by
  refine ⟨hb.trans (Go.Joins.below_le hb1 hb.size),Blk.made W [pp m.rb,pp m.b,pp m.tb,.int .i64 k] 81,?_,Lg.grow v hb1,fun e=> ?_⟩
  . rw [pgN_zero,List.append_nil];exact Li.row_below ho hb1
  . have:=(Li.row_lt ho _ e).2;omega
 have xb:x=0:=(H.dom 4 x g hg).2.2.1 rfl
 have GC:Hid (∀ (w:World) (n:Nat),n<512->Below W0.heap.size W0 w->Calls Tryz.prog 177 #[pv m k,.int .i64 g,.int .i64 n] w fun e w'=>e=.returned (unp (En s.M g n))/\Below w.heap.size w w'):=fun w n n5 hbw=>get_any (h.below hbw) k g n (ow _ _ _ hg) (by omega) (by omega)
 have AT:Hid (∀ n:Nat,n<512->n<256-> ∃ y,((bt (En s.M g n)=false/\pg lf 3 (x*512+n)=[])\/(bt (En s.M g n)=true/\nx (En s.M g n)=y/\tab 3 (x*512+n)=some y))):=fun n n5 nf=>by
  rcases H.at (l:=3) (by omega) (by omega) hg n5 (fun _=>nf) with ⟨e1,e2⟩ | ⟨f,e1,mk⟩
  . exact ⟨0,Or.inl ⟨by rw [e2];exact bt_zero,pg_none H (by omega) (by omega) e1⟩⟩
  . exact ⟨f,Or.inr ⟨mk.bt.1,mk.bt.2,e1⟩⟩
 have RC:Hid (∀ (w:World) (n y:Nat) (v:Value) (L:List Nat),tab 3 (x*512+n)=some y->Below W0.heap.size W0 w->Li.OI w W0.heap.size v (ints L)->L.length+(pg lf 3 (x*512+n)).length<=1000000->Calls Tryz.prog 131 #[pv m k,v,.int .i64 y,.int .i64 (((x*512+n)*134217728:Nat):Int),.int .i64 3] w fun e w'=> ∃ v',e=.returned v'/\Grew W0 w lf v L 3 (x*512+n) v' w'):=fun w n y v L e hb ho hl=>below_3 h H ow k e w hb v L ho hl
 have FAR:Hid (pgN lf 3 x 256=pg lf 4 x):=by subst xb;exact pgN_far H
 have HL:Hid (L.length+(pg lf 4 x).length<=1000000):=hl
 have PCy:Hid (∀ (p:Int),0<=p->p<34359738368-> ∀ w:World,Calls Tryz.prog 137 #[.int .i64 p] w fun e w'=>e=.returned (.bool true)/\w'=w):=fun p p0 p1 w=>page_any p true ⟨fun _=>⟨p0,p1⟩,fun _=>rfl⟩ w
 have PCn:Hid (∀ (p:Int),34359738368<=p-> ∀ w:World,Calls Tryz.prog 137 #[.int .i64 p] w fun e w'=>e=.returned (.bool false)/\w'=w):=fun p p1 w=>page_any p false ⟨fun e=>(by cases e),fun e=>by omega⟩ w
 clear h H ow hg hb ho hl hb1
 obtain ⟨fi,hfi⟩: ∃ fi:Int,fi=((x*68719476736:Nat):Int):=⟨_,rfl⟩
 have HF:Hid (fi=((x*68719476736:Nat):Int)):=hfi
 rw [<- hfi]
 have f0:0<=fi:=by omega
 have f1:fi<=0:=by omega
 clear hfi
 go_enter Tryz.func131,Tryz.ntmps131
 go_upto_region 1 with fail
 generalize (W.alloc (.cells #[pp m.rb,pp m.b,pp m.tb,.int .i64 k] 81))=W1 at B0 |-
 obtain ⟨A,hA⟩: ∃ A,W.heap.size=A:=⟨_,rfl⟩
 rw [hA] at B0 |-
 clear hA
 go_wp2_with fail
 go_loopw [1,11,12,13,14,39,43] (fun vf _ _ _ vi _ _ w=> ∃ n:Nat,n<=256/\vi=.int .i64 n/\Hid (BI W0 W A m k v (L++pgN lf 3 x n) vf w)) (fun _ _ _ _ vi _ _ _=>512-(Go.RowKit.intOf vi).toNat)
 case atStart=>exact ⟨0,by omega,rfl,B0⟩
 case round =>
  clear B0
  obtain ⟨n,hn,rfl,BN⟩:=hrel
  by_cases cn:n<256
  rotate_left
  . obtain rfl:n=256:=by omega
    have w1:IntKind.i64.wrap (fi+34359738368)=fi+34359738368:=by simp only [IntKind.wrap_i64];omega
    go_wp2_with fail
    refine Calls.mono (PCn.out _ (by omega) _) ?_
    rintro e w2 ⟨rfl,rfl⟩
    go_wp2_with fail
    go_returns
    have q:=BN.out.own
    rw [FAR.out] at q
    exact ⟨_,rfl,q,BN.out.lg⟩
  have n5:n<512:=by omega
  have d1:decide ((n:Int)<512)=true:=by simp;omega
  obtain ⟨y,hy⟩:=AT.out n n5 cn
  have GN:Hid _:=fun w hw=>GC.out w n n5 hw
  obtain ⟨z,hz⟩: ∃ z,En s.M g n=z:=⟨_,rfl⟩
  rw [hz] at GN hy
  obtain ⟨pgv,hpg⟩: ∃ pgv:Int,pgv=fi+(n:Int)*134217728:=⟨_,rfl⟩
  have p0:0<=pgv:=by omega
  have p1:pgv<34359738368:=by omega
  have w1:IntKind.i64.wrap ((n:Int)*134217728)=(n:Int)*134217728:=by simp only [IntKind.wrap_i64];omega
  have w2:IntKind.i64.wrap (fi+(n:Int)*134217728)=pgv:=by simp only [IntKind.wrap_i64];omega
  have HPG:Hid (pgv=(((x*512+n)*134217728:Nat):Int)):=by have q:=HF.out;show _=_;omega
  have HPF:Hid (pgv=fi+(n:Int)*134217728):=by show _=_;omega
  clear hpg hz
  go_upto_region 5 with fail
  skip
  clear HPF
  go_wp2_with fail
  refine Calls.mono (PCy.out pgv p0 p1 wr) ?_
  rintro e w0' ⟨rfl,hw0⟩
  have hw1:=hw0.symm
  subst hw1
  clear hw0
  clear w1 w2
  have BX:=BN.out.box
  have c0:wr.cell? ⟨A,0,none⟩=some (pp m.rb):=BX.cell 0
  have c1:wr.cell? ⟨A,1,none⟩=some (pp m.b):=BX.cell 1
  have c2:wr.cell? ⟨A,2,none⟩=some (pp m.tb):=BX.cell 2
  have c3:wr.cell? ⟨A,3,none⟩=some (.int .i64 k):=BX.cell 3
  have lA:=BX.lt
  clear BX
  obtain ⟨b1,b2,b3,b4,b5,b6,b7,hu⟩: ∃ b1 b2 b3 b4 b5 b6 b7,unp z=.agg #[.bool (bt z),.bool b1,.bool b2,.bool b3,.bool b4,.bool b5,.bool b6,.bool b7,.int .i64 (nx z:Nat)]:=⟨_,_,_,_,_,_,_,by unfold unp;rw [nx_cast]⟩
  have GX:=GN.out wr BN.out.bel
  rw [hu] at GX
  obtain ⟨yy,hyy⟩: ∃ yy:Nat,nx z=yy:=⟨_,rfl⟩
  obtain ⟨bb,hbb⟩: ∃ bb:Bool,bt z=bb:=⟨_,rfl⟩
  rw [hyy,hbb] at GX hy
  have HY:Hid _:=hy
  have GX:Hid _:=GX
  clear hu hyy hbb hy GN
  go_wp2_with fail
  refine Calls.mono GX.out ?_
  rintro e w2 ⟨rfl,hb2⟩
  clear c0 c1 c2 c3 lA GX
  obtain ⟨V,hV⟩: ∃ V,V=(w2.alloc (.cells #[.bool false,.bool false,.bool false,.bool false,.bool false,.bool false,.bool false,.bool false,.int .i64 0] 135)).setCells w2.heap.size 0 [.bool bb,.bool b1,.bool b2,.bool b3,.bool b4,.bool b5,.bool b6,.bool b7,.int .i64 (yy:Nat)]:=⟨_,rfl⟩
  have HV:Hid (Blk V w2.heap.size [.bool bb,.bool b1,.bool b2,.bool b3,.bool b4,.bool b5,.bool b6,.bool b7,.int .i64 (yy:Nat)] 135/\Below w2.heap.size w2 V):=by
   rw [hV]
   have q:=Qu.grown_setCells w2.heap.size [.bool bb,.bool b1,.bool b2,.bool b3,.bool b4,.bool b5,.bool b6,.bool b7,.int .i64 (yy:Nat)] 0 (w2.alloc (.cells #[.bool false,.bool false,.bool false,.bool false,.bool false,.bool false,.bool false,.bool false,.int .i64 0] 135))
   have q1:Below w2.heap.size w2 (w2.alloc (.cells #[.bool false,.bool false,.bool false,.bool false,.bool false,.bool false,.bool false,.bool false,.int .i64 0] 135)):=Go.Joins.below_alloc1 _ _
   exact ⟨(Blk.made w2 [.bool false,.bool false,.bool false,.bool false,.bool false,.bool false,.bool false,.bool false,.int .i64 0] 135).put rfl,q1.trans ⟨q.os,q.tape,q.output,q.size,fun j hj=>q.block j (Nat.lt_of_lt_of_le hj q1.size) (fun e=>by have:=Option.some.inj e;omega)⟩⟩
  have BV:Hid (BI W0 W A m k v (L++pgN lf 3 x n) u1 V):=(BN.out.grow hb2).grow HV.out.2
  clear hb2 BN
  rename_i hcont
  refine hcont _ _ ?_
  clear hcont
  iterate 3 go_step
  refine store_pat w2.heap.size 0 #[.bool bb,.bool b1,.bool b2,.bool b3,.bool b4,.bool b5,.bool b6,.bool b7,.int .i64 (yy:Nat)] rfl rfl (Blk.made w2 [.bool false,.bool false,.bool false,.bool false,.bool false,.bool false,.bool false,.bool false,.int .i64 0] 135).there (by kernel_rfl) (by simp [Value.oneCell']) ?_
  simp only [List.toList_toArray]
  rw [<- hV]
  clear hV
  go_upto_region 8 with fail
  have e0:V.cell? ⟨w2.heap.size,0,none⟩=some (.bool bb):=HV.out.1.cell 0
  have e8:V.cell? ⟨w2.heap.size,8,none⟩=some (.int .i64 (yy:Nat)):=HV.out.1.cell 8
  have lE:=HV.out.1.lt
  have BN:=BV
  clear BV HV
  generalize w2.heap.size=E at e0 e8 lE |-
  have HLn:Hid ((L++pgN lf 3 x n).length+(pg lf 3 (x*512+n)).length<=1000000):=by
   have a:=HL.out
   have b:(pgN lf 3 x n).length+(pg lf 3 (x*512+n)).length<=(pg lf 4 x).length:=pgN_next lf 3 x n n5
   show _<=_
   rw [List.length_append]
   omega
  cases bb with
  | false =>
   have HE:Hid (BI W0 W A m k v (L++pgN lf 3 x (n+1)) u1 V):=by
    rcases HY.out with q | q
    . rw [pgN_succ,q.2,List.append_nil];exact BN.out
    . cases q.1
   clear BN HY HLn
   go_wp2_with fail
   go_roundw
   case rel=>exact ⟨n+1,by omega,by go_num,HE⟩
   case measure=>simp [Go.RowKit.intOf];omega
  | true =>
   have HS:Hid (tab 3 (x*512+n)=some yy):=by
    rcases HY.out with q | q
    . cases q.1
    . rw [q.2.1];exact q.2.2
   have RX:=RC.out V n yy u1 _ HS.out BN.out.bel BN.out.own HLn.out
   rw [<- HPG.out] at RX
   have RX:Hid _:=RX
   have BX:=BN.out.box
   have c0:V.cell? ⟨A,0,none⟩=some (pp m.rb):=BX.cell 0
   have c1:V.cell? ⟨A,1,none⟩=some (pp m.b):=BX.cell 1
   have c2:V.cell? ⟨A,2,none⟩=some (pp m.tb):=BX.cell 2
   have c3:V.cell? ⟨A,3,none⟩=some (.int .i64 k):=BX.cell 3
   have lA:=BX.lt
   clear BX
   clear HY HS HLn
   go_wp2_with fail
   refine Calls.mono RX.out ?_
   rintro e w3 ⟨v',rfl,hG⟩
   have HE:Hid (BI W0 W A m k v (L++pgN lf 3 x (n+1)) v' w3):=by
    have q:=BN.out.step hG.own hG.lg
    show BI _ _ _ _ _ _ _ _ _
    rw [pgN_succ,<- List.append_assoc];exact q
   clear hG RX BN e0 e8 lE c0 c1 c2 c3 lA
   go_wp2_with fail
   go_roundw
   case rel=>exact ⟨n+1,by omega,by go_num,HE⟩
   case measure=>simp [Go.RowKit.intOf];omega
end Go.Proofs.YtajfbieacfjhnaaGreatDoor.Tt
namespace Go.Proofs.YtajfbieacfjhnaaGreatDoor.Tt
set_option linter.unusedSimpArgs false
set_option linter.unusedVariables false
set_option maxRecDepth 8000
end Go.Proofs.YtajfbieacfjhnaaGreatDoor.Tt
namespace Go.Proofs.YtajfbieacfjhnaaGreatDoor.Tt
open Go.ChangeShapes Go.WideShapes Go.ChangeAt Go.RowKit Go.Maps
set_option linter.unusedSimpArgs false
set_option linter.unusedVariables false
set_option maxRecDepth 8000
theorem give_cnt {s:Ps} (k p:Nat) (hp:p<1000000) (hf: ¬ s.Fr p):Bd.cnt (giveS s k p).Fr 1048576=Bd.cnt s.Fr 1048576+1:=by
 show Bd.cnt (fun i=>s.Fr i\/i=p) 1048576=_
 rw [Bd.cnt_or s.Fr (fun i=>i=p) (fun i h e=>hf (by rw [<- e];exact h))]
 have e1:Bd.cnt (fun i=>i=p) 1048576=1:=by
  have b:=Bd.cnt_blk (o:=0) (q:=p) (M:=1048576) (by simp;omega)
  simpa using b
 rw [e1]
theorem Nums.give {m:Pm} {s:Ps} {k:Nat} {r u:Int} {f:Nat} (h:Nums m s k r u f) {p:Nat} (hp:p<1000000) (hf: ¬ s.Fr p) (M:Int->Int) (q:Nat):Nums m { giveS s k p with M:=M,q:=q } k (r+1) (u-1) (f+1):=by
 have e:usedT s.T k (-1) k=(s.T k).plus (-1):=used_at _ _ _
 refine ⟨h.k6,?_,?_,?_,?_⟩
 . show (usedT s.T k (-1) k).live=true
   rw [e];exact h.live
 . show (usedT s.T k (-1) k).room=_
   rw [e]
   have q:=h.room
   have q':(s.T k).quota-(s.T k).used-(s.T k).lent=r:=q
   show (s.T k).quota-((s.T k).used+ -1)-(s.T k).lent=r+1
   omega
 . show (usedT s.T k (-1) k).used=_
   rw [e]
   have q:=h.used
   show (s.T k).used+ -1=u-1
   omega
 . have q:=give_cnt (s:=s) k p hp hf
   have:=h.free
   show Bd.cnt (giveS s k p).Fr 1048576=f+1
   omega
end Go.Proofs.YtajfbieacfjhnaaGreatDoor.Tt
namespace Go.Proofs.YtajfbieacfjhnaaGreatDoor.Tt
open Go.ChangeShapes Go.WideShapes Go.ChangeAt Go.RowKit Go.Maps
set_option linter.unusedSimpArgs false
set_option linter.unusedVariables false
set_option maxRecDepth 8000
def frL (l:Nat) (P:List Nat) (p:Nat):Nat:=if P.any (fun q=>pre l q==pre l p) then 0 else 1
def fresh (P:List Nat) (p:Nat):Nat:=frL 1 P p+frL 2 P p+frL 3 P p
def tabsN:List Nat->Nat
 | [] => 1
 | p :: P => tabsN P + fresh P p
theorem frL_zero {l:Nat} {P:List Nat} {p q:Nat} (hq:q∈P) (e:pre l q=pre l p):frL l P p=0:=by
 unfold frL
 rw [if_pos]
 rw [List.any_eq_true]
 exact ⟨q,hq,by simp [e]⟩
theorem frL_one {l:Nat} {P:List Nat} {p:Nat} (h: ∀ q∈P,pre l q≠pre l p):frL l P p=1:=by
 unfold frL
 rw [if_neg]
 intro e
 rw [List.any_eq_true] at e
 obtain ⟨q,hq,e⟩:=e
 exact h q hq (by simpa using e)
theorem frL_or (l:Nat) (P:List Nat) (p:Nat):(frL l P p=0/\ ∃ q∈P,pre l q=pre l p)\/(frL l P p=1/\ ∀ q∈P,pre l q≠pre l p):=by
 by_cases c: ∃ q∈P,pre l q=pre l p
 . obtain ⟨q,hq,e⟩:=c
   exact Or.inl ⟨frL_zero hq e,q,hq,e⟩
 . have h: ∀ q∈P,pre l q≠pre l p:=fun q hq e=>c ⟨q,hq,e⟩
   exact Or.inr ⟨frL_one h,h⟩
theorem frL_mem {l:Nat} {P P':List Nat} {p:Nat} (h: ∀ q,q∈P↔q∈P'):frL l P p=frL l P' p:=by
 rcases frL_or l P p with ⟨e,q,hq,eq⟩ | ⟨e,hn⟩
 . rw [e,frL_zero ((h q).1 hq) eq]
 . rw [e,frL_one (fun q hq=>hn q ((h q).2 hq))]
theorem fresh_mem {P P':List Nat} {p:Nat} (h: ∀ q,q∈P↔q∈P'):fresh P p=fresh P' p:=by
 unfold fresh;rw [frL_mem h,frL_mem h,frL_mem h]
theorem frL_swap (l p q:Nat) (P:List Nat):frL l P q+frL l (q::P) p=frL l P p+frL l (p::P) q:=by
 by_cases c:pre l p=pre l q
 . rw [frL_zero (q:=q) List.mem_cons_self c.symm,frL_zero (q:=p) (p:=q) List.mem_cons_self c]
   have:frL l P p=frL l P q:=by unfold frL;rw [c]
   omega
 . have h1:frL l (q::P) p=frL l P p:=by
    unfold frL;rw [List.any_cons]
    have:(pre l q==pre l p)=false:=by simp;exact fun e=>c e.symm
    rw [this,Bool.false_or]
   have h2:frL l (p::P) q=frL l P q:=by
    unfold frL;rw [List.any_cons]
    have:(pre l p==pre l q)=false:=by simp;exact c
    rw [this,Bool.false_or]
   omega
theorem tabs_perm {P P':List Nat} (h:P.Perm P'):tabsN P=tabsN P':=by
 induction h with
 | nil => rfl
 | cons p h ih =>
  show tabsN _+fresh _ p=tabsN _+fresh _ p
  rw [ih,fresh_mem (fun q=>h.mem_iff)]
 | swap p q P =>
  show tabsN P+fresh P p+fresh (p::P) q=tabsN P+fresh P q+fresh (q::P) p
  have a:=frL_swap 1 p q P
  have b:=frL_swap 2 p q P
  have c:=frL_swap 3 p q P
  unfold fresh
  omega
 | trans _ _ a b => exact a.trans b
abbrev pgs (lf:Nat->Option Lf):List Nat:=pg lf 4 0
section
variable {M:Int->Int} {root:Nat} {tab:Nat->Nat->Option Nat} {lf:Nat->Option Lf}
theorem PW.mem (H:PW M root tab lf) (p:Nat):p∈pgs lf↔(lf p).isSome=true:=by
 rw [mem_pg]
 constructor
 . exact fun h=>h.2
 . intro h
   obtain ⟨v,hv⟩:=Option.isSome_iff_exists.1 h
   exact ⟨pre4 (H.lf1 p v hv).1,h⟩
theorem pgs_nodup (lf:Nat->Option Lf):(pgs lf).Nodup:=(pg_rising lf 4 0).imp (fun h=>Nat.ne_of_lt h)
theorem PW.has (H:PW M root tab lf) {q:Nat} (h:(lf q).isSome=true) {l:Nat} (l1:1<=l) (l3:l<=3): ∃ f,tab l (pre l q)=some f:=by
 obtain ⟨v,hv⟩:=Option.isSome_iff_exists.1 h
 obtain ⟨_,g,hg,_⟩:=H.lf1 q v hv
 have t1:tab 1 (pre 1 q)=some g:=hg
 obtain ⟨g2,t2,_⟩:=H.up 1 _ g (by omega) t1
 have t2':tab 2 (pre 2 q)=some g2:=t2
 obtain ⟨g3,t3,_⟩:=H.up 2 _ g2 (by omega) t2'
 have t3':tab 3 (pre 3 q)=some g3:=t3
 rcases (show l=1\/l=2\/l=3 by omega) with rfl | rfl | rfl
 . exact ⟨g,t1⟩
 . exact ⟨g2,t2'⟩
 . exact ⟨g3,t3'⟩
theorem PW.frL (H:PW M root tab lf) (F:Full tab lf) (p:Nat) {l:Nat} (l1:1<=l) (l3:l<=3):(tab l (pre l p)=none/\frL l (pgs lf) p=1)\/((∃ f,tab l (pre l p)=some f)/\frL l (pgs lf) p=0):=by
 cases c:tab l (pre l p) with
 | none =>
  refine Or.inl ⟨rfl,frL_one (fun q hq e=> ?_)⟩
  obtain ⟨f,hf⟩:=H.has ((H.mem q).1 hq) l1 l3
  rw [e,c] at hf;cases hf
 | some f =>
  refine Or.inr ⟨⟨f,rfl⟩,?_⟩
  obtain ⟨q,hq,e⟩:=F l _ f (by omega) c
  exact frL_zero ((H.mem q).2 hq) e
theorem PW.miss (H:PW M root tab lf) (F:Full tab lf) (p:Nat):miss tab p=fresh (pgs lf) p:=by
 have n32:tab 3 (pre 3 p)=none->tab 2 (pre 2 p)=none:=fun h=>none_below H 1 2 (by omega) (by omega) h
 have n21:tab 2 (pre 2 p)=none->tab 1 (pre 1 p)=none:=fun h=>none_below H 1 1 (by omega) (by omega) h
 unfold Tt.miss fresh
 rcases H.frL F p (l:=1) (by omega) (by omega) with ⟨a1,b1⟩ | ⟨⟨f1,a1⟩,b1⟩ <;>
 rcases H.frL F p (l:=2) (by omega) (by omega) with ⟨a2,b2⟩ | ⟨⟨f2,a2⟩,b2⟩ <;>
 rcases H.frL F p (l:=3) (by omega) (by omega) with ⟨a3,b3⟩ | ⟨⟨f3,a3⟩,b3⟩ <;>
 rw [b1,b2,b3] <;> simp [a1,a2,a3]
 . have:=n32 a3;rw [a2] at this;cases this
 . have:=n21 a2;rw [a1] at this;cases this
 . have:=n21 a2;rw [a1] at this;cases this
 . have:=n32 a3;rw [a2] at this;cases this
theorem pgs_more (H:PW M root tab lf) {M':Int->Int} {tab':Nat->Nat->Option Nat} {p:Nat} {v:Lf} (h:lf p=none) (H':PW M' root tab' (lfSet lf p (some v))):(pgs (lfSet lf p (some v))).Perm (p::pgs lf):=by
 refine (List.perm_ext_iff_of_nodup (pgs_nodup _) (List.nodup_cons.2 ⟨fun e=> ?_,pgs_nodup _⟩)).2 (fun q=> ?_)
 . have:=(H.mem p).1 e;rw [h] at this;cases this
 . rw [H'.mem,List.mem_cons,H.mem]
   by_cases c:q=p
   . subst c;rw [lf_same];simp
   . rw [lf_other c];simp [c]
end
theorem pgs_none:pgs (fun _=>none)=[]:=by
 apply List.eq_nil_iff_forall_not_mem.2
 intro p hp
 have:=((mem_pg _ p 4 0).1 hp).2
 cases this
end Go.Proofs.YtajfbieacfjhnaaGreatDoor.Tt
namespace Go.Proofs.YtajfbieacfjhnaaGreatDoor.Tt
open Go.ChangeShapes Go.WideShapes Go.ChangeAt Go.RowKit Go.Maps
set_option linter.unusedSimpArgs false
set_option linter.unusedVariables false
set_option maxRecDepth 8000
end Go.Proofs.YtajfbieacfjhnaaGreatDoor.Tt
namespace Go.Proofs.YtajfbieacfjhnaaGreatDoor.Tt
open Go.ChangeShapes Go.WideShapes Go.ChangeAt Go.RowKit Go.Maps
set_option linter.unusedSimpArgs false
set_option linter.unusedVariables false
set_option maxRecDepth 8000
end Go.Proofs.YtajfbieacfjhnaaGreatDoor.Tt
namespace Go.Proofs.YtajfbieacfjhnaaGreatDoor.Tt
open Go.ChangeShapes Go.WideShapes Go.ChangeAt Go.RowKit Go.Maps
set_option linter.unusedSimpArgs false
set_option linter.unusedVariables false
set_option maxRecDepth 8000
end Go.Proofs.YtajfbieacfjhnaaGreatDoor.Tt
namespace Go.Proofs.YtajfbieacfjhnaaGreatDoor.Tt
open Go.ChangeShapes Go.WideShapes Go.ChangeAt Go.RowKit Go.Maps
set_option linter.unusedSimpArgs false
set_option linter.unusedVariables false
set_option maxRecDepth 8000
structure Listed (W w':World) (L:List Nat) (pf:Option Addr) (n cf:Nat):Prop where
 own:Li.OI w' W.heap.size (.slice pf n cf) (ints L)
 len:n=L.length
 bel:Below W.heap.size W w'
set_option maxHeartbeats 1000000 in
theorem pages_any {X:Nat->Prop} {W:World} {m:Pm} {s:Ps} (h:Pu X W m s) {root:Nat} {tab:Nat->Nat->Option Nat} {lf:Nat->Option Lf} (H:Rt m s root tab lf) (k:Int) (hl:(pgs lf).length<=1000000) :
 Calls Tryz.prog 81 #[pv m k,.int .i64 root] W fun e w'=> ∃ (pf:Option Addr) (n cf:Nat),e=.returned (.slice pf n cf)/\Listed W w' (pgs lf) pf n cf:=by
 have hb1:Below W.heap.size W (W.alloc (.cells #[pp m.rb,pp m.b,pp m.tb,.int .i64 k] 81)):=Go.Joins.below_alloc1 _ _
 have BC:Hid (Calls Tryz.prog 131 #[pv m k,.slice none 0 0,.int .i64 root,.int .i64 0,.int .i64 4] (W.alloc (.cells #[pp m.rb,pp m.b,pp m.tb,.int .i64 k] 81)) fun e w'=> ∃ (pf:Option Addr) (n cf:Nat),e=.returned (.slice pf n cf)/\Listed W w' (pgs lf) pf n cf):=by
  refine (below_4 h H.pw (fun l x f e=>(H.ow l x f e).1) k H.pw.t4 _ hb1 (.slice none 0 0) [] (Li.ol_none _ _ _ _ _) (by simpa using hl)).mono ?_
  rintro e w' ⟨v',rfl,ho,hg⟩
  rw [List.nil_append] at ho
  obtain ⟨p,c,hv,_⟩:=(Li.ol_ll Li.eI_len ho).form
  rw [List.length_map] at hv
  subst hv
  exact ⟨p,_,c,rfl,ho,rfl,hg.below (Li.ol_none _ _ _ _ _) hb1⟩
 clear h H hl hb1
 go_enter Tryz.func81,Tryz.ntmps81
 go_wp2_with fail
 refine Calls.mono BC.out ?_
 rintro e w1 ⟨pf,n,cf,rfl,hL⟩
 have HL:Hid (Listed W w1 (pgs lf) pf n cf):=hL
 clear hL BC
 go_wp2_with fail
 go_returns
 exact ⟨pf,n,cf,rfl,HL.out⟩
set_option maxHeartbeats 1000000 in
theorem drop_ok {X:Nat->Prop} {W:World} {m:Pm} {s:Ps} (h:Pu X W m s) {root:Nat} {tab:Nat->Nat->Option Nat} {lf:Nat->Option Lf} (H:Rt m s root tab lf) (k:Nat) (em:pgs lf=[]) (k6:k<64) (hl:(s.T k).live=true) (hu:1<=(s.T k).used) :
 Calls Tryz.prog 34 #[pv m k,.int .i64 root] W fun e w'=>e=.returned (.int .i64 0)/\Pu X w' m (giveS s k root)/\Kx X W w':=by
 have hb1:Below W.heap.size W (W.alloc (.cells #[pp m.rb,pp m.b,pp m.tb,.int .i64 k] 81)):=Go.Joins.below_alloc1 _ _
 have BA:Hid (Blk (W.alloc (.cells #[pp m.rb,pp m.b,pp m.tb,.int .i64 k] 81)) W.heap.size [pp m.rb,pp m.b,pp m.tb,.int .i64 k] 81):=Blk.made W [pp m.rb,pp m.b,pp m.tb,.int .i64 k] 81
 have PC:Hid (Calls Tryz.prog 81 #[pv m k,.int .i64 root] (W.alloc (.cells #[pp m.rb,pp m.b,pp m.tb,.int .i64 k] 81)) fun e w'=> ∃ (pf:Option Addr) (cf:Nat),e=.returned (.slice pf 0 cf)/\Below W.heap.size W w'/\Blk w' W.heap.size [pp m.rb,pp m.b,pp m.tb,.int .i64 k] 81):=by
  refine (pages_any (h.below hb1) H k (by rw [em];simp)).mono ?_
  rintro e w' ⟨pf,n,cf,rfl,hL⟩
  have e0:n=0:=by rw [hL.len,em];rfl
  subst e0
  exact ⟨pf,cf,rfl,below_then hb1 hL.bel,BA.out.below hL.bel⟩
 have t4:=H.ow _ _ _ H.pw.t4
 have GC:Hid (∀ w:World,Below W.heap.size W w->Calls Tryz.prog 79 #[pv m k,.int .i64 root] w fun e w'=>e=.returned (.tuple #[])/\Pu X w' m (giveS s k root)/\Kx X W w'):=fun w hb=>by
  refine (give_any (h.below hb) k root k6 hl hu t4.2.1 t4.2.2).mono ?_
  rintro e w' ⟨he,hp,hk⟩
  exact ⟨he,hp,(Kx.of_below h hb).trans hk⟩
 clear h H hl hb1 em t4 k6 hu BA
 generalize giveS s k root=s2 at GC |-
 go_enter Tryz.func34,Tryz.ntmps34
 go_wp2_with fail
 refine Calls.mono PC.out ?_
 rintro e w1 ⟨pf,cf,rfl,hb,hbk⟩
 have HL:Hid (Below W.heap.size W w1):=hb
 have c0:w1.cell? ⟨W.heap.size,0,none⟩=some (pp m.rb):=hbk.cell 0
 have c1:w1.cell? ⟨W.heap.size,1,none⟩=some (pp m.b):=hbk.cell 1
 have c2:w1.cell? ⟨W.heap.size,2,none⟩=some (pp m.tb):=hbk.cell 2
 have c3:w1.cell? ⟨W.heap.size,3,none⟩=some (.int .i64 k):=hbk.cell 3
 have lA:=hbk.lt
 clear hb PC hbk
 go_wp2_with fail
 refine Calls.mono (GC.out w1 HL.out) ?_
 rintro e w2 ⟨rfl,hp2⟩
 have H2:Hid (Pu X w2 m s2/\Kx X W w2):=hp2
 clear hp2
 go_wp2_with fail
 go_returns
 exact ⟨rfl,H2.out⟩
end Go.Proofs.YtajfbieacfjhnaaGreatDoor.Tt
namespace Go.Proofs.YtajfbieacfjhnaaGreatDoor.Tt
open Go.ChangeShapes Go.WideShapes Go.ChangeAt Go.RowKit Go.Maps
set_option linter.unusedSimpArgs false
set_option linter.unusedVariables false
set_option maxRecDepth 8000
end Go.Proofs.YtajfbieacfjhnaaGreatDoor.Tt
namespace Go.Proofs.YtajfbieacfjhnaaGreatDoor.Tt
open Go.ChangeShapes Go.WideShapes Go.ChangeAt Go.RowKit Go.Maps
set_option linter.unusedSimpArgs false
set_option linter.unusedVariables false
set_option maxRecDepth 8000
structure St (X:Nat->Prop) (m:Pm) (root k:Nat) (R U:Int) (F:Nat) (s:Ps) (tab:Nat->Nat->Option Nat) (lf:Nat->Option Lf) (w:World):Prop where
 pu:Pu X w m s
 rt:Rt m s root tab lf
 nm:Nums m s k (R-tabsN (pgs lf)) (U+tabsN (pgs lf)) (F-tabsN (pgs lf))
 tF:tabsN (pgs lf)<=F
section
variable {X:Nat->Prop} {m:Pm} {root k:Nat} {R U:Int} {F:Nat} {s:Ps} {tab:Nat->Nat->Option Nat} {lf:Nat->Option Lf} {W:World}
structure Apt (s s':Ps) (tab tab':Nat->Nat->Option Nat):Prop where
 oth: ∀ f:Nat,(∀ l x,tab l x≠some f)-> ¬ s.Fr f->s'.G f=s.G f/\ ¬ s'.Fr f/\ ∀ j:Nat,j<512->En s'.M f j=En s.M f j
 new: ∀ l x f,tab' l x=some f->tab l x=some f\/s.Fr f
 hi: ∀ f:Nat,tab 4 0=some f-> ∀ j:Nat,256<=j->j<512->En s'.M f j=En s.M f j
def Prs (s s':Ps):Prop:=(∀ i:Nat,(s'.Fr i\/(s'.G i).isSome=true)↔(s.Fr i\/(s.G i).isSome=true))/\(∀ x,(s'.G x).isSome=true->s'.G x=some 0\/s'.G x=s.G x)/\ ∀ k,(s'.T k).live=(s.T k).live
theorem prs_take {s:Ps} {L:List Nat} (IN:InL s L) (k:Nat) (M:Int->Int) (q:Nat):Prs s { takeS s k L with M:=M,q:=q }:=by
 refine ⟨fun i=> ?_,fun x hx=> ?_,fun j=> ?_⟩
 . show ((s.Fr i/\i∉L)\/(if 0<=(i:Int)/\(i:Int).toNat∈L then some 0 else s.G i).isSome=true)↔_
   by_cases c:i∈L
   . rw [if_pos ⟨by omega,by simpa using c⟩]
     exact ⟨fun _=>Or.inl (IN.2 i c),fun _=>Or.inr rfl⟩
   . rw [if_neg (by rintro ⟨_,q⟩;exact c (by simpa using q))]
     exact ⟨fun h=>h.elim (fun a=>Or.inl a.1) Or.inr,fun h=>h.elim (fun a=>Or.inl ⟨a,c⟩) Or.inr⟩
 . show (if 0<=x/\x.toNat∈L then some 0 else s.G x)=some 0\/(if 0<=x/\x.toNat∈L then some 0 else s.G x)=s.G x
   split
   . exact Or.inl rfl
   . exact Or.inr rfl
 . show (Qu.putT s.T k ((s.T k).plus L.length) j).live=_
   by_cases c:j=k
   . subst c;rw [Qu.put_same];rfl
   . rw [Qu.put_other _ _ _ _ c]
theorem Prs.trans {s t u:Ps} (h:Prs s t) (k:Prs t u):Prs s u:=⟨fun i=>(k.1 i).trans (h.1 i),fun x hx=>by
 rcases k.2.1 x hx with e | e
 . exact Or.inl e
 . rcases h.2.1 x (by rw [<- e];exact hx) with f | f
   . exact Or.inl (e.trans f)
   . exact Or.inr (e.trans f),fun j=>(k.2.2 j).trans (h.2.2 j)⟩
def StTo3 (X:Nat->Prop) (m:Pm) (root k:Nat) (R U:Int) (F:Nat) (s:Ps) (tab:Nat->Nat->Option Nat) (lf':Nat->Option Lf) (W w':World):Prop :=
 ∃ (s':Ps) (tab':Nat->Nat->Option Nat),St X m root k R U F s' tab' lf' w'/\s'.q<=s.q+10/\Apt s s' tab tab'/\Prs s s'/\Kx X W w'
theorem St.map_ok (h:St X m root k R U F s tab lf W) (hF:R<=F\/10+tabsN (pgs lf)<=F) (hq:s.q<4000000000000000000) (p:Nat) (hp:p<34359738368) (fr:Int) (hfr:0<=fr/\fr<1048576) (pa pb pc:Bool) (ht:lf p=none) (hr:(tabsN (pgs lf)+fresh (pgs lf) p:Nat)<=R) :
 Calls Tryz.prog 89 #[pv m k,.int .i64 root,.int .i64 p,.int .i64 fr,.agg #[.bool pa,.bool pb,.bool pc]] W fun e w'=>e=.returned (.int .i64 0)/\StTo3 X m root k R U F s tab (lfSet lf p (some ⟨fr,pa,pb,pc⟩)) W w':=by
 have tF:=h.tF
 have ms:=h.rt.pw.miss h.rt.fu p
 refine (Tt.map_ok h.pu h.rt k (h.nm.box (by omega)) p hp fr hfr pa pb pc ht hq (by rw [h.nm.room,ms];omega)).mono ?_
 rintro e w' ⟨rfl,Lm,M6,tab6,hl6,IN6,hp6,hk6,pw6,fu6,new6,oth6,hi6⟩
 have N6:=h.nm.take h.pu.so IN6 M6 (s.q+10)
 have R6:=rt_mapped (k:=k) (q:=s.q+10) h.pu.so h.rt IN6 pw6 fu6 new6
 have pm:=pgs_more h.rt.pw ht pw6
 have tt:tabsN (pgs (lfSet lf p (some ⟨fr,pa,pb,pc⟩)))=tabsN (pgs lf)+fresh (pgs lf) p:=(tabs_perm pm).trans rfl
 have cn:=take_cnt h.pu.so k IN6
 have cf:=h.nm.free
 rw [hl6,ms] at N6
 rw [hl6,ms] at cn
 refine ⟨rfl,_,tab6,⟨hp6,R6,?_,by omega⟩,?_,⟨fun f hf hn=> ?_,fun l x f e=> ?_,fun f e j h1 hj=> ?_⟩,prs_take IN6 _ _ _,hk6⟩
 . rw [tt,show R-((tabsN (pgs lf)+fresh (pgs lf) p:Nat):Int)=R-(tabsN (pgs lf):Int)-(fresh (pgs lf) p:Int) by omega,show U+((tabsN (pgs lf)+fresh (pgs lf) p:Nat):Int)=U+(tabsN (pgs lf):Int)+(fresh (pgs lf) p:Int) by omega,show F-(tabsN (pgs lf)+fresh (pgs lf) p)=F-tabsN (pgs lf)-fresh (pgs lf) p by omega]
   exact N6
 . show s.q+10<=_;omega
 . have nl:f∉Lm:=fun q=>hn (IN6.2 f q)
   refine ⟨?_,fun q=>hn q.1,fun j hj=>oth6 f hf nl j hj⟩
   show (if 0<=(f:Int)/\(f:Int).toNat∈Lm then some 0 else s.G f)=s.G f
   rw [if_neg]
   rintro ⟨_,q⟩
   exact nl (by simpa using q)
 . rcases new6 l x f e with q | q
   . exact Or.inl q
   . exact Or.inr (IN6.2 f q)
 . rw [h.rt.pw.t4] at e;cases e;exact hi6 j h1 hj
end
end Go.Proofs.YtajfbieacfjhnaaGreatDoor.Tt
