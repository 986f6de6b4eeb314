import Derived.Test.YtajfbieacfjhnaaGreatDoorAAc
import Derived.Test.YtajfbieacfjhnaaGreatDoorMUc
import Derived.Test.YtajfbieacfjhnaaGreatDoorKZc
import Derived.Shelf.SlSortCmp.WholeK
import Derived.Shelf.SlSortCmp.NoneTotal
import Derived.Ground.SlsfProg
namespace Go.Proofs.YtajfbieacfjhnaaGreatDoor.Au
open Go.ChangeShapes Go.WideShapes Go.ChangeAt Go.RowKit Go.Maps
open Go.Proofs.YtajfbieacfjhnaaGreatDoor.Tt
set_option linter.unusedSimpArgs false
set_option linter.unusedVariables false
set_option maxRecDepth 8000
theorem asc_nd {K:List Int} (k:Bd.Asc K):Bd.Nd K:=fun i j x ij e1 e2=>by
 have h: ∀ i j x,i<j->K[i]? =some x->K[j]? =some x->False:=fun i j x l e1 e2=>by
  obtain ⟨h1,g1⟩:=List.getElem?_eq_some_iff.1 e1
  obtain ⟨h2,g2⟩:=List.getElem?_eq_some_iff.1 e2
  have:=List.pairwise_iff_getElem.1 k i j h1 h2 l
  rw [g1,g2] at this
  omega
 rcases Nat.lt_or_gt_of_ne ij with c | c
 . exact h i j x c e1 e2
 . exact h j i x c e2 e1
theorem cnt_keys {F:Nat->Prop} {L:List Int} (hB:Bd.Bnd F) (a:Bd.Asc L) (h: ∀ x:Int,x∈L↔ ∃ j:Nat,x=(j:Int)/\F j):L.length=Bd.cnt F 1048576:=by
 have e:=Bd.cnt_list 0 1048576 L (asc_nd a) (fun x hx=>by
  obtain ⟨j,e,f⟩:=(h x).1 hx
  have:=hB j f
  exact ⟨j,by rw [e];simp,by simp;omega⟩)
 have e2:Bd.inL 0 L=F:=by
  funext i;apply propext
  constructor
  . rintro ⟨x,hx,q,hq,hi⟩
    obtain ⟨j,e,f⟩:=(h x).1 hx
    have:i=j:=by simp at hi hq;omega
    rw [this];exact f
  . intro f
    exact ⟨(i:Int),(h _).2 ⟨i,rfl,f⟩,i,by simp,by simp⟩
 rw [e2] at e
 rw [e];simp
def blkR (k:Nat) (a:Int):Rr:=(a,a+((2 ^ k:Nat):Int))
structure FB (F:Nat->Prop) (k:Nat) (R:List Rr):Prop where
 mem: ∀ r∈R,∃ o a,o<k/\Bd.can F o a/\r=blkR o a
 all: ∀ o,o<k-> ∀ x,Bd.can F o x->blkR o x∈R
 dj:R.Pairwise Dj
 len:(frs R).length=Bd.cnt (Bd.Uk F k) 1048576
 le:R.length<=(frs R).length
theorem blk_at {F:Nat->Prop} {o:Nat} {a x:Int} (h:Bd.can F o a) (h1:(blkR o a).1<=x) (h2:x<(blkR o a).2): ∃ i q:Nat,x=i/\Bd.cnN F o q/\i / 2 ^ o=q/\a=((q*2 ^ o:Nat):Int):=by
 obtain ⟨_,q,e,c⟩:=h
 unfold blkR at h1 h2
 simp only at h1 h2
 refine ⟨x.toNat,q,?_,c,?_,e⟩
 . have:(0:Int)<=a:=by rw [e];exact Int.natCast_nonneg _
   omega
 . rw [Bd.in_blk]
   generalize 2 ^ o=Q at *
   generalize q*Q=X at *
   omega
theorem can_dj {F:Nat->Prop} {o o':Nat} {a a' x:Int} (h:Bd.can F o a) (h':Bd.can F o' a') (h1:(blkR o a).1<=x) (h2:x<(blkR o a).2) (h3:(blkR o' a').1<=x) (h4:x<(blkR o' a').2):o=o'/\a=a':=by
 obtain ⟨i,q,e,c,d,f⟩:=blk_at h h1 h2
 obtain ⟨i',q',e',c',d',f'⟩:=blk_at h' h3 h4
 have ei:i'=i:=by omega
 rw [ei] at d'
 obtain ⟨p1,p2⟩:=Bd.cn_dj c c' h.1 h'.1 d d'
 subst p1 p2
 exact ⟨rfl,by rw [f,f']⟩
theorem blk_pos (o:Nat) (a:Int):(blkR o a).1<(blkR o a).2:=by
 have:=Bd.p2pos o
 unfold blkR
 simp only
 generalize 2 ^ o=Q at *
 omega
theorem frs_blks (k:Nat): ∀ L:List Int,(frs (L.map (blkR k))).length=L.length*2 ^ k
 | [] => by simp [frs]
 | a :: L => by
  show (fr1 (blkR k a)++frs (L.map (blkR k))).length=_
  rw [List.length_append,frs_blks k L,fr1_len,List.length_cons,Nat.add_mul,Nat.one_mul]
  have:((blkR k a).2-(blkR k a).1).toNat=2 ^ k:=by
   unfold blkR
   simp only
   generalize 2 ^ k=Q
   omega
  omega
theorem FB.zero (F:Nat->Prop):FB F 0 []:=⟨fun r h=>absurd h List.not_mem_nil,fun o h=>absurd h (Nat.not_lt_zero _),List.Pairwise.nil,by rw [Bd.Uk_zero];rfl,Nat.le_refl _⟩
theorem FB.step {F:Nat->Prop} {k:Nat} {R:List Rr} (hB:Bd.Bnd F) (h:FB F k R) (hk:k<=10) {L:List Int} (ha:Bd.Asc L) (hm: ∀ x,x∈L↔Bd.can F k x):FB F (k+1) (R++L.map (blkR k)):=by
 have ln:=frs_blks k L
 refine ⟨fun r hr=> ?_,fun o ho x hx=> ?_,?_,?_,?_⟩
 . rcases List.mem_append.1 hr with q | q
   . obtain ⟨o,a,h1,h2⟩:=h.mem r q
     exact ⟨o,a,by omega,h2⟩
   . obtain ⟨a,ha,rfl⟩:=List.mem_map.1 q
     exact ⟨k,a,by omega,(hm a).1 ha,rfl⟩
 . by_cases c:o<k
   . exact List.mem_append_left _ (h.all o c x hx)
   . have e:o=k:=by omega
     subst e
     exact List.mem_append_right _ (List.mem_map.2 ⟨x,(hm x).2 hx,rfl⟩)
 . rw [List.pairwise_append]
   refine ⟨h.dj,?_,fun r hr s hs=> ?_⟩
   . rw [List.pairwise_map]
     refine List.Pairwise.imp_of_mem (fun {a b} h1 h2 hlt x p1 p2 p3 p4=> ?_) ha
     have:=(can_dj ((hm a).1 h1) ((hm b).1 h2) p1 p2 p3 p4).2
     omega
   . obtain ⟨o,a,h1,h2,rfl⟩:=h.mem r hr
     obtain ⟨b,hb,rfl⟩:=List.mem_map.1 hs
     intro x p1 p2 p3 p4
     have:=(can_dj h2 ((hm b).1 hb) p1 p2 p3 p4).1
     omega
 . rw [frs_app,List.length_append,h.len,ln,Bd.Uk_step F hB k hk L (asc_nd ha) hm]
 . rw [frs_app,List.length_append,List.length_append,List.length_map,ln]
   have:=h.le
   have:=Nat.le_mul_of_pos_right L.length (Bd.p2pos k)
   omega
theorem FB.done {F:Nat->Prop} {R S:List Rr} (h:FB F 11 R) (p:S.Perm R) (s:S.Pairwise fun a b=>a.1<=b.1):Up (frs S)/\(∀ u,u∈frs S↔ ∃ i:Nat,F i/\u=((i:Int),0,0))/\(frs S).length=Bd.cnt F 1048576:=by
 refine ⟨frs_up s (dj_perm p h.dj) (fun r hr=> ?_),fun u=> ?_,?_⟩
 . obtain ⟨o,a,_,_,rfl⟩:=h.mem r (p.mem_iff.1 hr)
   exact blk_pos o a
 . rw [frs_mem]
   constructor
   . rintro ⟨⟨r,hr,h1,h2⟩,h3,h4⟩
     obtain ⟨o,a,_,c,rfl⟩:=h.mem r (p.mem_iff.1 hr)
     obtain ⟨i,q,e,d,f,_⟩:=blk_at c h1 h2
     refine ⟨i,d.1 i f,?_⟩
     obtain ⟨u1,u2,u3⟩:=u
     simp only at e h3 h4
     subst e h3 h4
     rfl
   . rintro ⟨i,hi,rfl⟩
     refine ⟨?_,rfl,rfl⟩
     have hu:Bd.Uk F 11 i:=by rw [Bd.Uk_all];exact hi
     obtain ⟨o,ho,h10,q,c,e⟩:=hu
     refine ⟨blkR o ((q*2 ^ o:Nat):Int),p.mem_iff.2 (h.all o ho _ ⟨h10,q,rfl,c⟩),?_⟩
     rw [Bd.in_blk] at e
     unfold blkR
     simp only
     generalize 2 ^ o=Q at *
     generalize q*Q=X at *
     omega
 . rw [frs_perm_len p,h.len,Bd.Uk_all]
end Go.Proofs.YtajfbieacfjhnaaGreatDoor.Au
namespace Go.Proofs.YtajfbieacfjhnaaGreatDoor.Au
open Go.ChangeShapes Go.WideShapes Go.ChangeAt Go.RowKit Go.Maps Go.Sort Go.Shelf
open Go.Proofs.YtajfbieacfjhnaaGreatDoor.Tt
set_option linter.unusedSimpArgs false
set_option linter.unusedVariables false
set_option maxRecDepth 8000
set_option maxHeartbeats 1000000 in
theorem closure_any (x y:Int × Int) (W:World):Calls Tryz.prog 67 #[.agg #[.int .i64 x.1,.int .i64 x.2],.agg #[.int .i64 y.1,.int .i64 y.2]] W fun e w'=>e=.returned (.int .i64 (Bm.cmpI x.1 y.1))/\ ∃ q os',w'=grow (W.drewN q) os':=by
 have hcon:Hid (∀ W',_):=fun W'=>Bm.compare_any x.1 y.1 W'
 obtain ⟨x1,x2⟩:=x
 obtain ⟨y1,y2⟩:=y
 simp only at hcon |-
 generalize Bm.cmpI x1 y1=r at hcon |-
 go_enter Tryz.func67,Tryz.ntmps67
 go_wp2_with (go_at_call 64;refine Calls.mono (hcon.out _) ?_;rintro e w' ⟨rfl,rfl⟩)
 go_ret
 exact ⟨rfl,0,_,by rw [alloc_eq_grow,alloc_eq_grow,grow_grow];rfl⟩
theorem sortR_any (base:Nat) (v:Value) (L:List (Int × Int)) (hL:L.length<=1048576) (w:World) (O:Bm.OR w base v L) (hb:base<=w.heap.size) :
 Calls Tryz.prog 66 #[v,.func (.func 67) #[] #[]] w fun e w'=>e=.returned (.tuple #[])/\ ∃ S,S.Perm L/\(S.Pairwise fun a b=>a.1<=b.1)/\Bm.RL w' base v S/\Below base w w':=by
 have O2:=O
 obtain ⟨hl',⟨hv,h0⟩ | ⟨g,cap,cur,hv,hbb,hblk,hcap,hmx,hsz,htk⟩⟩:=O
 . obtain rfl:L=[]:=List.eq_nil_of_length_eq_zero h0
   subst hv
   have:=AnyF.slices_SortFunc_none { Bm.sortR with } none 0 (.func (.func 67) #[] #[]) w
   change Calls Tryz.prog 66 _ _ _ at this
   refine this.mono ?_
   rintro e w' ⟨rfl,rfl⟩
   exact ⟨rfl,[],List.Perm.refl _,List.Pairwise.nil,Or.inl ⟨rfl,rfl⟩,Below.refl _ _⟩
 . subst hv
   have glt:=Bm.blk_lt hblk
   have hH:HoldsK Bm.eR 2 w g 0 L.toArray:=by
    intro j hj
    rw [size_flatK] at hj
    rw [get_flatK _ _ _ _ hj]
    have hj':j<L.length*2:=by simpa using hj
    refine ⟨?_,Go.Joins.unfrozen_of_block hblk _⟩
    have hc:=World.ownsRow.cells (g:=g) O2 rfl j
    have i1:j / 2<L.length:=by omega
    have q:=Bm.flat_get Bm.eR_len L (j / 2) i1 (j % 2) (by omega)
    have e:j / 2*2+j % 2=j:=by omega
    rw [e] at q
    have lt2:j % 2<(Bm.eR L[j / 2]).length:=by rw [Bm.eR_len];omega
    rw [List.getElem?_eq_getElem lt2] at q
    have:=hc _ q
    rw [Addr.add_mid,Nat.zero_add] at this
    rw [Nat.zero_add,this]
    have e2:L.toArray[j / 2]! =L[j / 2]:=by simp [i1]
    rw [e2]
    have e3:(Bm.eR L[j / 2])[j % 2]! =(Bm.eR L[j / 2])[j % 2]:=by rw [getElem!_pos (Bm.eR L[j / 2]) (j % 2) lt2]
    rw [e3];rfl
   have eg:=enters_of Tryz.func67 (by kernel_rfl) rfl
   have con:=AnyQ.slices_SortFunc Bm.sortR 2 Tryz.isAgg44 Tryz.sizeOf44 Bm.eR Bm.eR_len Bm.eR_one (fun x y=>Bm.cmpI x.1 y.1) Bm.less_swo 67 #[] g 0 cap L.toArray w eg (fun _ _ _ _ x y=>closure_any x y _) hH glt (by simp;omega)
   change Calls Tryz.prog 66 _ _ _ at con
   rw [show L.toArray.size=L.length by simp] at con
   refine con.mono ?_
   rintro e w' ⟨rfl,d',n,os,hp,hs,rfl⟩
   obtain ⟨p1,p2,p3⟩:=hp
   have s1:d'.size=L.length:=by rw [p1];simp
   have pm:d'.toList.Perm L:=by
    have e1:(d'.extract 0 L.length).toList=d'.toList:=by rw [<- s1];simp
    have e2:(L.toArray.extract 0 L.length).toList=L:=by simp
    rw [e1,e2] at p3
    exact p3
   refine ⟨rfl,d'.toList,pm,?_,?_,?_⟩
   . rw [List.pairwise_iff_getElem]
     intro i j hi hj hij
     have hi':i<d'.size:=by simpa using hi
     have hj':j<d'.size:=by simpa using hj
     have q:=hs i j (Nat.zero_le _) hij (by rw [<- s1];exact hj')
     rw [Bm.less_is] at q
     rw [getElem!_pos d' j hj',getElem!_pos d' i hi'] at q
     simp only [decide_eq_false_iff_not] at q
     simp only [Array.getElem_toList]
     omega
   . have hh:=holdsK_sortWorldK Bm.eR 2 w g 0 n L.toArray d' os glt hH p1
     have sl:=lt_sortWorldK Bm.eR 2 w g 0 n d' os glt
     refine Or.inr ⟨g,0,cap,by simp [s1],by simp [s1];omega,hbb,sl,fun i hi j hj=> ?_⟩
     have hi':i<d'.size:=by simpa using hi
     have q:=(HoldsK.cell hh hi' hj).1
     rw [q,getElem!_pos d' i hi']
     have lt2:j<(Bm.eR d'[i]).length:=by rw [Bm.eR_len];exact hj
     rw [getElem!_pos (Bm.eR d'[i]) j lt2]
     simp only [Array.getElem_toList]
     rw [List.getElem?_eq_getElem lt2]
   . refine ⟨rfl,rfl,rfl,?_,fun j hj=> ?_⟩
     . simp [sortWorldK,putRowK,putRow,mapBlock,grow,Sort.ahead]
     . have jl:j<w.heap.size:=Nat.lt_of_lt_of_le hj hb
       have:(grow (putRowK Bm.eR 2 (Sort.ahead w n) g 0 d') os).heap[j]? =(putRowK Bm.eR 2 (Sort.ahead w n) g 0 d').heap[j]? :=heap_grow_old _ _ (by simp [putRowK,putRow,mapBlock,Sort.ahead];exact jl)
       show (grow (putRowK Bm.eR 2 (Sort.ahead w n) g 0 d') os).heap[j]? =_
       rw [this]
       exact Bm.heap_modify_other _ _ _ _ (by omega)
structure LQ {α :Type} (T:TypeId) (k:Nat) (enc: α ->List Value) (w0:World) (Q:Nat->Prop) (V1 V:World) (v:Value) (A:List α):Prop where
 own:Bm.OL T k enc V w0.heap.size v A
 bel:Below w0.heap.size w0 V
 oth: ∀ g,Q g->g<V.heap.size/\V.heap[g]? =V1.heap[g]? /\v.ownBlock≠some g
theorem LQ.below {α :Type} {T:TypeId} {k:Nat} {enc: α ->List Value} {w0:World} {Q:Nat->Prop} {V1 V V':World} {v:Value} {A:List α} (h:LQ T k enc w0 Q V1 V v A) (hb:Below V.heap.size V V'):LQ T k enc w0 Q V1 V' v A :=
 ⟨Bm.row_below h.own hb,Bm.below_then h.bel hb,fun g hg=>⟨Nat.lt_of_lt_of_le (h.oth g hg).1 hb.size,(hb.block g (h.oth g hg).1).trans (h.oth g hg).2.1,(h.oth g hg).2.2⟩⟩
theorem LQ.turn {α :Type} {T:TypeId} {k:Nat} {enc: α ->List Value} {w0:World} {Q Q':Nat->Prop} {V1 V:World} {v:Value} {A:List α} (h:LQ T k enc w0 Q V1 V v A) (hq: ∀ g,Q' g->g<V.heap.size/\v.ownBlock≠some g):LQ T k enc w0 Q' V V v A :=
 ⟨h.own,h.bel,fun g hg=>⟨(hq g hg).1,rfl,(hq g hg).2⟩⟩
theorem LQ.more {α :Type} {T:TypeId} {k:Nat} {enc: α ->List Value} {w0:World} {Q:Nat->Prop} {V1 V V':World} {v:Value} {A:List α} (h:LQ T k enc w0 Q V1 V v A) (hb:Below V.heap.size V V'):LQ T k enc w0 (fun g=>Q g\/(V.heap.size<=g/\g<V'.heap.size)) V' V' v A:=by
 refine (h.below hb).turn (fun g hg=> ?_)
 rcases hg with c | c
 . exact ⟨Nat.lt_of_lt_of_le (h.oth g c).1 hb.size,(h.oth g c).2.2⟩
 . exact ⟨c.2,fun e=>by have:=(Bm.row_lt h.own g e).2;omega⟩
theorem LQ.less {α :Type} {T:TypeId} {k:Nat} {enc: α ->List Value} {w0:World} {Q Q':Nat->Prop} {V1 V V2:World} {v:Value} {A:List α} (h:LQ T k enc w0 Q V1 V v A) (hq: ∀ g,Q' g->Q g/\V1.heap[g]? =V2.heap[g]?):LQ T k enc w0 Q' V2 V v A :=
 ⟨h.own,h.bel,fun g hg=>⟨(h.oth g (hq g hg).1).1,(h.oth g (hq g hg).1).2.1.trans (hq g hg).2,(h.oth g (hq g hg).1).2.2⟩⟩
theorem LQ.cell {α :Type} {T:TypeId} {k:Nat} {enc: α ->List Value} {w0:World} {Q:Nat->Prop} {V1 V:World} {v:Value} {A:List α} (h:LQ T k enc w0 Q V1 V v A) {g:Nat} (hg:Q g) {i:Nat} {x:Value} (c:V1.cell? ⟨g,i,none⟩=some x):V.cell? ⟨g,i,none⟩=some x:=(World.cell?_of_block (w:=V1) (a:=⟨g,i,none⟩) (h.oth g hg).2.1).trans c
theorem LQ.app {α :Type} {T S:TypeId} {k:Nat} {enc: α ->List Value} {z:Value} {bytes:Nat} (hk: ∀ x,(enc x).length=k) (h1: ∀ x,∀ u∈enc x,u.oneCell'=true) (k0:0<k) (hS:Tryz.prog.underlying S=some (.slice T)) (hI: ∃ i,Tryz.prog.info? T=some i/\i.zero=some z/\i.size=k/\i.bytes=bytes) (hz:z.cells.size=k) (hb8:bytes<=100)
 {w0:World} {Q:Nat->Prop} {V1 V:World} {v:Value} {A:List α} (h:LQ T k enc w0 Q V1 V v A) (hA:A.length<=1048576) (x: α) :
 ∃ p n c W2,(Builtin.append_ #[S,S] S #[v,.slice (some ⟨V.heap.size,0,none⟩) 1 1]).run Tryz.prog (V.alloc (.cells (enc x).toArray T))=.ok (.slice p n c) W2/\LQ T k enc w0 Q V1 W2 (.slice p n c) (A++[x]):=by
 obtain ⟨v',W2,r,ho,hg,hat⟩:=Bm.app_row hk h1 k0 hS hI hz hb8 w0.heap.size v A x hA V h.own h.bel.size
 have sz:V.heap.size<(V.alloc (.cells (enc x).toArray T)).heap.size:=by rw [World.size_alloc];omega
 obtain ⟨p,c,hv,_⟩:=(Bm.ol_ll hk ho).form
 subst hv
 refine ⟨p,_,c,W2,r,ho,(Bm.below_new h.bel _).grown hg (by rw [World.size_alloc];have:=h.bel.size;omega) (fun g e=>(Bm.row_lt h.own g e).1),fun g hg'=> ?_⟩
 obtain ⟨q1,q2,q3⟩:=h.oth g hg'
 refine ⟨Nat.lt_of_lt_of_le (Nat.lt_trans q1 sz) hg.size,((hg.block g (by omega) (fun e=>q3 e.symm)).trans ((Go.Joins.below_alloc1 V _).block g q1)).trans q2,?_⟩
 rcases hat with e | e
 . rw [e];exact q3
 . rw [e];intro h
   have:=Option.some.inj h
   omega
abbrev QR:=LQ 44 2 Bm.eR
abbrev QU:=LQ 26 3 eU
theorem ints_form {w:World} {base:Nat} {v:Value} {L:List Int} (h:w.ownsRow base 3 1 v L.length (L.map (Value.int .i64))): ∃ p c,v=.slice p L.length c/\ ∀ i (hi:i<L.length),∃ g,p=some ⟨g,0,none⟩/\base<=g/\g<w.heap.size/\w.cell? ⟨g,i,none⟩=some (.int .i64 L[i]):=by
 have hc:=fun g (hg:v.ownBlock=some g)=>World.ownsRow.cells (g:=g) h hg
 obtain ⟨hl',⟨hv,h0⟩ | ⟨g,cap,cur,hv,hb,hblk,hcap,_⟩⟩:=h
 . exact ⟨none,0,by rw [hv,h0],fun i hi=>absurd hi (by omega)⟩
 . refine ⟨_,cap,hv,fun i hi=>⟨g,rfl,hb,Bm.blk_lt hblk,?_⟩⟩
   have:=hc g (by rw [hv];rfl) i (.int .i64 L[i]) (by rw [List.getElem?_map,List.getElem?_eq_getElem hi];rfl)
   rw [Addr.add_mid,Nat.zero_add] at this
   exact this
end Go.Proofs.YtajfbieacfjhnaaGreatDoor.Au
namespace Go.Proofs.YtajfbieacfjhnaaGreatDoor.Au
open Go.ChangeShapes Go.WideShapes Go.ChangeAt Go.RowKit Go.Maps
open Go.Proofs.YtajfbieacfjhnaaGreatDoor.Tt
set_option linter.unusedSimpArgs false
set_option linter.unusedVariables false
set_option maxRecDepth 8000
theorem fr1_take (r:Rr) (t:Nat):(List.range (t+1)).map (fun i:Nat=>((r.1+(i:Int),0,0):Us))=(List.range t).map (fun i:Nat=>((r.1+(i:Int),0,0):Us))++[(r.1+(t:Int),0,0)]:=by
 rw [List.range_succ,List.map_append];rfl
theorem frs_take {S:List Rr} {i:Nat} (hi:i<S.length):frs (S.take (i+1))=frs (S.take i)++fr1 S[i]:=by
 rw [List.take_succ_eq_append_getElem hi,frs_app]
 show frs (S.take i)++(fr1 S[i]++[])=_
 rw [List.append_nil]
theorem frs_take_le (S:List Rr) (i:Nat):(frs (S.take i)).length<=(frs S).length:=by
 have e:frs S=frs (S.take i)++frs (S.drop i):=by rw [<- frs_app,List.take_append_drop]
 rw [e,List.length_append];omega
theorem can_bd {F:Nat->Prop} {o:Nat} {a:Int} (hB:Bd.Bnd F) (h:Bd.can F o a):0<=a/\a+((2 ^ o:Nat):Int)<=1048576:=by
 obtain ⟨_,q,e,c⟩:=h
 have l:=hB _ (Bd.can_last c)
 have p:=Bd.p2pos o
 generalize 2 ^ o=Q at *
 generalize q*Q=X at *
 omega
set_option maxHeartbeats 4000000 in
theorem free_frames {Z:Nat->Prop} {W:World} {b:Nat} {F:Nat->Prop} {G:Int->Option Int} (h:Bd.Bu Z W b 1000000 F G) (hB:Bd.Bnd F) :
 Calls Tryz.prog 23 #[pp b] W fun e w'=> ∃ (v:Value) (L:List Us),e=.returned v/\OU w' W.heap.size v L/\Up L/\(∀ u,u∈L↔ ∃ i:Nat,F i/\u=((i:Int),0,0))/\L.length=Bd.cnt F 1048576/\kc 0 L=Bd.cnt F 1048576/\Below W.heap.size W w':=by
 have BC:Hid (∀ V (k:Nat),Below W.heap.size W V->k<11->_):=fun V k hb hk=>(h.below hb).blocks (by omega) k hk
 have FC:Hid (∀ V,Below W.heap.size W V->_):=fun V hb=>(h.below hb).free
 have SC:Hid (∀ (V:World) (v:Value) (L:List Rr),L.length<=1048576->Bm.OR V W.heap.size v L->W.heap.size<=V.heap.size->_):=fun V v L h1 h2 h3=>sortR_any W.heap.size v L h1 V h2 h3
 have HF:Hid (Bd.Bnd F):=hB
 have R0:Hid (QR W (fun _=>False) W W (.slice none 0 0) []/\FB F 0 []):=⟨⟨Bm.ol_none _ _ _ _ _,Below.refl _ _,fun g hg=>hg.elim⟩,FB.zero F⟩
 obtain ⟨N,hN⟩: ∃ N,N=Bd.cnt F 1048576:=⟨_,rfl⟩
 have HN:Hid (N=Bd.cnt F 1048576/\N<=1048576):=⟨hN,by rw [hN];exact Bd.cnt_le _ _⟩
 rw [<- hN]
 clear h hB hN
 go_enter Tryz.func23,Tryz.ntmps23
 go_wp2_with fail
 go_loopw [3,11] (fun vb ik V=> ∃ (k:Nat) (R:List Rr),k<=11/\ik=.int .i64 k/\Hid (QR W (fun _=>False) V V vb R/\FB F k R)) (fun _ ik _=>11-(Go.RowKit.intOf ik).toNat)
 case atStart=>exact ⟨0,[],by omega,rfl,R0⟩
 case round =>
  clear R0
  obtain ⟨k,R,hk,rfl,J⟩:=hrel
  by_cases ck:k<11
  rotate_left
  . obtain rfl:k=11:=by omega
    have HJ:=J
    clear J hk ck
    have SR:=SC.out wr u3 R (Nat.le_trans HJ.out.2.le (by rw [HJ.out.2.len];exact Bd.cnt_le _ _)) HJ.out.1.own HJ.out.1.bel.size
    have SR2:Hid _:=SR
    clear SR SC BC
    go_wp2_with fail
    refine Calls.mono SR2.out ?_
    rintro e w1 ⟨rfl,S,hp,hs,hS,hb⟩
    have HS:Hid (Up (frs S)/\(∀ u,u∈frs S↔ ∃ i:Nat,F i/\u=((i:Int),0,0))/\(frs S).length=N):=by
     have q:=HJ.out.2.done hp hs
     rw [<- HN.out.1] at q
     exact q
    have SB:Hid (∀ r∈S,r.1<=r.2/\0<=r.1/\r.2<=1048576):=fun r hr=>by
     obtain ⟨o,a,_,hc,rfl⟩:=HJ.out.2.mem r (hp.mem_iff.1 hr)
     have q:=can_bd HF.out hc
     have q2:=blk_pos o a
     exact ⟨Int.le_of_lt q2,q.1,q.2⟩
    obtain ⟨p,c,hv,hc,_,rd⟩:=hS.form
    obtain ⟨n,hn⟩: ∃ n,n=S.length:=⟨_,rfl⟩
    rw [<- hn] at hv
    subst hv
    have B1:Hid (Below W.heap.size W w1):=HJ.out.1.bel.trans hb
    have RD:Hid (∀ i (hi:i<S.length),∃ g o,p=some ⟨g,o,none⟩/\W.heap.size<=g/\g<w1.heap.size/\ ∀ j,j<2->w1.cell? ⟨g,o+i*2+j,none⟩=(Bm.eR S[i])[j]?):=rd
    have HNS:Hid (n=S.length):=hn
    have hnb:n<=1048576:=by
     rw [hn,hp.length_eq]
     exact Nat.le_trans HJ.out.2.le (by rw [HJ.out.2.len];exact Bd.cnt_le _ _)
    have F1:=FC.out w1 B1.out
    rw [<- HN.out.1] at F1
    have F2:Hid _:=F1
    obtain ⟨i0,hi,hz0,hz1,hz2⟩:=infoU
    obtain ⟨w2,mk,ho,hg⟩:=Go.run_make_own (P:=Tryz.prog) (w:=w1) W.heap.size 22 26 i0 _ 3 Tryz.underlying22 hi hz0 hz1 .i64 .i64 N (by rw [hz2];have:=HN.out.2;omega) (by unfold maxLen;have:=HN.out.2;omega) B1.out.size
    have b2:Below w1.heap.size w1 w2:=⟨hg.os,hg.tape,hg.output,hg.size,fun k hk=>hg.block k hk (by simp)⟩
    have L0:Hid (QU W (fun g=>W.heap.size<=g/\g<w1.heap.size) w1 w2 (.slice (some ⟨w1.heap.size,0,none⟩) 0 N) (frs (S.take 0))):=⟨ho,Bm.below_then B1.out b2,fun g hg=>⟨Nat.lt_of_lt_of_le hg.2 b2.size,b2.block g hg.2,fun e=>by
     have h2:=hg.2
     have e2:w1.heap.size=g:=Option.some.inj e
     omega⟩⟩
    clear hp hs hS hb hc rd hn HJ FC F1 ho hg b2 hi hz0 hz1 hz2
    have mk':Sem.run Tryz.prog (Instr.makeSlice 22 (.int .i64 0) (.int .i64 N)) w1=.ok (.slice (some ⟨w1.heap.size,0,none⟩) 0 N) w2:=mk
    clear mk
    go_wp2_with fail
    refine Calls.mono F2.out ?_
    rintro e w1' ⟨rfl,hu⟩
    have hu2:=hu.symm
    clear hu
    subst hu2
    clear F2
    go_wp2_with fail
    clear mk'
    go_loopw [7,40] (fun vl ii V=> ∃ i:Nat,i<=n/\ii=.int .i64 i/\Hid (QU W (fun g=>W.heap.size<=g/\g<w1.heap.size) w1 V vl (frs (S.take i)))) (fun _ ii _=>n-(Go.RowKit.intOf ii).toNat)
    case atStart=>exact ⟨0,by omega,rfl,L0⟩
    case round =>
     clear L0
     obtain ⟨i,hin,rfl,JU⟩:=hrel
     by_cases ci:i<n
     rotate_left
     . have d1:decide ((i:Int)<(n:Int))=false:=by simp;omega
       have ei:Hid (i=n):=by show i=n;omega
       go_wp2_with fail
       go_returns
       have q:=JU.out
       rw [ei.out,HNS.out,List.take_length] at q
       refine ⟨_,frs S,rfl,q.own,HS.out.1,HS.out.2.1,HS.out.2.2,?_,q.bel⟩
       rw [kc_frs,if_pos rfl];exact HS.out.2.2
     have d1:decide ((i:Int)<(n:Int))=true:=by simp;omega
     have iS:i<S.length:=by rw [<- HNS.out];exact ci
     obtain ⟨g,og,rfl,l0,lg,rc⟩:=RD.out i iS
     have y0:wr.cell? ⟨g,og+i*2,none⟩=some (.int .i64 S[i].1):=JU.out.cell ⟨l0,lg⟩ (rc 0 (by omega))
     have y1:wr.cell? ⟨g,og+i*2+1,none⟩=some (.int .i64 S[i].2):=JU.out.cell ⟨l0,lg⟩ (rc 1 (by omega))
     have FT:Hid (frs (S.take (i+1))=frs (S.take i)++fr1 S[i]/\(frs (S.take (i+1))).length<=N):=⟨frs_take iS,by rw [<- HS.out.2.2];exact frs_take_le S (i+1)⟩
     have PS:Hid (S[i].1<=S[i].2/\0<=S[i].1/\S[i].2<=1048576):=SB.out _ (List.getElem_mem iS)
     generalize hr:S[i]=r at y0 y1 FT PS
     obtain ⟨r1,r2⟩:=r
     simp only at y0 y1 PS
     have lgr:g<wr.heap.size:=(JU.out.oth g ⟨l0,lg⟩).1
     have hb2:Below wr.heap.size wr (wr.alloc (.cells #[.int .i64 r1,.int .i64 r2] 44)):=Go.Joins.below_alloc1 _ _
     have JB:Hid (QU W (fun g=>(W.heap.size<=g/\g<w1.heap.size)\/(wr.heap.size<=g/\g<(wr.alloc (.cells #[.int .i64 r1,.int .i64 r2] 44)).heap.size)) (wr.alloc (.cells #[.int .i64 r1,.int .i64 r2] 44)) (wr.alloc (.cells #[.int .i64 r1,.int .i64 r2] 44)) u7 (frs (S.take i))/\Blk (wr.alloc (.cells #[.int .i64 r1,.int .i64 r2] 44)) wr.heap.size [.int .i64 r1,.int .i64 r2] 44):=⟨JU.out.more hb2,Blk.made _ _ _⟩
     have OLD:Hid (∀ g,(W.heap.size<=g/\g<w1.heap.size)->(wr.alloc (.cells #[.int .i64 r1,.int .i64 r2] 44)).heap[g]? =w1.heap[g]?):=fun g hg=>(hb2.block g (JU.out.oth g hg).1).trans (JU.out.oth g hg).2.1
     clear rc l0 lg hr JU hb2
     go_upto_region 16 with fail
     clear y0 y1 lgr
     have szx:(wr.alloc (.cells #[.int .i64 r1,.int .i64 r2] 44)).heap.size=wr.heap.size+1:=World.size_alloc _ _
     rw [szx] at JB
     clear szx
     generalize (wr.alloc (.cells #[.int .i64 r1,.int .i64 r2] 44))=wx at JB OLD |-
     generalize wr.heap.size=q at JB |-
     have z0:wx.cell? ⟨q,0,none⟩=some (.int .i64 r1):=JB.out.2.cell 0
     go_wp2_with fail
     go_loopw [7,10] (fun vl it V=> ∃ t:Nat,it=.int .i64 (r1+(t:Int))/\r1+(t:Int)<=r2/\Hid (QU W (fun g=>(W.heap.size<=g/\g<w1.heap.size)\/(q<=g/\g<q+1)) wx V vl (frs (S.take i)++(List.range t).map (fun i:Nat=>((r1+(i:Int),0,0):Us))))) (fun _ it _=>(r2-Go.RowKit.intOf it).toNat)
     case atStart=>exact ⟨0,by simp,by have:=PS.out.1;simpa using this,by show LQ _ _ _ _ _ _ _ _ (_++[]);rw [List.append_nil];exact JB.out.1⟩
     case round =>
      clear z0
      obtain ⟨t,rfl,ht,JT⟩:=hrel
      have x1:wr.cell? ⟨q,1,none⟩=some (.int .i64 r2):=JT.out.cell (Or.inr ⟨by omega,by omega⟩) (JB.out.2.cell 1)
      by_cases ct:r1+(t:Int)<r2
      rotate_left
      . have d2:decide (r1+(t:Int)<r2)=false:=by simp;omega
        have FIN:Hid (QU W (fun g=>W.heap.size<=g/\g<w1.heap.size) w1 wr u7 (frs (S.take (i+1)))):=by
         have e:(List.range t).map (fun i:Nat=>((r1+(i:Int),0,0):Us))=fr1 (r1,r2):=by
          unfold fr1
          simp only
          rw [show (r2-r1).toNat=t by omega]
         have q:=JT.out
         rw [e,<- FT.out.1] at q
         exact q.less (fun g hg=>⟨Or.inl hg,OLD.out g hg⟩)
        clear JT FT JB OLD
        go_wp2_with fail
        go_roundw
        case rel=>exact ⟨i+1,by omega,by go_num,FIN⟩
        case measure=>simp only [Go.RowKit.intOf];omega
      have d2:decide (r1+(t:Int)<r2)=true:=by simp [ct]
      obtain ⟨v',nn,c',W2,rr,J2⟩:=JT.out.app eU_len eU_one (by decide) Tryz.underlying22 infoU rfl (by decide) (by
       have h1:=FT.out.2
       have h2:=HN.out.2
       have e:(fr1 (r1,r2)).length=(r2-r1).toNat:=fr1_len _
       rw [FT.out.1,List.length_append,e] at h1
       rw [List.length_append,List.length_map,List.length_range]
       omega) (r1+(t:Int),0,0)
      have J3:Hid (QU W (fun g=>(W.heap.size<=g/\g<w1.heap.size)\/(q<=g/\g<q+1)) wx W2 (.slice v' nn c') (frs (S.take i)++(List.range (t+1)).map (fun i:Nat=>((r1+(i:Int),0,0):Us)))):=by
       have e:=fr1_take (r1,r2) t
       simp only at e
       show LQ _ _ _ _ _ _ _ _ _
       rw [e,<- List.append_assoc];exact J2
      obtain ⟨y,hy⟩: ∃ y:Int,y=r1+(t:Int):=⟨_,rfl⟩
      obtain ⟨y1,hy1⟩: ∃ y1:Int,y1=y+1:=⟨_,rfl⟩
      have HY:Hid (y=r1+(t:Int)/\y1=r1+((t+1:Nat):Int)/\y<r2):=⟨hy,by omega,by omega⟩
      have wp:IntKind.i64.wrap (y+1)=y1:=by rw [IntKind.wrap_i64];have:=PS.out;omega
      simp only [eU] at rr
      rw [<- hy] at d2 rr |-
      clear J2 JT hy hy1 ct ht
      go_wp2_with (at_builtin;refine Bm.wpList_app rfl _ _ 22 rfl u7 (.slice (some ⟨wr.heap.size,0,none⟩) 1 1) rfl rfl (.slice v' nn c') W2 rr ?_)
      go_roundw
      case rel=>exact ⟨t+1,by rw [HY.out.2.1],by have:=HY.out;omega,J3⟩
      case measure=>have:=HY.out;simp only [Go.RowKit.intOf];omega
  have d1:decide ((k:Int)<11)=true:=by simp;omega
  obtain ⟨wo,hwo⟩: ∃ wo:Nat,wo=wr.heap.size:=⟨_,rfl⟩
  obtain ⟨P,wP,eP,P0,P1⟩:=Bd.pow_facts (k:=k) (by omega)
  have CK:Hid (k<11/\P=((2 ^ k:Nat):Int)/\IntKind.i64.wrap (2 ^ k)=P):=⟨ck,eP,wP⟩
  clear wP eP
  have B1:=BC.out wr k J.out.1.bel ck
  have B2:Hid _:=B1
  clear B1
  go_wp2_with fail
  refine Calls.mono B2.out ?_
  rintro e w1 ⟨v,L,rfl,ha,hm,hrow,hb⟩
  obtain ⟨p,c,hv,rd⟩:=ints_form hrow
  obtain ⟨n,hn⟩: ∃ n,n=L.length:=⟨_,rfl⟩
  rw [<- hn] at hv
  subst hv
  have HL:Hid (Bd.Asc L/\(∀ x,x∈L↔Bd.can F k x)/\n=L.length):=⟨ha,hm,hn⟩
  rw [<- hwo] at rd
  have RD:Hid (∀ i (hi:i<L.length),∃ g,p=some ⟨g,0,none⟩/\wo<=g/\g<w1.heap.size/\w1.cell? ⟨g,i,none⟩=some (.int .i64 L[i])):=rd
  have K0:Hid (QR W (fun g=>wo<=g/\g<w1.heap.size) w1 w1 u3 (R++(L.take 0).map (blkR k))):=by
   have q:=J.out.1.more hb
   show LQ _ _ _ _ _ _ _ _ _
   rw [List.take_zero,List.map_nil,List.append_nil]
   exact q.less (fun g hg=>⟨Or.inr (by rw [<- hwo];exact hg),rfl⟩)
  have HFB:Hid (FB F k R):=J.out.2
  have hnb:n<=1048576:=by
   have q:=HFB.out.step HF.out (by have:=CK.out.1;omega) ha hm
   have q1:=Nat.le_trans q.le (by rw [q.len];exact Bd.cnt_le _ _)
   rw [List.length_append,List.length_map] at q1
   omega
  clear ha hm hrow hb rd hn B2 J hwo
  go_wp2_with fail
  go_loopw [3,18] (fun vb ii V=> ∃ i:Nat,i<=n/\ii=.int .i64 i/\Hid (QR W (fun g=>wo<=g/\g<w1.heap.size) w1 V vb (R++(L.take i).map (blkR k)))) (fun _ ii _=>n-(Go.RowKit.intOf ii).toNat)
  case atStart=>exact ⟨0,by omega,rfl,K0⟩
  case round =>
   clear K0
   obtain ⟨i,hin,rfl,JR⟩:=hrel
   by_cases ci:i<n
   rotate_left
   . have d2:decide ((i:Int)<(n:Int))=false:=by simp;omega
     have FIN:Hid (QR W (fun _=>False) wr wr u3 (R++L.map (blkR k))/\FB F (k+1) (R++L.map (blkR k))):=by
      have q:=JR.out
      rw [show i=L.length by have:=HL.out.2.2;omega,List.take_length] at q
      exact ⟨q.turn (fun g hg=>hg.elim),HFB.out.step HF.out (by have:=CK.out.1;omega) HL.out.1 HL.out.2.1⟩
     have KK:Hid (k<11):=CK.out.1
     clear JR HL RD HFB CK
     go_wp2_with fail
     go_roundw
     case rel=>exact ⟨k+1,R++L.map (blkR k),by have:=KK.out;omega,by go_num,FIN⟩
     case measure=>have:=KK.out;simp only [Go.RowKit.intOf];omega
   have d2:decide ((i:Int)<(n:Int))=true:=by simp;omega
   have iL:i<L.length:=by have:=HL.out.2.2;omega
   obtain ⟨g,rfl,l0,lg,rc⟩:=RD.out i iL
   have y0:wr.cell? ⟨g,i,none⟩=some (.int .i64 L[i]):=JR.out.cell ⟨l0,lg⟩ rc
   have AB:Hid (0<=L[i]/\L[i]+P<=1048576):=by
    have q:=can_bd HF.out ((HL.out.2.1 _).1 (List.getElem_mem iL))
    rw [<- CK.out.2.1] at q
    exact q
   have LT:Hid ((L.take (i+1)).map (blkR k)=(L.take i).map (blkR k)++[blkR k L[i]]):=by
    show _=_
    rw [List.take_succ_eq_append_getElem iL,List.map_append];rfl
   have EB:Hid (blkR k L[i]=(L[i],L[i]+P)):=by
    show (L[i],L[i]+((2 ^ k:Nat):Int))=_
    rw [<- CK.out.2.1]
   have LE:Hid ((R++(L.take i).map (blkR k)).length<=1048576):=by
    have q:=(HFB.out.step HF.out (by have:=CK.out.1;omega) HL.out.1 HL.out.2.1)
    have q1:=Nat.le_trans q.le (by rw [q.len];exact Bd.cnt_le _ _)
    rw [List.length_append,List.length_map] at q1
    show _<=_
    rw [List.length_append,List.length_map]
    have:=List.length_take_le i L
    omega
   generalize L[i]=a at y0 AB LT EB
   obtain ⟨x2,hx2⟩: ∃ x2,x2=a+P:=⟨_,rfl⟩
   obtain ⟨v',nn,c',W2,rr,J2⟩:=JR.out.app Bm.eR_len Bm.eR_one (by decide) Tryz.underlying110 Bm.infoR rfl (by decide) LE.out (a,x2)
   have J3:Hid (QR W (fun g=>wo<=g/\g<w1.heap.size) w1 W2 (.slice v' nn c') (R++(L.take (i+1)).map (blkR k))):=by
    show LQ _ _ _ _ _ _ _ _ _
    rw [LT.out,EB.out,<- hx2,<- List.append_assoc];exact J2
   have wa:IntKind.i64.wrap (a+P)=x2:=by rw [hx2,IntKind.wrap_i64];have:=AB.out;omega
   simp only [Bm.eR] at rr
   clear J2 JR LT EB LE rc hx2 AB l0 lg
   have wP:=CK.out.2.2
   go_wp2_with (at_builtin;refine Bm.wpList_app rfl _ _ 110 rfl u3 (.slice (some ⟨wr.heap.size,0,none⟩) 1 1) rfl rfl (.slice v' nn c') W2 rr ?_)
   clear wP
   go_roundw
   case rel=>exact ⟨i+1,by omega,by go_num,J3⟩
   case measure=>simp only [Go.RowKit.intOf];omega
end Go.Proofs.YtajfbieacfjhnaaGreatDoor.Au
namespace Go.Proofs.YtajfbieacfjhnaaGreatDoor.Au
open Go.ChangeShapes Go.WideShapes Go.ChangeAt Go.RowKit Go.Maps Go.Sort Go.Shelf
open Go.Proofs.YtajfbieacfjhnaaGreatDoor.Tt
set_option linter.unusedSimpArgs false
set_option linter.unusedVariables false
set_option maxRecDepth 8000
def sortU_ren:Go.Shelf.Ren:=⟨fun | 6=>20 | 15=>62 | 14=>61 | 28=>114 | 29=>115 | 20=>106 | 21=>107 | 22=>108 | 23=>109 | 24=>110 | 25=>111 | 26=>112 | 27=>113 | 46=>152 | 47=>153 | 48=>154 | 49=>155 | 50=>156 | 57=>187 | n=>n,fun | 22=>22 | 24=>26 | 25=>64 | 3=>3 | 39=>142 | 0=>0 | 53=>131 | 55=>130 | 4=>4 | 46=>200 | 45=>199 | 50=>96 | 5=>5 | 9=>9 | 66=>240 | 70=>243 | 76=>265 | 77=>266 | n=>n,fun | n=>n⟩
theorem sortU:Go.Proofs.SlLaysF0.n6 Tryz.prog sortU_ren:={
 mixed:=by kernel_rfl
 f6:=⟨Tryz.f20.name,by decide,Tryz.func20.trans (congrArg some (by kernel_rfl))⟩
 f14:=⟨Tryz.f61.name,by decide,Tryz.func61.trans (congrArg some (by kernel_rfl))⟩
 f15:=Tryz.func62.trans (congrArg some (by kernel_rfl))
 f20:=⟨Tryz.f106.name,by decide,Tryz.func106.trans (congrArg some (by kernel_rfl))⟩
 f21:=⟨Tryz.f107.name,by decide,Tryz.func107.trans (congrArg some (by kernel_rfl))⟩
 f22:=⟨Tryz.f108.name,by decide,Tryz.func108.trans (congrArg some (by kernel_rfl))⟩
 f23:=⟨Tryz.f109.name,by decide,Tryz.func109.trans (congrArg some (by kernel_rfl))⟩
 f24:=⟨Tryz.f110.name,by decide,Tryz.func110.trans (congrArg some (by kernel_rfl))⟩
 f25:=⟨Tryz.f111.name,by decide,Tryz.func111.trans (congrArg some (by kernel_rfl))⟩
 f26:=⟨Tryz.f112.name,by decide,Tryz.func112.trans (congrArg some (by kernel_rfl))⟩
 f27:=⟨Tryz.f113.name,by decide,Tryz.func113.trans (congrArg some (by kernel_rfl))⟩
 f28:=Tryz.func114.trans (congrArg some (by kernel_rfl))
 f29:=Tryz.func115.trans (congrArg some (by kernel_rfl))
 f46:=⟨Tryz.f152.name,by decide,Tryz.func152.trans (congrArg some (by kernel_rfl))⟩
 f47:=Tryz.func153.trans (congrArg some (by kernel_rfl))
 f48:=Tryz.func154.trans (congrArg some (by kernel_rfl))
 f49:=⟨Tryz.f155.name,by decide,Tryz.func155.trans (congrArg some (by kernel_rfl))⟩
 f50:=⟨Tryz.f156.name,by decide,Tryz.func156.trans (congrArg some (by kernel_rfl))⟩
 f57:=⟨Tryz.f187.name,by decide,Tryz.func187.trans (congrArg some (by kernel_rfl))⟩
 t0:=Tryz.underlying0
 a0:=Tryz.isAgg0
 z0:=Tryz.sizeOf0
 v0:=Tryz.zeroValue0
 t3:=Tryz.underlying3
 a3:=Tryz.isAgg3
 z3:=Tryz.sizeOf3
 v3:=Tryz.zeroValue3
 t4:=Tryz.underlying4
 a4:=Tryz.isAgg4
 z4:=Tryz.sizeOf4
 v4:=Tryz.zeroValue4
 t5:=Tryz.underlying5
 a5:=Tryz.isAgg5
 z5:=Tryz.sizeOf5
 v5:=Tryz.zeroValue5
 t9:=Tryz.underlying9
 a9:=Tryz.isAgg9
 z9:=Tryz.sizeOf9
 v9:=Tryz.zeroValue9
 t22:=Tryz.underlying22
 a22:=Tryz.isAgg22
 z22:=Tryz.sizeOf22
 v22:=Tryz.zeroValue22
 t25:=Tryz.underlying64
 a25:=Tryz.isAgg64
 z25:=Tryz.sizeOf64
 v25:=Tryz.zeroValue64
 t39:=Tryz.underlying142
 a39:=Tryz.isAgg142
 z39:=Tryz.sizeOf142
 v39:=Tryz.zeroValue142
 t45:=Tryz.underlying199
 a45:=Tryz.isAgg199
 z45:=Tryz.sizeOf199
 v45:=Tryz.zeroValue199
 t46:=Tryz.underlying200
 a46:=Tryz.isAgg200
 z46:=Tryz.sizeOf200
 v46:=Tryz.zeroValue200
 t50:=Tryz.underlying96
 a50:=Tryz.isAgg96
 z50:=Tryz.sizeOf96
 v50:=Tryz.zeroValue96
 t53:=Tryz.underlying131
 a53:=Tryz.isAgg131
 z53:=Tryz.sizeOf131
 v53:=Tryz.zeroValue131
 t55:=Tryz.underlying130
 a55:=Tryz.isAgg130
 z55:=Tryz.sizeOf130
 v55:=Tryz.zeroValue130
 t66:=Tryz.underlying240
 a66:=Tryz.isAgg240
 z66:=Tryz.sizeOf240
 v66:=Tryz.zeroValue240
 t70:=Tryz.underlying243
 a70:=Tryz.isAgg243
 z70:=Tryz.sizeOf243
 v70:=Tryz.zeroValue243
 t76:=Tryz.underlying265
 a76:=Tryz.isAgg265
 z76:=Tryz.sizeOf265
 v76:=Tryz.zeroValue265
 t77:=Tryz.underlying266
 a77:=Tryz.isAgg266
 z77:=Tryz.sizeOf266
 v77:=Tryz.zeroValue266 }
theorem or_any (g:Nat) (a b c:Int) (W:World) (h0:W.cell? ⟨g,0,none⟩=some (.int .i64 a)) (h1:W.cell? ⟨g,1,none⟩=some (.int .i64 b)) (h2:W.cell? ⟨g,2,none⟩=some (.int .i64 c)) :
 Calls Tryz.prog 63 #[.slice (some ⟨g,0,none⟩) 3 3] W fun e w'=>e=.returned (.int .i64 (orI a b c))/\w'=W:=by
 unfold orI
 by_cases ca:a=0
 . subst ca
   rw [if_pos rfl]
   by_cases cb:b=0
   . subst cb
     rw [if_pos rfl]
     by_cases cc:c=0
     . subst cc
       go_enter Tryz.func63,Tryz.ntmps63
       go_wp2_with fail
       refine wp_loop_rounds 4 ?_
       rw [rounds_succ];go_wp2_with fail
       all_goals (try (rw [rounds_succ];go_wp2_with fail))
       all_goals (try (rw [rounds_succ];go_wp2_with fail))
       all_goals (try (rw [rounds_succ];go_wp2_with fail))
       go_ret
       exact ⟨rfl,rfl⟩
     . have d1:(c==0)=false:=by simp [cc]
       have d2:(c != 0)=true:=by simp [cc]
       go_enter Tryz.func63,Tryz.ntmps63
       go_wp2_with fail
       refine wp_loop_rounds 4 ?_
       rw [rounds_succ];go_wp2_with fail
       all_goals (try (rw [rounds_succ];go_wp2_with fail))
       all_goals (try (rw [rounds_succ];go_wp2_with fail))
       all_goals (try (rw [rounds_succ];go_wp2_with fail))
       go_ret
       exact ⟨rfl,rfl⟩
   . have d1:(b==0)=false:=by simp [cb]
     have d2:(b != 0)=true:=by simp [cb]
     rw [if_neg cb]
     go_enter Tryz.func63,Tryz.ntmps63
     go_wp2_with fail
     refine wp_loop_rounds 4 ?_
     rw [rounds_succ];go_wp2_with fail
     all_goals (try (rw [rounds_succ];go_wp2_with fail))
     all_goals (try (rw [rounds_succ];go_wp2_with fail))
     all_goals (try (rw [rounds_succ];go_wp2_with fail))
     go_ret
     exact ⟨rfl,rfl⟩
 . have d1:(a==0)=false:=by simp [ca]
   have d2:(a != 0)=true:=by simp [ca]
   rw [if_neg ca]
   go_enter Tryz.func63,Tryz.ntmps63
   go_wp2_with fail
   refine wp_loop_rounds 4 ?_
   rw [rounds_succ];go_wp2_with fail
   all_goals (try (rw [rounds_succ];go_wp2_with fail))
   all_goals (try (rw [rounds_succ];go_wp2_with fail))
   all_goals (try (rw [rounds_succ];go_wp2_with fail))
   go_ret
   exact ⟨rfl,rfl⟩
theorem lt_is (x y:Us):ltOf lexC x y=lexB x y:=rfl
theorem less_swo:SWO (ltOf lexC) where
 irrefl x:=by
  rw [lt_is];cases h:lexB x x with
  | false => rfl
  | true => rw [lexB_is] at h; omega
 trans x y z h1 h2:=by rw [lt_is] at *;rw [lexB_is] at *;omega
 ntrans x y z h1 h2:=by
  rw [lt_is] at *
  cases h:lexB x z with
  | false => rfl
  | true =>
   rw [lexB_is] at h
   have a: ¬ lexB x y=true:=by rw [h1];exact Bool.false_ne_true
   have b: ¬ lexB y z=true:=by rw [h2];exact Bool.false_ne_true
   rw [lexB_is] at a b
   omega
set_option maxHeartbeats 1000000 in
theorem order_any (x y:Us) (W:World):Calls Tryz.prog 21 #[.agg #[.int .i64 x.1,.int .i64 x.2.1,.int .i64 x.2.2],.agg #[.int .i64 y.1,.int .i64 y.2.1,.int .i64 y.2.2]] W fun e w'=>e=.returned (.int .i64 (lexC x y))/\ ∃ q os',w'=grow (W.drewN q) os':=by
 unfold lexC
 have C1:Hid (∀ V,_):=fun V=>Bm.compare_any x.1 y.1 V
 have C2:Hid (∀ V,_):=fun V=>Bm.compare_any x.2.1 y.2.1 V
 have C3:Hid (∀ V,_):=fun V=>Bm.compare_any x.2.2 y.2.2 V
 have OC:Hid (∀ (g:Nat) (a b c:Int) V,_->_->_->_):=fun g a b c V h0 h1 h2=>or_any g a b c V h0 h1 h2
 obtain ⟨x1,x2,x3⟩:=x
 obtain ⟨y1,y2,y3⟩:=y
 simp only at C1 C2 C3 |-
 generalize Bm.cmpI x1 y1=r1 at C1 |-
 generalize Bm.cmpI x2 y2=r2 at C2 |-
 generalize Bm.cmpI x3 y3=r3 at C3 |-
 have B1:Hid (Blk ((W.alloc (.cells #[.int .i64 x1,.int .i64 x2,.int .i64 x3] 26)).alloc (.cells #[.int .i64 y1,.int .i64 y2,.int .i64 y3] 26)) W.heap.size [.int .i64 x1,.int .i64 x2,.int .i64 x3] 26/\Blk ((W.alloc (.cells #[.int .i64 x1,.int .i64 x2,.int .i64 x3] 26)).alloc (.cells #[.int .i64 y1,.int .i64 y2,.int .i64 y3] 26)) (W.heap.size+1) [.int .i64 y1,.int .i64 y2,.int .i64 y3] 26):=by
  refine ⟨(Bm.Blk.made W _ _).below (Go.Joins.below_alloc1 _ _),?_⟩
  have q:=Bm.Blk.made (W.alloc (.cells #[.int .i64 x1,.int .i64 x2,.int .i64 x3] 26)) [.int .i64 y1,.int .i64 y2,.int .i64 y3] 26
  rw [World.size_alloc] at q;exact q
 have HW:Hid (∃ os,((W.alloc (.cells #[.int .i64 x1,.int .i64 x2,.int .i64 x3] 26)).alloc (.cells #[.int .i64 y1,.int .i64 y2,.int .i64 y3] 26))=grow W os):=⟨_,by rw [alloc_eq_grow,alloc_eq_grow,grow_grow]⟩
 go_enter Tryz.func21,Tryz.ntmps21
 go_upto_region 1 with fail
 generalize ((W.alloc (.cells #[.int .i64 x1,.int .i64 x2,.int .i64 x3] 26)).alloc (.cells #[.int .i64 y1,.int .i64 y2,.int .i64 y3] 26))=W2 at B1 HW |-
 obtain ⟨p,hp⟩: ∃ p,p=W.heap.size:=⟨_,rfl⟩
 rw [<- hp] at B1 |-
 obtain ⟨q,hq⟩: ∃ q,q=p+1:=⟨_,rfl⟩
 rw [<- hq] at B1 |-
 clear hp hq
 refine wp_region_noPanic ?_
 refine wp_region_held_drew (S:=fun cw=>Blk cw p [.int .i64 x1,.int .i64 x2,.int .i64 x3] 26/\Blk cw q [.int .i64 y1,.int .i64 y2,.int .i64 y3] 26) (by kernel_rfl) ?_ (fun hHeld=> ?_)
 . exact B1.out
 have HU:Hid (∃ os,W2.drew=grow (W.drewN 1) os):=by
  obtain ⟨os,e⟩:=HW.out
  exact ⟨os,by rw [e];rfl⟩
 clear HW B1
 generalize W2.drew=U at hHeld HU |-
 refine tk 0 5 ?_ rfl (Or.inl ⟨by rfl,?_⟩) ?_
 rotate_left
 . intro w hSw;(try dsimp only at hSw);go_simp;(try with_reducible rfl)
 try simp only [Act.put,List.setIfInBounds_toArray,List.set_cons_zero,List.set_cons_succ]
 refine tk 1 6 (.int .i64 x1) rfl (Or.inl ⟨by rfl,?_⟩) ?_
 . intro w hSw;(try dsimp only at hSw);have r:=Blk.cell hSw.1 0;(try go_simp);(try simp [*])
 try simp only [Act.put,List.setIfInBounds_toArray,List.set_cons_zero,List.set_cons_succ]
 refine tk 2 7 ?_ rfl (Or.inl ⟨by rfl,?_⟩) ?_
 rotate_left
 . intro w hSw;(try dsimp only at hSw);go_simp;(try with_reducible rfl)
 try simp only [Act.put,List.setIfInBounds_toArray,List.set_cons_zero,List.set_cons_succ]
 refine tk 3 8 (.int .i64 y1) rfl (Or.inl ⟨by rfl,?_⟩) ?_
 . intro w hSw;(try dsimp only at hSw);have r:=Blk.cell hSw.2 0;(try go_simp);(try simp [*])
 try simp only [Act.put,List.setIfInBounds_toArray,List.set_cons_zero,List.set_cons_succ]
 refine tk 5 10 ?_ rfl (Or.inl ⟨by rfl,?_⟩) ?_
 rotate_left
 . intro w hSw;(try dsimp only at hSw);go_simp;(try with_reducible rfl)
 try simp only [Act.put,List.setIfInBounds_toArray,List.set_cons_zero,List.set_cons_succ]
 refine tk 6 11 (.int .i64 x2) rfl (Or.inl ⟨by rfl,?_⟩) ?_
 . intro w hSw;(try dsimp only at hSw);have r:=Blk.cell hSw.1 1;(try go_simp);(try simp [*])
 try simp only [Act.put,List.setIfInBounds_toArray,List.set_cons_zero,List.set_cons_succ]
 refine tk 7 12 ?_ rfl (Or.inl ⟨by rfl,?_⟩) ?_
 rotate_left
 . intro w hSw;(try dsimp only at hSw);go_simp;(try with_reducible rfl)
 try simp only [Act.put,List.setIfInBounds_toArray,List.set_cons_zero,List.set_cons_succ]
 refine tk 8 13 (.int .i64 y2) rfl (Or.inl ⟨by rfl,?_⟩) ?_
 . intro w hSw;(try dsimp only at hSw);have r:=Blk.cell hSw.2 1;(try go_simp);(try simp [*])
 try simp only [Act.put,List.setIfInBounds_toArray,List.set_cons_zero,List.set_cons_succ]
 refine tk 10 15 ?_ rfl (Or.inl ⟨by rfl,?_⟩) ?_
 rotate_left
 . intro w hSw;(try dsimp only at hSw);go_simp;(try with_reducible rfl)
 try simp only [Act.put,List.setIfInBounds_toArray,List.set_cons_zero,List.set_cons_succ]
 refine tk 11 16 (.int .i64 x3) rfl (Or.inl ⟨by rfl,?_⟩) ?_
 . intro w hSw;(try dsimp only at hSw);have r:=Blk.cell hSw.1 2;(try go_simp);(try simp [*])
 try simp only [Act.put,List.setIfInBounds_toArray,List.set_cons_zero,List.set_cons_succ]
 refine tk 12 17 ?_ rfl (Or.inl ⟨by rfl,?_⟩) ?_
 rotate_left
 . intro w hSw;(try dsimp only at hSw);go_simp;(try with_reducible rfl)
 try simp only [Act.put,List.setIfInBounds_toArray,List.set_cons_zero,List.set_cons_succ]
 refine tk 13 18 (.int .i64 y3) rfl (Or.inl ⟨by rfl,?_⟩) ?_
 . intro w hSw;(try dsimp only at hSw);have r:=Blk.cell hSw.2 2;(try go_simp);(try simp [*])
 try simp only [Act.put,List.setIfInBounds_toArray,List.set_cons_zero,List.set_cons_succ]
 refine wpAnyH_ready (rs:=[4]) (by kernel_rfl) (by simp) ?_
 refine AllReadyH.cons (o:=⟨some 9,_,_,_,_,none⟩) rfl (fun K hK=> ?_) AllReadyH.nil
 go_simp
 go_wp2_with (go_at_call 64;refine Calls.mono (C1.out _) ?_;rintro e w' ⟨rfl,hu⟩;have hu2:=hu.symm;clear hu;subst hu2)
 refine hK.out _ _ hHeld (fun hHeld2=> ?_)
 clear hK K hHeld C1
 have hHeld:=hHeld2
 clear hHeld2
 try simp only [Act.put,List.setIfInBounds_toArray,List.set_cons_zero,List.set_cons_succ]
 refine wpAnyH_ready (rs:=[9]) (by kernel_rfl) (by simp) ?_
 refine AllReadyH.cons (o:=⟨some 14,_,_,_,_,none⟩) rfl (fun K hK=> ?_) AllReadyH.nil
 go_simp
 go_wp2_with (go_at_call 64;refine Calls.mono (C2.out _) ?_;rintro e w' ⟨rfl,hu⟩;have hu2:=hu.symm;clear hu;subst hu2)
 refine hK.out _ _ hHeld (fun hHeld2=> ?_)
 clear hK K hHeld C2
 have hHeld:=hHeld2
 clear hHeld2
 try simp only [Act.put,List.setIfInBounds_toArray,List.set_cons_zero,List.set_cons_succ]
 refine wpAnyH_ready (rs:=[14]) (by kernel_rfl) (by simp) ?_
 refine AllReadyH.cons (o:=⟨some 19,_,_,_,_,none⟩) rfl (fun K hK=> ?_) AllReadyH.nil
 go_simp
 go_wp2_with (go_at_call 64;refine Calls.mono (C3.out _) ?_;rintro e w' ⟨rfl,hu⟩;have hu2:=hu.symm;clear hu;subst hu2)
 refine hK.out _ _ hHeld (fun hHeld2=> ?_)
 clear hK K hHeld C3
 have hHeld:=hHeld2
 clear hHeld2
 try simp only [Act.put,List.setIfInBounds_toArray,List.set_cons_zero,List.set_cons_succ]
 refine wpAnyH_ready (rs:=[15]) (by kernel_rfl) (by simp) ?_
 refine AllReadyH.cons (o:=⟨some 20,_,_,_,_,none⟩) rfl (fun K hK=> ?_) AllReadyH.nil
 go_simp
 have gb:Below U.heap.size U (U.alloc (.cells #[.int .i64 r1,.int .i64 r2,.int .i64 r3] 3)):=Go.Joins.below_alloc1 _ _
 have BV:Hid (Blk (U.alloc (.cells #[.int .i64 r1,.int .i64 r2,.int .i64 r3] 3)) U.heap.size [.int .i64 r1,.int .i64 r2,.int .i64 r3] 3):=Blk.made _ _ _
 have HV:Hid (∃ os,U.alloc (.cells #[.int .i64 r1,.int .i64 r2,.int .i64 r3] 3)=grow (W.drewN 1) os):=by
  obtain ⟨os,e⟩:=HU.out
  exact ⟨_,by rw [alloc_eq_grow,e,grow_grow]⟩
 refine hK.out _ _ ⟨hHeld.1.below gb,hHeld.2.below gb⟩ (fun hHeld2=> ?_)
 clear hK K hHeld gb HU
 have hHeld:=hHeld2
 clear hHeld2
 try simp only [Act.put,List.setIfInBounds_toArray,List.set_cons_zero,List.set_cons_succ]
 generalize U.alloc (.cells #[.int .i64 r1,.int .i64 r2,.int .i64 r3] 3)=V at hHeld BV HV |-
 generalize U.heap.size=g at BV |-
 refine wpAnyH_ready (rs:=[16]) (by kernel_rfl) (by simp) ?_
 refine AllReadyH.cons (o:=⟨some 21,_,_,_,_,none⟩) rfl (fun K hK=> ?_) AllReadyH.nil
 go_simp
 go_wp2_with (go_at_call 63;refine Calls.mono (OC.out g r1 r2 r3 _ (BV.out.cell 0) (BV.out.cell 1) (BV.out.cell 2)) ?_;rintro e w' ⟨rfl,hu⟩;have hu2:=hu.symm;clear hu;subst hu2)
 refine hK.out _ _ hHeld (fun hHeld2=> ?_)
 clear hK K hHeld OC BV
 have hHeld:=hHeld2
 clear hHeld2
 try simp only [Act.put,List.setIfInBounds_toArray,List.set_cons_zero,List.set_cons_succ]
 refine tk 17 4 ?_ rfl (Or.inl ⟨by rfl,?_⟩) ?_
 rotate_left
 . intro w hSw;(try dsimp only at hSw);go_simp;(try with_reducible rfl)
 try simp only [Act.put,List.setIfInBounds_toArray,List.set_cons_zero,List.set_cons_succ]
 clear hHeld
 refine wpAnyH_done (by kernel_rfl) ?_ _
 refine NoPanic.normal ?_
 go_wp2_with fail
 go_returns
 obtain ⟨os,e⟩:=HV.out
 exact ⟨rfl,1,os,e⟩
theorem sort_any (base:Nat) (v:Value) (L:List Us) (hL:L.length<=1048576) (w:World) (O:OU w base v L) (hb:base<=w.heap.size) :
 Calls Tryz.prog 20 #[v,.func (.func 21) #[] #[]] w fun e w'=>e=.returned (.tuple #[])/\ ∃ S,S.Perm L/\(S.Pairwise fun a b=>lexB b a=false)/\UL w' base v S/\Below base w w'/\w.grownBy w' v.ownBlock:=by
 have O2:=O
 obtain ⟨hl',⟨hv,h0⟩ | ⟨g,cap,cur,hv,hbb,hblk,hcap,hmx,hsz,htk⟩⟩:=O
 . obtain rfl:L=[]:=List.eq_nil_of_length_eq_zero h0
   subst hv
   have:=AnyF.slices_SortFunc_none { sortU with } none 0 (.func (.func 21) #[] #[]) w
   change Calls Tryz.prog 20 _ _ _ at this
   refine this.mono ?_
   rintro e w' ⟨rfl,rfl⟩
   exact ⟨rfl,[],List.Perm.refl _,List.Pairwise.nil,Or.inl ⟨rfl,rfl⟩,Below.refl _ _,⟨rfl,rfl,rfl,Nat.le_refl _,fun _ _ _=>rfl⟩⟩
 . subst hv
   have glt:=Bm.blk_lt hblk
   have hH:HoldsK eU 3 w g 0 L.toArray:=by
    intro j hj
    rw [size_flatK] at hj
    rw [get_flatK _ _ _ _ hj]
    have hj':j<L.length*3:=by simpa using hj
    refine ⟨?_,Go.Joins.unfrozen_of_block hblk _⟩
    have hc:=World.ownsRow.cells (g:=g) O2 rfl j
    have i1:j / 3<L.length:=by omega
    have q:=Bm.flat_get eU_len L (j / 3) i1 (j % 3) (by omega)
    have e:j / 3*3+j % 3=j:=by omega
    rw [e] at q
    have lt2:j % 3<(eU L[j / 3]).length:=by rw [eU_len];omega
    rw [List.getElem?_eq_getElem lt2] at q
    have:=hc _ q
    rw [Addr.add_mid,Nat.zero_add] at this
    rw [Nat.zero_add,this]
    have e2:L.toArray[j / 3]! =L[j / 3]:=by simp [i1]
    rw [e2]
    have e3:(eU L[j / 3])[j % 3]! =(eU L[j / 3])[j % 3]:=by rw [getElem!_pos (eU L[j / 3]) (j % 3) lt2]
    rw [e3];rfl
   have eg:=enters_of Tryz.func21 (by kernel_rfl) rfl
   have con:=AnyQ.slices_SortFunc sortU 3 Tryz.isAgg26 Tryz.sizeOf26 eU eU_len eU_one lexC less_swo 21 #[] g 0 cap L.toArray w eg (fun _ _ _ _ x y=>order_any x y _) hH glt (by simp;omega)
   change Calls Tryz.prog 20 _ _ _ at con
   rw [show L.toArray.size=L.length by simp] at con
   refine con.mono ?_
   rintro e w' ⟨rfl,d',n,os,hp,hs,rfl⟩
   obtain ⟨p1,p2,p3⟩:=hp
   have s1:d'.size=L.length:=by rw [p1];simp
   have pm:d'.toList.Perm L:=by
    have e1:(d'.extract 0 L.length).toList=d'.toList:=by rw [<- s1];simp
    have e2:(L.toArray.extract 0 L.length).toList=L:=by simp
    rw [e1,e2] at p3
    exact p3
   refine ⟨rfl,d'.toList,pm,?_,?_,?_⟩
   . rw [List.pairwise_iff_getElem]
     intro i j hi hj hij
     have hi':i<d'.size:=by simpa using hi
     have hj':j<d'.size:=by simpa using hj
     have q:=hs i j (Nat.zero_le _) hij (by rw [<- s1];exact hj')
     rw [lt_is] at q
     rw [getElem!_pos d' j hj',getElem!_pos d' i hi'] at q
     simp only [Array.getElem_toList]
     exact q
   . have hh:=holdsK_sortWorldK eU 3 w g 0 n L.toArray d' os glt hH p1
     have sl:=lt_sortWorldK eU 3 w g 0 n d' os glt
     refine Or.inr ⟨g,0,cap,by simp [s1],by simp [s1];omega,hbb,sl,fun i hi j hj=> ?_⟩
     have hi':i<d'.size:=by simpa using hi
     have q:=(HoldsK.cell hh hi' hj).1
     rw [q,getElem!_pos d' i hi']
     have lt2:j<(eU d'[i]).length:=by rw [eU_len];exact hj
     rw [getElem!_pos (eU d'[i]) j lt2]
     simp only [Array.getElem_toList]
     rw [List.getElem?_eq_getElem lt2]
   . have GB:w.grownBy (sortWorldK eU 3 w g 0 n d' os) (some g):=by
      refine ⟨rfl,rfl,rfl,?_,fun j hj hne=> ?_⟩
      . simp [sortWorldK,putRowK,putRow,mapBlock,grow,Sort.ahead]
      . have:(grow (putRowK eU 3 (Sort.ahead w n) g 0 d') os).heap[j]? =(putRowK eU 3 (Sort.ahead w n) g 0 d').heap[j]? :=heap_grow_old _ _ (by simp [putRowK,putRow,mapBlock,Sort.ahead];exact hj)
        show (grow (putRowK eU 3 (Sort.ahead w n) g 0 d') os).heap[j]? =_
        rw [this]
        exact Bm.heap_modify_other _ _ _ _ (fun e=>hne (by rw [e]))
     exact ⟨⟨GB.os,GB.tape,GB.output,GB.size,fun j hj=>GB.block j (Nat.lt_of_lt_of_le hj hb) (fun e=>by have:=Option.some.inj e;omega)⟩,GB⟩
end Go.Proofs.YtajfbieacfjhnaaGreatDoor.Au
