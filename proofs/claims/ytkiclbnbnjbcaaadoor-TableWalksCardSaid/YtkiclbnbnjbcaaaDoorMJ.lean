import Derived.Test.YtkiclbnbnjbcaaaDoorME
namespace Go.Proofs.YtkiclbnbnjbcaaaDoor.Tt
open Go.ChangeShapes Go.WideShapes Go.ChangeAt Go.RowKit Go.Maps
set_option linter.unusedSimpArgs false
set_option linter.unusedVariables false
set_option maxRecDepth 8000
abbrev Lv:=Nat × Lf
def Lf.zero:Lf:=⟨0,false,false,false⟩
def eF (x:Lv):List Value:=[.int .i64 (x.1:Nat),.int .i64 x.2.f,.bool x.2.w,.bool x.2.u,.bool x.2.x]
theorem eF_len (x:Lv):(eF x).length=5:=rfl
theorem eF_one (x:Lv): ∀ u∈eF x,u.oneCell'=true:=by intro u hu;simp [eF] at hu;rcases hu with rfl | rfl | rfl | rfl | rfl <;> rfl
theorem infoF: ∃ i,Tryd.prog.info? 63=some i/\i.zero=some (.agg #[.int .i64 0,.int .i64 0,.bool false,.bool false,.bool false])/\i.size=5/\i.bytes=24:=⟨_,rfl,by kernel_rfl,by kernel_rfl,by kernel_rfl⟩
theorem rise_by: ∀ {a b:List Lv},a.Pairwise (fun x y=>x.1<y.1)->b.Pairwise (fun x y=>x.1<y.1)->(∀ x,x∈a↔x∈b)->a=b
 | [], [], _, _, _ => rfl
 | [], y :: b, _, _, h => absurd ((h y).2 List.mem_cons_self) List.not_mem_nil
 | x :: a, [], _, _, h => absurd ((h x).1 List.mem_cons_self) List.not_mem_nil
 | x :: a, y :: b, ha, hb, h => by
  have ha':=List.pairwise_cons.1 ha
  have hb':=List.pairwise_cons.1 hb
  have e:x=y:=by
   rcases List.mem_cons.1 ((h x).1 List.mem_cons_self) with q | q
   . exact q
   . rcases List.mem_cons.1 ((h y).2 List.mem_cons_self) with r | r
     . exact r.symm
     . have:=hb'.1 x q;have:=ha'.1 y r;omega
  subst e
  congr 1
  refine rise_by ha'.2 hb'.2 (fun z=> ?_)
  constructor
  . intro hz
    rcases List.mem_cons.1 ((h z).1 (List.mem_cons_of_mem _ hz)) with q | q
    . have:=ha'.1 z hz;rw [q] at this;omega
    . exact q
  . intro hz
    rcases List.mem_cons.1 ((h z).2 (List.mem_cons_of_mem _ hz)) with q | q
    . have:=hb'.1 z hz;rw [q] at this;omega
    . exact q
def Bd0 (lf:Nat->Option Lf):Prop:= ∀ q v,lf q=some v->q<34359738368
theorem Bd0.del {lf:Nat->Option Lf} (h:Bd0 lf) (p:Nat):Bd0 (lfSet lf p none):=fun q v e=>by
 by_cases c:q=p
 . subst c;rw [lf_same] at e;cases e
 . rw [lf_other c] at e;exact h q v e
theorem Bd0.put {lf:Nat->Option Lf} (h:Bd0 lf) {p:Nat} (hp:p<34359738368) (v:Lf):Bd0 (lfSet lf p (some v)):=fun q u e=>by
 by_cases c:q=p
 . subst c;exact hp
 . rw [lf_other c] at e;exact h q u e
theorem Bd0.mem {lf:Nat->Option Lf} (h:Bd0 lf) (p:Nat):p∈pgs lf↔(lf p).isSome=true:=by
 rw [mem_pg]
 constructor
 . exact fun q=>q.2
 . intro q
   obtain ⟨v,hv⟩:=Option.isSome_iff_exists.1 q
   exact ⟨pre4 (h p v hv),q⟩
def lvs (lf:Nat->Option Lf):List Lv:=(pgs lf).map fun p=>(p,(lf p).getD Lf.zero)
theorem lvs_rise (lf:Nat->Option Lf):(lvs lf).Pairwise (fun x y=>x.1<y.1):=by
 unfold lvs
 rw [List.pairwise_map]
 exact pg_rising lf 4 0
theorem lvs_mem {lf:Nat->Option Lf} (h:Bd0 lf) (x:Lv):x∈lvs lf↔lf x.1=some x.2:=by
 unfold lvs
 rw [List.mem_map]
 constructor
 . rintro ⟨p,hp,rfl⟩
   obtain ⟨v,hv⟩:=Option.isSome_iff_exists.1 ((h.mem p).1 hp)
   show lf p=some ((lf p).getD Lf.zero)
   rw [hv];rfl
 . intro e
   refine ⟨x.1,(h.mem _).2 (by rw [e];rfl),?_⟩
   rw [e];rfl
theorem lvs_fst (lf:Nat->Option Lf):(lvs lf).map (·.1)=pgs lf:=by
 unfold lvs
 rw [List.map_map]
 exact List.map_id _
theorem lvs_len (lf:Nat->Option Lf):(lvs lf).length=(pgs lf).length:=by unfold lvs;rw [List.length_map]
theorem lvs_none:lvs (fun _=>none)=[]:=by unfold lvs;rw [pgs_none];rfl
def wth:List Lv->Lv->List Lv
 | [], x => [x]
 | y :: D, x => if x.1 < y.1 then x :: y :: D else y :: wth D x
theorem wth_mem (x:Lv): ∀ (D:List Lv) (y:Lv),y∈wth D x↔y=x\/y∈D:=by
 intro D
 induction D with
 | nil => intro y; simp [wth]
 | cons z D ih =>
  intro y
  unfold wth
  by_cases c:x.1<z.1
  . rw [if_pos c];simp
  . rw [if_neg c,List.mem_cons,ih,List.mem_cons]
    constructor
    . rintro (q | q | q)
      . exact Or.inr (Or.inl q)
      . exact Or.inl q
      . exact Or.inr (Or.inr q)
    . rintro (q | q | q)
      . exact Or.inr (Or.inl q)
      . exact Or.inl q
      . exact Or.inr (Or.inr q)
theorem wth_rise (x:Lv): ∀ (D:List Lv),D.Pairwise (fun x y=>x.1<y.1)->(∀ y∈D,y.1≠x.1)->(wth D x).Pairwise (fun x y=>x.1<y.1):=by
 intro D
 induction D with
 | nil => intro _ _; simp [wth]
 | cons z D ih =>
  intro h hn
  obtain ⟨h1,h2⟩:=List.pairwise_cons.1 h
  unfold wth
  by_cases c:x.1<z.1
  . rw [if_pos c,List.pairwise_cons]
    refine ⟨fun y hy=> ?_,h⟩
    rcases List.mem_cons.1 hy with q | q
    . rw [q];exact c
    . have:=h1 y q;omega
  . rw [if_neg c,List.pairwise_cons]
    refine ⟨fun y hy=> ?_,ih h2 (fun y hy=>hn y (List.mem_cons_of_mem _ hy))⟩
    rcases (wth_mem x D y).1 hy with q | q
    . rw [q];have:=hn z List.mem_cons_self;omega
    . exact h1 y q
theorem with_lvs {lf:Nat->Option Lf} (h:Bd0 lf) {p:Nat} (hp:p<34359738368) (e:lf p=none) (v:Lf):wth (lvs lf) (p,v)=lvs (lfSet lf p (some v)):=by
 refine rise_by (wth_rise _ _ (lvs_rise lf) (fun y hy q=> ?_)) (lvs_rise _) (fun y=> ?_)
 . have:=(lvs_mem h y).1 hy
   have q':y.1=p:=q
   rw [q',e] at this;cases this
 . rw [wth_mem,lvs_mem h,lvs_mem (h.put hp v)]
   by_cases c:y.1=p
   . rw [c,lf_same,e]
     constructor
     . rintro (q | q)
       . rw [q]
       . cases q
     . intro q
       left
       have:=Option.some.inj q
       exact Prod.ext c this.symm
   . rw [lf_other c]
     constructor
     . rintro (q | q)
       . exact absurd (by rw [q]) c
       . exact q
     . exact Or.inr
def wo (D:List Lv) (p:Int):List Lv:=D.filter fun x=>decide ((x.1:Int)≠p)
theorem wo_lvs {lf:Nat->Option Lf} (h:Bd0 lf) (p:Nat):wo (lvs lf) p=lvs (lfSet lf p none):=by
 refine rise_by ((lvs_rise lf).filter _) (lvs_rise _) (fun y=> ?_)
 unfold wo
 rw [List.mem_filter,lvs_mem h,lvs_mem (h.del p)]
 by_cases c:y.1=p
 . rw [c,lf_same];simp
 . rw [lf_other c]
   have: ¬ (y.1:Int)=(p:Int):=by omega
   simp [this]
theorem wo_all {D:List Lv} {p:Int} (h: ∀ x∈D,(x.1:Int)≠p):wo D p=D:=by
 unfold wo
 rw [List.filter_eq_self]
 intro x hx
 simpa using h x hx
theorem lf_twice (lf:Nat->Option Lf) (p:Nat) (v:Lf):lfSet (lfSet lf p none) p (some v)=lfSet lf p (some v):=by
 funext q
 by_cases c:q=p
 . subst c;rw [lf_same,lf_same]
 . rw [lf_other c,lf_other c,lf_other c]
def fnd (D:List Lv) (p:Int):Option Lv:=D.find? fun x=>decide ((x.1:Int)=p)
theorem fnd_some {lf:Nat->Option Lf} (h:Bd0 lf) {p:Nat} {v:Lf} (e:lf p=some v):fnd (lvs lf) p=some (p,v):=by
 cases q:fnd (lvs lf) p with
 | none =>
  have:=List.find?_eq_none.1 q (p,v) ((lvs_mem h _).2 e)
  simp at this
 | some x =>
  have m:=List.mem_of_find?_eq_some q
  have t:=List.find?_some q
  have t':x.1=p:=by
   have t2:(x.1:Int)=(p:Int):=by simpa using t
   omega
  have:=(lvs_mem h x).1 m
  rw [t',e] at this
  have:=Option.some.inj this
  obtain ⟨a,b⟩:=x
  simp only at t' this
  rw [t',this]
theorem fnd_none {lf:Nat->Option Lf} (h:Bd0 lf) {p:Int} (e: ¬ (0<=p/\p<34359738368)\/lf p.toNat=none):fnd (lvs lf) p=none:=by
 unfold fnd
 rw [List.find?_eq_none]
 intro x hx
 have m:=(lvs_mem h x).1 hx
 have b:=h _ _ m
 simp only [decide_eq_true_eq]
 intro q
 rcases e with e | e
 . omega
 . rw [<- q,Int.toNat_natCast,m] at e;cases e
def wI (x:Lv):List Lv->List Lv × Bool->List Lv × Bool
 | [], s => s
 | y :: D, s => wI x D (if s.2 = false ∧ x.1 < y.1 then (s.1 ++ [x] ++ [y], true) else (s.1 ++ [y], s.2))
theorem wI_done (x:Lv): ∀ (D A:List Lv),wI x D (A,true)=(A++D,true):=by
 intro D
 induction D with
 | nil => intro A; simp [wI]
 | cons y D ih => intro A; unfold wI; rw [if_neg (by simp), ih]; simp
theorem wI_end (x:Lv): ∀ (D A:List Lv),(wI x D (A,false)).1++(if (wI x D (A,false)).2=true then [] else [x])=A++wth D x:=by
 intro D
 induction D with
 | nil => intro A; simp [wI, wth]
 | cons y D ih =>
  intro A
  unfold wI wth
  by_cases c:x.1<y.1
  . rw [if_pos ⟨rfl,c⟩,if_pos c,wI_done];simp
  . rw [if_neg (fun q=>c q.2),if_neg c,ih];simp
theorem wI_take (x:Lv): ∀ (D:List Lv) (i:Nat) (hi:i<D.length) (s:List Lv × Bool),wI x (D.take (i+1)) s=(if (wI x (D.take i) s).2=false/\x.1<(D[i]).1 then ((wI x (D.take i) s).1++[x]++[D[i]],true) else ((wI x (D.take i) s).1++[D[i]],(wI x (D.take i) s).2)):=by
 intro D
 induction D with
 | nil => intro i hi; exact absurd hi (Nat.not_lt_zero _)
 | cons y D ih =>
  intro i hi s
  cases i with
  | zero => rfl
  | succ i => exact ih i (by simpa using hi) _
theorem wI_len (x:Lv): ∀ (D:List Lv) (s:List Lv × Bool),(wI x D s).1.length<=s.1.length+D.length+1/\(s.2=true->(wI x D s).1.length<=s.1.length+D.length):=by
 intro D
 induction D with
 | nil => intro s; exact ⟨Nat.le_succ _, fun _ => Nat.le_refl _⟩
 | cons y D ih =>
  intro s
  unfold wI
  by_cases c:s.2=false/\x.1<y.1
  . rw [if_pos c]
    have a:=(ih (s.1++[x]++[y],true)).2 rfl
    simp at a
    refine ⟨by simp;omega,fun q=>by rw [c.1] at q;cases q⟩
  . rw [if_neg c]
    have a:=ih (s.1++[y],s.2)
    simp at a
    refine ⟨by simp;omega,fun q=>by have:=a.2 q;simp;omega⟩
theorem frL_last {P:List Nat} (h:P.Pairwise (· < ·)) {i:Nat} (hi:i<P.length) (l:Nat):frL l (P.take i) P[i]=if i=0 then 1 else if pre l (P[i-1]'(by omega))=pre l P[i] then 0 else 1:=by
 by_cases c:i=0
 . subst c;rw [if_pos rfl];rfl
 . rw [if_neg c]
   have up: ∀ a b,(ha:a<P.length)->(hb:b<P.length)->a<b->P[a]<P[b]:=fun a b ha hb hab=>(List.pairwise_iff_getElem.1 h) a b ha hb hab
   by_cases e:pre l (P[i-1]'(by omega))=pre l P[i]
   . rw [if_pos e]
     refine frL_zero (q:=P[i-1]'(by omega)) ?_ e
     rw [List.mem_take_iff_getElem]
     exact ⟨i-1,by omega,rfl⟩
   . rw [if_neg e]
     refine frL_one (fun q hq r=> ?_)
     rw [List.mem_take_iff_getElem] at hq
     obtain ⟨j,hj,rfl⟩:=hq
     have j1:P[j]'(by omega)<=P[i-1]'(by omega):=by
      by_cases cj:j=i-1
      . subst cj;exact Nat.le_refl _
      . exact Nat.le_of_lt (up j (i-1) (by omega) (by omega) (by omega))
     have j2:=Nat.le_of_lt (up (i-1) i (by omega) hi (by omega))
     have a:=pre_mono j1 l
     have b:=pre_mono j2 l
     omega
theorem tabs_take {P:List Nat} {i:Nat} (hi:i<P.length):tabsN (P.take (i+1))=tabsN (P.take i)+fresh (P.take i) P[i]:=by
 have:(P.take (i+1)).Perm (P[i]::P.take i):=by
  rw [List.take_succ_eq_append_getElem hi]
  exact List.perm_append_singleton _ _
 exact (tabs_perm this).trans rfl
end Go.Proofs.YtkiclbnbnjbcaaaDoor.Tt
namespace Go.Proofs.YtkiclbnbnjbcaaaDoor.Tt
open Go.ChangeShapes Go.WideShapes Go.ChangeAt Go.RowKit Go.Maps
open Go.Proofs.YtkiclbnbnjbcaaaDoor.Li (wpList_app)
set_option linter.unusedSimpArgs false
set_option linter.unusedVariables false
set_option maxRecDepth 8000
def IsF (w:World) (p:Option Addr) (D:List Lv):Prop:= ∀ i (hi:i<D.length),∃ g,p=some ⟨g,0,none⟩/\g<w.heap.size/\ ∀ j x,(eF D[i])[j]? =some x->w.cell? ⟨g,i*5+j,none⟩=some x
theorem IsF.below {w W:World} {p:Option Addr} {D:List Lv} (h:IsF w p D) (hb:Below w.heap.size w W):IsF W p D:=fun i hi=>by
 obtain ⟨g,e,l,c⟩:=h i hi
 exact ⟨g,e,Nat.lt_of_lt_of_le l hb.size,fun j x hx=>below_cell hb l (c j x hx)⟩
abbrev OF (w:World) (base:Nat) (v:Value) (D:List Lv):Prop:=Li.OL 63 5 eF w base v D
theorem of_read {w:World} {base:Nat} {v:Value} {D:List Lv} (O:OF w base v D): ∃ p c,v=.slice p D.length c/\D.length<=c/\IsF w p D/\ ∀ g o z,p=some ⟨g,o,z⟩->base<=g/\g<w.heap.size:=by
 have hc:=fun g (hg:v.ownBlock=some g)=>World.ownsRow.cells (g:=g) O hg
 obtain ⟨hl',⟨hv,h0⟩ | ⟨g,cap,cur,hv,hb,hblk,hcap,_⟩⟩:=O
 . have:D=[]:=List.eq_nil_of_length_eq_zero h0
   subst this
   exact ⟨none,0,hv,Nat.le_refl _,fun i hi=>absurd hi (Nat.not_lt_zero _),fun g o z e=>by cases e⟩
 . refine ⟨_,cap,hv,hcap,fun i hi=>⟨g,rfl,blk_lt hblk,fun j x hx=> ?_⟩,fun g' o z e=>by cases e;exact ⟨hb,blk_lt hblk⟩⟩
   have hj:j<5:=by have:=(List.getElem?_eq_some_iff.1 hx).1;rw [eF_len] at this;exact this
   have hg:=Li.flat_get eF_len D i hi j hj
   rw [hx] at hg
   have:=hc g (by rw [hv];rfl) (i*5+j) _ hg
   rw [Addr.add_mid,Nat.zero_add] at this
   exact this
structure OFI (W w:World) (v:Value) (D:List Lv):Prop where
 bel:Below W.heap.size W w
 own:OF w W.heap.size v D
theorem OFI.grow {W w w':World} {v:Value} {D:List Lv} (H:OFI W w v D) (hb:Below w.heap.size w w'):OFI W w' v D:=⟨H.bel.trans (Go.Joins.below_le hb H.bel.size),Li.row_below H.own hb⟩
theorem OFI.app {W w:World} {v:Value} {D:List Lv} (H:OFI W w v D) (hD:D.length<=1000000) (x:Lv) :
 ∃ v' W2,(Builtin.append_ #[36,36] 36 #[v,.slice (some ⟨w.heap.size,0,none⟩) 1 1]).run Tryd.prog (w.alloc (.cells #[.int .i64 (x.1:Nat),.int .i64 x.2.f,.bool x.2.w,.bool x.2.u,.bool x.2.x] 63))=.ok v' W2/\OFI W W2 v' (D++[x])/\ ∀ j,j<w.heap.size->v.ownBlock≠some j->W2.heap[j]? =w.heap[j]? :=by
 obtain ⟨v',W2,r,ho,hg,hat⟩:=Li.app_row eF_len eF_one (by decide) Tryd.underlying36 infoF rfl (by decide) W.heap.size v D x (by omega) w H.own H.bel.size
 have b1:Below w.heap.size w (w.alloc (.cells (eF x).toArray 63)):=Go.Joins.below_alloc1 _ _
 have hb:=H.bel.trans (Go.Joins.below_le b1 H.bel.size)
 refine ⟨v',W2,r,⟨hb.trans ⟨hg.os,hg.tape,hg.output,hg.size,fun j hj=>hg.block j (Nat.lt_of_lt_of_le hj hb.size) (fun e=> ?_)⟩,ho⟩,fun j hj ne=> ?_⟩
 . have:=(Li.row_lt H.own j e.symm).1
   omega
 . exact (hg.block j (Nat.lt_of_lt_of_le hj b1.size) (fun e=>ne e.symm)).trans (b1.block j hj)
structure OII (W w:World) (v:Value) (L:List Nat):Prop where
 bel:Below W.heap.size W w
 own:Li.OI w W.heap.size v (ints L)
theorem OII.grow {W w w':World} {v:Value} {L:List Nat} (H:OII W w v L) (hb:Below w.heap.size w w'):OII W w' v L:=⟨H.bel.trans (Go.Joins.below_le hb H.bel.size),Li.row_below H.own hb⟩
theorem OII.app {W w:World} {v:Value} {L:List Nat} (H:OII W w v L) (hL:L.length<=1000000) (p:Nat) :
 ∃ v' W2,(Builtin.append_ #[44,44] 44 #[v,.slice (some ⟨w.heap.size,0,none⟩) 1 1]).run Tryd.prog (w.alloc (.cells #[.int .i64 p] 3))=.ok v' W2/\OII W W2 v' (L++[p]):=by
 obtain ⟨v',W2,r,ho,hg,hat⟩:=Li.app_row Li.eI_len Li.eI_one (by decide) Tryd.underlying44 Li.infoI rfl (by decide) W.heap.size v (ints L) (p:Int) (by rw [List.length_map];omega) w H.own H.bel.size
 have b1:Below w.heap.size w (w.alloc (.cells (Li.eI p).toArray 3)):=Go.Joins.below_alloc1 _ _
 have hb:=H.bel.trans (Go.Joins.below_le b1 H.bel.size)
 refine ⟨v',W2,r,hb.trans ⟨hg.os,hg.tape,hg.output,hg.size,fun j hj=>hg.block j (Nat.lt_of_lt_of_le hj hb.size) (fun e=> ?_)⟩,?_⟩
 . have:=(Li.row_lt H.own j e.symm).1
   omega
 . have e:ints (L++[p])=ints L++[(p:Int)]:=by simp [ints]
   rw [e];exact ho
abbrev Lv.val (x:Lv):Value:=.agg #[.int .i64 (x.1:Nat),.int .i64 x.2.f,.bool x.2.w,.bool x.2.u,.bool x.2.x]
def fndV (D:List Lv) (p:Int):Lv × Bool:=match fnd D p with | some x=>(x,true) | none=>((0,Lf.zero),false)
theorem fnd_hit (p:Int): ∀ (D:List Lv) (i:Nat) (hi:i<D.length),(∀ k (hk:k<i),((D[k]'(by omega)).1:Int)≠p)->((D[i]).1:Int)=p->fndV D p=(D[i],true):=by
 intro D
 induction D with
 | nil => intro i hi; exact absurd hi (Nat.not_lt_zero _)
 | cons y D ih =>
  intro i hi hn e
  cases i with
  | zero =>
   have e':(y.1:Int)=p:=e
   unfold fndV fnd
   rw [List.find?_cons_of_pos (by simpa using e')]
   rfl
  | succ i =>
   have h0: ¬ (y.1:Int)=p:=hn 0 (by omega)
   have q:=ih i (by simpa using hi) (fun k hk=>hn (k+1) (by omega)) e
   unfold fndV fnd at q |-
   rw [List.find?_cons_of_neg (by simpa using h0)]
   exact q
theorem fnd_miss (p:Int) (D:List Lv) (h: ∀ k (hk:k<D.length),((D[k]).1:Int)≠p):fndV D p=((0,Lf.zero),false):=by
 have:fnd D p=none:=by
  unfold fnd
  rw [List.find?_eq_none]
  intro x hx
  obtain ⟨k,hk,rfl⟩:=List.getElem_of_mem hx
  simpa using h k hk
 unfold fndV
 rw [this]
theorem wo_take (p:Int) (D:List Lv) (i:Nat) (hi:i<D.length):wo (D.take (i+1)) p=wo (D.take i) p++(if ((D[i]).1:Int)=p then [] else [D[i]]):=by
 rw [List.take_succ_eq_append_getElem hi]
 unfold wo
 rw [List.filter_append]
 congr 1
 by_cases c:((D[i]).1:Int)=p
 . rw [if_pos c];simp [c]
 . rw [if_neg c];simp [c]
theorem wo_len (p:Int) (D:List Lv):(wo D p).length<=D.length:=List.length_filter_le _ _
theorem below5 {w W:World} {b:Nat} {v0 v1 v2 v3 v4:Value} (h:Below w.heap.size w W) (hb:w.heap.size<=b):Below w.heap.size w (((((W.setCell ⟨b,0,none⟩ v0).setCell ⟨b,1,none⟩ v1).setCell ⟨b,2,none⟩ v2).setCell ⟨b,3,none⟩ v3).setCell ⟨b,4,none⟩ v4):=below_put h hb [v0,v1,v2,v3,v4]
set_option maxHeartbeats 4000000 in
theorem rfind_c (p:Option Addr) (c:Nat) (D:List Lv) (hD:D.length<=1000000) (i:Int) (w:World) (h:IsF w p D) :
 Calls Tryd.prog 24 #[.slice p D.length c,.int .i64 i] w fun e w'=>e=.returned (.tuple #[Lv.val (fndV D i).1,.bool (fndV D i).2])/\Below w.heap.size w w':=by
 obtain ⟨z,hz⟩: ∃ z,fndV D i=z:=⟨_,rfl⟩
 rw [hz]
 have HZ:Hid (fndV D i=z):=hz
 have HB:Hid (IsF w p D):=h
 clear hz h
 obtain ⟨n,hn⟩: ∃ n,D.length=n:=⟨_,rfl⟩
 have HN:Hid (D.length=n):=hn
 rw [hn] at hD |-
 clear hn
 go_enter Tryd.func24,Tryd.ntmps24
 go_wp2_with fail
 go_loopw [7,10] (fun _ x W=> ∃ m:Nat,m<=n/\x=.int .i64 m/\Hid (Below w.heap.size w W)/\Hid (Blk W w.heap.size [.int .i64 0,.int .i64 0,.bool false,.bool false,.bool false] 63)/\Hid (∀ k (hk:k<m) (hk2:k<D.length),((D[k]).1:Int)≠i)) (fun _ x _=>n-(Go.RowKit.intOf x).toNat)
 case atStart=>exact ⟨0,by omega,rfl,Go.Joins.below_alloc1 _ _,Blk.made w [.int .i64 0,.int .i64 0,.bool false,.bool false,.bool false] 63,fun k hk=>absurd hk (Nat.not_lt_zero _)⟩
 case round =>
  obtain ⟨m,hm,rfl,hb,hk,hno⟩:=hrel
  have lw:w.heap.size<wr.heap.size:=hk.out.lt
  by_cases hlm:m<n
  . have hd:decide ((m:Int)<(n:Int))=true:=by simp;omega
    have m0:(0:Int)<=(m:Int):=by omega
    have m1:(m:Int)<(n:Int):=by omega
    have hI:=HB.out.below hb.out
    obtain ⟨g,rfl,g2,gc⟩:=hI m (by rw [HN.out];exact hlm)
    obtain ⟨xx,hxx⟩: ∃ xx,D[m]'(by rw [HN.out];exact hlm)=xx:=⟨_,rfl⟩
    clear hI
    have HX:Hid (∃ hm:m<D.length,D[m]'hm=xx):=⟨by rw [HN.out];exact hlm,hxx⟩
    rw [hxx] at gc
    clear hxx
    obtain ⟨pn,qf,qw,qu,qx⟩:=xx
    have y0:wr.cell? ⟨g,m*5,none⟩=some (.int .i64 (pn:Nat)):=gc 0 _ rfl
    have y1:wr.cell? ⟨g,m*5+1,none⟩=some (.int .i64 qf):=gc 1 _ rfl
    have y2:wr.cell? ⟨g,m*5+2,none⟩=some (.bool qw):=gc 2 _ rfl
    have y3:wr.cell? ⟨g,m*5+3,none⟩=some (.bool qu):=gc 3 _ rfl
    have y4:wr.cell? ⟨g,m*5+4,none⟩=some (.bool qx):=gc 4 _ rfl
    clear gc
    by_cases e:(pn:Int)=i
    . have ez:z=((pn,⟨qf,qw,qu,qx⟩),true):=by
       obtain ⟨hm,hx⟩:=HX.out
       rw [<- HZ.out,fnd_hit i D m hm (fun k hk=>hno.out k hk _) (by rw [hx];exact e),hx]
      have e1:((pn:Int)==i)=true:=by simp [e]
      have e2:decide ((pn:Int)=i)=true:=by simp [e]
      subst ez
      clear HZ e HX hno
      go_upto_region 4 with fail
      have B1:Hid (Below w.heap.size w (wr.alloc (.cells #[.int .i64 (pn:Nat),.int .i64 qf,.bool qw,.bool qu,.bool qx] 63))):=below_new hb.out _
      have K1:Hid (Blk (wr.alloc (.cells #[.int .i64 (pn:Nat),.int .i64 qf,.bool qw,.bool qu,.bool qx] 63)) w.heap.size [.int .i64 0,.int .i64 0,.bool false,.bool false,.bool false] 63):=hk.out.below (Go.Joins.below_alloc1 _ _)
      have Y1:Hid (Blk (wr.alloc (.cells #[.int .i64 (pn:Nat),.int .i64 qf,.bool qw,.bool qu,.bool qx] 63)) wr.heap.size [.int .i64 (pn:Nat),.int .i64 qf,.bool qw,.bool qu,.bool qx] 63):=Blk.made wr [.int .i64 (pn:Nat),.int .i64 qf,.bool qw,.bool qu,.bool qx] 63
      clear hk hb y0 y1 y2 y3 y4
      generalize (wr.alloc (.cells #[.int .i64 (pn:Nat),.int .i64 qf,.bool qw,.bool qu,.bool qx] 63))=U at B1 K1 Y1 |-
      generalize wr.heap.size=yb at lw Y1 |-
      have y0:U.cell? ⟨yb,0,none⟩=some (.int .i64 (pn:Nat)):=Blk.cell Y1.out 0
      have y1:U.cell? ⟨yb,1,none⟩=some (.int .i64 qf):=Blk.cell Y1.out 1
      have y2:U.cell? ⟨yb,2,none⟩=some (.bool qw):=Blk.cell Y1.out 2
      have y3:U.cell? ⟨yb,3,none⟩=some (.bool qu):=Blk.cell Y1.out 3
      have y4:U.cell? ⟨yb,4,none⟩=some (.bool qx):=Blk.cell Y1.out 4
      have ly:=Y1.out.lt
      have lw2:=K1.out.lt
      have n0:U.cell? ⟨w.heap.size,0,none⟩=some (.int .i64 0):=Blk.cell K1.out 0
      have n1:U.cell? ⟨w.heap.size,1,none⟩=some (.int .i64 0):=Blk.cell K1.out 1
      have n2:U.cell? ⟨w.heap.size,2,none⟩=some (.bool false):=Blk.cell K1.out 2
      have n3:U.cell? ⟨w.heap.size,3,none⟩=some (.bool false):=Blk.cell K1.out 3
      have n4:U.cell? ⟨w.heap.size,4,none⟩=some (.bool false):=Blk.cell K1.out 4
      have z0:U.frozen? ⟨w.heap.size,0,none⟩=false:=Blk.free K1.out 0
      have z1:U.frozen? ⟨w.heap.size,1,none⟩=false:=Blk.free K1.out 1
      have z2:U.frozen? ⟨w.heap.size,2,none⟩=false:=Blk.free K1.out 2
      have z3:U.frozen? ⟨w.heap.size,3,none⟩=false:=Blk.free K1.out 3
      have z4:U.frozen? ⟨w.heap.size,4,none⟩=false:=Blk.free K1.out 4
      go_wp2_with fail
      refine bodyPost_ret (by simp [results,Tryd.results24,go_sem,n0,n1,n2,n3,n4];try rfl) rfl ?_
      exact ⟨rfl,below5 B1.out (Nat.le_refl _)⟩
    . have e1:((pn:Int)==i)=false:=by simp [e]
      have e2:decide ((pn:Int)=i)=false:=by simp [e]
      have N2:Hid (∀ k (hk:k<m+1) (hk2:k<D.length),((D[k]).1:Int)≠i):=fun k hk hk2=>by
       by_cases q:k=m
       . subst q
         obtain ⟨hm,hx⟩:=HX.out
         rw [hx];exact e
       . exact hno.out k (by omega) hk2
      clear HX
      go_wp2_with fail
      go_roundw
      case rel=>exact ⟨m+1,by omega,by go_num,below_new hb.out _,hk.out.below (Go.Joins.below_alloc1 _ _),N2⟩
      case measure=>simp [Go.RowKit.intOf];omega
  . obtain rfl:m=n:=by omega
    have hd:decide ((m:Int)<(m:Int))=false:=by simp
    have ez:z=((0,Lf.zero),false):=by rw [<- HZ.out];exact fnd_miss i D (fun k hk=>hno.out k (by rw [<- HN.out];exact hk) hk)
    subst ez
    clear HZ hno
    have n0:wr.cell? ⟨w.heap.size,0,none⟩=some (.int .i64 0):=Blk.cell hk.out 0
    have n1:wr.cell? ⟨w.heap.size,1,none⟩=some (.int .i64 0):=Blk.cell hk.out 1
    have n2:wr.cell? ⟨w.heap.size,2,none⟩=some (.bool false):=Blk.cell hk.out 2
    have n3:wr.cell? ⟨w.heap.size,3,none⟩=some (.bool false):=Blk.cell hk.out 3
    have n4:wr.cell? ⟨w.heap.size,4,none⟩=some (.bool false):=Blk.cell hk.out 4
    have z0:wr.frozen? ⟨w.heap.size,0,none⟩=false:=Blk.free hk.out 0
    have z1:wr.frozen? ⟨w.heap.size,1,none⟩=false:=Blk.free hk.out 1
    have z2:wr.frozen? ⟨w.heap.size,2,none⟩=false:=Blk.free hk.out 2
    have z3:wr.frozen? ⟨w.heap.size,3,none⟩=false:=Blk.free hk.out 3
    have z4:wr.frozen? ⟨w.heap.size,4,none⟩=false:=Blk.free hk.out 4
    go_wp2_with fail
    refine bodyPost_ret (by simp [results,Tryd.results24,go_sem,n0,n1,n2,n3,n4];try rfl) rfl ?_
    exact ⟨rfl,below5 hb.out (Nat.le_refl _)⟩
end Go.Proofs.YtkiclbnbnjbcaaaDoor.Tt
namespace Go.Proofs.YtkiclbnbnjbcaaaDoor.Tt
open Go.ChangeShapes Go.WideShapes Go.ChangeAt Go.RowKit Go.Maps
open Go.Proofs.YtkiclbnbnjbcaaaDoor.Li (wpList_app)
set_option linter.unusedSimpArgs false
set_option linter.unusedVariables false
set_option maxRecDepth 8000
set_option maxHeartbeats 4000000 in
theorem rwithout_c (p:Option Addr) (c:Nat) (D:List Lv) (hD:D.length<=1000000) (i:Int) (w:World) (h:IsF w p D) :
 Calls Tryd.prog 40 #[.slice p D.length c,.int .i64 i] w fun e w'=> ∃ v',e=.returned v'/\OFI w w' v' (wo D i):=by
 have HB:Hid (IsF w p D):=h
 clear h
 obtain ⟨n,hn⟩: ∃ n,D.length=n:=⟨_,rfl⟩
 have HN:Hid (D.length=n):=hn
 rw [hn] at hD |-
 clear hn
 have O0:Hid (OFI w (w.alloc (.cells #[] 63)) (.slice (some ⟨w.heap.size,0,none⟩) 0 0) (wo (D.take 0) i)):=⟨Go.Joins.below_alloc1 _ _,Li.ol_made w w.heap.size (Nat.le_refl _)⟩
 go_enter Tryd.func40,Tryd.ntmps40
 go_wp2_with fail
 go_loopw [5,7,11] (fun vo _ x W=> ∃ m:Nat,m<=n/\x=.int .i64 m/\Hid (OFI w W vo (wo (D.take m) i))) (fun _ _ x _=>n-(Go.RowKit.intOf x).toNat)
 case atStart=>exact ⟨0,by omega,rfl,O0⟩
 case round =>
  clear O0
  obtain ⟨m,hm,rfl,HO⟩:=hrel
  by_cases hlm:m<n
  . have hd:decide ((m:Int)<(n:Int))=true:=by simp;omega
    have m0:(0:Int)<=(m:Int):=by omega
    have m1:(m:Int)<(n:Int):=by omega
    have hI:=HB.out.below HO.out.bel
    obtain ⟨g,rfl,g2,gc⟩:=hI m (by rw [HN.out];exact hlm)
    obtain ⟨xx,hxx⟩: ∃ xx,D[m]'(by rw [HN.out];exact hlm)=xx:=⟨_,rfl⟩
    have HW:Hid (wo (D.take (m+1)) i=wo (D.take m) i++(if (xx.1:Int)=i then [] else [xx])):=by rw [<- hxx];exact wo_take i D m (by rw [HN.out];exact hlm)
    have HWL:Hid ((wo (D.take m) i).length<=1000000):=Nat.le_trans (wo_len _ _) (by rw [List.length_take];omega)
    clear hI
    have HX:Hid (∃ hm:m<D.length,D[m]'hm=xx):=⟨by rw [HN.out];exact hlm,hxx⟩
    rw [hxx] at gc
    clear hxx
    obtain ⟨pn,qf,qw,qu,qx⟩:=xx
    have y0:wr.cell? ⟨g,m*5,none⟩=some (.int .i64 (pn:Nat)):=gc 0 _ rfl
    have y1:wr.cell? ⟨g,m*5+1,none⟩=some (.int .i64 qf):=gc 1 _ rfl
    have y2:wr.cell? ⟨g,m*5+2,none⟩=some (.bool qw):=gc 2 _ rfl
    have y3:wr.cell? ⟨g,m*5+3,none⟩=some (.bool qu):=gc 3 _ rfl
    have y4:wr.cell? ⟨g,m*5+4,none⟩=some (.bool qx):=gc 4 _ rfl
    clear gc
    clear HX
    have HO2:Hid (OFI w (wr.alloc (.cells #[.int .i64 (pn:Nat),.int .i64 qf,.bool qw,.bool qu,.bool qx] 63)) u5 (wo (D.take m) i)):=HO.out.grow (Go.Joins.below_alloc1 _ _)
    by_cases e:(pn:Int)=i
    . have e1:((pn:Int)==i)=true:=by simp [e]
      have e2:((pn:Int) != i)=false:=by simp [e]
      have HO3:Hid (OFI w (wr.alloc (.cells #[.int .i64 (pn:Nat),.int .i64 qf,.bool qw,.bool qu,.bool qx] 63)) u5 (wo (D.take (m+1)) i)):=by
       show OFI _ _ _ _
       rw [HW.out,if_pos e,List.append_nil];exact HO2.out
      clear HW HO HO2 e
      go_wp2_with fail
      go_roundw
      case rel=>exact ⟨m+1,by omega,by go_num,HO3⟩
      case measure=>simp [Go.RowKit.intOf];omega
    . have e1:((pn:Int)==i)=false:=by simp [e]
      have e2:((pn:Int) != i)=true:=by simp [e]
      obtain ⟨v',W2,r0,HO3,_⟩:=HO2.out.app HWL.out (pn,⟨qf,qw,qu,qx⟩)
      have HO4:Hid (OFI w W2 v' (wo (D.take (m+1)) i)):=by
       show OFI _ _ _ _
       rw [HW.out,if_neg e];exact HO3
      have Y1:Hid (Blk (wr.alloc (.cells #[.int .i64 (pn:Nat),.int .i64 qf,.bool qw,.bool qu,.bool qx] 63)) wr.heap.size [.int .i64 (pn:Nat),.int .i64 qf,.bool qw,.bool qu,.bool qx] 63):=Blk.made wr [.int .i64 (pn:Nat),.int .i64 qf,.bool qw,.bool qu,.bool qx] 63
      clear HW HO HO2 HO3 HWL e
      go_upto_region 6 with fail
      clear y0 y1 y2 y3 y4
      generalize (wr.alloc (.cells #[.int .i64 (pn:Nat),.int .i64 qf,.bool qw,.bool qu,.bool qx] 63))=U at r0 Y1 |-
      generalize wr.heap.size=yb at Y1 |-
      have r:(Builtin.append_ #[36,36] 36 #[u5,.slice (some ⟨U.heap.size,0,none⟩) 1 1]).run Tryd.prog (U.alloc (.cells #[.int .i64 (pn:Nat),.int .i64 qf,.bool qw,.bool qu,.bool qx] 63))=.ok v' W2:=r0
      clear r0
      have y0:U.cell? ⟨yb,0,none⟩=some (.int .i64 (pn:Nat)):=Blk.cell Y1.out 0
      have y1:U.cell? ⟨yb,1,none⟩=some (.int .i64 qf):=Blk.cell Y1.out 1
      have y2:U.cell? ⟨yb,2,none⟩=some (.bool qw):=Blk.cell Y1.out 2
      have y3:U.cell? ⟨yb,3,none⟩=some (.bool qu):=Blk.cell Y1.out 3
      have y4:U.cell? ⟨yb,4,none⟩=some (.bool qx):=Blk.cell Y1.out 4
      have ly:=Y1.out.lt
      go_wp2_with (at_builtin;refine wpList_app rfl _ _ 36 rfl u5 (.slice (some ⟨U.heap.size,0,none⟩) 1 1) rfl rfl v' W2 r ?_)
      go_roundw
      case rel=>exact ⟨m+1,by omega,by go_num,HO4⟩
      case measure=>simp [Go.RowKit.intOf];omega
  . obtain rfl:m=n:=by omega
    have hd:decide ((m:Int)<(m:Int))=false:=by simp
    have e1:D.take m=D:=by rw [<- HN.out,List.take_length]
    rw [e1] at HO
    go_wp2_with fail
    go_returns
    exact ⟨_,rfl,HO.out⟩
theorem num_take (D:List Lv) (i:Nat) (hi:i<D.length):(D.take (i+1)).map (·.1)=(D.take i).map (·.1)++[(D[i]).1]:=by
 rw [List.take_succ_eq_append_getElem hi,List.map_append];rfl
set_option maxHeartbeats 4000000 in
theorem rnumbers_c (p:Option Addr) (c:Nat) (D:List Lv) (hD:D.length<=1000000) (w:World) (h:IsF w p D) :
 Calls Tryd.prog 16 #[.slice p D.length c] w fun e w'=> ∃ v',e=.returned v'/\OII w w' v' (D.map (·.1)):=by
 have HB:Hid (IsF w p D):=h
 clear h
 obtain ⟨n,hn⟩: ∃ n,D.length=n:=⟨_,rfl⟩
 have HN:Hid (D.length=n):=hn
 rw [hn] at hD |-
 clear hn
 have O0:Hid (OII w (w.alloc (.cells #[] 3)) (.slice (some ⟨w.heap.size,0,none⟩) 0 0) ((D.take 0).map (·.1))):=⟨Go.Joins.below_alloc1 _ _,Li.ol_made w w.heap.size (Nat.le_refl _)⟩
 go_enter Tryd.func16,Tryd.ntmps16
 go_wp2_with fail
 go_loopw [3,5,9] (fun vo _ x W=> ∃ m:Nat,m<=n/\x=.int .i64 m/\Hid (OII w W vo ((D.take m).map (·.1)))) (fun _ _ x _=>n-(Go.RowKit.intOf x).toNat)
 case atStart=>exact ⟨0,by omega,rfl,O0⟩
 case round =>
  clear O0
  obtain ⟨m,hm,rfl,HO⟩:=hrel
  by_cases hlm:m<n
  . have hd:decide ((m:Int)<(n:Int))=true:=by simp;omega
    have m0:(0:Int)<=(m:Int):=by omega
    have m1:(m:Int)<(n:Int):=by omega
    have hI:=HB.out.below HO.out.bel
    obtain ⟨g,rfl,g2,gc⟩:=hI m (by rw [HN.out];exact hlm)
    obtain ⟨xx,hxx⟩: ∃ xx,D[m]'(by rw [HN.out];exact hlm)=xx:=⟨_,rfl⟩
    have HW:Hid ((D.take (m+1)).map (·.1)=(D.take m).map (·.1)++[xx.1]):=by rw [<- hxx];exact num_take D m (by rw [HN.out];exact hlm)
    have HWL:Hid (((D.take m).map (·.1)).length<=1000000):=by show _<=_;rw [List.length_map,List.length_take];omega
    clear hI
    have HX:Hid (∃ hm:m<D.length,D[m]'hm=xx):=⟨by rw [HN.out];exact hlm,hxx⟩
    rw [hxx] at gc
    clear hxx
    obtain ⟨pn,qf,qw,qu,qx⟩:=xx
    have y0:wr.cell? ⟨g,m*5,none⟩=some (.int .i64 (pn:Nat)):=gc 0 _ rfl
    have y1:wr.cell? ⟨g,m*5+1,none⟩=some (.int .i64 qf):=gc 1 _ rfl
    have y2:wr.cell? ⟨g,m*5+2,none⟩=some (.bool qw):=gc 2 _ rfl
    have y3:wr.cell? ⟨g,m*5+3,none⟩=some (.bool qu):=gc 3 _ rfl
    have y4:wr.cell? ⟨g,m*5+4,none⟩=some (.bool qx):=gc 4 _ rfl
    clear gc
    clear HX
    have HO2:Hid (OII w (wr.alloc (.cells #[.int .i64 (pn:Nat),.int .i64 qf,.bool qw,.bool qu,.bool qx] 63)) u3 ((D.take m).map (·.1))):=HO.out.grow (Go.Joins.below_alloc1 _ _)
    obtain ⟨v',W2,r,HO3⟩:=HO2.out.app HWL.out pn
    have HO4:Hid (OII w W2 v' ((D.take (m+1)).map (·.1))):=by
     show OII _ _ _ _
     rw [HW.out];exact HO3
    have Y1:Hid (Blk (wr.alloc (.cells #[.int .i64 (pn:Nat),.int .i64 qf,.bool qw,.bool qu,.bool qx] 63)) wr.heap.size [.int .i64 (pn:Nat),.int .i64 qf,.bool qw,.bool qu,.bool qx] 63):=Blk.made wr [.int .i64 (pn:Nat),.int .i64 qf,.bool qw,.bool qu,.bool qx] 63
    clear HW HO HO2 HO3 HWL
    go_upto_region 5 with fail
    clear y0 y1 y2 y3 y4
    generalize (wr.alloc (.cells #[.int .i64 (pn:Nat),.int .i64 qf,.bool qw,.bool qu,.bool qx] 63))=U at r Y1 |-
    generalize wr.heap.size=yb at Y1 |-
    have y0:U.cell? ⟨yb,0,none⟩=some (.int .i64 (pn:Nat)):=Blk.cell Y1.out 0
    have y1:U.cell? ⟨yb,1,none⟩=some (.int .i64 qf):=Blk.cell Y1.out 1
    have y2:U.cell? ⟨yb,2,none⟩=some (.bool qw):=Blk.cell Y1.out 2
    have y3:U.cell? ⟨yb,3,none⟩=some (.bool qu):=Blk.cell Y1.out 3
    have y4:U.cell? ⟨yb,4,none⟩=some (.bool qx):=Blk.cell Y1.out 4
    have ly:=Y1.out.lt
    go_wp2_with (at_builtin;refine wpList_app rfl _ _ 44 rfl u3 (.slice (some ⟨U.heap.size,0,none⟩) 1 1) rfl rfl v' W2 r ?_)
    go_roundw
    case rel=>exact ⟨m+1,by omega,by go_num,HO4⟩
    case measure=>simp [Go.RowKit.intOf];omega
  . obtain rfl:m=n:=by omega
    have hd:decide ((m:Int)<(m:Int))=false:=by simp
    have e1:D.take m=D:=by rw [<- HN.out,List.take_length]
    rw [e1] at HO
    go_wp2_with fail
    go_returns
    exact ⟨_,rfl,HO.out⟩
end Go.Proofs.YtkiclbnbnjbcaaaDoor.Tt
namespace Go.Proofs.YtkiclbnbnjbcaaaDoor.Tt
open Go.ChangeShapes Go.WideShapes Go.ChangeAt Go.RowKit Go.Maps
open Go.Proofs.YtkiclbnbnjbcaaaDoor.Li (wpList_app)
set_option linter.unusedSimpArgs false
set_option linter.unusedVariables false
set_option maxRecDepth 8000
set_option maxHeartbeats 8000000 in
theorem rwith_c (p:Option Addr) (c:Nat) (D:List Lv) (hD:D.length<=900000) (x:Lv) (w:World) (h:IsF w p D) :
 Calls Tryd.prog 42 #[.slice p D.length c,Lv.val x] w fun e w'=> ∃ v',e=.returned v'/\OFI w w' v' (wth D x):=by
 obtain ⟨px,xf,xw,xu,xx0⟩:=x
 have HB:Hid (IsF (w.alloc (.cells #[.int .i64 (px:Nat),.int .i64 xf,.bool xw,.bool xu,.bool xx0] 63)) p D):=h.below (Go.Joins.below_alloc1 _ _)
 obtain ⟨n,hn⟩: ∃ n,D.length=n:=⟨_,rfl⟩
 have HN:Hid (D.length=n):=hn
 rw [hn] at hD |-
 clear hn h
 have O0:Hid (OFI (w.alloc (.cells #[.int .i64 (px:Nat),.int .i64 xf,.bool xw,.bool xu,.bool xx0] 63)) ((w.alloc (.cells #[.int .i64 (px:Nat),.int .i64 xf,.bool xw,.bool xu,.bool xx0] 63)).alloc (.cells #[] 63)) (.slice (some ⟨(w.alloc (.cells #[.int .i64 (px:Nat),.int .i64 xf,.bool xw,.bool xu,.bool xx0] 63)).heap.size,0,none⟩) 0 0) (wI (px,⟨xf,xw,xu,xx0⟩) (D.take 0) ([],false)).1):=⟨Go.Joins.below_alloc1 _ _,Li.ol_made (w.alloc (.cells #[.int .i64 (px:Nat),.int .i64 xf,.bool xw,.bool xu,.bool xx0] 63)) (w.alloc (.cells #[.int .i64 (px:Nat),.int .i64 xf,.bool xw,.bool xu,.bool xx0] 63)).heap.size (Nat.le_refl _)⟩
 have BA:Hid (Blk (w.alloc (.cells #[.int .i64 (px:Nat),.int .i64 xf,.bool xw,.bool xu,.bool xx0] 63)) w.heap.size [.int .i64 (px:Nat),.int .i64 xf,.bool xw,.bool xu,.bool xx0] 63/\Below w.heap.size w (w.alloc (.cells #[.int .i64 (px:Nat),.int .i64 xf,.bool xw,.bool xu,.bool xx0] 63))/\(w.alloc (.cells #[.int .i64 (px:Nat),.int .i64 xf,.bool xw,.bool xu,.bool xx0] 63)).heap.size=w.heap.size+1):=⟨Blk.made w [.int .i64 (px:Nat),.int .i64 xf,.bool xw,.bool xu,.bool xx0] 63,Go.Joins.below_alloc1 _ _,World.size_alloc _ _⟩
 rw [BA.out.2.2] at O0
 have HLN:Hid (∀ m,(wI (px,⟨xf,xw,xu,xx0⟩) (D.take m) ([],false)).1.length<=950000):=fun m=>by
  have q:=(wI_len (px,⟨xf,xw,xu,xx0⟩) (D.take m) ([],false)).1
  rw [List.length_take] at q
  have:=HN.out
  show _<=_
  simp at q
  omega
 go_enter Tryd.func42,Tryd.ntmps42
 go_upto_region 2 with fail
 generalize ((w.alloc (.cells #[.int .i64 (px:Nat),.int .i64 xf,.bool xw,.bool xu,.bool xx0] 63)).alloc (.cells #[] 63))=w0 at O0 |-
 obtain ⟨w1,hw1⟩: ∃ w1,(w.alloc (.cells #[.int .i64 (px:Nat),.int .i64 xf,.bool xw,.bool xu,.bool xx0] 63))=w1:=⟨_,rfl⟩
 rw [hw1] at O0 HB BA
 clear hw1
 obtain ⟨A,hA⟩: ∃ A,w.heap.size=A:=⟨_,rfl⟩
 rw [hA] at O0 |-
 have HAE:Hid (A=w.heap.size):=hA.symm
 clear hA
 go_wp2_with fail
 go_loopw [5,6,8,12] (fun vo vd _ i W=> ∃ m:Nat,m<=n/\i=.int .i64 m/\vd=.bool (wI (px,⟨xf,xw,xu,xx0⟩) (D.take m) ([],false)).2/\Hid (OFI w1 W vo (wI (px,⟨xf,xw,xu,xx0⟩) (D.take m) ([],false)).1)) (fun _ _ _ i _=>n-(Go.RowKit.intOf i).toNat)
 case atStart=>exact ⟨0,by omega,rfl,rfl,O0⟩
 case round =>
  clear O0
  obtain ⟨m,hm,rfl,rfl,HO⟩:=hrel
  obtain ⟨dn,hdn⟩: ∃ dn,(wI (px,⟨xf,xw,xu,xx0⟩) (D.take m) ([],false)).2=dn:=⟨_,rfl⟩
  have HDN:Hid ((wI (px,⟨xf,xw,xu,xx0⟩) (D.take m) ([],false)).2=dn):=hdn
  rw [hdn]
  clear hdn
  have BX:Hid (Blk wr A [.int .i64 (px:Nat),.int .i64 xf,.bool xw,.bool xu,.bool xx0] 63):=by rw [HAE.out];exact BA.out.1.below HO.out.bel
  by_cases hlm:m<n
  . have hd:decide ((m:Int)<(n:Int))=true:=by simp;omega
    have m0:(0:Int)<=(m:Int):=by omega
    have m1:(m:Int)<(n:Int):=by omega
    have hI:=HB.out.below HO.out.bel
    obtain ⟨g,rfl,g2,gc⟩:=hI m (by rw [HN.out];exact hlm)
    obtain ⟨xx,hxx⟩: ∃ xx,D[m]'(by rw [HN.out];exact hlm)=xx:=⟨_,rfl⟩
    have HW:Hid ((wI (px,⟨xf,xw,xu,xx0⟩) (D.take (m+1)) ([],false))=if dn=false/\px<xx.1 then ((wI (px,⟨xf,xw,xu,xx0⟩) (D.take m) ([],false)).1++[(px,⟨xf,xw,xu,xx0⟩)]++[xx],true) else ((wI (px,⟨xf,xw,xu,xx0⟩) (D.take m) ([],false)).1++[xx],dn)):=by
     have q:=wI_take (px,⟨xf,xw,xu,xx0⟩) D m (by rw [HN.out];exact hlm) ([],false)
     rw [hxx,HDN.out] at q
     exact q
    clear hI
    have HX:Hid (∃ hm:m<D.length,D[m]'hm=xx):=⟨by rw [HN.out];exact hlm,hxx⟩
    rw [hxx] at gc
    clear hxx
    obtain ⟨pn,qf,qw,qu,qx⟩:=xx
    have y0:wr.cell? ⟨g,m*5,none⟩=some (.int .i64 (pn:Nat)):=gc 0 _ rfl
    have y1:wr.cell? ⟨g,m*5+1,none⟩=some (.int .i64 qf):=gc 1 _ rfl
    have y2:wr.cell? ⟨g,m*5+2,none⟩=some (.bool qw):=gc 2 _ rfl
    have y3:wr.cell? ⟨g,m*5+3,none⟩=some (.bool qu):=gc 3 _ rfl
    have y4:wr.cell? ⟨g,m*5+4,none⟩=some (.bool qx):=gc 4 _ rfl
    clear gc
    clear HX
    have HO2:Hid (OFI w1 (wr.alloc (.cells #[.int .i64 (pn:Nat),.int .i64 qf,.bool qw,.bool qu,.bool qx] 63)) u5 (wI (px,⟨xf,xw,xu,xx0⟩) (D.take m) ([],false)).1):=HO.out.grow (Go.Joins.below_alloc1 _ _)
    have Y1:Hid (Blk (wr.alloc (.cells #[.int .i64 (pn:Nat),.int .i64 qf,.bool qw,.bool qu,.bool qx] 63)) wr.heap.size [.int .i64 (pn:Nat),.int .i64 qf,.bool qw,.bool qu,.bool qx] 63):=Blk.made wr [.int .i64 (pn:Nat),.int .i64 qf,.bool qw,.bool qu,.bool qx] 63
    have BX2:Hid (Blk (wr.alloc (.cells #[.int .i64 (pn:Nat),.int .i64 qf,.bool qw,.bool qu,.bool qx] 63)) A [.int .i64 (px:Nat),.int .i64 xf,.bool xw,.bool xu,.bool xx0] 63):=BX.out.below (Go.Joins.below_alloc1 _ _)
    have NE:Hid (u5.ownBlock≠some wr.heap.size):=fun q=>by have:=(Li.row_lt HO.out.own _ q).2;omega
    clear HO BX
    go_upto_region 6 with fail
    clear y0 y1 y2 y3 y4
    generalize (wr.alloc (.cells #[.int .i64 (pn:Nat),.int .i64 qf,.bool qw,.bool qu,.bool qx] 63))=U at HO2 Y1 BX2 |-
    generalize wr.heap.size=yb at Y1 NE |-
    by_cases e:dn=false/\px<pn
    . obtain ⟨rfl,e⟩:=e
      have e1:decide ((px:Int)<(pn:Int))=true:=by simp;omega
      have e2:px<pn:=e
      obtain ⟨v',W2,r0,HO3,kp⟩:=HO2.out.app (by have:=HLN.out m;omega) (px,⟨xf,xw,xu,xx0⟩)
      have H3:Hid (OFI w1 W2 v' ((wI (px,⟨xf,xw,xu,xx0⟩) (D.take m) ([],false)).1++[(px,⟨xf,xw,xu,xx0⟩)])):=HO3
      have r:(Builtin.append_ #[36,36] 36 #[u5,.slice (some ⟨U.heap.size,0,none⟩) 1 1]).run Tryd.prog (U.alloc (.cells #[.int .i64 (px:Nat),.int .i64 xf,.bool xw,.bool xu,.bool xx0] 63))=.ok v' W2:=r0
      have Y3:Hid (Blk W2 yb [.int .i64 (pn:Nat),.int .i64 qf,.bool qw,.bool qu,.bool qx] 63):=(kp yb Y1.out.lt NE.out).trans Y1.out
      obtain ⟨v'',W3,r1,HO4,_⟩:=H3.out.app (by have:=HLN.out m;rw [List.length_append];simp;omega) (pn,⟨qf,qw,qu,qx⟩)
      have HO5:Hid (OFI w1 W3 v'' (wI (px,⟨xf,xw,xu,xx0⟩) (D.take (m+1)) ([],false)).1/\(wI (px,⟨xf,xw,xu,xx0⟩) (D.take (m+1)) ([],false)).2=true):=by
       rw [HW.out,if_pos ⟨rfl,e⟩];exact ⟨HO4,rfl⟩
      have r2:(Builtin.append_ #[36,36] 36 #[v',.slice (some ⟨W2.heap.size,0,none⟩) 1 1]).run Tryd.prog (W2.alloc (.cells #[.int .i64 (pn:Nat),.int .i64 qf,.bool qw,.bool qu,.bool qx] 63))=.ok v'' W3:=r1
      clear r0 r1 HO3 HO4 HO2 H3 HW e kp
      have a0:U.cell? ⟨A,0,none⟩=some (.int .i64 (px:Nat)):=Blk.cell BX2.out 0
      have a1:U.cell? ⟨A,1,none⟩=some (.int .i64 xf):=Blk.cell BX2.out 1
      have a2:U.cell? ⟨A,2,none⟩=some (.bool xw):=Blk.cell BX2.out 2
      have a3:U.cell? ⟨A,3,none⟩=some (.bool xu):=Blk.cell BX2.out 3
      have a4:U.cell? ⟨A,4,none⟩=some (.bool xx0):=Blk.cell BX2.out 4
      have la:=BX2.out.lt
      have y0:U.cell? ⟨yb,0,none⟩=some (.int .i64 (pn:Nat)):=Blk.cell Y1.out 0
      have y1:U.cell? ⟨yb,1,none⟩=some (.int .i64 qf):=Blk.cell Y1.out 1
      have y2:U.cell? ⟨yb,2,none⟩=some (.bool qw):=Blk.cell Y1.out 2
      have y3:U.cell? ⟨yb,3,none⟩=some (.bool qu):=Blk.cell Y1.out 3
      have y4:U.cell? ⟨yb,4,none⟩=some (.bool qx):=Blk.cell Y1.out 4
      have ly:=Y1.out.lt
      clear BX2 Y1
      go_upto_region 8 with (at_builtin;refine wpList_app rfl _ _ 36 rfl u5 (.slice (some ⟨U.heap.size,0,none⟩) 1 1) rfl rfl v' W2 r ?_)
      clear a0 a1 a2 a3 a4 la y0 y1 y2 y3 y4 ly r
      have y0:W2.cell? ⟨yb,0,none⟩=some (.int .i64 (pn:Nat)):=Blk.cell Y3.out 0
      have y1:W2.cell? ⟨yb,1,none⟩=some (.int .i64 qf):=Blk.cell Y3.out 1
      have y2:W2.cell? ⟨yb,2,none⟩=some (.bool qw):=Blk.cell Y3.out 2
      have y3:W2.cell? ⟨yb,3,none⟩=some (.bool qu):=Blk.cell Y3.out 3
      have y4:W2.cell? ⟨yb,4,none⟩=some (.bool qx):=Blk.cell Y3.out 4
      have ly:=Y3.out.lt
      go_wp2_with (at_builtin;refine wpList_app rfl _ _ 36 rfl v' (.slice (some ⟨W2.heap.size,0,none⟩) 1 1) rfl rfl v'' W3 r2 ?_)
      go_roundw
      case rel=>exact ⟨m+1,by omega,by go_num,by rw [HO5.out.2],HO5.out.1⟩
      case measure=>simp [Go.RowKit.intOf];omega
    . obtain ⟨v',W2,r0,HO3,kp⟩:=HO2.out.app (by have:=HLN.out m;omega) (pn,⟨qf,qw,qu,qx⟩)
      have HO5:Hid (OFI w1 W2 v' (wI (px,⟨xf,xw,xu,xx0⟩) (D.take (m+1)) ([],false)).1/\(wI (px,⟨xf,xw,xu,xx0⟩) (D.take (m+1)) ([],false)).2=dn):=by
       rw [HW.out,if_neg e];exact ⟨HO3,rfl⟩
      have r:(Builtin.append_ #[36,36] 36 #[u5,.slice (some ⟨U.heap.size,0,none⟩) 1 1]).run Tryd.prog (U.alloc (.cells #[.int .i64 (pn:Nat),.int .i64 qf,.bool qw,.bool qu,.bool qx] 63))=.ok v' W2:=r0
      have hc:dn=true\/(dn=false/\decide ((px:Int)<(pn:Int))=false/\ ¬ px<pn):=by
       cases dn with
       | true => exact Or.inl rfl
       | false =>
        have: ¬ px<pn:=fun q=>e ⟨rfl,q⟩
        exact Or.inr ⟨rfl,by simp;omega,this⟩
      clear r0 HO3 HO2 HW e kp
      have a0:U.cell? ⟨A,0,none⟩=some (.int .i64 (px:Nat)):=Blk.cell BX2.out 0
      have a1:U.cell? ⟨A,1,none⟩=some (.int .i64 xf):=Blk.cell BX2.out 1
      have a2:U.cell? ⟨A,2,none⟩=some (.bool xw):=Blk.cell BX2.out 2
      have a3:U.cell? ⟨A,3,none⟩=some (.bool xu):=Blk.cell BX2.out 3
      have a4:U.cell? ⟨A,4,none⟩=some (.bool xx0):=Blk.cell BX2.out 4
      have la:=BX2.out.lt
      have y0:U.cell? ⟨yb,0,none⟩=some (.int .i64 (pn:Nat)):=Blk.cell Y1.out 0
      have y1:U.cell? ⟨yb,1,none⟩=some (.int .i64 qf):=Blk.cell Y1.out 1
      have y2:U.cell? ⟨yb,2,none⟩=some (.bool qw):=Blk.cell Y1.out 2
      have y3:U.cell? ⟨yb,3,none⟩=some (.bool qu):=Blk.cell Y1.out 3
      have y4:U.cell? ⟨yb,4,none⟩=some (.bool qx):=Blk.cell Y1.out 4
      have ly:=Y1.out.lt
      clear BX2 Y1
      rcases hc with rfl | ⟨rfl,e1,e2⟩
      . go_wp2_with (at_builtin;refine wpList_app rfl _ _ 36 rfl u5 (.slice (some ⟨U.heap.size,0,none⟩) 1 1) rfl rfl v' W2 r ?_)
        go_roundw
        case rel=>exact ⟨m+1,by omega,by go_num,by rw [HO5.out.2],HO5.out.1⟩
        case measure=>simp [Go.RowKit.intOf];omega
      . go_wp2_with (at_builtin;refine wpList_app rfl _ _ 36 rfl u5 (.slice (some ⟨U.heap.size,0,none⟩) 1 1) rfl rfl v' W2 r ?_)
        go_roundw
        case rel=>exact ⟨m+1,by omega,by go_num,by rw [HO5.out.2],HO5.out.1⟩
        case measure=>simp [Go.RowKit.intOf];omega
  . obtain rfl:m=n:=by omega
    have hd:decide ((m:Int)<(m:Int))=false:=by simp
    have e1:D.take m=D:=by rw [<- HN.out,List.take_length]
    have fin:=wI_end (px,⟨xf,xw,xu,xx0⟩) D []
    rw [e1] at HO HDN
    have HF:Hid ((wI (px,⟨xf,xw,xu,xx0⟩) D ([],false)).1++(if dn=true then [] else [(px,⟨xf,xw,xu,xx0⟩)])=wth D (px,⟨xf,xw,xu,xx0⟩)):=by
     rw [HDN.out,List.nil_append] at fin
     exact fin
    have HLn:Hid ((wI (px,⟨xf,xw,xu,xx0⟩) D ([],false)).1.length<=950000):=by have q:=HLN.out m;rw [e1] at q;exact q
    have up: ∀ (W2:World) (v':Value) (L:List Lv),OFI w1 W2 v' L->OFI w W2 v' L:=fun W2 v' L q=>⟨BA.out.2.1.trans (Go.Joins.below_le q.bel BA.out.2.1.size),Li.row_weak q.own BA.out.2.1.size⟩
    have HUP:Hid (∀ (W2:World) (v':Value) (L:List Lv),OFI w1 W2 v' L->OFI w W2 v' L):=up
    clear fin up e1
    cases dn with
    | true =>
     have HO3:Hid (OFI w wr u5 (wth D (px,⟨xf,xw,xu,xx0⟩))):=by
      have q:=HF.out
      rw [if_pos rfl,List.append_nil] at q
      rw [<- q];exact HUP.out _ _ _ HO.out
     clear HO HF HUP HLn
     go_wp2_with fail
     go_returns
     exact ⟨_,rfl,HO3.out⟩
    | false =>
     obtain ⟨v',W2,r0,HO2,_⟩:=HO.out.app (by have:=HLn.out;omega) (px,⟨xf,xw,xu,xx0⟩)
     have HO3:Hid (OFI w W2 v' (wth D (px,⟨xf,xw,xu,xx0⟩))):=by
      have q:=HF.out
      rw [if_neg (by simp)] at q
      rw [<- q];exact HUP.out _ _ _ HO2
     have r:(Builtin.append_ #[36,36] 36 #[u5,.slice (some ⟨wr.heap.size,0,none⟩) 1 1]).run Tryd.prog (wr.alloc (.cells #[.int .i64 (px:Nat),.int .i64 xf,.bool xw,.bool xu,.bool xx0] 63))=.ok v' W2:=r0
     clear r0 HO2 HO HF HUP HLn
     have a0:wr.cell? ⟨A,0,none⟩=some (.int .i64 (px:Nat)):=Blk.cell BX.out 0
     have a1:wr.cell? ⟨A,1,none⟩=some (.int .i64 xf):=Blk.cell BX.out 1
     have a2:wr.cell? ⟨A,2,none⟩=some (.bool xw):=Blk.cell BX.out 2
     have a3:wr.cell? ⟨A,3,none⟩=some (.bool xu):=Blk.cell BX.out 3
     have a4:wr.cell? ⟨A,4,none⟩=some (.bool xx0):=Blk.cell BX.out 4
     have la:=BX.out.lt
     clear BX
     go_wp2_with (at_builtin;refine wpList_app rfl _ _ 36 rfl u5 (.slice (some ⟨wr.heap.size,0,none⟩) 1 1) rfl rfl v' W2 r ?_)
     go_returns
     exact ⟨_,rfl,HO3.out⟩
end Go.Proofs.YtkiclbnbnjbcaaaDoor.Tt
namespace Go.Proofs.YtkiclbnbnjbcaaaDoor.Tt
open Go.ChangeShapes Go.WideShapes Go.ChangeAt Go.RowKit Go.Maps
open Go.Proofs.YtkiclbnbnjbcaaaDoor.Li (wpList_app)
set_option linter.unusedSimpArgs false
set_option linter.unusedVariables false
set_option maxRecDepth 8000
def IsN (w:World) (p:Option Addr) (P:List Nat):Prop:= ∀ i (hi:i<P.length),∃ g,p=some ⟨g,0,none⟩/\g<w.heap.size/\w.cell? ⟨g,i,none⟩=some (.int .i64 (P[i]:Nat))
theorem IsN.below {w W:World} {p:Option Addr} {P:List Nat} (h:IsN w p P) (hb:Below w.heap.size w W):IsN W p P:=fun i hi=>by
 obtain ⟨g,e,l,c⟩:=h i hi
 exact ⟨g,e,Nat.lt_of_lt_of_le l hb.size,below_cell hb l c⟩
theorem oi_read {w:World} {base:Nat} {v:Value} {P:List Nat} (O:Li.OI w base v (ints P)): ∃ p c,v=.slice p P.length c/\IsN w p P:=by
 obtain ⟨p,c,hv,_⟩:=(Li.ol_ll Li.eI_len O).form
 rw [List.length_map] at hv
 subst hv
 exact ⟨p,c,rfl,fun i hi=>ii_read O i hi⟩
def part (P:List Nat) (p k:Nat):Nat:=if k=0 then 0 else if k=1 then frL 1 P p else if k=2 then frL 1 P p+frL 2 P p else fresh P p
theorem part_step (P:List Nat) (p:Nat) {k:Nat} (h:k<3):part P p (k+1)=part P p k+frL (k+1) P p:=by
 rcases (show k=0\/k=1\/k=2 by omega) with rfl | rfl | rfl
 . show frL 1 P p=0+frL 1 P p;omega
 . rfl
 . rfl
theorem part_le (P:List Nat) (p k:Nat):part P p k<=3:=by
 unfold part
 have:=fresh_le P p
 unfold fresh at *
 split
 . omega
 . split
   . omega
   . split <;> omega
theorem below_drewN {n m:Nat} {w W:World} (h:Below n w W):Below n w (W.drewN m):=⟨h.os,h.tape,h.output,h.size,h.block⟩
theorem pre_div (l p:Nat):l<=3->pre l p=p / 512 ^ l:=by
 intro h
 rcases (show l=0\/l=1\/l=2\/l=3 by omega) with rfl | rfl | rfl | rfl
 . show p=p / 1;omega
 . rfl
 . show p / 512 / 512=p / 262144;omega
 . show p / 512 / 512 / 512=p / 134217728;omega
set_option maxHeartbeats 4000000 in
theorem rtables_c (p:Option Addr) (c:Nat) (P:List Nat) (hP:P.length<=1000000) (hr:P.Pairwise (· < ·)) (hb: ∀ q∈P,q<34359738368) (w:World) (h:IsN w p P) :
 Calls Tryd.prog 15 #[.slice p P.length c] w fun e w'=>e=.returned (.int .i64 (tabsN P:Nat))/\Below w.heap.size w w':=by
 have HB:Hid (IsN w p P):=h
 have HR:Hid (P.Pairwise (· < ·)):=hr
 have HQ:Hid (∀ q∈P,q<34359738368):=hb
 clear h hr hb
 obtain ⟨n,hn⟩: ∃ n,P.length=n:=⟨_,rfl⟩
 have HN:Hid (P.length=n):=hn
 rw [hn] at hP |-
 clear hn
 go_enter Tryd.func15,Tryd.ntmps15
 go_wp2_with fail
 go_loopw [3,4,5,7,10,17] (fun vn _ _ _ x _ W=> ∃ m:Nat,m<=n/\x=.int .i64 m/\vn=.int .i64 (tabsN (P.take m):Nat)/\Hid (Below w.heap.size w W)) (fun _ _ _ _ x _ _=>n-(Go.RowKit.intOf x).toNat)
 case atStart=>exact ⟨0,by omega,rfl,rfl,Below.refl _ _⟩
 case round =>
  obtain ⟨m,hm,rfl,rfl,HW⟩:=hrel
  by_cases hlm:m<n
  . have hd:decide ((m:Int)<(n:Int))=true:=by simp;omega
    have m0:(0:Int)<=(m:Int):=by omega
    have m1:(m:Int)<(n:Int):=by omega
    have mP:m<P.length:=by rw [HN.out];exact hlm
    obtain ⟨g,rfl,g2,gc⟩:=(HB.out.below HW.out) m mP
    obtain ⟨pm,hpm⟩: ∃ pm:Nat,P[m]'mP=pm:=⟨_,rfl⟩
    have HT:Hid (tabsN (P.take (m+1))=tabsN (P.take m)+part (P.take m) pm 3):=by rw [<- hpm];exact tabs_take mP
    have HF:Hid (∀ l,frL l (P.take m) pm=if m=0 then 1 else if pre l ((P[m-1]'(by omega)))=pre l pm then 0 else 1):=fun l=>by rw [<- hpm];exact frL_last HR.out mP l
    have HPM:Hid (pm<34359738368):=by rw [<- hpm];exact HQ.out _ (List.getElem_mem _)
    obtain ⟨pq,hpq⟩: ∃ pq:Nat,(P[m-1]'(by omega))=pq:=⟨_,rfl⟩
    have HPQ:Hid (pq<34359738368):=by rw [<- hpq];exact HQ.out _ (List.getElem_mem _)
    rw [hpq] at HF
    have HQC:Hid (∀ W:World,Below wr.heap.size wr W->W.cell? ⟨g,m-1,none⟩=some (.int .i64 (pq:Nat))/\g<W.heap.size):=fun W hb=>by
     obtain ⟨g',e',l',c'⟩:=(HB.out.below (below_then HW.out hb)) (m-1) (by omega)
     cases e'
     rw [hpq] at c'
     exact ⟨c',l'⟩
    rw [hpm] at gc
    obtain ⟨N0,hN0⟩: ∃ N0:Nat,tabsN (P.take m)=N0:=⟨_,rfl⟩
    obtain ⟨Q,hQ⟩: ∃ Q,P.take m=Q:=⟨_,rfl⟩
    have HTL:Hid (tabsN (P.take m)<=3000001):=by
     have q:=tabs_le (P.take m)
     rw [List.length_take] at q
     show _<=_
     omega
    rw [hN0] at HT HTL |-
    rw [hQ] at HT HF
    clear hpm hpq hN0 hQ mP
    have I0:Hid (Blk (wr.alloc (.cells #[.int .i64 9,.int .i64 18,.int .i64 27] 3)) wr.heap.size [.int .i64 9,.int .i64 18,.int .i64 27] 3):=Blk.made wr _ _
    have QU:Hid ((wr.alloc (.cells #[.int .i64 9,.int .i64 18,.int .i64 27] 3)).cell? ⟨g,m-1,none⟩=some (.int .i64 (pq:Nat))/\g<(wr.alloc (.cells #[.int .i64 9,.int .i64 18,.int .i64 27] 3)).heap.size/\Below w.heap.size w (wr.alloc (.cells #[.int .i64 9,.int .i64 18,.int .i64 27] 3))):=⟨(HQC.out _ (Go.Joins.below_alloc1 _ _)).1,(HQC.out _ (Go.Joins.below_alloc1 _ _)).2,below_then HW.out (Go.Joins.below_alloc1 _ _)⟩
    clear HQC
    go_wp2_with fail
    generalize (wr.alloc (.cells #[.int .i64 9,.int .i64 18,.int .i64 27] 3))=U at I0 QU |-
    generalize wr.heap.size=gb at I0 |-
    go_loopw [3,7,17] (fun vn _ x W=> ∃ k:Nat,k<=3/\x=.int .i64 k/\vn=.int .i64 ((N0+part Q pm k:Nat):Int)/\Hid (Blk W gb [.int .i64 9,.int .i64 18,.int .i64 27] 3/\W.cell? ⟨g,m-1,none⟩=some (.int .i64 (pq:Nat))/\g<W.heap.size/\Below w.heap.size w W)) (fun _ _ x _=>3-(Go.RowKit.intOf x).toNat)
    case atStart=>exact ⟨0,by omega,rfl,rfl,⟨I0.out,QU.out⟩⟩
    case round =>
     clear I0 QU
     obtain ⟨k,hk,rfl,rfl,JJ⟩:=hrel
     by_cases k3:k<3
     . rcases (show k=0\/k=1\/k=2 by omega) with rfl | rfl | rfl
       . have cb:wr.cell? ⟨gb,0,none⟩=some (.int .i64 9):=Blk.cell JJ.out.1 0
         have lb:=JJ.out.1.lt
         have gq:=JJ.out.2.1
         have lgq:=JJ.out.2.2.1
         obtain ⟨Nk,hNk⟩: ∃ Nk:Nat,N0+part Q pm 0=Nk:=⟨_,rfl⟩
         have HNk:Hid (N0+part Q pm 1=Nk+frL 1 Q pm):=by
          have q:part Q pm 1=part Q pm 0+frL 1 Q pm:=part_step Q pm (k:=0) (by omega)
          show _=_
          omega
         have bk:Nk<=4000000:=by
          have q:=part_le Q pm 0
          have:=HTL.out
          omega
         rw [hNk]
         clear hNk
         have w1:IntKind.i64.wrap ((Nk:Int)+1)=((Nk+1:Nat):Int):=by simp only [IntKind.wrap_i64];omega
         by_cases mz:m=0
         . have q0:((m:Int)==0)=true:=by simp;exact mz
           have hf:frL 1 Q pm=1:=by rw [HF.out,if_pos mz]
           go_upto_region 8 with fail
           go_quiet (fail)
           go_wp2_with fail
           go_roundw
           case rel=>exact ⟨1,by omega,rfl,(by rw [HNk.out,hf];simp),⟨JJ.out.1,JJ.out.2.1,JJ.out.2.2.1,below_drewN JJ.out.2.2.2⟩⟩
           case measure=>simp [Go.RowKit.intOf]
         . obtain ⟨j,hj⟩: ∃ j,m-1=j:=⟨_,rfl⟩
           rw [hj] at gq
           have q0:((m:Int)==0)=false:=by simp;exact mz
           have q1:IntKind.i64.wrap ((m:Int)-1)=(j:Int):=by simp only [IntKind.wrap_i64];omega
           have q2:decide ((j:Int)<0)=false:=by simp
           have q3:decide ((j:Int)<(n:Int))=true:=by simp;omega
           have q4:(0:Int)<=(j:Int):=by omega
           have q5:(j:Int)<(n:Int):=by omega
           have hf0:=HF.out 1
           rw [if_neg mz,pre_div _ _ (by omega),pre_div _ _ (by omega)] at hf0
           clear hj
           by_cases pe:pq / 512=pm / 512
           . have hf:frL 1 Q pm=0:=by rw [hf0];exact if_pos pe
             have q6:((pq:Int) / 512 != (pm:Int) / 512)=false:=by simp;omega
             clear hf0 pe
             go_upto_region 8 with fail
             go_quiet (fail)
             go_wp2_with fail
             go_roundw
             case rel=>exact ⟨1,by omega,rfl,(by rw [HNk.out,hf];simp),⟨JJ.out.1,JJ.out.2.1,JJ.out.2.2.1,below_drewN JJ.out.2.2.2⟩⟩
             case measure=>simp [Go.RowKit.intOf]
           . have hf:frL 1 Q pm=1:=by rw [hf0];exact if_neg pe
             have q6:((pq:Int) / 512 != (pm:Int) / 512)=true:=by simp;omega
             clear hf0 pe
             go_upto_region 8 with fail
             go_quiet (fail)
             go_wp2_with fail
             go_roundw
             case rel=>exact ⟨1,by omega,rfl,(by rw [HNk.out,hf];simp),⟨JJ.out.1,JJ.out.2.1,JJ.out.2.2.1,below_drewN JJ.out.2.2.2⟩⟩
             case measure=>simp [Go.RowKit.intOf]
       . have cb:wr.cell? ⟨gb,1,none⟩=some (.int .i64 18):=Blk.cell JJ.out.1 1
         have lb:=JJ.out.1.lt
         have gq:=JJ.out.2.1
         have lgq:=JJ.out.2.2.1
         obtain ⟨Nk,hNk⟩: ∃ Nk:Nat,N0+part Q pm 1=Nk:=⟨_,rfl⟩
         have HNk:Hid (N0+part Q pm 2=Nk+frL 2 Q pm):=by
          have q:part Q pm 2=part Q pm 1+frL 2 Q pm:=part_step Q pm (k:=1) (by omega)
          show _=_
          omega
         have bk:Nk<=4000000:=by
          have q:=part_le Q pm 1
          have:=HTL.out
          omega
         rw [hNk]
         clear hNk
         have w1:IntKind.i64.wrap ((Nk:Int)+1)=((Nk+1:Nat):Int):=by simp only [IntKind.wrap_i64];omega
         by_cases mz:m=0
         . have q0:((m:Int)==0)=true:=by simp;exact mz
           have hf:frL 2 Q pm=1:=by rw [HF.out,if_pos mz]
           go_upto_region 8 with fail
           go_quiet (fail)
           go_wp2_with fail
           go_roundw
           case rel=>exact ⟨2,by omega,rfl,(by rw [HNk.out,hf];simp),⟨JJ.out.1,JJ.out.2.1,JJ.out.2.2.1,below_drewN JJ.out.2.2.2⟩⟩
           case measure=>simp [Go.RowKit.intOf]
         . obtain ⟨j,hj⟩: ∃ j,m-1=j:=⟨_,rfl⟩
           rw [hj] at gq
           have q0:((m:Int)==0)=false:=by simp;exact mz
           have q1:IntKind.i64.wrap ((m:Int)-1)=(j:Int):=by simp only [IntKind.wrap_i64];omega
           have q2:decide ((j:Int)<0)=false:=by simp
           have q3:decide ((j:Int)<(n:Int))=true:=by simp;omega
           have q4:(0:Int)<=(j:Int):=by omega
           have q5:(j:Int)<(n:Int):=by omega
           have hf0:=HF.out 2
           rw [if_neg mz,pre_div _ _ (by omega),pre_div _ _ (by omega)] at hf0
           clear hj
           by_cases pe:pq / 262144=pm / 262144
           . have hf:frL 2 Q pm=0:=by rw [hf0];exact if_pos pe
             have q6:((pq:Int) / 262144 != (pm:Int) / 262144)=false:=by simp;omega
             clear hf0 pe
             go_upto_region 8 with fail
             go_quiet (fail)
             go_wp2_with fail
             go_roundw
             case rel=>exact ⟨2,by omega,rfl,(by rw [HNk.out,hf];simp),⟨JJ.out.1,JJ.out.2.1,JJ.out.2.2.1,below_drewN JJ.out.2.2.2⟩⟩
             case measure=>simp [Go.RowKit.intOf]
           . have hf:frL 2 Q pm=1:=by rw [hf0];exact if_neg pe
             have q6:((pq:Int) / 262144 != (pm:Int) / 262144)=true:=by simp;omega
             clear hf0 pe
             go_upto_region 8 with fail
             go_quiet (fail)
             go_wp2_with fail
             go_roundw
             case rel=>exact ⟨2,by omega,rfl,(by rw [HNk.out,hf];simp),⟨JJ.out.1,JJ.out.2.1,JJ.out.2.2.1,below_drewN JJ.out.2.2.2⟩⟩
             case measure=>simp [Go.RowKit.intOf]
       . have cb:wr.cell? ⟨gb,2,none⟩=some (.int .i64 27):=Blk.cell JJ.out.1 2
         have lb:=JJ.out.1.lt
         have gq:=JJ.out.2.1
         have lgq:=JJ.out.2.2.1
         obtain ⟨Nk,hNk⟩: ∃ Nk:Nat,N0+part Q pm 2=Nk:=⟨_,rfl⟩
         have HNk:Hid (N0+part Q pm 3=Nk+frL 3 Q pm):=by
          have q:part Q pm 3=part Q pm 2+frL 3 Q pm:=part_step Q pm (k:=2) (by omega)
          show _=_
          omega
         have bk:Nk<=4000000:=by
          have q:=part_le Q pm 2
          have:=HTL.out
          omega
         rw [hNk]
         clear hNk
         have w1:IntKind.i64.wrap ((Nk:Int)+1)=((Nk+1:Nat):Int):=by simp only [IntKind.wrap_i64];omega
         by_cases mz:m=0
         . have q0:((m:Int)==0)=true:=by simp;exact mz
           have hf:frL 3 Q pm=1:=by rw [HF.out,if_pos mz]
           go_upto_region 8 with fail
           go_quiet (fail)
           go_wp2_with fail
           go_roundw
           case rel=>exact ⟨3,by omega,rfl,(by rw [HNk.out,hf];simp),⟨JJ.out.1,JJ.out.2.1,JJ.out.2.2.1,below_drewN JJ.out.2.2.2⟩⟩
           case measure=>simp [Go.RowKit.intOf]
         . obtain ⟨j,hj⟩: ∃ j,m-1=j:=⟨_,rfl⟩
           rw [hj] at gq
           have q0:((m:Int)==0)=false:=by simp;exact mz
           have q1:IntKind.i64.wrap ((m:Int)-1)=(j:Int):=by simp only [IntKind.wrap_i64];omega
           have q2:decide ((j:Int)<0)=false:=by simp
           have q3:decide ((j:Int)<(n:Int))=true:=by simp;omega
           have q4:(0:Int)<=(j:Int):=by omega
           have q5:(j:Int)<(n:Int):=by omega
           have hf0:=HF.out 3
           rw [if_neg mz,pre_div _ _ (by omega),pre_div _ _ (by omega)] at hf0
           clear hj
           by_cases pe:pq / 134217728=pm / 134217728
           . have hf:frL 3 Q pm=0:=by rw [hf0];exact if_pos pe
             have q6:((pq:Int) / 134217728 != (pm:Int) / 134217728)=false:=by simp;omega
             clear hf0 pe
             go_upto_region 8 with fail
             go_quiet (fail)
             go_wp2_with fail
             go_roundw
             case rel=>exact ⟨3,by omega,rfl,(by rw [HNk.out,hf];simp),⟨JJ.out.1,JJ.out.2.1,JJ.out.2.2.1,below_drewN JJ.out.2.2.2⟩⟩
             case measure=>simp [Go.RowKit.intOf]
           . have hf:frL 3 Q pm=1:=by rw [hf0];exact if_neg pe
             have q6:((pq:Int) / 134217728 != (pm:Int) / 134217728)=true:=by simp;omega
             clear hf0 pe
             go_upto_region 8 with fail
             go_quiet (fail)
             go_wp2_with fail
             go_roundw
             case rel=>exact ⟨3,by omega,rfl,(by rw [HNk.out,hf];simp),⟨JJ.out.1,JJ.out.2.1,JJ.out.2.2.1,below_drewN JJ.out.2.2.2⟩⟩
             case measure=>simp [Go.RowKit.intOf]
     . obtain rfl:k=3:=by omega
       have HE:Hid (Below w.heap.size w wr):=JJ.out.2.2.2
       have ht:=HT.out
       clear HF JJ
       go_wp2_with fail
       go_roundw
       case rel=>exact ⟨m+1,by omega,by go_num,by rw [ht],HE⟩
       case measure=>simp [Go.RowKit.intOf];omega
  . obtain rfl:m=n:=by omega
    have hd:decide ((m:Int)<(m:Int))=false:=by simp
    have e1:P.take m=P:=by rw [<- HN.out,List.take_length]
    rw [e1]
    go_wp2_with fail
    go_returns
    exact ⟨rfl,HW.out⟩
end Go.Proofs.YtkiclbnbnjbcaaaDoor.Tt
namespace Go.Proofs.YtkiclbnbnjbcaaaDoor.Tt
open Go.ChangeShapes Go.WideShapes Go.ChangeAt Go.RowKit Go.Maps
open Go.Proofs.YtkiclbnbnjbcaaaDoor.Li (wpList_app)
set_option linter.unusedSimpArgs false
set_option linter.unusedVariables false
set_option maxRecDepth 8000
abbrev zTJ5a (x0 x1 x2:Int) (x3 x4 x5:Bool):Array Value:=#[.int .i64 x0,.int .i64 x1,.int .i64 x2,.bool x3,.bool x4,.bool x5]
abbrev zTJ5b (x0 x1 x2:Int) (x3 x4 x5:Bool):List Value:=[.int .i64 x0,.int .i64 x1,.int .i64 x2,.bool x3,.bool x4,.bool x5]
abbrev zTJ5c (x0 x1:Int) (x2 x3 x4:Bool):Array Value:=#[.int .i64 x0,.int .i64 x1,.bool x2,.bool x3,.bool x4]
theorem pgs_more0 {lf:Nat->Option Lf} (h:Bd0 lf) {p:Nat} (hp:p<34359738368) (e:lf p=none) (v:Lf):(pgs (lfSet lf p (some v))).Perm (p::pgs lf):=by
 refine (List.perm_ext_iff_of_nodup (pgs_nodup _) (List.nodup_cons.2 ⟨fun q=> ?_,pgs_nodup _⟩)).2 (fun q=> ?_)
 . have:=(h.mem p).1 q;rw [e] at this;cases this
 . rw [(h.put hp v).mem,List.mem_cons,h.mem]
   by_cases c:q=p
   . subst c;rw [lf_same];simp
   . rw [lf_other c];simp [c]
structure Ld (w:World) (lf:Nat->Option Lf) (p:Option Addr):Prop where
 is:IsF w p (lvs lf)
 bd:Bd0 lf
 le:(pgs lf).length<=1000
theorem Ld.below {w W:World} {lf:Nat->Option Lf} {p:Option Addr} (h:Ld w lf p) (hb:Below w.heap.size w W):Ld W lf p:=⟨h.is.below hb,h.bd,h.le⟩
theorem fndV_some {lf:Nat->Option Lf} (h:Bd0 lf) {p:Nat} {v:Lf} (e:lf p=some v):fndV (lvs lf) p=((p,v),true):=by unfold fndV;rw [fnd_some h e]
theorem fndV_none {lf:Nat->Option Lf} (h:Bd0 lf) {p:Int} (e: ¬ (0<=p/\p<34359738368)\/lf p.toNat=none):fndV (lvs lf) p=((0,Lf.zero),false):=by unfold fndV;rw [fnd_none h e]
theorem Ld.find {w:World} {lf:Nat->Option Lf} {p:Option Addr} (h:Ld w lf p) (c:Nat) (i:Int) :
 Calls Tryd.prog 24 #[.slice p (lvs lf).length c,.int .i64 i] w fun e w'=>e=.returned (.tuple #[Lv.val (fndV (lvs lf) i).1,.bool (fndV (lvs lf) i).2])/\Below w.heap.size w w':=rfind_c p c (lvs lf) (by rw [lvs_len];have:=h.le;omega) i w h.is
theorem Ld.numbers {w:World} {lf:Nat->Option Lf} {p:Option Addr} (h:Ld w lf p) (c:Nat) :
 Calls Tryd.prog 16 #[.slice p (lvs lf).length c] w fun e w'=> ∃ (q:Option Addr) (d:Nat),e=.returned (.slice q (pgs lf).length d)/\IsN w' q (pgs lf)/\Below w.heap.size w w':=by
 refine (rnumbers_c p c (lvs lf) (by rw [lvs_len];have:=h.le;omega) w h.is).mono ?_
 rintro e w' ⟨v',rfl,ho⟩
 have o:=ho.own
 rw [lvs_fst] at o
 obtain ⟨q,d,rfl,hn⟩:=oi_read o
 exact ⟨q,d,rfl,hn,ho.bel⟩
theorem tables_c {w:World} {lf:Nat->Option Lf} {q:Option Addr} (bd:Bd0 lf) (le:(pgs lf).length<=1001) (h:IsN w q (pgs lf)) (d:Nat) :
 Calls Tryd.prog 15 #[.slice q (pgs lf).length d] w fun e w'=>e=.returned (.int .i64 (tabsN (pgs lf):Nat))/\Below w.heap.size w w' :=
 rtables_c q d (pgs lf) (by omega) (pg_rising lf 4 0) (fun x hx=>by
  obtain ⟨v,hv⟩:=Option.isSome_iff_exists.1 ((bd.mem x).1 hx)
  exact bd x v hv) w h
set_option maxHeartbeats 2000000 in
theorem mapped_bad (v:Value) (kd pg fr:Int) (pa pb pc:Bool) (rm:Int) (w:World) (hb: ¬ (0<=pg/\pg<34359738368/\0<=fr/\fr<1048576)) :
 Calls Tryd.prog 39 #[v,.agg (zTJ5a kd pg fr pa pb pc),.int .i64 rm] w fun e w'=>e=.returned (.tuple #[v,.int .i64 1])/\Below w.heap.size w w':=by
 by_cases k1:pg<0
 . have d1:decide (pg<0)=true:=by simp [k1]
   have BA:Hid (Blk (w.alloc (.cells (zTJ5a kd pg fr pa pb pc) 42)) w.heap.size (zTJ5b kd pg fr pa pb pc) 42):=Blk.made w (zTJ5b kd pg fr pa pb pc) 42
   have HB:Hid (Below w.heap.size w (w.alloc (.cells (zTJ5a kd pg fr pa pb pc) 42))):=Go.Joins.below_alloc1 _ _
   go_enter Tryd.func39,Tryd.ntmps39
   go_upto_region 1 with fail
   generalize (w.alloc (.cells (zTJ5a kd pg fr pa pb pc) 42))=W1 at BA HB |-
   obtain ⟨A,hA⟩: ∃ A,w.heap.size=A:=⟨_,rfl⟩
   rw [hA] at BA |-
   clear hA
   have y0:W1.cell? ⟨A,0,none⟩=some (.int .i64 kd):=Blk.cell BA.out 0
   have y1:W1.cell? ⟨A,1,none⟩=some (.int .i64 pg):=Blk.cell BA.out 1
   have y2:W1.cell? ⟨A,2,none⟩=some (.int .i64 fr):=Blk.cell BA.out 2
   have y3:W1.cell? ⟨A,3,none⟩=some (.bool pa):=Blk.cell BA.out 3
   have y4:W1.cell? ⟨A,4,none⟩=some (.bool pb):=Blk.cell BA.out 4
   have y5:W1.cell? ⟨A,5,none⟩=some (.bool pc):=Blk.cell BA.out 5
   have lA:=Blk.lt BA.out
   go_wp2_with fail
   go_returns
   exact ⟨rfl,HB.out⟩
 have d1:decide (pg<0)=false:=by simp;omega
 by_cases k2:34359738368<=pg
 . have d2:decide (34359738368<=pg)=true:=by simp [k2]
   have BA:Hid (Blk (w.alloc (.cells (zTJ5a kd pg fr pa pb pc) 42)) w.heap.size (zTJ5b kd pg fr pa pb pc) 42):=Blk.made w (zTJ5b kd pg fr pa pb pc) 42
   have HB:Hid (Below w.heap.size w (w.alloc (.cells (zTJ5a kd pg fr pa pb pc) 42))):=Go.Joins.below_alloc1 _ _
   go_enter Tryd.func39,Tryd.ntmps39
   go_upto_region 1 with fail
   generalize (w.alloc (.cells (zTJ5a kd pg fr pa pb pc) 42))=W1 at BA HB |-
   obtain ⟨A,hA⟩: ∃ A,w.heap.size=A:=⟨_,rfl⟩
   rw [hA] at BA |-
   clear hA
   have y0:W1.cell? ⟨A,0,none⟩=some (.int .i64 kd):=Blk.cell BA.out 0
   have y1:W1.cell? ⟨A,1,none⟩=some (.int .i64 pg):=Blk.cell BA.out 1
   have y2:W1.cell? ⟨A,2,none⟩=some (.int .i64 fr):=Blk.cell BA.out 2
   have y3:W1.cell? ⟨A,3,none⟩=some (.bool pa):=Blk.cell BA.out 3
   have y4:W1.cell? ⟨A,4,none⟩=some (.bool pb):=Blk.cell BA.out 4
   have y5:W1.cell? ⟨A,5,none⟩=some (.bool pc):=Blk.cell BA.out 5
   have lA:=Blk.lt BA.out
   go_wp2_with fail
   go_returns
   exact ⟨rfl,HB.out⟩
 have d2:decide (34359738368<=pg)=false:=by simp;omega
 by_cases k3:fr<0
 . have d3:decide (fr<0)=true:=by simp [k3]
   have BA:Hid (Blk (w.alloc (.cells (zTJ5a kd pg fr pa pb pc) 42)) w.heap.size (zTJ5b kd pg fr pa pb pc) 42):=Blk.made w (zTJ5b kd pg fr pa pb pc) 42
   have HB:Hid (Below w.heap.size w (w.alloc (.cells (zTJ5a kd pg fr pa pb pc) 42))):=Go.Joins.below_alloc1 _ _
   go_enter Tryd.func39,Tryd.ntmps39
   go_upto_region 1 with fail
   generalize (w.alloc (.cells (zTJ5a kd pg fr pa pb pc) 42))=W1 at BA HB |-
   obtain ⟨A,hA⟩: ∃ A,w.heap.size=A:=⟨_,rfl⟩
   rw [hA] at BA |-
   clear hA
   have y0:W1.cell? ⟨A,0,none⟩=some (.int .i64 kd):=Blk.cell BA.out 0
   have y1:W1.cell? ⟨A,1,none⟩=some (.int .i64 pg):=Blk.cell BA.out 1
   have y2:W1.cell? ⟨A,2,none⟩=some (.int .i64 fr):=Blk.cell BA.out 2
   have y3:W1.cell? ⟨A,3,none⟩=some (.bool pa):=Blk.cell BA.out 3
   have y4:W1.cell? ⟨A,4,none⟩=some (.bool pb):=Blk.cell BA.out 4
   have y5:W1.cell? ⟨A,5,none⟩=some (.bool pc):=Blk.cell BA.out 5
   have lA:=Blk.lt BA.out
   go_wp2_with fail
   go_returns
   exact ⟨rfl,HB.out⟩
 have d3:decide (fr<0)=false:=by simp;omega
 have d4:decide (1048576<=fr)=true:=by simp;omega
 have BA:Hid (Blk (w.alloc (.cells (zTJ5a kd pg fr pa pb pc) 42)) w.heap.size (zTJ5b kd pg fr pa pb pc) 42):=Blk.made w (zTJ5b kd pg fr pa pb pc) 42
 have HB:Hid (Below w.heap.size w (w.alloc (.cells (zTJ5a kd pg fr pa pb pc) 42))):=Go.Joins.below_alloc1 _ _
 go_enter Tryd.func39,Tryd.ntmps39
 go_upto_region 1 with fail
 generalize (w.alloc (.cells (zTJ5a kd pg fr pa pb pc) 42))=W1 at BA HB |-
 obtain ⟨A,hA⟩: ∃ A,w.heap.size=A:=⟨_,rfl⟩
 rw [hA] at BA |-
 clear hA
 have y0:W1.cell? ⟨A,0,none⟩=some (.int .i64 kd):=Blk.cell BA.out 0
 have y1:W1.cell? ⟨A,1,none⟩=some (.int .i64 pg):=Blk.cell BA.out 1
 have y2:W1.cell? ⟨A,2,none⟩=some (.int .i64 fr):=Blk.cell BA.out 2
 have y3:W1.cell? ⟨A,3,none⟩=some (.bool pa):=Blk.cell BA.out 3
 have y4:W1.cell? ⟨A,4,none⟩=some (.bool pb):=Blk.cell BA.out 4
 have y5:W1.cell? ⟨A,5,none⟩=some (.bool pc):=Blk.cell BA.out 5
 have lA:=Blk.lt BA.out
 go_wp2_with fail
 go_returns
 exact ⟨rfl,HB.out⟩
theorem below_sz {w w':World} (h:Below w.heap.size w w'):Below w.heap.size w w':=h
set_option maxHeartbeats 4000000 in
theorem mapped_there {w:World} {lf:Nat->Option Lf} {p:Option Addr} (h:Ld w lf p) (c:Nat) (kd fr:Int) (pn:Nat) (pa pb pc:Bool) (rm:Int) (hp:pn<34359738368) (hf:0<=fr/\fr<1048576) {v:Lf} (e:lf pn=some v) :
 Calls Tryd.prog 39 #[.slice p (lvs lf).length c,.agg (zTJ5a kd (pn:Int) fr pa pb pc),.int .i64 rm] w fun e w'=>e=.returned (.tuple #[.slice p (lvs lf).length c,.int .i64 6])/\Below w.heap.size w w':=by
 obtain ⟨f0,f1⟩:=hf
 obtain ⟨pg,hpg⟩: ∃ pg:Int,pg=(pn:Int):=⟨_,rfl⟩
 have FC:Hid (∀ W:World,Below w.heap.size w W->Calls Tryd.prog 24 #[.slice p (lvs lf).length c,.int .i64 pg] W fun e w'=>e=.returned (.tuple #[.agg (zTJ5c (pn:Nat) v.f v.w v.u v.x),.bool true])/\Below W.heap.size W w'):=fun W hb=>by
  have q:=(h.below hb).find c pn
  rw [fndV_some h.bd e] at q
  rw [hpg]
  exact q
 have g0:0<=pg:=by omega
 have g1:pg<34359738368:=by omega
 rw [<- hpg]
 clear h e hpg
 obtain ⟨zf,zw,zu,zx⟩:=v
 simp only at FC
 generalize pn=z1 at FC
 have d1:decide (pg<0)=false:=by simp;omega
 have d2:decide (34359738368<=pg)=false:=by simp;omega
 have d3:decide (fr<0)=false:=by simp;omega
 have d4:decide (1048576<=fr)=false:=by simp;omega
 generalize (lvs lf).length=ln at FC |-
 have BA:Hid (Blk (w.alloc (.cells (zTJ5a kd pg fr pa pb pc) 42)) w.heap.size (zTJ5b kd pg fr pa pb pc) 42):=Blk.made w (zTJ5b kd pg fr pa pb pc) 42
 have HB:Hid (Below w.heap.size w (w.alloc (.cells (zTJ5a kd pg fr pa pb pc) 42))):=Go.Joins.below_alloc1 _ _
 go_enter Tryd.func39,Tryd.ntmps39
 go_upto_region 1 with fail
 generalize (w.alloc (.cells (zTJ5a kd pg fr pa pb pc) 42))=W1 at BA HB |-
 obtain ⟨A,hA⟩: ∃ A,w.heap.size=A:=⟨_,rfl⟩
 rw [hA] at BA |-
 clear hA
 have y0:W1.cell? ⟨A,0,none⟩=some (.int .i64 kd):=Blk.cell BA.out 0
 have y1:W1.cell? ⟨A,1,none⟩=some (.int .i64 pg):=Blk.cell BA.out 1
 have y2:W1.cell? ⟨A,2,none⟩=some (.int .i64 fr):=Blk.cell BA.out 2
 have y3:W1.cell? ⟨A,3,none⟩=some (.bool pa):=Blk.cell BA.out 3
 have y4:W1.cell? ⟨A,4,none⟩=some (.bool pb):=Blk.cell BA.out 4
 have y5:W1.cell? ⟨A,5,none⟩=some (.bool pc):=Blk.cell BA.out 5
 have lA:=Blk.lt BA.out
 go_wp2_with fail
 refine Calls.mono (FC.out W1 HB.out) ?_
 rintro e w2 ⟨rfl,hb2⟩
 have H2:Hid (Below w.heap.size w (w2.alloc (.cells (zTJ5c (z1:Nat) zf zw zu zx) 63))):=below_new (below_then HB.out hb2) _
 clear hb2 HB FC y0 y1 y2 y3 y4 y5 lA BA
 go_upto_region 4 with fail
 generalize (w2.alloc (.cells (zTJ5c (z1:Nat) zf zw zu zx) 63))=w3 at H2 |-
 go_wp2_with fail
 go_returns
 exact ⟨rfl,H2.out⟩
set_option maxHeartbeats 8000000 in
theorem mapped_full {w:World} {lf:Nat->Option Lf} {p:Option Addr} (h:Ld w lf p) (c:Nat) (kd fr:Int) (pn:Nat) (pa pb pc:Bool) (rm:Int) (hp:pn<34359738368) (hf:0<=fr/\fr<1048576) (e:lf pn=none) (hl:(pgs lf).length<1000) (hz:rm<(fresh (pgs lf) pn:Nat)) :
 Calls Tryd.prog 39 #[.slice p (lvs lf).length c,.agg (zTJ5a kd (pn:Int) fr pa pb pc),.int .i64 rm] w fun e w'=>e=.returned (.tuple #[.slice p (lvs lf).length c,.int .i64 8])/\Below w.heap.size w w':=by
 obtain ⟨f0,f1⟩:=hf
 obtain ⟨pg,hpg⟩: ∃ pg:Int,pg=(pn:Int):=⟨_,rfl⟩
 obtain ⟨lf',hlf'⟩: ∃ lf',lf'=lfSet lf pn (some ⟨fr,pa,pb,pc⟩):=⟨_,rfl⟩
 have pm:=pgs_more0 h.bd hp e ⟨fr,pa,pb,pc⟩
 rw [<- hlf'] at pm
 have tt:tabsN (pgs lf')=tabsN (pgs lf)+fresh (pgs lf) pn:=(tabs_perm pm).trans rfl
 have le':(pgs lf').length=(pgs lf).length+1:=pm.length_eq
 have bd':Bd0 lf':=by rw [hlf'];exact h.bd.put hp _
 have wl:wth (lvs lf) (pn,⟨fr,pa,pb,pc⟩)=lvs lf':=by rw [hlf'];exact with_lvs h.bd hp e _
 have FC:Hid (∀ W:World,Below w.heap.size w W->Calls Tryd.prog 24 #[.slice p (lvs lf).length c,.int .i64 pg] W fun e w'=>e=.returned (.tuple #[.agg (zTJ5c 0 0 false false false),.bool false])/\Below W.heap.size W w'):=fun W hb=>by
  have q:=(h.below hb).find c pn
  rw [fndV_none h.bd (Or.inr (by rw [Int.toNat_natCast];exact e))] at q
  rw [hpg]
  exact q
 have WC:Hid (∀ W:World,Below w.heap.size w W->Calls Tryd.prog 42 #[.slice p (lvs lf).length c,.agg (zTJ5c pg fr pa pb pc)] W fun e w'=> ∃ (p':Option Addr) (c':Nat),e=.returned (.slice p' (lvs lf').length c')/\OFI W w' (.slice p' (lvs lf').length c') (lvs lf')/\IsF w' p' (lvs lf')):=fun W hb=>by
  have q:=rwith_c p c (lvs lf) (by rw [lvs_len];have:=h.le;omega) (pn,⟨fr,pa,pb,pc⟩) W (h.below hb).is
  rw [hpg]
  refine Calls.mono q ?_
  rintro e w' ⟨v',rfl,ho⟩
  rw [wl] at ho
  obtain ⟨p',c',rfl,_,hF,_⟩:=of_read ho.own
  exact ⟨p',c',rfl,ho,hF⟩
 have N1:Hid (∀ (W:World) (p':Option Addr) (c':Nat),IsF W p' (lvs lf')->Calls Tryd.prog 16 #[.slice p' (lvs lf').length c'] W fun e w'=> ∃ (q:Option Addr) (d:Nat),e=.returned (.slice q (pgs lf').length d)/\IsN w' q (pgs lf')/\Below W.heap.size W w'):=fun W p' c' hF=>Ld.numbers ⟨hF,bd',by have:=h.le;omega⟩ c'
 have N2:Hid (∀ (W:World),Below w.heap.size w W->Calls Tryd.prog 16 #[.slice p (lvs lf).length c] W fun e w'=> ∃ (q:Option Addr) (d:Nat),e=.returned (.slice q (pgs lf).length d)/\IsN w' q (pgs lf)/\Below W.heap.size W w'):=fun W hb=>(h.below hb).numbers c
 obtain ⟨t1,ht1⟩: ∃ t1,tabsN (pgs lf')=t1:=⟨_,rfl⟩
 obtain ⟨t0,ht0⟩: ∃ t0,tabsN (pgs lf)=t0:=⟨_,rfl⟩
 have T1:Hid (∀ (W:World) (q:Option Addr) (d:Nat),IsN W q (pgs lf')->Calls Tryd.prog 15 #[.slice q (pgs lf').length d] W fun e w'=>e=.returned (.int .i64 (t1:Nat))/\Below W.heap.size W w'):=fun W q d hN=>by
  have r:=tables_c bd' (by have:=h.le;omega) hN d
  rw [ht1] at r
  exact r
 have T2:Hid (∀ (W:World) (q:Option Addr) (d:Nat),IsN W q (pgs lf)->Calls Tryd.prog 15 #[.slice q (pgs lf).length d] W fun e w'=>e=.returned (.int .i64 (t0:Nat))/\Below W.heap.size W w'):=fun W q d hN=>by
  have r:=tables_c h.bd (by have:=h.le;omega) hN d
  rw [ht0] at r
  exact r
 have tl:=tabs_le (pgs lf)
 have hle:=h.le
 rw [ht1,ht0] at tt
 rw [ht0] at tl
 have w9:IntKind.i64.wrap ((t1:Int)-(t0:Int))=(t1:Int)-(t0:Int):=by
  have:=fresh_le (pgs lf) pn
  simp only [IntKind.wrap_i64];omega
 have dz:decide (rm<(t1:Int)-(t0:Int))=true:=by simp;omega
 have HG:Hid (∀ (w':World) (v':Value),OFI w w' v' (lvs lf')->OFI w w' v' (lvs (lfSet lf pn (some ⟨fr,pa,pb,pc⟩)))):=by rw [hlf'];exact fun _ _ q=>q
 have g0:0<=pg:=by omega
 have g1:pg<34359738368:=by omega
 rw [<- hpg]
 clear h e hl hpg hz pm tt le' bd' wl ht1 ht0 tl hle hlf' HG
 have d1:decide (pg<0)=false:=by simp;omega
 have d2:decide (34359738368<=pg)=false:=by simp;omega
 have d3:decide (fr<0)=false:=by simp;omega
 have d4:decide (1048576<=fr)=false:=by simp;omega
 generalize (lvs lf).length=ln at FC WC N2 |-
 generalize (pgs lf).length=lm at N2 T2
 generalize (lvs lf').length=ln' at WC N1
 generalize (pgs lf').length=lm' at N1 T1
 have BA:Hid (Blk (w.alloc (.cells (zTJ5a kd pg fr pa pb pc) 42)) w.heap.size (zTJ5b kd pg fr pa pb pc) 42):=Blk.made w (zTJ5b kd pg fr pa pb pc) 42
 have HB:Hid (Below w.heap.size w (w.alloc (.cells (zTJ5a kd pg fr pa pb pc) 42))):=Go.Joins.below_alloc1 _ _
 go_enter Tryd.func39,Tryd.ntmps39
 go_upto_region 1 with fail
 generalize (w.alloc (.cells (zTJ5a kd pg fr pa pb pc) 42))=W1 at BA HB |-
 obtain ⟨A,hA⟩: ∃ A,w.heap.size=A:=⟨_,rfl⟩
 rw [hA] at BA |-
 clear hA
 have y0:W1.cell? ⟨A,0,none⟩=some (.int .i64 kd):=Blk.cell BA.out 0
 have y1:W1.cell? ⟨A,1,none⟩=some (.int .i64 pg):=Blk.cell BA.out 1
 have y2:W1.cell? ⟨A,2,none⟩=some (.int .i64 fr):=Blk.cell BA.out 2
 have y3:W1.cell? ⟨A,3,none⟩=some (.bool pa):=Blk.cell BA.out 3
 have y4:W1.cell? ⟨A,4,none⟩=some (.bool pb):=Blk.cell BA.out 4
 have y5:W1.cell? ⟨A,5,none⟩=some (.bool pc):=Blk.cell BA.out 5
 have lA:=Blk.lt BA.out
 go_wp2_with fail
 refine Calls.mono (FC.out W1 HB.out) ?_
 rintro e w2 ⟨rfl,hb2⟩
 have H2:Hid (Below w.heap.size w (w2.alloc (.cells (zTJ5c 0 0 false false false) 63))/\Blk (w2.alloc (.cells (zTJ5c 0 0 false false false) 63)) A (zTJ5b kd pg fr pa pb pc) 42):=⟨below_new (below_then HB.out hb2) _,(BA.out.below hb2).below (Go.Joins.below_alloc1 _ _)⟩
 clear hb2 HB FC y0 y1 y2 y3 y4 y5 lA BA d1 d2 d3 d4
 go_upto_region 4 with fail
 generalize (w2.alloc (.cells (zTJ5c 0 0 false false false) 63))=w3 at H2 |-
 have y0:w3.cell? ⟨A,0,none⟩=some (.int .i64 kd):=Blk.cell H2.out.2 0
 have y1:w3.cell? ⟨A,1,none⟩=some (.int .i64 pg):=Blk.cell H2.out.2 1
 have y2:w3.cell? ⟨A,2,none⟩=some (.int .i64 fr):=Blk.cell H2.out.2 2
 have y3:w3.cell? ⟨A,3,none⟩=some (.bool pa):=Blk.cell H2.out.2 3
 have y4:w3.cell? ⟨A,4,none⟩=some (.bool pb):=Blk.cell H2.out.2 4
 have y5:w3.cell? ⟨A,5,none⟩=some (.bool pc):=Blk.cell H2.out.2 5
 have lA:=Blk.lt H2.out.2
 go_wp2_with fail
 refine Calls.mono (WC.out w3 H2.out.1) ?_
 rintro e w4 ⟨p',c',rfl,hO,hF⟩
 have H4:Hid (Below w.heap.size w w4/\OFI w w4 (.slice p' ln' c') (lvs lf')):=by
  have b4:=below_then H2.out.1 (below_sz hO.bel)
  exact ⟨b4,⟨b4,Li.row_weak hO.own H2.out.1.size⟩⟩
 have HF4:Hid (IsF w4 p' (lvs lf')):=hF
 clear hO hF H2 y0 y1 y2 y3 y4 y5 lA WC
 go_wp2_with fail
 refine Calls.mono (N1.out w4 p' c' HF4.out) ?_
 rintro e w5 ⟨q1,d1,rfl,hN1,hb5⟩
 have H5:Hid (Below w.heap.size w w5/\OFI w w5 (.slice p' ln' c') (lvs lf')):=⟨below_then H4.out.1 hb5,H4.out.2.grow hb5⟩
 have HN1:Hid (IsN w5 q1 (pgs lf')):=hN1
 clear hN1 hb5 H4 HF4 N1
 go_wp2_with fail
 refine Calls.mono (T1.out w5 q1 d1 HN1.out) ?_
 rintro e w6 ⟨rfl,hb6⟩
 have H6:Hid (Below w.heap.size w w6/\OFI w w6 (.slice p' ln' c') (lvs lf')):=⟨below_then H5.out.1 hb6,H5.out.2.grow hb6⟩
 clear hb6 H5 HN1 T1
 go_wp2_with fail
 refine Calls.mono (N2.out w6 H6.out.1) ?_
 rintro e w7 ⟨q2,d2,rfl,hN2,hb7⟩
 have H7:Hid (Below w.heap.size w w7/\OFI w w7 (.slice p' ln' c') (lvs lf')):=⟨below_then H6.out.1 hb7,H6.out.2.grow hb7⟩
 have HN2:Hid (IsN w7 q2 (pgs lf)):=hN2
 clear hN2 hb7 H6 N2
 go_wp2_with fail
 refine Calls.mono (T2.out w7 q2 d2 HN2.out) ?_
 rintro e w8 ⟨rfl,hb8⟩
 have H8:Hid (Below w.heap.size w w8/\OFI w w8 (.slice p' ln' c') (lvs lf')):=⟨below_then H7.out.1 hb8,H7.out.2.grow hb8⟩
 clear hb8 H7 HN2 T2
 go_wp2_with fail
 go_returns
 exact ⟨rfl,H8.out.1⟩
set_option maxHeartbeats 8000000 in
theorem mapped_more {w:World} {lf:Nat->Option Lf} {p:Option Addr} (h:Ld w lf p) (c:Nat) (kd fr:Int) (pn:Nat) (pa pb pc:Bool) (rm:Int) (hp:pn<34359738368) (hf:0<=fr/\fr<1048576) (e:lf pn=none) (hl:(pgs lf).length<1000) (hz:(fresh (pgs lf) pn:Nat)<=rm) :
 Calls Tryd.prog 39 #[.slice p (lvs lf).length c,.agg (zTJ5a kd (pn:Int) fr pa pb pc),.int .i64 rm] w fun e w'=> ∃ v',e=.returned (.tuple #[v',.int .i64 0])/\OFI w w' v' (lvs (lfSet lf pn (some ⟨fr,pa,pb,pc⟩))):=by
 obtain ⟨f0,f1⟩:=hf
 obtain ⟨pg,hpg⟩: ∃ pg:Int,pg=(pn:Int):=⟨_,rfl⟩
 obtain ⟨lf',hlf'⟩: ∃ lf',lf'=lfSet lf pn (some ⟨fr,pa,pb,pc⟩):=⟨_,rfl⟩
 have pm:=pgs_more0 h.bd hp e ⟨fr,pa,pb,pc⟩
 rw [<- hlf'] at pm
 have tt:tabsN (pgs lf')=tabsN (pgs lf)+fresh (pgs lf) pn:=(tabs_perm pm).trans rfl
 have le':(pgs lf').length=(pgs lf).length+1:=pm.length_eq
 have bd':Bd0 lf':=by rw [hlf'];exact h.bd.put hp _
 have wl:wth (lvs lf) (pn,⟨fr,pa,pb,pc⟩)=lvs lf':=by rw [hlf'];exact with_lvs h.bd hp e _
 have FC:Hid (∀ W:World,Below w.heap.size w W->Calls Tryd.prog 24 #[.slice p (lvs lf).length c,.int .i64 pg] W fun e w'=>e=.returned (.tuple #[.agg (zTJ5c 0 0 false false false),.bool false])/\Below W.heap.size W w'):=fun W hb=>by
  have q:=(h.below hb).find c pn
  rw [fndV_none h.bd (Or.inr (by rw [Int.toNat_natCast];exact e))] at q
  rw [hpg]
  exact q
 have WC:Hid (∀ W:World,Below w.heap.size w W->Calls Tryd.prog 42 #[.slice p (lvs lf).length c,.agg (zTJ5c pg fr pa pb pc)] W fun e w'=> ∃ (p':Option Addr) (c':Nat),e=.returned (.slice p' (lvs lf').length c')/\OFI W w' (.slice p' (lvs lf').length c') (lvs lf')/\IsF w' p' (lvs lf')):=fun W hb=>by
  have q:=rwith_c p c (lvs lf) (by rw [lvs_len];have:=h.le;omega) (pn,⟨fr,pa,pb,pc⟩) W (h.below hb).is
  rw [hpg]
  refine Calls.mono q ?_
  rintro e w' ⟨v',rfl,ho⟩
  rw [wl] at ho
  obtain ⟨p',c',rfl,_,hF,_⟩:=of_read ho.own
  exact ⟨p',c',rfl,ho,hF⟩
 have N1:Hid (∀ (W:World) (p':Option Addr) (c':Nat),IsF W p' (lvs lf')->Calls Tryd.prog 16 #[.slice p' (lvs lf').length c'] W fun e w'=> ∃ (q:Option Addr) (d:Nat),e=.returned (.slice q (pgs lf').length d)/\IsN w' q (pgs lf')/\Below W.heap.size W w'):=fun W p' c' hF=>Ld.numbers ⟨hF,bd',by have:=h.le;omega⟩ c'
 have N2:Hid (∀ (W:World),Below w.heap.size w W->Calls Tryd.prog 16 #[.slice p (lvs lf).length c] W fun e w'=> ∃ (q:Option Addr) (d:Nat),e=.returned (.slice q (pgs lf).length d)/\IsN w' q (pgs lf)/\Below W.heap.size W w'):=fun W hb=>(h.below hb).numbers c
 obtain ⟨t1,ht1⟩: ∃ t1,tabsN (pgs lf')=t1:=⟨_,rfl⟩
 obtain ⟨t0,ht0⟩: ∃ t0,tabsN (pgs lf)=t0:=⟨_,rfl⟩
 have T1:Hid (∀ (W:World) (q:Option Addr) (d:Nat),IsN W q (pgs lf')->Calls Tryd.prog 15 #[.slice q (pgs lf').length d] W fun e w'=>e=.returned (.int .i64 (t1:Nat))/\Below W.heap.size W w'):=fun W q d hN=>by
  have r:=tables_c bd' (by have:=h.le;omega) hN d
  rw [ht1] at r
  exact r
 have T2:Hid (∀ (W:World) (q:Option Addr) (d:Nat),IsN W q (pgs lf)->Calls Tryd.prog 15 #[.slice q (pgs lf).length d] W fun e w'=>e=.returned (.int .i64 (t0:Nat))/\Below W.heap.size W w'):=fun W q d hN=>by
  have r:=tables_c h.bd (by have:=h.le;omega) hN d
  rw [ht0] at r
  exact r
 have tl:=tabs_le (pgs lf)
 have hle:=h.le
 rw [ht1,ht0] at tt
 rw [ht0] at tl
 have w9:IntKind.i64.wrap ((t1:Int)-(t0:Int))=(t1:Int)-(t0:Int):=by
  have:=fresh_le (pgs lf) pn
  simp only [IntKind.wrap_i64];omega
 have dz:decide (rm<(t1:Int)-(t0:Int))=false:=by simp;omega
 have HG:Hid (∀ (w':World) (v':Value),OFI w w' v' (lvs lf')->OFI w w' v' (lvs (lfSet lf pn (some ⟨fr,pa,pb,pc⟩)))):=by rw [hlf'];exact fun _ _ q=>q
 have g0:0<=pg:=by omega
 have g1:pg<34359738368:=by omega
 rw [<- hpg,<- hlf']
 clear h e hl hpg hz pm tt le' bd' wl ht1 ht0 tl hle hlf' HG
 have d1:decide (pg<0)=false:=by simp;omega
 have d2:decide (34359738368<=pg)=false:=by simp;omega
 have d3:decide (fr<0)=false:=by simp;omega
 have d4:decide (1048576<=fr)=false:=by simp;omega
 generalize (lvs lf).length=ln at FC WC N2 |-
 generalize (pgs lf).length=lm at N2 T2
 generalize (lvs lf').length=ln' at WC N1
 generalize (pgs lf').length=lm' at N1 T1
 have BA:Hid (Blk (w.alloc (.cells (zTJ5a kd pg fr pa pb pc) 42)) w.heap.size (zTJ5b kd pg fr pa pb pc) 42):=Blk.made w (zTJ5b kd pg fr pa pb pc) 42
 have HB:Hid (Below w.heap.size w (w.alloc (.cells (zTJ5a kd pg fr pa pb pc) 42))):=Go.Joins.below_alloc1 _ _
 go_enter Tryd.func39,Tryd.ntmps39
 go_upto_region 1 with fail
 generalize (w.alloc (.cells (zTJ5a kd pg fr pa pb pc) 42))=W1 at BA HB |-
 obtain ⟨A,hA⟩: ∃ A,w.heap.size=A:=⟨_,rfl⟩
 rw [hA] at BA |-
 clear hA
 have y0:W1.cell? ⟨A,0,none⟩=some (.int .i64 kd):=Blk.cell BA.out 0
 have y1:W1.cell? ⟨A,1,none⟩=some (.int .i64 pg):=Blk.cell BA.out 1
 have y2:W1.cell? ⟨A,2,none⟩=some (.int .i64 fr):=Blk.cell BA.out 2
 have y3:W1.cell? ⟨A,3,none⟩=some (.bool pa):=Blk.cell BA.out 3
 have y4:W1.cell? ⟨A,4,none⟩=some (.bool pb):=Blk.cell BA.out 4
 have y5:W1.cell? ⟨A,5,none⟩=some (.bool pc):=Blk.cell BA.out 5
 have lA:=Blk.lt BA.out
 go_wp2_with fail
 refine Calls.mono (FC.out W1 HB.out) ?_
 rintro e w2 ⟨rfl,hb2⟩
 have H2:Hid (Below w.heap.size w (w2.alloc (.cells (zTJ5c 0 0 false false false) 63))/\Blk (w2.alloc (.cells (zTJ5c 0 0 false false false) 63)) A (zTJ5b kd pg fr pa pb pc) 42):=⟨below_new (below_then HB.out hb2) _,(BA.out.below hb2).below (Go.Joins.below_alloc1 _ _)⟩
 clear hb2 HB FC y0 y1 y2 y3 y4 y5 lA BA d1 d2 d3 d4
 go_upto_region 4 with fail
 generalize (w2.alloc (.cells (zTJ5c 0 0 false false false) 63))=w3 at H2 |-
 have y0:w3.cell? ⟨A,0,none⟩=some (.int .i64 kd):=Blk.cell H2.out.2 0
 have y1:w3.cell? ⟨A,1,none⟩=some (.int .i64 pg):=Blk.cell H2.out.2 1
 have y2:w3.cell? ⟨A,2,none⟩=some (.int .i64 fr):=Blk.cell H2.out.2 2
 have y3:w3.cell? ⟨A,3,none⟩=some (.bool pa):=Blk.cell H2.out.2 3
 have y4:w3.cell? ⟨A,4,none⟩=some (.bool pb):=Blk.cell H2.out.2 4
 have y5:w3.cell? ⟨A,5,none⟩=some (.bool pc):=Blk.cell H2.out.2 5
 have lA:=Blk.lt H2.out.2
 go_wp2_with fail
 refine Calls.mono (WC.out w3 H2.out.1) ?_
 rintro e w4 ⟨p',c',rfl,hO,hF⟩
 have H4:Hid (Below w.heap.size w w4/\OFI w w4 (.slice p' ln' c') (lvs lf')):=by
  have b4:=below_then H2.out.1 (below_sz hO.bel)
  exact ⟨b4,⟨b4,Li.row_weak hO.own H2.out.1.size⟩⟩
 have HF4:Hid (IsF w4 p' (lvs lf')):=hF
 clear hO hF H2 y0 y1 y2 y3 y4 y5 lA WC
 go_wp2_with fail
 refine Calls.mono (N1.out w4 p' c' HF4.out) ?_
 rintro e w5 ⟨q1,d1,rfl,hN1,hb5⟩
 have H5:Hid (Below w.heap.size w w5/\OFI w w5 (.slice p' ln' c') (lvs lf')):=⟨below_then H4.out.1 hb5,H4.out.2.grow hb5⟩
 have HN1:Hid (IsN w5 q1 (pgs lf')):=hN1
 clear hN1 hb5 H4 HF4 N1
 go_wp2_with fail
 refine Calls.mono (T1.out w5 q1 d1 HN1.out) ?_
 rintro e w6 ⟨rfl,hb6⟩
 have H6:Hid (Below w.heap.size w w6/\OFI w w6 (.slice p' ln' c') (lvs lf')):=⟨below_then H5.out.1 hb6,H5.out.2.grow hb6⟩
 clear hb6 H5 HN1 T1
 go_wp2_with fail
 refine Calls.mono (N2.out w6 H6.out.1) ?_
 rintro e w7 ⟨q2,d2,rfl,hN2,hb7⟩
 have H7:Hid (Below w.heap.size w w7/\OFI w w7 (.slice p' ln' c') (lvs lf')):=⟨below_then H6.out.1 hb7,H6.out.2.grow hb7⟩
 have HN2:Hid (IsN w7 q2 (pgs lf)):=hN2
 clear hN2 hb7 H6 N2
 go_wp2_with fail
 refine Calls.mono (T2.out w7 q2 d2 HN2.out) ?_
 rintro e w8 ⟨rfl,hb8⟩
 have H8:Hid (Below w.heap.size w w8/\OFI w w8 (.slice p' ln' c') (lvs lf')):=⟨below_then H7.out.1 hb8,H7.out.2.grow hb8⟩
 clear hb8 H7 HN2 T2
 go_wp2_with fail
 go_returns
 exact ⟨_,rfl,H8.out.2⟩
end Go.Proofs.YtkiclbnbnjbcaaaDoor.Tt
namespace Go.Proofs.YtkiclbnbnjbcaaaDoor.Tt
open Go.ChangeShapes Go.WideShapes Go.ChangeAt Go.RowKit Go.Maps
open Go.Proofs.YtkiclbnbnjbcaaaDoor.Li (wpList_app)
set_option linter.unusedSimpArgs false
set_option linter.unusedVariables false
set_option maxRecDepth 8000
structure Sd (X:Nat->Prop) (m:Pm) (root k:Nat) (R U:Int) (F:Nat) (s:Ps) (tab:Nat->Nat->Option Nat) (lf:Nat->Option Lf) (v:Value) (w:World):Prop where
 st:St X m root k R U F s tab lf w
 ls: ∃ p c,v=.slice p (lvs lf).length c/\Ld w lf p/\ ∀ g o z,p=some ⟨g,o,z⟩->X g
def Did (X:Nat->Prop) (m:Pm) (root k:Nat) (R U:Int) (F:Nat) (s:Ps) (tab:Nat->Nat->Option Nat) (lf:Nat->Option Lf) (W:World) (v':Value) (w':World):Prop :=
 ∃ (X':Nat->Prop) (s':Ps) (tab':Nat->Nat->Option Nat) (lf':Nat->Option Lf),(∀ j,X j->X' j)/\Sd X' m root k R U F s' tab' lf' v' w'/\s'.q<=s.q+10/\(pgs lf').length<=(pgs lf).length+1/\Apt s s' tab tab'/\Kx X W w'/\(((tabsN (pgs lf):Nat):Int)<=R->((tabsN (pgs lf'):Nat):Int)<=R)
theorem IsF.kx {X:Nat->Prop} {w w':World} {p:Option Addr} {D:List Lv} (h:IsF w p D) (k:Kx X w w') (hx: ∀ g o z,p=some ⟨g,o,z⟩->X g):IsF w' p D:=fun i hi=>by
 obtain ⟨g,e,l,c⟩:=h i hi
 exact ⟨g,e,Nat.lt_of_lt_of_le l k.size,fun j x q=>(World.cell?_of_block (w:=w) (a:=⟨g,i*5+j,none⟩) (k.block g (hx g 0 none e))).trans (c j x q)⟩
theorem Ld.kx {X:Nat->Prop} {w w':World} {lf:Nat->Option Lf} {p:Option Addr} (h:Ld w lf p) (k:Kx X w w') (hx: ∀ g o z,p=some ⟨g,o,z⟩->X g):Ld w' lf p:=⟨h.is.kx k hx,h.bd,h.le⟩
theorem ofi_ld {W w:World} {v:Value} {lf:Nat->Option Lf} (h:OFI W w v (lvs lf)) (bd:Bd0 lf) (le:(pgs lf).length<=1000): ∃ p c,v=.slice p (lvs lf).length c/\Ld w lf p/\ ∀ g o z,p=some ⟨g,o,z⟩->W.heap.size<=g/\g<w.heap.size:=by
 obtain ⟨p,c,hv,_,hF,hg⟩:=of_read h.own
 exact ⟨p,c,hv,⟨hF,bd,le⟩,hg⟩
theorem eqPermS9 (a b c:Bool) (W:World):(binOp .eql 40 (.agg #[.bool a,.bool b,.bool c]) (.agg #[.bool a,.bool b,.bool c])).run Tryd.prog W=.ok (.bool true) W:=by
 cases a <;> cases b <;> cases c <;> kernel_rfl
set_option maxHeartbeats 4000000 in
theorem does1_true {X:Nat->Prop} {W:World} {m:Pm} (k:Int) (root:Nat) (v:Value) (pg fr:Int) (pa pb pc:Bool) (rm:Int) (z1:Nat) (zf:Int) (zw zu zx:Bool) (f:Int) (P1:Value->World->Prop) (P2:Value->World->World->Prop)
 (FC:Hid (∀ w:World,Below W.heap.size W w->Calls Tryd.prog 24 #[v,.int .i64 pg] w fun e w'=>e=.returned (.tuple #[.agg #[.int .i64 (z1:Nat),.int .i64 zf,.bool zw,.bool zu,.bool zx],.bool true])/\Below w.heap.size w w'))
 (MPC:Hid (∀ w:World,Below W.heap.size W w->Calls Tryd.prog 39 #[v,.agg #[.int .i64 1,.int .i64 pg,.int .i64 fr,.bool pa,.bool pb,.bool pc],.int .i64 rm] w fun e w'=> ∃ vm,e=.returned (.tuple #[vm,.int .i64 f])/\Below w.heap.size w w'/\P1 vm w'))
 (MC:Hid (∀ (w:World) (vm:Value),Below W.heap.size W w->P1 vm w->Calls Tryd.prog 26 #[pv m k,.int .i64 root,.int .i64 pg,.int .i64 fr,.agg #[.bool pa,.bool pb,.bool pc]] w fun e w'=>e=.returned (.int .i64 f)/\P2 vm w w')) :
 Calls Tryd.prog 14 #[pv m k,.int .i64 root,v,.agg #[.int .i64 1,.int .i64 pg,.int .i64 fr,.bool pa,.bool pb,.bool pc],.int .i64 rm] W fun e w'=> ∃ vm,e=.returned (.tuple #[vm,.bool true])/\ ∃ w4,Below W.heap.size W w4/\P2 vm w4 w':=by
 obtain ⟨kd,hkd⟩: ∃ kd:Int,kd=1:=⟨_,rfl⟩
 have q0:(kd==1)=true:=by simp [hkd]
 rw [<- hkd] at MPC |-
 clear hkd
 have s1:(W.alloc (.cells #[pp m.rb,pp m.b,pp m.tb,.int .i64 k] 27)).heap.size=W.heap.size+1:=World.size_alloc _ _
 have F0:Hid (Below W.heap.size W ((W.alloc (.cells #[pp m.rb,pp m.b,pp m.tb,.int .i64 k] 27)).alloc (.cells #[.int .i64 kd,.int .i64 pg,.int .i64 fr,.bool pa,.bool pb,.bool pc] 42))/\Blk ((W.alloc (.cells #[pp m.rb,pp m.b,pp m.tb,.int .i64 k] 27)).alloc (.cells #[.int .i64 kd,.int .i64 pg,.int .i64 fr,.bool pa,.bool pb,.bool pc] 42)) W.heap.size [pp m.rb,pp m.b,pp m.tb,.int .i64 k] 27/\Blk ((W.alloc (.cells #[pp m.rb,pp m.b,pp m.tb,.int .i64 k] 27)).alloc (.cells #[.int .i64 kd,.int .i64 pg,.int .i64 fr,.bool pa,.bool pb,.bool pc] 42)) (W.heap.size+1) [.int .i64 kd,.int .i64 pg,.int .i64 fr,.bool pa,.bool pb,.bool pc] 42):=⟨below_then (Go.Joins.below_alloc1 _ _) (Go.Joins.below_alloc1 _ _),(Blk.made W [pp m.rb,pp m.b,pp m.tb,.int .i64 k] 27).below (Go.Joins.below_alloc1 _ _),by rw [<- s1];exact Blk.made _ [.int .i64 kd,.int .i64 pg,.int .i64 fr,.bool pa,.bool pb,.bool pc] 42⟩
 clear s1
 go_enter Tryd.func14,Tryd.ntmps14
 go_upto_region 1 with fail
 generalize ((W.alloc (.cells #[pp m.rb,pp m.b,pp m.tb,.int .i64 k] 27)).alloc (.cells #[.int .i64 kd,.int .i64 pg,.int .i64 fr,.bool pa,.bool pb,.bool pc] 42))=W1 at F0 |-
 obtain ⟨D,hD⟩: ∃ D,W.heap.size+1=D:=⟨_,rfl⟩
 obtain ⟨A,hA⟩: ∃ A,W.heap.size=A:=⟨_,rfl⟩
 have LO:Hid (W.heap.size<=A/\W.heap.size<=D):=⟨by omega,by omega⟩
 rw [hD,hA] at F0
 rw [hD,hA]
 have BW1:Hid (Below W.heap.size W W1):=by rw [hA];exact F0.out.1
 clear hD hA
 have y0:W1.cell? ⟨D,0,none⟩=some (.int .i64 kd):=Blk.cell F0.out.2.2 0
 have y1:W1.cell? ⟨D,1,none⟩=some (.int .i64 pg):=Blk.cell F0.out.2.2 1
 have y2:W1.cell? ⟨D,2,none⟩=some (.int .i64 fr):=Blk.cell F0.out.2.2 2
 have y3:W1.cell? ⟨D,3,none⟩=some (.bool pa):=Blk.cell F0.out.2.2 3
 have y4:W1.cell? ⟨D,4,none⟩=some (.bool pb):=Blk.cell F0.out.2.2 4
 have y5:W1.cell? ⟨D,5,none⟩=some (.bool pc):=Blk.cell F0.out.2.2 5
 have yl:=Blk.lt F0.out.2.2
 go_wp2_with fail
 refine Calls.mono (FC.out W1 BW1.out) ?_
 rintro e w2 ⟨rfl,hb2⟩
 have FX0:Hid (Below W.heap.size W (w2.alloc (.cells #[.int .i64 (z1:Nat),.int .i64 zf,.bool zw,.bool zu,.bool zx] 63))/\Blk (w2.alloc (.cells #[.int .i64 (z1:Nat),.int .i64 zf,.bool zw,.bool zu,.bool zx] 63)) A [pp m.rb,pp m.b,pp m.tb,.int .i64 k] 27/\Blk (w2.alloc (.cells #[.int .i64 (z1:Nat),.int .i64 zf,.bool zw,.bool zu,.bool zx] 63)) D [.int .i64 kd,.int .i64 pg,.int .i64 fr,.bool pa,.bool pb,.bool pc] 42/\Blk (w2.alloc (.cells #[.int .i64 (z1:Nat),.int .i64 zf,.bool zw,.bool zu,.bool zx] 63)) w2.heap.size [.int .i64 (z1:Nat),.int .i64 zf,.bool zw,.bool zu,.bool zx] 63/\W.heap.size<=w2.heap.size):=⟨below_new (below_then BW1.out hb2) _,(F0.out.2.1.below hb2).below (Go.Joins.below_alloc1 _ _),(F0.out.2.2.below hb2).below (Go.Joins.below_alloc1 _ _),Blk.made w2 [.int .i64 (z1:Nat),.int .i64 zf,.bool zw,.bool zu,.bool zx] 63,Nat.le_trans BW1.out.size hb2.size⟩
 clear hb2 F0 FC BW1 y0 y1 y2 y3 y4 y5 yl
 go_upto_region 2 with fail
 generalize (w2.alloc (.cells #[.int .i64 (z1:Nat),.int .i64 zf,.bool zw,.bool zu,.bool zx] 63))=w3 at FX0 |-
 generalize w2.heap.size=E at FX0 |-
 have BX:Hid (Blk w3 A [pp m.rb,pp m.b,pp m.tb,.int .i64 k] 27/\Blk w3 D [.int .i64 kd,.int .i64 pg,.int .i64 fr,.bool pa,.bool pb,.bool pc] 42/\Blk w3 E [.int .i64 (z1:Nat),.int .i64 zf,.bool zw,.bool zu,.bool zx] 63):=⟨FX0.out.2.1,FX0.out.2.2.1,FX0.out.2.2.2.1⟩
 have BW:Hid (Below W.heap.size W w3):=FX0.out.1
 have LL:Hid (W.heap.size<=A/\W.heap.size<=D/\W.heap.size<=E):=⟨LO.out.1,LO.out.2,FX0.out.2.2.2.2⟩
 clear FX0 LO
 have a0:w3.cell? ⟨A,0,none⟩=some (pp m.rb):=Blk.cell BX.out.1 0
 have a1:w3.cell? ⟨A,1,none⟩=some (pp m.b):=Blk.cell BX.out.1 1
 have a2:w3.cell? ⟨A,2,none⟩=some (pp m.tb):=Blk.cell BX.out.1 2
 have a3:w3.cell? ⟨A,3,none⟩=some (.int .i64 k):=Blk.cell BX.out.1 3
 have al:=Blk.lt BX.out.1
 have y0:w3.cell? ⟨D,0,none⟩=some (.int .i64 kd):=Blk.cell BX.out.2.1 0
 have y1:w3.cell? ⟨D,1,none⟩=some (.int .i64 pg):=Blk.cell BX.out.2.1 1
 have y2:w3.cell? ⟨D,2,none⟩=some (.int .i64 fr):=Blk.cell BX.out.2.1 2
 have y3:w3.cell? ⟨D,3,none⟩=some (.bool pa):=Blk.cell BX.out.2.1 3
 have y4:w3.cell? ⟨D,4,none⟩=some (.bool pb):=Blk.cell BX.out.2.1 4
 have y5:w3.cell? ⟨D,5,none⟩=some (.bool pc):=Blk.cell BX.out.2.1 5
 have yl:=Blk.lt BX.out.2.1
 go_wp2_with fail
 refine Calls.mono (MPC.out w3 BW.out) ?_
 rintro e w4 ⟨vm,rfl,hb4,hP1⟩
 have BW4:Hid (Below W.heap.size W w4):=below_then BW.out hb4
 have B4:Hid (Blk w4 A [pp m.rb,pp m.b,pp m.tb,.int .i64 k] 27/\Blk w4 D [.int .i64 kd,.int .i64 pg,.int .i64 fr,.bool pa,.bool pb,.bool pc] 42/\Blk w4 E [.int .i64 (z1:Nat),.int .i64 zf,.bool zw,.bool zu,.bool zx] 63):=⟨BX.out.1.below hb4,BX.out.2.1.below hb4,BX.out.2.2.below hb4⟩
 have MC4:Hid _:=MC.out w4 vm BW4.out hP1
 clear hb4 hP1 BX BW MPC MC a0 a1 a2 a3 al y0 y1 y2 y3 y4 y5 yl
 have BX:=B4
 clear B4
 have a0:w4.cell? ⟨A,0,none⟩=some (pp m.rb):=Blk.cell BX.out.1 0
 have a1:w4.cell? ⟨A,1,none⟩=some (pp m.b):=Blk.cell BX.out.1 1
 have a2:w4.cell? ⟨A,2,none⟩=some (pp m.tb):=Blk.cell BX.out.1 2
 have a3:w4.cell? ⟨A,3,none⟩=some (.int .i64 k):=Blk.cell BX.out.1 3
 have al:=Blk.lt BX.out.1
 have y0:w4.cell? ⟨D,0,none⟩=some (.int .i64 kd):=Blk.cell BX.out.2.1 0
 have y1:w4.cell? ⟨D,1,none⟩=some (.int .i64 pg):=Blk.cell BX.out.2.1 1
 have y2:w4.cell? ⟨D,2,none⟩=some (.int .i64 fr):=Blk.cell BX.out.2.1 2
 have y3:w4.cell? ⟨D,3,none⟩=some (.bool pa):=Blk.cell BX.out.2.1 3
 have y4:w4.cell? ⟨D,4,none⟩=some (.bool pb):=Blk.cell BX.out.2.1 4
 have y5:w4.cell? ⟨D,5,none⟩=some (.bool pc):=Blk.cell BX.out.2.1 5
 have yl:=Blk.lt BX.out.2.1
 go_wp2_with fail
 refine Calls.mono MC4.out ?_
 rintro e w5 ⟨rfl,hP2⟩
 have H5:Hid (P2 vm w4 w5):=hP2
 have q1:(f==f)=true:=by simp
 clear hP2 MC4 BX a0 a1 a2 a3 al y0 y1 y2 y3 y4 y5 yl LL
 go_wp2_with fail
 go_returns
 exact ⟨vm,rfl,w4,BW4.out,H5.out⟩
set_option maxHeartbeats 4000000 in
theorem does1_false {X:Nat->Prop} {W:World} {m:Pm} (k:Int) (root:Nat) (v:Value) (pg fr:Int) (pa pb pc:Bool) (rm:Int) (z1:Nat) (zf:Int) (zw zu zx:Bool) (f:Int) (P1:Value->World->Prop) (P2:Value->World->World->Prop)
 (FC:Hid (∀ w:World,Below W.heap.size W w->Calls Tryd.prog 24 #[v,.int .i64 pg] w fun e w'=>e=.returned (.tuple #[.agg #[.int .i64 (z1:Nat),.int .i64 zf,.bool zw,.bool zu,.bool zx],.bool false])/\Below w.heap.size w w'))
 (MPC:Hid (∀ w:World,Below W.heap.size W w->Calls Tryd.prog 39 #[v,.agg #[.int .i64 1,.int .i64 pg,.int .i64 fr,.bool pa,.bool pb,.bool pc],.int .i64 rm] w fun e w'=> ∃ vm,e=.returned (.tuple #[vm,.int .i64 f])/\Below w.heap.size w w'/\P1 vm w'))
 (MC:Hid (∀ (w:World) (vm:Value),Below W.heap.size W w->P1 vm w->Calls Tryd.prog 26 #[pv m k,.int .i64 root,.int .i64 pg,.int .i64 fr,.agg #[.bool pa,.bool pb,.bool pc]] w fun e w'=>e=.returned (.int .i64 f)/\P2 vm w w')) :
 Calls Tryd.prog 14 #[pv m k,.int .i64 root,v,.agg #[.int .i64 1,.int .i64 pg,.int .i64 fr,.bool pa,.bool pb,.bool pc],.int .i64 rm] W fun e w'=> ∃ vm,e=.returned (.tuple #[vm,.bool true])/\ ∃ w4,Below W.heap.size W w4/\P2 vm w4 w':=by
 obtain ⟨kd,hkd⟩: ∃ kd:Int,kd=1:=⟨_,rfl⟩
 have q0:(kd==1)=true:=by simp [hkd]
 rw [<- hkd] at MPC |-
 clear hkd
 have s1:(W.alloc (.cells #[pp m.rb,pp m.b,pp m.tb,.int .i64 k] 27)).heap.size=W.heap.size+1:=World.size_alloc _ _
 have F0:Hid (Below W.heap.size W ((W.alloc (.cells #[pp m.rb,pp m.b,pp m.tb,.int .i64 k] 27)).alloc (.cells #[.int .i64 kd,.int .i64 pg,.int .i64 fr,.bool pa,.bool pb,.bool pc] 42))/\Blk ((W.alloc (.cells #[pp m.rb,pp m.b,pp m.tb,.int .i64 k] 27)).alloc (.cells #[.int .i64 kd,.int .i64 pg,.int .i64 fr,.bool pa,.bool pb,.bool pc] 42)) W.heap.size [pp m.rb,pp m.b,pp m.tb,.int .i64 k] 27/\Blk ((W.alloc (.cells #[pp m.rb,pp m.b,pp m.tb,.int .i64 k] 27)).alloc (.cells #[.int .i64 kd,.int .i64 pg,.int .i64 fr,.bool pa,.bool pb,.bool pc] 42)) (W.heap.size+1) [.int .i64 kd,.int .i64 pg,.int .i64 fr,.bool pa,.bool pb,.bool pc] 42):=⟨below_then (Go.Joins.below_alloc1 _ _) (Go.Joins.below_alloc1 _ _),(Blk.made W [pp m.rb,pp m.b,pp m.tb,.int .i64 k] 27).below (Go.Joins.below_alloc1 _ _),by rw [<- s1];exact Blk.made _ [.int .i64 kd,.int .i64 pg,.int .i64 fr,.bool pa,.bool pb,.bool pc] 42⟩
 clear s1
 go_enter Tryd.func14,Tryd.ntmps14
 go_upto_region 1 with fail
 generalize ((W.alloc (.cells #[pp m.rb,pp m.b,pp m.tb,.int .i64 k] 27)).alloc (.cells #[.int .i64 kd,.int .i64 pg,.int .i64 fr,.bool pa,.bool pb,.bool pc] 42))=W1 at F0 |-
 obtain ⟨D,hD⟩: ∃ D,W.heap.size+1=D:=⟨_,rfl⟩
 obtain ⟨A,hA⟩: ∃ A,W.heap.size=A:=⟨_,rfl⟩
 have LO:Hid (W.heap.size<=A/\W.heap.size<=D):=⟨by omega,by omega⟩
 rw [hD,hA] at F0
 rw [hD,hA]
 have BW1:Hid (Below W.heap.size W W1):=by rw [hA];exact F0.out.1
 clear hD hA
 have y0:W1.cell? ⟨D,0,none⟩=some (.int .i64 kd):=Blk.cell F0.out.2.2 0
 have y1:W1.cell? ⟨D,1,none⟩=some (.int .i64 pg):=Blk.cell F0.out.2.2 1
 have y2:W1.cell? ⟨D,2,none⟩=some (.int .i64 fr):=Blk.cell F0.out.2.2 2
 have y3:W1.cell? ⟨D,3,none⟩=some (.bool pa):=Blk.cell F0.out.2.2 3
 have y4:W1.cell? ⟨D,4,none⟩=some (.bool pb):=Blk.cell F0.out.2.2 4
 have y5:W1.cell? ⟨D,5,none⟩=some (.bool pc):=Blk.cell F0.out.2.2 5
 have yl:=Blk.lt F0.out.2.2
 go_wp2_with fail
 refine Calls.mono (FC.out W1 BW1.out) ?_
 rintro e w2 ⟨rfl,hb2⟩
 have FX0:Hid (Below W.heap.size W (w2.alloc (.cells #[.int .i64 (z1:Nat),.int .i64 zf,.bool zw,.bool zu,.bool zx] 63))/\Blk (w2.alloc (.cells #[.int .i64 (z1:Nat),.int .i64 zf,.bool zw,.bool zu,.bool zx] 63)) A [pp m.rb,pp m.b,pp m.tb,.int .i64 k] 27/\Blk (w2.alloc (.cells #[.int .i64 (z1:Nat),.int .i64 zf,.bool zw,.bool zu,.bool zx] 63)) D [.int .i64 kd,.int .i64 pg,.int .i64 fr,.bool pa,.bool pb,.bool pc] 42/\Blk (w2.alloc (.cells #[.int .i64 (z1:Nat),.int .i64 zf,.bool zw,.bool zu,.bool zx] 63)) w2.heap.size [.int .i64 (z1:Nat),.int .i64 zf,.bool zw,.bool zu,.bool zx] 63/\W.heap.size<=w2.heap.size):=⟨below_new (below_then BW1.out hb2) _,(F0.out.2.1.below hb2).below (Go.Joins.below_alloc1 _ _),(F0.out.2.2.below hb2).below (Go.Joins.below_alloc1 _ _),Blk.made w2 [.int .i64 (z1:Nat),.int .i64 zf,.bool zw,.bool zu,.bool zx] 63,Nat.le_trans BW1.out.size hb2.size⟩
 clear hb2 F0 FC BW1 y0 y1 y2 y3 y4 y5 yl
 go_upto_region 2 with fail
 generalize (w2.alloc (.cells #[.int .i64 (z1:Nat),.int .i64 zf,.bool zw,.bool zu,.bool zx] 63))=w3 at FX0 |-
 generalize w2.heap.size=E at FX0 |-
 have BX:Hid (Blk w3 A [pp m.rb,pp m.b,pp m.tb,.int .i64 k] 27/\Blk w3 D [.int .i64 kd,.int .i64 pg,.int .i64 fr,.bool pa,.bool pb,.bool pc] 42/\Blk w3 E [.int .i64 (z1:Nat),.int .i64 zf,.bool zw,.bool zu,.bool zx] 63):=⟨FX0.out.2.1,FX0.out.2.2.1,FX0.out.2.2.2.1⟩
 have BW:Hid (Below W.heap.size W w3):=FX0.out.1
 have LL:Hid (W.heap.size<=A/\W.heap.size<=D/\W.heap.size<=E):=⟨LO.out.1,LO.out.2,FX0.out.2.2.2.2⟩
 clear FX0 LO
 have a0:w3.cell? ⟨A,0,none⟩=some (pp m.rb):=Blk.cell BX.out.1 0
 have a1:w3.cell? ⟨A,1,none⟩=some (pp m.b):=Blk.cell BX.out.1 1
 have a2:w3.cell? ⟨A,2,none⟩=some (pp m.tb):=Blk.cell BX.out.1 2
 have a3:w3.cell? ⟨A,3,none⟩=some (.int .i64 k):=Blk.cell BX.out.1 3
 have al:=Blk.lt BX.out.1
 have y0:w3.cell? ⟨D,0,none⟩=some (.int .i64 kd):=Blk.cell BX.out.2.1 0
 have y1:w3.cell? ⟨D,1,none⟩=some (.int .i64 pg):=Blk.cell BX.out.2.1 1
 have y2:w3.cell? ⟨D,2,none⟩=some (.int .i64 fr):=Blk.cell BX.out.2.1 2
 have y3:w3.cell? ⟨D,3,none⟩=some (.bool pa):=Blk.cell BX.out.2.1 3
 have y4:w3.cell? ⟨D,4,none⟩=some (.bool pb):=Blk.cell BX.out.2.1 4
 have y5:w3.cell? ⟨D,5,none⟩=some (.bool pc):=Blk.cell BX.out.2.1 5
 have yl:=Blk.lt BX.out.2.1
 go_wp2_with fail
 refine Calls.mono (MPC.out w3 BW.out) ?_
 rintro e w4 ⟨vm,rfl,hb4,hP1⟩
 have BW4:Hid (Below W.heap.size W w4):=below_then BW.out hb4
 have B4:Hid (Blk w4 A [pp m.rb,pp m.b,pp m.tb,.int .i64 k] 27/\Blk w4 D [.int .i64 kd,.int .i64 pg,.int .i64 fr,.bool pa,.bool pb,.bool pc] 42/\Blk w4 E [.int .i64 (z1:Nat),.int .i64 zf,.bool zw,.bool zu,.bool zx] 63):=⟨BX.out.1.below hb4,BX.out.2.1.below hb4,BX.out.2.2.below hb4⟩
 have MC4:Hid _:=MC.out w4 vm BW4.out hP1
 clear hb4 hP1 BX BW MPC MC a0 a1 a2 a3 al y0 y1 y2 y3 y4 y5 yl
 have BX:=B4
 clear B4
 have a0:w4.cell? ⟨A,0,none⟩=some (pp m.rb):=Blk.cell BX.out.1 0
 have a1:w4.cell? ⟨A,1,none⟩=some (pp m.b):=Blk.cell BX.out.1 1
 have a2:w4.cell? ⟨A,2,none⟩=some (pp m.tb):=Blk.cell BX.out.1 2
 have a3:w4.cell? ⟨A,3,none⟩=some (.int .i64 k):=Blk.cell BX.out.1 3
 have al:=Blk.lt BX.out.1
 have y0:w4.cell? ⟨D,0,none⟩=some (.int .i64 kd):=Blk.cell BX.out.2.1 0
 have y1:w4.cell? ⟨D,1,none⟩=some (.int .i64 pg):=Blk.cell BX.out.2.1 1
 have y2:w4.cell? ⟨D,2,none⟩=some (.int .i64 fr):=Blk.cell BX.out.2.1 2
 have y3:w4.cell? ⟨D,3,none⟩=some (.bool pa):=Blk.cell BX.out.2.1 3
 have y4:w4.cell? ⟨D,4,none⟩=some (.bool pb):=Blk.cell BX.out.2.1 4
 have y5:w4.cell? ⟨D,5,none⟩=some (.bool pc):=Blk.cell BX.out.2.1 5
 have yl:=Blk.lt BX.out.2.1
 go_wp2_with fail
 refine Calls.mono MC4.out ?_
 rintro e w5 ⟨rfl,hP2⟩
 have H5:Hid (P2 vm w4 w5):=hP2
 have q1:(f==f)=true:=by simp
 clear hP2 MC4 BX a0 a1 a2 a3 al y0 y1 y2 y3 y4 y5 yl LL
 go_wp2_with fail
 go_returns
 exact ⟨vm,rfl,w4,BW4.out,H5.out⟩
end Go.Proofs.YtkiclbnbnjbcaaaDoor.Tt
namespace Go.Proofs.YtkiclbnbnjbcaaaDoor.Tt
open Go.ChangeShapes Go.WideShapes Go.ChangeAt Go.RowKit Go.Maps
open Go.Proofs.YtkiclbnbnjbcaaaDoor.Li (wpList_app)
set_option linter.unusedSimpArgs false
set_option linter.unusedVariables false
set_option maxRecDepth 8000
abbrev zTJ7a (x0 x1:Int) (x2 x3 x4:Bool):Array Value:=#[.int .i64 x0,.int .i64 x1,.bool x2,.bool x3,.bool x4]
abbrev zTJ7b (x0 x1 x2:Int) (x3 x4 x5:Bool):Array Value:=#[.int .i64 x0,.int .i64 x1,.int .i64 x2,.bool x3,.bool x4,.bool x5]
abbrev zTJ7c (x0 x1 x2:Int) (x3 x4 x5:Bool):List Value:=[.int .i64 x0,.int .i64 x1,.int .i64 x2,.bool x3,.bool x4,.bool x5]
abbrev zTJ7d (x0 x1:Int) (x2 x3 x4:Bool):List Value:=[.int .i64 x0,.int .i64 x1,.bool x2,.bool x3,.bool x4]
set_option maxHeartbeats 4000000 in
theorem does2_true {X:Nat->Prop} {W:World} {m:Pm} (k:Int) (root:Nat) (v:Value) (pg fr:Int) (pa pb pc:Bool) (rm:Int) (z1:Nat) (zf:Int) (zw zu zx:Bool) (P1:World->World->Prop) (P2:World->World->Value->World->Prop)
 (FC:Hid (∀ w:World,Below W.heap.size W w->Calls Tryd.prog 24 #[v,.int .i64 pg] w fun e w'=>e=.returned (.tuple #[.agg (zTJ7a (z1:Nat) zf zw zu zx),.bool true])/\Below w.heap.size w w'))
 (UC:Hid (∀ w:World,Below W.heap.size W w->Calls Tryd.prog 27 #[pv m k,.int .i64 root,.int .i64 pg] w fun e w'=>e=.returned (.tuple #[.int .i64 zf,.int .i64 0])/\Kx (XW X W w) w w'/\P1 w w'))
 (WC:Hid (∀ (w w5 U:World),P1 w w5->Below w5.heap.size w5 U->Calls Tryd.prog 40 #[v,.int .i64 pg] U fun e w'=> ∃ v',e=.returned v'/\Below U.heap.size U w'/\P2 w w5 v' w')) :
 Calls Tryd.prog 14 #[pv m k,.int .i64 root,v,.agg (zTJ7b 2 pg fr pa pb pc),.int .i64 rm] W fun e w'=> ∃ vm,e=.returned (.tuple #[vm,.bool true])/\ ∃ w4 w5,Below W.heap.size W w4/\P2 w4 w5 vm w':=by
 obtain ⟨kd,hkd⟩: ∃ kd:Int,kd=2:=⟨_,rfl⟩
 have q1:(kd==1)=false:=by simp [hkd]
 have q2:(kd==2)=true:=by simp [hkd]
 rw [<- hkd]
 clear hkd
 have s1:(W.alloc (.cells #[pp m.rb,pp m.b,pp m.tb,.int .i64 k] 27)).heap.size=W.heap.size+1:=World.size_alloc _ _
 have F0:Hid (Below W.heap.size W ((W.alloc (.cells #[pp m.rb,pp m.b,pp m.tb,.int .i64 k] 27)).alloc (.cells (zTJ7b kd pg fr pa pb pc) 42))/\Blk ((W.alloc (.cells #[pp m.rb,pp m.b,pp m.tb,.int .i64 k] 27)).alloc (.cells (zTJ7b kd pg fr pa pb pc) 42)) W.heap.size [pp m.rb,pp m.b,pp m.tb,.int .i64 k] 27/\Blk ((W.alloc (.cells #[pp m.rb,pp m.b,pp m.tb,.int .i64 k] 27)).alloc (.cells (zTJ7b kd pg fr pa pb pc) 42)) (W.heap.size+1) (zTJ7c kd pg fr pa pb pc) 42):=⟨below_then (Go.Joins.below_alloc1 _ _) (Go.Joins.below_alloc1 _ _),(Blk.made W [pp m.rb,pp m.b,pp m.tb,.int .i64 k] 27).below (Go.Joins.below_alloc1 _ _),by rw [<- s1];exact Blk.made _ (zTJ7c kd pg fr pa pb pc) 42⟩
 clear s1
 go_enter Tryd.func14,Tryd.ntmps14
 go_upto_region 1 with fail
 generalize ((W.alloc (.cells #[pp m.rb,pp m.b,pp m.tb,.int .i64 k] 27)).alloc (.cells (zTJ7b kd pg fr pa pb pc) 42))=W1 at F0 |-
 obtain ⟨D,hD⟩: ∃ D,W.heap.size+1=D:=⟨_,rfl⟩
 obtain ⟨A,hA⟩: ∃ A,W.heap.size=A:=⟨_,rfl⟩
 have LO:Hid (W.heap.size<=A/\W.heap.size<=D):=⟨by omega,by omega⟩
 rw [hD,hA] at F0
 rw [hD,hA]
 have BW1:Hid (Below W.heap.size W W1):=by rw [hA];exact F0.out.1
 clear hD hA
 have y0:W1.cell? ⟨D,0,none⟩=some (.int .i64 kd):=Blk.cell F0.out.2.2 0
 have y1:W1.cell? ⟨D,1,none⟩=some (.int .i64 pg):=Blk.cell F0.out.2.2 1
 have y2:W1.cell? ⟨D,2,none⟩=some (.int .i64 fr):=Blk.cell F0.out.2.2 2
 have y3:W1.cell? ⟨D,3,none⟩=some (.bool pa):=Blk.cell F0.out.2.2 3
 have y4:W1.cell? ⟨D,4,none⟩=some (.bool pb):=Blk.cell F0.out.2.2 4
 have y5:W1.cell? ⟨D,5,none⟩=some (.bool pc):=Blk.cell F0.out.2.2 5
 have yl:=Blk.lt F0.out.2.2
 go_wp2_with fail
 refine Calls.mono (FC.out W1 BW1.out) ?_
 rintro e w2 ⟨rfl,hb2⟩
 have FX0:Hid (Below W.heap.size W (w2.alloc (.cells (zTJ7a (z1:Nat) zf zw zu zx) 63))/\Blk (w2.alloc (.cells (zTJ7a (z1:Nat) zf zw zu zx) 63)) A [pp m.rb,pp m.b,pp m.tb,.int .i64 k] 27/\Blk (w2.alloc (.cells (zTJ7a (z1:Nat) zf zw zu zx) 63)) D (zTJ7c kd pg fr pa pb pc) 42/\Blk (w2.alloc (.cells (zTJ7a (z1:Nat) zf zw zu zx) 63)) w2.heap.size (zTJ7d (z1:Nat) zf zw zu zx) 63/\W.heap.size<=w2.heap.size):=⟨below_new (below_then BW1.out hb2) _,(F0.out.2.1.below hb2).below (Go.Joins.below_alloc1 _ _),(F0.out.2.2.below hb2).below (Go.Joins.below_alloc1 _ _),Blk.made w2 (zTJ7d (z1:Nat) zf zw zu zx) 63,Nat.le_trans BW1.out.size hb2.size⟩
 clear hb2 F0 FC BW1 y0 y1 y2 y3 y4 y5 yl
 go_upto_region 2 with fail
 generalize (w2.alloc (.cells (zTJ7a (z1:Nat) zf zw zu zx) 63))=w3 at FX0 |-
 generalize w2.heap.size=E at FX0 |-
 have BX:Hid (Blk w3 A [pp m.rb,pp m.b,pp m.tb,.int .i64 k] 27/\Blk w3 D (zTJ7c kd pg fr pa pb pc) 42/\Blk w3 E (zTJ7d (z1:Nat) zf zw zu zx) 63):=⟨FX0.out.2.1,FX0.out.2.2.1,FX0.out.2.2.2.1⟩
 have BW:Hid (Below W.heap.size W w3):=FX0.out.1
 have LL:Hid (W.heap.size<=A/\W.heap.size<=D/\W.heap.size<=E):=⟨LO.out.1,LO.out.2,FX0.out.2.2.2.2⟩
 clear FX0 LO
 have a0:w3.cell? ⟨A,0,none⟩=some (pp m.rb):=Blk.cell BX.out.1 0
 have a1:w3.cell? ⟨A,1,none⟩=some (pp m.b):=Blk.cell BX.out.1 1
 have a2:w3.cell? ⟨A,2,none⟩=some (pp m.tb):=Blk.cell BX.out.1 2
 have a3:w3.cell? ⟨A,3,none⟩=some (.int .i64 k):=Blk.cell BX.out.1 3
 have al:=Blk.lt BX.out.1
 have y0:w3.cell? ⟨D,0,none⟩=some (.int .i64 kd):=Blk.cell BX.out.2.1 0
 have y1:w3.cell? ⟨D,1,none⟩=some (.int .i64 pg):=Blk.cell BX.out.2.1 1
 have y2:w3.cell? ⟨D,2,none⟩=some (.int .i64 fr):=Blk.cell BX.out.2.1 2
 have y3:w3.cell? ⟨D,3,none⟩=some (.bool pa):=Blk.cell BX.out.2.1 3
 have y4:w3.cell? ⟨D,4,none⟩=some (.bool pb):=Blk.cell BX.out.2.1 4
 have y5:w3.cell? ⟨D,5,none⟩=some (.bool pc):=Blk.cell BX.out.2.1 5
 have yl:=Blk.lt BX.out.2.1
 go_upto_region 10 with fail
 generalize w3=w4 at *
 have UC4:Hid _:=UC.out w4 BW.out
 clear UC
 go_wp2_with fail
 refine Calls.mono UC4.out ?_
 rintro e w5 ⟨rfl,hk5,hP1⟩
 have H5:Hid (P1 w4 w5):=hP1
 have SZ:Hid ((fun cw=>Blk cw D (zTJ7c kd pg fr pa pb pc) 42/\Blk cw E (zTJ7d (z1:Nat) zf zw zu zx) 63) w5):=⟨BX.out.2.1.kx hk5 (Or.inr ⟨LL.out.2.1,BX.out.2.1.lt⟩),BX.out.2.2.kx hk5 (Or.inr ⟨LL.out.2.2,BX.out.2.2.lt⟩)⟩
 clear hk5 hP1 BX UC4 a0 a1 a2 a3 al y0 y1 y2 y3 y4 y5 yl
 go_upto_region 11 with fail
 refine wp_region_noPanic ?_
 refine wp_region_held_drew (S:=fun cw=>Blk cw D (zTJ7c kd pg fr pa pb pc) 42/\Blk cw E (zTJ7d (z1:Nat) zf zw zu zx) 63) (by kernel_rfl) ?_ (fun hHeld=> ?_)
 . exact SZ.out
 have GU:Hid (Below w5.heap.size w5 w5.drew):=below_drew (Below.refl _ _)
 clear SZ
 generalize w5.drew=U at hHeld GU |-
 refine wpAnyH_take (i:=0) (oi:=⟨some 65,_,_,_,_,none⟩) (v:= ?_) rfl (by kernel_rfl) (by kernel_rfl) (by kernel_rfl) (fun _ _ _ h=>h) (Or.inl ⟨by rfl,?_⟩) (by assumption) ?_
 rotate_left
 . intro w hSw;(try dsimp only at hSw);go_simp;(try with_reducible rfl)
 try simp only [Act.put,List.setIfInBounds_toArray,List.set_cons_zero,List.set_cons_succ]
 refine wpAnyH_take (i:=1) (oi:=⟨some 66,_,_,_,_,none⟩) (v:= ?_) rfl (by kernel_rfl) (by kernel_rfl) (by kernel_rfl) (fun _ _ _ h=>h) (Or.inl ⟨by rfl,?_⟩) (by assumption) ?_
 rotate_left
 . intro w hSw;(try dsimp only at hSw);go_simp;(try with_reducible rfl)
 try simp only [Act.put,List.setIfInBounds_toArray,List.set_cons_zero,List.set_cons_succ]
 refine wpAnyH_take (i:=2) (oi:=⟨some 67,_,_,_,_,none⟩) (v:=(.int .i64 pg)) rfl (by kernel_rfl) (by kernel_rfl) (by kernel_rfl) (fun _ _ _ h=>h) (Or.inl ⟨by rfl,?_⟩) (by assumption) ?_
 . intro w hSw;(try dsimp only at hSw);have r:=Blk.cell hSw.1 1;(try go_simp);(try simp [*])
 try simp only [Act.put,List.setIfInBounds_toArray,List.set_cons_zero,List.set_cons_succ]
 refine wpAnyH_take (i:=4) (oi:=⟨some 69,_,_,_,_,none⟩) (v:= ?_) rfl (by kernel_rfl) (by kernel_rfl) (by kernel_rfl) (fun _ _ _ h=>h) (Or.inl ⟨by rfl,?_⟩) (by assumption) ?_
 rotate_left
 . intro w hSw;(try dsimp only at hSw);go_simp;(try with_reducible rfl)
 try simp only [Act.put,List.setIfInBounds_toArray,List.set_cons_zero,List.set_cons_succ]
 refine wpAnyH_take (i:=5) (oi:=⟨some 70,_,_,_,_,none⟩) (v:= ?_) rfl (by kernel_rfl) (by kernel_rfl) (by kernel_rfl) (fun _ _ _ h=>h) (Or.inl ⟨by rfl,?_⟩) (by assumption) ?_
 rotate_left
 . intro w hSw;(try dsimp only at hSw);go_simp;(try with_reducible rfl)
 try simp only [Act.put,List.setIfInBounds_toArray,List.set_cons_zero,List.set_cons_succ]
 refine wpAnyH_take (i:=6) (oi:=⟨some 71,_,_,_,_,none⟩) (v:=(.bool true)) rfl (by kernel_rfl) (by kernel_rfl) (by kernel_rfl) (fun _ _ _ h=>h) (Or.inl ⟨by rfl,?_⟩) (by assumption) ?_
 . intro w hSw;(try dsimp only at hSw);go_simp;(try simp);(try (simp only [IntKind.wrap_i64];omega))
 try simp only [Act.put,List.setIfInBounds_toArray,List.set_cons_zero,List.set_cons_succ]
 refine wpAnyH_ready (rs:=[3]) (by kernel_rfl) (by simp) ?_
 refine AllReadyH.cons (o:=⟨some 68,_,_,_,_,none⟩) rfl (fun K hK=> ?_) AllReadyH.nil
 go_simp
 go_wp2_with (go_at_call 40;refine Calls.mono (WC.out w4 w5 _ H5.out GU.out) ?_;rintro e u2 ⟨v2,rfl,hb2,hP2⟩)
 have G2:Hid (P2 w4 w5 v2 u2):=hP2
 refine hK.out _ _ ⟨hHeld.1.below hb2,hHeld.2.below hb2⟩ (fun hHeld2=> ?_)
 clear hK K hHeld hb2 hP2 GU
 have hHeld:=hHeld2
 clear hHeld2
 try simp only [Act.put,List.setIfInBounds_toArray,List.set_cons_zero,List.set_cons_succ]
 refine wpAnyH_take (i:=7) (oi:=⟨some 72,_,_,_,_,none⟩) (v:= ?_) rfl (by kernel_rfl) (by kernel_rfl) (by kernel_rfl) (fun _ _ _ h=>h) (Or.inl ⟨by rfl,?_⟩) (by assumption) ?_
 rotate_left
 . intro w hSw;(try dsimp only at hSw);go_simp;(try with_reducible rfl)
 try simp only [Act.put,List.setIfInBounds_toArray,List.set_cons_zero,List.set_cons_succ]
 refine wpAnyH_take (i:=8) (oi:=⟨some 73,_,_,_,_,some (7,true)⟩) (v:= ?_) rfl (by kernel_rfl) (by kernel_rfl) (by kernel_rfl) (fun _ _ _ h=>h) (Or.inl ⟨by rfl,?_⟩) (by assumption) ?_
 rotate_left
 . intro w hSw;(try dsimp only at hSw);go_simp;(try with_reducible rfl)
 try simp only [Act.put,List.setIfInBounds_toArray,List.set_cons_zero,List.set_cons_succ]
 refine wpAnyH_take (i:=9) (oi:=⟨some 74,_,_,_,_,some (7,true)⟩) (v:= ?_) rfl (by kernel_rfl) (by kernel_rfl) (by kernel_rfl) (fun _ _ _ h=>h) (Or.inl ⟨by rfl,?_⟩) (by assumption) ?_
 rotate_left
 . intro w hSw;(try dsimp only at hSw);go_simp;(try with_reducible rfl)
 try simp only [Act.put,List.setIfInBounds_toArray,List.set_cons_zero,List.set_cons_succ]
 refine wpAnyH_take (i:=10) (oi:=⟨some 75,_,_,_,_,some (7,true)⟩) (v:=(.int .i64 zf)) rfl (by kernel_rfl) (by kernel_rfl) (by kernel_rfl) (fun _ _ _ h=>h) (Or.inl ⟨by rfl,?_⟩) (by assumption) ?_
 . intro w hSw;(try dsimp only at hSw);have r:=Blk.cell hSw.2 1;(try go_simp);(try simp [*])
 try simp only [Act.put,List.setIfInBounds_toArray,List.set_cons_zero,List.set_cons_succ]
 refine wpAnyH_take (i:=11) (oi:=⟨some 76,_,_,_,_,some (7,true)⟩) (v:=(.bool true)) rfl (by kernel_rfl) (by kernel_rfl) (by kernel_rfl) (fun _ _ _ h=>h) (Or.inl ⟨by rfl,?_⟩) (by assumption) ?_
 . intro w hSw;(try dsimp only at hSw);go_simp;(try simp);(try (simp only [IntKind.wrap_i64];omega))
 try simp only [Act.put,List.setIfInBounds_toArray,List.set_cons_zero,List.set_cons_succ]
 refine wpAnyH_take (i:=12) (oi:=⟨some 77,_,_,_,_,none⟩) (v:=(.bool true)) rfl (by kernel_rfl) (by kernel_rfl) (by kernel_rfl) (fun _ _ _ h=>h) (Or.inl ⟨by rfl,?_⟩) (by assumption) ?_
 . intro w hSw;(try dsimp only at hSw);go_simp;(try simp);(try (simp only [IntKind.wrap_i64];omega))
 try simp only [Act.put,List.setIfInBounds_toArray,List.set_cons_zero,List.set_cons_succ]
 refine wpAnyH_take (i:=13) (oi:=⟨some 10,_,_,_,_,none⟩) (v:= ?_) rfl (by kernel_rfl) (by kernel_rfl) (by kernel_rfl) (fun _ _ _ h=>h) (Or.inl ⟨by rfl,?_⟩) (by assumption) ?_
 rotate_left
 . intro w hSw;(try dsimp only at hSw);go_simp;(try with_reducible rfl)
 try simp only [Act.put,List.setIfInBounds_toArray,List.set_cons_zero,List.set_cons_succ]
 refine wpAnyH_take (i:=14) (oi:=⟨some 11,_,_,_,_,none⟩) (v:= ?_) rfl (by kernel_rfl) (by kernel_rfl) (by kernel_rfl) (fun _ _ _ h=>h) (Or.inl ⟨by rfl,?_⟩) (by assumption) ?_
 rotate_left
 . intro w hSw;(try dsimp only at hSw);go_simp;(try with_reducible rfl)
 try simp only [Act.put,List.setIfInBounds_toArray,List.set_cons_zero,List.set_cons_succ]
 clear hHeld
 refine wpAnyH_done (by kernel_rfl) ?_ _
 refine NoPanic.normal ?_
 go_wp2_with fail
 go_returns
 exact ⟨v2,rfl,w4,w5,BW.out,G2.out⟩
set_option maxHeartbeats 4000000 in
theorem does2_false {X:Nat->Prop} {W:World} {m:Pm} (k:Int) (root:Nat) (v:Value) (pg fr:Int) (pa pb pc:Bool) (rm:Int) (z1:Nat) (zf:Int) (zw zu zx:Bool) (P1:World->World->Prop) (P2:World->World->Value->World->Prop)
 (FC:Hid (∀ w:World,Below W.heap.size W w->Calls Tryd.prog 24 #[v,.int .i64 pg] w fun e w'=>e=.returned (.tuple #[.agg (zTJ7a (z1:Nat) zf zw zu zx),.bool false])/\Below w.heap.size w w'))
 (UC:Hid (∀ w:World,Below W.heap.size W w->Calls Tryd.prog 27 #[pv m k,.int .i64 root,.int .i64 pg] w fun e w'=>e=.returned (.tuple #[.int .i64 zf,.int .i64 5])/\Kx (XW X W w) w w'/\P1 w w'))
 (WC:Hid (∀ (w w5 U:World),P1 w w5->Below w5.heap.size w5 U->Calls Tryd.prog 40 #[v,.int .i64 pg] U fun e w'=> ∃ v',e=.returned v'/\Below U.heap.size U w'/\P2 w w5 v' w')) :
 Calls Tryd.prog 14 #[pv m k,.int .i64 root,v,.agg (zTJ7b 2 pg fr pa pb pc),.int .i64 rm] W fun e w'=> ∃ vm,e=.returned (.tuple #[vm,.bool true])/\ ∃ w4 w5,Below W.heap.size W w4/\P2 w4 w5 vm w':=by
 obtain ⟨kd,hkd⟩: ∃ kd:Int,kd=2:=⟨_,rfl⟩
 have q1:(kd==1)=false:=by simp [hkd]
 have q2:(kd==2)=true:=by simp [hkd]
 rw [<- hkd]
 clear hkd
 have s1:(W.alloc (.cells #[pp m.rb,pp m.b,pp m.tb,.int .i64 k] 27)).heap.size=W.heap.size+1:=World.size_alloc _ _
 have F0:Hid (Below W.heap.size W ((W.alloc (.cells #[pp m.rb,pp m.b,pp m.tb,.int .i64 k] 27)).alloc (.cells (zTJ7b kd pg fr pa pb pc) 42))/\Blk ((W.alloc (.cells #[pp m.rb,pp m.b,pp m.tb,.int .i64 k] 27)).alloc (.cells (zTJ7b kd pg fr pa pb pc) 42)) W.heap.size [pp m.rb,pp m.b,pp m.tb,.int .i64 k] 27/\Blk ((W.alloc (.cells #[pp m.rb,pp m.b,pp m.tb,.int .i64 k] 27)).alloc (.cells (zTJ7b kd pg fr pa pb pc) 42)) (W.heap.size+1) (zTJ7c kd pg fr pa pb pc) 42):=⟨below_then (Go.Joins.below_alloc1 _ _) (Go.Joins.below_alloc1 _ _),(Blk.made W [pp m.rb,pp m.b,pp m.tb,.int .i64 k] 27).below (Go.Joins.below_alloc1 _ _),by rw [<- s1];exact Blk.made _ (zTJ7c kd pg fr pa pb pc) 42⟩
 clear s1
 go_enter Tryd.func14,Tryd.ntmps14
 go_upto_region 1 with fail
 generalize ((W.alloc (.cells #[pp m.rb,pp m.b,pp m.tb,.int .i64 k] 27)).alloc (.cells (zTJ7b kd pg fr pa pb pc) 42))=W1 at F0 |-
 obtain ⟨D,hD⟩: ∃ D,W.heap.size+1=D:=⟨_,rfl⟩
 obtain ⟨A,hA⟩: ∃ A,W.heap.size=A:=⟨_,rfl⟩
 have LO:Hid (W.heap.size<=A/\W.heap.size<=D):=⟨by omega,by omega⟩
 rw [hD,hA] at F0
 rw [hD,hA]
 have BW1:Hid (Below W.heap.size W W1):=by rw [hA];exact F0.out.1
 clear hD hA
 have y0:W1.cell? ⟨D,0,none⟩=some (.int .i64 kd):=Blk.cell F0.out.2.2 0
 have y1:W1.cell? ⟨D,1,none⟩=some (.int .i64 pg):=Blk.cell F0.out.2.2 1
 have y2:W1.cell? ⟨D,2,none⟩=some (.int .i64 fr):=Blk.cell F0.out.2.2 2
 have y3:W1.cell? ⟨D,3,none⟩=some (.bool pa):=Blk.cell F0.out.2.2 3
 have y4:W1.cell? ⟨D,4,none⟩=some (.bool pb):=Blk.cell F0.out.2.2 4
 have y5:W1.cell? ⟨D,5,none⟩=some (.bool pc):=Blk.cell F0.out.2.2 5
 have yl:=Blk.lt F0.out.2.2
 go_wp2_with fail
 refine Calls.mono (FC.out W1 BW1.out) ?_
 rintro e w2 ⟨rfl,hb2⟩
 have FX0:Hid (Below W.heap.size W (w2.alloc (.cells (zTJ7a (z1:Nat) zf zw zu zx) 63))/\Blk (w2.alloc (.cells (zTJ7a (z1:Nat) zf zw zu zx) 63)) A [pp m.rb,pp m.b,pp m.tb,.int .i64 k] 27/\Blk (w2.alloc (.cells (zTJ7a (z1:Nat) zf zw zu zx) 63)) D (zTJ7c kd pg fr pa pb pc) 42/\Blk (w2.alloc (.cells (zTJ7a (z1:Nat) zf zw zu zx) 63)) w2.heap.size (zTJ7d (z1:Nat) zf zw zu zx) 63/\W.heap.size<=w2.heap.size):=⟨below_new (below_then BW1.out hb2) _,(F0.out.2.1.below hb2).below (Go.Joins.below_alloc1 _ _),(F0.out.2.2.below hb2).below (Go.Joins.below_alloc1 _ _),Blk.made w2 (zTJ7d (z1:Nat) zf zw zu zx) 63,Nat.le_trans BW1.out.size hb2.size⟩
 clear hb2 F0 FC BW1 y0 y1 y2 y3 y4 y5 yl
 go_upto_region 2 with fail
 generalize (w2.alloc (.cells (zTJ7a (z1:Nat) zf zw zu zx) 63))=w3 at FX0 |-
 generalize w2.heap.size=E at FX0 |-
 have BX:Hid (Blk w3 A [pp m.rb,pp m.b,pp m.tb,.int .i64 k] 27/\Blk w3 D (zTJ7c kd pg fr pa pb pc) 42/\Blk w3 E (zTJ7d (z1:Nat) zf zw zu zx) 63):=⟨FX0.out.2.1,FX0.out.2.2.1,FX0.out.2.2.2.1⟩
 have BW:Hid (Below W.heap.size W w3):=FX0.out.1
 have LL:Hid (W.heap.size<=A/\W.heap.size<=D/\W.heap.size<=E):=⟨LO.out.1,LO.out.2,FX0.out.2.2.2.2⟩
 clear FX0 LO
 have a0:w3.cell? ⟨A,0,none⟩=some (pp m.rb):=Blk.cell BX.out.1 0
 have a1:w3.cell? ⟨A,1,none⟩=some (pp m.b):=Blk.cell BX.out.1 1
 have a2:w3.cell? ⟨A,2,none⟩=some (pp m.tb):=Blk.cell BX.out.1 2
 have a3:w3.cell? ⟨A,3,none⟩=some (.int .i64 k):=Blk.cell BX.out.1 3
 have al:=Blk.lt BX.out.1
 have y0:w3.cell? ⟨D,0,none⟩=some (.int .i64 kd):=Blk.cell BX.out.2.1 0
 have y1:w3.cell? ⟨D,1,none⟩=some (.int .i64 pg):=Blk.cell BX.out.2.1 1
 have y2:w3.cell? ⟨D,2,none⟩=some (.int .i64 fr):=Blk.cell BX.out.2.1 2
 have y3:w3.cell? ⟨D,3,none⟩=some (.bool pa):=Blk.cell BX.out.2.1 3
 have y4:w3.cell? ⟨D,4,none⟩=some (.bool pb):=Blk.cell BX.out.2.1 4
 have y5:w3.cell? ⟨D,5,none⟩=some (.bool pc):=Blk.cell BX.out.2.1 5
 have yl:=Blk.lt BX.out.2.1
 go_upto_region 10 with fail
 generalize w3=w4 at *
 have UC4:Hid _:=UC.out w4 BW.out
 clear UC
 go_wp2_with fail
 refine Calls.mono UC4.out ?_
 rintro e w5 ⟨rfl,hk5,hP1⟩
 have H5:Hid (P1 w4 w5):=hP1
 have SZ:Hid ((fun cw=>Blk cw D (zTJ7c kd pg fr pa pb pc) 42/\Blk cw E (zTJ7d (z1:Nat) zf zw zu zx) 63) w5):=⟨BX.out.2.1.kx hk5 (Or.inr ⟨LL.out.2.1,BX.out.2.1.lt⟩),BX.out.2.2.kx hk5 (Or.inr ⟨LL.out.2.2,BX.out.2.2.lt⟩)⟩
 clear hk5 hP1 BX UC4 a0 a1 a2 a3 al y0 y1 y2 y3 y4 y5 yl
 go_upto_region 11 with fail
 refine wp_region_noPanic ?_
 refine wp_region_held_drew (S:=fun cw=>Blk cw D (zTJ7c kd pg fr pa pb pc) 42/\Blk cw E (zTJ7d (z1:Nat) zf zw zu zx) 63) (by kernel_rfl) ?_ (fun hHeld=> ?_)
 . exact SZ.out
 have GU:Hid (Below w5.heap.size w5 w5.drew):=below_drew (Below.refl _ _)
 clear SZ
 generalize w5.drew=U at hHeld GU |-
 refine wpAnyH_take (i:=0) (oi:=⟨some 65,_,_,_,_,none⟩) (v:= ?_) rfl (by kernel_rfl) (by kernel_rfl) (by kernel_rfl) (fun _ _ _ h=>h) (Or.inl ⟨by rfl,?_⟩) (by assumption) ?_
 rotate_left
 . intro w hSw;(try dsimp only at hSw);go_simp;(try with_reducible rfl)
 try simp only [Act.put,List.setIfInBounds_toArray,List.set_cons_zero,List.set_cons_succ]
 refine wpAnyH_take (i:=1) (oi:=⟨some 66,_,_,_,_,none⟩) (v:= ?_) rfl (by kernel_rfl) (by kernel_rfl) (by kernel_rfl) (fun _ _ _ h=>h) (Or.inl ⟨by rfl,?_⟩) (by assumption) ?_
 rotate_left
 . intro w hSw;(try dsimp only at hSw);go_simp;(try with_reducible rfl)
 try simp only [Act.put,List.setIfInBounds_toArray,List.set_cons_zero,List.set_cons_succ]
 refine wpAnyH_take (i:=2) (oi:=⟨some 67,_,_,_,_,none⟩) (v:=(.int .i64 pg)) rfl (by kernel_rfl) (by kernel_rfl) (by kernel_rfl) (fun _ _ _ h=>h) (Or.inl ⟨by rfl,?_⟩) (by assumption) ?_
 . intro w hSw;(try dsimp only at hSw);have r:=Blk.cell hSw.1 1;(try go_simp);(try simp [*])
 try simp only [Act.put,List.setIfInBounds_toArray,List.set_cons_zero,List.set_cons_succ]
 refine wpAnyH_take (i:=4) (oi:=⟨some 69,_,_,_,_,none⟩) (v:= ?_) rfl (by kernel_rfl) (by kernel_rfl) (by kernel_rfl) (fun _ _ _ h=>h) (Or.inl ⟨by rfl,?_⟩) (by assumption) ?_
 rotate_left
 . intro w hSw;(try dsimp only at hSw);go_simp;(try with_reducible rfl)
 try simp only [Act.put,List.setIfInBounds_toArray,List.set_cons_zero,List.set_cons_succ]
 refine wpAnyH_take (i:=5) (oi:=⟨some 70,_,_,_,_,none⟩) (v:= ?_) rfl (by kernel_rfl) (by kernel_rfl) (by kernel_rfl) (fun _ _ _ h=>h) (Or.inl ⟨by rfl,?_⟩) (by assumption) ?_
 rotate_left
 . intro w hSw;(try dsimp only at hSw);go_simp;(try with_reducible rfl)
 try simp only [Act.put,List.setIfInBounds_toArray,List.set_cons_zero,List.set_cons_succ]
 refine wpAnyH_take (i:=6) (oi:=⟨some 71,_,_,_,_,none⟩) (v:=(.bool true)) rfl (by kernel_rfl) (by kernel_rfl) (by kernel_rfl) (fun _ _ _ h=>h) (Or.inl ⟨by rfl,?_⟩) (by assumption) ?_
 . intro w hSw;(try dsimp only at hSw);go_simp;(try simp);(try (simp only [IntKind.wrap_i64];omega))
 try simp only [Act.put,List.setIfInBounds_toArray,List.set_cons_zero,List.set_cons_succ]
 refine wpAnyH_ready (rs:=[3]) (by kernel_rfl) (by simp) ?_
 refine AllReadyH.cons (o:=⟨some 68,_,_,_,_,none⟩) rfl (fun K hK=> ?_) AllReadyH.nil
 go_simp
 go_wp2_with (go_at_call 40;refine Calls.mono (WC.out w4 w5 _ H5.out GU.out) ?_;rintro e u2 ⟨v2,rfl,hb2,hP2⟩)
 have G2:Hid (P2 w4 w5 v2 u2):=hP2
 refine hK.out _ _ ⟨hHeld.1.below hb2,hHeld.2.below hb2⟩ (fun hHeld2=> ?_)
 clear hK K hHeld hb2 hP2 GU
 have hHeld:=hHeld2
 clear hHeld2
 try simp only [Act.put,List.setIfInBounds_toArray,List.set_cons_zero,List.set_cons_succ]
 refine wpAnyH_take (i:=7) (oi:=⟨some 72,_,_,_,_,none⟩) (v:= ?_) rfl (by kernel_rfl) (by kernel_rfl) (by kernel_rfl) (fun _ _ _ h=>h) (Or.inl ⟨by rfl,?_⟩) (by assumption) ?_
 rotate_left
 . intro w hSw;(try dsimp only at hSw);go_simp;(try with_reducible rfl)
 try simp only [Act.put,List.setIfInBounds_toArray,List.set_cons_zero,List.set_cons_succ]
 refine wpAnyH_take (i:=8) (oi:=⟨some 73,_,_,_,_,some (7,true)⟩) (v:= ?_) rfl (by kernel_rfl) (by kernel_rfl) (by kernel_rfl) (fun _ _ _ h=>h) (Or.inl ⟨by rfl,?_⟩) (by assumption) ?_
 rotate_left
 . intro w hSw;(try dsimp only at hSw);go_simp;(try with_reducible rfl)
 try simp only [Act.put,List.setIfInBounds_toArray,List.set_cons_zero,List.set_cons_succ]
 refine wpAnyH_take (i:=9) (oi:=⟨some 74,_,_,_,_,some (7,true)⟩) (v:= ?_) rfl (by kernel_rfl) (by kernel_rfl) (by kernel_rfl) (fun _ _ _ h=>h) (Or.inl ⟨by rfl,?_⟩) (by assumption) ?_
 rotate_left
 . intro w hSw;(try dsimp only at hSw);go_simp;(try with_reducible rfl)
 try simp only [Act.put,List.setIfInBounds_toArray,List.set_cons_zero,List.set_cons_succ]
 refine wpAnyH_take (i:=10) (oi:=⟨some 75,_,_,_,_,some (7,true)⟩) (v:=(.int .i64 zf)) rfl (by kernel_rfl) (by kernel_rfl) (by kernel_rfl) (fun _ _ _ h=>h) (Or.inl ⟨by rfl,?_⟩) (by assumption) ?_
 . intro w hSw;(try dsimp only at hSw);have r:=Blk.cell hSw.2 1;(try go_simp);(try simp [*])
 try simp only [Act.put,List.setIfInBounds_toArray,List.set_cons_zero,List.set_cons_succ]
 refine wpAnyH_take (i:=11) (oi:=⟨some 76,_,_,_,_,some (7,true)⟩) (v:=(.bool true)) rfl (by kernel_rfl) (by kernel_rfl) (by kernel_rfl) (fun _ _ _ h=>h) (Or.inl ⟨by rfl,?_⟩) (by assumption) ?_
 . intro w hSw;(try dsimp only at hSw);go_simp;(try simp);(try (simp only [IntKind.wrap_i64];omega))
 try simp only [Act.put,List.setIfInBounds_toArray,List.set_cons_zero,List.set_cons_succ]
 refine wpAnyH_take (i:=12) (oi:=⟨some 77,_,_,_,_,none⟩) (v:=(.bool true)) rfl (by kernel_rfl) (by kernel_rfl) (by kernel_rfl) (fun _ _ _ h=>h) (Or.inl ⟨by rfl,?_⟩) (by assumption) ?_
 . intro w hSw;(try dsimp only at hSw);go_simp;(try simp);(try (simp only [IntKind.wrap_i64];omega))
 try simp only [Act.put,List.setIfInBounds_toArray,List.set_cons_zero,List.set_cons_succ]
 refine wpAnyH_take (i:=13) (oi:=⟨some 10,_,_,_,_,none⟩) (v:= ?_) rfl (by kernel_rfl) (by kernel_rfl) (by kernel_rfl) (fun _ _ _ h=>h) (Or.inl ⟨by rfl,?_⟩) (by assumption) ?_
 rotate_left
 . intro w hSw;(try dsimp only at hSw);go_simp;(try with_reducible rfl)
 try simp only [Act.put,List.setIfInBounds_toArray,List.set_cons_zero,List.set_cons_succ]
 refine wpAnyH_take (i:=14) (oi:=⟨some 11,_,_,_,_,none⟩) (v:= ?_) rfl (by kernel_rfl) (by kernel_rfl) (by kernel_rfl) (fun _ _ _ h=>h) (Or.inl ⟨by rfl,?_⟩) (by assumption) ?_
 rotate_left
 . intro w hSw;(try dsimp only at hSw);go_simp;(try with_reducible rfl)
 try simp only [Act.put,List.setIfInBounds_toArray,List.set_cons_zero,List.set_cons_succ]
 clear hHeld
 refine wpAnyH_done (by kernel_rfl) ?_ _
 refine NoPanic.normal ?_
 go_wp2_with fail
 go_returns
 exact ⟨v2,rfl,w4,w5,BW.out,G2.out⟩
set_option maxHeartbeats 4000000 in
theorem does3_true {X:Nat->Prop} {W:World} {m:Pm} (k:Int) (root:Nat) (v:Value) (pg fr:Int) (pa pb pc:Bool) (rm:Int) (z1:Nat) (zf:Int) (zw zu zx:Bool) (P1:World->World->Prop) (P2 P3:World->World->Value->World->Prop)
 (FC:Hid (∀ w:World,Below W.heap.size W w->Calls Tryd.prog 24 #[v,.int .i64 pg] w fun e w'=>e=.returned (.tuple #[.agg (zTJ7a (z1:Nat) zf zw zu zx),.bool true])/\Below w.heap.size w w'))
 (PRC:Hid (∀ w:World,Below W.heap.size W w->Calls Tryd.prog 41 #[pv m k,.int .i64 root,.int .i64 pg,.agg #[.bool pa,.bool pb,.bool pc]] w fun e w'=>e=.returned (.int .i64 0)/\Kx (XW X W w) w w'/\P1 w w'))
 (WC:Hid (∀ (w w5 U:World),P1 w w5->Below w5.heap.size w5 U->Calls Tryd.prog 40 #[v,.int .i64 pg] U fun e w'=> ∃ v',e=.returned v'/\Below U.heap.size U w'/\P2 w w5 v' w'))
 (IC:Hid (∀ (w w5:World) (v1:Value) (U:World),P2 w w5 v1 U->Calls Tryd.prog 42 #[v1,.agg (zTJ7a pg zf pa pb pc)] U fun e w'=> ∃ v',e=.returned v'/\Below U.heap.size U w'/\P3 w w5 v' w')) :
 Calls Tryd.prog 14 #[pv m k,.int .i64 root,v,.agg (zTJ7b 3 pg fr pa pb pc),.int .i64 rm] W fun e w'=> ∃ vm,e=.returned (.tuple #[vm,.bool true])/\ ∃ w4 w5,Below W.heap.size W w4/\P3 w4 w5 vm w':=by
 obtain ⟨kd,hkd⟩: ∃ kd:Int,kd=3:=⟨_,rfl⟩
 have q1:(kd==1)=false:=by simp [hkd]
 have q2:(kd==2)=false:=by simp [hkd]
 have q3:(kd==3)=true:=by simp [hkd]
 rw [<- hkd]
 clear hkd
 have s1:(W.alloc (.cells #[pp m.rb,pp m.b,pp m.tb,.int .i64 k] 27)).heap.size=W.heap.size+1:=World.size_alloc _ _
 have F0:Hid (Below W.heap.size W ((W.alloc (.cells #[pp m.rb,pp m.b,pp m.tb,.int .i64 k] 27)).alloc (.cells (zTJ7b kd pg fr pa pb pc) 42))/\Blk ((W.alloc (.cells #[pp m.rb,pp m.b,pp m.tb,.int .i64 k] 27)).alloc (.cells (zTJ7b kd pg fr pa pb pc) 42)) W.heap.size [pp m.rb,pp m.b,pp m.tb,.int .i64 k] 27/\Blk ((W.alloc (.cells #[pp m.rb,pp m.b,pp m.tb,.int .i64 k] 27)).alloc (.cells (zTJ7b kd pg fr pa pb pc) 42)) (W.heap.size+1) (zTJ7c kd pg fr pa pb pc) 42):=⟨below_then (Go.Joins.below_alloc1 _ _) (Go.Joins.below_alloc1 _ _),(Blk.made W [pp m.rb,pp m.b,pp m.tb,.int .i64 k] 27).below (Go.Joins.below_alloc1 _ _),by rw [<- s1];exact Blk.made _ (zTJ7c kd pg fr pa pb pc) 42⟩
 clear s1
 go_enter Tryd.func14,Tryd.ntmps14
 go_upto_region 1 with fail
 generalize ((W.alloc (.cells #[pp m.rb,pp m.b,pp m.tb,.int .i64 k] 27)).alloc (.cells (zTJ7b kd pg fr pa pb pc) 42))=W1 at F0 |-
 obtain ⟨D,hD⟩: ∃ D,W.heap.size+1=D:=⟨_,rfl⟩
 obtain ⟨A,hA⟩: ∃ A,W.heap.size=A:=⟨_,rfl⟩
 have LO:Hid (W.heap.size<=A/\W.heap.size<=D):=⟨by omega,by omega⟩
 rw [hD,hA] at F0
 rw [hD,hA]
 have BW1:Hid (Below W.heap.size W W1):=by rw [hA];exact F0.out.1
 clear hD hA
 have y0:W1.cell? ⟨D,0,none⟩=some (.int .i64 kd):=Blk.cell F0.out.2.2 0
 have y1:W1.cell? ⟨D,1,none⟩=some (.int .i64 pg):=Blk.cell F0.out.2.2 1
 have y2:W1.cell? ⟨D,2,none⟩=some (.int .i64 fr):=Blk.cell F0.out.2.2 2
 have y3:W1.cell? ⟨D,3,none⟩=some (.bool pa):=Blk.cell F0.out.2.2 3
 have y4:W1.cell? ⟨D,4,none⟩=some (.bool pb):=Blk.cell F0.out.2.2 4
 have y5:W1.cell? ⟨D,5,none⟩=some (.bool pc):=Blk.cell F0.out.2.2 5
 have yl:=Blk.lt F0.out.2.2
 go_wp2_with fail
 refine Calls.mono (FC.out W1 BW1.out) ?_
 rintro e w2 ⟨rfl,hb2⟩
 have FX0:Hid (Below W.heap.size W (w2.alloc (.cells (zTJ7a (z1:Nat) zf zw zu zx) 63))/\Blk (w2.alloc (.cells (zTJ7a (z1:Nat) zf zw zu zx) 63)) A [pp m.rb,pp m.b,pp m.tb,.int .i64 k] 27/\Blk (w2.alloc (.cells (zTJ7a (z1:Nat) zf zw zu zx) 63)) D (zTJ7c kd pg fr pa pb pc) 42/\Blk (w2.alloc (.cells (zTJ7a (z1:Nat) zf zw zu zx) 63)) w2.heap.size (zTJ7d (z1:Nat) zf zw zu zx) 63/\W.heap.size<=w2.heap.size):=⟨below_new (below_then BW1.out hb2) _,(F0.out.2.1.below hb2).below (Go.Joins.below_alloc1 _ _),(F0.out.2.2.below hb2).below (Go.Joins.below_alloc1 _ _),Blk.made w2 (zTJ7d (z1:Nat) zf zw zu zx) 63,Nat.le_trans BW1.out.size hb2.size⟩
 clear hb2 F0 FC BW1 y0 y1 y2 y3 y4 y5 yl
 go_upto_region 2 with fail
 generalize (w2.alloc (.cells (zTJ7a (z1:Nat) zf zw zu zx) 63))=w3 at FX0 |-
 generalize w2.heap.size=E at FX0 |-
 have BX:Hid (Blk w3 A [pp m.rb,pp m.b,pp m.tb,.int .i64 k] 27/\Blk w3 D (zTJ7c kd pg fr pa pb pc) 42/\Blk w3 E (zTJ7d (z1:Nat) zf zw zu zx) 63):=⟨FX0.out.2.1,FX0.out.2.2.1,FX0.out.2.2.2.1⟩
 have BW:Hid (Below W.heap.size W w3):=FX0.out.1
 have LL:Hid (W.heap.size<=A/\W.heap.size<=D/\W.heap.size<=E):=⟨LO.out.1,LO.out.2,FX0.out.2.2.2.2⟩
 clear FX0 LO
 have a0:w3.cell? ⟨A,0,none⟩=some (pp m.rb):=Blk.cell BX.out.1 0
 have a1:w3.cell? ⟨A,1,none⟩=some (pp m.b):=Blk.cell BX.out.1 1
 have a2:w3.cell? ⟨A,2,none⟩=some (pp m.tb):=Blk.cell BX.out.1 2
 have a3:w3.cell? ⟨A,3,none⟩=some (.int .i64 k):=Blk.cell BX.out.1 3
 have al:=Blk.lt BX.out.1
 have y0:w3.cell? ⟨D,0,none⟩=some (.int .i64 kd):=Blk.cell BX.out.2.1 0
 have y1:w3.cell? ⟨D,1,none⟩=some (.int .i64 pg):=Blk.cell BX.out.2.1 1
 have y2:w3.cell? ⟨D,2,none⟩=some (.int .i64 fr):=Blk.cell BX.out.2.1 2
 have y3:w3.cell? ⟨D,3,none⟩=some (.bool pa):=Blk.cell BX.out.2.1 3
 have y4:w3.cell? ⟨D,4,none⟩=some (.bool pb):=Blk.cell BX.out.2.1 4
 have y5:w3.cell? ⟨D,5,none⟩=some (.bool pc):=Blk.cell BX.out.2.1 5
 have yl:=Blk.lt BX.out.2.1
 go_upto_region 13 with fail
 generalize w3=w4 at *
 have PC4:Hid _:=PRC.out w4 BW.out
 clear PRC
 go_wp2_with fail
 refine Calls.mono PC4.out ?_
 rintro e w5 ⟨rfl,hk5,hP1⟩
 have H5:Hid (P1 w4 w5):=hP1
 have SZ:Hid ((fun cw=>Blk cw D (zTJ7c kd pg fr pa pb pc) 42/\Blk cw E (zTJ7d (z1:Nat) zf zw zu zx) 63) w5):=⟨BX.out.2.1.kx hk5 (Or.inr ⟨LL.out.2.1,BX.out.2.1.lt⟩),BX.out.2.2.kx hk5 (Or.inr ⟨LL.out.2.2,BX.out.2.2.lt⟩)⟩
 clear hk5 hP1 BX PC4 a0 a1 a2 a3 al y0 y1 y2 y3 y4 y5 yl
 go_upto_region 15 with fail
 refine wp_region_noPanic ?_
 refine wp_region_held_drew (S:=fun cw=>Blk cw D (zTJ7c kd pg fr pa pb pc) 42/\Blk cw E (zTJ7d (z1:Nat) zf zw zu zx) 63) (by kernel_rfl) ?_ (fun hHeld=> ?_)
 . exact SZ.out
 have GU:Hid (Below w5.heap.size w5 w5.drew):=below_drew (Below.refl _ _)
 clear SZ
 generalize w5.drew=U at hHeld GU |-
 refine wpAnyH_take (i:=0) (oi:=⟨some 88,_,_,_,_,none⟩) (v:= ?_) rfl (by kernel_rfl) (by kernel_rfl) (by kernel_rfl) (fun _ _ _ h=>h) (Or.inl ⟨by rfl,?_⟩) (by assumption) ?_
 rotate_left
 . intro w hSw;(try dsimp only at hSw);go_simp;(try with_reducible rfl)
 try simp only [Act.put,List.setIfInBounds_toArray,List.set_cons_zero,List.set_cons_succ]
 refine wpAnyH_take (i:=1) (oi:=⟨some 89,_,_,_,_,none⟩) (v:= ?_) rfl (by kernel_rfl) (by kernel_rfl) (by kernel_rfl) (fun _ _ _ h=>h) (Or.inl ⟨by rfl,?_⟩) (by assumption) ?_
 rotate_left
 . intro w hSw;(try dsimp only at hSw);go_simp;(try with_reducible rfl)
 try simp only [Act.put,List.setIfInBounds_toArray,List.set_cons_zero,List.set_cons_succ]
 refine wpAnyH_take (i:=2) (oi:=⟨some 90,_,_,_,_,none⟩) (v:=(.int .i64 pg)) rfl (by kernel_rfl) (by kernel_rfl) (by kernel_rfl) (fun _ _ _ h=>h) (Or.inl ⟨by rfl,?_⟩) (by assumption) ?_
 . intro w hSw;(try dsimp only at hSw);have r:=Blk.cell hSw.1 1;(try go_simp);(try simp [*])
 try simp only [Act.put,List.setIfInBounds_toArray,List.set_cons_zero,List.set_cons_succ]
 refine wpAnyH_take (i:=4) (oi:=⟨some 92,_,_,_,_,none⟩) (v:= ?_) rfl (by kernel_rfl) (by kernel_rfl) (by kernel_rfl) (fun _ _ _ h=>h) (Or.inl ⟨by rfl,?_⟩) (by assumption) ?_
 rotate_left
 . intro w hSw;(try dsimp only at hSw);go_simp;(try with_reducible rfl)
 try simp only [Act.put,List.setIfInBounds_toArray,List.set_cons_zero,List.set_cons_succ]
 refine wpAnyH_take (i:=5) (oi:=⟨some 93,_,_,_,_,none⟩) (v:=(.int .i64 pg)) rfl (by kernel_rfl) (by kernel_rfl) (by kernel_rfl) (fun _ _ _ h=>h) (Or.inl ⟨by rfl,?_⟩) (by assumption) ?_
 . intro w hSw;(try dsimp only at hSw);have r:=Blk.cell hSw.1 1;(try go_simp);(try simp [*])
 try simp only [Act.put,List.setIfInBounds_toArray,List.set_cons_zero,List.set_cons_succ]
 refine wpAnyH_take (i:=6) (oi:=⟨some 94,_,_,_,_,none⟩) (v:= ?_) rfl (by kernel_rfl) (by kernel_rfl) (by kernel_rfl) (fun _ _ _ h=>h) (Or.inl ⟨by rfl,?_⟩) (by assumption) ?_
 rotate_left
 . intro w hSw;(try dsimp only at hSw);go_simp;(try with_reducible rfl)
 try simp only [Act.put,List.setIfInBounds_toArray,List.set_cons_zero,List.set_cons_succ]
 refine wpAnyH_take (i:=7) (oi:=⟨some 95,_,_,_,_,none⟩) (v:=(.int .i64 zf)) rfl (by kernel_rfl) (by kernel_rfl) (by kernel_rfl) (fun _ _ _ h=>h) (Or.inl ⟨by rfl,?_⟩) (by assumption) ?_
 . intro w hSw;(try dsimp only at hSw);have r:=Blk.cell hSw.2 1;(try go_simp);(try simp [*])
 try simp only [Act.put,List.setIfInBounds_toArray,List.set_cons_zero,List.set_cons_succ]
 refine wpAnyH_take (i:=8) (oi:=⟨some 96,_,_,_,_,none⟩) (v:= ?_) rfl (by kernel_rfl) (by kernel_rfl) (by kernel_rfl) (fun _ _ _ h=>h) (Or.inl ⟨by rfl,?_⟩) (by assumption) ?_
 rotate_left
 . intro w hSw;(try dsimp only at hSw);go_simp;(try with_reducible rfl)
 try simp only [Act.put,List.setIfInBounds_toArray,List.set_cons_zero,List.set_cons_succ]
 refine wpAnyH_take (i:=9) (oi:=⟨some 97,_,_,_,_,none⟩) (v:=(.agg #[.bool pa,.bool pb,.bool pc])) rfl (by kernel_rfl) (by kernel_rfl) (by kernel_rfl) (fun _ _ _ h=>h) (Or.inl ⟨by rfl,?_⟩) (by assumption) ?_
 . intro w hSw;(try dsimp only at hSw);have r3:=Blk.cell hSw.1 3;have r4:=Blk.cell hSw.1 4;have r5:=Blk.cell hSw.1 5;have r6:w.cell? ⟨D,3+1,none⟩=some (.bool pb):=r4;have r7:w.cell? ⟨D,3+2,none⟩=some (.bool pc):=r5;(try go_simp);(try simp [*])
 try simp only [Act.put,List.setIfInBounds_toArray,List.set_cons_zero,List.set_cons_succ]
 refine wpAnyH_take (i:=10) (oi:=⟨some 98,_,_,_,_,none⟩) (v:=(.agg (zTJ7a pg zf pa pb pc))) rfl (by kernel_rfl) (by kernel_rfl) (by kernel_rfl) (fun _ _ _ h=>h) (Or.inl ⟨by rfl,?_⟩) (by assumption) ?_
 . intro w hSw;(try dsimp only at hSw);go_simp;(try simp);(try (simp only [IntKind.wrap_i64];omega))
 try simp only [Act.put,List.setIfInBounds_toArray,List.set_cons_zero,List.set_cons_succ]
 refine wpAnyH_ready (rs:=[3]) (by kernel_rfl) (by simp) ?_
 refine AllReadyH.cons (o:=⟨some 91,_,_,_,_,none⟩) rfl (fun K hK=> ?_) AllReadyH.nil
 go_simp
 go_wp2_with (go_at_call 40;refine Calls.mono (WC.out w4 w5 _ H5.out GU.out) ?_;rintro e u2 ⟨v2,rfl,hb2,hP2⟩)
 have G2:Hid (P2 w4 w5 v2 u2):=hP2
 refine hK.out _ _ ⟨hHeld.1.below hb2,hHeld.2.below hb2⟩ (fun hHeld2=> ?_)
 clear hK K hHeld hb2 hP2 GU
 have hHeld:=hHeld2
 clear hHeld2
 try simp only [Act.put,List.setIfInBounds_toArray,List.set_cons_zero,List.set_cons_succ]
 refine wpAnyH_ready (rs:=[11]) (by kernel_rfl) (by simp) ?_
 refine AllReadyH.cons (o:=⟨some 99,_,_,_,_,none⟩) rfl (fun K hK=> ?_) AllReadyH.nil
 go_simp
 go_wp2_with (go_at_call 42;refine Calls.mono (IC.out w4 w5 v2 u2 G2.out) ?_;rintro e u3 ⟨v3,rfl,hb3,hP3⟩)
 have G3:Hid (P3 w4 w5 v3 u3):=hP3
 refine hK.out _ _ ⟨hHeld.1.below hb3,hHeld.2.below hb3⟩ (fun hHeld2=> ?_)
 clear hK K hHeld hb3 hP3 G2
 have hHeld:=hHeld2
 clear hHeld2
 try simp only [Act.put,List.setIfInBounds_toArray,List.set_cons_zero,List.set_cons_succ]
 refine wpAnyH_take (i:=12) (oi:=⟨some 2,_,_,_,_,none⟩) (v:= ?_) rfl (by kernel_rfl) (by kernel_rfl) (by kernel_rfl) (fun _ _ _ h=>h) (Or.inl ⟨by rfl,?_⟩) (by assumption) ?_
 rotate_left
 . intro w hSw;(try dsimp only at hSw);go_simp;(try with_reducible rfl)
 try simp only [Act.put,List.setIfInBounds_toArray,List.set_cons_zero,List.set_cons_succ]
 clear hHeld
 refine wpAnyH_done (by kernel_rfl) ?_ _
 refine NoPanic.normal ?_
 go_wp2_with fail
 go_returns
 exact ⟨v3,rfl,w4,w5,BW.out,G3.out⟩
set_option maxHeartbeats 4000000 in
theorem does3_false {X:Nat->Prop} {W:World} {m:Pm} (k:Int) (root:Nat) (v:Value) (pg fr:Int) (pa pb pc:Bool) (rm:Int) (z1:Nat) (zf:Int) (zw zu zx:Bool) (P1:World->World->Prop)
 (FC:Hid (∀ w:World,Below W.heap.size W w->Calls Tryd.prog 24 #[v,.int .i64 pg] w fun e w'=>e=.returned (.tuple #[.agg (zTJ7a (z1:Nat) zf zw zu zx),.bool false])/\Below w.heap.size w w'))
 (PRC:Hid (∀ w:World,Below W.heap.size W w->Calls Tryd.prog 41 #[pv m k,.int .i64 root,.int .i64 pg,.agg #[.bool pa,.bool pb,.bool pc]] w fun e w'=>e=.returned (.int .i64 5)/\P1 w w')) :
 Calls Tryd.prog 14 #[pv m k,.int .i64 root,v,.agg (zTJ7b 3 pg fr pa pb pc),.int .i64 rm] W fun e w'=>e=.returned (.tuple #[v,.bool true])/\ ∃ w4,Below W.heap.size W w4/\P1 w4 w':=by
 obtain ⟨kd,hkd⟩: ∃ kd:Int,kd=3:=⟨_,rfl⟩
 have q1:(kd==1)=false:=by simp [hkd]
 have q2:(kd==2)=false:=by simp [hkd]
 have q3:(kd==3)=true:=by simp [hkd]
 rw [<- hkd]
 clear hkd
 have s1:(W.alloc (.cells #[pp m.rb,pp m.b,pp m.tb,.int .i64 k] 27)).heap.size=W.heap.size+1:=World.size_alloc _ _
 have F0:Hid (Below W.heap.size W ((W.alloc (.cells #[pp m.rb,pp m.b,pp m.tb,.int .i64 k] 27)).alloc (.cells (zTJ7b kd pg fr pa pb pc) 42))/\Blk ((W.alloc (.cells #[pp m.rb,pp m.b,pp m.tb,.int .i64 k] 27)).alloc (.cells (zTJ7b kd pg fr pa pb pc) 42)) W.heap.size [pp m.rb,pp m.b,pp m.tb,.int .i64 k] 27/\Blk ((W.alloc (.cells #[pp m.rb,pp m.b,pp m.tb,.int .i64 k] 27)).alloc (.cells (zTJ7b kd pg fr pa pb pc) 42)) (W.heap.size+1) (zTJ7c kd pg fr pa pb pc) 42):=⟨below_then (Go.Joins.below_alloc1 _ _) (Go.Joins.below_alloc1 _ _),(Blk.made W [pp m.rb,pp m.b,pp m.tb,.int .i64 k] 27).below (Go.Joins.below_alloc1 _ _),by rw [<- s1];exact Blk.made _ (zTJ7c kd pg fr pa pb pc) 42⟩
 clear s1
 go_enter Tryd.func14,Tryd.ntmps14
 go_upto_region 1 with fail
 generalize ((W.alloc (.cells #[pp m.rb,pp m.b,pp m.tb,.int .i64 k] 27)).alloc (.cells (zTJ7b kd pg fr pa pb pc) 42))=W1 at F0 |-
 obtain ⟨D,hD⟩: ∃ D,W.heap.size+1=D:=⟨_,rfl⟩
 obtain ⟨A,hA⟩: ∃ A,W.heap.size=A:=⟨_,rfl⟩
 have LO:Hid (W.heap.size<=A/\W.heap.size<=D):=⟨by omega,by omega⟩
 rw [hD,hA] at F0
 rw [hD,hA]
 have BW1:Hid (Below W.heap.size W W1):=by rw [hA];exact F0.out.1
 clear hD hA
 have y0:W1.cell? ⟨D,0,none⟩=some (.int .i64 kd):=Blk.cell F0.out.2.2 0
 have y1:W1.cell? ⟨D,1,none⟩=some (.int .i64 pg):=Blk.cell F0.out.2.2 1
 have y2:W1.cell? ⟨D,2,none⟩=some (.int .i64 fr):=Blk.cell F0.out.2.2 2
 have y3:W1.cell? ⟨D,3,none⟩=some (.bool pa):=Blk.cell F0.out.2.2 3
 have y4:W1.cell? ⟨D,4,none⟩=some (.bool pb):=Blk.cell F0.out.2.2 4
 have y5:W1.cell? ⟨D,5,none⟩=some (.bool pc):=Blk.cell F0.out.2.2 5
 have yl:=Blk.lt F0.out.2.2
 go_wp2_with fail
 refine Calls.mono (FC.out W1 BW1.out) ?_
 rintro e w2 ⟨rfl,hb2⟩
 have FX0:Hid (Below W.heap.size W (w2.alloc (.cells (zTJ7a (z1:Nat) zf zw zu zx) 63))/\Blk (w2.alloc (.cells (zTJ7a (z1:Nat) zf zw zu zx) 63)) A [pp m.rb,pp m.b,pp m.tb,.int .i64 k] 27/\Blk (w2.alloc (.cells (zTJ7a (z1:Nat) zf zw zu zx) 63)) D (zTJ7c kd pg fr pa pb pc) 42/\Blk (w2.alloc (.cells (zTJ7a (z1:Nat) zf zw zu zx) 63)) w2.heap.size (zTJ7d (z1:Nat) zf zw zu zx) 63/\W.heap.size<=w2.heap.size):=⟨below_new (below_then BW1.out hb2) _,(F0.out.2.1.below hb2).below (Go.Joins.below_alloc1 _ _),(F0.out.2.2.below hb2).below (Go.Joins.below_alloc1 _ _),Blk.made w2 (zTJ7d (z1:Nat) zf zw zu zx) 63,Nat.le_trans BW1.out.size hb2.size⟩
 clear hb2 F0 FC BW1 y0 y1 y2 y3 y4 y5 yl
 go_upto_region 2 with fail
 generalize (w2.alloc (.cells (zTJ7a (z1:Nat) zf zw zu zx) 63))=w3 at FX0 |-
 generalize w2.heap.size=E at FX0 |-
 have BX:Hid (Blk w3 A [pp m.rb,pp m.b,pp m.tb,.int .i64 k] 27/\Blk w3 D (zTJ7c kd pg fr pa pb pc) 42/\Blk w3 E (zTJ7d (z1:Nat) zf zw zu zx) 63):=⟨FX0.out.2.1,FX0.out.2.2.1,FX0.out.2.2.2.1⟩
 have BW:Hid (Below W.heap.size W w3):=FX0.out.1
 have LL:Hid (W.heap.size<=A/\W.heap.size<=D/\W.heap.size<=E):=⟨LO.out.1,LO.out.2,FX0.out.2.2.2.2⟩
 clear FX0 LO
 have a0:w3.cell? ⟨A,0,none⟩=some (pp m.rb):=Blk.cell BX.out.1 0
 have a1:w3.cell? ⟨A,1,none⟩=some (pp m.b):=Blk.cell BX.out.1 1
 have a2:w3.cell? ⟨A,2,none⟩=some (pp m.tb):=Blk.cell BX.out.1 2
 have a3:w3.cell? ⟨A,3,none⟩=some (.int .i64 k):=Blk.cell BX.out.1 3
 have al:=Blk.lt BX.out.1
 have y0:w3.cell? ⟨D,0,none⟩=some (.int .i64 kd):=Blk.cell BX.out.2.1 0
 have y1:w3.cell? ⟨D,1,none⟩=some (.int .i64 pg):=Blk.cell BX.out.2.1 1
 have y2:w3.cell? ⟨D,2,none⟩=some (.int .i64 fr):=Blk.cell BX.out.2.1 2
 have y3:w3.cell? ⟨D,3,none⟩=some (.bool pa):=Blk.cell BX.out.2.1 3
 have y4:w3.cell? ⟨D,4,none⟩=some (.bool pb):=Blk.cell BX.out.2.1 4
 have y5:w3.cell? ⟨D,5,none⟩=some (.bool pc):=Blk.cell BX.out.2.1 5
 have yl:=Blk.lt BX.out.2.1
 go_upto_region 13 with fail
 generalize w3=w4 at *
 have PC4:Hid _:=PRC.out w4 BW.out
 clear PRC
 go_wp2_with fail
 refine Calls.mono PC4.out ?_
 rintro e w5 ⟨rfl,hP1⟩
 have H5:Hid (P1 w4 w5):=hP1
 clear hP1 BX PC4 a0 a1 a2 a3 al y0 y1 y2 y3 y4 y5 yl
 go_wp2_with fail
 go_returns
 exact ⟨rfl,w4,BW.out,H5.out⟩
set_option maxHeartbeats 4000000 in
theorem does4_true {X:Nat->Prop} {W:World} {m:Pm} (k:Int) (root:Nat) (v:Value) (kd pg fr:Int) (pa pb pc:Bool) (rm:Int) (z1:Nat) (zf:Int) (zw zu zx:Bool) (n1: ¬ kd=1) (n2: ¬ kd=2) (n3: ¬ kd=3)
 (FC:Hid (∀ w:World,Below W.heap.size W w->Calls Tryd.prog 24 #[v,.int .i64 pg] w fun e w'=>e=.returned (.tuple #[.agg (zTJ7a (z1:Nat) zf zw zu zx),.bool true])/\Below w.heap.size w w'))
 (QC:Hid (∀ w:World,Below W.heap.size W w->Calls Tryd.prog 28 #[pv m k,.int .i64 root,.int .i64 pg] w fun e w'=>e=.returned (.tuple #[.int .i64 zf,.agg #[.bool zw,.bool zu,.bool zx],.bool true])/\Below w.heap.size w w')) :
 Calls Tryd.prog 14 #[pv m k,.int .i64 root,v,.agg (zTJ7b kd pg fr pa pb pc),.int .i64 rm] W fun e w'=>e=.returned (.tuple #[v,.bool true])/\Below W.heap.size W w':=by
 have q1:(kd==1)=false:=by simpa using n1
 have q2:(kd==2)=false:=by simpa using n2
 have q3:(kd==3)=false:=by simpa using n3
 have s1:(W.alloc (.cells #[pp m.rb,pp m.b,pp m.tb,.int .i64 k] 27)).heap.size=W.heap.size+1:=World.size_alloc _ _
 have F0:Hid (Below W.heap.size W ((W.alloc (.cells #[pp m.rb,pp m.b,pp m.tb,.int .i64 k] 27)).alloc (.cells (zTJ7b kd pg fr pa pb pc) 42))/\Blk ((W.alloc (.cells #[pp m.rb,pp m.b,pp m.tb,.int .i64 k] 27)).alloc (.cells (zTJ7b kd pg fr pa pb pc) 42)) W.heap.size [pp m.rb,pp m.b,pp m.tb,.int .i64 k] 27/\Blk ((W.alloc (.cells #[pp m.rb,pp m.b,pp m.tb,.int .i64 k] 27)).alloc (.cells (zTJ7b kd pg fr pa pb pc) 42)) (W.heap.size+1) (zTJ7c kd pg fr pa pb pc) 42):=⟨below_then (Go.Joins.below_alloc1 _ _) (Go.Joins.below_alloc1 _ _),(Blk.made W [pp m.rb,pp m.b,pp m.tb,.int .i64 k] 27).below (Go.Joins.below_alloc1 _ _),by rw [<- s1];exact Blk.made _ (zTJ7c kd pg fr pa pb pc) 42⟩
 clear s1
 go_enter Tryd.func14,Tryd.ntmps14
 go_upto_region 1 with fail
 generalize ((W.alloc (.cells #[pp m.rb,pp m.b,pp m.tb,.int .i64 k] 27)).alloc (.cells (zTJ7b kd pg fr pa pb pc) 42))=W1 at F0 |-
 obtain ⟨D,hD⟩: ∃ D,W.heap.size+1=D:=⟨_,rfl⟩
 obtain ⟨A,hA⟩: ∃ A,W.heap.size=A:=⟨_,rfl⟩
 have LO:Hid (W.heap.size<=A/\W.heap.size<=D):=⟨by omega,by omega⟩
 rw [hD,hA] at F0
 rw [hD,hA]
 have BW1:Hid (Below W.heap.size W W1):=by rw [hA];exact F0.out.1
 clear hD hA
 have y0:W1.cell? ⟨D,0,none⟩=some (.int .i64 kd):=Blk.cell F0.out.2.2 0
 have y1:W1.cell? ⟨D,1,none⟩=some (.int .i64 pg):=Blk.cell F0.out.2.2 1
 have y2:W1.cell? ⟨D,2,none⟩=some (.int .i64 fr):=Blk.cell F0.out.2.2 2
 have y3:W1.cell? ⟨D,3,none⟩=some (.bool pa):=Blk.cell F0.out.2.2 3
 have y4:W1.cell? ⟨D,4,none⟩=some (.bool pb):=Blk.cell F0.out.2.2 4
 have y5:W1.cell? ⟨D,5,none⟩=some (.bool pc):=Blk.cell F0.out.2.2 5
 have yl:=Blk.lt F0.out.2.2
 go_wp2_with fail
 refine Calls.mono (FC.out W1 BW1.out) ?_
 rintro e w2 ⟨rfl,hb2⟩
 have FX0:Hid (Below W.heap.size W (w2.alloc (.cells (zTJ7a (z1:Nat) zf zw zu zx) 63))/\Blk (w2.alloc (.cells (zTJ7a (z1:Nat) zf zw zu zx) 63)) A [pp m.rb,pp m.b,pp m.tb,.int .i64 k] 27/\Blk (w2.alloc (.cells (zTJ7a (z1:Nat) zf zw zu zx) 63)) D (zTJ7c kd pg fr pa pb pc) 42/\Blk (w2.alloc (.cells (zTJ7a (z1:Nat) zf zw zu zx) 63)) w2.heap.size (zTJ7d (z1:Nat) zf zw zu zx) 63/\W.heap.size<=w2.heap.size):=⟨below_new (below_then BW1.out hb2) _,(F0.out.2.1.below hb2).below (Go.Joins.below_alloc1 _ _),(F0.out.2.2.below hb2).below (Go.Joins.below_alloc1 _ _),Blk.made w2 (zTJ7d (z1:Nat) zf zw zu zx) 63,Nat.le_trans BW1.out.size hb2.size⟩
 clear hb2 F0 FC BW1 y0 y1 y2 y3 y4 y5 yl
 go_upto_region 2 with fail
 generalize (w2.alloc (.cells (zTJ7a (z1:Nat) zf zw zu zx) 63))=w3 at FX0 |-
 generalize w2.heap.size=E at FX0 |-
 have BX:Hid (Blk w3 A [pp m.rb,pp m.b,pp m.tb,.int .i64 k] 27/\Blk w3 D (zTJ7c kd pg fr pa pb pc) 42/\Blk w3 E (zTJ7d (z1:Nat) zf zw zu zx) 63):=⟨FX0.out.2.1,FX0.out.2.2.1,FX0.out.2.2.2.1⟩
 have BW:Hid (Below W.heap.size W w3):=FX0.out.1
 have LL:Hid (W.heap.size<=A/\W.heap.size<=D/\W.heap.size<=E):=⟨LO.out.1,LO.out.2,FX0.out.2.2.2.2⟩
 clear FX0 LO
 have a0:w3.cell? ⟨A,0,none⟩=some (pp m.rb):=Blk.cell BX.out.1 0
 have a1:w3.cell? ⟨A,1,none⟩=some (pp m.b):=Blk.cell BX.out.1 1
 have a2:w3.cell? ⟨A,2,none⟩=some (pp m.tb):=Blk.cell BX.out.1 2
 have a3:w3.cell? ⟨A,3,none⟩=some (.int .i64 k):=Blk.cell BX.out.1 3
 have al:=Blk.lt BX.out.1
 have y0:w3.cell? ⟨D,0,none⟩=some (.int .i64 kd):=Blk.cell BX.out.2.1 0
 have y1:w3.cell? ⟨D,1,none⟩=some (.int .i64 pg):=Blk.cell BX.out.2.1 1
 have y2:w3.cell? ⟨D,2,none⟩=some (.int .i64 fr):=Blk.cell BX.out.2.1 2
 have y3:w3.cell? ⟨D,3,none⟩=some (.bool pa):=Blk.cell BX.out.2.1 3
 have y4:w3.cell? ⟨D,4,none⟩=some (.bool pb):=Blk.cell BX.out.2.1 4
 have y5:w3.cell? ⟨D,5,none⟩=some (.bool pc):=Blk.cell BX.out.2.1 5
 have yl:=Blk.lt BX.out.2.1
 go_upto_region 17 with fail
 have QC4:Hid _:=QC.out w3 BW.out
 clear QC
 go_wp2_with fail
 refine Calls.mono QC4.out ?_
 rintro e w5 ⟨rfl,hb5⟩
 have F6:Hid (Below W.heap.size W (w5.alloc (.cells #[.bool zw,.bool zu,.bool zx] 40))/\Blk (w5.alloc (.cells #[.bool zw,.bool zu,.bool zx] 40)) E (zTJ7d (z1:Nat) zf zw zu zx) 63/\Blk (w5.alloc (.cells #[.bool zw,.bool zu,.bool zx] 40)) w5.heap.size [.bool zw,.bool zu,.bool zx] 40):=⟨below_new (below_then BW.out hb5) _,(BX.out.2.2.below hb5).below (Go.Joins.below_alloc1 _ _),Blk.made w5 [.bool zw,.bool zu,.bool zx] 40⟩
 clear hb5 BX QC4 a0 a1 a2 a3 al y0 y1 y2 y3 y4 y5 yl BW
 go_upto_region 18 with fail
 generalize (w5.alloc (.cells #[.bool zw,.bool zu,.bool zx] 40))=w6 at F6 |-
 generalize w5.heap.size=MM at F6 |-
 have e0:w6.cell? ⟨E,0,none⟩=some (.int .i64 (z1:Nat)):=Blk.cell F6.out.2.1 0
 have e1:w6.cell? ⟨E,1,none⟩=some (.int .i64 zf):=Blk.cell F6.out.2.1 1
 have e2:w6.cell? ⟨E,2,none⟩=some (.bool zw):=Blk.cell F6.out.2.1 2
 have e3:w6.cell? ⟨E,3,none⟩=some (.bool zu):=Blk.cell F6.out.2.1 3
 have e4:w6.cell? ⟨E,4,none⟩=some (.bool zx):=Blk.cell F6.out.2.1 4
 have el:=Blk.lt F6.out.2.1
 have m0:w6.cell? ⟨MM,0,none⟩=some (.bool zw):=Blk.cell F6.out.2.2 0
 have m1:w6.cell? ⟨MM,1,none⟩=some (.bool zu):=Blk.cell F6.out.2.2 1
 have m2:w6.cell? ⟨MM,2,none⟩=some (.bool zx):=Blk.cell F6.out.2.2 2
 have ml:=Blk.lt F6.out.2.2
 have e2':w6.cell? ⟨E,2+1,none⟩=some (.bool zu):=e3
 have e3':w6.cell? ⟨E,2+2,none⟩=some (.bool zx):=e4
 have eq:=eqPermS9
 have q5:(zf==zf)=true:=by simp
 go_quiet (fail)
 go_wp2_with fail
 go_returns
 exact ⟨rfl,below_drewN F6.out.1⟩
set_option maxHeartbeats 4000000 in
theorem does4_false {X:Nat->Prop} {W:World} {m:Pm} (k:Int) (root:Nat) (v:Value) (kd pg fr:Int) (pa pb pc:Bool) (rm:Int) (z1:Nat) (zf:Int) (zw zu zx:Bool) (n1: ¬ kd=1) (n2: ¬ kd=2) (n3: ¬ kd=3)
 (FC:Hid (∀ w:World,Below W.heap.size W w->Calls Tryd.prog 24 #[v,.int .i64 pg] w fun e w'=>e=.returned (.tuple #[.agg (zTJ7a (z1:Nat) zf zw zu zx),.bool false])/\Below w.heap.size w w'))
 (QC:Hid (∀ w:World,Below W.heap.size W w->Calls Tryd.prog 28 #[pv m k,.int .i64 root,.int .i64 pg] w fun e w'=>e=.returned (.tuple #[.int .i64 zf,.agg #[.bool zw,.bool zu,.bool zx],.bool false])/\Below w.heap.size w w')) :
 Calls Tryd.prog 14 #[pv m k,.int .i64 root,v,.agg (zTJ7b kd pg fr pa pb pc),.int .i64 rm] W fun e w'=>e=.returned (.tuple #[v,.bool true])/\Below W.heap.size W w':=by
 have q1:(kd==1)=false:=by simpa using n1
 have q2:(kd==2)=false:=by simpa using n2
 have q3:(kd==3)=false:=by simpa using n3
 have s1:(W.alloc (.cells #[pp m.rb,pp m.b,pp m.tb,.int .i64 k] 27)).heap.size=W.heap.size+1:=World.size_alloc _ _
 have F0:Hid (Below W.heap.size W ((W.alloc (.cells #[pp m.rb,pp m.b,pp m.tb,.int .i64 k] 27)).alloc (.cells (zTJ7b kd pg fr pa pb pc) 42))/\Blk ((W.alloc (.cells #[pp m.rb,pp m.b,pp m.tb,.int .i64 k] 27)).alloc (.cells (zTJ7b kd pg fr pa pb pc) 42)) W.heap.size [pp m.rb,pp m.b,pp m.tb,.int .i64 k] 27/\Blk ((W.alloc (.cells #[pp m.rb,pp m.b,pp m.tb,.int .i64 k] 27)).alloc (.cells (zTJ7b kd pg fr pa pb pc) 42)) (W.heap.size+1) (zTJ7c kd pg fr pa pb pc) 42):=⟨below_then (Go.Joins.below_alloc1 _ _) (Go.Joins.below_alloc1 _ _),(Blk.made W [pp m.rb,pp m.b,pp m.tb,.int .i64 k] 27).below (Go.Joins.below_alloc1 _ _),by rw [<- s1];exact Blk.made _ (zTJ7c kd pg fr pa pb pc) 42⟩
 clear s1
 go_enter Tryd.func14,Tryd.ntmps14
 go_upto_region 1 with fail
 generalize ((W.alloc (.cells #[pp m.rb,pp m.b,pp m.tb,.int .i64 k] 27)).alloc (.cells (zTJ7b kd pg fr pa pb pc) 42))=W1 at F0 |-
 obtain ⟨D,hD⟩: ∃ D,W.heap.size+1=D:=⟨_,rfl⟩
 obtain ⟨A,hA⟩: ∃ A,W.heap.size=A:=⟨_,rfl⟩
 have LO:Hid (W.heap.size<=A/\W.heap.size<=D):=⟨by omega,by omega⟩
 rw [hD,hA] at F0
 rw [hD,hA]
 have BW1:Hid (Below W.heap.size W W1):=by rw [hA];exact F0.out.1
 clear hD hA
 have y0:W1.cell? ⟨D,0,none⟩=some (.int .i64 kd):=Blk.cell F0.out.2.2 0
 have y1:W1.cell? ⟨D,1,none⟩=some (.int .i64 pg):=Blk.cell F0.out.2.2 1
 have y2:W1.cell? ⟨D,2,none⟩=some (.int .i64 fr):=Blk.cell F0.out.2.2 2
 have y3:W1.cell? ⟨D,3,none⟩=some (.bool pa):=Blk.cell F0.out.2.2 3
 have y4:W1.cell? ⟨D,4,none⟩=some (.bool pb):=Blk.cell F0.out.2.2 4
 have y5:W1.cell? ⟨D,5,none⟩=some (.bool pc):=Blk.cell F0.out.2.2 5
 have yl:=Blk.lt F0.out.2.2
 go_wp2_with fail
 refine Calls.mono (FC.out W1 BW1.out) ?_
 rintro e w2 ⟨rfl,hb2⟩
 have FX0:Hid (Below W.heap.size W (w2.alloc (.cells (zTJ7a (z1:Nat) zf zw zu zx) 63))/\Blk (w2.alloc (.cells (zTJ7a (z1:Nat) zf zw zu zx) 63)) A [pp m.rb,pp m.b,pp m.tb,.int .i64 k] 27/\Blk (w2.alloc (.cells (zTJ7a (z1:Nat) zf zw zu zx) 63)) D (zTJ7c kd pg fr pa pb pc) 42/\Blk (w2.alloc (.cells (zTJ7a (z1:Nat) zf zw zu zx) 63)) w2.heap.size (zTJ7d (z1:Nat) zf zw zu zx) 63/\W.heap.size<=w2.heap.size):=⟨below_new (below_then BW1.out hb2) _,(F0.out.2.1.below hb2).below (Go.Joins.below_alloc1 _ _),(F0.out.2.2.below hb2).below (Go.Joins.below_alloc1 _ _),Blk.made w2 (zTJ7d (z1:Nat) zf zw zu zx) 63,Nat.le_trans BW1.out.size hb2.size⟩
 clear hb2 F0 FC BW1 y0 y1 y2 y3 y4 y5 yl
 go_upto_region 2 with fail
 generalize (w2.alloc (.cells (zTJ7a (z1:Nat) zf zw zu zx) 63))=w3 at FX0 |-
 generalize w2.heap.size=E at FX0 |-
 have BX:Hid (Blk w3 A [pp m.rb,pp m.b,pp m.tb,.int .i64 k] 27/\Blk w3 D (zTJ7c kd pg fr pa pb pc) 42/\Blk w3 E (zTJ7d (z1:Nat) zf zw zu zx) 63):=⟨FX0.out.2.1,FX0.out.2.2.1,FX0.out.2.2.2.1⟩
 have BW:Hid (Below W.heap.size W w3):=FX0.out.1
 have LL:Hid (W.heap.size<=A/\W.heap.size<=D/\W.heap.size<=E):=⟨LO.out.1,LO.out.2,FX0.out.2.2.2.2⟩
 clear FX0 LO
 have a0:w3.cell? ⟨A,0,none⟩=some (pp m.rb):=Blk.cell BX.out.1 0
 have a1:w3.cell? ⟨A,1,none⟩=some (pp m.b):=Blk.cell BX.out.1 1
 have a2:w3.cell? ⟨A,2,none⟩=some (pp m.tb):=Blk.cell BX.out.1 2
 have a3:w3.cell? ⟨A,3,none⟩=some (.int .i64 k):=Blk.cell BX.out.1 3
 have al:=Blk.lt BX.out.1
 have y0:w3.cell? ⟨D,0,none⟩=some (.int .i64 kd):=Blk.cell BX.out.2.1 0
 have y1:w3.cell? ⟨D,1,none⟩=some (.int .i64 pg):=Blk.cell BX.out.2.1 1
 have y2:w3.cell? ⟨D,2,none⟩=some (.int .i64 fr):=Blk.cell BX.out.2.1 2
 have y3:w3.cell? ⟨D,3,none⟩=some (.bool pa):=Blk.cell BX.out.2.1 3
 have y4:w3.cell? ⟨D,4,none⟩=some (.bool pb):=Blk.cell BX.out.2.1 4
 have y5:w3.cell? ⟨D,5,none⟩=some (.bool pc):=Blk.cell BX.out.2.1 5
 have yl:=Blk.lt BX.out.2.1
 go_upto_region 17 with fail
 have QC4:Hid _:=QC.out w3 BW.out
 clear QC
 go_wp2_with fail
 refine Calls.mono QC4.out ?_
 rintro e w5 ⟨rfl,hb5⟩
 have F6:Hid (Below W.heap.size W (w5.alloc (.cells #[.bool zw,.bool zu,.bool zx] 40))/\Blk (w5.alloc (.cells #[.bool zw,.bool zu,.bool zx] 40)) E (zTJ7d (z1:Nat) zf zw zu zx) 63/\Blk (w5.alloc (.cells #[.bool zw,.bool zu,.bool zx] 40)) w5.heap.size [.bool zw,.bool zu,.bool zx] 40):=⟨below_new (below_then BW.out hb5) _,(BX.out.2.2.below hb5).below (Go.Joins.below_alloc1 _ _),Blk.made w5 [.bool zw,.bool zu,.bool zx] 40⟩
 clear hb5 BX QC4 a0 a1 a2 a3 al y0 y1 y2 y3 y4 y5 yl BW
 go_upto_region 18 with fail
 generalize (w5.alloc (.cells #[.bool zw,.bool zu,.bool zx] 40))=w6 at F6 |-
 generalize w5.heap.size=MM at F6 |-
 have e0:w6.cell? ⟨E,0,none⟩=some (.int .i64 (z1:Nat)):=Blk.cell F6.out.2.1 0
 have e1:w6.cell? ⟨E,1,none⟩=some (.int .i64 zf):=Blk.cell F6.out.2.1 1
 have e2:w6.cell? ⟨E,2,none⟩=some (.bool zw):=Blk.cell F6.out.2.1 2
 have e3:w6.cell? ⟨E,3,none⟩=some (.bool zu):=Blk.cell F6.out.2.1 3
 have e4:w6.cell? ⟨E,4,none⟩=some (.bool zx):=Blk.cell F6.out.2.1 4
 have el:=Blk.lt F6.out.2.1
 have m0:w6.cell? ⟨MM,0,none⟩=some (.bool zw):=Blk.cell F6.out.2.2 0
 have m1:w6.cell? ⟨MM,1,none⟩=some (.bool zu):=Blk.cell F6.out.2.2 1
 have m2:w6.cell? ⟨MM,2,none⟩=some (.bool zx):=Blk.cell F6.out.2.2 2
 have ml:=Blk.lt F6.out.2.2
 have e2':w6.cell? ⟨E,2+1,none⟩=some (.bool zu):=e3
 have e3':w6.cell? ⟨E,2+2,none⟩=some (.bool zx):=e4
 have eq:=eqPermS9
 have q5:(zf==zf)=true:=by simp
 go_quiet (fail)
 go_wp2_with fail
 go_returns
 exact ⟨rfl,below_drewN F6.out.1⟩
end Go.Proofs.YtkiclbnbnjbcaaaDoor.Tt
namespace Go.Proofs.YtkiclbnbnjbcaaaDoor.Tt
open Go.ChangeShapes Go.WideShapes Go.ChangeAt Go.RowKit Go.Maps
set_option linter.unusedSimpArgs false
set_option linter.unusedVariables false
set_option maxRecDepth 8000
section
variable {X:Nat->Prop} {m:Pm} {root k:Nat} {R U:Int} {F:Nat} {s:Ps} {tab:Nat->Nat->Option Nat} {lf:Nat->Option Lf} {W:World}
def Lst (Y:Nat->Prop) (w:World) (lf:Nat->Option Lf) (v:Value):Prop:= ∃ p c,v=.slice p (lvs lf).length c/\Ld w lf p/\ ∀ g o z,p=some ⟨g,o,z⟩->Y g
theorem Lst.kx {Y:Nat->Prop} {w w':World} {v:Value} (h:Lst Y w lf v) (hk:Kx Y w w'):Lst Y w' lf v:=by
 obtain ⟨p,c,hv,hl,hg⟩:=h
 exact ⟨p,c,hv,hl.kx hk hg,hg⟩
theorem Lst.below {Y:Nat->Prop} {w w':World} {v:Value} (h:Lst Y w lf v) (hb:Below w.heap.size w w'):Lst Y w' lf v:=by
 obtain ⟨p,c,hv,hl,hg⟩:=h
 exact ⟨p,c,hv,hl.below hb,hg⟩
theorem ofi_lst {Y:Nat->Prop} {W w0 w:World} {v:Value} (h:OFI w0 w v (lvs lf)) (bd:Bd0 lf) (le:(pgs lf).length<=1000) (hy: ∀ j,w0.heap.size<=j->j<w.heap.size->Y j):Lst Y w lf v:=by
 obtain ⟨p,c,hv,hl,hg⟩:=ofi_ld h bd le
 exact ⟨p,c,hv,hl,fun g o z e=>hy g (hg g o z e).1 (hg g o z e).2⟩
theorem kx_up {W w w':World} (hp:Pu X W m s) (hb:Below W.heap.size W w) (hk:Kx (XW X W w) w w'):Kx X W w':=(Kx.of_below hp hb).trans (hk.sub (fun j hj=>Or.inl hj))
theorem did_a {lf':Nat->Option Lf} {w w':World} {v':Value} (h:St X m root k R U F s tab lf W) (hb:Below W.heap.size W w) (hl:Lst (XW X W w) w lf' v') (hs:StTo (XW X W w) m root k R U F s tab lf' w w') (hn:(pgs lf').length<=(pgs lf).length+1) (hT:((tabsN (pgs lf):Nat):Int)<=R->((tabsN (pgs lf'):Nat):Int)<=R):Did X m root k R U F s tab lf W v' w':=by
 obtain ⟨s',tab',h',hq,ha,hk⟩:=hs
 exact ⟨XW X W w,s',tab',lf',fun j hj=>Or.inl hj,⟨h',hl.kx hk⟩,hq,hn,ha,kx_up h.pu hb hk,hT⟩
theorem did_b {lf':Nat->Option Lf} {w w5 w':World} {v':Value} (h:St X m root k R U F s tab lf W) (hb:Below W.heap.size W w) (hs:StTo (XW X W w) m root k R U F s tab lf' w w5) (hb5:Below w5.heap.size w5 w') (hl:Lst (XW (XW X W w) w5 w') w' lf' v') (hn:(pgs lf').length<=(pgs lf).length+1) (hT:((tabsN (pgs lf):Nat):Int)<=R->((tabsN (pgs lf'):Nat):Int)<=R):Did X m root k R U F s tab lf W v' w':=by
 obtain ⟨s',tab',h',hq,ha,hk⟩:=hs
 refine ⟨XW (XW X W w) w5 w',s',tab',lf',fun j hj=>Or.inl (Or.inl hj),⟨⟨h'.pu.grow hb5,h'.rt,h'.nm,h'.tF⟩,hl⟩,hq,hn,ha,?_,hT⟩
 exact (kx_up h.pu hb hk).trans ((Kx.of_below h'.pu hb5).sub (fun j hj=>Or.inl hj))
theorem find_yes {p:Option Addr} {c:Nat} (hl:Ld W lf p) {pn:Nat} {v:Lf} (e:lf pn=some v):Hid (∀ w:World,Below W.heap.size W w->Calls Tryd.prog 24 #[.slice p (lvs lf).length c,.int .i64 (pn:Int)] w fun e w'=>e=.returned (.tuple #[.agg #[.int .i64 (pn:Nat),.int .i64 v.f,.bool v.w,.bool v.u,.bool v.x],.bool true])/\Below w.heap.size w w'):=fun w hb=>by
 have q:=(hl.below hb).find c pn
 rw [fndV_some hl.bd e] at q
 exact q
theorem find_not {p:Option Addr} {c:Nat} (hl:Ld W lf p) {pg:Int} (e: ¬ (0<=pg/\pg<34359738368)\/lf pg.toNat=none):Hid (∀ w:World,Below W.heap.size W w->Calls Tryd.prog 24 #[.slice p (lvs lf).length c,.int .i64 pg] w fun e w'=>e=.returned (.tuple #[.agg #[.int .i64 ((0:Nat):Int),.int .i64 0,.bool false,.bool false,.bool false],.bool false])/\Below w.heap.size w w'):=fun w hb=>by
 have q:=(hl.below hb).find c pg
 rw [fndV_none hl.bd e] at q
 exact q
theorem tabs_less (h:Bd0 lf) {p:Nat} {v:Lf} (e:lf p=some v):tabsN (pgs (lfSet lf p none))<=tabsN (pgs lf):=by
 have pm:(pgs lf).Perm (p::pgs (lfSet lf p none)):=by
  refine (List.perm_ext_iff_of_nodup (pgs_nodup _) (List.nodup_cons.2 ⟨fun q=> ?_,pgs_nodup _⟩)).2 (fun q=> ?_)
  . have:=((h.del p).mem p).1 q;rw [lf_same] at this;cases this
  . rw [h.mem,List.mem_cons,(h.del p).mem]
    by_cases c:q=p
    . subst c;rw [e];simp
    . rw [lf_other c];simp [c]
 rw [tabs_perm pm]
 exact Nat.le_add_right _ _
theorem page_or (h:Bd0 lf) (pg:Int):(∃ (pn:Nat) (v:Lf),pg=pn/\pn<34359738368/\lf pn=some v)\/(¬ (0<=pg/\pg<34359738368)\/lf pg.toNat=none):=by
 by_cases hb:0<=pg/\pg<34359738368
 . cases e:lf pg.toNat with
   | none => exact Or.inr (Or.inr rfl)
   | some v => exact Or.inl ⟨pg.toNat, v, by omega, by omega, e⟩
 . exact Or.inr (Or.inl hb)
theorem does_map {v:Value} (h:Sd X m root k R U F s tab lf v W) (hq:s.q<3000000000000000000) (hF:R<=F\/10+tabsN (pgs lf)<=F) (hR:(tabsN (pgs lf):Nat)<=R) (le:(pgs lf).length<1000) (rm:Int) (hrm: ∀ p,rm<(fresh (pgs lf) p:Nat)↔R<(tabsN (pgs lf)+fresh (pgs lf) p:Nat)) (pg fr:Int) (pa pb pc:Bool) :
 Calls Tryd.prog 14 #[pv m k,.int .i64 root,v,.agg #[.int .i64 1,.int .i64 pg,.int .i64 fr,.bool pa,.bool pb,.bool pc],.int .i64 rm] W fun e w'=> ∃ v',e=.returned (.tuple #[v',.bool true])/\Did X m root k R U F s tab lf W v' w':=by
 obtain ⟨st,p,c,hv,hl,hg⟩:=h
 subst hv
 have up: ∀ w:World,Below W.heap.size W w->Lst (XW X W w) w lf (.slice p (lvs lf).length c):=fun w hb=>⟨p,c,rfl,hl.below hb,fun g o z e=>Or.inl (hg g o z e)⟩
 have stay: ∀ (f:Int),(∀ w:World,Below W.heap.size W w->Calls Tryd.prog 39 #[.slice p (lvs lf).length c,.agg #[.int .i64 1,.int .i64 pg,.int .i64 fr,.bool pa,.bool pb,.bool pc],.int .i64 rm] w fun e w'=>e=.returned (.tuple #[.slice p (lvs lf).length c,.int .i64 f])/\Below w.heap.size w w') ->
  (∀ w:World,Below W.heap.size W w->Calls Tryd.prog 26 #[pv m k,.int .i64 root,.int .i64 pg,.int .i64 fr,.agg #[.bool pa,.bool pb,.bool pc]] w fun e w'=>e=.returned (.int .i64 f)/\StTo (XW X W w) m root k R U F s tab lf w w') ->
  Calls Tryd.prog 14 #[pv m k,.int .i64 root,.slice p (lvs lf).length c,.agg #[.int .i64 1,.int .i64 pg,.int .i64 fr,.bool pa,.bool pb,.bool pc],.int .i64 rm] W fun e w'=> ∃ v',e=.returned (.tuple #[v',.bool true])/\Did X m root k R U F s tab lf W v' w':=fun f c1 c2=>by
  have MPC:Hid (∀ w:World,Below W.heap.size W w->Calls Tryd.prog 39 #[.slice p (lvs lf).length c,.agg #[.int .i64 1,.int .i64 pg,.int .i64 fr,.bool pa,.bool pb,.bool pc],.int .i64 rm] w fun e w'=> ∃ vm,e=.returned (.tuple #[vm,.int .i64 f])/\Below w.heap.size w w'/\vm=.slice p (lvs lf).length c):=fun w hb=>by
   refine (c1 w hb).mono ?_
   rintro e w' ⟨he,hb'⟩
   exact ⟨_,he,hb',rfl⟩
  have MC:Hid (∀ (w:World) (vm:Value),Below W.heap.size W w->vm=.slice p (lvs lf).length c->Calls Tryd.prog 26 #[pv m k,.int .i64 root,.int .i64 pg,.int .i64 fr,.agg #[.bool pa,.bool pb,.bool pc]] w fun e w'=>e=.returned (.int .i64 f)/\(vm=.slice p (lvs lf).length c/\StTo (XW X W w) m root k R U F s tab lf w w')):=fun w vm hb hvm=>by
   refine (c2 w hb).mono ?_
   rintro e w' ⟨he,hs⟩
   exact ⟨he,hvm,hs⟩
  rcases page_or hl.bd pg with ⟨pn,u,rfl,hp,hu⟩ | hno
  . refine (does1_true (X:=X) k root _ pn fr pa pb pc rm pn u.f u.w u.u u.x f (fun vm _=>vm=.slice p (lvs lf).length c) (fun vm w w'=>vm=.slice p (lvs lf).length c/\StTo (XW X W w) m root k R U F s tab lf w w') (find_yes hl hu) MPC MC).mono ?_
    rintro e w' ⟨vm,he,w4,hb4,rfl,hs⟩
    exact ⟨_,he,did_a st hb4 (up w4 hb4) hs (by omega) (fun q=>q)⟩
  . refine (does1_false (X:=X) k root _ pg fr pa pb pc rm 0 0 false false false f (fun vm _=>vm=.slice p (lvs lf).length c) (fun vm w w'=>vm=.slice p (lvs lf).length c/\StTo (XW X W w) m root k R U F s tab lf w w') (find_not hl hno) MPC MC).mono ?_
    rintro e w' ⟨vm,he,w4,hb4,rfl,hs⟩
    exact ⟨_,he,did_a st hb4 (up w4 hb4) hs (by omega) (fun q=>q)⟩
 by_cases hb:0<=pg/\pg<34359738368/\0<=fr/\fr<1048576
 rotate_left
 . exact stay 1 (fun w _=>mapped_bad _ 1 pg fr pa pb pc rm w hb) (fun w hw=>(st.grow hw).map_arg pg fr pa pb pc hb)
 obtain ⟨p0,p1,f0,f1⟩:=hb
 obtain ⟨pn,rfl⟩:=Int.eq_ofNat_of_zero_le p0
 have hp:pn<34359738368:=by omega
 cases ht:lf pn with
 | some u => exact stay 6 (fun w hw => mapped_there (hl.below hw) c 1 fr pn pa pb pc rm hp ⟨f0, f1⟩ ht) (fun w hw => (st.grow hw).map_there pn hp fr ⟨f0, f1⟩ pa pb pc ht)
 | none =>
  by_cases hz:rm<(fresh (pgs lf) pn:Nat)
  . exact stay 8 (fun w hw=>mapped_full (hl.below hw) c 1 fr pn pa pb pc rm hp ⟨f0,f1⟩ ht le hz) (fun w hw=>(st.grow hw).map_full hF pn hp fr ⟨f0,f1⟩ pa pb pc ht hR ((hrm pn).1 hz))
  . have hz':(tabsN (pgs lf)+fresh (pgs lf) pn:Nat)<=R:=Int.not_lt.1 (fun q=>hz ((hrm pn).2 q))
    have bd':=hl.bd.put hp ⟨fr,pa,pb,pc⟩
    have ln:=(pgs_more0 hl.bd hp ht ⟨fr,pa,pb,pc⟩).length_eq
    rw [List.length_cons] at ln
    have MPC:Hid (∀ w:World,Below W.heap.size W w->Calls Tryd.prog 39 #[.slice p (lvs lf).length c,.agg #[.int .i64 1,.int .i64 (pn:Int),.int .i64 fr,.bool pa,.bool pb,.bool pc],.int .i64 rm] w fun e w'=> ∃ vm,e=.returned (.tuple #[vm,.int .i64 0])/\Below w.heap.size w w'/\Lst (XW X W w') w' (lfSet lf pn (some ⟨fr,pa,pb,pc⟩)) vm):=fun w hw=>by
     refine (mapped_more (hl.below hw) c 1 fr pn pa pb pc rm hp ⟨f0,f1⟩ ht le (by omega)).mono ?_
     rintro e w' ⟨v',he,ho⟩
     exact ⟨v',he,ho.bel,ofi_lst (W:=W) ho bd' (by omega) (fun j a b=>Or.inr ⟨Nat.le_trans hw.size a,b⟩)⟩
    have MC:Hid (∀ (w:World) (vm:Value),Below W.heap.size W w->Lst (XW X W w) w (lfSet lf pn (some ⟨fr,pa,pb,pc⟩)) vm->Calls Tryd.prog 26 #[pv m k,.int .i64 root,.int .i64 (pn:Int),.int .i64 fr,.agg #[.bool pa,.bool pb,.bool pc]] w fun e w'=>e=.returned (.int .i64 0)/\(Lst (XW X W w) w (lfSet lf pn (some ⟨fr,pa,pb,pc⟩)) vm/\StTo (XW X W w) m root k R U F s tab (lfSet lf pn (some ⟨fr,pa,pb,pc⟩)) w w')):=fun w vm hw hL=>by
     refine ((st.grow hw).map_ok hF (by omega) pn hp fr ⟨f0,f1⟩ pa pb pc ht hz').mono ?_
     rintro e w' ⟨he,hs⟩
     exact ⟨he,hL,hs⟩
    refine (does1_false (X:=X) k root _ pn fr pa pb pc rm 0 0 false false false 0 (fun vm w=>Lst (XW X W w) w (lfSet lf pn (some ⟨fr,pa,pb,pc⟩)) vm) (fun vm w w'=>Lst (XW X W w) w (lfSet lf pn (some ⟨fr,pa,pb,pc⟩)) vm/\StTo (XW X W w) m root k R U F s tab (lfSet lf pn (some ⟨fr,pa,pb,pc⟩)) w w') (find_not hl (Or.inr (by rw [Int.toNat_natCast];exact ht))) MPC MC).mono ?_
    rintro e w' ⟨vm,he,w4,hb4,hL,hs⟩
    exact ⟨_,he,did_a st hb4 hL hs (by omega) (fun _=>by rw [(tabs_perm (pgs_more0 hl.bd hp ht ⟨fr,pa,pb,pc⟩))];exact hz')⟩
theorem does_unmap {v:Value} (h:Sd X m root k R U F s tab lf v W) (hU:0<=U) (hq:s.q<3000000000000000000) (rm:Int) (pg fr:Int) (pa pb pc:Bool) :
 Calls Tryd.prog 14 #[pv m k,.int .i64 root,v,.agg #[.int .i64 2,.int .i64 pg,.int .i64 fr,.bool pa,.bool pb,.bool pc],.int .i64 rm] W fun e w'=> ∃ v',e=.returned (.tuple #[v',.bool true])/\Did X m root k R U F s tab lf W v' w':=by
 obtain ⟨st,p,c,hv,hl,hg⟩:=h
 subst hv
 have up: ∀ w:World,Below W.heap.size W w->Lst (XW X W w) w lf (.slice p (lvs lf).length c):=fun w hb=>⟨p,c,rfl,hl.below hb,fun g o z e=>Or.inl (hg g o z e)⟩
 have wc: ∀ (lf':Nat->Option Lf),wo (lvs lf) pg=lvs lf'->Bd0 lf'->(pgs lf').length<=1000->Hid (∀ (w w5 Y:World),(StTo (XW X W w) m root k R U F s tab lf' w w5/\Lst (XW X W w) w5 lf (.slice p (lvs lf).length c))->Below w5.heap.size w5 Y->Calls Tryd.prog 40 #[.slice p (lvs lf).length c,.int .i64 pg] Y fun e w'=> ∃ v',e=.returned v'/\Below Y.heap.size Y w'/\(StTo (XW X W w) m root k R U F s tab lf' w w5/\Below w5.heap.size w5 w'/\Lst (XW (XW X W w) w5 w') w' lf' v')):=fun lf' hw bd' le' w w5 Y ⟨hs,hL⟩ hY=>by
  obtain ⟨p',c',e',hl',_⟩:=hL.below hY
  cases e'
  refine (rwithout_c p c (lvs lf) (by rw [lvs_len];have:=hl.le;omega) pg Y hl'.is).mono ?_
  rintro e w' ⟨v',he,ho⟩
  rw [hw] at ho
  refine ⟨v',he,ho.bel,hs,below_then hY ho.bel,ofi_lst (W:=W) ho bd' le' (fun j a b=>Or.inr ⟨Nat.le_trans hY.size a,b⟩)⟩
 rcases page_or hl.bd pg with ⟨pn,u,rfl,hp,hu⟩ | hno
 . have UC:Hid (∀ w:World,Below W.heap.size W w->Calls Tryd.prog 27 #[pv m k,.int .i64 root,.int .i64 (pn:Int)] w fun e w'=>e=.returned (.tuple #[.int .i64 u.f,.int .i64 0])/\Kx (XW X W w) w w'/\(StTo (XW X W w) m root k R U F s tab (lfSet lf pn none) w w'/\Lst (XW X W w) w' lf (.slice p (lvs lf).length c))):=fun w hb=>by
    refine ((st.grow hb).unmap_ok hU (by omega) pn hu).mono ?_
    rintro e w' ⟨he,s',tab',h',hq',ha,hk⟩
    exact ⟨he,hk,⟨s',tab',h',hq',ha,hk⟩,(up w hb).kx hk⟩
   have ln:(pgs (lfSet lf pn none)).length<=(pgs lf).length:=by
    rw [<- lvs_len,<- lvs_len,<- wo_lvs hl.bd pn]
    exact wo_len _ _
   have q:=does2_true (X:=X) k root _ pn fr pa pb pc rm pn u.f u.w u.u u.x _ _ (find_yes hl hu) UC (wc _ (wo_lvs hl.bd pn) (hl.bd.del pn) (by have:=hl.le;omega))
   refine q.mono ?_
   rintro e w' ⟨vm,he,w4,w5,hb4,hs,hb5,hL⟩
   exact ⟨vm,he,did_b st hb4 hs hb5 hL (by omega) (fun q=>by have:=tabs_less hl.bd hu;omega)⟩
 . have UC:Hid (∀ w:World,Below W.heap.size W w->Calls Tryd.prog 27 #[pv m k,.int .i64 root,.int .i64 pg] w fun e w'=>e=.returned (.tuple #[.int .i64 0,.int .i64 5])/\Kx (XW X W w) w w'/\(StTo (XW X W w) m root k R U F s tab lf w w'/\Lst (XW X W w) w' lf (.slice p (lvs lf).length c))):=fun w hb=>by
    refine ((st.grow hb).unmap_none pg hno).mono ?_
    rintro e w' ⟨he,s',tab',h',hq',ha,hk⟩
    exact ⟨he,hk,⟨s',tab',h',hq',ha,hk⟩,(up w hb).kx hk⟩
   have wa:wo (lvs lf) pg=lvs lf:=wo_all (fun x hx q=>by
    have mm:=(lvs_mem hl.bd x).1 hx
    have b:=hl.bd _ _ mm
    rcases hno with e | e
    . omega
    . rw [<- q,Int.toNat_natCast,mm] at e;cases e)
   have q:=does2_false (X:=X) k root _ pg fr pa pb pc rm 0 0 false false false _ _ (find_not hl hno) UC (wc _ wa hl.bd hl.le)
   refine q.mono ?_
   rintro e w' ⟨vm,he,w4,w5,hb4,hs,hb5,hL⟩
   exact ⟨vm,he,did_b st hb4 hs hb5 hL (by omega) (fun q=>q)⟩
theorem does_protect {v:Value} (h:Sd X m root k R U F s tab lf v W) (hq:s.q<3000000000000000000) (rm:Int) (pg fr:Int) (pa pb pc:Bool) :
 Calls Tryd.prog 14 #[pv m k,.int .i64 root,v,.agg #[.int .i64 3,.int .i64 pg,.int .i64 fr,.bool pa,.bool pb,.bool pc],.int .i64 rm] W fun e w'=> ∃ v',e=.returned (.tuple #[v',.bool true])/\Did X m root k R U F s tab lf W v' w':=by
 obtain ⟨st,p,c,hv,hl,hg⟩:=h
 subst hv
 have up: ∀ w:World,Below W.heap.size W w->Lst (XW X W w) w lf (.slice p (lvs lf).length c):=fun w hb=>⟨p,c,rfl,hl.below hb,fun g o z e=>Or.inl (hg g o z e)⟩
 rcases page_or hl.bd pg with ⟨pn,u,rfl,hp,hu⟩ | hno
 . obtain ⟨lf',hlf'⟩: ∃ lf',lf'=lfSet lf pn (some ⟨u.f,pa,pb,pc⟩):=⟨_,rfl⟩
   have bd':Bd0 lf':=by rw [hlf'];exact hl.bd.put hp _
   have pe:pgs lf'=pgs lf:=by rw [hlf'];exact pgs_set hu
   have wl:wth (lvs (lfSet lf pn none)) (pn,⟨u.f,pa,pb,pc⟩)=lvs lf':=by
    rw [with_lvs (hl.bd.del pn) hp (lf_same _ _ _),lf_twice,hlf']
   have ln:(lvs (lfSet lf pn none)).length<=1000:=by
    rw [<- wo_lvs hl.bd pn]
    refine Nat.le_trans (wo_len _ _) ?_
    rw [lvs_len];exact hl.le
   have PRC:Hid (∀ w:World,Below W.heap.size W w->Calls Tryd.prog 41 #[pv m k,.int .i64 root,.int .i64 (pn:Int),.agg #[.bool pa,.bool pb,.bool pc]] w fun e w'=>e=.returned (.int .i64 0)/\Kx (XW X W w) w w'/\(StTo (XW X W w) m root k R U F s tab lf' w w'/\Lst (XW X W w) w' lf (.slice p (lvs lf).length c))):=fun w hb=>by
    have q:=(st.grow hb).protect_ok (by omega) pn pa pb pc hu
    rw [<- hlf'] at q
    refine q.mono ?_
    rintro e w' ⟨he,s',tab',h',hq',ha,hk⟩
    exact ⟨he,hk,⟨s',tab',h',hq',ha,hk⟩,(up w hb).kx hk⟩
   have WC:Hid (∀ (w w5 Y:World),(StTo (XW X W w) m root k R U F s tab lf' w w5/\Lst (XW X W w) w5 lf (.slice p (lvs lf).length c))->Below w5.heap.size w5 Y->Calls Tryd.prog 40 #[.slice p (lvs lf).length c,.int .i64 (pn:Int)] Y fun e w'=> ∃ v',e=.returned v'/\Below Y.heap.size Y w'/\(StTo (XW X W w) m root k R U F s tab lf' w w5/\Below w5.heap.size w5 w'/\ ∃ p' c',v'=.slice p' (lvs (lfSet lf pn none)).length c'/\IsF w' p' (lvs (lfSet lf pn none)))):=fun w w5 Y ⟨hs,hL⟩ hY=>by
    obtain ⟨p',c',e',hl',_⟩:=hL.below hY
    cases e'
    refine (rwithout_c p c (lvs lf) (by rw [lvs_len];have:=hl.le;omega) pn Y hl'.is).mono ?_
    rintro e w' ⟨v',he,ho⟩
    rw [wo_lvs hl.bd pn] at ho
    obtain ⟨p',c',hv',_,hF,_⟩:=of_read ho.own
    exact ⟨v',he,ho.bel,hs,below_then hY ho.bel,p',c',hv',hF⟩
   have IC:Hid (∀ (w w5:World) (v1:Value) (Y:World),(StTo (XW X W w) m root k R U F s tab lf' w w5/\Below w5.heap.size w5 Y/\ ∃ p' c',v1=.slice p' (lvs (lfSet lf pn none)).length c'/\IsF Y p' (lvs (lfSet lf pn none)))->Calls Tryd.prog 42 #[v1,.agg #[.int .i64 (pn:Int),.int .i64 u.f,.bool pa,.bool pb,.bool pc]] Y fun e w'=> ∃ v',e=.returned v'/\Below Y.heap.size Y w'/\(StTo (XW X W w) m root k R U F s tab lf' w w5/\Below w5.heap.size w5 w'/\Lst (XW (XW X W w) w5 w') w' lf' v')):=fun w w5 v1 Y ⟨hs,hY,p',c',hv1,hF⟩=>by
    subst hv1
    have q:=rwith_c p' c' (lvs (lfSet lf pn none)) (by omega) (pn,⟨u.f,pa,pb,pc⟩) Y hF
    refine Calls.mono q ?_
    rintro e w' ⟨v',he,ho⟩
    rw [wl] at ho
    exact ⟨v',he,ho.bel,hs,below_then hY ho.bel,ofi_lst (W:=W) ho bd' (by rw [pe];exact hl.le) (fun j a b=>Or.inr ⟨Nat.le_trans hY.size a,b⟩)⟩
   have q:=does3_true (X:=X) k root _ pn fr pa pb pc rm pn u.f u.w u.u u.x _ _ _ (find_yes hl hu) PRC WC IC
   refine q.mono ?_
   rintro e w' ⟨vm,he,w4,w5,hb4,hs,hb5,hL⟩
   exact ⟨vm,he,did_b st hb4 hs hb5 hL (by rw [pe];omega) (fun q=>by rw [pe];exact q)⟩
 . have PRC:Hid (∀ w:World,Below W.heap.size W w->Calls Tryd.prog 41 #[pv m k,.int .i64 root,.int .i64 pg,.agg #[.bool pa,.bool pb,.bool pc]] w fun e w'=>e=.returned (.int .i64 5)/\StTo (XW X W w) m root k R U F s tab lf w w'):=fun w hb=>(st.grow hb).protect_none pg pa pb pc hno
   have q:=does3_false (X:=X) k root (.slice p (lvs lf).length c) pg fr pa pb pc rm 0 0 false false false _ (find_not hl hno) PRC
   refine q.mono ?_
   rintro e w' ⟨he,w4,hb4,hs⟩
   exact ⟨_,he,did_a st hb4 (up w4 hb4) hs (by omega) (fun q=>q)⟩
theorem does_query {v:Value} (h:Sd X m root k R U F s tab lf v W) (rm:Int) (kd pg fr:Int) (pa pb pc:Bool) (n1: ¬ kd=1) (n2: ¬ kd=2) (n3: ¬ kd=3) :
 Calls Tryd.prog 14 #[pv m k,.int .i64 root,v,.agg #[.int .i64 kd,.int .i64 pg,.int .i64 fr,.bool pa,.bool pb,.bool pc],.int .i64 rm] W fun e w'=> ∃ v',e=.returned (.tuple #[v',.bool true])/\Did X m root k R U F s tab lf W v' w':=by
 obtain ⟨st,p,c,hv,hl,hg⟩:=h
 subst hv
 have fin: ∀ w':World,Below W.heap.size W w'->Did X m root k R U F s tab lf W (.slice p (lvs lf).length c) w':=fun w' hb=>⟨X,s,tab,lf,fun j hj=>hj,⟨st.below hb,p,c,rfl,hl.below hb,hg⟩,by omega,by omega,Apt.refl _ _,Kx.of_below st.pu hb,fun q=>q⟩
 rcases page_or hl.bd pg with ⟨pn,u,rfl,hp,hu⟩ | hno
 . have QC:Hid (∀ w:World,Below W.heap.size W w->Calls Tryd.prog 28 #[pv m k,.int .i64 root,.int .i64 (pn:Int)] w fun e w'=>e=.returned (.tuple #[.int .i64 u.f,.agg #[.bool u.w,.bool u.u,.bool u.x],.bool true])/\Below w.heap.size w w'):=fun w hb=>by
    have q:=query_any (st.below hb).pu st.rt k pn
    rw [hu] at q
    exact q
   have q:=does4_true (X:=X) k root (.slice p (lvs lf).length c) kd pn fr pa pb pc rm pn u.f u.w u.u u.x n1 n2 n3 (find_yes hl hu) QC
   refine q.mono ?_
   rintro e w' ⟨he,hb⟩
   exact ⟨_,he,fin w' hb⟩
 . have QC:Hid (∀ w:World,Below W.heap.size W w->Calls Tryd.prog 28 #[pv m k,.int .i64 root,.int .i64 pg] w fun e w'=>e=.returned (.tuple #[.int .i64 0,.agg #[.bool false,.bool false,.bool false],.bool false])/\Below w.heap.size w w'):=fun w hb=>by
    by_cases hv:0<=pg/\pg<34359738368
    . obtain ⟨pn,rfl⟩:=Int.eq_ofNat_of_zero_le hv.1
      have e':lf pn=none:=by
       rcases hno with e | e
       . exact absurd hv e
       . rw [Int.toNat_natCast] at e;exact e
      have q:=query_any (st.below hb).pu st.rt k pn
      rw [e'] at q
      exact q
    . exact query_bad m k root pg hv w
   have q:=does4_false (X:=X) k root (.slice p (lvs lf).length c) kd pg fr pa pb pc rm 0 0 false false false n1 n2 n3 (find_not hl hno) QC
   refine q.mono ?_
   rintro e w' ⟨he,hb⟩
   exact ⟨_,he,fin w' hb⟩
theorem does_any {v:Value} (h:Sd X m root k R U F s tab lf v W) (hU:0<=U) (hq:s.q<3000000000000000000) (hF:R<=F\/10+tabsN (pgs lf)<=F) (hR:(tabsN (pgs lf):Nat)<=R) (le:(pgs lf).length<1000) (rm:Int) (hrm: ∀ p,rm<(fresh (pgs lf) p:Nat)↔R<(tabsN (pgs lf)+fresh (pgs lf) p:Nat)) (kd pg fr:Int) (pa pb pc:Bool) :
 Calls Tryd.prog 14 #[pv m k,.int .i64 root,v,.agg #[.int .i64 kd,.int .i64 pg,.int .i64 fr,.bool pa,.bool pb,.bool pc],.int .i64 rm] W fun e w'=> ∃ v',e=.returned (.tuple #[v',.bool true])/\Did X m root k R U F s tab lf W v' w':=by
 by_cases n1:kd=1
 . subst n1;exact does_map h hq hF hR le rm hrm pg fr pa pb pc
 by_cases n2:kd=2
 . subst n2;exact does_unmap h hU hq rm pg fr pa pb pc
 by_cases n3:kd=3
 . subst n3;exact does_protect h hq rm pg fr pa pb pc
 exact does_query h rm kd pg fr pa pb pc n1 n2 n3
end
end Go.Proofs.YtkiclbnbnjbcaaaDoor.Tt
