import Derived.Test.YtokpmclmdobgeaaGreatJGe
import Derived.Test.YtokpmclmdobgeaaGreatKZe
import Derived.RegionTactic
import Derived.BigRegion
import Derived.Deep.DeepCutAuto
set_option linter.unusedSimpArgs false
set_option linter.unusedVariables false
set_option maxRecDepth 8000
set_option maxHeartbeats 8000000
namespace Go.Proofs.YtokpmclmdobgeaaGreat.Re
open Go.ChangeShapes Go.WideShapes Go.ChangeAt Go.RowKit Go.Maps
theorem min_pat {P:Program} {ops:Array Oper} {rest:List Oper} {ty t:TypeId} {x y:Operand} {q:Tmp} {pos:String} {af:Array Edge} {a:Act} {w:World} {Q:Exit->Act->World->Prop} (u v z:Int) (hz:min u v=z) (hx:a.eval x=.int .i64 u) (hy:a.eval y=.int .i64 v)
 (h:wpList P ops Q rest (a.put (some q) (.int .i64 z)) w):wpList P ops Q ({ dst:=some q,op:=.call { callee:=.builtin .min,args:= #[x,y],argTypes:= #[ty,ty] },type:=t,pos:=pos,after:=af,guard:=none }::rest) a w:=by
 refine wpList_plain rfl fun K hK=> ?_
 subst hz
 unfold Oper.wp execOp
 rcases min_cases u v with ⟨c,e⟩ | ⟨c,e⟩
 . rw [e] at h
   simp only [resolve,invoke,builtin,Sem.run_bind,Sem.run_pure,Result.andThen_ok,List.map_toArray,List.map_cons,List.map_nil,hx,hy]
   go_simp
   first | exact hK _ _ h | (split <;> first | exact hK _ _ h | (exfalso;omega))
 . rw [e] at h
   simp only [resolve,invoke,builtin,Sem.run_bind,Sem.run_pure,Result.andThen_ok,List.map_toArray,List.map_cons,List.map_nil,hx,hy]
   go_simp
   first | exact hK _ _ h | (split <;> first | exact hK _ _ h | (exfalso;omega))
theorem max_pat {P:Program} {ops:Array Oper} {rest:List Oper} {ty t:TypeId} {x y:Operand} {q:Tmp} {pos:String} {af:Array Edge} {a:Act} {w:World} {Q:Exit->Act->World->Prop} (u v z:Int) (hz:max u v=z) (hx:a.eval x=.int .i64 u) (hy:a.eval y=.int .i64 v)
 (h:wpList P ops Q rest (a.put (some q) (.int .i64 z)) w):wpList P ops Q ({ dst:=some q,op:=.call { callee:=.builtin .max,args:= #[x,y],argTypes:= #[ty,ty] },type:=t,pos:=pos,after:=af,guard:=none }::rest) a w:=by
 refine wpList_plain rfl fun K hK=> ?_
 subst hz
 unfold Oper.wp execOp
 rcases max_cases u v with ⟨c,e⟩ | ⟨c,e⟩
 . rw [e] at h
   simp only [resolve,invoke,builtin,Sem.run_bind,Sem.run_pure,Result.andThen_ok,List.map_toArray,List.map_cons,List.map_nil,hx,hy]
   go_simp
   first | exact hK _ _ h | (split <;> first | exact hK _ _ h | (exfalso;omega))
 . rw [e] at h
   simp only [resolve,invoke,builtin,Sem.run_bind,Sem.run_pure,Result.andThen_ok,List.map_toArray,List.map_cons,List.map_nil,hx,hy]
   go_simp
   first | exact hK _ _ h | (split <;> first | exact hK _ _ h | (exfalso;omega))
theorem cut_cl (r:Rg) (w:World):Calls Tryz.prog 99 #[r.val] w fun e w'=>e=.returned Rg.zero.val/\bc w w':=by
 obtain ⟨r1,r2,r3,r4,r5,r6⟩:=r
 go_enter Tryz.func99,Tryz.ntmps99
 go_wp2
 go_returns
 exact ⟨rfl,Go.Joins.below_alloc2 _ _ _⟩
def Rg.may (r:Rg) (a b c:Bool):Rg:=⟨r.fr,r.tt,a,b,c,r.kd⟩
def IsPm (w:World) (B:Nat) (a b c:Bool):Prop:=w.cell? ⟨B,0,none⟩=some (.bool a)/\w.cell? ⟨B,1,none⟩=some (.bool b)/\w.cell? ⟨B,2,none⟩=some (.bool c)
theorem IsPm.low {w w':World} {n B:Nat} {a b c:Bool} (h:IsPm w B a b c) (hB:B<n) (hb:Below n w w'):IsPm w' B a b c:=⟨(hb.cell (p:=⟨B,0,none⟩) hB).trans h.1,(hb.cell (p:=⟨B,1,none⟩) hB).trans h.2.1,(hb.cell (p:=⟨B,2,none⟩) hB).trans h.2.2⟩
theorem prot_cl (r:Rg) (B:Nat) (a b c:Bool) (w:World) (hp:IsPm w B a b c) (lB:B<w.heap.size):Calls Tryz.prog 102 #[r.val,.pointer (some ⟨B,0,none⟩)] w fun e w'=>e=.returned (r.may a b c).val/\bc w w':=by
 obtain ⟨r1,r2,r3,r4,r5,r6⟩:=r
 obtain ⟨h0,h1,h2⟩:=hp
 go_enter Tryz.func102,Tryz.ntmps102
 go_wp2
 go_returns
 exact ⟨rfl,Go.Joins.below_alloc2 _ _ _⟩
def Rg.mid (r:Rg) (f t:Int):Rg:=⟨max r.fr f,min r.tt t,r.w,r.u,r.x,r.kd⟩
def Rg.from (r:Rg) (t:Int):Rg:=⟨t,r.tt,r.w,r.u,r.x,r.kd⟩
def part (G:Rg->Rg) (f t:Int) (M:List Rg) (r:Rg):List Rg:=withL (withL (withL M (r.upto (min r.tt f))) (G (r.mid f t))) (r.from (max r.fr t))
def chg (G:Rg->Rg) (f t:Int) (L:List Rg):List Rg:=L.foldl (part G f t) []
theorem chg_next (G:Rg->Rg) (f t:Int) (L:List Rg) (m:Nat) (h:m<L.length):chg G f t (L.take (m+1))=part G f t (chg G f t (L.take m)) (L.getD m Rg.zero):=by
 unfold chg;rw [takeR_next L m h,List.foldl_append];rfl
theorem part_len (G:Rg->Rg) (f t:Int) (M:List Rg) (r:Rg):(part G f t M r).length<=M.length+3:=by
 unfold part
 have h1:=withL_len M (r.upto (min r.tt f))
 have h2:=withL_len (withL M (r.upto (min r.tt f))) (G (r.mid f t))
 have h3:=withL_len (withL (withL M (r.upto (min r.tt f))) (G (r.mid f t))) (r.from (max r.fr t))
 omega
theorem chg_len (G:Rg->Rg) (f t:Int) (L:List Rg): ∀ m,m<=L.length->(chg G f t (L.take m)).length<=3*m
 | 0, _ => by simp [chg]
 | m + 1, h => by
  rw [chg_next G f t L m (by omega)]
  have h1:=chg_len G f t L m (by omega)
  have h2:=part_len G f t (chg G f t (L.take m)) (L.getD m Rg.zero)
  omega
def Res (w':World) (base:Nat) (v:Value) (er:Int) (M:List Rg):Prop:=(M.length<=64/\er=0/\OwnL w' base v M)\/(64<M.length/\er=4/\v=.slice none 0 0)
theorem WithK.block {w w':World} {v v':Value} (h:WithK w w' v v') (k:Nat) (hk:k<w.heap.size) (hv:v.ownBlock≠some k):w'.heap[k]? =w.heap[k]? :=h.1.block k hk (fun e=>hv e.symm)
theorem WithK.ne {w w':World} {v v':Value} (h:WithK w w' v v') (k:Nat) (hk:k<w.heap.size) (hv:v.ownBlock≠some k):v'.ownBlock≠some k:=by
 rcases h.2 with e | ⟨j,hj,e⟩
 . rw [e];exact hv
 . rw [e];intro q;have:=sia q;omega
theorem WithK.below {w w':World} {v v':Value} {b:Nat} {L:List Rg} (h:WithK w w' v v') (ho:OwnL w b v L) (hb:b<=w.heap.size):Below b w w':=⟨h.1.os,h.1.tape,h.1.output,h.1.size,fun k hk=>h.1.block k (by omega) (fun e=>by have:=World.ownsRow.lt ho k e.symm;omega)⟩
theorem blk_ne {w:World} {b c k:Nat} {v:Value} {L:List Rg} (ho:OwnL w b v L) (hk:w.heap.size<=k):v.ownBlock≠some k:=fun e=>by have:=(World.ownsRow.lt ho k e).2;omega
theorem set_block {w:World} {b o k:Nat} {v:Value} (h:k≠b):(w.setCell ⟨b,o,none⟩ v).heap[k]? =w.heap[k]? :=Below.heap_setCell w ⟨b,o,none⟩ v k h
theorem set_same {w:World} {b o:Nat} {v:Value} {cs cs':Array Value} {t:TypeId} (h:w.heap[b]? =some (.cells cs t (0,0))) (e:cs.setIfInBounds o v=cs'):(w.setCell ⟨b,o,none⟩ v).heap[b]? =some (.cells cs' t (0,0)):=by rw [<- e];exact Go.Joins.block_setCell h v
theorem four_block (u:World) (o:Obj) (k:Nat) (h1:u.heap.size<=k) (h2:k<=u.heap.size+3):(((((u.alloc o).alloc o).alloc o).alloc o).drew).heap[k]? =some o:=by
 have s1:(u.alloc o).heap.size=u.heap.size+1:=World.size_alloc _ _
 have s2:((u.alloc o).alloc o).heap.size=u.heap.size+1+1:=ku
 have s3:(((u.alloc o).alloc o).alloc o).heap.size=u.heap.size+1+1+1:=by rw [World.size_alloc,s2]
 show ((((u.alloc o).alloc o).alloc o).alloc o).heap[k]? =some o
 by_cases c3:k=u.heap.size+3
 . have:=own1 (((u.alloc o).alloc o).alloc o) o
   rw [s3] at this;rw [c3];exact this
 rw [(Go.Joins.below_alloc1 (((u.alloc o).alloc o).alloc o) o).block k (by omega)]
 by_cases c2:k=u.heap.size+2
 . have:=own1 ((u.alloc o).alloc o) o
   rw [s2] at this;rw [c2];exact this
 rw [(Go.Joins.below_alloc1 ((u.alloc o).alloc o) o).block k (by omega)]
 by_cases c1:k=u.heap.size+1
 . have:=own1 (u.alloc o) o
   rw [s1] at this;rw [c1];exact this
 rw [(Go.Joins.below_alloc1 (u.alloc o) o).block k (by omega)]
 have:k=u.heap.size:=by omega
 rw [this];exact own1 u o
theorem blk_lt {w:World} {b:Nat} {o:Obj} (h:w.heap[b]? =some o):b<w.heap.size:=(Array.getElem?_eq_some_iff.1 h).1
theorem good_at {L:List Rg} (h:goodB L=true):L.length<=64/\ ∀ i,i<L.length->(0<=(L.getD i Rg.zero).fr/\(L.getD i Rg.zero).fr<(L.getD i Rg.zero).tt/\(L.getD i Rg.zero).tt<=34359738368)/\(i+1<L.length->(L.getD i Rg.zero).tt<=(L.getD (i+1) Rg.zero).fr/\(L.getD i Rg.zero).joins (L.getD (i+1) Rg.zero)=false):=by
 unfold goodB at h
 rw [Bool.and_eq_true,allB_iff] at h
 obtain ⟨h1,h2⟩:=h
 have e: ∀ i,i<L.length->endAt L i<=(L.getD i Rg.zero).fr/\(L.getD i Rg.zero).fr<(L.getD i Rg.zero).tt/\(L.getD i Rg.zero).tt<=34359738368/\jnAt L i=false:=fun i hi=>by
  have:=h2 i hi
  unfold okAt okR at this
  generalize L.getD i Rg.zero=rr at this |-
  simp at this
  obtain ⟨⟨a,b,c⟩,d⟩:=this
  exact ⟨by omega,by omega,by omega,by simpa using d⟩
 have z: ∀ i,i<L.length->0<=(L.getD i Rg.zero).fr:=by
  intro i
  induction i with
  | zero => intro hi; have := (e 0 hi).1; exact this
  | succ n ih =>
   intro hi
   have q:=ih (by omega)
   have a:=e n (by omega)
   have b:=(e (n+1) hi).1
   have:endAt L (n+1)=(L.getD n Rg.zero).tt:=rfl
   omega
 refine ⟨by simpa using h1,fun i hi=>⟨⟨z i hi,(e i hi).2.1,(e i hi).2.2.1⟩,fun hj=>⟨(e (i+1) hj).1,(e (i+1) hj).2.2.2⟩⟩⟩
theorem good_num {L:List Rg} (h:goodB L=true):NumL L:=fun k hk=>by
 have:=((good_at h).2 k hk).1
 exact ⟨by omega,by omega⟩
theorem right_is {f t:Int} (h:rightB f t=true):0<=f/\f<t/\t<=34359738368/\t-f<=65536:=by
 unfold rightB at h;simp at h;omega
theorem check_zero {L:List Rg} {f t:Int} (h:checkN L f t=0):rightB f t=true/\goodB L=true:=by
 unfold checkN at h
 by_cases a:rightB f t=true
 . rw [if_pos a] at h
   by_cases b:goodB L=true
   . exact ⟨a,b⟩
   . rw [if_neg b] at h;omega
 . rw [if_neg a] at h;omega
def protN (L:List Rg) (f t:Int):Int:=if checkN L f t=0 then (if cntR f t L<t-f then 5 else 0) else checkN L f t
def lowR (f:Int) (r:Rg):Bool:=decide (r.tt<=f)
def aheadN (L:List Rg) (f:Int):Nat:=(L.takeWhile (lowR f)).length
theorem ahead_is (f:Int): ∀ (L:List Rg) (k:Nat),k<=L.length->(∀ j,j<k->(L.getD j Rg.zero).tt<=f)->(k=L.length\/f<(L.getD k Rg.zero).tt)->aheadN L f=k
 | [], k, h, _, _ => by
  have:k=0:=by simpa using h
  subst this;rfl
 | r :: l, 0, _, _, h => by
  rcases h with h | h
  . simp at h
  . have: ¬ (r.tt<=f):=by have:=h;simp [List.getD] at this;omega
    unfold aheadN;rw [List.takeWhile_cons_of_neg (by unfold lowR;simpa using this)];rfl
 | r :: l, k + 1, hk, hj, h => by
  have h0:r.tt<=f:=by have:=hj 0 (by omega);simpa [List.getD] using this
  unfold aheadN
  rw [List.takeWhile_cons_of_pos (by unfold lowR;simpa using h0),List.length_cons]
  congr 1
  refine ahead_is f l k (by simpa using hk) (fun j q=>by have:=hj (j+1) (by omega);simpa [List.getD] using this) ?_
  rcases h with h | h
  . left;simpa using h
  . right;simpa [List.getD] using h
def preL (M:List Rg) (L:List Rg):List Rg:=L.foldl withL M
theorem pre_next (M L:List Rg) (m:Nat) (h:m<L.length):preL M (L.take (m+1))=withL (preL M (L.take m)) (L.getD m Rg.zero):=by
 unfold preL;rw [takeR_next L m h,List.foldl_append];rfl
theorem pre_len (M L:List Rg): ∀ m,m<=L.length->(preL M (L.take m)).length<=M.length+m
 | 0, _ => by simp [preL]
 | m + 1, h => by
  rw [pre_next M L m (by omega)]
  have h1:=pre_len M L m (by omega)
  have h2:=withL_len (preL M (L.take m)) (L.getD m Rg.zero)
  omega
def addL (L:List Rg) (r:Rg):List Rg:=preL (withL (preL [] (L.take (aheadN L r.fr))) r) (L.drop (aheadN L r.fr))
def addN (L:List Rg) (r:Rg):Int:=if checkN L r.fr r.tt=0 then (if 0<cntR r.fr r.tt L then 6 else 0) else checkN L r.fr r.tt
end Go.Proofs.YtokpmclmdobgeaaGreat.Re
namespace Go.Proofs.YtokpmclmdobgeaaGreat.Re
abbrev Att:=Bool × Bool × Bool × Int
def Rg.att (r:Rg):Att:=(r.w,r.u,r.x,r.kd)
def atR:List Rg->Int->Option Att
 | [], _ => none
 | r :: l, x => if r.fr ≤ x ∧ x < r.tt then some r.att else atR l x
def Can (e:Int):List Rg->Prop
 | [] => True
 | r :: l => (e ≤ r.fr ∧ r.fr < r.tt) ∧ Can r.tt l ∧ ∀ c, l.head? = some c → r.joins c = false
def endL (e:Int):List Rg->Int
 | [] => e
 | r :: l => endL r.tt l
theorem can_end: ∀ (L:List Rg) (e:Int),Can e L->e<=endL e L
 | [], e, _ => Int.le_refl _
 | r :: l, e, h => by
  have:=can_end l r.tt h.2.1
  have:=h.1
  show e<=endL r.tt l
  omega
theorem at_low: ∀ (L:List Rg) (e x:Int),Can e L->x<e->atR L x=none
 | [], _, _, _, _ => rfl
 | r :: l, e, x, h, hx => by
  have:=h.1
  unfold atR
  rw [if_neg (by omega)]
  exact at_low l r.tt x h.2.1 (by omega)
theorem at_high: ∀ (L:List Rg) (e x:Int),Can e L->endL e L<=x->atR L x=none
 | [], _, _, _, _ => rfl
 | r :: l, e, x, h, hx => by
  have h1:=can_end l r.tt h.2.1
  have h2:endL r.tt l<=x:=hx
  unfold atR
  rw [if_neg (by omega)]
  exact at_high l r.tt x h.2.1 h2
theorem at_append (M:List Rg) (x:Int): ∀ L:List Rg,atR (L++M) x=(atR L x).or (atR M x)
 | [] => by simp [atR]
 | r :: l => by
  show (if r.fr<=x/\x<r.tt then some r.att else atR (l++M) x)=(if r.fr<=x/\x<r.tt then some r.att else atR l x).or (atR M x)
  by_cases c:r.fr<=x/\x<r.tt
  . rw [if_pos c,if_pos c];rfl
  . rw [if_neg c,if_neg c];exact at_append M x l
theorem last_cons (r a:Rg) (l:List Rg):lastR (r::a::l)=lastR (a::l):=by
 unfold lastR
 simp [List.getD]
theorem end_last: ∀ (L:List Rg) (e:Int),0<L.length->endL e L=(lastR L).tt
 | [], _, h => absurd h (Nat.lt_irrefl _)
 | [r], _, _ => rfl
 | r :: a :: l, e, _ => by
  rw [last_cons]
  exact end_last (a::l) r.tt (by simp)
theorem can_snoc: ∀ (L:List Rg) (e:Int) (r:Rg),Can e L->endL e L<=r.fr->r.fr<r.tt->(0<L.length->(lastR L).joins r=false)->Can e (L++[r])/\endL e (L++[r])=r.tt
 | [], e, r, _, h1, h2, _ => ⟨⟨⟨h1, h2⟩, trivial, fun c hc => by simp at hc⟩, rfl⟩
 | [a], e, r, h, h1, h2, h3 => by
  have h1':a.tt<=r.fr:=h1
  refine ⟨⟨h.1,⟨⟨h1',h2⟩,trivial,fun c hc=>by simp at hc⟩,fun c hc=> ?_⟩,rfl⟩
  have:c=r:=by simpa using hc.symm
  subst this;exact h3 (by simp)
 | a :: b :: l, e, r, h, h1, h2, h3 => by
  obtain ⟨i1,i2⟩:=can_snoc (b::l) a.tt r h.2.1 h1 h2 (fun _=>by have:=h3 (by simp);rwa [last_cons] at this)
  exact ⟨⟨h.1,i1,fun c hc=>h.2.2 c (by simpa using hc)⟩,i2⟩
def extL:List Rg->Int->List Rg
 | [], _ => []
 | [a], t => [a.upto t]
 | a :: b :: l, t => a :: extL (b :: l) t
theorem set_ext: ∀ (L:List Rg) (t:Int),0<L.length->L.set (L.length-1) ((lastR L).upto t)=extL L t
 | [], _, h => absurd h (Nat.lt_irrefl _)
 | [a], t, _ => rfl
 | a :: b :: l, t, _ => by
  have:=set_ext (b::l) t (by simp)
  rw [last_cons]
  show (a::b::l).set ((b::l).length) _=a::extL (b::l) t
  rw [<- this]
  rfl
theorem joins_upto (a c:Rg) (t:Int):a.joins (c.upto t)=a.joins c:=rfl
theorem ext_head: ∀ (L:List Rg) (t:Int) (a:Rg),(∀ c,L.head? =some c->a.joins c=false)-> ∀ c,(extL L t).head? =some c->a.joins c=false
 | [], _, _, h => h
 | [b], t, a, h => fun c hc => by
  have:c=b.upto t:=by simpa [extL] using hc.symm
  subst this;rw [joins_upto];exact h b rfl
 | b :: d :: l, t, a, h => fun c hc => h c (by simpa [extL] using hc)
theorem ext_can: ∀ (L:List Rg) (e t:Int),Can e L->0<L.length->endL e L<=t->Can e (extL L t)/\endL e (extL L t)=t
 | [], _, _, _, h, _ => absurd h (Nat.lt_irrefl _)
 | [a], e, t, h, _, ht => by
  have h1:=h.1
  have ht':a.tt<=t:=ht
  exact ⟨⟨⟨h1.1,by show a.fr<t;omega⟩,trivial,fun c hc=>by simp at hc⟩,rfl⟩
 | a :: b :: l, e, t, h, _, ht => by
  obtain ⟨i1,i2⟩:=ext_can (b::l) a.tt t h.2.1 (by simp) ht
  exact ⟨⟨h.1,i1,ext_head (b::l) t a h.2.2⟩,i2⟩
theorem ext_at: ∀ (L:List Rg) (e t x:Int),Can e L->0<L.length->endL e L<=t->atR (extL L t) x=(atR L x).or (if endL e L<=x/\x<t then some (lastR L).att else none)
 | [], _, _, _, _, h, _ => absurd h (Nat.lt_irrefl _)
 | [a], e, t, x, h, _, ht => by
  have ht':a.tt<=t:=ht
  have h1:=h.1
  show (if a.fr<=x/\x<t then some a.att else none)=(if a.fr<=x/\x<a.tt then some a.att else none).or (if a.tt<=x/\x<t then some a.att else none)
  by_cases c:a.fr<=x/\x<a.tt
  . rw [if_pos c,if_pos (by omega)];rfl
  . rw [if_neg c]
    by_cases d:a.tt<=x/\x<t
    . rw [if_pos d,if_pos (by omega)];rfl
    . rw [if_neg d,if_neg (by omega)];rfl
 | a :: b :: l, e, t, x, h, _, ht => by
  have i:=ext_at (b::l) a.tt t x h.2.1 (by simp) ht
  rw [last_cons]
  show (if a.fr<=x/\x<a.tt then some a.att else atR (extL (b::l) t) x)=(if a.fr<=x/\x<a.tt then some a.att else atR (b::l) x).or (if endL a.tt (b::l)<=x/\x<t then some (lastR (b::l)).att else none)
  by_cases c:a.fr<=x/\x<a.tt
  . rw [if_pos c,if_pos c];rfl
  . rw [if_neg c,if_neg c];exact i
theorem joins_is {a b:Rg} (h:a.joins b=true):a.tt=b.fr/\a.att=b.att:=by
 unfold Rg.joins Rg.perm at h
 simp at h
 obtain ⟨h1,⟨h2,h3,h4⟩,h5⟩:=h
 exact ⟨h1,by unfold Rg.att;rw [h2,h3,h4,h5]⟩
def Rg.pg (r:Rg) (x:Int):Option Att:=if r.fr<=x/\x<r.tt then some r.att else none
theorem with_can (L:List Rg) (e:Int) (r:Rg) (h:Can e L) (hr:r.fr<r.tt->endL e L<=r.fr):Can e (withL L r)/\endL e (withL L r)=(if r.fr<r.tt then r.tt else endL e L)/\ ∀ x,atR (withL L r) x=(atR L x).or (r.pg x):=by
 unfold withL
 by_cases c:r.tt<=r.fr
 . rw [if_pos c,if_neg (by omega)]
   refine ⟨h,rfl,fun x=> ?_⟩
   unfold Rg.pg;rw [if_neg (by omega)];simp
 . have hc:r.fr<r.tt:=by omega
   have hr':=hr hc
   rw [if_neg c,if_pos hc]
   by_cases d:0<L.length/\(lastR L).joins r=true
   . obtain ⟨d1,d2⟩:=d
     rw [if_pos ⟨d1,d2⟩,set_ext L r.tt d1]
     obtain ⟨j1,j2⟩:=joins_is d2
     have el:=end_last L e d1
     obtain ⟨i1,i2⟩:=ext_can L e r.tt h d1 (by omega)
     refine ⟨i1,i2,fun x=> ?_⟩
     rw [ext_at L e r.tt x h d1 (by omega),j2,el,j1];rfl
   . rw [if_neg d]
     obtain ⟨i1,i2⟩:=can_snoc L e r h hr' hc (fun q=>by
      cases k:(lastR L).joins r
      . rfl
      . exact absurd ⟨q,k⟩ d)
     refine ⟨i1,i2,fun x=> ?_⟩
     rw [at_append];rfl
theorem or_assoc4 (a b c:Option Att):(a.or b).or c=a.or (b.or c):=by cases a <;> rfl
theorem pre_can: ∀ (L M:List Rg) (e:Int),Can e M->Can (endL e M) L->Can e (preL M L)/\endL e (preL M L)=endL (endL e M) L/\ ∀ x,atR (preL M L) x=(atR M x).or (atR L x)
 | [], M, e, h, _ => ⟨h, rfl, fun x => by show atR M x = (atR M x).or none; simp⟩
 | r :: l, M, e, h, hl => by
  have h1:=hl.1
  obtain ⟨a1,a2,a3⟩:=with_can M e r h (fun _=>h1.1)
  rw [if_pos h1.2] at a2
  obtain ⟨b1,b2,b3⟩:=pre_can l (withL M r) e a1 (by rw [a2];exact hl.2.1)
  refine ⟨b1,by show endL e (preL (withL M r) l)=_;rw [b2,a2];rfl,fun x=> ?_⟩
  show atR (preL (withL M r) l) x=_
  rw [b3,a3,or_assoc4]
  congr 1
  unfold Rg.pg
  show (if r.fr<=x/\x<r.tt then some r.att else none).or (atR l x)=if r.fr<=x/\x<r.tt then some r.att else atR l x
  by_cases c:r.fr<=x/\x<r.tt
  . rw [if_pos c,if_pos c];rfl
  . rw [if_neg c,if_neg c];rfl
theorem getD_succ (r:Rg) (l:List Rg) (i:Nat):(r::l).getD (i+1) Rg.zero=l.getD i Rg.zero:=by simp [List.getD]
theorem getD_zero (r:Rg) (l:List Rg):(r::l).getD 0 Rg.zero=r:=rfl
theorem can_idx: ∀ (L:List Rg) (e:Int),Can e L-> ∀ i,i<L.length->(L.getD i Rg.zero).fr<(L.getD i Rg.zero).tt/\(L.getD i Rg.zero).tt<=endL e L/\(i=0->e<=(L.getD i Rg.zero).fr)/\(i+1<L.length->(L.getD i Rg.zero).tt<=(L.getD (i+1) Rg.zero).fr/\(L.getD i Rg.zero).joins (L.getD (i+1) Rg.zero)=false)
 | [], _, _, i, hi => absurd hi (Nat.not_lt_zero _)
 | r :: l, e, h, 0, _ => by
  rw [getD_zero,getD_succ]
  refine ⟨h.1.2,can_end l r.tt h.2.1,fun _=>h.1.1,fun q=> ?_⟩
  cases l with
  | nil => simp at q
  | cons d l' => exact ⟨h.2.1.1.1, h.2.2 d rfl⟩
 | r :: l, e, h, i + 1, hi => by
  have:=can_idx l r.tt h.2.1 i (by simpa using hi)
  rw [getD_succ,getD_succ]
  exact ⟨this.1,this.2.1,fun q=>by omega,fun q=>this.2.2.2 (by simpa using q)⟩
theorem can_good {L:List Rg} (h:Can 0 L) (h1:endL 0 L<=34359738368) (h2:L.length<=64):goodB L=true:=by
 unfold goodB
 rw [Bool.and_eq_true,allB_iff]
 refine ⟨by simpa using h2,fun i hi=> ?_⟩
 have a:=can_idx L 0 h i hi
 unfold okAt
 cases i with
 | zero =>
  have z:=a.2.2.1 rfl
  have e0:endAt L 0=0:=rfl
  have j0:jnAt L 0=false:=rfl
  rw [e0,j0]
  generalize L.getD 0 Rg.zero=r at a z
  unfold okR
  simp
  omega
 | succ n =>
  have b:=(can_idx L 0 h n (by omega)).2.2.2 hi
  have e0:endAt L (n+1)=(L.getD n Rg.zero).tt:=rfl
  have j0:jnAt L (n+1)=(L.getD n Rg.zero).joins (L.getD (n+1) Rg.zero):=rfl
  rw [e0,j0,b.2]
  generalize L.getD n Rg.zero=q at b
  generalize L.getD (n+1) Rg.zero=r at a b
  unfold okR
  simp
  omega
theorem can_split: ∀ (A B:List Rg) (e:Int),Can e (A++B)->Can e A/\Can (endL e A) B
 | [], B, e, h => ⟨trivial, h⟩
 | r :: l, B, e, h => by
  obtain ⟨a,b⟩:=can_split l B r.tt h.2.1
  refine ⟨⟨h.1,a,fun c hc=>h.2.2 c ?_⟩,b⟩
  cases l with
  | nil => simp at hc
  | cons d l' => simpa using hc
def SemG (G:Rg->Rg) (gg:Att->Option Att) (f t:Int):Prop:= ∀ r:Rg,((G (r.mid f t)).fr<(G (r.mid f t)).tt->(G (r.mid f t)).fr=max r.fr f/\(G (r.mid f t)).tt=min r.tt t)/\ ∀ x,(G (r.mid f t)).pg x=if max r.fr f<=x/\x<min r.tt t then gg r.att else none
theorem sem_cut (f t:Int):SemG (fun _=>Rg.zero) (fun _=>none) f t:=fun r=>⟨fun h=>by unfold Rg.zero at h;simp at h,fun x=>by
 have:Rg.zero.pg x=none:=by unfold Rg.pg Rg.zero;simp only;rw [if_neg (by omega)]
 rw [this];split <;> rfl⟩
theorem sem_prot (a b c:Bool) (f t:Int):SemG (fun r=>r.may a b c) (fun v=>some (a,b,c,v.2.2.2)) f t:=fun r=>⟨fun _=>⟨rfl,rfl⟩,fun x=>rfl⟩
theorem part_can {G:Rg->Rg} {gg:Att->Option Att} {f t:Int} (hft:f<=t) (hG:SemG G gg f t) (M:List Rg) (e:Int) (r:Rg) (h:Can e M) (h1:endL e M<=r.fr) (h2:r.fr<r.tt) :
 Can e (part G f t M r)/\endL e (part G f t M r)<=r.tt/\(∀ x,atR (part G f t M r) x=(atR M x).or (if r.fr<=x/\x<r.tt then (if f<=x/\x<t then gg r.att else some r.att) else none))/\ ∀ p q,cntR p q (part G f t M r)=cntR p q (withL (withL (withL M (r.upto (min r.tt f))) (G (r.mid f t))) (r.from (max r.fr t))):=by
 obtain ⟨g1,g2⟩:=hG r
 obtain ⟨a1,a2,a3⟩:=with_can M e (r.upto (min r.tt f)) h (fun _=>h1)
 have a2':endL e (withL M (r.upto (min r.tt f)))=if r.fr<min r.tt f then min r.tt f else endL e M:=a2
 have ea:endL e (withL M (r.upto (min r.tt f)))<=max r.fr f/\endL e (withL M (r.upto (min r.tt f)))<=r.tt:=by rw [a2'];split <;> omega
 obtain ⟨b1,b2,b3⟩:=with_can (withL M (r.upto (min r.tt f))) e (G (r.mid f t)) a1 (fun q=>by have:=g1 q;omega)
 have eb:endL e (withL (withL M (r.upto (min r.tt f))) (G (r.mid f t)))<=max r.fr t/\endL e (withL (withL M (r.upto (min r.tt f))) (G (r.mid f t)))<=r.tt:=by
  rw [b2]
  by_cases q:(G (r.mid f t)).fr<(G (r.mid f t)).tt
  . have:=g1 q;rw [if_pos q];omega
  . rw [if_neg q];omega
 obtain ⟨c1,c2,c3⟩:=with_can _ e (r.from (max r.fr t)) b1 (fun _=>eb.1)
 refine ⟨c1,?_,fun x=> ?_,fun _ _=>rfl⟩
 . show endL e (withL _ _)<=_
   rw [c2]
   have:(r.from (max r.fr t)).tt=r.tt:=rfl
   split <;> omega
 . show atR (withL _ _) x=_
   rw [c3,b3,a3,g2,or_assoc4,or_assoc4]
   congr 1
   have p1:(r.upto (min r.tt f)).pg x=if r.fr<=x/\x<min r.tt f then some r.att else none:=rfl
   have p3:(r.from (max r.fr t)).pg x=if max r.fr t<=x/\x<r.tt then some r.att else none:=rfl
   rw [p1,p3]
   by_cases k0:r.fr<=x/\x<r.tt
   . rw [if_pos k0]
     by_cases k1:f<=x
     . by_cases k2:x<t
       . rw [if_pos (show f<=x/\x<t from ⟨k1,k2⟩),if_neg (by omega),if_pos (by omega),if_neg (by omega)]
         cases gg r.att <;> rfl
       . rw [if_neg (show ¬ (f<=x/\x<t) by omega),if_neg (by omega),if_neg (by omega),if_pos (by omega)];rfl
     . rw [if_neg (show ¬ (f<=x/\x<t) by omega),if_pos (by omega)];rfl
   . rw [if_neg k0,if_neg (by omega),if_neg (by omega),if_neg (by omega)];rfl
theorem chg_sem {G:Rg->Rg} {gg:Att->Option Att} {f t:Int} (hft:f<=t) (hG:SemG G gg f t): ∀ (L M:List Rg) (e e':Int),Can e M->Can e' L->endL e M<=e'->Can e (L.foldl (part G f t) M)/\endL e (L.foldl (part G f t) M)<=endL e' L/\ ∀ x,atR (L.foldl (part G f t) M) x=(atR M x).or (if f<=x/\x<t then (atR L x).bind gg else atR L x)
 | [], M, e, e', h, _, he => ⟨h, he, fun x => by
  show atR M x=(atR M x).or (if f<=x/\x<t then (none:Option Att).bind gg else none)
  have:(if f<=x/\x<t then (none:Option Att).bind gg else none)=none:=by split <;> rfl
  rw [this];simp⟩
 | r :: l, M, e, e', h, hl, he => by
  obtain ⟨l1,l2,l3⟩:=hl
  obtain ⟨a1,a2,a3,_⟩:=part_can hft hG M e r h (by omega) l1.2
  obtain ⟨b1,b2,b3⟩:=chg_sem hft hG l (part G f t M r) e r.tt a1 l2 a2
  refine ⟨b1,b2,fun x=> ?_⟩
  show atR (l.foldl (part G f t) (part G f t M r)) x=_
  rw [b3,a3,or_assoc4]
  congr 1
  have e1:atR (r::l) x=if r.fr<=x/\x<r.tt then some r.att else atR l x:=rfl
  rw [e1]
  by_cases c:r.fr<=x/\x<r.tt
  . rw [if_pos c,if_pos c,at_low l r.tt x l2 c.2]
    by_cases d:f<=x/\x<t
    . rw [if_pos d,if_pos d,if_pos d]
      show (gg r.att).or none=gg r.att
      cases gg r.att <;> rfl
    . rw [if_neg d,if_neg d,if_neg d];rfl
  . rw [if_neg c,if_neg c];rfl
theorem chg_can {G:Rg->Rg} {gg:Att->Option Att} {f t:Int} (hft:f<=t) (hG:SemG G gg f t) {L:List Rg} (h:Can 0 L):Can 0 (chg G f t L)/\endL 0 (chg G f t L)<=endL 0 L/\ ∀ x,atR (chg G f t L) x=if f<=x/\x<t then (atR L x).bind gg else atR L x:=by
 obtain ⟨a,b,c⟩:=chg_sem hft hG L [] 0 0 trivial h (Int.le_refl _)
 exact ⟨a,b,fun x=>by rw [show chg G f t L=L.foldl (part G f t) [] from rfl,c];rfl⟩
theorem ahead_take (f:Int): ∀ L:List Rg,L.take (aheadN L f)=L.takeWhile (lowR f)/\L.drop (aheadN L f)=L.dropWhile (lowR f)
 | [] => ⟨rfl, rfl⟩
 | r :: l => by
  obtain ⟨a,b⟩:=ahead_take f l
  unfold aheadN at a b |-
  by_cases c:lowR f r=true
  . rw [List.takeWhile_cons_of_pos c,List.dropWhile_cons_of_pos c,List.length_cons,List.take_succ_cons,List.drop_succ_cons,a,b];exact ⟨rfl,rfl⟩
  . rw [List.takeWhile_cons_of_neg c,List.dropWhile_cons_of_neg c];exact ⟨rfl,rfl⟩
theorem end_tw (f:Int): ∀ (L:List Rg) (e:Int),e<=f->endL e (L.takeWhile (lowR f))<=f
 | [], e, h => h
 | r :: l, e, h => by
  by_cases c:lowR f r=true
  . rw [List.takeWhile_cons_of_pos c]
    exact end_tw f l r.tt (by unfold lowR at c;simpa using c)
  . rw [List.takeWhile_cons_of_neg c];exact h
theorem len_nn (r:Rg) (p q:Int):0<=r.len p q:=by unfold Rg.len;split <;> omega
theorem cnt_nn (p q:Int): ∀ L:List Rg,0<=cntR p q L
 | [] => Int.le_refl _
 | r :: l => by have := cnt_nn p q l; have := len_nn r p q; show 0 ≤ r.len p q + cntR p q l; omega
theorem drop_head (f:Int) (c:Rg) (B:List Rg): ∀ L:List Rg,L.dropWhile (lowR f)=c::B->f<c.tt
 | [], h => by simp at h
 | r :: l, h => by
  by_cases k:lowR f r=true
  . rw [List.dropWhile_cons_of_pos k] at h;exact drop_head f c B l h
  . rw [List.dropWhile_cons_of_neg k] at h
    have:r=c:=(List.cons.inj h).1
    subst this
    unfold lowR at k
    simpa using k
theorem add_can {L:List Rg} (h:Can 0 L) (r:Rg) (h0:0<=r.fr) (h1:r.fr<r.tt) (hz: ¬ 0<cntR r.fr r.tt L):Can 0 (addL L r)/\endL 0 (addL L r)<=max r.tt (endL 0 L)/\ ∀ x,atR (addL L r) x=if r.fr<=x/\x<r.tt then some r.att else atR L x:=by
 obtain ⟨t1,t2⟩:=ahead_take r.fr L
 unfold addL
 rw [t1,t2]
 have eL:L=L.takeWhile (lowR r.fr)++L.dropWhile (lowR r.fr):=(List.takeWhile_append_dropWhile).symm
 have eA:=end_tw r.fr L 0 h0
 have hd:=drop_head r.fr
 generalize hA:L.takeWhile (lowR r.fr)=A at eL eA |-
 generalize hB:L.dropWhile (lowR r.fr)=B at eL |-
 rw [eL] at h hz
 obtain ⟨s1,s2⟩:=can_split A B 0 h
 obtain ⟨p1,p2,p3⟩:=pre_can A [] 0 trivial s1
 have p2':endL 0 (preL [] A)=endL 0 A:=p2
 obtain ⟨w1,w2,w3⟩:=with_can (preL [] A) 0 r p1 (fun _=>by omega)
 rw [if_pos h1] at w2
 have cB:Can r.tt B/\(B=[]\/ ∃ c B',B=c::B'/\r.tt<=c.fr):=by
  cases B with
  | nil => exact ⟨trivial, Or.inl rfl⟩
  | cons c B' =>
   have k1:=hd c B' L hB
   have k2:=s2.1
   have k3:c.len r.fr r.tt=0:=by
    rw [cntR_append] at hz
    have z1:=cnt_nn r.fr r.tt A
    have z2:=cnt_nn r.fr r.tt B'
    have z3:=len_nn c r.fr r.tt
    have z4:cntR r.fr r.tt (c::B')=c.len r.fr r.tt+cntR r.fr r.tt B':=rfl
    omega
   have k4:r.tt<=c.fr:=by
    unfold Rg.len at k3
    by_cases q:max c.fr r.fr<min c.tt r.tt
    . rw [if_pos q] at k3;omega
    . omega
   exact ⟨⟨⟨k4,k2.2⟩,s2.2.1,s2.2.2⟩,Or.inr ⟨c,B',rfl,k4⟩⟩
 obtain ⟨q1,q2,q3⟩:=pre_can B (withL (preL [] A) r) 0 w1 (by rw [w2];exact cB.1)
 rw [w2] at q2
 refine ⟨q1,?_,fun x=> ?_⟩
 . rw [q2,eL]
   cases B with
   | nil => show r.tt ≤ _; omega
   | cons c B' =>
    have: ∀ (A:List Rg) (e:Int),endL e (A++c::B')=endL c.tt B':=fun A=>by
     induction A with
     | nil => intro e; rfl
     | cons a A ih => intro e; exact ih a.tt
    rw [this];show endL c.tt B'<=_;omega
 . rw [q3,w3,p3,eL,at_append]
   show ((((none:Option Att).or (atR A x)).or (r.pg x)).or (atR B x))=_
   unfold Rg.pg
   by_cases c:r.fr<=x/\x<r.tt
   . rw [if_pos c,if_pos c,at_high A 0 x s1 (by omega)];rfl
   . rw [if_neg c,if_neg c]
     cases atR A x <;> rfl
end Go.Proofs.YtokpmclmdobgeaaGreat.Re
namespace Go.Proofs.YtokpmclmdobgeaaGreat.Re
open Go.ChangeShapes Go.WideShapes Go.ChangeAt Go.RowKit Go.Maps
theorem change_cut (p:Option Addr) (c:Nat) (L:List Rg) (hL:L.length<=100) (qf qt:Int) (w:World) (h:LowL w w.heap.size p L) :
 Calls Tryz.prog 98 #[.slice p L.length c,rgV qf qt,.func (.func 99) #[] #[]] w fun e w'=> ∃ v er,e=.returned (.tuple #[v,.int .i64 er])/\Res w' w.heap.size v er (chg (fun _=>Rg.zero) qf qt L)/\bc w w':=by
 have HI:Hid (LowL w (w.heap.size+1) p L):=h.weak (by omega)
 have CM:Hid (∀ (a1 a2:Int) (W:World),Calls Tryz.prog 112 #[rgV a1 a2,rgV qf qt] W (re (rgV (max a1 qf) (min a2 qt)) W)):=fun a1 a2 W=>common_any a1 a2 qf qt W
 have WI:Hid (∀ (base:Nat) (v:Value) (M:List Rg),M.length<=1000-> ∀ (r:Rg) (W:World),base<=W.heap.size->OwnL W base v M->Calls Tryz.prog 96 #[v,r.val] W fun e w'=> ∃ v',e=.returned v'/\OwnL w' base v' (withL M r)/\WithK W w' v v'):=fun base v M hM r W hW ho=>with_any base v M hM r W hW ho
 have FY:Hid (∀ (q:Option Addr) (n d:Nat),n<=64-> ∀ W:World,Calls Tryz.prog 97 #[.slice q n d] W (re (.tuple #[.slice q n d,.int .i64 0]) W)):=fun q n d hn W=>few_yes q n d hn W
 have FN:Hid (∀ (q:Option Addr) (n d:Nat),64<n->n<=1000-> ∀ W:World,Calls Tryz.prog 97 #[.slice q n d] W (re (.tuple #[.slice none 0 0,.int .i64 4]) W)):=fun q n d hn hm W=>few_no q n d hn hm W
 have CL:Hid (∀ (r:Rg) (W:World),True->Calls Tryz.prog 99 #[r.val] W fun e w'=>e=.returned Rg.zero.val/\bc W w'):=fun r W _=>cut_cl r W
 have HK:Hid (∀ W:World,Below (w.heap.size+1) (w.alloc (.cells #[.int .i64 qf,.int .i64 qt] 66)) W->True):=fun _ _=>trivial
 have w0:Hid (LowL (w.alloc (.cells #[.int .i64 qf,.int .i64 qt] 66)) (w.heap.size+1) p L):=(h.low baa).weak (by omega)
 clear h HI
 obtain ⟨W0,hW0⟩: ∃ W0,w.alloc (.cells #[.int .i64 qf,.int .i64 qt] 66)=W0:=⟨_,rfl⟩
 rw [hW0] at w0 HK
 have Z0:Hid (W0.heap.size=w.heap.size+1/\bc w W0/\W0.cell? ⟨w.heap.size,0,none⟩=some (.int .i64 qf)/\W0.cell? ⟨w.heap.size,1,none⟩=some (.int .i64 qt)):=by
  show _/\_/\_/\_
  rw [<- hW0]
  exact ⟨by rw [World.size_alloc],baa,by simp,by simp⟩
 have HW0:Hid (w.alloc (.cells #[.int .i64 qf,.int .i64 qt] 66)=W0):=hW0
 clear hW0
 go_enter Tryz.func98,Tryz.ntmps98
 go_wp2_with fail
 go_loopw [8,16] (fun v x W=> ∃ m:Nat,m<=L.length/\x=.int .i64 m/\Hid (OwnL W (w.heap.size+1) v (chg (fun _=>Rg.zero) qf qt (L.take m)))/\Hid (Below (w.heap.size+1) W0 W)) (fun _ x _=>L.length-(intOf x).toNat)
 case atStart=>exact ⟨0,by omega,rfl,⟨by simp [chg],Or.inl ⟨rfl,rfl⟩⟩,by rw [HW0.out];exact Below.refl _ _⟩
 case round =>
  obtain ⟨m,hm,rfl,hO,hB⟩:=hrel
  by_cases hlm:m<L.length
  . have hd:decide ((m:Int)<(L.length:Int))=true:=by simp;omega
    obtain ⟨gl,rfl,gl1,gc⟩:=(w0.out.low hB.out) m hlm
    have NX:Hid (chg (fun _=>Rg.zero) qf qt (L.take (m+1))=part (fun _=>Rg.zero) qf qt (chg (fun _=>Rg.zero) qf qt (L.take m)) (L.getD m Rg.zero)):=chg_next _ qf qt L m hlm
    have LN:Hid ((chg (fun _=>Rg.zero) qf qt (L.take m)).length<=300):=Nat.le_trans (chg_len _ qf qt L m hm) (by omega)
    generalize L.getD m Rg.zero=rr at gc NX
    generalize chg (fun _=>Rg.zero) qf qt (L.take m)=M at hO NX LN
    obtain ⟨r1,r2,r3,r4,r5,r6⟩:=rr
    have y0:wr.cell? ⟨gl,m*6,none⟩=some (.int .i64 r1):=gc 0 _ rfl
    have y1:wr.cell? ⟨gl,m*6+1,none⟩=some (.int .i64 r2):=gc 1 _ rfl
    have y2:wr.cell? ⟨gl,m*6+2,none⟩=some (.bool r3):=gc 2 _ rfl
    have y3:wr.cell? ⟨gl,m*6+3,none⟩=some (.bool r4):=gc 3 _ rfl
    have y4:wr.cell? ⟨gl,m*6+4,none⟩=some (.bool r5):=gc 4 _ rfl
    have y5:wr.cell? ⟨gl,m*6+5,none⟩=some (.int .i64 r6):=gc 5 _ rfl
    clear gc
    have CR:Hid _:=CM.out r1 r2
    unfold part Rg.mid Rg.from Rg.upto at NX
    simp only at NX
    obtain ⟨am,ham⟩: ∃ x,min r2 qf=x:=⟨_,rfl⟩
    obtain ⟨mf,hmf⟩: ∃ x,max r1 qf=x:=⟨_,rfl⟩
    obtain ⟨mt,hmt⟩: ∃ x,min r2 qt=x:=⟨_,rfl⟩
    obtain ⟨bf,hbf⟩: ∃ x,max r1 qt=x:=⟨_,rfl⟩
    rw [ham,hbf] at NX
    rw [hmf,hmt] at CR
    have HAM:Hid (min r2 qf=am):=ham
    have HBF:Hid (max r1 qt=bf):=hbf
    clear ham hmf hmt hbf CM
    have b0:wr.cell? ⟨w.heap.size,0,none⟩=some (.int .i64 qf):=(hB.out.cell (p:=⟨w.heap.size,0,none⟩) kx).trans Z0.out.2.2.1
    have b1:wr.cell? ⟨w.heap.size,1,none⟩=some (.int .i64 qt):=(hB.out.cell (p:=⟨w.heap.size,1,none⟩) kx).trans Z0.out.2.2.2
    have lw:w.heap.size<wr.heap.size:=nla (by rw [Z0.out.1];omega) hB.out.size
    have KF:Hid (wr.cell? ⟨w.heap.size,0,none⟩=some (.int .i64 qf)/\wr.cell? ⟨w.heap.size,1,none⟩=some (.int .i64 qt)):=⟨b0,b1⟩
    obtain ⟨s,hs⟩: ∃ s,wr.heap.size=s:=⟨_,rfl⟩
    have HS:Hid (wr.heap.size=s):=hs
    clear hs b0 b1
    go_upto_region 5 with fail
    go_cut [11,12,13] (fun a b d wx=> ∃ A B D:Nat,a=.pointer (some ⟨A,0,none⟩)/\b=.pointer (some ⟨B,0,none⟩)/\d=.pointer (some ⟨D,0,none⟩)/\(wr.heap.size<A/\wr.heap.size<B/\wr.heap.size<D/\A≠B/\A≠D/\B≠D)/\wx=((((wr.alloc (.cells (s7 r1 r2 r3 r4 r5 r6) 126)).alloc (.cells (s7 r1 r2 r3 r4 r5 r6) 126)).alloc (.cells (s7 r1 r2 r3 r4 r5 r6) 126)).alloc (.cells (s7 r1 r2 r3 r4 r5 r6) 126)).drew/\A<=wr.heap.size+3/\B<=wr.heap.size+3/\D<=wr.heap.size+3)
    case first =>
     go_region
     all_goals (try go_wp2_with fail)
     all_goals go_meet
     all_goals exact ⟨_,_,_,rfl,rfl,rfl,⟨by omega,by omega,by omega,by omega,by omega,by omega⟩,rfl,by omega,by omega,by omega⟩
    case rest =>
     obtain ⟨A,B,D,rfl,rfl,rfl,⟨lA,lB,lD,nAB,nAD,nBD⟩,ewc,hA3,hB3,hD3⟩:=hcut
     have FS:Hid (wc.heap[wr.heap.size]? =some (.cells (s7 r1 r2 r3 r4 r5 r6) 126 (0,0))):=ky
     have FA:Hid (wc.heap[A]? =some (.cells (s7 r1 r2 r3 r4 r5 r6) 126 (0,0))):=ky
     have FB:Hid (wc.heap[B]? =some (.cells (s7 r1 r2 r3 r4 r5 r6) 126 (0,0))):=ky
     have FD:Hid (wc.heap[D]? =some (.cells (s7 r1 r2 r3 r4 r5 r6) 126 (0,0))):=ky
     have BW:Hid (bc wr wc):=by show Below _ _ _;rw [ewc];exact below_drew (below_new (Go.Joins.below_alloc3 _ _ _ _) _)
     clear ewc hA3 hB3 hD3
     have s0:wc.cell? ⟨wr.heap.size,0,none⟩=some (.int .i64 r1):=Go.Joins.cell_of_block FS.out 0
     have s1:wc.cell? ⟨wr.heap.size,1,none⟩=some (.int .i64 r2):=Go.Joins.cell_of_block FS.out 1
     have a1:wc.cell? ⟨A,1,none⟩=some (.int .i64 r2):=Go.Joins.cell_of_block FA.out 1
     have fa:wc.frozen? ⟨A,1,none⟩=false:=Go.Joins.unfrozen_of_block FA.out 1
     have p0:wc.cell? ⟨w.heap.size,0,none⟩=some (.int .i64 qf):=(BW.out.cell (p:=⟨w.heap.size,0,none⟩) lw).trans KF.out.1
     have p1:wc.cell? ⟨w.heap.size,1,none⟩=some (.int .i64 qt):=(BW.out.cell (p:=⟨w.heap.size,1,none⟩) lw).trans KF.out.2
     clear y0 y1 y2 y3 y4 y5
     go_wp2_with (refine min_pat (x:=.tmp 25) (y:=.tmp 27) r2 qf am HAM.out rfl rfl ?_)
     refine (CR.out _).mono ?_
     rintro e u1 ⟨rfl,hb1⟩
     have zs:=(grown_setCell1 wc A 1 (.int .i64 am)).size
     have GA:Hid (u1.heap[A]? =some (.cells (s7 r1 am r3 r4 r5 r6) 126 (0,0))):=(hb1.block A (nla (blk_lt FA.out) zs)).trans (set_same FA.out rfl)
     have GB:Hid (u1.heap[B]? =some (.cells (s7 r1 r2 r3 r4 r5 r6) 126 (0,0))):=(hb1.block B (nla (blk_lt FB.out) zs)).trans ((set_block (by omega)).trans FB.out)
     have GD:Hid (u1.heap[D]? =some (.cells (s7 r1 r2 r3 r4 r5 r6) 126 (0,0))):=(hb1.block D (nla (blk_lt FD.out) zs)).trans ((set_block (by omega)).trans FD.out)
     have GS:Hid (u1.heap[wr.heap.size]? =some (.cells (s7 r1 r2 r3 r4 r5 r6) 126 (0,0))):=(hb1.block _ (nla (blk_lt FS.out) zs)).trans ((set_block (by omega)).trans FS.out)
     have BU:Hid (bc wr u1):=below_then (BW.out.setCell (p:=⟨A,1,none⟩) (Nat.le_of_lt lA) _) hb1
     clear hb1 zs s0 s1 a1 fa p0 p1 FS FA FB FD BW
     have s0:u1.cell? ⟨wr.heap.size,0,none⟩=some (.int .i64 r1):=Go.Joins.cell_of_block GS.out 0
     have e0:u1.cell? ⟨B,0,none⟩=some (.int .i64 r1):=Go.Joins.cell_of_block GB.out 0
     have e1:u1.cell? ⟨B,1,none⟩=some (.int .i64 r2):=Go.Joins.cell_of_block GB.out 1
     have f0:u1.frozen? ⟨B,0,none⟩=false:=Go.Joins.unfrozen_of_block GB.out 0
     have f1:u1.frozen? ⟨B,1,none⟩=false:=Go.Joins.unfrozen_of_block GB.out 1
     have d0:u1.cell? ⟨D,0,none⟩=some (.int .i64 r1):=Go.Joins.cell_of_block GD.out 0
     have k0:u1.frozen? ⟨D,0,none⟩=false:=Go.Joins.unfrozen_of_block GD.out 0
     have p1:u1.cell? ⟨w.heap.size,1,none⟩=some (.int .i64 qt):=(BU.out.cell (p:=⟨w.heap.size,1,none⟩) lw).trans KF.out.2
     go_wp2_with (refine max_pat (x:=.tmp 38) (y:=.tmp 40) r1 qt bf HBF.out rfl rfl ?_)
     obtain ⟨X,hX⟩: ∃ X,((u1.setCell ⟨B,0,none⟩ (.int .i64 mf)).setCell ⟨B,1,none⟩ (.int .i64 mt)).setCell ⟨D,0,none⟩ (.int .i64 bf)=X:=⟨_,rfl⟩
     have XA:Hid (X.heap[A]? =some (.cells (s7 r1 am r3 r4 r5 r6) 126 (0,0))):=kz
     have XB:Hid (X.heap[B]? =some (.cells (s7 mf mt r3 r4 r5 r6) 126 (0,0))):=by show _=_;rw [<- hX,set_block (by omega)];exact set_same (set_same GB.out rfl) rfl
     have XD:Hid (X.heap[D]? =some (.cells (s7 bf r2 r3 r4 r5 r6) 126 (0,0))):=ka1
     have BX:Hid (bc wr X):=kb1
     rw [hX]
     clear hX GA GB GD GS BU s0 e0 e1 f0 f1 d0 k0 p1
     have NA:Hid (u8.ownBlock≠some A):=blk_ne (c:=0) hO.out (Nat.le_of_lt lA)
     have NB:Hid (u8.ownBlock≠some B):=blk_ne (c:=0) hO.out (Nat.le_of_lt lB)
     have ND:Hid (u8.ownBlock≠some D):=blk_ne (c:=0) hO.out (Nat.le_of_lt lD)
     have OU:Hid (OwnL X.drew (w.heap.size+1) u8 M):=OwnL.below hO.out (below_drew BX.out)
     have BB:Hid (Below (w.heap.size+1) W0 X.drew):=hB.out.trans (Go.Joins.below_le (below_drew BX.out) (by omega))
     have lAX:A<X.drew.heap.size:=blk_lt XA.out
     have lBX:B<X.drew.heap.size:=blk_lt XB.out
     have lDX:D<X.drew.heap.size:=blk_lt XD.out
     refine hda (fun c=>c.heap[A]? =some (.cells (s7 r1 am r3 r4 r5 r6) 126 (0,0))/\c.heap[B]? =some (.cells (s7 mf mt r3 r4 r5 r6) 126 (0,0))/\c.heap[D]? =some (.cells (s7 bf r2 r3 r4 r5 r6) 126 (0,0))) (⟨XA.out,XB.out,XD.out⟩) fun hHeld=> ?_
     refine tma 0 44 rfl ?_
     refine tla 1 45 (.agg (s7 r1 am r3 r4 r5 r6)) rfl ?_ ?_
     . exact kc1
     refine tma 3 47 rfl ?_
     refine tla 4 48 (.agg (s7 mf mt r3 r4 r5 r6)) rfl ?_ ?_
     . exact kd1
     refine tla 7 51 (.agg (s7 bf r2 r3 r4 r5 r6)) rfl ?_ ?_
     . exact ke1
     clear XA XB XD BX hO hB
     generalize X.drew=U at OU BB lAX lBX lDX hHeld |-
     have LENS:Hid (M.length<=1000/\(withL M ⟨r1,am,r3,r4,r5,r6⟩).length<=1000/\(withL (withL M ⟨r1,am,r3,r4,r5,r6⟩) Rg.zero).length<=1000):=by
      have k1:=LN.out
      have k2:=withL_len M ⟨r1,am,r3,r4,r5,r6⟩
      have k3:=withL_len (withL M ⟨r1,am,r3,r4,r5,r6⟩) Rg.zero
      exact ⟨by omega,by omega,by omega⟩
     refine rda 2 ⟨some 46,_,_,_,_,none⟩ rfl fun K hK=> ?_
     go_simp
     go_wp2_with (go_at_call 96;refine (WI.out (w.heap.size+1) u8 M LENS.out.1 ⟨r1,am,r3,r4,r5,r6⟩ _ (by omega) OU.out).mono ?_;rintro e u2 ⟨v1,rfl,ho,hk⟩)
     have Ou2:Hid (OwnL u2 (w.heap.size+1) v1 (withL M ⟨r1,am,r3,r4,r5,r6⟩)):=ho
     have Bu2:Hid (Below (w.heap.size+1) W0 u2):=BB.out.trans (hk.below OU.out (by omega))
     have xAu2:=(hk.block A lAX NA.out).trans hHeld.1
     have NAu2:Hid (v1.ownBlock≠some A):=hk.ne A lAX NA.out
     have xBu2:=(hk.block B lBX NB.out).trans hHeld.2.1
     have NBu2:Hid (v1.ownBlock≠some B):=hk.ne B lBX NB.out
     have xDu2:=(hk.block D lDX ND.out).trans hHeld.2.2
     have NDu2:Hid (v1.ownBlock≠some D):=hk.ne D lDX ND.out
     have zs:=hk.1.size
     have lAY:A<u2.heap.size:=nla lAX zs
     have lBY:B<u2.heap.size:=nla lBX zs
     have lDY:D<u2.heap.size:=nla lDX zs
     clear ho hk NA NB ND zs lAX lBX lDX OU BB
     have NA:Hid _:=NAu2.out
     have lAX:=lAY
     have NB:Hid _:=NBu2.out
     have lBX:=lBY
     have ND:Hid _:=NDu2.out
     have lDX:=lDY
     clear NAu2 lAY NBu2 lBY NDu2 lDY
     clear hHeld
     refine hK.out _ _ ⟨xAu2,xBu2,xDu2⟩ (fun hHeld=> ?_)
     clear hK K xAu2 xBu2 xDu2
     try simp only [Act.put,zaa,zba,zca]
     refine rda 5 ⟨some 49,_,_,_,_,none⟩ rfl fun K hK=> ?_
     go_simp
     go_wp2_with (go_at_call 99;refine (CL.out ⟨mf,mt,r3,r4,r5,r6⟩ _ (HK.out _ Bu2.out)).mono ?_;rintro e u3 ⟨rfl,hb3⟩)
     have Ou3:Hid (OwnL u3 (w.heap.size+1) v1 (withL M ⟨r1,am,r3,r4,r5,r6⟩)):=OwnL.below Ou2.out hb3
     have Bu3:Hid (Below (w.heap.size+1) W0 u3):=Bu2.out.trans (Go.Joins.below_le hb3 (by omega))
     have xAu3:=(hb3.block A lAX).trans hHeld.1
     have xBu3:=(hb3.block B lBX).trans hHeld.2.1
     have xDu3:=(hb3.block D lDX).trans hHeld.2.2
     have zs:=hb3.size
     have lAY:A<u3.heap.size:=nla lAX zs
     have lBY:B<u3.heap.size:=nla lBX zs
     have lDY:D<u3.heap.size:=nla lDX zs
     clear hb3 zs lAX lBX lDX Ou2 Bu2
     have lAX:=lAY
     have lBX:=lBY
     have lDX:=lDY
     clear lAY lBY lDY
     clear hHeld
     refine hK.out _ _ ⟨xAu3,xBu3,xDu3⟩ (fun hHeld=> ?_)
     clear hK K xAu3 xBu3 xDu3
     try simp only [Act.put,zaa,zba,zca]
     refine rda 6 ⟨some 50,_,_,_,_,none⟩ rfl fun K hK=> ?_
     go_simp
     go_wp2_with (go_at_call 96;refine (WI.out (w.heap.size+1) v1 (withL M ⟨r1,am,r3,r4,r5,r6⟩) LENS.out.2.1 Rg.zero _ (by omega) Ou3.out).mono ?_;rintro e u4 ⟨v2,rfl,ho,hk⟩)
     have Ou4:Hid (OwnL u4 (w.heap.size+1) v2 (withL (withL M ⟨r1,am,r3,r4,r5,r6⟩) Rg.zero)):=ho
     have Bu4:Hid (Below (w.heap.size+1) W0 u4):=Bu3.out.trans (hk.below Ou3.out (by omega))
     have xAu4:=(hk.block A lAX NA.out).trans hHeld.1
     have NAu4:Hid (v2.ownBlock≠some A):=hk.ne A lAX NA.out
     have xBu4:=(hk.block B lBX NB.out).trans hHeld.2.1
     have NBu4:Hid (v2.ownBlock≠some B):=hk.ne B lBX NB.out
     have xDu4:=(hk.block D lDX ND.out).trans hHeld.2.2
     have NDu4:Hid (v2.ownBlock≠some D):=hk.ne D lDX ND.out
     have zs:=hk.1.size
     have lAY:A<u4.heap.size:=nla lAX zs
     have lBY:B<u4.heap.size:=nla lBX zs
     have lDY:D<u4.heap.size:=nla lDX zs
     clear ho hk NA NB ND zs lAX lBX lDX Ou3 Bu3
     have NA:Hid _:=NAu4.out
     have lAX:=lAY
     have NB:Hid _:=NBu4.out
     have lBX:=lBY
     have ND:Hid _:=NDu4.out
     have lDX:=lDY
     clear NAu4 lAY NBu4 lBY NDu4 lDY
     clear hHeld
     refine hK.out _ _ ⟨xAu4,xBu4,xDu4⟩ (fun hHeld=> ?_)
     clear hK K xAu4 xBu4 xDu4
     try simp only [Act.put,zaa,zba,zca]
     refine rda 8 ⟨some 52,_,_,_,_,none⟩ rfl fun K hK=> ?_
     go_simp
     go_wp2_with (go_at_call 96;refine (WI.out (w.heap.size+1) v2 (withL (withL M ⟨r1,am,r3,r4,r5,r6⟩) Rg.zero) LENS.out.2.2 ⟨bf,r2,r3,r4,r5,r6⟩ _ (by omega) Ou4.out).mono ?_;rintro e u5 ⟨v3,rfl,ho,hk⟩)
     have Ou5:Hid (OwnL u5 (w.heap.size+1) v3 (withL (withL (withL M ⟨r1,am,r3,r4,r5,r6⟩) Rg.zero) ⟨bf,r2,r3,r4,r5,r6⟩)):=ho
     have Bu5:Hid (Below (w.heap.size+1) W0 u5):=Bu4.out.trans (hk.below Ou4.out (by omega))
     have xAu5:=(hk.block A lAX NA.out).trans hHeld.1
     have NAu5:Hid (v3.ownBlock≠some A):=hk.ne A lAX NA.out
     have xBu5:=(hk.block B lBX NB.out).trans hHeld.2.1
     have NBu5:Hid (v3.ownBlock≠some B):=hk.ne B lBX NB.out
     have xDu5:=(hk.block D lDX ND.out).trans hHeld.2.2
     have NDu5:Hid (v3.ownBlock≠some D):=hk.ne D lDX ND.out
     have zs:=hk.1.size
     have lAY:A<u5.heap.size:=nla lAX zs
     have lBY:B<u5.heap.size:=nla lBX zs
     have lDY:D<u5.heap.size:=nla lDX zs
     clear ho hk NA NB ND zs lAX lBX lDX Ou4 Bu4
     have NA:Hid _:=NAu5.out
     have lAX:=lAY
     have NB:Hid _:=NBu5.out
     have lBX:=lBY
     have ND:Hid _:=NDu5.out
     have lDX:=lDY
     clear NAu5 lAY NBu5 lBY NDu5 lDY
     clear hHeld
     refine hK.out _ _ ⟨xAu5,xBu5,xDu5⟩ (fun hHeld=> ?_)
     clear hK K xAu5 xBu5 xDu5
     try simp only [Act.put,zaa,zba,zca]
     refine tma 9 8 rfl ?_
     refine wpAnyH_done kc ?_ _
     refine NoPanic.normal ?_
     have N2:Hid (OwnL u5 (w.heap.size+1) v3 (chg (fun _=>Rg.zero) qf qt (L.take (m+1)))):=by show OwnL _ _ _ _;rw [NX.out];exact Ou5.out
     clear NX Ou5
     go_wp2_with fail
     go_roundw
     case rel=>exact ⟨m+1,by omega,by go_num,N2,Bu5⟩
     case measure=>simp [intOf];omega
  . obtain rfl:m=L.length:=by omega
    have O1:Hid (OwnL wr (w.heap.size+1) u8 (chg (fun _=>Rg.zero) qf qt L)):=by
     have:=hO.out
     rw [List.take_length] at this;exact this
    have LN:Hid ((chg (fun _=>Rg.zero) qf qt L).length<=300):=by
     have:=chg_len (fun _=>Rg.zero) qf qt L L.length (Nat.le_refl _)
     rw [List.take_length] at this;exact Nat.le_trans this (by omega)
    obtain ⟨q,d,ev,hq⟩:=own_read O1.out
    have BE:Hid (bc w wr):=Z0.out.2.1.trans (Go.Joins.below_le hB.out (by omega))
    obtain ⟨M,hM⟩: ∃ M,chg (fun _=>Rg.zero) qf qt L=M:=⟨_,rfl⟩
    rw [hM] at O1 LN ev
    have HM:Hid (chg (fun _=>Rg.zero) qf qt L=M):=hM
    clear hM
    clear hO hq
    obtain ⟨n,hn⟩: ∃ n,M.length=n:=⟨_,rfl⟩
    have HN:Hid (M.length=n):=hn
    rw [hn] at ev LN
    clear hn
    subst ev
    by_cases few:n<=64
    . go_wp2_with fail
      refine (FY.out _ _ _ few _).mono ?_
      rintro e u1 ⟨rfl,hb1⟩
      have B1:Hid (bc w u1):=below_then BE.out hb1
      have R1:Hid (Res u1 w.heap.size (.slice q n d) 0 M):=Or.inl ⟨by rw [HN.out];exact few,rfl,Go.Joins.ownsRow_le (OwnL.below O1.out hb1) (by omega)⟩
      clear hb1
      go_wp2_with fail
      go_returns
      exact ⟨.slice q n d,0,rfl,by rw [HM.out];exact R1.out,B1.out⟩
    . go_wp2_with fail
      refine (FN.out _ _ _ (by omega) (Nat.le_trans LN.out (by omega)) _).mono ?_
      rintro e u1 ⟨rfl,hb1⟩
      have B1:Hid (bc w u1):=below_then BE.out hb1
      have R1:Hid (Res u1 w.heap.size (.slice none 0 0) 4 M):=Or.inr ⟨by rw [HN.out];omega,rfl,rfl⟩
      clear hb1
      go_wp2_with fail
      go_returns
      exact ⟨.slice none 0 0,4,rfl,by rw [HM.out];exact R1.out,B1.out⟩
theorem change_prot (p:Option Addr) (c:Nat) (L:List Rg) (hL:L.length<=100) (qf qt:Int) (w:World) (h:LowL w w.heap.size p L) (B0:Nat) (pa pb pc:Bool) (hB0:B0<w.heap.size) (hp:IsPm w B0 pa pb pc) :
 Calls Tryz.prog 98 #[.slice p L.length c,rgV qf qt,.func (.func 102) #[] #[.pointer (some ⟨B0,0,none⟩)]] w fun e w'=> ∃ v er,e=.returned (.tuple #[v,.int .i64 er])/\Res w' w.heap.size v er (chg (fun r=>r.may pa pb pc) qf qt L)/\bc w w':=by
 have HI:Hid (LowL w (w.heap.size+1) p L):=h.weak (by omega)
 have CM:Hid (∀ (a1 a2:Int) (W:World),Calls Tryz.prog 112 #[rgV a1 a2,rgV qf qt] W (re (rgV (max a1 qf) (min a2 qt)) W)):=fun a1 a2 W=>common_any a1 a2 qf qt W
 have WI:Hid (∀ (base:Nat) (v:Value) (M:List Rg),M.length<=1000-> ∀ (r:Rg) (W:World),base<=W.heap.size->OwnL W base v M->Calls Tryz.prog 96 #[v,r.val] W fun e w'=> ∃ v',e=.returned v'/\OwnL w' base v' (withL M r)/\WithK W w' v v'):=fun base v M hM r W hW ho=>with_any base v M hM r W hW ho
 have FY:Hid (∀ (q:Option Addr) (n d:Nat),n<=64-> ∀ W:World,Calls Tryz.prog 97 #[.slice q n d] W (re (.tuple #[.slice q n d,.int .i64 0]) W)):=fun q n d hn W=>few_yes q n d hn W
 have FN:Hid (∀ (q:Option Addr) (n d:Nat),64<n->n<=1000-> ∀ W:World,Calls Tryz.prog 97 #[.slice q n d] W (re (.tuple #[.slice none 0 0,.int .i64 4]) W)):=fun q n d hn hm W=>few_no q n d hn hm W
 have CL:Hid (∀ (r:Rg) (W:World),IsPm W B0 pa pb pc/\B0<W.heap.size->Calls Tryz.prog 102 #[r.val,.pointer (some ⟨B0,0,none⟩)] W fun e w'=>e=.returned (r.may pa pb pc).val/\bc W w'):=fun r W k=>prot_cl r B0 pa pb pc W k.1 k.2
 have HK:Hid (∀ W:World,Below (w.heap.size+1) (w.alloc (.cells #[.int .i64 qf,.int .i64 qt] 66)) W->IsPm W B0 pa pb pc/\B0<W.heap.size):=fun W q=>⟨(hp.low hB0 baa).low (n:=w.heap.size+1) (by omega) q,nla (by rw [World.size_alloc];omega) q.size⟩
 clear hp
 have w0:Hid (LowL (w.alloc (.cells #[.int .i64 qf,.int .i64 qt] 66)) (w.heap.size+1) p L):=(h.low baa).weak (by omega)
 clear h HI
 obtain ⟨W0,hW0⟩: ∃ W0,w.alloc (.cells #[.int .i64 qf,.int .i64 qt] 66)=W0:=⟨_,rfl⟩
 rw [hW0] at w0 HK
 have Z0:Hid (W0.heap.size=w.heap.size+1/\bc w W0/\W0.cell? ⟨w.heap.size,0,none⟩=some (.int .i64 qf)/\W0.cell? ⟨w.heap.size,1,none⟩=some (.int .i64 qt)):=by
  show _/\_/\_/\_
  rw [<- hW0]
  exact ⟨by rw [World.size_alloc],baa,by simp,by simp⟩
 have HW0:Hid (w.alloc (.cells #[.int .i64 qf,.int .i64 qt] 66)=W0):=hW0
 clear hW0
 go_enter Tryz.func98,Tryz.ntmps98
 go_wp2_with fail
 go_loopw [8,16] (fun v x W=> ∃ m:Nat,m<=L.length/\x=.int .i64 m/\Hid (OwnL W (w.heap.size+1) v (chg (fun r=>r.may pa pb pc) qf qt (L.take m)))/\Hid (Below (w.heap.size+1) W0 W)) (fun _ x _=>L.length-(intOf x).toNat)
 case atStart=>exact ⟨0,by omega,rfl,⟨by simp [chg],Or.inl ⟨rfl,rfl⟩⟩,by rw [HW0.out];exact Below.refl _ _⟩
 case round =>
  obtain ⟨m,hm,rfl,hO,hB⟩:=hrel
  by_cases hlm:m<L.length
  . have hd:decide ((m:Int)<(L.length:Int))=true:=by simp;omega
    obtain ⟨gl,rfl,gl1,gc⟩:=(w0.out.low hB.out) m hlm
    have NX:Hid (chg (fun r=>r.may pa pb pc) qf qt (L.take (m+1))=part (fun r=>r.may pa pb pc) qf qt (chg (fun r=>r.may pa pb pc) qf qt (L.take m)) (L.getD m Rg.zero)):=chg_next _ qf qt L m hlm
    have LN:Hid ((chg (fun r=>r.may pa pb pc) qf qt (L.take m)).length<=300):=Nat.le_trans (chg_len _ qf qt L m hm) (by omega)
    generalize L.getD m Rg.zero=rr at gc NX
    generalize chg (fun r=>r.may pa pb pc) qf qt (L.take m)=M at hO NX LN
    obtain ⟨r1,r2,r3,r4,r5,r6⟩:=rr
    have y0:wr.cell? ⟨gl,m*6,none⟩=some (.int .i64 r1):=gc 0 _ rfl
    have y1:wr.cell? ⟨gl,m*6+1,none⟩=some (.int .i64 r2):=gc 1 _ rfl
    have y2:wr.cell? ⟨gl,m*6+2,none⟩=some (.bool r3):=gc 2 _ rfl
    have y3:wr.cell? ⟨gl,m*6+3,none⟩=some (.bool r4):=gc 3 _ rfl
    have y4:wr.cell? ⟨gl,m*6+4,none⟩=some (.bool r5):=gc 4 _ rfl
    have y5:wr.cell? ⟨gl,m*6+5,none⟩=some (.int .i64 r6):=gc 5 _ rfl
    clear gc
    have CR:Hid _:=CM.out r1 r2
    unfold part Rg.mid Rg.from Rg.upto at NX
    simp only at NX
    obtain ⟨am,ham⟩: ∃ x,min r2 qf=x:=⟨_,rfl⟩
    obtain ⟨mf,hmf⟩: ∃ x,max r1 qf=x:=⟨_,rfl⟩
    obtain ⟨mt,hmt⟩: ∃ x,min r2 qt=x:=⟨_,rfl⟩
    obtain ⟨bf,hbf⟩: ∃ x,max r1 qt=x:=⟨_,rfl⟩
    rw [ham,hmf,hmt,hbf] at NX
    rw [hmf,hmt] at CR
    have HAM:Hid (min r2 qf=am):=ham
    have HBF:Hid (max r1 qt=bf):=hbf
    clear ham hmf hmt hbf CM
    have b0:wr.cell? ⟨w.heap.size,0,none⟩=some (.int .i64 qf):=(hB.out.cell (p:=⟨w.heap.size,0,none⟩) kx).trans Z0.out.2.2.1
    have b1:wr.cell? ⟨w.heap.size,1,none⟩=some (.int .i64 qt):=(hB.out.cell (p:=⟨w.heap.size,1,none⟩) kx).trans Z0.out.2.2.2
    have lw:w.heap.size<wr.heap.size:=nla (by rw [Z0.out.1];omega) hB.out.size
    have KF:Hid (wr.cell? ⟨w.heap.size,0,none⟩=some (.int .i64 qf)/\wr.cell? ⟨w.heap.size,1,none⟩=some (.int .i64 qt)):=⟨b0,b1⟩
    obtain ⟨s,hs⟩: ∃ s,wr.heap.size=s:=⟨_,rfl⟩
    have HS:Hid (wr.heap.size=s):=hs
    clear hs b0 b1
    go_upto_region 5 with fail
    go_cut [11,12,13] (fun a b d wx=> ∃ A B D:Nat,a=.pointer (some ⟨A,0,none⟩)/\b=.pointer (some ⟨B,0,none⟩)/\d=.pointer (some ⟨D,0,none⟩)/\(wr.heap.size<A/\wr.heap.size<B/\wr.heap.size<D/\A≠B/\A≠D/\B≠D)/\wx=((((wr.alloc (.cells (s7 r1 r2 r3 r4 r5 r6) 126)).alloc (.cells (s7 r1 r2 r3 r4 r5 r6) 126)).alloc (.cells (s7 r1 r2 r3 r4 r5 r6) 126)).alloc (.cells (s7 r1 r2 r3 r4 r5 r6) 126)).drew/\A<=wr.heap.size+3/\B<=wr.heap.size+3/\D<=wr.heap.size+3)
    case first =>
     go_region
     all_goals (try go_wp2_with fail)
     all_goals go_meet
     all_goals exact ⟨_,_,_,rfl,rfl,rfl,⟨by omega,by omega,by omega,by omega,by omega,by omega⟩,rfl,by omega,by omega,by omega⟩
    case rest =>
     obtain ⟨A,B,D,rfl,rfl,rfl,⟨lA,lB,lD,nAB,nAD,nBD⟩,ewc,hA3,hB3,hD3⟩:=hcut
     have FS:Hid (wc.heap[wr.heap.size]? =some (.cells (s7 r1 r2 r3 r4 r5 r6) 126 (0,0))):=ky
     have FA:Hid (wc.heap[A]? =some (.cells (s7 r1 r2 r3 r4 r5 r6) 126 (0,0))):=ky
     have FB:Hid (wc.heap[B]? =some (.cells (s7 r1 r2 r3 r4 r5 r6) 126 (0,0))):=ky
     have FD:Hid (wc.heap[D]? =some (.cells (s7 r1 r2 r3 r4 r5 r6) 126 (0,0))):=ky
     have BW:Hid (bc wr wc):=by show Below _ _ _;rw [ewc];exact below_drew (below_new (Go.Joins.below_alloc3 _ _ _ _) _)
     clear ewc hA3 hB3 hD3
     have s0:wc.cell? ⟨wr.heap.size,0,none⟩=some (.int .i64 r1):=Go.Joins.cell_of_block FS.out 0
     have s1:wc.cell? ⟨wr.heap.size,1,none⟩=some (.int .i64 r2):=Go.Joins.cell_of_block FS.out 1
     have a1:wc.cell? ⟨A,1,none⟩=some (.int .i64 r2):=Go.Joins.cell_of_block FA.out 1
     have fa:wc.frozen? ⟨A,1,none⟩=false:=Go.Joins.unfrozen_of_block FA.out 1
     have p0:wc.cell? ⟨w.heap.size,0,none⟩=some (.int .i64 qf):=(BW.out.cell (p:=⟨w.heap.size,0,none⟩) lw).trans KF.out.1
     have p1:wc.cell? ⟨w.heap.size,1,none⟩=some (.int .i64 qt):=(BW.out.cell (p:=⟨w.heap.size,1,none⟩) lw).trans KF.out.2
     clear y0 y1 y2 y3 y4 y5
     go_wp2_with (refine min_pat (x:=.tmp 25) (y:=.tmp 27) r2 qf am HAM.out rfl rfl ?_)
     refine (CR.out _).mono ?_
     rintro e u1 ⟨rfl,hb1⟩
     have zs:=(grown_setCell1 wc A 1 (.int .i64 am)).size
     have GA:Hid (u1.heap[A]? =some (.cells (s7 r1 am r3 r4 r5 r6) 126 (0,0))):=(hb1.block A (nla (blk_lt FA.out) zs)).trans (set_same FA.out rfl)
     have GB:Hid (u1.heap[B]? =some (.cells (s7 r1 r2 r3 r4 r5 r6) 126 (0,0))):=(hb1.block B (nla (blk_lt FB.out) zs)).trans ((set_block (by omega)).trans FB.out)
     have GD:Hid (u1.heap[D]? =some (.cells (s7 r1 r2 r3 r4 r5 r6) 126 (0,0))):=(hb1.block D (nla (blk_lt FD.out) zs)).trans ((set_block (by omega)).trans FD.out)
     have GS:Hid (u1.heap[wr.heap.size]? =some (.cells (s7 r1 r2 r3 r4 r5 r6) 126 (0,0))):=(hb1.block _ (nla (blk_lt FS.out) zs)).trans ((set_block (by omega)).trans FS.out)
     have BU:Hid (bc wr u1):=below_then (BW.out.setCell (p:=⟨A,1,none⟩) (Nat.le_of_lt lA) _) hb1
     clear hb1 zs s0 s1 a1 fa p0 p1 FS FA FB FD BW
     have s0:u1.cell? ⟨wr.heap.size,0,none⟩=some (.int .i64 r1):=Go.Joins.cell_of_block GS.out 0
     have e0:u1.cell? ⟨B,0,none⟩=some (.int .i64 r1):=Go.Joins.cell_of_block GB.out 0
     have e1:u1.cell? ⟨B,1,none⟩=some (.int .i64 r2):=Go.Joins.cell_of_block GB.out 1
     have f0:u1.frozen? ⟨B,0,none⟩=false:=Go.Joins.unfrozen_of_block GB.out 0
     have f1:u1.frozen? ⟨B,1,none⟩=false:=Go.Joins.unfrozen_of_block GB.out 1
     have d0:u1.cell? ⟨D,0,none⟩=some (.int .i64 r1):=Go.Joins.cell_of_block GD.out 0
     have k0:u1.frozen? ⟨D,0,none⟩=false:=Go.Joins.unfrozen_of_block GD.out 0
     have p1:u1.cell? ⟨w.heap.size,1,none⟩=some (.int .i64 qt):=(BU.out.cell (p:=⟨w.heap.size,1,none⟩) lw).trans KF.out.2
     go_wp2_with (refine max_pat (x:=.tmp 38) (y:=.tmp 40) r1 qt bf HBF.out rfl rfl ?_)
     obtain ⟨X,hX⟩: ∃ X,((u1.setCell ⟨B,0,none⟩ (.int .i64 mf)).setCell ⟨B,1,none⟩ (.int .i64 mt)).setCell ⟨D,0,none⟩ (.int .i64 bf)=X:=⟨_,rfl⟩
     have XA:Hid (X.heap[A]? =some (.cells (s7 r1 am r3 r4 r5 r6) 126 (0,0))):=kz
     have XB:Hid (X.heap[B]? =some (.cells (s7 mf mt r3 r4 r5 r6) 126 (0,0))):=by show _=_;rw [<- hX,set_block (by omega)];exact set_same (set_same GB.out rfl) rfl
     have XD:Hid (X.heap[D]? =some (.cells (s7 bf r2 r3 r4 r5 r6) 126 (0,0))):=ka1
     have BX:Hid (bc wr X):=kb1
     rw [hX]
     clear hX GA GB GD GS BU s0 e0 e1 f0 f1 d0 k0 p1
     have NA:Hid (u8.ownBlock≠some A):=blk_ne (c:=0) hO.out (Nat.le_of_lt lA)
     have NB:Hid (u8.ownBlock≠some B):=blk_ne (c:=0) hO.out (Nat.le_of_lt lB)
     have ND:Hid (u8.ownBlock≠some D):=blk_ne (c:=0) hO.out (Nat.le_of_lt lD)
     have OU:Hid (OwnL X.drew (w.heap.size+1) u8 M):=OwnL.below hO.out (below_drew BX.out)
     have BB:Hid (Below (w.heap.size+1) W0 X.drew):=hB.out.trans (Go.Joins.below_le (below_drew BX.out) (by omega))
     have lAX:A<X.drew.heap.size:=blk_lt XA.out
     have lBX:B<X.drew.heap.size:=blk_lt XB.out
     have lDX:D<X.drew.heap.size:=blk_lt XD.out
     refine hda (fun c=>c.heap[A]? =some (.cells (s7 r1 am r3 r4 r5 r6) 126 (0,0))/\c.heap[B]? =some (.cells (s7 mf mt r3 r4 r5 r6) 126 (0,0))/\c.heap[D]? =some (.cells (s7 bf r2 r3 r4 r5 r6) 126 (0,0))) (⟨XA.out,XB.out,XD.out⟩) fun hHeld=> ?_
     refine tma 0 44 rfl ?_
     refine tla 1 45 (.agg (s7 r1 am r3 r4 r5 r6)) rfl ?_ ?_
     . exact kc1
     refine tma 3 47 rfl ?_
     refine tla 4 48 (.agg (s7 mf mt r3 r4 r5 r6)) rfl ?_ ?_
     . exact kd1
     refine tla 7 51 (.agg (s7 bf r2 r3 r4 r5 r6)) rfl ?_ ?_
     . exact ke1
     clear XA XB XD BX hO hB
     generalize X.drew=U at OU BB lAX lBX lDX hHeld |-
     have LENS:Hid (M.length<=1000/\(withL M ⟨r1,am,r3,r4,r5,r6⟩).length<=1000/\(withL (withL M ⟨r1,am,r3,r4,r5,r6⟩) (Rg.may ⟨mf,mt,r3,r4,r5,r6⟩ pa pb pc)).length<=1000):=by
      have k1:=LN.out
      have k2:=withL_len M ⟨r1,am,r3,r4,r5,r6⟩
      have k3:=withL_len (withL M ⟨r1,am,r3,r4,r5,r6⟩) (Rg.may ⟨mf,mt,r3,r4,r5,r6⟩ pa pb pc)
      exact ⟨by omega,by omega,by omega⟩
     refine rda 2 ⟨some 46,_,_,_,_,none⟩ rfl fun K hK=> ?_
     go_simp
     go_wp2_with (go_at_call 96;refine (WI.out (w.heap.size+1) u8 M LENS.out.1 ⟨r1,am,r3,r4,r5,r6⟩ _ (by omega) OU.out).mono ?_;rintro e u2 ⟨v1,rfl,ho,hk⟩)
     have Ou2:Hid (OwnL u2 (w.heap.size+1) v1 (withL M ⟨r1,am,r3,r4,r5,r6⟩)):=ho
     have Bu2:Hid (Below (w.heap.size+1) W0 u2):=BB.out.trans (hk.below OU.out (by omega))
     have xAu2:=(hk.block A lAX NA.out).trans hHeld.1
     have NAu2:Hid (v1.ownBlock≠some A):=hk.ne A lAX NA.out
     have xBu2:=(hk.block B lBX NB.out).trans hHeld.2.1
     have NBu2:Hid (v1.ownBlock≠some B):=hk.ne B lBX NB.out
     have xDu2:=(hk.block D lDX ND.out).trans hHeld.2.2
     have NDu2:Hid (v1.ownBlock≠some D):=hk.ne D lDX ND.out
     have zs:=hk.1.size
     have lAY:A<u2.heap.size:=nla lAX zs
     have lBY:B<u2.heap.size:=nla lBX zs
     have lDY:D<u2.heap.size:=nla lDX zs
     clear ho hk NA NB ND zs lAX lBX lDX OU BB
     have NA:Hid _:=NAu2.out
     have lAX:=lAY
     have NB:Hid _:=NBu2.out
     have lBX:=lBY
     have ND:Hid _:=NDu2.out
     have lDX:=lDY
     clear NAu2 lAY NBu2 lBY NDu2 lDY
     clear hHeld
     refine hK.out _ _ ⟨xAu2,xBu2,xDu2⟩ (fun hHeld=> ?_)
     clear hK K xAu2 xBu2 xDu2
     try simp only [Act.put,zaa,zba,zca]
     refine rda 5 ⟨some 49,_,_,_,_,none⟩ rfl fun K hK=> ?_
     go_simp
     go_wp2_with (go_at_call 102;refine (CL.out ⟨mf,mt,r3,r4,r5,r6⟩ _ (HK.out _ Bu2.out)).mono ?_;rintro e u3 ⟨rfl,hb3⟩)
     have Ou3:Hid (OwnL u3 (w.heap.size+1) v1 (withL M ⟨r1,am,r3,r4,r5,r6⟩)):=OwnL.below Ou2.out hb3
     have Bu3:Hid (Below (w.heap.size+1) W0 u3):=Bu2.out.trans (Go.Joins.below_le hb3 (by omega))
     have xAu3:=(hb3.block A lAX).trans hHeld.1
     have xBu3:=(hb3.block B lBX).trans hHeld.2.1
     have xDu3:=(hb3.block D lDX).trans hHeld.2.2
     have zs:=hb3.size
     have lAY:A<u3.heap.size:=nla lAX zs
     have lBY:B<u3.heap.size:=nla lBX zs
     have lDY:D<u3.heap.size:=nla lDX zs
     clear hb3 zs lAX lBX lDX Ou2 Bu2
     have lAX:=lAY
     have lBX:=lBY
     have lDX:=lDY
     clear lAY lBY lDY
     clear hHeld
     refine hK.out _ _ ⟨xAu3,xBu3,xDu3⟩ (fun hHeld=> ?_)
     clear hK K xAu3 xBu3 xDu3
     try simp only [Act.put,zaa,zba,zca]
     refine rda 6 ⟨some 50,_,_,_,_,none⟩ rfl fun K hK=> ?_
     go_simp
     go_wp2_with (go_at_call 96;refine (WI.out (w.heap.size+1) v1 (withL M ⟨r1,am,r3,r4,r5,r6⟩) LENS.out.2.1 (Rg.may ⟨mf,mt,r3,r4,r5,r6⟩ pa pb pc) _ (by omega) Ou3.out).mono ?_;rintro e u4 ⟨v2,rfl,ho,hk⟩)
     have Ou4:Hid (OwnL u4 (w.heap.size+1) v2 (withL (withL M ⟨r1,am,r3,r4,r5,r6⟩) (Rg.may ⟨mf,mt,r3,r4,r5,r6⟩ pa pb pc))):=ho
     have Bu4:Hid (Below (w.heap.size+1) W0 u4):=Bu3.out.trans (hk.below Ou3.out (by omega))
     have xAu4:=(hk.block A lAX NA.out).trans hHeld.1
     have NAu4:Hid (v2.ownBlock≠some A):=hk.ne A lAX NA.out
     have xBu4:=(hk.block B lBX NB.out).trans hHeld.2.1
     have NBu4:Hid (v2.ownBlock≠some B):=hk.ne B lBX NB.out
     have xDu4:=(hk.block D lDX ND.out).trans hHeld.2.2
     have NDu4:Hid (v2.ownBlock≠some D):=hk.ne D lDX ND.out
     have zs:=hk.1.size
     have lAY:A<u4.heap.size:=nla lAX zs
     have lBY:B<u4.heap.size:=nla lBX zs
     have lDY:D<u4.heap.size:=nla lDX zs
     clear ho hk NA NB ND zs lAX lBX lDX Ou3 Bu3
     have NA:Hid _:=NAu4.out
     have lAX:=lAY
     have NB:Hid _:=NBu4.out
     have lBX:=lBY
     have ND:Hid _:=NDu4.out
     have lDX:=lDY
     clear NAu4 lAY NBu4 lBY NDu4 lDY
     clear hHeld
     refine hK.out _ _ ⟨xAu4,xBu4,xDu4⟩ (fun hHeld=> ?_)
     clear hK K xAu4 xBu4 xDu4
     try simp only [Act.put,zaa,zba,zca]
     refine rda 8 ⟨some 52,_,_,_,_,none⟩ rfl fun K hK=> ?_
     go_simp
     go_wp2_with (go_at_call 96;refine (WI.out (w.heap.size+1) v2 (withL (withL M ⟨r1,am,r3,r4,r5,r6⟩) (Rg.may ⟨mf,mt,r3,r4,r5,r6⟩ pa pb pc)) LENS.out.2.2 ⟨bf,r2,r3,r4,r5,r6⟩ _ (by omega) Ou4.out).mono ?_;rintro e u5 ⟨v3,rfl,ho,hk⟩)
     have Ou5:Hid (OwnL u5 (w.heap.size+1) v3 (withL (withL (withL M ⟨r1,am,r3,r4,r5,r6⟩) (Rg.may ⟨mf,mt,r3,r4,r5,r6⟩ pa pb pc)) ⟨bf,r2,r3,r4,r5,r6⟩)):=ho
     have Bu5:Hid (Below (w.heap.size+1) W0 u5):=Bu4.out.trans (hk.below Ou4.out (by omega))
     have xAu5:=(hk.block A lAX NA.out).trans hHeld.1
     have NAu5:Hid (v3.ownBlock≠some A):=hk.ne A lAX NA.out
     have xBu5:=(hk.block B lBX NB.out).trans hHeld.2.1
     have NBu5:Hid (v3.ownBlock≠some B):=hk.ne B lBX NB.out
     have xDu5:=(hk.block D lDX ND.out).trans hHeld.2.2
     have NDu5:Hid (v3.ownBlock≠some D):=hk.ne D lDX ND.out
     have zs:=hk.1.size
     have lAY:A<u5.heap.size:=nla lAX zs
     have lBY:B<u5.heap.size:=nla lBX zs
     have lDY:D<u5.heap.size:=nla lDX zs
     clear ho hk NA NB ND zs lAX lBX lDX Ou4 Bu4
     have NA:Hid _:=NAu5.out
     have lAX:=lAY
     have NB:Hid _:=NBu5.out
     have lBX:=lBY
     have ND:Hid _:=NDu5.out
     have lDX:=lDY
     clear NAu5 lAY NBu5 lBY NDu5 lDY
     clear hHeld
     refine hK.out _ _ ⟨xAu5,xBu5,xDu5⟩ (fun hHeld=> ?_)
     clear hK K xAu5 xBu5 xDu5
     try simp only [Act.put,zaa,zba,zca]
     refine tma 9 8 rfl ?_
     refine wpAnyH_done kc ?_ _
     refine NoPanic.normal ?_
     have N2:Hid (OwnL u5 (w.heap.size+1) v3 (chg (fun r=>r.may pa pb pc) qf qt (L.take (m+1)))):=by show OwnL _ _ _ _;rw [NX.out];exact Ou5.out
     clear NX Ou5
     go_wp2_with fail
     go_roundw
     case rel=>exact ⟨m+1,by omega,by go_num,N2,Bu5⟩
     case measure=>simp [intOf];omega
  . obtain rfl:m=L.length:=by omega
    have O1:Hid (OwnL wr (w.heap.size+1) u8 (chg (fun r=>r.may pa pb pc) qf qt L)):=by
     have:=hO.out
     rw [List.take_length] at this;exact this
    have LN:Hid ((chg (fun r=>r.may pa pb pc) qf qt L).length<=300):=by
     have:=chg_len (fun r=>r.may pa pb pc) qf qt L L.length (Nat.le_refl _)
     rw [List.take_length] at this;exact Nat.le_trans this (by omega)
    obtain ⟨q,d,ev,hq⟩:=own_read O1.out
    have BE:Hid (bc w wr):=Z0.out.2.1.trans (Go.Joins.below_le hB.out (by omega))
    obtain ⟨M,hM⟩: ∃ M,chg (fun r=>r.may pa pb pc) qf qt L=M:=⟨_,rfl⟩
    rw [hM] at O1 LN ev
    have HM:Hid (chg (fun r=>r.may pa pb pc) qf qt L=M):=hM
    clear hM
    clear hO hq
    obtain ⟨n,hn⟩: ∃ n,M.length=n:=⟨_,rfl⟩
    have HN:Hid (M.length=n):=hn
    rw [hn] at ev LN
    clear hn
    subst ev
    by_cases few:n<=64
    . go_wp2_with fail
      refine (FY.out _ _ _ few _).mono ?_
      rintro e u1 ⟨rfl,hb1⟩
      have B1:Hid (bc w u1):=below_then BE.out hb1
      have R1:Hid (Res u1 w.heap.size (.slice q n d) 0 M):=Or.inl ⟨by rw [HN.out];exact few,rfl,Go.Joins.ownsRow_le (OwnL.below O1.out hb1) (by omega)⟩
      clear hb1
      go_wp2_with fail
      go_returns
      exact ⟨.slice q n d,0,rfl,by rw [HM.out];exact R1.out,B1.out⟩
    . go_wp2_with fail
      refine (FN.out _ _ _ (by omega) (Nat.le_trans LN.out (by omega)) _).mono ?_
      rintro e u1 ⟨rfl,hb1⟩
      have B1:Hid (bc w u1):=below_then BE.out hb1
      have R1:Hid (Res u1 w.heap.size (.slice none 0 0) 4 M):=Or.inr ⟨by rw [HN.out];omega,rfl,rfl⟩
      clear hb1
      go_wp2_with fail
      go_returns
      exact ⟨.slice none 0 0,4,rfl,by rw [HM.out];exact R1.out,B1.out⟩
def Ans (w':World) (base:Nat) (v:Value) (er:Int) (E:Int) (M:List Rg):Prop:=(E≠0/\er=E/\v=.slice none 0 0)\/(E=0/\Res w' base v er M)
theorem Res.weak {w':World} {base base':Nat} {v:Value} {er:Int} {M:List Rg} (h:Res w' base v er M) (hb:base'<=base):Res w' base' v er M:=by
 rcases h with ⟨a,b,c⟩ | h
 . exact Or.inl ⟨a,b,Go.Joins.ownsRow_le c hb⟩
 . exact Or.inr h
theorem cut_any (base:Nat) (p:Option Addr) (c:Nat) (L:List Rg) (hL:L.length<=100) (qf qt:Int) (w:World) (h:IsL w base p L) :
 Calls Tryz.prog 78 #[.slice p L.length c,rgV qf qt] w fun e w'=> ∃ v er,e=.returned (.tuple #[v,.int .i64 er])/\Ans w' w.heap.size v er (checkN L qf qt) (chg (fun _=>Rg.zero) qf qt L)/\bc w w':=by
 have CK:Hid (∀ W:World,IsL W base p L->Calls Tryz.prog 94 #[.slice p L.length c,rgV qf qt] W (re (.int .i64 (checkN L qf qt)) W)):=fun W h=>check_any base p c L hL qf qt W h
 have CC:Hid (∀ W:World,IsL W base p L->Calls Tryz.prog 98 #[.slice p L.length c,rgV qf qt,.func (.func 99) #[] #[]] W fun e w'=> ∃ v er,e=.returned (.tuple #[v,.int .i64 er])/\Res w' W.heap.size v er (chg (fun _=>Rg.zero) qf qt L)/\bc W w'):=fun W h=>change_cut p c L hL qf qt W (h.lowl (Nat.le_refl _))
 have HI:Hid (IsL w base p L):=h
 clear h
 obtain ⟨E,hE⟩: ∃ E,checkN L qf qt=E:=⟨_,rfl⟩
 obtain ⟨M,hM⟩: ∃ M,chg (fun _=>Rg.zero) qf qt L=M:=⟨_,rfl⟩
 rw [hE] at CK |-
 rw [hM] at CC |-
 clear hE hM
 obtain ⟨n,hn⟩: ∃ n,L.length=n:=⟨_,rfl⟩
 rw [hn] at CK CC |-
 clear hn
 by_cases cz:E=0
 . subst cz
   go_enter Tryz.func78,Tryz.ntmps78
   go_wp2_with fail
   refine (CK.out _ (HI.out.below baa)).mono ?_
   rintro e u1 ⟨rfl,hb1⟩
   have b0:u1.cell? ⟨w.heap.size,0,none⟩=some (.int .i64 qf):=(hb1.cell (p:=⟨w.heap.size,0,none⟩) (by simp)).trans (by simp)
   have b1:u1.cell? ⟨w.heap.size,1,none⟩=some (.int .i64 qt):=(hb1.cell (p:=⟨w.heap.size,1,none⟩) (by simp)).trans (by simp)
   have lw:w.heap.size<u1.heap.size:=nla (by simp) hb1.size
   have B1:Hid (bc w u1):=below_then baa hb1
   clear hb1
   go_wp2_with fail
   refine (CC.out _ (HI.out.below B1.out)).mono ?_
   rintro e u2 ⟨v,er,rfl,hr,hb2⟩
   have B2:Hid (bc w u2):=below_then B1.out hb2
   have A2:Hid (Ans u2 w.heap.size v er 0 M):=Or.inr ⟨rfl,hr.weak (Nat.le_of_lt lw)⟩
   clear hr hb2
   go_wp2_with fail
   go_returns
   exact ⟨v,er,rfl,A2.out,B2.out⟩
 . have eb:(E==0)=false:=by simp [cz]
   have A1:Hid (∀ W:World,Ans W w.heap.size (.slice none 0 0) E E M):=fun W=>Or.inl ⟨cz,rfl,rfl⟩
   clear cz
   go_enter Tryz.func78,Tryz.ntmps78
   go_wp2_with fail
   refine (CK.out _ (HI.out.below baa)).mono ?_
   rintro e u1 ⟨rfl,hb1⟩
   have B1:Hid (bc w u1):=below_then baa hb1
   clear hb1
   go_wp2_with fail
   go_returns
   exact ⟨.slice none 0 0,E,rfl,A1.out _,B1.out⟩
theorem prot_any (base:Nat) (p:Option Addr) (c:Nat) (L:List Rg) (hL:L.length<=100) (qf qt:Int) (pa pb pc:Bool) (w:World) (h:IsL w base p L) :
 Calls Tryz.prog 82 #[.slice p L.length c,rgV qf qt,pmV pa pb pc] w fun e w'=> ∃ v er,e=.returned (.tuple #[v,.int .i64 er])/\Ans w' w.heap.size v er (protN L qf qt) (chg (fun r=>r.may pa pb pc) qf qt L)/\bc w w':=by
 have CK:Hid (∀ W:World,IsL W base p L->Calls Tryz.prog 94 #[.slice p L.length c,rgV qf qt] W (re (.int .i64 (checkN L qf qt)) W)):=fun W h=>check_any base p c L hL qf qt W h
 have CC:Hid (∀ (W:World) (B0:Nat),B0<W.heap.size->IsPm W B0 pa pb pc->IsL W base p L->Calls Tryz.prog 98 #[.slice p L.length c,rgV qf qt,.func (.func 102) #[] #[.pointer (some ⟨B0,0,none⟩)]] W fun e w'=> ∃ v er,e=.returned (.tuple #[v,.int .i64 er])/\Res w' W.heap.size v er (chg (fun r=>r.may pa pb pc) qf qt L)/\bc W w'):=fun W B0 hB hp h=>change_prot p c L hL qf qt W (h.lowl (Nat.le_refl _)) B0 pa pb pc hB hp
 have HI:Hid (IsL w base p L):=h
 clear h
 have EP:Hid (protN L qf qt=if checkN L qf qt=0 then (if cntR qf qt L<qt-qf then 5 else 0) else checkN L qf qt):=rfl
 have CNH:Hid (checkN L qf qt=0-> ∀ W:World,IsL W base p L->Calls Tryz.prog 95 #[.slice p L.length c,rgV qf qt] W (re (.int .i64 (cntR qf qt L)) W)):=fun q W h=>count_any base p c L hL (good_num (check_zero q).2) qf qt W h
 have RI:Hid (checkN L qf qt=0->0<=qf/\qf<qt/\qt<=34359738368/\qt-qf<=65536):=fun q=>right_is (check_zero q).1
 obtain ⟨E,hE⟩: ∃ E,checkN L qf qt=E:=⟨_,rfl⟩
 obtain ⟨M,hM⟩: ∃ M,chg (fun r=>r.may pa pb pc) qf qt L=M:=⟨_,rfl⟩
 obtain ⟨N,hN⟩: ∃ N,cntR qf qt L=N:=⟨_,rfl⟩
 obtain ⟨EE,hEE⟩: ∃ x,protN L qf qt=x:=⟨_,rfl⟩
 rw [hE] at CK EP CNH RI
 rw [hM] at CC |-
 rw [hN] at EP CNH
 rw [hEE] at EP |-
 clear hE hM hN hEE
 obtain ⟨n,hn⟩: ∃ n,L.length=n:=⟨_,rfl⟩
 rw [hn] at CK CC CNH |-
 clear hn
 by_cases cz:E=0
 . subst cz
   have CN:Hid _:=CNH.out rfl
   obtain ⟨k1,k2,k3,k4⟩:=RI.out rfl
   have EQ:Hid (EE=if N<qt-qf then 5 else 0):=by
    have:=EP.out
    rw [if_pos rfl] at this;exact this
   clear CNH RI EP
   by_cases cn:N<qt-qf
   . have e5:EE=5:=by rw [EQ.out,if_pos cn]
     subst e5
     have A1:Hid (∀ W:World,Ans W w.heap.size (.slice none 0 0) 5 5 M):=fun W=>Or.inl ⟨by omega,rfl,rfl⟩
     clear EQ
     go_enter Tryz.func82,Tryz.ntmps82
     go_wp2_with fail
     refine (CK.out _ (HI.out.below (Go.Joins.below_alloc2 _ _ _))).mono ?_
     rintro e u1 ⟨rfl,hb1⟩
     have b0:u1.cell? ⟨w.heap.size,0,none⟩=some (.int .i64 qf):=(hb1.cell (p:=⟨w.heap.size,0,none⟩) kf1).trans (by simp)
     have b1:u1.cell? ⟨w.heap.size,1,none⟩=some (.int .i64 qt):=(hb1.cell (p:=⟨w.heap.size,1,none⟩) kf1).trans (by simp)
     have m0:u1.cell? ⟨w.heap.size+1,0,none⟩=some (.bool pa):=(hb1.cell (p:=⟨w.heap.size+1,0,none⟩) kg1).trans (by simp)
     have m1:u1.cell? ⟨w.heap.size+1,1,none⟩=some (.bool pb):=(hb1.cell (p:=⟨w.heap.size+1,1,none⟩) kg1).trans (by simp)
     have m2:u1.cell? ⟨w.heap.size+1,2,none⟩=some (.bool pc):=(hb1.cell (p:=⟨w.heap.size+1,2,none⟩) kg1).trans (by simp)
     have lw:w.heap.size+1<u1.heap.size:=nla (by rw [World.size_alloc,World.size_alloc];omega) hb1.size
     have B1:Hid (bc w u1):=below_then (Go.Joins.below_alloc2 _ _ _) hb1
     clear hb1
     go_wp2_with fail
     refine hda (fun c=>c.cell? ⟨w.heap.size,0,none⟩=some (.int .i64 qf)/\c.cell? ⟨w.heap.size,1,none⟩=some (.int .i64 qt)/\c.cell? ⟨w.heap.size+1,0,none⟩=some (.bool pa)/\c.cell? ⟨w.heap.size+1,1,none⟩=some (.bool pb)/\c.cell? ⟨w.heap.size+1,2,none⟩=some (.bool pc)) (⟨b0,b1,m0,m1,m2⟩) fun hHeld=> ?_
     refine tma 0 15 rfl ?_
     refine tla 1 16 (.agg #[.int .i64 qf,.int .i64 qt]) rfl ?_ ?_
     . exact kr
     refine tma 3 18 rfl ?_
     refine tma 4 19 rfl ?_
     refine tma 5 20 rfl ?_
     refine tma 6 21 rfl ?_
     refine tla 7 22 (.int .i64 (qt-qf)) rfl ?_ ?_
     . exact kq
     have BD:Hid (bc w u1.drew):=below_drew B1.out
     have lD:w.heap.size+1<u1.drew.heap.size:=lw
     clear B1 b0 b1 m0 m1 m2 lw
     generalize u1.drew=U at BD lD hHeld |-
     refine rda 2 ⟨some 17,_,_,_,_,none⟩ rfl fun K hK=> ?_
     go_simp
     go_wp2_with (go_at_call 95;refine (CN.out _ (HI.out.below BD.out)).mono ?_;rintro e u3 ⟨rfl,hb3⟩)
     have B3:Hid (bc w u3):=below_then BD.out hb3
     obtain ⟨i0,i1,i2,i3,i4⟩:=hHeld
     have l3:w.heap.size+1<u3.heap.size:=nla lD hb3.size
     have b0:u3.cell? ⟨w.heap.size,0,none⟩=some (.int .i64 qf):=(hb3.cell (p:=⟨w.heap.size,0,none⟩) kx).trans i0
     have b1:u3.cell? ⟨w.heap.size,1,none⟩=some (.int .i64 qt):=(hb3.cell (p:=⟨w.heap.size,1,none⟩) kx).trans i1
     have m0:u3.cell? ⟨w.heap.size+1,0,none⟩=some (.bool pa):=(hb3.cell (p:=⟨w.heap.size+1,0,none⟩) (by show w.heap.size+1<_;omega)).trans i2
     have m1:u3.cell? ⟨w.heap.size+1,1,none⟩=some (.bool pb):=(hb3.cell (p:=⟨w.heap.size+1,1,none⟩) (by show w.heap.size+1<_;omega)).trans i3
     have m2:u3.cell? ⟨w.heap.size+1,2,none⟩=some (.bool pc):=(hb3.cell (p:=⟨w.heap.size+1,2,none⟩) (by show w.heap.size+1<_;omega)).trans i4
     refine hK.out _ _ ⟨b0,b1,m0,m1,m2⟩ (fun hHeld=> ?_)
     clear hK K i0 i1 i2 i3 i4 hb3 BD lD
     try simp only [Act.put,zaa,zba,zca]
     refine tla 8 23 (.bool true) rfl ?_ ?_
     . exact kn
     clear hHeld
     refine wpAnyH_done kc ?_ _
     refine NoPanic.normal ?_
     go_wp2_with fail
     go_returns
     exact ⟨.slice none 0 0,5,rfl,A1.out _,B3.out⟩
   . have e5:EE=0:=by rw [EQ.out,if_neg cn]
     subst e5
     clear EQ
     go_enter Tryz.func82,Tryz.ntmps82
     go_wp2_with fail
     refine (CK.out _ (HI.out.below (Go.Joins.below_alloc2 _ _ _))).mono ?_
     rintro e u1 ⟨rfl,hb1⟩
     have b0:u1.cell? ⟨w.heap.size,0,none⟩=some (.int .i64 qf):=(hb1.cell (p:=⟨w.heap.size,0,none⟩) kf1).trans (by simp)
     have b1:u1.cell? ⟨w.heap.size,1,none⟩=some (.int .i64 qt):=(hb1.cell (p:=⟨w.heap.size,1,none⟩) kf1).trans (by simp)
     have m0:u1.cell? ⟨w.heap.size+1,0,none⟩=some (.bool pa):=(hb1.cell (p:=⟨w.heap.size+1,0,none⟩) kg1).trans (by simp)
     have m1:u1.cell? ⟨w.heap.size+1,1,none⟩=some (.bool pb):=(hb1.cell (p:=⟨w.heap.size+1,1,none⟩) kg1).trans (by simp)
     have m2:u1.cell? ⟨w.heap.size+1,2,none⟩=some (.bool pc):=(hb1.cell (p:=⟨w.heap.size+1,2,none⟩) kg1).trans (by simp)
     have lw:w.heap.size+1<u1.heap.size:=nla (by rw [World.size_alloc,World.size_alloc];omega) hb1.size
     have B1:Hid (bc w u1):=below_then (Go.Joins.below_alloc2 _ _ _) hb1
     clear hb1
     go_wp2_with fail
     refine hda (fun c=>c.cell? ⟨w.heap.size,0,none⟩=some (.int .i64 qf)/\c.cell? ⟨w.heap.size,1,none⟩=some (.int .i64 qt)/\c.cell? ⟨w.heap.size+1,0,none⟩=some (.bool pa)/\c.cell? ⟨w.heap.size+1,1,none⟩=some (.bool pb)/\c.cell? ⟨w.heap.size+1,2,none⟩=some (.bool pc)) (⟨b0,b1,m0,m1,m2⟩) fun hHeld=> ?_
     refine tma 0 15 rfl ?_
     refine tla 1 16 (.agg #[.int .i64 qf,.int .i64 qt]) rfl ?_ ?_
     . exact kr
     refine tma 3 18 rfl ?_
     refine tma 4 19 rfl ?_
     refine tma 5 20 rfl ?_
     refine tma 6 21 rfl ?_
     refine tla 7 22 (.int .i64 (qt-qf)) rfl ?_ ?_
     . exact kq
     have BD:Hid (bc w u1.drew):=below_drew B1.out
     have lD:w.heap.size+1<u1.drew.heap.size:=lw
     clear B1 b0 b1 m0 m1 m2 lw
     generalize u1.drew=U at BD lD hHeld |-
     refine rda 2 ⟨some 17,_,_,_,_,none⟩ rfl fun K hK=> ?_
     go_simp
     go_wp2_with (go_at_call 95;refine (CN.out _ (HI.out.below BD.out)).mono ?_;rintro e u3 ⟨rfl,hb3⟩)
     have B3:Hid (bc w u3):=below_then BD.out hb3
     obtain ⟨i0,i1,i2,i3,i4⟩:=hHeld
     have l3:w.heap.size+1<u3.heap.size:=nla lD hb3.size
     have b0:u3.cell? ⟨w.heap.size,0,none⟩=some (.int .i64 qf):=(hb3.cell (p:=⟨w.heap.size,0,none⟩) kx).trans i0
     have b1:u3.cell? ⟨w.heap.size,1,none⟩=some (.int .i64 qt):=(hb3.cell (p:=⟨w.heap.size,1,none⟩) kx).trans i1
     have m0:u3.cell? ⟨w.heap.size+1,0,none⟩=some (.bool pa):=(hb3.cell (p:=⟨w.heap.size+1,0,none⟩) (by show w.heap.size+1<_;omega)).trans i2
     have m1:u3.cell? ⟨w.heap.size+1,1,none⟩=some (.bool pb):=(hb3.cell (p:=⟨w.heap.size+1,1,none⟩) (by show w.heap.size+1<_;omega)).trans i3
     have m2:u3.cell? ⟨w.heap.size+1,2,none⟩=some (.bool pc):=(hb3.cell (p:=⟨w.heap.size+1,2,none⟩) (by show w.heap.size+1<_;omega)).trans i4
     refine hK.out _ _ ⟨b0,b1,m0,m1,m2⟩ (fun hHeld=> ?_)
     clear hK K i0 i1 i2 i3 i4 hb3 BD lD
     try simp only [Act.put,zaa,zba,zca]
     refine tla 8 23 (.bool false) rfl ?_ ?_
     . exact kn
     clear hHeld
     refine wpAnyH_done kc ?_ _
     refine NoPanic.normal ?_
     go_wp2_with fail
     refine (CC.out _ (w.heap.size+1) l3 ⟨m0,m1,m2⟩ (HI.out.below B3.out)).mono ?_
     rintro e u4 ⟨v,er,rfl,hr,hb4⟩
     have B4:Hid (bc w u4):=below_then B3.out hb4
     have A4:Hid (Ans u4 w.heap.size v er 0 M):=Or.inr ⟨rfl,hr.weak (by omega)⟩
     clear hr hb4
     go_wp2_with fail
     go_returns
     exact ⟨v,er,rfl,A4.out,B4.out⟩
 . have eb:(E==0)=false:=by simp [cz]
   have ee:EE=E:=by rw [EP.out,if_neg cz]
   subst ee
   have A1:Hid (∀ W:World,Ans W w.heap.size (.slice none 0 0) EE EE M):=fun W=>Or.inl ⟨cz,rfl,rfl⟩
   clear cz EP CNH RI
   go_enter Tryz.func82,Tryz.ntmps82
   go_wp2_with fail
   refine (CK.out _ (HI.out.below (Go.Joins.below_alloc2 _ _ _))).mono ?_
   rintro e u1 ⟨rfl,hb1⟩
   have B1:Hid (bc w u1):=below_then (Go.Joins.below_alloc2 _ _ _) hb1
   clear hb1
   go_wp2_with fail
   go_returns
   exact ⟨.slice none 0 0,EE,rfl,A1.out _,B1.out⟩
theorem add_any (base:Nat) (p:Option Addr) (c:Nat) (L:List Rg) (hL:L.length<=100) (hc:L.length<=c) (r:Rg) (w:World) (h:IsL w base p L) :
 Calls Tryz.prog 77 #[.slice p L.length c,r.val] w fun e w'=> ∃ v er,e=.returned (.tuple #[v,.int .i64 er])/\Ans w' w.heap.size v er (addN L r) (addL L r)/\bc w w':=by
 have HI:Hid (IsL w base p L):=h
 obtain ⟨r1,r2,r3,r4,r5,r6⟩:=r
 have CK:Hid (∀ W:World,IsL W base p L->Calls Tryz.prog 94 #[.slice p L.length c,rgV r1 r2] W (re (.int .i64 (checkN L r1 r2)) W)):=fun W h=>check_any base p c L hL r1 r2 W h
 have CNH:Hid (checkN L r1 r2=0-> ∀ W:World,IsL W base p L->Calls Tryz.prog 95 #[.slice p L.length c,rgV r1 r2] W (re (.int .i64 (cntR r1 r2 L)) W)):=fun q W h=>count_any base p c L hL (good_num (check_zero q).2) r1 r2 W h
 have WI:Hid (∀ (base:Nat) (v:Value) (M:List Rg),M.length<=1000-> ∀ (r:Rg) (W:World),base<=W.heap.size->OwnL W base v M->Calls Tryz.prog 96 #[v,r.val] W fun e w'=> ∃ v',e=.returned v'/\OwnL w' base v' (withL M r)/\WithK W w' v v'):=fun base v M hM r W hW ho=>with_any base v M hM r W hW ho
 have FY:Hid (∀ (q:Option Addr) (n d:Nat),n<=64-> ∀ W:World,Calls Tryz.prog 97 #[.slice q n d] W (re (.tuple #[.slice q n d,.int .i64 0]) W)):=fun q n d hn W=>few_yes q n d hn W
 have FN:Hid (∀ (q:Option Addr) (n d:Nat),64<n->n<=1000-> ∀ W:World,Calls Tryz.prog 97 #[.slice q n d] W (re (.tuple #[.slice none 0 0,.int .i64 4]) W)):=fun q n d hn hm W=>few_no q n d hn hm W
 have EP:Hid (addN L ⟨r1,r2,r3,r4,r5,r6⟩=if checkN L r1 r2=0 then (if 0<cntR r1 r2 L then 6 else 0) else checkN L r1 r2):=rfl
 obtain ⟨E,hE⟩: ∃ E,checkN L r1 r2=E:=⟨_,rfl⟩
 obtain ⟨N,hN⟩: ∃ N,cntR r1 r2 L=N:=⟨_,rfl⟩
 obtain ⟨EE,hEE⟩: ∃ x,addN L ⟨r1,r2,r3,r4,r5,r6⟩=x:=⟨_,rfl⟩
 obtain ⟨MM,hMM⟩: ∃ x,addL L ⟨r1,r2,r3,r4,r5,r6⟩=x:=⟨_,rfl⟩
 rw [hE] at CK EP CNH
 rw [hN] at EP CNH
 rw [hEE] at EP |-
 rw [hMM]
 have HM:Hid (addL L ⟨r1,r2,r3,r4,r5,r6⟩=MM):=hMM
 clear hE hN hEE hMM h
 by_cases cz:E=0
 rotate_left
 . have eb:(E==0)=false:=by simp [cz]
   have ee:EE=E:=by rw [EP.out,if_neg cz]
   subst ee
   have A1:Hid (∀ W:World,Ans W w.heap.size (.slice none 0 0) EE EE MM):=fun W=>Or.inl ⟨cz,rfl,rfl⟩
   clear cz EP CNH
   go_enter Tryz.func77,Tryz.ntmps77
   go_wp2_with fail
   refine (CK.out _ (HI.out.below baa)).mono ?_
   rintro e u1 ⟨rfl,hb1⟩
   have B1:Hid (bc w u1):=below_then baa hb1
   clear hb1
   go_wp2_with fail
   go_returns
   exact ⟨.slice none 0 0,EE,rfl,A1.out _,B1.out⟩
 subst cz
 have CN:Hid _:=CNH.out rfl
 have EQ:Hid (EE=if 0<N then 6 else 0):=by
  have:=EP.out
  rw [if_pos rfl] at this;exact this
 clear CNH EP
 go_enter Tryz.func77,Tryz.ntmps77
 go_wp2_with fail
 refine (CK.out _ (HI.out.below baa)).mono ?_
 rintro e u1 ⟨rfl,hb1⟩
 have F1:Hid (u1.heap[w.heap.size]? =some (.cells (s7 r1 r2 r3 r4 r5 r6) 126 (0,0))):=(hb1.block _ (by simp)).trans (own1 w _)
 have b0:u1.cell? ⟨w.heap.size,0,none⟩=some (.int .i64 r1):=Go.Joins.cell_of_block F1.out 0
 have b1:u1.cell? ⟨w.heap.size,1,none⟩=some (.int .i64 r2):=Go.Joins.cell_of_block F1.out 1
 have lw:w.heap.size<u1.heap.size:=blk_lt F1.out
 have B1:Hid (bc w u1):=below_then baa hb1
 clear hb1
 go_wp2_with fail
 refine (CN.out _ (HI.out.below B1.out)).mono ?_
 rintro e u2 ⟨rfl,hb2⟩
 have F2:Hid (u2.heap[w.heap.size]? =some (.cells (s7 r1 r2 r3 r4 r5 r6) 126 (0,0))):=(hb2.block _ lw).trans F1.out
 have B2:Hid (bc w u2):=below_then B1.out hb2
 clear hb2 b0 b1 lw F1 B1 CN CK
 by_cases cn:0<N
 . have e6:EE=6:=by rw [EQ.out,if_pos cn]
   subst e6
   have A1:Hid (∀ W:World,Ans W w.heap.size (.slice none 0 0) 6 6 MM):=fun W=>Or.inl ⟨by omega,rfl,rfl⟩
   have dn:decide (0<N)=true:=by simp [cn]
   go_wp2_with fail
   go_returns
   exact ⟨.slice none 0 0,6,rfl,A1.out _,B2.out⟩
 have e6:EE=0:=by rw [EQ.out,if_neg cn]
 subst e6
 have dn:decide (0<N)=false:=kg
 clear EQ cn
 have LO:Hid (LowL u2 u2.heap.size p L):=(HI.out.below B2.out).lowl (Nat.le_refl _)
 have lw2:w.heap.size<u2.heap.size:=blk_lt F2.out
 obtain ⟨b,hb⟩: ∃ b,u2.heap.size=b:=⟨_,rfl⟩
 rw [hb] at LO lw2
 have HB:Hid (u2.heap.size=b):=hb
 clear hb HI
 go_wp2_with fail
 go_loopw [7,8] (fun v x W=> ∃ k:Nat,k<=L.length/\x=.int .i64 k/\Hid (OwnL W b v (preL [] (L.take k)))/\Hid (Below b u2 W)/\Hid (∀ j,j<k->(L.getD j Rg.zero).tt<=r1)) (fun _ x _=>L.length-(intOf x).toNat)
 case atStart=>exact ⟨0,by omega,rfl,⟨by simp [preL],Or.inl ⟨rfl,rfl⟩⟩,Below.refl _ _,fun j hj=>absurd hj (Nat.not_lt_zero _)⟩
 case round =>
  obtain ⟨k,hk,rfl,hO,hW,hJ⟩:=hrel
  have lb:b<=wr.heap.size:=by have:=hW.out.size;rw [HB.out] at this;exact this
  have FW:Hid (wr.heap[w.heap.size]? =some (.cells (s7 r1 r2 r3 r4 r5 r6) 126 (0,0))):=(hW.out.block _ lw2).trans F2.out
  have lww:w.heap.size<wr.heap.size:=blk_lt FW.out
  have x0:wr.cell? ⟨w.heap.size,0,none⟩=some (.int .i64 r1):=Go.Joins.cell_of_block FW.out 0
  have x1:wr.cell? ⟨w.heap.size,1,none⟩=some (.int .i64 r2):=Go.Joins.cell_of_block FW.out 1
  have x2:wr.cell? ⟨w.heap.size,2,none⟩=some (.bool r3):=Go.Joins.cell_of_block FW.out 2
  have x3:wr.cell? ⟨w.heap.size,3,none⟩=some (.bool r4):=Go.Joins.cell_of_block FW.out 3
  have x4:wr.cell? ⟨w.heap.size,4,none⟩=some (.bool r5):=Go.Joins.cell_of_block FW.out 4
  have x5:wr.cell? ⟨w.heap.size,5,none⟩=some (.int .i64 r6):=Go.Joins.cell_of_block FW.out 5
  by_cases hlk:k<L.length
  . obtain ⟨gl,ep,gl1,gc⟩:=(LO.out.low hW.out) k hlk
    subst ep
    have NX:Hid (preL [] (L.take (k+1))=withL (preL [] (L.take k)) (L.getD k Rg.zero)):=pre_next [] L k hlk
    have QE:Hid ((L.getD k Rg.zero).tt=(L.getD k Rg.zero).tt):=rfl
    obtain ⟨rr,hrr⟩: ∃ rr,L.getD k Rg.zero=rr:=⟨_,rfl⟩
    rw [hrr] at gc NX QE
    have HR:Hid (L.getD k Rg.zero=rr):=hrr
    clear hrr QE
    obtain ⟨q1,q2,q3,q4,q5,q6⟩:=rr
    have QE:Hid ((L.getD k Rg.zero).tt=q2):=by show _=_;rw [HR.out]
    have y0:wr.cell? ⟨gl,k*6,none⟩=some (.int .i64 q1):=gc 0 _ rfl
    have y1:wr.cell? ⟨gl,k*6+1,none⟩=some (.int .i64 q2):=gc 1 _ rfl
    have y2:wr.cell? ⟨gl,k*6+2,none⟩=some (.bool q3):=gc 2 _ rfl
    have y3:wr.cell? ⟨gl,k*6+3,none⟩=some (.bool q4):=gc 3 _ rfl
    have y4:wr.cell? ⟨gl,k*6+4,none⟩=some (.bool q5):=gc 4 _ rfl
    have y5:wr.cell? ⟨gl,k*6+5,none⟩=some (.int .i64 q6):=gc 5 _ rfl
    clear gc
    have glw:gl<wr.heap.size:=by omega
    by_cases cq:q2<=r1
    . have PL:Hid ((preL [] (L.take k)).length<=100):=by have:=pre_len [] L k hk;simp at this;exact Nat.le_trans this (by omega)
      go_wp2_with fail
      refine hda (fun c=>c.cell? ⟨w.heap.size,0,none⟩=some (.int .i64 r1)/\c.cell? ⟨gl,k*6+1,none⟩=some (.int .i64 q2)) (⟨x0,y1⟩) fun hHeld=> ?_
      refine tma 0 23 rfl ?_
      try simp only [Act.put,zaa,zba,zca]
      refine tma 1 24 rfl ?_
      try simp only [Act.put,zaa,zba,zca]
      refine tma 2 25 rfl ?_
      try simp only [Act.put,zaa,zba,zca]
      refine tla 3 26 (.bool true) rfl ?_ ?_
      . exact kn
      try simp only [Act.put,zaa,zba,zca]
      refine tma 4 27 rfl ?_
      try simp only [Act.put,zaa,zba,zca]
      refine wpAnyH_take (i:=5) (oi:=⟨some 28,_,_,_,_,some (4,true)⟩) (v:= ?_) rfl kc kc kc (fun _ _ _ h=>h) (Or.inl ⟨by rfl,?_⟩) kj ?_
      rotate_left
      . exact kp
      try simp only [Act.put,zaa,zba,zca]
      refine wpAnyH_take (i:=6) (oi:=⟨some 29,_,_,_,_,some (4,true)⟩) (v:= ?_) rfl kc kc kc (fun _ _ _ h=>h) (Or.inl ⟨by rfl,?_⟩) kj ?_
      rotate_left
      . exact kp
      try simp only [Act.put,zaa,zba,zca]
      refine wpAnyH_take (i:=7) (oi:=⟨some 30,_,_,_,_,some (4,true)⟩) (v:=(.pointer (some ⟨gl,k*6,none⟩))) rfl kc kc kc (fun _ _ _ h=>h) (Or.inl ⟨by rfl,?_⟩) kj ?_
      . intro w hSw;(try dsimp only at hSw);go_simp;(try simp [hlk]);(try omega)
      try simp only [Act.put,zaa,zba,zca]
      refine wpAnyH_take (i:=8) (oi:=⟨some 31,_,_,_,_,some (4,true)⟩) (v:= ?_) rfl kc kc kc (fun _ _ _ h=>h) (Or.inl ⟨by rfl,?_⟩) kj ?_
      rotate_left
      . exact kp
      try simp only [Act.put,zaa,zba,zca]
      refine wpAnyH_take (i:=9) (oi:=⟨some 32,_,_,_,_,some (4,true)⟩) (v:= ?_) rfl kc kc kc (fun _ _ _ h=>h) (Or.inl ⟨by rfl,?_⟩) kj ?_
      rotate_left
      . exact kp
      try simp only [Act.put,zaa,zba,zca]
      refine wpAnyH_take (i:=10) (oi:=⟨some 33,_,_,_,_,some (4,true)⟩) (v:=.int .i64 q2) rfl kc kc kc (fun _ _ _ h=>h) (Or.inl ⟨by rfl,?_⟩) kj ?_
      . exact kr
      try simp only [Act.put,zaa,zba,zca]
      refine wpAnyH_take (i:=11) (oi:=⟨some 34,_,_,_,_,some (4,true)⟩) (v:= ?_) rfl kc kc kc (fun _ _ _ h=>h) (Or.inl ⟨by rfl,?_⟩) kj ?_
      rotate_left
      . exact kp
      try simp only [Act.put,zaa,zba,zca]
      refine wpAnyH_take (i:=12) (oi:=⟨some 35,_,_,_,_,some (4,true)⟩) (v:= ?_) rfl kc kc kc (fun _ _ _ h=>h) (Or.inl ⟨by rfl,?_⟩) kj ?_
      rotate_left
      . exact kp
      try simp only [Act.put,zaa,zba,zca]
      refine wpAnyH_take (i:=13) (oi:=⟨some 36,_,_,_,_,some (4,true)⟩) (v:=.int .i64 r1) rfl kc kc kc (fun _ _ _ h=>h) (Or.inl ⟨by rfl,?_⟩) kj ?_
      . exact kr
      try simp only [Act.put,zaa,zba,zca]
      refine wpAnyH_take (i:=14) (oi:=⟨some 37,_,_,_,_,some (4,true)⟩) (v:=.bool true) rfl kc kc kc (fun _ _ _ h=>h) (Or.inl ⟨by rfl,?_⟩) kj ?_
      . exact kn
      try simp only [Act.put,zaa,zba,zca]
      refine tma 15 38 rfl ?_
      try simp only [Act.put,zaa,zba,zca]
      clear hHeld
      refine wpAnyH_done kc ?_ _
      refine NoPanic.normal ?_
      have OV:Hid (OwnL wr.drew b u7 (preL [] (L.take k))):=OwnL.below hO.out (below_drew (Below.refl _ _))
      have BV:Hid (Below b u2 wr.drew):=below_drew hW.out
      have FV:Hid (wr.drew.heap[w.heap.size]? =some (.cells (s7 r1 r2 r3 r4 r5 r6) 126 (0,0))):=FW.out
      have lV:b<=wr.drew.heap.size:=lb
      have z0:wr.drew.cell? ⟨gl,k*6,none⟩=some (.int .i64 q1):=y0
      have z1:wr.drew.cell? ⟨gl,k*6+1,none⟩=some (.int .i64 q2):=y1
      have z2:wr.drew.cell? ⟨gl,k*6+2,none⟩=some (.bool q3):=y2
      have z3:wr.drew.cell? ⟨gl,k*6+3,none⟩=some (.bool q4):=y3
      have z4:wr.drew.cell? ⟨gl,k*6+4,none⟩=some (.bool q5):=y4
      have z5:wr.drew.cell? ⟨gl,k*6+5,none⟩=some (.int .i64 q6):=y5
      clear x0 x1 x2 x3 x4 x5 y0 y1 y2 y3 y4 y5 hO hW FW lww lb
      generalize wr.drew=V at OV BV FV lV z0 z1 z2 z3 z4 z5 |-
      have glv:gl<V.heap.size:=by omega
      go_wp2_with fail
      refine (WI.out b u7 _ (Nat.le_trans PL.out (by omega)) ⟨q1,q2,q3,q4,q5,q6⟩ _ lV OV.out).mono ?_
      rintro e u3 ⟨v1,rfl,ho,hk1⟩
      have O3:Hid (OwnL u3 b v1 (preL [] (L.take (k+1)))):=by show OwnL _ _ _ _;rw [NX.out];exact ho
      have B3:Hid (Below b u2 u3):=BV.out.trans (hk1.below OV.out lV)
      have J3:Hid (∀ j,j<k+1->(L.getD j Rg.zero).tt<=r1):=fun j hj=>by
       by_cases c:j=k
       . subst c;rw [QE.out];exact cq
       . exact hJ.out j (by omega)
      clear ho hk1
      go_wp2_with fail
      go_roundw
      case rel=>exact ⟨k+1,by omega,by go_num,O3,B3,J3⟩
      case measure=>simp [intOf];omega
    . replace cq:r1<q2:=by omega
      go_wp2_with fail
      refine hda (fun c=>c.cell? ⟨w.heap.size,0,none⟩=some (.int .i64 r1)/\c.cell? ⟨gl,k*6+1,none⟩=some (.int .i64 q2)) (⟨x0,y1⟩) fun hHeld=> ?_
      refine tma 0 23 rfl ?_
      try simp only [Act.put,zaa,zba,zca]
      refine tma 1 24 rfl ?_
      try simp only [Act.put,zaa,zba,zca]
      refine tma 2 25 rfl ?_
      try simp only [Act.put,zaa,zba,zca]
      refine tla 3 26 (.bool true) rfl ?_ ?_
      . exact kn
      try simp only [Act.put,zaa,zba,zca]
      refine tma 4 27 rfl ?_
      try simp only [Act.put,zaa,zba,zca]
      refine wpAnyH_take (i:=5) (oi:=⟨some 28,_,_,_,_,some (4,true)⟩) (v:= ?_) rfl kc kc kc (fun _ _ _ h=>h) (Or.inl ⟨by rfl,?_⟩) kj ?_
      rotate_left
      . exact kp
      try simp only [Act.put,zaa,zba,zca]
      refine wpAnyH_take (i:=6) (oi:=⟨some 29,_,_,_,_,some (4,true)⟩) (v:= ?_) rfl kc kc kc (fun _ _ _ h=>h) (Or.inl ⟨by rfl,?_⟩) kj ?_
      rotate_left
      . exact kp
      try simp only [Act.put,zaa,zba,zca]
      refine wpAnyH_take (i:=7) (oi:=⟨some 30,_,_,_,_,some (4,true)⟩) (v:=(.pointer (some ⟨gl,k*6,none⟩))) rfl kc kc kc (fun _ _ _ h=>h) (Or.inl ⟨by rfl,?_⟩) kj ?_
      . intro w hSw;(try dsimp only at hSw);go_simp;(try simp [hlk]);(try omega)
      try simp only [Act.put,zaa,zba,zca]
      refine wpAnyH_take (i:=8) (oi:=⟨some 31,_,_,_,_,some (4,true)⟩) (v:= ?_) rfl kc kc kc (fun _ _ _ h=>h) (Or.inl ⟨by rfl,?_⟩) kj ?_
      rotate_left
      . exact kp
      try simp only [Act.put,zaa,zba,zca]
      refine wpAnyH_take (i:=9) (oi:=⟨some 32,_,_,_,_,some (4,true)⟩) (v:= ?_) rfl kc kc kc (fun _ _ _ h=>h) (Or.inl ⟨by rfl,?_⟩) kj ?_
      rotate_left
      . exact kp
      try simp only [Act.put,zaa,zba,zca]
      refine wpAnyH_take (i:=10) (oi:=⟨some 33,_,_,_,_,some (4,true)⟩) (v:=.int .i64 q2) rfl kc kc kc (fun _ _ _ h=>h) (Or.inl ⟨by rfl,?_⟩) kj ?_
      . exact kr
      try simp only [Act.put,zaa,zba,zca]
      refine wpAnyH_take (i:=11) (oi:=⟨some 34,_,_,_,_,some (4,true)⟩) (v:= ?_) rfl kc kc kc (fun _ _ _ h=>h) (Or.inl ⟨by rfl,?_⟩) kj ?_
      rotate_left
      . exact kp
      try simp only [Act.put,zaa,zba,zca]
      refine wpAnyH_take (i:=12) (oi:=⟨some 35,_,_,_,_,some (4,true)⟩) (v:= ?_) rfl kc kc kc (fun _ _ _ h=>h) (Or.inl ⟨by rfl,?_⟩) kj ?_
      rotate_left
      . exact kp
      try simp only [Act.put,zaa,zba,zca]
      refine wpAnyH_take (i:=13) (oi:=⟨some 36,_,_,_,_,some (4,true)⟩) (v:=.int .i64 r1) rfl kc kc kc (fun _ _ _ h=>h) (Or.inl ⟨by rfl,?_⟩) kj ?_
      . exact kr
      try simp only [Act.put,zaa,zba,zca]
      refine wpAnyH_take (i:=14) (oi:=⟨some 37,_,_,_,_,some (4,true)⟩) (v:=.bool false) rfl kc kc kc (fun _ _ _ h=>h) (Or.inl ⟨by rfl,?_⟩) kj ?_
      . exact kn
      try simp only [Act.put,zaa,zba,zca]
      refine tma 15 38 rfl ?_
      try simp only [Act.put,zaa,zba,zca]
      clear hHeld
      refine wpAnyH_done kc ?_ _
      refine NoPanic.normal ?_
      have OV:Hid (OwnL wr.drew b u7 (preL [] (L.take k))):=OwnL.below hO.out (below_drew (Below.refl _ _))
      have BV:Hid (Below b u2 wr.drew):=below_drew hW.out
      have FV:Hid (wr.drew.heap[w.heap.size]? =some (.cells (s7 r1 r2 r3 r4 r5 r6) 126 (0,0))):=FW.out
      have lV:b<=wr.drew.heap.size:=lb
      clear x0 x1 x2 x3 x4 x5 y0 y1 y2 y3 y4 y5 hO hW FW lww lb
      generalize wr.drew=V at OV BV FV lV |-
      have AN:aheadN L r1=k:=ahead_is r1 L k hk hJ.out (Or.inr (by rw [QE.out];exact cq))
      have EM:Hid (MM=preL (withL (preL [] (L.take k)) ⟨r1,r2,r3,r4,r5,r6⟩) (L.drop k)):=by show _=_;rw [<- HM.out];unfold addL;simp only;rw [AN]
      have PL:Hid ((preL [] (L.take k)).length<=100):=by have:=pre_len [] L k hk;simp at this;exact Nat.le_trans this (by omega)
      clear AN hJ HM
      have x0:V.cell? ⟨w.heap.size,0,none⟩=some (.int .i64 r1):=Go.Joins.cell_of_block FV.out 0
      have x1:V.cell? ⟨w.heap.size,1,none⟩=some (.int .i64 r2):=Go.Joins.cell_of_block FV.out 1
      have x2:V.cell? ⟨w.heap.size,2,none⟩=some (.bool r3):=Go.Joins.cell_of_block FV.out 2
      have x3:V.cell? ⟨w.heap.size,3,none⟩=some (.bool r4):=Go.Joins.cell_of_block FV.out 3
      have x4:V.cell? ⟨w.heap.size,4,none⟩=some (.bool r5):=Go.Joins.cell_of_block FV.out 4
      have x5:V.cell? ⟨w.heap.size,5,none⟩=some (.int .i64 r6):=Go.Joins.cell_of_block FV.out 5
      have lv:w.heap.size<V.heap.size:=blk_lt FV.out
      generalize preL [] (L.take k)=P at OV EM PL
      go_wp2_with fail
      refine (WI.out b u7 P (Nat.le_trans PL.out (by omega)) ⟨r1,r2,r3,r4,r5,r6⟩ _ lV OV.out).mono ?_
      rintro e u3 ⟨v1,rfl,ho,hk1⟩
      have O3:Hid (OwnL u3 b v1 (withL P ⟨r1,r2,r3,r4,r5,r6⟩)):=ho
      have B3:Hid (Below b u2 u3):=BV.out.trans (hk1.below OV.out lV)
      have LQ:Hid ((withL P ⟨r1,r2,r3,r4,r5,r6⟩).length<=101):=by have:=withL_len P ⟨r1,r2,r3,r4,r5,r6⟩;have:=PL.out;show _<=_;omega
      generalize withL P ⟨r1,r2,r3,r4,r5,r6⟩=Q at O3 EM LQ
      clear ho hk1 x0 x1 x2 x3 x4 x5 lv OV BV FV lV PL
      go_wp2_with fail
      generalize hdd:L.length-k=dd
      go_loopw [7,54] (fun v x W=> ∃ j:Nat,j<=dd/\x=.int .i64 j/\Hid (OwnL W b v (preL Q ((L.drop k).take j)))/\Hid (Below b u2 W)) (fun _ x _=>dd-(intOf x).toNat)
      case atStart=>exact ⟨0,by omega,rfl,O3,B3⟩
      case round =>
       obtain ⟨j,hj,rfl,hO4,hW4⟩:=hrel
       have dl:(L.drop k).length=dd:=by rw [List.length_drop];exact hdd
       have PL4:Hid ((preL Q ((L.drop k).take j)).length<=201):=by have h1:=pre_len Q (L.drop k) j (by omega);have h2:=LQ.out;show _<=_;omega
       have lb4:b<=wr.heap.size:=by have:=hW4.out.size;rw [HB.out] at this;exact this
       by_cases hlj:j<dd
       . have hdj:decide ((j:Int)<(dd:Int))=true:=by simp;omega
         obtain ⟨g',ge,gl2,gc⟩:=(LO.out.low hW4.out) (k+j) (by omega)
         obtain rfl:g'=gl:=by cases ge;rfl
         have NX4:Hid (preL Q ((L.drop k).take (j+1))=withL (preL Q ((L.drop k).take j)) (L.getD (k+j) Rg.zero)):=by
          show _=_
          rw [pre_next Q (L.drop k) j (by omega)]
          congr 1
          simp [List.getD,List.getElem?_drop]
         generalize L.getD (k+j) Rg.zero=rr at gc NX4
         obtain ⟨s1,s2,s3,s4,s5,s6⟩:=rr
         have t0:wr.cell? ⟨g',k*6+j*6,none⟩=some (.int .i64 s1):=by have:=gc 0 _ rfl;rw [show (k+j)*6+0=k*6+j*6 by omega] at this;exact this
         have t1:wr.cell? ⟨g',k*6+j*6+1,none⟩=some (.int .i64 s2):=by have:=gc 1 _ rfl;rw [show (k+j)*6+1=k*6+j*6+1 by omega] at this;exact this
         have t2:wr.cell? ⟨g',k*6+j*6+2,none⟩=some (.bool s3):=by have:=gc 2 _ rfl;rw [show (k+j)*6+2=k*6+j*6+2 by omega] at this;exact this
         have t3:wr.cell? ⟨g',k*6+j*6+3,none⟩=some (.bool s4):=by have:=gc 3 _ rfl;rw [show (k+j)*6+3=k*6+j*6+3 by omega] at this;exact this
         have t4:wr.cell? ⟨g',k*6+j*6+4,none⟩=some (.bool s5):=by have:=gc 4 _ rfl;rw [show (k+j)*6+4=k*6+j*6+4 by omega] at this;exact this
         have t5:wr.cell? ⟨g',k*6+j*6+5,none⟩=some (.int .i64 s6):=by have:=gc 5 _ rfl;rw [show (k+j)*6+5=k*6+j*6+5 by omega] at this;exact this
         clear gc ge
         have glw4:g'<wr.heap.size:=by omega
         have O5:Hid (OwnL (wr.alloc (.cells (s7 s1 s2 s3 s4 s5 s6) 126)) b u7 (preL Q ((L.drop k).take j))):=OwnL.below hO4.out baa
         have B5:Hid (Below b u2 (wr.alloc (.cells (s7 s1 s2 s3 s4 s5 s6) 126))):=hW4.out.trans (Go.Joins.below_le baa lb4)
         have lb5:b<=(wr.alloc (.cells (s7 s1 s2 s3 s4 s5 s6) 126)).heap.size:=by rw [World.size_alloc];omega
         go_wp2_with fail
         refine (WI.out b u7 _ (Nat.le_trans PL4.out (by omega)) ⟨s1,s2,s3,s4,s5,s6⟩ _ lb5 O5.out).mono ?_
         rintro e u6 ⟨v2,rfl,ho,hk2⟩
         have O6:Hid (OwnL u6 b v2 (preL Q ((L.drop k).take (j+1)))):=by show OwnL _ _ _ _;rw [NX4.out];exact ho
         have B6:Hid (Below b u2 u6):=B5.out.trans (hk2.below O5.out lb5)
         clear ho hk2
         go_wp2_with fail
         go_roundw
         case rel=>exact ⟨j+1,by omega,by go_num,O6,B6⟩
         case measure=>simp [intOf];omega
       . obtain rfl:j=dd:=by omega
         have EF:Hid (MM=preL Q ((L.drop k).take j)):=by show _=_;rw [EM.out,<- dl,List.take_length]
         clear EM
         generalize preL Q ((L.drop k).take j)=QQ at hO4 EF PL4
         obtain ⟨q,d,ev,hq⟩:=own_read hO4.out
         clear hq
         obtain ⟨n,hn⟩: ∃ n,QQ.length=n:=⟨_,rfl⟩
         have HN:Hid (QQ.length=n):=hn
         rw [hn] at ev PL4
         clear hn
         subst ev
         by_cases few:n<=64
         . go_wp2_with fail
           refine (FY.out _ _ _ few _).mono ?_
           rintro e u9 ⟨rfl,hb9⟩
           have B9:Hid (bc w u9):=below_then (B2.out.trans (Go.Joins.below_le hW4.out (by omega))) hb9
           have R9:Hid (Ans u9 w.heap.size (.slice q n d) 0 0 MM):=Or.inr ⟨rfl,Or.inl ⟨by rw [EF.out,HN.out];exact few,rfl,by rw [EF.out];exact Go.Joins.ownsRow_le (OwnL.below hO4.out hb9) (by omega)⟩⟩
           clear hb9
           go_wp2_with fail
           go_returns
           exact ⟨.slice q n d,0,rfl,R9.out,B9.out⟩
         . go_wp2_with fail
           refine (FN.out _ _ _ (by omega) (Nat.le_trans PL4.out (by omega)) _).mono ?_
           rintro e u9 ⟨rfl,hb9⟩
           have B9:Hid (bc w u9):=below_then (B2.out.trans (Go.Joins.below_le hW4.out (by omega))) hb9
           have R9:Hid (Ans u9 w.heap.size (.slice none 0 0) 4 0 MM):=Or.inr ⟨rfl,Or.inr ⟨by rw [EF.out,HN.out];omega,rfl,rfl⟩⟩
           clear hb9
           go_wp2_with fail
           go_returns
           exact ⟨.slice none 0 0,4,rfl,R9.out,B9.out⟩
  . have hkn:k=L.length:=by omega
    go_wp2_with fail
    refine hda (fun c=>c.cell? ⟨w.heap.size,0,none⟩=some (.int .i64 r1)) x0 fun hHeld=> ?_
    refine tma 0 23 rfl ?_
    try simp only [Act.put,zaa,zba,zca]
    refine tma 1 24 rfl ?_
    try simp only [Act.put,zaa,zba,zca]
    refine tma 2 25 rfl ?_
    try simp only [Act.put,zaa,zba,zca]
    refine tla 3 26 (.bool false) rfl ?_ ?_
    . exact kn
    try simp only [Act.put,zaa,zba,zca]
    refine tma 4 27 rfl ?_
    try simp only [Act.put,zaa,zba,zca]
    refine wpAnyH_take (i:=5) (oi:=⟨some 28,_,_,_,_,some (4,true)⟩) (v:=undef) rfl kc kc kc (fun _ _ _ h=>h) (Or.inr ⟨by rfl,rfl⟩) kj ?_
    try simp only [Act.put,zaa,zba,zca]
    refine wpAnyH_take (i:=6) (oi:=⟨some 29,_,_,_,_,some (4,true)⟩) (v:=undef) rfl kc kc kc (fun _ _ _ h=>h) (Or.inr ⟨by rfl,rfl⟩) kj ?_
    try simp only [Act.put,zaa,zba,zca]
    refine wpAnyH_take (i:=7) (oi:=⟨some 30,_,_,_,_,some (4,true)⟩) (v:=undef) rfl kc kc kc (fun _ _ _ h=>h) (Or.inr ⟨by rfl,rfl⟩) kj ?_
    try simp only [Act.put,zaa,zba,zca]
    refine wpAnyH_take (i:=8) (oi:=⟨some 31,_,_,_,_,some (4,true)⟩) (v:=undef) rfl kc kc kc (fun _ _ _ h=>h) (Or.inr ⟨by rfl,rfl⟩) kj ?_
    try simp only [Act.put,zaa,zba,zca]
    refine wpAnyH_take (i:=9) (oi:=⟨some 32,_,_,_,_,some (4,true)⟩) (v:=undef) rfl kc kc kc (fun _ _ _ h=>h) (Or.inr ⟨by rfl,rfl⟩) kj ?_
    try simp only [Act.put,zaa,zba,zca]
    refine wpAnyH_take (i:=10) (oi:=⟨some 33,_,_,_,_,some (4,true)⟩) (v:=undef) rfl kc kc kc (fun _ _ _ h=>h) (Or.inr ⟨by rfl,rfl⟩) kj ?_
    try simp only [Act.put,zaa,zba,zca]
    refine wpAnyH_take (i:=11) (oi:=⟨some 34,_,_,_,_,some (4,true)⟩) (v:=undef) rfl kc kc kc (fun _ _ _ h=>h) (Or.inr ⟨by rfl,rfl⟩) kj ?_
    try simp only [Act.put,zaa,zba,zca]
    refine wpAnyH_take (i:=12) (oi:=⟨some 35,_,_,_,_,some (4,true)⟩) (v:=undef) rfl kc kc kc (fun _ _ _ h=>h) (Or.inr ⟨by rfl,rfl⟩) kj ?_
    try simp only [Act.put,zaa,zba,zca]
    refine wpAnyH_take (i:=13) (oi:=⟨some 36,_,_,_,_,some (4,true)⟩) (v:=undef) rfl kc kc kc (fun _ _ _ h=>h) (Or.inr ⟨by rfl,rfl⟩) kj ?_
    try simp only [Act.put,zaa,zba,zca]
    refine wpAnyH_take (i:=14) (oi:=⟨some 37,_,_,_,_,some (4,true)⟩) (v:=undef) rfl kc kc kc (fun _ _ _ h=>h) (Or.inr ⟨by rfl,rfl⟩) kj ?_
    try simp only [Act.put,zaa,zba,zca]
    refine tma 15 38 rfl ?_
    try simp only [Act.put,zaa,zba,zca]
    clear hHeld
    refine wpAnyH_done kc ?_ _
    refine NoPanic.normal ?_
    have OV:Hid (OwnL wr.drew b u7 (preL [] (L.take k))):=OwnL.below hO.out (below_drew (Below.refl _ _))
    have BV:Hid (Below b u2 wr.drew):=below_drew hW.out
    have FV:Hid (wr.drew.heap[w.heap.size]? =some (.cells (s7 r1 r2 r3 r4 r5 r6) 126 (0,0))):=FW.out
    have lV:b<=wr.drew.heap.size:=lb
    clear x0 x1 x2 x3 x4 x5  hO hW FW lww lb
    generalize wr.drew=V at OV BV FV lV |-
    have AN:aheadN L r1=k:=ahead_is r1 L k hk hJ.out (Or.inl hkn)
    have EM:Hid (MM=preL (withL (preL [] (L.take k)) ⟨r1,r2,r3,r4,r5,r6⟩) (L.drop k)):=by show _=_;rw [<- HM.out];unfold addL;simp only;rw [AN]
    have PL:Hid ((preL [] (L.take k)).length<=100):=by have:=pre_len [] L k hk;simp at this;exact Nat.le_trans this (by omega)
    clear AN hJ HM
    have x0:V.cell? ⟨w.heap.size,0,none⟩=some (.int .i64 r1):=Go.Joins.cell_of_block FV.out 0
    have x1:V.cell? ⟨w.heap.size,1,none⟩=some (.int .i64 r2):=Go.Joins.cell_of_block FV.out 1
    have x2:V.cell? ⟨w.heap.size,2,none⟩=some (.bool r3):=Go.Joins.cell_of_block FV.out 2
    have x3:V.cell? ⟨w.heap.size,3,none⟩=some (.bool r4):=Go.Joins.cell_of_block FV.out 3
    have x4:V.cell? ⟨w.heap.size,4,none⟩=some (.bool r5):=Go.Joins.cell_of_block FV.out 4
    have x5:V.cell? ⟨w.heap.size,5,none⟩=some (.int .i64 r6):=Go.Joins.cell_of_block FV.out 5
    have lv:w.heap.size<V.heap.size:=blk_lt FV.out
    generalize preL [] (L.take k)=P at OV EM PL
    go_wp2_with fail
    refine (WI.out b u7 P (Nat.le_trans PL.out (by omega)) ⟨r1,r2,r3,r4,r5,r6⟩ _ lV OV.out).mono ?_
    rintro e u3 ⟨v1,rfl,ho,hk1⟩
    have O3:Hid (OwnL u3 b v1 (withL P ⟨r1,r2,r3,r4,r5,r6⟩)):=ho
    have B3:Hid (Below b u2 u3):=BV.out.trans (hk1.below OV.out lV)
    have LQ:Hid ((withL P ⟨r1,r2,r3,r4,r5,r6⟩).length<=101):=by have:=withL_len P ⟨r1,r2,r3,r4,r5,r6⟩;have:=PL.out;show _<=_;omega
    generalize withL P ⟨r1,r2,r3,r4,r5,r6⟩=Q at O3 EM LQ
    clear ho hk1 x0 x1 x2 x3 x4 x5 lv OV BV FV lV PL
    have EF:Hid (MM=Q):=by show _=_;rw [EM.out,hkn,List.drop_length];rfl
    clear EM
    go_wp2_with fail
    all_goals
     refine wp_loop_rounds 1 ?_
     rw [rounds_succ]
     obtain ⟨q,d,ev,hq⟩:=own_read O3.out
     clear hq
     obtain ⟨n,hn⟩: ∃ n,Q.length=n:=⟨_,rfl⟩
     have HN:Hid (Q.length=n):=hn
     rw [hn] at ev LQ
     clear hn
     subst ev
     by_cases few:n<=64
     . go_wp2_with fail
       refine (FY.out _ _ _ few _).mono ?_
       rintro e u9 ⟨rfl,hb9⟩
       have B9:Hid (bc w u9):=below_then (B2.out.trans (Go.Joins.below_le B3.out (by omega))) hb9
       have R9:Hid (Ans u9 w.heap.size (.slice q n d) 0 0 MM):=Or.inr ⟨rfl,Or.inl ⟨by rw [EF.out,HN.out];exact few,rfl,by rw [EF.out];exact Go.Joins.ownsRow_le (OwnL.below O3.out hb9) (by omega)⟩⟩
       clear hb9
       go_wp2_with fail
       go_returns
       exact ⟨.slice q n d,0,rfl,R9.out,B9.out⟩
     . go_wp2_with fail
       refine (FN.out _ _ _ (by omega) (Nat.le_trans LQ.out (by omega)) _).mono ?_
       rintro e u9 ⟨rfl,hb9⟩
       have B9:Hid (bc w u9):=below_then (B2.out.trans (Go.Joins.below_le B3.out (by omega))) hb9
       have R9:Hid (Ans u9 w.heap.size (.slice none 0 0) 4 0 MM):=Or.inr ⟨rfl,Or.inr ⟨by rw [EF.out,HN.out];omega,rfl,rfl⟩⟩
       clear hb9
       go_wp2_with fail
       go_returns
       exact ⟨.slice none 0 0,4,rfl,R9.out,B9.out⟩
def errA (E:Int) (M:List Rg):Int:=if E=0 then (if M.length<=64 then 0 else 4) else E
def outL (E:Int) (M:List Rg):List Rg:=if errA E M=0 then M else []
def aw1:List Rg:=[⟨0,4,true,false,false,0⟩]
def aw2:List Rg:=[⟨0,6,true,false,false,0⟩]
def aw3:List Rg:=[⟨0,1,true,false,false,0⟩,⟨2,6,true,false,false,0⟩]
structure Ac where
 how:Int
 fr:Int
 til:Int
 w:Bool
 u:Bool
 x:Bool
 kd:Int
abbrev Ac.val (a:Ac):Value:=.agg #[.int .i64 a.how,.int .i64 a.fr,.int .i64 a.til,.bool a.w,.bool a.u,.bool a.x,.int .i64 a.kd]
def Ac.rg (a:Ac):Rg:=⟨a.fr,a.til,a.w,a.u,a.x,a.kd⟩
theorem IsL.weak {w:World} {base base':Nat} {p:Option Addr} {L:List Rg} (h:IsL w base p L) (hb:base'<=base):IsL w base' p L:=fun i hi=>by
 obtain ⟨g,e,l1,l2,c⟩:=h i hi
 exact ⟨g,e,by omega,l2,c⟩
theorem nil_isb (w:World) (base:Nat):IsL w base none []:=fun i hi=>absurd hi (Nat.not_lt_zero _)
theorem own_readb {w:World} {base:Nat} {v:Value} {L:List Rg} (h:OwnL w base v L): ∃ p c,v=.slice p L.length c/\L.length<=c/\IsL w base p L:=by
 obtain ⟨p,c,e,hi⟩:=own_read h
 refine ⟨p,c,e,?_,hi⟩
 rcases h.2 with ⟨h1,h2⟩ | ⟨g,cap,cur,e1,e2,e3,e4,_⟩
 . omega
 . rw [e] at e1;cases e1;exact e4
theorem ans_readb {w':World} {base:Nat} {v:Value} {er E:Int} {M:List Rg} (h:Ans w' base v er E M):er=errA E M/\ ∃ p c,v=.slice p (outL E M).length c/\(outL E M).length<=c/\IsL w' base p (outL E M):=by
 unfold outL errA
 rcases h with ⟨h1,h2,h3⟩ | ⟨h1,⟨h2,h3,h4⟩ | ⟨h2,h3,h4⟩⟩
 . rw [if_neg h1,if_neg h1]
   exact ⟨h2,none,0,h3,Nat.le_refl _,nil_isb _ _⟩
 . rw [if_pos h1,if_pos h2,if_pos rfl]
   obtain ⟨p,c,e1,e2,e3⟩:=own_readb h4
   exact ⟨h3,p,c,e1,e2,e3⟩
 . rw [if_pos h1,if_neg (by omega),if_neg (by omega)]
   exact ⟨h3,none,0,h4,Nat.le_refl _,nil_isb _ _⟩
end Go.Proofs.YtokpmclmdobgeaaGreat.Re
