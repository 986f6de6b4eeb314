import Derived.Test.YtmabmknmnkhhbaaGreatDoorGAl
namespace Go.Proofs.YtmabmknmnkhhbaaGreatDoor.Re
open Go.ChangeShapes Go.WideShapes Go.ChangeAt Go.RowKit Go.Maps
set_option linter.unusedSimpArgs false
set_option linter.unusedVariables false
set_option maxRecDepth 8000
theorem min_pat {P:Program} {ops:Array Oper} {rest:List Oper} {ty t:TypeId} {x y:Operand} {q:Tmp} {pos:String} {af:Array Edge} {a:Act} {w:World} {Q:Exit->Act->World->Prop} (u v z:Int) (hz:min u v=z) (hx:a.eval x=.int .i64 u) (hy:a.eval y=.int .i64 v)
 (h:wpList P ops Q rest (a.put (some q) (.int .i64 z)) w):wpList P ops Q ({ dst:=some q,op:=.call { callee:=.builtin .min,args:= #[x,y],argTypes:= #[ty,ty] },type:=t,pos:=pos,after:=af,guard:=none }::rest) a w:=by
 refine wpList_plain rfl fun K hK=> ?_
 subst hz
 unfold Oper.wp execOp
 rcases min_cases u v with ⟨c,e⟩ | ⟨c,e⟩
 . rw [e] at h
   simp only [resolve,invoke,builtin,Sem.run_bind,Sem.run_pure,Result.andThen_ok,List.map_toArray,List.map_cons,List.map_nil,hx,hy]
   go_simp
   first | exact hK _ _ h | (split <;> first | exact hK _ _ h | (exfalso;omega))
 . rw [e] at h
   simp only [resolve,invoke,builtin,Sem.run_bind,Sem.run_pure,Result.andThen_ok,List.map_toArray,List.map_cons,List.map_nil,hx,hy]
   go_simp
   first | exact hK _ _ h | (split <;> first | exact hK _ _ h | (exfalso;omega))
theorem max_pat {P:Program} {ops:Array Oper} {rest:List Oper} {ty t:TypeId} {x y:Operand} {q:Tmp} {pos:String} {af:Array Edge} {a:Act} {w:World} {Q:Exit->Act->World->Prop} (u v z:Int) (hz:max u v=z) (hx:a.eval x=.int .i64 u) (hy:a.eval y=.int .i64 v)
 (h:wpList P ops Q rest (a.put (some q) (.int .i64 z)) w):wpList P ops Q ({ dst:=some q,op:=.call { callee:=.builtin .max,args:= #[x,y],argTypes:= #[ty,ty] },type:=t,pos:=pos,after:=af,guard:=none }::rest) a w:=by
 refine wpList_plain rfl fun K hK=> ?_
 subst hz
 unfold Oper.wp execOp
 rcases max_cases u v with ⟨c,e⟩ | ⟨c,e⟩
 . rw [e] at h
   simp only [resolve,invoke,builtin,Sem.run_bind,Sem.run_pure,Result.andThen_ok,List.map_toArray,List.map_cons,List.map_nil,hx,hy]
   go_simp
   first | exact hK _ _ h | (split <;> first | exact hK _ _ h | (exfalso;omega))
 . rw [e] at h
   simp only [resolve,invoke,builtin,Sem.run_bind,Sem.run_pure,Result.andThen_ok,List.map_toArray,List.map_cons,List.map_nil,hx,hy]
   go_simp
   first | exact hK _ _ h | (split <;> first | exact hK _ _ h | (exfalso;omega))
set_option maxHeartbeats 1000000 in
theorem cut_cl (r:Rg) (w:World):Calls Tryz.prog 114 #[r.val] w fun e w'=>e=.returned Rg.zero.val/\Below w.heap.size w w':=by
 obtain ⟨r1,r2,r3,r4,r5,r6⟩:=r
 go_enter Tryz.func114,Tryz.ntmps114
 go_wp2
 go_returns
 exact ⟨rfl,Go.Joins.below_alloc2 _ _ _⟩
def Rg.may (r:Rg) (a b c:Bool):Rg:=⟨r.fr,r.tt,a,b,c,r.kd⟩
def Rg.mid (r:Rg) (f t:Int):Rg:=⟨max r.fr f,min r.tt t,r.w,r.u,r.x,r.kd⟩
def Rg.from (r:Rg) (t:Int):Rg:=⟨t,r.tt,r.w,r.u,r.x,r.kd⟩
def part (G:Rg->Rg) (f t:Int) (M:List Rg) (r:Rg):List Rg:=withL (withL (withL M (r.upto (min r.tt f))) (G (r.mid f t))) (r.from (max r.fr t))
def chg (G:Rg->Rg) (f t:Int) (L:List Rg):List Rg:=L.foldl (part G f t) []
theorem chg_next (G:Rg->Rg) (f t:Int) (L:List Rg) (m:Nat) (h:m<L.length):chg G f t (L.take (m+1))=part G f t (chg G f t (L.take m)) (L.getD m Rg.zero):=by
 unfold chg;rw [takeR_next L m h,List.foldl_append];rfl
theorem part_len (G:Rg->Rg) (f t:Int) (M:List Rg) (r:Rg):(part G f t M r).length<=M.length+3:=by
 unfold part
 have h1:=withL_len M (r.upto (min r.tt f))
 have h2:=withL_len (withL M (r.upto (min r.tt f))) (G (r.mid f t))
 have h3:=withL_len (withL (withL M (r.upto (min r.tt f))) (G (r.mid f t))) (r.from (max r.fr t))
 omega
theorem chg_len (G:Rg->Rg) (f t:Int) (L:List Rg): ∀ m,m<=L.length->(chg G f t (L.take m)).length<=3*m
 | 0, _ => by simp [chg]
 | m + 1, h => by
  rw [chg_next G f t L m (by omega)]
  have h1:=chg_len G f t L m (by omega)
  have h2:=part_len G f t (chg G f t (L.take m)) (L.getD m Rg.zero)
  omega
def Res (w':World) (base:Nat) (v:Value) (er:Int) (M:List Rg):Prop:=(M.length<=64/\er=0/\OwnL w' base v M)\/(64<M.length/\er=4/\v=.slice none 0 0)
theorem WithK.block {w w':World} {v v':Value} (h:WithK w w' v v') (k:Nat) (hk:k<w.heap.size) (hv:v.ownBlock≠some k):w'.heap[k]? =w.heap[k]? :=h.1.block k hk (fun e=>hv e.symm)
theorem WithK.ne {w w':World} {v v':Value} (h:WithK w w' v v') (k:Nat) (hk:k<w.heap.size) (hv:v.ownBlock≠some k):v'.ownBlock≠some k:=by
 rcases h.2 with e | ⟨j,hj,e⟩
 . rw [e];exact hv
 . rw [e];intro q;have:=Option.some.inj q;omega
theorem WithK.below {w w':World} {v v':Value} {b:Nat} {L:List Rg} (h:WithK w w' v v') (ho:OwnL w b v L) (hb:b<=w.heap.size):Below b w w':=⟨h.1.os,h.1.tape,h.1.output,h.1.size,fun k hk=>h.1.block k (by omega) (fun e=>by have:=World.ownsRow.lt ho k e.symm;omega)⟩
theorem blk_ne {w:World} {b c k:Nat} {v:Value} {L:List Rg} (ho:OwnL w b v L) (hk:w.heap.size<=k):v.ownBlock≠some k:=fun e=>by have:=(World.ownsRow.lt ho k e).2;omega
theorem set_block {w:World} {b o k:Nat} {v:Value} (h:k≠b):(w.setCell ⟨b,o,none⟩ v).heap[k]? =w.heap[k]? :=Below.heap_setCell w ⟨b,o,none⟩ v k h
theorem set_same {w:World} {b o:Nat} {v:Value} {cs cs':Array Value} {t:TypeId} (h:w.heap[b]? =some (.cells cs t (0,0))) (e:cs.setIfInBounds o v=cs'):(w.setCell ⟨b,o,none⟩ v).heap[b]? =some (.cells cs' t (0,0)):=by rw [<- e];exact Go.Joins.block_setCell h v
theorem four_block (u:World) (o:Obj) (k:Nat) (h1:u.heap.size<=k) (h2:k<=u.heap.size+3):(((((u.alloc o).alloc o).alloc o).alloc o).drew).heap[k]? =some o:=by
 have s1:(u.alloc o).heap.size=u.heap.size+1:=World.size_alloc _ _
 have s2:((u.alloc o).alloc o).heap.size=u.heap.size+1+1:=by rw [World.size_alloc,s1]
 have s3:(((u.alloc o).alloc o).alloc o).heap.size=u.heap.size+1+1+1:=by rw [World.size_alloc,s2]
 show ((((u.alloc o).alloc o).alloc o).alloc o).heap[k]? =some o
 by_cases c3:k=u.heap.size+3
 . have:=own1 (((u.alloc o).alloc o).alloc o) o
   rw [s3] at this;rw [c3];exact this
 rw [(Go.Joins.below_alloc1 (((u.alloc o).alloc o).alloc o) o).block k (by omega)]
 by_cases c2:k=u.heap.size+2
 . have:=own1 ((u.alloc o).alloc o) o
   rw [s2] at this;rw [c2];exact this
 rw [(Go.Joins.below_alloc1 ((u.alloc o).alloc o) o).block k (by omega)]
 by_cases c1:k=u.heap.size+1
 . have:=own1 (u.alloc o) o
   rw [s1] at this;rw [c1];exact this
 rw [(Go.Joins.below_alloc1 (u.alloc o) o).block k (by omega)]
 have:k=u.heap.size:=by omega
 rw [this];exact own1 u o
theorem blk_lt {w:World} {b:Nat} {o:Obj} (h:w.heap[b]? =some o):b<w.heap.size:=(Array.getElem?_eq_some_iff.1 h).1
end Go.Proofs.YtmabmknmnkhhbaaGreatDoor.Re
