import Derived.Test.YtgbdnnkkcpkhdaaGreatDoorChecked
import Derived.WalkKit
import Derived.ProofKit
import Derived.OpenShut
import Derived.Carry
import Derived.Lib.SmallJoins
import Derived.Deep.Light
import Derived.Deep.MidRow
import Derived.Deep.RegionHeld3
import Derived.Deep.DrawnRows
import Derived.Handy
import Derived.Laws.MakeOwn
import Derived.MapKept
import Derived.Laws.Tables
import Derived.Maps.AppendAt
import Derived.Test.YtgbdnnkkcpkhdaaGreatDoorKZc
import Derived.Laws.OwnMore
set_option linter.unusedSimpArgs false
set_option linter.unusedVariables false
set_option maxRecDepth 8000
set_option maxHeartbeats 4000000
open Go.ChangeShapes Go.WideShapes Go.ChangeAt Go.RowKit Go.Maps
namespace Go.Proofs.YtgbdnnkkcpkhdaaGreatDoor.Re
structure Rg where
 fr:Int
 tt:Int
 w:Bool
 u:Bool
 x:Bool
 kd:Int
def Rg.enc (r:Rg):List Value:=(sq r.fr r.tt r.w r.u r.x r.kd)
abbrev Rg.val (r:Rg):Value:=.agg (sr r.fr r.tt r.w r.u r.x r.kd)
def Rg.zero:Rg:=⟨0,0,false,false,false,0⟩
abbrev rgV (f t:Int):Value:=.agg #[.int .i64 f,.int .i64 t]
theorem below_new {w w':World} (h:bc w w') (o:Obj):bc w (w'.alloc o):=h.alloc h.size o
theorem below_then {w x y:World} (h1:bc w x) (h2:bc x y):bc w y:=h1.trans (Go.Joins.below_le h2 h1.size)
theorem grown_of_below {w w':World} (h:bc w w') (r:Option Nat):w.grownBy w' r:=⟨h.os,h.tape,h.output,h.size,fun k hk _=>h.block k hk⟩
theorem grown_setCell1 (w:World) (b o:Nat) (v:Value):w.grownBy (w.setCell ⟨b,o,none⟩ v) (some b):=by
 have h:Below 0 w (w.setCell ⟨b,o,none⟩ v):=(Below.refl 0 w).setCell (Nat.zero_le _) v
 exact ⟨h.os,h.tape,h.output,h.size,fun k hk hne=>Below.heap_setCell _ _ _ _ (fun e=>hne (by rw [show k=b from e]))⟩
theorem grown_trans {a b c:World} {r:Option Nat} (h:a.grownBy b r) (k:b.grownBy c r):a.grownBy c r:=⟨k.os.trans h.os,k.tape.trans h.tape,k.output.trans h.output,Nat.le_trans h.size k.size,fun j hj hne=>(k.block j (nla hj h.size) hne).trans (h.block j hj hne)⟩
theorem grown_refl (a:World) (r:Option Nat):a.grownBy a r:=⟨rfl,rfl,rfl,Nat.le_refl _,fun _ _ _=>rfl⟩
theorem grown_setCells (b:Nat): ∀ (vs:List Value) (o:Nat) (w:World),w.grownBy (w.setCells b o vs) (some b)
 | [], _, w => grown_refl w _
 | v :: r, o, w => by
  rw [World.setCells]
  exact grown_trans (grown_setCell1 w b o v) (grown_setCells b r (o+1) _)
theorem store_pat {P:Program} {ops:Array Oper} {rest:List Oper} {ty t:TypeId} {x y:Operand} {pos:String} {af:Array Edge} {a:Act} {w:World} {Q:Exit->Act->World->Prop} (b o:Nat) (cells:Array Value) (hx:a.eval x=.pointer (some ⟨b,o,none⟩)) (hy:a.eval y=.agg cells)
 (ht:w.there b o cells.size) (hi:(P.info? ty).map (·.size)=some cells.size) (h1:cells.all (·.oneCell')=true)
 (h:wpList P ops Q rest a (w.setCells b o cells.toList)):wpList P ops Q ({ dst:=none,op:=.store ty x y,type:=t,pos:=pos,after:=af,guard:=none }::rest) a w :=
 wpList_store_mid rfl ty x y rfl b o cells hx hy ht hi h1 h
theorem own1 (w:World) (o:Obj):(w.alloc o).heap[w.heap.size]? =some o:=(MapKept.heap_alloc w o).1
theorem there_block {w:World} {b:Nat} {C:Array Value} {t:TypeId} (h:w.heap[b]? =some (.cells C t (0,0))):w.there b 0 C.size:=fun j hj=>by
 rw [Nat.zero_add]
 exact ⟨by rw [Go.Joins.cell_of_block h j,Array.getElem?_eq_getElem hj];rfl,Go.Joins.unfrozen_of_block h j⟩
theorem info5 {P:Program} {e:TypeId} {z:Value} {s b:Nat} (h:(P.info? e).map (fun i=>(i.zero,i.size,i.bytes))=some (some z,s,b)): ∃ i:TypeInfo,P.info? e=some i/\i.zero=some z/\i.size=s/\i.bytes=b:=by
 cases hq:P.info? e with
 | none => simp [hq] at h
 | some i =>
  simp [hq] at h
  exact ⟨i,rfl,h.1,h.2.1,h.2.2⟩
theorem own_keep {w w':World} {base n e s:Nat} {v:Value} {xs:List Value} (h:w.ownsRow base e s v n xs) (hb:bc w w'):w'.ownsRow base e s v n xs:=by
 obtain ⟨h1,h2⟩:=h
 refine ⟨h1,?_⟩
 rcases h2 with h2 | ⟨g',cap',cur,e1,e2,e3,e4⟩
 . exact Or.inl h2
 . have hg':g'<w.heap.size:=(Array.getElem?_eq_some_iff.1 e3).1
   exact Or.inr ⟨g',cap',cur,e1,e2,(hb.block g' hg').trans e3,e4⟩
theorem renc_len (r:Rg):r.enc.length=6:=rfl
def IsL (w:World) (base:Nat) (p:Option Addr) (L:List Rg):Prop:= ∀ i,i<L.length-> ∃ g,p=some ⟨g,0,none⟩/\base<=g/\g<w.heap.size/\ ∀ j x,(L.getD i Rg.zero).enc[j]? =some x->w.cell? ⟨g,i*6+j,none⟩=some x
theorem IsL.below {w w':World} {base:Nat} {p:Option Addr} {L:List Rg} (h:IsL w base p L) (hb:bc w w'):IsL w' base p L:=fun i hi=>by
 obtain ⟨g,e,l1,l2,c⟩:=h i hi
 exact ⟨g,e,l1,nla l2 hb.size,fun j x hx=>(hb.cell (p:=⟨g,i*6+j,none⟩) l2).trans (c j x hx)⟩
def LowL (w:World) (n:Nat) (p:Option Addr) (L:List Rg):Prop:= ∀ i,i<L.length-> ∃ g,p=some ⟨g,0,none⟩/\g<n/\ ∀ j x,(L.getD i Rg.zero).enc[j]? =some x->w.cell? ⟨g,i*6+j,none⟩=some x
theorem LowL.low {w w':World} {n:Nat} {p:Option Addr} {L:List Rg} (h:LowL w n p L) (hb:Below n w w'):LowL w' n p L:=fun i hi=>by
 obtain ⟨g,e,l2,c⟩:=h i hi
 exact ⟨g,e,l2,fun j x hx=>(hb.cell (p:=⟨g,i*6+j,none⟩) l2).trans (c j x hx)⟩
theorem flatR_enc: ∀ (L:List Rg) (i j:Nat),i<L.length->j<6->(L.flatMap Rg.enc)[i*6+j]? =(L.getD i Rg.zero).enc[j]?
 | [], i, j, h, _ => absurd h (Nat.not_lt_zero _)
 | l :: r, 0, j, h, hj => by
  rw [List.flatMap_cons,List.getElem?_append_left (by rw [renc_len];omega)]
  simp [List.getD]
 | l :: r, i + 1, j, h, hj => by
  rw [List.flatMap_cons,List.getElem?_append_right (by rw [renc_len];omega),renc_len,show (i+1)*6+j-6=i*6+j by omega,flatR_enc r i j (by simpa using h) hj]
  simp [List.getD]
def OwnL (w:World) (base:Nat) (v:Value) (L:List Rg):Prop:=w.ownsRow base 75 6 v L.length (L.flatMap Rg.enc)
theorem own_read {w:World} {base:Nat} {v:Value} {L:List Rg} (h:OwnL w base v L): ∃ p c,v=.slice p L.length c/\IsL w base p L:=by
 obtain ⟨h1,h2 | ⟨g,cap,cur,e1,e2,e3,e4,e5,e6,e7⟩⟩:=h
 . refine ⟨none,0,by rw [h2.1,h2.2],fun i hi=> ?_⟩
   rw [h2.2] at hi;exact absurd hi (Nat.not_lt_zero _)
 . refine ⟨_,cap,e1,fun i hi=>⟨g,rfl,e2,(Array.getElem?_eq_some_iff.1 e3).1,fun j x hx=> ?_⟩⟩
   have hj:j<6:=(List.getElem?_eq_some_iff.1 hx).1
   rw [Go.Joins.cell_of_block e3 _]
   have:(cur.toList.take (L.length*6))[i*6+j]? =(L.flatMap Rg.enc)[i*6+j]? :=by rw [e7]
   rw [List.getElem?_take,if_pos (by omega),Array.getElem?_toList,flatR_enc L i j hi hj] at this
   rw [this];exact hx
theorem IsL.lowl {w:World} {base n:Nat} {p:Option Addr} {L:List Rg} (h:IsL w base p L) (hn:w.heap.size<=n):LowL w n p L:=fun i hi=>by
 obtain ⟨g,e,l1,l2,c⟩:=h i hi
 exact ⟨g,e,by omega,c⟩
theorem rg_info:(Tryz.prog.info? 75).map (·.size)=some 6:=ka
def zrg:Value:=.agg (sr 0 0 false false false 0)
theorem rg_info5:(Tryz.prog.info? 75).map (fun i=>(i.zero,i.size,i.bytes))=some (some zrg,6,32):=ka
theorem below_drew {n:Nat} {w W:World} (h:Below n w W):Below n w W.drew:=⟨h.os,h.tape,h.output,h.size,h.block⟩
def Rg.perm (r:Rg):Bool × Bool × Bool:=(r.w,r.u,r.x)
def Rg.joins (a b:Rg):Bool:=a.tt==b.fr && (a.perm==b.perm && a.kd==b.kd)
theorem make_any (a b:Rg) (w:World):Calls Tryz.prog 55 #[a.val,b.val] w (re (.bool (a.joins b)) w):=by
 obtain ⟨a1,a2,a3,a4,a5,a6⟩:=a
 obtain ⟨b1,b2,b3,b4,b5,b6⟩:=b
 unfold Rg.joins Rg.perm
 by_cases c1:a2=b1
 . have d1:(a2==b1)=true:=by simp [c1]
   by_cases c3:a6=b6
   . have d3:(a6==b6)=true:=by simp [c3]
     subst c1 c3
     go_enter Tryz.func55,Tryz.ntmps55
     go_wp2
     all_goals
      go_returns
      exact ⟨by simp_all,Go.Joins.below_alloc2 _ _ _⟩
   . have d3:(a6==b6)=false:=by simp [c3]
     subst c1
     go_enter Tryz.func55,Tryz.ntmps55
     go_wp2
     all_goals
      go_returns
      exact ⟨by simp_all,Go.Joins.below_alloc2 _ _ _⟩
 . have d1:(a2==b1)=false:=by simp [c1]
   go_enter Tryz.func55,Tryz.ntmps55
   go_wp2
   all_goals
    go_returns
    exact ⟨by simp_all,Go.Joins.below_alloc2 _ _ _⟩
theorem max_cases (a b:Int):(a<b/\max a b=b)\/(b<=a/\max a b=a):=by
 by_cases c:a<b
 . exact Or.inl ⟨c,by omega⟩
 . exact Or.inr ⟨by omega,by omega⟩
theorem min_cases (a b:Int):(b<a/\min a b=b)\/(a<=b/\min a b=a):=by
 by_cases c:b<a
 . exact Or.inl ⟨c,by omega⟩
 . exact Or.inr ⟨by omega,by omega⟩
theorem common_any (a1 a2 b1 b2:Int) (w:World):Calls Tryz.prog 54 #[rgV a1 a2,rgV b1 b2] w (re (rgV (max a1 b1) (min a2 b2)) w):=by
 rcases max_cases a1 b1 with ⟨c,e1⟩ | ⟨c,e1⟩
 all_goals
  rcases min_cases a2 b2 with ⟨d,e2⟩ | ⟨d,e2⟩
  all_goals
   rw [e1,e2]
   clear e1 e2
   go_enter Tryz.func54,Tryz.ntmps54
   go_wp2
   all_goals
    go_returns
    exact ⟨by first | rfl | (exfalso;omega),Go.Joins.below_alloc3 _ _ _ _⟩
theorem below_setCells {w x:World} (h:bc w x) (b o:Nat) (vs:List Value) (hb:w.heap.size<=b):bc w (x.setCells b o vs):=by
 have g:=grown_setCells b vs o x
 exact h.trans ⟨g.os,g.tape,g.output,g.size,fun k hk=>g.block k (nla hk h.size) (fun e=>by have:=sia e;omega)⟩
theorem results_pair {fn:Func} {p q:Tmp} {t:TypeId} (h:fn.results= #[.cell p t,.tmp q]) (tmps:Array Value) (P:Program) (w:World) (a:Addr) (x y:Value)
 (ha:tmps.getD p undef=.pointer (some a)) (hb:tmps.getD q undef=y) (hx:(loadVar t a).run P w=.ok x w) :
 (results fn tmps).run P w=.ok (.tuple #[x,y]) w:=by
 simp only [results,h]
 have e1: ∀ W:World,(asAddr (Value.pointer (some a))).run P W=.ok a W:=fun _=>rfl
 simp at ha hb
 simp [Sem.run_bind,Result.andThen,ha,hb,e1,hx]
def rightB (f t:Int):Bool:=decide (0<=f) && (decide (f<t) && (decide (t<=34359738368) && decide (t-f<=65536)))
theorem right_any (f t:Int) (w:World):Calls Tryz.prog 52 #[rgV f t] w (re (.bool (rightB f t)) w):=by
 unfold rightB
 by_cases c1:0<=f
 . have d1:decide (0<=f)=true:=by simp [c1]
   by_cases c2:f<t
   . have d2:decide (f<t)=true:=by simp [c2]
     by_cases c3:t<=34359738368
     . have d3:decide (t<=34359738368)=true:=by simp [c3]
       by_cases c4:t-f<=65536
       . have d4:decide (t-f<=65536)=true:=by simp [c4]
         go_enter Tryz.func52,Tryz.ntmps52
         go_wp2
         go_returns
         exact ⟨by simp [d1,d2,d3,d4],baa⟩
       . have d4:decide (t-f<=65536)=false:=by simp;omega
         go_enter Tryz.func52,Tryz.ntmps52
         go_wp2
         go_returns
         exact ⟨by simp [d1,d2,d3,d4],baa⟩
     . have d3:decide (t<=34359738368)=false:=by simp [c3]
       go_enter Tryz.func52,Tryz.ntmps52
       go_wp2
       go_returns
       exact ⟨by simp [d1,d2,d3],baa⟩
   . have d2:decide (f<t)=false:=by simp [c2]
     go_enter Tryz.func52,Tryz.ntmps52
     go_wp2
     go_returns
     exact ⟨by simp [d1,d2],baa⟩
 . have d1:decide (0<=f)=false:=by simp [c1]
   go_enter Tryz.func52,Tryz.ntmps52
   go_wp2
   go_returns
   exact ⟨by simp [d1],baa⟩
def findR:List Rg->Int->Rg × Bool
 | [], _ => (Rg.zero, false)
 | r :: l, i => if r.fr ≤ i ∧ i < r.tt then (r, true) else findR l i
def Rg.has (r:Rg) (i:Int):Prop:=r.fr<=i/\i<r.tt
theorem findR_hit (i:Int): ∀ (B:List Rg) (j:Nat),j<B.length->(∀ k,k<j-> ¬ (B.getD k Rg.zero).has i)->(B.getD j Rg.zero).has i->findR B i=(B.getD j Rg.zero,true)
 | [], j, h, _, _ => absurd h (Nat.not_lt_zero _)
 | b :: r, 0, _, _, e => by
  have e':b.fr<=i/\i<b.tt:=by simpa [List.getD,Rg.has] using e
  unfold findR;rw [if_pos e'];simp [List.getD]
 | b :: r, j + 1, h, n, e => by
  have n0: ¬ (b.fr<=i/\i<b.tt):=by have:=n 0 (by omega);simpa [List.getD,Rg.has] using this
  have e':(r.getD j Rg.zero).has i:=by simpa [List.getD] using e
  unfold findR
  rw [if_neg n0,findR_hit i r j (by simpa using h) (fun k hk=>by simpa [List.getD] using n (k+1) (by omega)) e']
  simp [List.getD]
theorem findR_miss (i:Int): ∀ (B:List Rg),(∀ k,k<B.length-> ¬ (B.getD k Rg.zero).has i)->findR B i=(Rg.zero,false)
 | [], _ => rfl
 | b :: r, n => by
  have n0: ¬ (b.fr<=i/\i<b.tt):=by have:=n 0 (by simp);simpa [List.getD,Rg.has] using this
  unfold findR
  rw [if_neg n0,findR_miss i r (fun k hk=>by simpa [List.getD] using n (k+1) (by simpa using hk))]
theorem find_any (base:Nat) (p:Option Addr) (c:Nat) (B:List Rg) (hB:B.length<=100) (i:Int) (w:World) (h:IsL w base p B) :
 Calls Tryz.prog 93 #[.slice p B.length c,.int .i64 i] w (re (.tuple #[(findR B i).1.val,.bool (findR B i).2]) w):=by
 obtain ⟨z,hz⟩: ∃ z,findR B i=z:=⟨_,rfl⟩
 rw [hz]
 have HZ:Hid (findR B i=z):=hz
 have HB:Hid (IsL w base p B):=h
 clear hz h
 go_enter Tryz.func93,Tryz.ntmps93
 go_wp2_with fail
 go_loopw [10] (fun x W=> ∃ m:Nat,m<=B.length/\x=.int .i64 m/\Hid (IsL W base p B)/\Hid (bc w W)/\Hid (W.heap[w.heap.size]? =some (.cells (sr 0 0 false false false 0) 75 (0,0)))/\Hid (∀ k,k<m-> ¬ (B.getD k Rg.zero).has i)) (fun x _=>B.length-(intOf x).toNat)
 case atStart=>exact ⟨0,by omega,rfl,HB.out.below baa,baa,own1 w _,fun k hk=>absurd hk (Nat.not_lt_zero _)⟩
 case round =>
  obtain ⟨m,hm,rfl,hI,hb,hk,hno⟩:=hrel
  have lw:w.heap.size<wr.heap.size:=(Array.getElem?_eq_some_iff.1 hk.out).1
  by_cases hlm:m<B.length
  . have hd:decide ((m:Int)<(B.length:Int))=true:=by simp;omega
    obtain ⟨g,rfl,g1,g2,gc⟩:=hI.out m hlm
    have HIT:Hid ((B.getD m Rg.zero).has i->z=(B.getD m Rg.zero,true)):=fun e=>by rw [<- HZ.out];exact findR_hit i B m hlm hno.out e
    have NX:Hid (¬ (B.getD m Rg.zero).has i-> ∀ k,k<m+1-> ¬ (B.getD k Rg.zero).has i):=fun e k hk=>by
     by_cases q:k=m
     . subst q;exact e
     . exact hno.out k (by omega)
    generalize B.getD m Rg.zero=bx at gc HIT NX
    obtain ⟨r1,r2,r3,r4,r5,r6⟩:=bx
    have y0:wr.cell? ⟨g,m*6,none⟩=some (.int .i64 r1):=gc 0 _ rfl
    have y1:wr.cell? ⟨g,m*6+1,none⟩=some (.int .i64 r2):=gc 1 _ rfl
    have y2:wr.cell? ⟨g,m*6+2,none⟩=some (.bool r3):=gc 2 _ rfl
    have y3:wr.cell? ⟨g,m*6+3,none⟩=some (.bool r4):=gc 3 _ rfl
    have y4:wr.cell? ⟨g,m*6+4,none⟩=some (.bool r5):=gc 4 _ rfl
    have y5:wr.cell? ⟨g,m*6+5,none⟩=some (.int .i64 r6):=gc 5 _ rfl
    clear gc
    by_cases c1:r1<=i
    . have e1:decide (r1<=i)=true:=by simp [c1]
      by_cases c2:i<r2
      . have e2:decide (i<r2)=true:=by simp [c2]
        have ez:=HIT.out ⟨c1,c2⟩
        subst ez
        clear HIT NX HZ
        have BA:Hid (bc w (wr.alloc (.cells (sr r1 r2 r3 r4 r5 r6) 75))):=below_new hb.out _
        have TH:Hid ((wr.alloc (.cells (sr r1 r2 r3 r4 r5 r6) 75)).there w.heap.size 0 6):=there_block (((Go.Joins.below_alloc1 wr _).block _ lw).trans hk.out)
        go_wp2_with (refine store_pat (x:=.tmp 4) w.heap.size 0 (sr r1 r2 r3 r4 r5 r6) ?hx ?hy ?ht ?hi ?h1 ?rest;(case hx=>rfl);(case hy=>rfl);(case ht=>exact TH.out);(case hi=>exact rg_info);(case h1=>simp [Value.oneCell']);generalize hW2:World.setCells _ _ _ _=W2;have HW2:Hid ((wr.alloc (.cells (sr r1 r2 r3 r4 r5 r6) 75)).setCells w.heap.size 0 (sq r1 r2 r3 r4 r5 r6)=W2):=hW2;clear hW2)
        have hr:=run_loadVar_mid (P:=Tryz.prog) ((wr.alloc (.cells (sr r1 r2 r3 r4 r5 r6) 75)).setCells w.heap.size 0 (sq r1 r2 r3 r4 r5 r6)) w.heap.size 0 75 (sq r1 r2 r3 r4 r5 r6) _ (World.rangeAt_setCells_same _ w.heap.size 0 (sq r1 r2 r3 r4 r5 r6) TH.out) Tryz.underlying75 rfl rg_info
        have hb2:=below_setCells BA.out w.heap.size 0 (sq r1 r2 r3 r4 r5 r6) (Nat.le_refl _)
        rw [HW2.out] at hr hb2
        refine bodyPost_ret (v:=.tuple #[.agg (sr r1 r2 r3 r4 r5 r6),.bool true]) ?_ rfl ⟨rfl,hb2⟩
        exact results_pair Tryz.results93 _ _ _ _ _ _ rfl rfl hr
      . have e2:decide (i<r2)=false:=by simp [c2]
        have N2:Hid (∀ k,k<m+1-> ¬ (B.getD k Rg.zero).has i):=NX.out (by unfold Rg.has;simp only;omega)
        clear NX HIT
        go_wp2_with fail
        go_roundw
        case rel=>exact ⟨m+1,by omega,by go_num,hI.out.below baa,below_new hb.out _,((Go.Joins.below_alloc1 wr _).block _ lw).trans hk.out,N2⟩
        case measure=>simp [intOf];omega
    . have e1:decide (r1<=i)=false:=by simp [c1]
      have N2:Hid (∀ k,k<m+1-> ¬ (B.getD k Rg.zero).has i):=NX.out (by unfold Rg.has;simp only;omega)
      clear NX HIT
      go_wp2_with fail
      go_roundw
      case rel=>exact ⟨m+1,by omega,by go_num,hI.out.below baa,below_new hb.out _,((Go.Joins.below_alloc1 wr _).block _ lw).trans hk.out,N2⟩
      case measure=>simp [intOf];omega
  . obtain rfl:m=B.length:=by omega
    have ez:z=(Rg.zero,false):=by rw [<- HZ.out];exact findR_miss i B hno.out
    subst ez
    have TH:Hid (wr.there w.heap.size 0 6):=there_block hk.out
    clear HZ hno
    have r0:wr.cell? ⟨w.heap.size,0,none⟩=some (.int .i64 0):=Go.Joins.cell_of_block hk.out 0
    have f0:wr.frozen? ⟨w.heap.size,0,none⟩=false:=Go.Joins.unfrozen_of_block hk.out 0
    have r1:wr.cell? ⟨w.heap.size,1,none⟩=some (.int .i64 0):=Go.Joins.cell_of_block hk.out 1
    have f1:wr.frozen? ⟨w.heap.size,1,none⟩=false:=Go.Joins.unfrozen_of_block hk.out 1
    have r2:wr.cell? ⟨w.heap.size,2,none⟩=some (.bool false):=Go.Joins.cell_of_block hk.out 2
    have f2:wr.frozen? ⟨w.heap.size,2,none⟩=false:=Go.Joins.unfrozen_of_block hk.out 2
    have r3:wr.cell? ⟨w.heap.size,3,none⟩=some (.bool false):=Go.Joins.cell_of_block hk.out 3
    have f3:wr.frozen? ⟨w.heap.size,3,none⟩=false:=Go.Joins.unfrozen_of_block hk.out 3
    have r4:wr.cell? ⟨w.heap.size,4,none⟩=some (.bool false):=Go.Joins.cell_of_block hk.out 4
    have f4:wr.frozen? ⟨w.heap.size,4,none⟩=false:=Go.Joins.unfrozen_of_block hk.out 4
    have r5:wr.cell? ⟨w.heap.size,5,none⟩=some (.int .i64 0):=Go.Joins.cell_of_block hk.out 5
    have f5:wr.frozen? ⟨w.heap.size,5,none⟩=false:=Go.Joins.unfrozen_of_block hk.out 5
    go_wp2_with fail
    change bodyPost _ _ _ _ _ (wr.setCells w.heap.size 0 sk1)
    have hr:=run_loadVar_mid (P:=Tryz.prog) (wr.setCells w.heap.size 0 sk1) w.heap.size 0 75 sk1 _ (World.rangeAt_setCells_same _ w.heap.size 0 sk1 TH.out) Tryz.underlying75 rfl rg_info
    refine bodyPost_ret (v:=.tuple #[.agg (sr 0 0 false false false 0),.bool false]) ?_ rfl ⟨rfl,below_setCells hb.out _ _ _ (Nat.le_refl _)⟩
    exact results_pair Tryz.results93 _ _ _ _ _ _ rfl rfl hr
def endAt (L:List Rg):Nat->Int
 | 0 => 0
 | i + 1 => (L.getD i Rg.zero).tt
def okR (e:Int) (r:Rg):Bool:= !(decide (r.fr<e)) && (decide (r.fr<r.tt) && decide (r.tt<=34359738368))
def jnAt (L:List Rg):Nat->Bool
 | 0 => false
 | i + 1 => (L.getD i Rg.zero).joins (L.getD (i + 1) Rg.zero)
def okAt (L:List Rg) (i:Nat):Bool:=okR (endAt L i) (L.getD i Rg.zero) && !(jnAt L i)
def allB (f:Nat->Bool):Nat->Bool
 | 0 => true
 | n + 1 => allB f n && f n
theorem allB_iff (f:Nat->Bool): ∀ n,allB f n=true↔ ∀ i,i<n->f i=true
 | 0 => ⟨fun _ i hi => absurd hi (Nat.not_lt_zero _), fun _ => rfl⟩
 | n + 1 => by
  unfold allB
  rw [Bool.and_eq_true,allB_iff f n]
  constructor
  . rintro ⟨h1,h2⟩ i hi
    by_cases c:i=n
    . subst c;exact h2
    . exact h1 i (by omega)
  . intro h;exact ⟨fun i hi=>h i (by omega),h n (by omega)⟩
theorem allB_no (f:Nat->Bool) (n i:Nat) (hi:i<n) (h:f i=false):allB f n=false:=by
 cases c:allB f n
 . rfl
 . have:=(allB_iff f n).1 c i hi;rw [h] at this;cases this
def goodB (L:List Rg):Bool:=decide (L.length<=64) && allB (okAt L) L.length
theorem good_any (base:Nat) (p:Option Addr) (c:Nat) (L:List Rg) (hL:L.length<=100) (w:World) (h:IsL w base p L) :
 Calls Tryz.prog 53 #[.slice p L.length c] w (re (.bool (goodB L)) w):=by
 obtain ⟨z,hz⟩: ∃ z,goodB L=z:=⟨_,rfl⟩
 rw [hz]
 have HZ:Hid (goodB L=z):=hz
 have HI:Hid (IsL w base p L):=h
 have MK:Hid (∀ (a b:Rg) (W:World),Calls Tryz.prog 55 #[a.val,b.val] W (re (.bool (a.joins b)) W)):=make_any
 clear hz h
 by_cases big:64<L.length
 . have hd0:decide (64<(L.length:Int))=true:=by simp;omega
   obtain rfl:z=false:=by
    rw [<- HZ.out];unfold goodB
    rw [show decide (L.length<=64)=false by simp;omega];rfl
   go_enter Tryz.func53,Tryz.ntmps53
   go_wp2_with fail
   go_ret
   exact ⟨rfl,Below.refl _ _⟩
 have hd0:decide (64<(L.length:Int))=false:=kh
 have ZA:Hid (z=allB (okAt L) L.length):=by
  show _=_
  rw [<- HZ.out];unfold goodB
  rw [show decide (L.length<=64)=true by simp;omega];rfl
 clear HZ
 go_enter Tryz.func53,Tryz.ntmps53
 go_wp2_with fail
 go_loopw [3,11] (fun en x W=> ∃ (m:Nat) (e:Int),m<=L.length/\en=.int .i64 e/\x=.int .i64 m/\Hid (e=endAt L m)/\Hid (∀ j,j<m->okAt L j=true)/\Hid (IsL W base p L)/\Hid (bc w W)) (fun _ x _=>L.length-(intOf x).toNat)
 case atStart=>exact ⟨0,0,by omega,rfl,rfl,rfl,fun j hj=>absurd hj (Nat.not_lt_zero _),HI,Below.refl _ _⟩
 case round =>
  obtain ⟨m,e,hm,rfl,rfl,hE,hG,hI,hb⟩:=hrel
  by_cases hlm:m<L.length
  . have hd:decide ((m:Int)<(L.length:Int))=true:=by simp;omega
    obtain ⟨g,rfl,g1,g2,gc⟩:=hI.out m hlm
    have NO:Hid (okAt L m=false->z=false):=fun h=>by rw [ZA.out];exact allB_no _ _ m hlm h
    have YES:Hid (okAt L m=true-> ∀ j,j<m+1->okAt L j=true):=fun h j hj=>by
     by_cases c:j=m
     . subst c;exact h
     . exact hG.out j (by omega)
    have OK:Hid (okAt L m=(okR e (L.getD m Rg.zero) && !(jnAt L m))):=by show _=_;unfold okAt;rw [hE.out]
    have EN:Hid (endAt L (m+1)=(L.getD m Rg.zero).tt):=rfl
    have JN:Hid (∀ n,m=n+1->jnAt L m=(L.getD n Rg.zero).joins (L.getD m Rg.zero)):=fun n e=>by subst e;rfl
    have J0:Hid (m=0->jnAt L m=false):=fun e=>by subst e;rfl
    generalize L.getD m Rg.zero=rr at gc OK EN JN
    obtain ⟨r1,r2,r3,r4,r5,r6⟩:=rr
    have y0:wr.cell? ⟨g,m*6,none⟩=some (.int .i64 r1):=gc 0 _ rfl
    have y1:wr.cell? ⟨g,m*6+1,none⟩=some (.int .i64 r2):=gc 1 _ rfl
    have y2:wr.cell? ⟨g,m*6+2,none⟩=some (.bool r3):=gc 2 _ rfl
    have y3:wr.cell? ⟨g,m*6+3,none⟩=some (.bool r4):=gc 3 _ rfl
    have y4:wr.cell? ⟨g,m*6+4,none⟩=some (.bool r5):=gc 4 _ rfl
    have y5:wr.cell? ⟨g,m*6+5,none⟩=some (.int .i64 r6):=gc 5 _ rfl
    clear gc
    unfold okR at OK
    simp only at OK EN
    generalize jnAt L m=jn at OK JN J0
    by_cases c1:r1<e
    . have d1:decide (r1<e)=true:=by simp [c1]
      obtain rfl:z=false:=NO.out (by rw [OK.out];simp [d1])
      clear OK NO YES JN J0 EN
      go_wp2_with fail
      go_ret
      exact ⟨rfl,below_new hb.out _⟩
    have d1:decide (r1<e)=false:=by simp [c1]
    by_cases c2:r1<r2
    rotate_left
    . have d2:decide (r2<=r1)=true:=by simp;omega
      obtain rfl:z=false:=NO.out (by rw [OK.out];simp [c2])
      clear OK NO YES JN J0 EN
      go_wp2_with fail
      go_ret
      exact ⟨rfl,below_new hb.out _⟩
    have d2:decide (r2<=r1)=false:=kh
    by_cases c3:r2<=34359738368
    rotate_left
    . have d3:decide (34359738368<r2)=true:=by simp;omega
      obtain rfl:z=false:=NO.out (by rw [OK.out];simp [c3])
      clear OK NO YES JN J0 EN
      go_wp2_with fail
      go_ret
      exact ⟨rfl,below_new hb.out _⟩
    have d3:decide (34359738368<r2)=false:=kh
    have OK2:Hid (okAt L m= !jn):=by
     show _=_
     rw [OK.out];simp [c2,c3];omega
    clear OK c1 c2 c3
    by_cases m0:m=0
    . have dm:decide (0<(m:Int))=false:=by simp;omega
      have N2:=YES.out (by rw [OK2.out,J0.out m0];rfl)
      have M0:Hid (m=0):=m0
      clear m0
      have N3:Hid (∀ j,j<m+1->okAt L j=true):=N2
      clear N2 YES NO JN J0 OK2
      go_wp2_with fail
      refine wp_region_noPanic ?_
      refine wp_region_held_drew (S:=fun c=>c.cell? ⟨wr.heap.size,1,none⟩=some (.int .i64 r2)) ka ?_ (fun hHeld=> ?_)
      . simp
      refine tma 0 36 rfl ?_
      refine tla 1 37 (.bool false) rfl ?_ ?_
      . intro w hSw;(try dsimp only at hSw);go_simp;(try simp);(try (have:=M0.out;omega))
      refine tma 2 38 rfl ?_
      refine wpAnyH_take (i:=3) (oi:=⟨some 39,_,_,_,_,some (2,true)⟩) (v:=undef) rfl ka ka ka (fun _ _ _ h=>h) (Or.inr ⟨by rfl,rfl⟩) ka1 ?_
      try simp only [Act.put,zaa,zba,zca]
      refine wpAnyH_take (i:=4) (oi:=⟨some 40,_,_,_,_,some (2,true)⟩) (v:=undef) rfl ka ka ka (fun _ _ _ h=>h) (Or.inr ⟨by rfl,rfl⟩) ka1 ?_
      try simp only [Act.put,zaa,zba,zca]
      refine wpAnyH_take (i:=5) (oi:=⟨some 41,_,_,_,_,some (2,true)⟩) (v:=undef) rfl ka ka ka (fun _ _ _ h=>h) (Or.inr ⟨by rfl,rfl⟩) ka1 ?_
      try simp only [Act.put,zaa,zba,zca]
      refine wpAnyH_take (i:=6) (oi:=⟨some 42,_,_,_,_,some (2,true)⟩) (v:=undef) rfl ka ka ka (fun _ _ _ h=>h) (Or.inr ⟨by rfl,rfl⟩) ka1 ?_
      try simp only [Act.put,zaa,zba,zca]
      refine wpAnyH_take (i:=7) (oi:=⟨some 43,_,_,_,_,some (2,true)⟩) (v:=undef) rfl ka ka ka (fun _ _ _ h=>h) (Or.inr ⟨by rfl,rfl⟩) ka1 ?_
      try simp only [Act.put,zaa,zba,zca]
      refine wpAnyH_take (i:=8) (oi:=⟨some 44,_,_,_,_,some (2,true)⟩) (v:=undef) rfl ka ka ka (fun _ _ _ h=>h) (Or.inr ⟨by rfl,rfl⟩) ka1 ?_
      try simp only [Act.put,zaa,zba,zca]
      refine wpAnyH_take (i:=9) (oi:=⟨some 45,_,_,_,_,some (2,true)⟩) (v:=undef) rfl ka ka ka (fun _ _ _ h=>h) (Or.inr ⟨by rfl,rfl⟩) ka1 ?_
      try simp only [Act.put,zaa,zba,zca]
      refine tma 10 46 rfl ?_
      clear hHeld
      refine wpAnyH_done ka ?_ _
      refine NoPanic.normal ?_
      go_wp2_with fail
      go_roundw
      case rel=>exact ⟨m+1,r2,by omega,rfl,by go_num,EN.out.symm,N3,hI.out.below (below_drew baa),below_drew (below_new hb.out _)⟩
      case measure=>simp [intOf];omega
    . have dm:decide (0<(m:Int))=true:=by simp;omega
      obtain ⟨g',ge,_,g2',gc'⟩:=hI.out (m-1) (by omega)
      obtain rfl:g'=g:=by cases ge;rfl
      have jv:=JN.out (m-1) (by omega)
      generalize L.getD (m-1) Rg.zero=pp at gc' jv
      obtain ⟨q1,q2,q3,q4,q5,q6⟩:=pp
      have x0:wr.cell? ⟨g',(m-1)*6,none⟩=some (.int .i64 q1):=gc' 0 _ rfl
      have x1:wr.cell? ⟨g',(m-1)*6+1,none⟩=some (.int .i64 q2):=gc' 1 _ rfl
      have x2:wr.cell? ⟨g',(m-1)*6+2,none⟩=some (.bool q3):=gc' 2 _ rfl
      have x3:wr.cell? ⟨g',(m-1)*6+3,none⟩=some (.bool q4):=gc' 3 _ rfl
      have x4:wr.cell? ⟨g',(m-1)*6+4,none⟩=some (.bool q5):=gc' 4 _ rfl
      have x5:wr.cell? ⟨g',(m-1)*6+5,none⟩=some (.int .i64 q6):=gc' 5 _ rfl
      clear gc' g1
      have MJ:=MK.out ⟨q1,q2,q3,q4,q5,q6⟩ ⟨r1,r2,r3,r4,r5,r6⟩
      rw [<- jv] at MJ
      have MJ':Hid _:=MJ
      clear MJ jv JN J0
      go_wp2_with fail
      refine hda (fun c=>c.cell? ⟨wr.heap.size,0,none⟩=some (.int .i64 r1)/\c.cell? ⟨wr.heap.size,1,none⟩=some (.int .i64 r2)/\c.cell? ⟨wr.heap.size,2,none⟩=some (.bool r3)/\c.cell? ⟨wr.heap.size,3,none⟩=some (.bool r4)/\c.cell? ⟨wr.heap.size,4,none⟩=some (.bool r5)/\c.cell? ⟨wr.heap.size,5,none⟩=some (.int .i64 r6)/\c.cell? ⟨g',(m-1)*6,none⟩=some (.int .i64 q1)/\c.cell? ⟨g',(m-1)*6+1,none⟩=some (.int .i64 q2)/\c.cell? ⟨g',(m-1)*6+2,none⟩=some (.bool q3)/\c.cell? ⟨g',(m-1)*6+3,none⟩=some (.bool q4)/\c.cell? ⟨g',(m-1)*6+4,none⟩=some (.bool q5)/\c.cell? ⟨g',(m-1)*6+5,none⟩=some (.int .i64 q6)) (⟨by simp,by simp,by simp,by simp,by simp,by simp,(World.cell?_alloc_lt _ _ _ (by exact g2')).trans x0,(World.cell?_alloc_lt _ _ _ (by exact g2')).trans x1,(World.cell?_alloc_lt _ _ _ (by exact g2')).trans x2,(World.cell?_alloc_lt _ _ _ (by exact g2')).trans x3,(World.cell?_alloc_lt _ _ _ (by exact g2')).trans x4,(World.cell?_alloc_lt _ _ _ (by exact g2')).trans x5⟩) fun hHeld=> ?_
      refine tma 0 36 rfl ?_
      refine tla 1 37 (.bool true) rfl ?_ ?_
      . exact kc1
      refine tma 2 38 rfl ?_
      refine wpAnyH_take (i:=3) (oi:=⟨some 39,_,_,_,_,some (2,true)⟩) (v:= ?_) rfl ka ka ka (fun _ _ _ h=>h) (Or.inl ⟨by rfl,?_⟩) ka1 ?_
      rotate_left
      . exact ke1
      try simp only [Act.put,zaa,zba,zca]
      refine wpAnyH_take (i:=4) (oi:=⟨some 40,_,_,_,_,some (2,true)⟩) (v:= ?_) rfl ka ka ka (fun _ _ _ h=>h) (Or.inl ⟨by rfl,?_⟩) ka1 ?_
      rotate_left
      . exact ke1
      try simp only [Act.put,zaa,zba,zca]
      refine wpAnyH_take (i:=5) (oi:=⟨some 41,_,_,_,_,some (2,true)⟩) (v:=.int .i64 ((m:Int)-1)) rfl ka ka ka (fun _ _ _ h=>h) (Or.inl ⟨by rfl,?_⟩) ka1 ?_
      . intro w hSw;(try dsimp only at hSw);go_simp;(try simp);(try (simp only [IntKind.wrap_i64]));(try omega)
      try simp only [Act.put,zaa,zba,zca]
      refine wpAnyH_take (i:=6) (oi:=⟨some 42,_,_,_,_,some (2,true)⟩) (v:=(.pointer (some ⟨g',(m-1)*6,none⟩))) rfl ka ka ka (fun _ _ _ h=>h) (Or.inl ⟨by rfl,?_⟩) ka1 ?_
      . exact kc1
      try simp only [Act.put,zaa,zba,zca]
      refine wpAnyH_take (i:=7) (oi:=⟨some 43,_,_,_,_,some (2,true)⟩) (v:=.agg (sr q1 q2 q3 q4 q5 q6)) rfl ka ka ka (fun _ _ _ h=>h) (Or.inl ⟨by rfl,?_⟩) ka1 ?_
      . exact kf1
      try simp only [Act.put,zaa,zba,zca]
      refine wpAnyH_take (i:=8) (oi:=⟨some 44,_,_,_,_,some (2,true)⟩) (v:=.agg (sr r1 r2 r3 r4 r5 r6)) rfl ka ka ka (fun _ _ _ h=>h) (Or.inl ⟨by rfl,?_⟩) ka1 ?_
      . exact kf1
      try simp only [Act.put,zaa,zba,zca]
      have ID:Hid (IsL (wr.alloc (.cells (sr r1 r2 r3 r4 r5 r6) 75)).drew base (some ⟨g',0,none⟩) L):=hI.out.below (below_drew baa)
      have BD:Hid (bc w (wr.alloc (.cells (sr r1 r2 r3 r4 r5 r6) 75)).drew):=below_drew (below_new hb.out _)
      have lD:wr.heap.size<(wr.alloc (.cells (sr r1 r2 r3 r4 r5 r6) 75)).drew.heap.size:=by show _<(World.alloc _ _).heap.size;simp
      clear hI hb y0 y1 y2 y3 y4 y5 x0 x1 x2 x3 x4 x5
      generalize (wr.alloc (.cells (sr r1 r2 r3 r4 r5 r6) 75)).drew=U at ID BD lD hHeld |-
      refine rda 9 ⟨some 45,_,_,_,_,some (2,true)⟩ rfl fun K hK=> ?_
      go_simp
      go_wp2_with (go_at_call 55;refine (MJ'.out _).mono ?_;rintro e u3 ⟨rfl,hb3⟩)
      have I3:Hid (IsL u3 base (some ⟨g',0,none⟩) L):=ID.out.below hb3
      have B3:Hid (bc w u3):=below_then BD.out hb3
      have l3:wr.heap.size<u3.heap.size:=nla lD hb3.size
      obtain ⟨i0,i1,i2,i3,i4,i5,i6,i7,i8,i9,i10,i11⟩:=hHeld
      have hHeld3:u3.cell? ⟨wr.heap.size,1,none⟩=some (.int .i64 r2):=(hb3.cell (p:=⟨wr.heap.size,1,none⟩) lD).trans i1
      refine hK.out _ _ ⟨(hb3.cell (p:=⟨_,_,none⟩) (lD)).trans i0,(hb3.cell (p:=⟨_,_,none⟩) (lD)).trans i1,(hb3.cell (p:=⟨_,_,none⟩) (lD)).trans i2,(hb3.cell (p:=⟨_,_,none⟩) (lD)).trans i3,(hb3.cell (p:=⟨_,_,none⟩) (lD)).trans i4,(hb3.cell (p:=⟨_,_,none⟩) (lD)).trans i5,(hb3.cell (p:=⟨_,_,none⟩) ((Nat.lt_trans g2' lD))).trans i6,(hb3.cell (p:=⟨_,_,none⟩) ((Nat.lt_trans g2' lD))).trans i7,(hb3.cell (p:=⟨_,_,none⟩) ((Nat.lt_trans g2' lD))).trans i8,(hb3.cell (p:=⟨_,_,none⟩) ((Nat.lt_trans g2' lD))).trans i9,(hb3.cell (p:=⟨_,_,none⟩) ((Nat.lt_trans g2' lD))).trans i10,(hb3.cell (p:=⟨_,_,none⟩) ((Nat.lt_trans g2' lD))).trans i11⟩ (fun hHeld=> ?_)
      clear hK K i0 i1 i2 i3 i4 i5 i6 i7 i8 i9 i10 i11 hb3 ID BD lD
      try simp only [Act.put,zaa,zba,zca]
      refine tma 10 46 rfl ?_
      clear hHeld
      refine wpAnyH_done ka ?_ _
      refine NoPanic.normal ?_
      cases jn
      . have N3:Hid (∀ j,j<m+1->okAt L j=true):=YES.out (by rw [OK2.out];rfl)
        have cN:Hid (u3.cell? ⟨wr.heap.size,1,none⟩=some (.int .i64 r2)):=hHeld3
        have x1':=cN.out
        go_wp2_with fail
        go_roundw
        case rel=>exact ⟨m+1,r2,by omega,rfl,by go_num,EN.out.symm,N3,I3.out,B3.out⟩
        case measure=>simp [intOf];omega
      . obtain rfl:z=false:=NO.out (by rw [OK2.out];rfl)
        go_wp2_with fail
        go_ret
        exact ⟨rfl,B3.out⟩
  . obtain rfl:m=L.length:=by omega
    obtain rfl:z=true:=by rw [ZA.out];exact (allB_iff _ _).2 hG.out
    go_wp2_with fail
    go_ret
    exact ⟨rfl,hb.out⟩
def Rg.len (r:Rg) (f t:Int):Int:=if max r.fr f<min r.tt t then min r.tt t-max r.fr f else 0
def cntR (f t:Int):List Rg->Int
 | [] => 0
 | r :: l => r.len f t + cntR f t l
theorem cntR_append (f t:Int) (k:List Rg): ∀ l,cntR f t (l++k)=cntR f t l+cntR f t k
 | [] => by show cntR f t k = 0 + _; omega
 | a :: l => by rw [List.cons_append, cntR, cntR, cntR_append f t k l]; omega
theorem takeR_next (B:List Rg) (m:Nat) (h:m<B.length):B.take (m+1)=B.take m++[B.getD m Rg.zero]:=by
 rw [List.take_add_one,List.getElem?_eq_getElem h]
 have:B.getD m Rg.zero=B[m]:=by rw [List.getD,List.getElem?_eq_getElem h];rfl
 rw [this];rfl
theorem cntR_take (f t:Int) (L:List Rg) (m:Nat) (h:m<L.length):cntR f t (L.take (m+1))=cntR f t (L.take m)+(L.getD m Rg.zero).len f t:=by
 rw [takeR_next L m h,cntR_append]
 show _+(_+0)=_
 omega
def NumL (L:List Rg):Prop:= ∀ k,k<L.length-> -2199023255552<=(L.getD k Rg.zero).fr/\(L.getD k Rg.zero).tt<=2199023255552
theorem count_any (base:Nat) (p:Option Addr) (c:Nat) (L:List Rg) (hL:L.length<=100) (hN:NumL L) (qf qt:Int) (w:World) (h:IsL w base p L) :
 Calls Tryz.prog 26 #[.slice p L.length c,rgV qf qt] w (re (.int .i64 (cntR qf qt L)) w):=by
 obtain ⟨z,hz⟩: ∃ z,cntR qf qt L=z:=⟨_,rfl⟩
 rw [hz]
 have HZ:Hid (cntR qf qt L=z):=hz
 have HI:Hid (IsL w base p L):=h
 have HN:Hid (NumL L):=hN
 have CM:Hid (∀ (a1 a2:Int) (W:World),Calls Tryz.prog 54 #[rgV a1 a2,rgV qf qt] W (re (rgV (max a1 qf) (min a2 qt)) W)):=fun a1 a2 W=>common_any a1 a2 qf qt W
 clear hz h hN
 go_enter Tryz.func26,Tryz.ntmps26
 go_wp2_with fail
 go_loopw [5,11] (fun y x W=> ∃ (m:Nat) (s:Int),m<=L.length/\y=.int .i64 s/\x=.int .i64 m/\0<=s/\s<=(m:Int)*4398046511104/\Hid (IsL W base p L)/\Hid (bc w W)/\Hid (W.cell? ⟨w.heap.size,0,none⟩=some (.int .i64 qf)/\W.cell? ⟨w.heap.size,1,none⟩=some (.int .i64 qt)/\w.heap.size<W.heap.size)/\Hid (s=cntR qf qt (L.take m))) (fun _ x _=>L.length-(intOf x).toNat)
 case atStart=>exact ⟨0,0,by omega,rfl,rfl,by omega,by omega,HI.out.below baa,baa,⟨by simp,by simp,by simp⟩,rfl⟩
 case round =>
  obtain ⟨m,s,hm,rfl,rfl,s0,s1,hI,hb,hP,hS⟩:=hrel
  by_cases hlm:m<L.length
  . have hd:decide ((m:Int)<(L.length:Int))=true:=by simp;omega
    obtain ⟨g,rfl,g1,g2,gc⟩:=hI.out m hlm
    have NX:Hid (cntR qf qt (L.take (m+1))=s+(L.getD m Rg.zero).len qf qt):=by
     show _=_
     rw [cntR_take qf qt L m hlm,<- hS.out]
    have nm:=HN.out m hlm
    generalize L.getD m Rg.zero=rr at gc NX nm
    obtain ⟨r1,r2,r3,r4,r5,r6⟩:=rr
    simp only at nm
    obtain ⟨n1,n2⟩:=nm
    unfold Rg.len at NX
    simp only at NX
    have y0:wr.cell? ⟨g,m*6,none⟩=some (.int .i64 r1):=gc 0 _ rfl
    have y1:wr.cell? ⟨g,m*6+1,none⟩=some (.int .i64 r2):=gc 1 _ rfl
    have y2:wr.cell? ⟨g,m*6+2,none⟩=some (.bool r3):=gc 2 _ rfl
    have y3:wr.cell? ⟨g,m*6+3,none⟩=some (.bool r4):=gc 3 _ rfl
    have y4:wr.cell? ⟨g,m*6+4,none⟩=some (.bool r5):=gc 4 _ rfl
    have y5:wr.cell? ⟨g,m*6+5,none⟩=some (.int .i64 r6):=gc 5 _ rfl
    clear gc
    have CR:Hid _:=CM.out r1 r2
    obtain ⟨mf,hmf⟩: ∃ x,max r1 qf=x:=⟨_,rfl⟩
    obtain ⟨mt,hmt⟩: ∃ x,min r2 qt=x:=⟨_,rfl⟩
    rw [hmf,hmt] at CR NX
    have k1:r1<=mf:=by omega
    have k2:mt<=r2:=by omega
    clear hmf hmt
    obtain ⟨b0,b1,lw⟩:=hP.out
    go_wp2_with fail
    refine (CR.out _).mono ?_
    rintro e u1 ⟨rfl,hb1⟩
    have BW:Hid (bc wr u1):=below_then baa hb1
    have I1:Hid (IsL (u1.alloc (.cells #[.int .i64 mf,.int .i64 mt] 43)) base (some ⟨g,0,none⟩) L):=(hI.out.below BW.out).below baa
    have B1:Hid (bc w (u1.alloc (.cells #[.int .i64 mf,.int .i64 mt] 43))):=below_new (below_then hb.out BW.out) _
    have P1:Hid ((u1.alloc (.cells #[.int .i64 mf,.int .i64 mt] 43)).cell? ⟨w.heap.size,0,none⟩=some (.int .i64 qf)/\(u1.alloc (.cells #[.int .i64 mf,.int .i64 mt] 43)).cell? ⟨w.heap.size,1,none⟩=some (.int .i64 qt)/\w.heap.size<(u1.alloc (.cells #[.int .i64 mf,.int .i64 mt] 43)).heap.size):=by
     have l1:w.heap.size<u1.heap.size:=nla lw BW.out.size
     exact ⟨(World.cell?_alloc_lt _ _ _ (by exact l1)).trans ((BW.out.cell (p:=⟨w.heap.size,0,none⟩) lw).trans b0),(World.cell?_alloc_lt _ _ _ (by exact l1)).trans ((BW.out.cell (p:=⟨w.heap.size,1,none⟩) lw).trans b1),by rw [World.size_alloc];omega⟩
    clear hb1 hI hb hP b0 b1 y0 y1 y2 y3 y4 y5 BW
    by_cases cc:mf<mt
    . have ed:decide (mf<mt)=true:=by simp [cc]
      have N2:Hid (s+(mt-mf)=cntR qf qt (L.take (m+1))):=by
       have:=NX.out
       rw [if_pos cc] at this;exact this.symm
      clear NX
      go_wp2_with fail
      go_roundw
      case rel=>exact ⟨m+1,s+(mt-mf),by omega,by go_num,by go_num,by omega,by omega,I1,B1,P1,N2⟩
      case measure=>simp [intOf];omega
    . have ed:decide (mf<mt)=false:=by simp [cc]
      have N2:Hid (s=cntR qf qt (L.take (m+1))):=by
       have:=NX.out
       rw [if_neg cc,Int.add_zero] at this;exact this.symm
      clear NX
      go_wp2_with fail
      go_roundw
      case rel=>exact ⟨m+1,s,by omega,rfl,by go_num,by omega,by omega,I1,B1,P1,N2⟩
      case measure=>simp [intOf];omega
  . obtain rfl:m=L.length:=by omega
    have ez:s=z:=by
     have h1:=hS.out
     rw [List.take_length,HZ.out] at h1;exact h1
    subst ez
    go_wp2_with fail
    go_ret
    exact ⟨rfl,hb.out⟩
theorem few_yes (p:Option Addr) (n c:Nat) (h:n<=64) (w:World):Calls Tryz.prog 28 #[.slice p n c] w (re (.tuple #[.slice p n c,.int .i64 0]) w):=by
 have hd:decide (64<(n:Int))=false:=kh
 go_enter Tryz.func28,Tryz.ntmps28
 go_wp2_with fail
 go_returns
 exact ⟨rfl,Below.refl _ _⟩
theorem few_no (p:Option Addr) (n c:Nat) (h:64<n) (hn:n<=1000) (w:World):Calls Tryz.prog 28 #[.slice p n c] w (re (.tuple #[.slice none 0 0,.int .i64 4]) w):=by
 have hd:decide (64<(n:Int))=true:=kh
 go_enter Tryz.func28,Tryz.ntmps28
 go_wp2_with fail
 go_returns
 exact ⟨rfl,Below.refl _ _⟩
def checkN (L:List Rg) (f t:Int):Int:=if rightB f t=true then (if goodB L=true then 0 else 3) else 1
theorem check_any (base:Nat) (p:Option Addr) (c:Nat) (L:List Rg) (hL:L.length<=100) (f t:Int) (w:World) (h:IsL w base p L) :
 Calls Tryz.prog 25 #[.slice p L.length c,rgV f t] w (re (.int .i64 (checkN L f t)) w):=by
 have RA:Hid (∀ W:World,Calls Tryz.prog 52 #[rgV f t] W (re (.bool (rightB f t)) W)):=fun W=>right_any f t W
 have GA:Hid (∀ W:World,IsL W base p L->Calls Tryz.prog 53 #[.slice p L.length c] W (re (.bool (goodB L)) W)):=fun W h=>good_any base p c L hL W h
 have HI:Hid (IsL w base p L):=h
 unfold checkN
 generalize rightB f t=z1 at RA |-
 generalize goodB L=z2 at GA |-
 clear h
 generalize L.length=n at GA |-
 cases z1
 . rw [if_neg (by simp)]
   go_enter Tryz.func25,Tryz.ntmps25
   go_wp2_with fail
   refine (RA.out _).mono ?_
   rintro e u1 ⟨rfl,hb1⟩
   have B1:Hid (bc w u1):=below_then baa hb1
   clear hb1
   go_wp2_with fail
   go_ret
   exact ⟨rfl,B1.out⟩
 . rw [if_pos rfl]
   cases z2
   all_goals
    go_enter Tryz.func25,Tryz.ntmps25
    go_wp2_with fail
    refine (RA.out _).mono ?_
    rintro e u1 ⟨rfl,hb1⟩
    have B1:Hid (bc w u1):=below_then baa hb1
    clear hb1
    go_wp2_with fail
    refine (GA.out _ (HI.out.below B1.out)).mono ?_
    rintro e u2 ⟨rfl,hb2⟩
    have B2:Hid (bc w u2):=below_then B1.out hb2
    clear hb2
    go_wp2_with fail
    go_ret
    exact ⟨rfl,B2.out⟩
def Rg.upto (r:Rg) (t:Int):Rg:=⟨r.fr,t,r.w,r.u,r.x,r.kd⟩
theorem flat_set: ∀ (L:List Rg) (i:Nat) (t:Int),i<L.length->(L.flatMap Rg.enc).set (i*6+1) (.int .i64 t)=(L.set i ((L.getD i Rg.zero).upto t)).flatMap Rg.enc
 | [], i, t, h => absurd h (Nat.not_lt_zero _)
 | r :: l, 0, t, h => by
  rw [List.flatMap_cons,List.set_cons_zero,List.flatMap_cons]
  have e:((r::l).getD 0 Rg.zero)=r:=rfl
  rw [e,List.set_append_left _ _ (by rw [renc_len];omega)]
  rfl
 | r :: l, i + 1, t, h => by
  rw [List.flatMap_cons,List.set_cons_succ,List.flatMap_cons]
  have e:((r::l).getD (i+1) Rg.zero)=l.getD i Rg.zero:=by simp [List.getD]
  rw [e,List.set_append_right _ _ (by rw [renc_len];omega),renc_len,show (i+1)*6+1-6=i*6+1 by omega,flat_set l i t (by simpa using h)]
theorem OwnL.setTo {w:World} {base g cap:Nat} {L:List Rg} (h:OwnL w base (.slice (some ⟨g,0,none⟩) L.length cap) L) (i:Nat) (hi:i<L.length) (t:Int):OwnL (w.setCell ⟨g,i*6+1,none⟩ (.int .i64 t)) base (.slice (some ⟨g,0,none⟩) L.length cap) (L.set i ((L.getD i Rg.zero).upto t)):=by
 have:=(World.ownsRow.stored h (i*6+1) (.int .i64 t)).1
 unfold OwnL
 rw [flat_set L i t hi] at this
 rw [List.length_set];exact this
theorem OwnL.cell {w:World} {base g cap:Nat} {L:List Rg} (h:OwnL w base (.slice (some ⟨g,0,none⟩) L.length cap) L) (i:Nat) (hi:i<L.length) (j:Nat) (x:Value) (hj:j<6) (hx:(L.getD i Rg.zero).enc[j]? =some x):w.cell? ⟨g,i*6+j,none⟩=some x:=by
 rw [World.ownsRow.cellAt h (i*6+j) (by omega),flatR_enc L i j hi hj,hx]
theorem OwnL.next {w:World} {base:Nat} {v:Value} {L:List Rg} {r:Rg} (h:w.ownsRow base 75 6 v (L.length+1) (L.flatMap Rg.enc++r.enc)):OwnL w base v (L++[r]):=by
 unfold OwnL;simpa [List.flatMap_append] using h
theorem OwnL.below {w w':World} {base:Nat} {v:Value} {L:List Rg} (h:OwnL w base v L) (hb:bc w w'):OwnL w' base v L:=own_keep h hb
def lastR (L:List Rg):Rg:=L.getD (L.length-1) Rg.zero
def withL (L:List Rg) (r:Rg):List Rg:=if r.tt<=r.fr then L else if 0<L.length/\(lastR L).joins r=true then L.set (L.length-1) ((lastR L).upto r.tt) else L++[r]
theorem withL_len (L:List Rg) (r:Rg):(withL L r).length<=L.length+1:=by
 unfold withL
 split
 . omega
 . split
   . rw [List.length_set];omega
   . rw [List.length_append];simp
def WithK (w w':World) (v v':Value):Prop:=w.grownBy w' v.ownBlock/\(v'.ownBlock=v.ownBlock\/ ∃ j,w.heap.size<=j/\v'.ownBlock=some j)
theorem WithK.refl {w w':World} (v:Value) (h:bc w w'):WithK w w' v v:=⟨grown_of_below h _,Or.inl rfl⟩
theorem news1 (u:World) (C:Array Value) (t:TypeId): ∀ j x,C.toList[j]? =some x->(u.alloc (.cells C t)).cell? ((⟨u.heap.size,0,none⟩:Addr).add j)=some x:=by
 intro j x hx
 rw [Addr.add_mid,Nat.zero_add]
 exact (Go.Joins.cell_of_block (own1 u (.cells C t)) j).trans (by simpa using hx)
theorem grown_then {a b c:World} {r:Option Nat} (h:bc a b) (k:b.grownBy c r):a.grownBy c r:=grown_trans (grown_of_below h r) k
theorem with_any (base:Nat) (v:Value) (L:List Rg) (hL:L.length<=1000) (r:Rg) (w:World) (hw:base<=w.heap.size) (h:OwnL w base v L) :
 Calls Tryz.prog 27 #[v,r.val] w fun e w'=> ∃ v',e=.returned v'/\OwnL w' base v' (withL L r)/\WithK w w' v v':=by
 obtain ⟨i0,hi,hz0,hz1,hz2⟩:=info5 rg_info5
 obtain ⟨M,hM⟩: ∃ M,withL L r=M:=⟨_,rfl⟩
 rw [hM]
 have HM:Hid (withL L r=M):=hM
 have HO:Hid (OwnL w base v L):=h
 have MK:Hid (∀ (a b:Rg) (W:World),Calls Tryz.prog 55 #[a.val,b.val] W (re (.bool (a.joins b)) W)):=make_any
 clear hM
 by_cases c0:r.tt<=r.fr
 . have em:M=L:=by rw [<- HM.out];unfold withL;rw [if_pos c0]
   subst em
   obtain ⟨r1,r2,r3,r4,r5,r6⟩:=r
   simp only at c0
   have d0:decide (r2<=r1)=true:=by simp [c0]
   clear HM h
   have O1:Hid (OwnL (w.alloc (.cells (sr r1 r2 r3 r4 r5 r6) 75)) base v M):=OwnL.below HO.out baa
   go_enter Tryz.func27,Tryz.ntmps27
   go_wp2_with fail
   go_ret
   exact ⟨v,rfl,O1.out,WithK.refl v baa⟩
 have d0:decide (r.tt<=r.fr)=false:=kh
 rcases Go.Joins.ownsRow_forms h with ⟨ev,en⟩ | ⟨g,cap,ev⟩
 . have EW:Hid (M=L++[r]):=by show _=_;rw [<- HM.out];unfold withL;rw [if_neg c0,if_neg (fun q=>by omega)]
   have eLn:L.length=0:=en
   obtain ⟨r1,r2,r3,r4,r5,r6⟩:=r
   simp only at d0
   clear c0 HM h en
   subst ev
   go_enter Tryz.func27,Tryz.ntmps27
   go_wp2_with fail
   refine hda (fun c=>c.cell? ⟨w.heap.size,0,none⟩=some (.int .i64 r1)/\c.cell? ⟨w.heap.size,1,none⟩=some (.int .i64 r2)/\c.cell? ⟨w.heap.size,2,none⟩=some (.bool r3)/\c.cell? ⟨w.heap.size,3,none⟩=some (.bool r4)/\c.cell? ⟨w.heap.size,4,none⟩=some (.bool r5)/\c.cell? ⟨w.heap.size,5,none⟩=some (.int .i64 r6)) (⟨by simp,by simp,by simp,by simp,by simp,by simp⟩) fun hHeld=> ?_
   refine tma 0 17 rfl ?_
   refine tla 1 18 (.bool false) rfl ?_ ?_
   . exact kc1
   refine tma 2 19 rfl ?_
   refine wpAnyH_take (i:=3) (oi:=⟨some 20,_,_,_,_,some (2,true)⟩) (v:=undef) rfl ka ka ka (fun _ _ _ h=>h) (Or.inr ⟨by rfl,rfl⟩) ka1 ?_
   try simp only [Act.put,zaa,zba,zca]
   refine wpAnyH_take (i:=4) (oi:=⟨some 21,_,_,_,_,some (2,true)⟩) (v:=undef) rfl ka ka ka (fun _ _ _ h=>h) (Or.inr ⟨by rfl,rfl⟩) ka1 ?_
   try simp only [Act.put,zaa,zba,zca]
   refine wpAnyH_take (i:=5) (oi:=⟨some 22,_,_,_,_,some (2,true)⟩) (v:=undef) rfl ka ka ka (fun _ _ _ h=>h) (Or.inr ⟨by rfl,rfl⟩) ka1 ?_
   try simp only [Act.put,zaa,zba,zca]
   refine wpAnyH_take (i:=6) (oi:=⟨some 23,_,_,_,_,some (2,true)⟩) (v:=undef) rfl ka ka ka (fun _ _ _ h=>h) (Or.inr ⟨by rfl,rfl⟩) ka1 ?_
   try simp only [Act.put,zaa,zba,zca]
   refine wpAnyH_take (i:=7) (oi:=⟨some 24,_,_,_,_,some (2,true)⟩) (v:=undef) rfl ka ka ka (fun _ _ _ h=>h) (Or.inr ⟨by rfl,rfl⟩) ka1 ?_
   try simp only [Act.put,zaa,zba,zca]
   refine wpAnyH_take (i:=8) (oi:=⟨some 25,_,_,_,_,some (2,true)⟩) (v:=undef) rfl ka ka ka (fun _ _ _ h=>h) (Or.inr ⟨by rfl,rfl⟩) ka1 ?_
   try simp only [Act.put,zaa,zba,zca]
   refine tma 9 26 rfl ?_
   refine wpAnyH_done ka ?_ _
   refine NoPanic.normal ?_
   have OU:Hid (OwnL (w.alloc (.cells (sr r1 r2 r3 r4 r5 r6) 75)).drew base (.slice none 0 0) L):=OwnL.below HO.out (below_drew baa)
   have BU:Hid (bc w (w.alloc (.cells (sr r1 r2 r3 r4 r5 r6) 75)).drew):=below_drew baa
   have lU:w.heap.size<(w.alloc (.cells (sr r1 r2 r3 r4 r5 r6) 75)).drew.heap.size:=by show _<(World.alloc _ _).heap.size;simp
   generalize (w.alloc (.cells (sr r1 r2 r3 r4 r5 r6) 75)).drew=U at OU BU lU hHeld |-
   obtain ⟨x0,x1,x2,x3,x4,x5⟩:=hHeld
   have OW:Hid ((U.alloc (.cells (sr r1 r2 r3 r4 r5 r6) 75)).ownsRow base 75 6 (.slice none 0 0) L.length (L.flatMap Rg.enc)):=own_keep OU.out baa
   have NW:Hid (∀ j x,((sq r1 r2 r3 r4 r5 r6):List Value)[j]? =some x->(U.alloc (.cells (sr r1 r2 r3 r4 r5 r6) 75)).cell? ((⟨U.heap.size,0,none⟩:Addr).add j)=some x):=news1 U (sr r1 r2 r3 r4 r5 r6) 75
   have ON:Hid (∀ x∈((sq r1 r2 r3 r4 r5 r6):List Value),x.oneCell'=true):=by show ∀ x∈((sq r1 r2 r3 r4 r5 r6):List Value),x.oneCell'=true;simp [Value.oneCell']
   have HZ:Hid (base<=(U.alloc (.cells (sr r1 r2 r3 r4 r5 r6) 75)).heap.size):=by show _<=_;rw [World.size_alloc];have:=BU.out.size;omega
   have MX:Hid (L.length+1<=maxLen):=by show _<=_;unfold maxLen;omega
   have BY:Hid ((L.length+1)*32<=140737488355328):=by show _<=_;omega
   have BA:Hid (bc w (U.alloc (.cells (sr r1 r2 r3 r4 r5 r6) 75))):=below_new BU.out _
   have SZ:Hid (w.heap.size<=(U.alloc (.cells (sr r1 r2 r3 r4 r5 r6) 75)).heap.size):=BA.out.size
   generalize hN:L.length=nL at OW MX BY |-
   go_wp2_with (at_builtin;refine wpList_append_own_at _ rfl _ _ 69 rfl base 75 i0 zrg 6 32 Tryz.underlying69 hi hz0 hz1 hz2 rfl (by decide) (.slice none 0 0) nL (L.flatMap Rg.enc) rfl OW.out ⟨U.heap.size,0,none⟩ 1 1 ((sq r1 r2 r3 r4 r5 r6):List Value) rfl rfl NW.out ON.out MX.out BY.out HZ.out ?_;intro v1 a0 hown hg hnil hblk;have O1:Hid (a0.ownsRow base 75 6 v1 (nL+1) (L.flatMap Rg.enc++(sq r1 r2 r3 r4 r5 r6))):=hown;have K1:Hid (WithK w a0 (.slice none 0 0) v1):=⟨grown_then BA.out hg,hblk.elim Or.inl (fun e=>Or.inr ⟨_,SZ.out,e⟩)⟩;clear hown hg hnil hblk OW NW ON HZ MX BY BA SZ)
   go_wp2_with fail
   go_ret
   exact ⟨v1,rfl,by rw [EW.out];exact OwnL.next (r:=⟨r1,r2,r3,r4,r5,r6⟩) (by rw [hN];exact O1.out),K1.out⟩
 . subst ev
   by_cases e0:L.length=0
   . have EW:Hid (M=L++[r]):=by show _=_;rw [<- HM.out];unfold withL;rw [if_neg c0,if_neg (fun q=>by omega)]
     have eLn:L.length=0:=e0
     obtain ⟨r1,r2,r3,r4,r5,r6⟩:=r
     simp only at d0
     clear c0 HM h e0
     have HO2:Hid (OwnL w base (.slice (some ⟨g,0,none⟩) 0 cap) L):=by have:=HO.out;rw [eLn] at this;exact this
     clear HO
     have HO:Hid _:=HO2.out
     clear HO2
     rw [eLn]
     go_enter Tryz.func27,Tryz.ntmps27
     go_wp2_with fail
     refine hda (fun c=>c.cell? ⟨w.heap.size,0,none⟩=some (.int .i64 r1)/\c.cell? ⟨w.heap.size,1,none⟩=some (.int .i64 r2)/\c.cell? ⟨w.heap.size,2,none⟩=some (.bool r3)/\c.cell? ⟨w.heap.size,3,none⟩=some (.bool r4)/\c.cell? ⟨w.heap.size,4,none⟩=some (.bool r5)/\c.cell? ⟨w.heap.size,5,none⟩=some (.int .i64 r6)) (⟨by simp,by simp,by simp,by simp,by simp,by simp⟩) fun hHeld=> ?_
     refine tma 0 17 rfl ?_
     refine tla 1 18 (.bool false) rfl ?_ ?_
     . exact kc1
     refine tma 2 19 rfl ?_
     refine wpAnyH_take (i:=3) (oi:=⟨some 20,_,_,_,_,some (2,true)⟩) (v:=undef) rfl ka ka ka (fun _ _ _ h=>h) (Or.inr ⟨by rfl,rfl⟩) ka1 ?_
     try simp only [Act.put,zaa,zba,zca]
     refine wpAnyH_take (i:=4) (oi:=⟨some 21,_,_,_,_,some (2,true)⟩) (v:=undef) rfl ka ka ka (fun _ _ _ h=>h) (Or.inr ⟨by rfl,rfl⟩) ka1 ?_
     try simp only [Act.put,zaa,zba,zca]
     refine wpAnyH_take (i:=5) (oi:=⟨some 22,_,_,_,_,some (2,true)⟩) (v:=undef) rfl ka ka ka (fun _ _ _ h=>h) (Or.inr ⟨by rfl,rfl⟩) ka1 ?_
     try simp only [Act.put,zaa,zba,zca]
     refine wpAnyH_take (i:=6) (oi:=⟨some 23,_,_,_,_,some (2,true)⟩) (v:=undef) rfl ka ka ka (fun _ _ _ h=>h) (Or.inr ⟨by rfl,rfl⟩) ka1 ?_
     try simp only [Act.put,zaa,zba,zca]
     refine wpAnyH_take (i:=7) (oi:=⟨some 24,_,_,_,_,some (2,true)⟩) (v:=undef) rfl ka ka ka (fun _ _ _ h=>h) (Or.inr ⟨by rfl,rfl⟩) ka1 ?_
     try simp only [Act.put,zaa,zba,zca]
     refine wpAnyH_take (i:=8) (oi:=⟨some 25,_,_,_,_,some (2,true)⟩) (v:=undef) rfl ka ka ka (fun _ _ _ h=>h) (Or.inr ⟨by rfl,rfl⟩) ka1 ?_
     try simp only [Act.put,zaa,zba,zca]
     refine tma 9 26 rfl ?_
     refine wpAnyH_done ka ?_ _
     refine NoPanic.normal ?_
     have OU:Hid (OwnL (w.alloc (.cells (sr r1 r2 r3 r4 r5 r6) 75)).drew base (.slice (some ⟨g,0,none⟩) 0 cap) L):=OwnL.below HO.out (below_drew baa)
     have BU:Hid (bc w (w.alloc (.cells (sr r1 r2 r3 r4 r5 r6) 75)).drew):=below_drew baa
     have lU:w.heap.size<(w.alloc (.cells (sr r1 r2 r3 r4 r5 r6) 75)).drew.heap.size:=by show _<(World.alloc _ _).heap.size;simp
     generalize (w.alloc (.cells (sr r1 r2 r3 r4 r5 r6) 75)).drew=U at OU BU lU hHeld |-
     obtain ⟨x0,x1,x2,x3,x4,x5⟩:=hHeld
     have OW:Hid ((U.alloc (.cells (sr r1 r2 r3 r4 r5 r6) 75)).ownsRow base 75 6 (.slice (some ⟨g,0,none⟩) 0 cap) L.length (L.flatMap Rg.enc)):=own_keep OU.out baa
     have NW:Hid (∀ j x,((sq r1 r2 r3 r4 r5 r6):List Value)[j]? =some x->(U.alloc (.cells (sr r1 r2 r3 r4 r5 r6) 75)).cell? ((⟨U.heap.size,0,none⟩:Addr).add j)=some x):=news1 U (sr r1 r2 r3 r4 r5 r6) 75
     have ON:Hid (∀ x∈((sq r1 r2 r3 r4 r5 r6):List Value),x.oneCell'=true):=by show ∀ x∈((sq r1 r2 r3 r4 r5 r6):List Value),x.oneCell'=true;simp [Value.oneCell']
     have HZ:Hid (base<=(U.alloc (.cells (sr r1 r2 r3 r4 r5 r6) 75)).heap.size):=by show _<=_;rw [World.size_alloc];have:=BU.out.size;omega
     have MX:Hid (L.length+1<=maxLen):=by show _<=_;unfold maxLen;omega
     have BY:Hid ((L.length+1)*32<=140737488355328):=by show _<=_;omega
     have BA:Hid (bc w (U.alloc (.cells (sr r1 r2 r3 r4 r5 r6) 75))):=below_new BU.out _
     have SZ:Hid (w.heap.size<=(U.alloc (.cells (sr r1 r2 r3 r4 r5 r6) 75)).heap.size):=BA.out.size
     generalize hN:L.length=nL at OW MX BY |-
     go_wp2_with (at_builtin;refine wpList_append_own_at _ rfl _ _ 69 rfl base 75 i0 zrg 6 32 Tryz.underlying69 hi hz0 hz1 hz2 rfl (by decide) (.slice (some ⟨g,0,none⟩) 0 cap) nL (L.flatMap Rg.enc) rfl OW.out ⟨U.heap.size,0,none⟩ 1 1 ((sq r1 r2 r3 r4 r5 r6):List Value) rfl rfl NW.out ON.out MX.out BY.out HZ.out ?_;intro v1 a0 hown hg hnil hblk;have O1:Hid (a0.ownsRow base 75 6 v1 (nL+1) (L.flatMap Rg.enc++(sq r1 r2 r3 r4 r5 r6))):=hown;have K1:Hid (WithK w a0 (.slice (some ⟨g,0,none⟩) 0 cap) v1):=⟨grown_then BA.out hg,hblk.elim Or.inl (fun e=>Or.inr ⟨_,SZ.out,e⟩)⟩;clear hown hg hnil hblk OW NW ON HZ MX BY BA SZ)
     go_wp2_with fail
     go_ret
     exact ⟨v1,rfl,by rw [EW.out];exact OwnL.next (r:=⟨r1,r2,r3,r4,r5,r6⟩) (by rw [hN];exact O1.out),K1.out⟩
   have n1:1<=L.length:=by omega
   have hlast:(lastR L)=L.getD (L.length-1) Rg.zero:=rfl
   have EJ:Hid ((lastR L).joins r=true->M=L.set (L.length-1) ((lastR L).upto r.tt)):=fun q=>by rw [<- HM.out];unfold withL;rw [if_neg c0,if_pos ⟨by omega,q⟩]
   have EN:Hid ((lastR L).joins r=false->M=L++[r]):=fun q=>by rw [<- HM.out];unfold withL;rw [if_neg c0,if_neg (fun k=>by rw [q] at k;simp at k)]
   have HC:Hid (∀ j x,j<6->(lastR L).enc[j]? =some x->w.cell? ⟨g,(L.length-1)*6+j,none⟩=some x):=fun j x hj hx=>OwnL.cell HO.out (L.length-1) (by omega) j x hj hx
   have ST:Hid (∀ (W:World) (t:Int),OwnL W base (.slice (some ⟨g,0,none⟩) L.length cap) L->OwnL (W.setCell ⟨g,(L.length-1)*6+1,none⟩ (.int .i64 t)) base (.slice (some ⟨g,0,none⟩) L.length cap) (L.set (L.length-1) ((lastR L).upto t))):=fun W t q=>OwnL.setTo q (L.length-1) (by omega) t
   have gw:g<w.heap.size:=(World.ownsRow.lt HO.out g rfl).2
   have FZ:Hid (∀ W:World,OwnL W base (.slice (some ⟨g,0,none⟩) L.length cap) L->W.frozen? ⟨g,(L.length-1)*6+1,none⟩=false):=fun W q=>World.ownsRow.frozenAt q _
   clear hlast h HM c0 e0
   generalize lastR L=la at EJ EN HC ST
   have MJ:Hid _:=MK.out la r
   obtain ⟨jn,hj⟩: ∃ j,la.joins r=j:=⟨_,rfl⟩
   rw [hj] at MJ EJ EN
   clear hj
   obtain ⟨q1,q2,q3,q4,q5,q6⟩:=la
   obtain ⟨r1,r2,r3,r4,r5,r6⟩:=r
   simp only at d0 EJ
   obtain ⟨nL,hN⟩: ∃ n,L.length=n:=⟨_,rfl⟩
   rw [hN] at EJ HC ST HO FZ n1 hL |-
   have HN:Hid (L.length=nL):=hN
   clear hN
   have y0:w.cell? ⟨g,(nL-1)*6,none⟩=some (.int .i64 q1):=HC.out 0 _ (by omega) rfl
   have y1:w.cell? ⟨g,(nL-1)*6+1,none⟩=some (.int .i64 q2):=HC.out 1 _ (by omega) rfl
   have y2:w.cell? ⟨g,(nL-1)*6+2,none⟩=some (.bool q3):=HC.out 2 _ (by omega) rfl
   have y3:w.cell? ⟨g,(nL-1)*6+3,none⟩=some (.bool q4):=HC.out 3 _ (by omega) rfl
   have y4:w.cell? ⟨g,(nL-1)*6+4,none⟩=some (.bool q5):=HC.out 4 _ (by omega) rfl
   have y5:w.cell? ⟨g,(nL-1)*6+5,none⟩=some (.int .i64 q6):=HC.out 5 _ (by omega) rfl
   clear HC
   go_enter Tryz.func27,Tryz.ntmps27
   go_wp2_with fail
   refine hda (fun c=>c.cell? ⟨w.heap.size,0,none⟩=some (.int .i64 r1)/\c.cell? ⟨w.heap.size,1,none⟩=some (.int .i64 r2)/\c.cell? ⟨w.heap.size,2,none⟩=some (.bool r3)/\c.cell? ⟨w.heap.size,3,none⟩=some (.bool r4)/\c.cell? ⟨w.heap.size,4,none⟩=some (.bool r5)/\c.cell? ⟨w.heap.size,5,none⟩=some (.int .i64 r6)/\c.cell? ⟨g,(nL-1)*6,none⟩=some (.int .i64 q1)/\c.cell? ⟨g,(nL-1)*6+1,none⟩=some (.int .i64 q2)/\c.cell? ⟨g,(nL-1)*6+2,none⟩=some (.bool q3)/\c.cell? ⟨g,(nL-1)*6+3,none⟩=some (.bool q4)/\c.cell? ⟨g,(nL-1)*6+4,none⟩=some (.bool q5)/\c.cell? ⟨g,(nL-1)*6+5,none⟩=some (.int .i64 q6)) (⟨by simp,by simp,by simp,by simp,by simp,by simp,(World.cell?_alloc_lt _ _ _ (by exact gw)).trans y0,(World.cell?_alloc_lt _ _ _ (by exact gw)).trans y1,(World.cell?_alloc_lt _ _ _ (by exact gw)).trans y2,(World.cell?_alloc_lt _ _ _ (by exact gw)).trans y3,(World.cell?_alloc_lt _ _ _ (by exact gw)).trans y4,(World.cell?_alloc_lt _ _ _ (by exact gw)).trans y5⟩) fun hHeld=> ?_
   refine tma 0 17 rfl ?_
   refine tla 1 18 (.bool true) rfl ?_ ?_
   . exact kc1
   refine tma 2 19 rfl ?_
   refine wpAnyH_take (i:=3) (oi:=⟨some 20,_,_,_,_,some (2,true)⟩) (v:= ?_) rfl ka ka ka (fun _ _ _ h=>h) (Or.inl ⟨by rfl,?_⟩) ka1 ?_
   rotate_left
   . exact ke1
   try simp only [Act.put,zaa,zba,zca]
   refine wpAnyH_take (i:=4) (oi:=⟨some 21,_,_,_,_,some (2,true)⟩) (v:= ?_) rfl ka ka ka (fun _ _ _ h=>h) (Or.inl ⟨by rfl,?_⟩) ka1 ?_
   rotate_left
   . exact ke1
   try simp only [Act.put,zaa,zba,zca]
   refine wpAnyH_take (i:=5) (oi:=⟨some 22,_,_,_,_,some (2,true)⟩) (v:=(.pointer (some ⟨g,(nL-1)*6,none⟩))) rfl ka ka ka (fun _ _ _ h=>h) (Or.inl ⟨by rfl,?_⟩) ka1 ?_
   . exact kc1
   try simp only [Act.put,zaa,zba,zca]
   refine wpAnyH_take (i:=6) (oi:=⟨some 23,_,_,_,_,some (2,true)⟩) (v:=.agg (sr q1 q2 q3 q4 q5 q6)) rfl ka ka ka (fun _ _ _ h=>h) (Or.inl ⟨by rfl,?_⟩) ka1 ?_
   . exact kf1
   try simp only [Act.put,zaa,zba,zca]
   refine wpAnyH_take (i:=7) (oi:=⟨some 24,_,_,_,_,some (2,true)⟩) (v:=.agg (sr r1 r2 r3 r4 r5 r6)) rfl ka ka ka (fun _ _ _ h=>h) (Or.inl ⟨by rfl,?_⟩) ka1 ?_
   . exact kf1
   try simp only [Act.put,zaa,zba,zca]
   have OD:Hid (OwnL (w.alloc (.cells (sr r1 r2 r3 r4 r5 r6) 75)).drew base (.slice (some ⟨g,0,none⟩) nL cap) L):=OwnL.below HO.out (below_drew baa)
   have BD:Hid (bc w (w.alloc (.cells (sr r1 r2 r3 r4 r5 r6) 75)).drew):=below_drew baa
   have lD:w.heap.size<(w.alloc (.cells (sr r1 r2 r3 r4 r5 r6) 75)).drew.heap.size:=by show _<(World.alloc _ _).heap.size;simp
   clear HO y0 y1 y2 y3 y4 y5
   generalize (w.alloc (.cells (sr r1 r2 r3 r4 r5 r6) 75)).drew=U at OD BD lD hHeld |-
   refine rda 8 ⟨some 25,_,_,_,_,some (2,true)⟩ rfl fun K hK=> ?_
   go_simp
   go_wp2_with (go_at_call 55;refine (MJ.out _).mono ?_;rintro e u3 ⟨rfl,hb3⟩)
   have OU:Hid (OwnL u3 base (.slice (some ⟨g,0,none⟩) nL cap) L):=OwnL.below OD.out hb3
   have BU:Hid (bc w u3):=below_then BD.out hb3
   have lU:w.heap.size<u3.heap.size:=nla lD hb3.size
   obtain ⟨i0,i1,i2,i3,i4,i5,i6,i7,i8,i9,i10,i11⟩:=hHeld
   refine hK.out _ _ ⟨(hb3.cell (p:=⟨_,_,none⟩) (lD)).trans i0,(hb3.cell (p:=⟨_,_,none⟩) (lD)).trans i1,(hb3.cell (p:=⟨_,_,none⟩) (lD)).trans i2,(hb3.cell (p:=⟨_,_,none⟩) (lD)).trans i3,(hb3.cell (p:=⟨_,_,none⟩) (lD)).trans i4,(hb3.cell (p:=⟨_,_,none⟩) (lD)).trans i5,(hb3.cell (p:=⟨_,_,none⟩) ((Nat.lt_trans gw lD))).trans i6,(hb3.cell (p:=⟨_,_,none⟩) ((Nat.lt_trans gw lD))).trans i7,(hb3.cell (p:=⟨_,_,none⟩) ((Nat.lt_trans gw lD))).trans i8,(hb3.cell (p:=⟨_,_,none⟩) ((Nat.lt_trans gw lD))).trans i9,(hb3.cell (p:=⟨_,_,none⟩) ((Nat.lt_trans gw lD))).trans i10,(hb3.cell (p:=⟨_,_,none⟩) ((Nat.lt_trans gw lD))).trans i11⟩ (fun hHeld=> ?_)
   clear hK K i0 i1 i2 i3 i4 i5 i6 i7 i8 i9 i10 i11 hb3 OD BD lD
   try simp only [Act.put,zaa,zba,zca]
   refine tma 9 26 rfl ?_
   refine wpAnyH_done ka ?_ _
   refine NoPanic.normal ?_
   obtain ⟨x0,x1,x2,x3,x4,x5,x6,x7,x8,x9,x10,x11⟩:=hHeld
   have gu:g<u3.heap.size:=(World.ownsRow.lt OU.out g rfl).2
   cases jn
   . have EW:Hid (M=L++[⟨r1,r2,r3,r4,r5,r6⟩]):=EN.out rfl
     clear x6 x7 x8 x9 x10 x11 EN EJ ST FZ MK MJ
     have OW:Hid ((u3.alloc (.cells (sr r1 r2 r3 r4 r5 r6) 75)).ownsRow base 75 6 (.slice (some ⟨g,0,none⟩) nL cap) L.length (L.flatMap Rg.enc)):=own_keep OU.out baa
     have NW:Hid (∀ j x,((sq r1 r2 r3 r4 r5 r6):List Value)[j]? =some x->(u3.alloc (.cells (sr r1 r2 r3 r4 r5 r6) 75)).cell? ((⟨u3.heap.size,0,none⟩:Addr).add j)=some x):=news1 u3 (sr r1 r2 r3 r4 r5 r6) 75
     have ON:Hid (∀ x∈((sq r1 r2 r3 r4 r5 r6):List Value),x.oneCell'=true):=by show ∀ x∈((sq r1 r2 r3 r4 r5 r6):List Value),x.oneCell'=true;simp [Value.oneCell']
     have HZ:Hid (base<=(u3.alloc (.cells (sr r1 r2 r3 r4 r5 r6) 75)).heap.size):=by show _<=_;rw [World.size_alloc];have:=BU.out.size;omega
     have MX:Hid (L.length+1<=maxLen):=by show _<=_;unfold maxLen;rw [HN.out];omega
     have BY:Hid ((L.length+1)*32<=140737488355328):=by show _<=_;rw [HN.out];omega
     have BA:Hid (bc w (u3.alloc (.cells (sr r1 r2 r3 r4 r5 r6) 75))):=below_new BU.out _
     have SZ:Hid (w.heap.size<=(u3.alloc (.cells (sr r1 r2 r3 r4 r5 r6) 75)).heap.size):=BA.out.size
     rw [HN.out] at OW MX BY
     go_wp2_with (at_builtin;refine wpList_append_own_at _ rfl _ _ 69 rfl base 75 i0 zrg 6 32 Tryz.underlying69 hi hz0 hz1 hz2 rfl (by decide) (.slice (some ⟨g,0,none⟩) nL cap) nL (L.flatMap Rg.enc) rfl OW.out ⟨u3.heap.size,0,none⟩ 1 1 ((sq r1 r2 r3 r4 r5 r6):List Value) rfl rfl NW.out ON.out MX.out BY.out HZ.out ?_;intro v1 a0 hown hg hnil hblk;have O1:Hid (a0.ownsRow base 75 6 v1 (nL+1) (L.flatMap Rg.enc++(sq r1 r2 r3 r4 r5 r6))):=hown;have K1:Hid (WithK w a0 (.slice (some ⟨g,0,none⟩) nL cap) v1):=⟨grown_then BA.out hg,hblk.elim Or.inl (fun e=>Or.inr ⟨_,SZ.out,e⟩)⟩;clear hown hg hnil hblk OW NW ON HZ MX BY BA SZ)
     go_wp2_with fail
     go_ret
     exact ⟨v1,rfl,by rw [EW.out];exact OwnL.next (r:=⟨r1,r2,r3,r4,r5,r6⟩) (by rw [HN.out];exact O1.out),K1.out⟩
   . have EW:Hid (M=L.set (nL-1) (Rg.upto ⟨q1,q2,q3,q4,q5,q6⟩ r2)):=EJ.out rfl
     have fz:u3.frozen? ⟨g,(nL-1)*6+1,none⟩=false:=FZ.out _ OU.out
     have OS:Hid (OwnL (u3.setCell ⟨g,(nL-1)*6+1,none⟩ (.int .i64 r2)) base (.slice (some ⟨g,0,none⟩) nL cap) M):=by show OwnL _ _ _ _;rw [EW.out];exact ST.out u3 r2 OU.out
     have KS:Hid (WithK w (u3.setCell ⟨g,(nL-1)*6+1,none⟩ (.int .i64 r2)) (.slice (some ⟨g,0,none⟩) nL cap) (.slice (some ⟨g,0,none⟩) nL cap)):=⟨grown_then BU.out (grown_setCell1 u3 g _ _),Or.inl rfl⟩
     clear x6 x8 x9 x10 x11 EN EJ ST FZ MK MJ OU BU EW
     go_wp2_with fail
     go_ret
     exact ⟨_,rfl,OS.out,KS.out⟩
end Go.Proofs.YtgbdnnkkcpkhdaaGreatDoor.Re
