import Derived.Test.YtgbdnnkkcpkhdaaGreatDoorKZc
import Derived.Test.YtgbdnnkkcpkhdaaGreatDoorChecked
import Derived.WalkKit
import Derived.ProofKit
import Derived.OpenShut
import Derived.Carry
import Derived.Lib.SmallJoins
import Derived.Deep.Light
import Derived.Deep.MidRow
import Derived.Deep.RegionHeld3
import Derived.Deep.DrawnRows
import Derived.Handy
import Derived.Laws.MakeOwn
set_option linter.unusedSimpArgs false
set_option linter.unusedVariables false
set_option maxRecDepth 8000
set_option maxHeartbeats 1000000
open Go.ChangeShapes Go.WideShapes Go.ChangeAt Go.RowKit Go.Maps
namespace Go.Proofs.YtgbdnnkkcpkhdaaGreatDoor.Tl
structure Ln where
 v:Bool
 t:Int
 p:Int
 f:Int
 w:Bool
 u:Bool
 x:Bool
 g:Bool
 d:Bool
def Ln.enc (l:Ln):List Value:=(sx l.v l.t l.p l.f l.w l.u l.x l.g l.d)
abbrev Ln.val (l:Ln):Value:=.agg (sy l.v l.t l.p l.f l.w l.u l.x l.g l.d)
def Ln.zero:Ln:=⟨false,0,0,0,false,false,false,false,false⟩
def Ln.fits (l:Ln) (tag page:Int):Bool:=l.v && (l.p==page && (l.t==tag || l.g))
def Ln.ok (l:Ln):Bool:=l.v && (decide (0<=l.t) && decide (l.t<4096) && decide (0<=l.p) && decide (0<=l.f))
theorem fits_any (l:Ln) (tag page:Int) (w:World):Calls Tryz.prog 58 #[l.val,.int .i64 tag,.int .i64 page] w (re (.bool (l.fits tag page)) w):=by
 obtain ⟨v,t,p,f,lw,lu,lx,g,d⟩:=l
 cases v
 . go_enter Tryz.func58,Tryz.ntmps58
   go_wp2
   go_returns
   exact ⟨by simp [Ln.fits],baa⟩
 . by_cases hp:p=page
   . subst hp
     by_cases ht:t=tag
     . subst ht
       go_enter Tryz.func58,Tryz.ntmps58
       go_wp2
       go_returns
       exact ⟨by simp [Ln.fits],baa⟩
     . have h2:(t==tag)=false:=by simp [ht]
       go_enter Tryz.func58,Tryz.ntmps58
       go_wp2
       go_returns
       exact ⟨by simp [Ln.fits,h2],baa⟩
   . have h2:(p==page)=false:=by simp [hp]
     go_enter Tryz.func58,Tryz.ntmps58
     go_wp2
     go_returns
     exact ⟨by simp [Ln.fits,h2],baa⟩
theorem below_new {w w':World} (h:bc w w') (o:Obj):bc w (w'.alloc o):=h.alloc h.size o
theorem below_then {w x y:World} (h1:bc w x) (h2:bc x y):bc w y:=h1.trans (Go.Joins.below_le h2 h1.size)
theorem all_cl (l:Ln) (B:Nat) (stay:Bool) (w:World) (hB:w.cell? ⟨B,0,none⟩=some (.bool stay)) (lB:B<w.heap.size) :
 Calls Tryz.prog 92 #[l.val,.pointer (some ⟨B,0,none⟩)] w (re (.bool (!stay || !l.g)) w):=by
 cases stay
 all_goals
  go_enter Tryz.func92,Tryz.ntmps92
  go_wp2
  go_returns
  exact ⟨by simp,baa⟩
def Ln.beats (l old:Ln):Bool:=old.fits l.t l.p || (l.g && (old.p==l.p))
theorem fill_cl (l old:Ln) (B:Nat) (w:World) (h1:w.cell? ⟨B,1,none⟩=some (.int .i64 l.t)) (h2:w.cell? ⟨B,2,none⟩=some (.int .i64 l.p)) (h5:w.cell? ⟨B,7,none⟩=some (.bool l.g)) (lB:B<w.heap.size) :
 Calls Tryz.prog 72 #[old.val,.pointer (some ⟨B,0,none⟩)] w (re (.bool (l.beats old)) w):=by
 have F:Hid (∀ w:World,Calls Tryz.prog 58 #[old.val,.int .i64 l.t,.int .i64 l.p] w (re (.bool (old.fits l.t l.p)) w)):=fun w=>fits_any old l.t l.p w
 unfold Ln.beats
 generalize old.fits l.t l.p=z at F |-
 cases z
 . cases hg:l.g
   . rw [hg] at h5
     clear hg
     go_enter Tryz.func72,Tryz.ntmps72
     go_wp2_with fail
     refine (F.out _).mono ?_
     rintro e w' ⟨rfl,hb⟩
     have c5:w'.cell? ⟨B,7,none⟩=some (.bool false):=(hb.cell (p:=⟨B,7,none⟩) kh).trans (by rw [World.cell?_alloc_lt _ _ _ (by exact lB)];exact h5)
     go_wp2_with fail
     go_ret
     exact ⟨rfl,below_then baa hb⟩
   . rw [hg] at h5
     clear hg
     by_cases hp:old.p=l.p
     . have h3:(old.p==l.p)=true:=by simp [hp]
       clear hp
       go_enter Tryz.func72,Tryz.ntmps72
       go_wp2_with fail
       refine (F.out _).mono ?_
       rintro e w' ⟨rfl,hb⟩
       have c5:w'.cell? ⟨B,7,none⟩=some (.bool true):=(hb.cell (p:=⟨B,7,none⟩) kh).trans (by rw [World.cell?_alloc_lt _ _ _ (by exact lB)];exact h5)
       have c2:w'.cell? ⟨B,2,none⟩=some (.int .i64 l.p):=(hb.cell (p:=⟨B,2,none⟩) kh).trans (by rw [World.cell?_alloc_lt _ _ _ (by exact lB)];exact h2)
       have o2:w'.cell? ⟨w.heap.size,2,none⟩=some (.int .i64 old.p):=(hb.cell (p:=⟨w.heap.size,2,none⟩) (by simp)).trans (by simp)
       go_wp2_with fail
       go_ret
       exact ⟨by simp [h3],below_then baa hb⟩
     . have h3:(old.p==l.p)=false:=by simp [hp]
       clear hp
       go_enter Tryz.func72,Tryz.ntmps72
       go_wp2_with fail
       refine (F.out _).mono ?_
       rintro e w' ⟨rfl,hb⟩
       have c5:w'.cell? ⟨B,7,none⟩=some (.bool true):=(hb.cell (p:=⟨B,7,none⟩) kh).trans (by rw [World.cell?_alloc_lt _ _ _ (by exact lB)];exact h5)
       have c2:w'.cell? ⟨B,2,none⟩=some (.int .i64 l.p):=(hb.cell (p:=⟨B,2,none⟩) kh).trans (by rw [World.cell?_alloc_lt _ _ _ (by exact lB)];exact h2)
       have o2:w'.cell? ⟨w.heap.size,2,none⟩=some (.int .i64 old.p):=(hb.cell (p:=⟨w.heap.size,2,none⟩) (by simp)).trans (by simp)
       go_wp2_with fail
       go_ret
       exact ⟨by simp [h3],below_then baa hb⟩
 . go_enter Tryz.func72,Tryz.ntmps72
   go_wp2_with fail
   refine (F.out _).mono ?_
   rintro e w' ⟨rfl,hb⟩
   go_wp2_with fail
   go_ret
   exact ⟨rfl,below_then baa hb⟩
def IsTlb (w:World) (b:Nat) (T:Nat->Ln):Prop:=(∀ i,i<16->w.rangeAt b (i*9) (T i).enc)/\w.there b 0 144/\b<w.heap.size
def dropT (T:Nat->Ln) (f:Ln->Bool) (n:Nat):Nat->Ln:=fun i=>if i<n then (if f (T i) then Ln.zero else T i) else T i
theorem line_info:(Tryz.prog.info? 107).map (·.size)=some 9:=ka
theorem grown_of_below {w w':World} (h:bc w w') (r:Option Nat):w.grownBy w' r:=⟨h.os,h.tape,h.output,h.size,fun k hk _=>h.block k hk⟩
theorem grown_setCell1 (w:World) (b o:Nat) (v:Value):w.grownBy (w.setCell ⟨b,o,none⟩ v) (some b):=by
 have h:Below 0 w (w.setCell ⟨b,o,none⟩ v):=(Below.refl 0 w).setCell (Nat.zero_le _) v
 exact ⟨h.os,h.tape,h.output,h.size,fun k hk hne=>Below.heap_setCell _ _ _ _ (fun e=>hne (by rw [show k=b from e]))⟩
theorem grown_trans {a b c:World} {r:Option Nat} (h:a.grownBy b r) (k:b.grownBy c r):a.grownBy c r:=⟨k.os.trans h.os,k.tape.trans h.tape,k.output.trans h.output,Nat.le_trans h.size k.size,fun j hj hne=>(k.block j (nla hj h.size) hne).trans (h.block j hj hne)⟩
theorem grown_refl (a:World) (r:Option Nat):a.grownBy a r:=⟨rfl,rfl,rfl,Nat.le_refl _,fun _ _ _=>rfl⟩
theorem grown_setCells (b:Nat): ∀ (vs:List Value) (o:Nat) (w:World),w.grownBy (w.setCells b o vs) (some b)
 | [], _, w => grown_refl w _
 | v :: r, o, w => by
  rw [World.setCells]
  exact grown_trans (grown_setCell1 w b o v) (grown_setCells b r (o+1) _)
theorem kept_size (w:World) (b o:Nat) (vs:List Value):w.heap.size<=(w.setCells b o vs).heap.size:=(grown_setCells b vs o w).size
theorem IsTlb.below {w w':World} {b:Nat} {T:Nat->Ln} (h:IsTlb w b T) (hb:bc w w'):IsTlb w' b T:=by
 obtain ⟨h1,h2,h3⟩:=h
 refine ⟨fun i hi j v hv=> ?_,fun j hj=> ?_,nla h3 hb.size⟩
 . rw [hb.cell (p:=⟨b,i*9+j,none⟩) h3];exact h1 i hi j v hv
 . rw [hb.cell (p:=⟨b,0+j,none⟩) h3,hb.frozen (p:=⟨b,0+j,none⟩) h3];exact h2 j hj
theorem enc_len (l:Ln):l.enc.length=9:=rfl
theorem IsTlb.there {w:World} {b:Nat} {T:Nat->Ln} (h:IsTlb w b T) (i:Nat) (hi:i<16):w.there b (i*9) 9:=fun j hj=>by
 have:=h.2.1 (i*9+j) (by omega)
 rwa [Nat.zero_add] at this
theorem IsTlb.put {w:World} {b:Nat} {T:Nat->Ln} (h:IsTlb w b T) (i:Nat) (hi:i<16) (l:Ln):IsTlb (w.setCells b (i*9) l.enc) b (fun k=>if k=i then l else T k):=by
 obtain ⟨h1,h2,h3⟩:=h
 refine ⟨fun k hk=> ?_,World.there_setCells h2 _ _ _,?_⟩
 . by_cases c:k=i
   . subst c;simp only [if_true];exact World.rangeAt_setCells_same w b (k*9) l.enc (IsTlb.there ⟨h1,h2,h3⟩ k hk)
   . simp only [if_neg c]
     refine World.rangeAt_setCells_apart (h1 k hk) b (i*9) l.enc (Or.inr ?_)
     simp only [enc_len]
     omega
 . exact nla h3 (kept_size w b (i*9) l.enc)
theorem IsTlb.congr {w:World} {b:Nat} {T T':Nat->Ln} (h:IsTlb w b T) (e: ∀ i,i<16->T i=T' i):IsTlb w b T':=⟨fun i hi=>by rw [<- e i hi];exact h.1 i hi,h.2⟩
theorem drop_at (T:Nat->Ln) (f:Ln->Bool) (n:Nat):dropT T f n n=T n:=by unfold dropT;rw [if_neg (by omega)]
theorem drop_yes (T:Nat->Ln) (f:Ln->Bool) (n:Nat) (h:f (T n)=true) (i:Nat):(if i=n then Ln.zero else dropT T f n i)=dropT T f (n+1) i:=by
 unfold dropT
 by_cases c:i=n
 . subst c;rw [if_pos rfl,if_pos (by omega),if_pos h]
 . rw [if_neg c]
   by_cases d:i<n
   . have e:i<n+1:=by omega
     simp only [d,e,if_true]
   . have e: ¬ i<n+1:=by omega
     simp only [d,e,if_false]
theorem drop_no (T:Nat->Ln) (f:Ln->Bool) (n:Nat) (h:f (T n)=false) (i:Nat):dropT T f n i=dropT T f (n+1) i:=by
 unfold dropT
 by_cases c:i=n
 . subst c;rw [if_neg (by omega),if_pos (by omega),if_neg (by rw [h];simp)]
 . by_cases d:i<n
   . have e:i<n+1:=by omega
     simp only [d,e,if_true]
   . have e: ¬ i<n+1:=by omega
     simp only [d,e,if_false]
theorem IsTlb.cell {w:World} {b:Nat} {T:Nat->Ln} (h:IsTlb w b T) (i:Nat) (hi:i<16) (c:Nat) (v:Value) (hv:(T i).enc[c]? =some v) (o:Nat) (ho:o=i*9+c):w.cell? ⟨b,o,none⟩=some v:=by rw [ho];exact h.1 i hi c v hv
theorem IsTlb.free {w:World} {b:Nat} {T:Nat->Ln} (h:IsTlb w b T) (o n:Nat) (ho:o+n<=144):w.there b o n:=fun j hj=>by
 have:=h.2.1 (o+j) (by omega)
 rwa [Nat.zero_add] at this
theorem store_pat {P:Program} {ops:Array Oper} {rest:List Oper} {ty t:TypeId} {x y:Operand} {pos:String} {af:Array Edge} {a:Act} {w:World} {Q:Exit->Act->World->Prop} (b o:Nat) (cells:Array Value) (hx:a.eval x=.pointer (some ⟨b,o,none⟩)) (hy:a.eval y=.agg cells)
 (ht:w.there b o cells.size) (hi:(P.info? ty).map (·.size)=some cells.size) (h1:cells.all (·.oneCell')=true)
 (h:wpList P ops Q rest a (w.setCells b o cells.toList)):wpList P ops Q ({ dst:=none,op:=.store ty x y,type:=t,pos:=pos,after:=af,guard:=none }::rest) a w :=
 wpList_store_mid rfl ty x y rfl b o cells hx hy ht hi h1 h
theorem zero_one:(sl1:Array Value).all (fun x=>x.oneCell')=true:=kr
theorem drop1 (b:Nat) (g B0:Nat) (T:Nat->Ln) (f:Ln->Bool) (C:World->Prop) (hC:Hid (∀ W W':World,C W->W.grownBy W' (some b)->C W')) (hen: ∀ (args:Array Value) (w:World),(callFunc g args).run Tryz.prog w=.ok (.enter g args) w)
 (hg:Hid (∀ (W:World) (l:Ln),C W->Calls Tryz.prog g #[l.val,.pointer (some ⟨B0,0,none⟩)] W fun e W'=>e=.returned (.bool (f l))/\bc W W')) (w:World) (h:IsTlb w b T) (hc:C w) :
 Calls Tryz.prog 71 #[.pointer (some ⟨b,0,none⟩),.func (.func g) #[] #[.pointer (some ⟨B0,0,none⟩)]] w fun e w'=>e=.returned (.tuple #[])/\IsTlb w' b (dropT T f 16)/\w.grownBy w' (some b):=by
 go_enter Tryz.func71,Tryz.ntmps71
 go_wp2_with fail
 go_loopw [6] (fun x W=> ∃ k:Nat,k<=8/\x=.int .i64 k/\Hid (IsTlb W b (dropT T f (2*k)))/\Hid (C W)/\Hid (w.grownBy W (some b))) (fun x _=>8-(intOf x).toNat)
 case atStart=>exact ⟨0,by omega,rfl,h.congr (fun i _=>by unfold dropT;rw [if_neg (by omega)]),hc,grown_refl _ _⟩
 case round =>
  obtain ⟨k,hk,rfl,hT,hcw,hgr⟩:=hrel
  by_cases hlt:k<8
  . have hd:decide ((k:Int)<8)=true:=by simp;omega
    go_wp2_with fail
    go_loopw [9] (fun x W=> ∃ j:Nat,j<=2/\x=.int .i64 j/\Hid (IsTlb W b (dropT T f (2*k+j)))/\Hid (C W)/\Hid (w.grownBy W (some b))) (fun x _=>2-(intOf x).toNat)
    case atStart=>exact ⟨0,by omega,rfl,hT,hcw,hgr⟩
    case round =>
     obtain ⟨j,hj,rfl,hT1,hcw1,hgr1⟩:=hrel
     by_cases hlj:j<2
     . have hd2:decide ((j:Int)<2)=true:=by simp;omega
       obtain ⟨l,hl⟩: ∃ l,T (2*k+j)=l:=⟨_,rfl⟩
       have hT1':=hT1.out
       have c0:wr.cell? ⟨b,k*18+j*9,none⟩=some (.bool l.v):=hT1'.cell (2*k+j) (by omega) 0 _ (by rw [drop_at,hl];rfl) _ (by omega)
       have c1:wr.cell? ⟨b,k*18+j*9+1,none⟩=some (.int .i64 l.t):=hT1'.cell (2*k+j) (by omega) 1 _ (by rw [drop_at,hl];rfl) _ (by omega)
       have c2:wr.cell? ⟨b,k*18+j*9+2,none⟩=some (.int .i64 l.p):=hT1'.cell (2*k+j) (by omega) 2 _ (by rw [drop_at,hl];rfl) _ (by omega)
       have c3:wr.cell? ⟨b,k*18+j*9+3,none⟩=some (.int .i64 l.f):=hT1'.cell (2*k+j) (by omega) 3 _ (by rw [drop_at,hl];rfl) _ (by omega)
       have c4:wr.cell? ⟨b,k*18+j*9+4,none⟩=some (.bool l.w):=hT1'.cell (2*k+j) (by omega) 4 _ (by rw [drop_at,hl];rfl) _ (by omega)
       have c5:wr.cell? ⟨b,k*18+j*9+5,none⟩=some (.bool l.u):=hT1'.cell (2*k+j) (by omega) 5 _ (by rw [drop_at,hl];rfl) _ (by omega)
       have c6:wr.cell? ⟨b,k*18+j*9+6,none⟩=some (.bool l.x):=hT1'.cell (2*k+j) (by omega) 6 _ (by rw [drop_at,hl];rfl) _ (by omega)
       have c7:wr.cell? ⟨b,k*18+j*9+7,none⟩=some (.bool l.g):=hT1'.cell (2*k+j) (by omega) 7 _ (by rw [drop_at,hl];rfl) _ (by omega)
       have c8:wr.cell? ⟨b,k*18+j*9+8,none⟩=some (.bool l.d):=hT1'.cell (2*k+j) (by omega) 8 _ (by rw [drop_at,hl];rfl) _ (by omega)
       clear hT1'
       have HL:Hid (T (2*k+j)=l):=hl
       clear hl
       go_wp2_with fail
       refine (hg.out _ l hcw1.out).mono ?_
       rintro e u ⟨rfl,hb⟩
       have U1:Hid (IsTlb u b (dropT T f (2*k+j))):=hT1.out.below hb
       have U2:Hid (C u):=hC.out _ _ hcw1.out (grown_of_below hb _)
       have U3:Hid (w.grownBy u (some b)):=grown_trans hgr1.out (grown_of_below hb _)
       clear hb c0 c1 c2 c3 c4 c5 c6 c7 c8
       cases hf:f l
       . have hf':f (T (2*k+j))=false:=by rw [HL.out];exact hf
         have U1':Hid (IsTlb u b (dropT T f (2*k+(j+1)))):=U1.out.congr (fun i _=>drop_no T f _ hf' i)
         clear hf'
         go_wp2_with fail
         go_roundw
         case rel=>exact ⟨j+1,by omega,by go_num,U1',U2,U3⟩
         case measure=>simp [intOf];omega
       . have hf':f (T (2*k+j))=true:=by rw [HL.out];exact hf
         have TH:Hid (u.there b (k*18+j*9) 9):=U1.out.free _ _ (by omega)
         have V1:Hid (IsTlb (u.setCells b (k*18+j*9) sm1) b (dropT T f (2*k+(j+1)))):=by
          have:=(U1.out.put (2*k+j) (by omega) Ln.zero).congr (fun i _=>drop_yes T f _ hf' i)
          rw [show (2*k+j)*9=k*18+j*9 by omega] at this
          exact this
         have V2:Hid (C (u.setCells b (k*18+j*9) sm1)):=hC.out _ _ U2.out (grown_setCells b _ _ _)
         have V3:Hid (w.grownBy (u.setCells b (k*18+j*9) sm1) (some b)):=grown_trans U3.out (grown_setCells b _ _ _)
         clear hf'
         go_wp2_with (refine store_pat b (k*18+j*9) sl1 ?hx ?hy ?ht ?hi ?h1 ?rest;(case hx=>rfl);(case hy=>rfl);(case ht=>exact TH.out);(case hi=>exact line_info);(case h1=>exact zero_one))
         exact ⟨⟨j+1,by omega,by go_num,V1,V2,V3⟩,by simp [intOf];omega⟩
     . obtain rfl:j=2:=by omega
       go_wp2_with fail
       go_roundw
       case rel=>exact ⟨k+1,by omega,by go_num,hT1,hcw1,hgr1⟩
       case measure=>simp [intOf];omega
  . obtain rfl:k=8:=by omega
    go_wp2_with fail
    go_end0
    exact ⟨rfl,hT.out,hgr.out⟩
theorem cell_grown {w w':World} {b k i:Nat} {v:Value} (hg:w.grownBy w' (some b)) (l:k<w.heap.size) (ne:k≠b) (h:w.cell? ⟨k,i,none⟩=some v):w'.cell? ⟨k,i,none⟩=some v :=
 (World.cell?_of_block (w:=w) (a:=⟨k,i,none⟩) (hg.block k l (fun e=>ne (sia e)))).trans h
theorem grown_alloc (w:World) (o:Obj) (r:Option Nat):w.grownBy (w.alloc o) r:=grown_of_below (Go.Joins.below_alloc1 w o) r
theorem all_any (b:Nat) (T:Nat->Ln) (stay:Bool) (w:World) (h:IsTlb w b T) :
 Calls Tryz.prog 57 #[.pointer (some ⟨b,0,none⟩),.bool stay] w fun e w'=>e=.returned (.tuple #[])/\IsTlb w' b (dropT T (fun l=> !stay || !l.g) 16)/\w.grownBy w' (some b):=by
 have hmf: ∀ (fn:Fn) (first cap:Array Value) (w:World),(Instr.makeFunc fn first cap).run Tryz.prog w=.ok (.func fn first cap) w:=fun _ _ _ _=>rfl
 have hb:=h.2.2
 have D:Hid (∀ W:World,IsTlb W b T->(W.cell? ⟨w.heap.size,0,none⟩=some (.bool stay)/\w.heap.size<W.heap.size)->Calls Tryz.prog 71 #[.pointer (some ⟨b,0,none⟩),.func (.func 92) #[] #[.pointer (some ⟨w.heap.size,0,none⟩)]] W fun e w'=>e=.returned (.tuple #[])/\IsTlb w' b (dropT T (fun l=> !stay || !l.g) 16)/\W.grownBy w' (some b)):=fun W hT hc =>
  drop1 b 92 w.heap.size T (fun l=> !stay || !l.g) (fun W=>W.cell? ⟨w.heap.size,0,none⟩=some (.bool stay)/\w.heap.size<W.heap.size)
   (fun W W' c hg=>⟨cell_grown hg (by omega) (by omega) c.1,nla c.2 hg.size⟩)
   (fun args w=>by kernel_rfl)
   (fun W l c=>all_cl l _ stay W c.1 c.2) W hT hc
 have H:Hid (IsTlb w b T):=h
 clear h
 go_enter Tryz.func57,Tryz.ntmps57
 go_wp2_with fail
 refine (D.out _ (H.out.below baa) ⟨by simp,by simp⟩).mono ?_
 rintro e w' ⟨rfl,h1,h2⟩
 have H1:Hid _:=h1
 have H2:Hid _:=h2
 clear h1 h2
 go_wp2_with fail
 go_end0
 exact ⟨rfl,H1.out,grown_trans (grown_alloc _ _ _) H2.out⟩
end Go.Proofs.YtgbdnnkkcpkhdaaGreatDoor.Tl
