import Derived.Test.YtgbdnnkkcpkhdaaGreatDoorMEc
import Derived.Test.YtgbdnnkkcpkhdaaGreatDoorMCc
import Derived.Test.YtgbdnnkkcpkhdaaGreatDoorGBc
import Derived.Test.YtgbdnnkkcpkhdaaGreatDoorKKc
import Derived.Test.YtgbdnnkkcpkhdaaGreatDoorTVc
import Derived.Test.YtgbdnnkkcpkhdaaGreatDoorGVc
set_option linter.unusedSimpArgs false
set_option linter.unusedVariables false
set_option maxRecDepth 8000
set_option maxHeartbeats 4000000
open Go.ChangeShapes Go.WideShapes Go.ChangeAt Go.RowKit Go.Maps
namespace Go.Proofs.YtgbdnnkkcpkhdaaGreatDoor.Sp
open Go.Proofs.YtgbdnnkkcpkhdaaGreatDoor.Tt
theorem zeroSp (w:World):(zeroValue 54).run Tryz.prog w=.ok (.pointer none) w:=ka
def MapP (w:World) (b n:Nat) (f:Int->Option Nat):Prop :=
 ∃ D:DataW Unit,w.ownsMap Tryz.prog 3 ptrElem b n D/\ ∀ k,D.atKey (.int .i64 k) .nil=pgD (f k)
section
variable {w w':World} {b n:Nat} {f:Int->Option Nat}
theorem MapP.look (h:MapP w b n f) {k:Int} (hk:(Lit.int .i64 k).wf=true) :
 (Instr.lookup 60 (.map (some b)) (.int .i64 k) false).run Tryz.prog w=.ok (pgV (f k)) w:=by
 obtain ⟨D,hown,hD⟩:=h
 obtain ⟨v,ps,hrun,hv⟩:=hown.lookup keyLaw Tryz.underlying60 (zeroSp w) (zd:=.nil) (zp:=[]) rfl (keyOf_int_mk Tryz.underlying3 hk)
 rw [hD] at hv
 rw [hrun,ptrElem_inv hv]
theorem MapP.set (h:MapP w b n f) (hn:n<maxLen) {k:Int} (hk:(Lit.int .i64 k).wf=true) (p:Nat) :
 ∃ w',(Instr.mapUpdate 60 (.map (some b)) (.int .i64 k) (pgV (some p))).run Tryz.prog w=.ok () w'/\MapP w' b (n+1) (put f k (some p))/\w.grownBy w' (some b):=by
 obtain ⟨D,hown,hD⟩:=h
 obtain ⟨w',hrun,hown',hg⟩:=hown.update keyLaw Tryz.underlying60 hn (keyOf_int_mk Tryz.underlying3 hk) (ptrElem_pgV (some p))
 refine ⟨w',hrun,⟨_,hown',?_⟩,hg⟩
 intro j
 unfold put
 by_cases c:j=k
 . subst c;rw [if_pos rfl];exact atKey_put_same hown.isMap (by trivial) _ _
 . rw [if_neg c,atKey_put_other (by intro e;cases e;exact c rfl)];exact hD j
theorem MapP.lt (h:MapP w b n f):b<w.heap.size:=by obtain ⟨D,hown,_⟩:=h;exact hown.lt
theorem MapP.block (h:MapP w b n f) (hb:w'.heap[b]? =w.heap[b]?):MapP w' b n f:=by
 obtain ⟨D,⟨es,clock,h1,r⟩,hD⟩:=h
 exact ⟨D,⟨es,clock,hb.trans h1,r⟩,hD⟩
theorem MapP.made (w:World):MapP (w.alloc (.map #[] 0)) w.heap.size 0 (fun _=>none) :=
 ⟨.map [],World.ownsMap_made w Tryz.prog 3 ptrElem,fun _=>rfl⟩
end
theorem tlb_block {w w':World} {b:Nat} {T:Nat->Tl.Ln} (h:Tl.IsTlb w b T) (hs:w.heap.size<=w'.heap.size) (e:w'.heap[b]? =w.heap[b]?):Tl.IsTlb w' b T:=by
 obtain ⟨h1,h2,h3⟩:=h
 refine ⟨fun i hi j v hv=>(World.cell?_of_block (w:=w) (a:=⟨b,i*9+j,none⟩) e).trans (h1 i hi j v hv),fun j hj=> ?_,nla h3 hs⟩
 rw [World.cell?_of_block (w:=w) (a:=⟨b,0+j,none⟩) e,World.frozen?_of_block (w:=w) (a:=⟨b,0+j,none⟩) e];exact h2 j hj
theorem list_block {w w':World} {base:Nat} {p:Option Addr} {L:List Re.Rg} (h:Re.IsL w base p L) (hs:w.heap.size<=w'.heap.size) (e: ∀ g,p=some ⟨g,0,none⟩->g<w.heap.size->0<L.length->w'.heap[g]? =w.heap[g]?):Re.IsL w' base p L:=fun i hi=>by
 obtain ⟨g,rfl,l1,l2,c⟩:=h i hi
 exact ⟨g,rfl,l1,nla l2 hs,fun j x hx=>(World.cell?_of_block (w:=w) (a:=⟨g,i*6+j,none⟩) (e g rfl l2 (by omega))).trans (c j x hx)⟩
structure Mb where
 mb:Nat
 tl:Nat
 tg:Nat
 tm:Nat
 ow:Nat
 sm:Nat
 kf:Nat
structure Sr where
 id:Int
 j:Nat
 sb:Nat
 k:Nat
 root:Nat
 tab:Nat->Nat->Option Nat
 lf:Nat->Option Lf
 rp:Option Addr
 rc:Nat
 L:List Re.Rg
 lb:Nat
 ln:Nat
 lt:Int->Option Int
abbrev Mb.cells (M:Mb) (m:Pm):List Value:=[pp m.rb,pp m.b,pp m.tb,pp M.tl,pp M.tg,.int .i64 M.kf,.map (some M.sm)]
abbrev Sr.cells (a:Sr):List Value:=[.int .i64 a.k,.int .i64 a.root,.slice a.rp a.L.length a.rc,.map (some a.lb)]
structure IsSp (O:Nat->Nat) (W:World) (a:Sr):Prop where
 blk:Blk W a.sb a.cells 71
 map:Pc.MapI W a.lb a.ln a.lt
 lis:Re.IsL W 0 a.rp a.L
 cap:a.L.length<=a.rc
 few:a.L.length<=64
 o1:O a.sb=5+3*a.j
 o2:O a.lb=6+3*a.j
 o3: ∀ g,a.rp=some ⟨g,0,none⟩->0<a.L.length->O g=7+3*a.j
theorem IsSp.keep {O O':Nat->Nat} {W W':World} {a:Sr} (h:IsSp O W a) (hs:W.heap.size<=W'.heap.size) (e: ∀ b,b<W.heap.size->5+3*a.j<=O b->O b<=7+3*a.j->W'.heap[b]? =W.heap[b]? /\O' b=O b):IsSp O' W' a:=by
 obtain ⟨h1,⟨c,h2⟩,h3,h4,h5,h6,h7,h8⟩:=h
 have e1:=e a.sb h1.lt (by omega) (by omega)
 have e2:=e a.lb h2.lt (by omega) (by omega)
 have lg: ∀ g,a.rp=some ⟨g,0,none⟩->0<a.L.length->g<W.heap.size:=fun g eg hl=>by
  obtain ⟨g',q,_,l,_⟩:=h3 0 hl
  rw [eg] at q;cases q;exact l
 refine ⟨e1.1.trans h1,⟨c,h2.block e2.1⟩,list_block h3 hs fun g eg lg hl=>(e g lg (by rw [h8 g eg hl];omega) (by rw [h8 g eg hl];omega)).1,h4,h5,e1.2.trans h6,e2.2.trans h7,fun g eg hl=> ?_⟩
 have:=h8 g eg hl
 exact ((e g (lg g eg hl) (by omega) (by omega)).2).trans this
def spF:List Sr->Int->Option Nat
 | [], _ => none
 | a :: A, i => if i = a.id then some a.sb else spF A i
theorem spF_none {A:List Sr} {i:Int} (h: ∀ a∈A,a.id≠i):spF A i=none:=by
 induction A with
 | nil => rfl
 | cons a A ih => show (if i = a.id then _ else _) = _; rw [if_neg (fun e => h a (by simp) e.symm)]; exact ih (fun b hb => h b (by simp [hb]))
structure Mc (Y:Nat->Prop) (O:Nat->Nat) (n:Nat) (W:World) (M:Mb) (m:Pm) (s:Ps) (T:Nat->Tl.Ln) (S:Pc.Tg) (A:List Sr):Prop where
 pu:Pu (fun j=>Y j\/O j≠0) W m s
 y0:Y 0
 yo: ∀ j,Y j->O j=0
 mac:Blk W M.mb (M.cells m) 62
 tlb:Tl.IsTlb W M.tl T
 tgs:Pc.IsTags W M.tg M.tm M.ow n S
 map:MapP W M.sm n (spF A)
 o1:O M.mb=1
 o2:O M.tl=2
 o3:O M.tg=3/\O M.tm=3/\O M.ow=3
 o4:O M.sm=4
 sp: ∀ a∈A,IsSp O W a
 rt: ∀ a∈A,Rt m s a.root a.tab a.lf
 ni:(A.map Sr.id).Nodup
 nj:(A.map Sr.j).Nodup
 dj: ∀ a∈A,∀ b∈A,a.j≠b.j-> ∀ l x l' x' f,a.tab l x=some f->b.tab l' x'≠some f
 dat: ∀ a∈A,∀ p v,a.lf p=some v->m.has v.f=true/\(∃ f:Nat,v.f=f/\s.G f=some 0/\ ¬ s.Fr f/\ ∀ b∈A,∀ l x,b.tab l x≠some f)
 kf:M.kf<1048576
theorem Mc.lt {Y:Nat->Prop} {O:Nat->Nat} {n:Nat} {W:World} {M:Mb} {m:Pm} {s:Ps} {T:Nat->Tl.Ln} {S:Pc.Tg} {A:List Sr} (h:Mc Y O n W M m s T S A): ∀ j,O j≠0->j<W.heap.size:=fun j hj=>h.pu.lt j (Or.inr hj)
section
variable {Y:Nat->Prop} {O:Nat->Nat} {n:Nat} {W W':World} {M:Mb} {m:Pm} {s:Ps} {T:Nat->Tl.Ln} {S:Pc.Tg} {A:List Sr}
theorem Mc.below (h:Mc Y O n W M m s T S A) (hb:bc W W'):Mc Y O n W' M m s T S A :=
 ⟨h.pu.below hb,h.y0,h.yo,h.mac.below hb,tlb_block h.tlb hb.size (hb.block _ h.tlb.2.2),h.tgs.below hb,h.map.block (hb.block _ h.map.lt),h.o1,h.o2,h.o3,h.o4,fun a ha=>(h.sp a ha).keep hb.size fun b hl _ _=>⟨hb.block b hl,rfl⟩,h.rt,h.ni,h.nj,h.dj,h.dat,h.kf⟩
theorem Mc.grow (h:Mc Y O n W M m s T S A) (hb:bc W W'):Mc (fun j=>Y j\/(W.heap.size<=j/\j<W'.heap.size)) O n W' M m s T S A:=by
 have q:=h.below hb
 have l:=h.lt
 refine ⟨(h.pu.grow hb).less (fun j hj=> ?_) (Or.inl (Or.inl h.y0)),Or.inl h.y0,fun j hj=> ?_,q.mac,q.tlb,q.tgs,q.map,q.o1,q.o2,q.o3,q.o4,q.sp,q.rt,q.ni,q.nj,q.dj,q.dat,q.kf⟩
 . rcases hj with (a | a) | a
   . exact Or.inl (Or.inl a)
   . exact Or.inr a
   . exact Or.inl (Or.inr a)
 . rcases hj with a | ⟨a,_⟩
   . exact h.yo j a
   . exact bca fun c=>by have:=l j c;omega
theorem Mc.less {Y Y':Nat->Prop} {O:Nat->Nat} {n:Nat} {W:World} {M:Mb} {m:Pm} {s:Ps} {T:Nat->Tl.Ln} {S:Pc.Tg} {A:List Sr} (h:Mc Y O n W M m s T S A) (hy: ∀ j,Y' j->Y j) (h0:Y' 0):Mc Y' O n W M m s T S A :=
 ⟨h.pu.less (fun j hj=>hj.elim (fun a=>Or.inl (hy j a)) Or.inr) (Or.inl h0),h0,fun j hj=>h.yo j (hy j hj),h.mac,h.tlb,h.tgs,h.map,h.o1,h.o2,h.o3,h.o4,h.sp,h.rt,h.ni,h.nj,h.dj,h.dat,h.kf⟩
theorem Mc.poke (h:Mc Y O n W M m s T S A) {j:Nat} (hj:Y j) (j0:j≠0) (hg:W.grownBy W' (some j)):Mc Y O n W' M m s T S A:=by
 have o:=h.yo j hj
 have k: ∀ b,b<W.heap.size->O b≠0->W'.heap[b]? =W.heap[b]? :=fun b hb hO=>hg.block b hb (fun e=>hO (by rw [sia e];exact o))
 have lm: ∀ b,O b≠0->W'.heap[b]? =W.heap[b]? :=fun b hO=>k b (h.lt b hO) hO
 exact ⟨h.pu.poke (Or.inl hj) j0 hg,h.y0,h.yo,(lm _ (by rw [h.o1];omega)).trans h.mac,tlb_block h.tlb hg.size (lm _ (by rw [h.o2];omega)),h.tgs.kept fun b _ hb=>lm b kk1,h.map.block (lm _ (by rw [h.o4];omega)),h.o1,h.o2,h.o3,h.o4,fun a ha=>(h.sp a ha).keep hg.size fun b hl b1 b2=>⟨lm b (by omega),rfl⟩,h.rt,h.ni,h.nj,h.dj,h.dat,h.kf⟩
end
end Go.Proofs.YtgbdnnkkcpkhdaaGreatDoor.Sp
namespace Go.Proofs.YtgbdnnkkcpkhdaaGreatDoor.Sp
open Go.Proofs.YtgbdnnkkcpkhdaaGreatDoor.Tt Go.Proofs.YtgbdnnkkcpkhdaaGreatDoor.Gv
theorem areas_one (x:Bm.Ar) (hx:x.wf):Bm.areasL (Bm.BL (Bm.entB x)) 1=[x]:=by
 have e1:Bm.arB (Bm.BL (Bm.entB x)) 0=x:=Bm.ent_back hx (fun i hi=>by rw [Nat.zero_add];rfl)
 show [Bm.arB _ 0]=_
 rw [e1]
theorem fz_plain (F:Int) (f0:2<=F) (f1:F<=1048576):Bm.FZ (Bm.BL (Bm.entB ⟨0,F*4096,1⟩)) 20 F (0,1) 0 [(1,F)]:=by
 have e:=areas_one ⟨0,F*4096,1⟩ ⟨by simp,by simp only;omega,by simp⟩
 have u:Bm.useL F [⟨0,F*4096,1⟩]=[(0,F)]:=by
  show [Bm.useR F ⟨0,F*4096,1⟩]=_
  unfold Bm.useR
  rw [show ((0:Int)+4095) / 4096=0 from rfl]
  show [((0:Int),min ((0+F*4096) / 4096) F)]=_
  rw [show (0+F*4096) / 4096=F by omega,show min F F=F by omega]
 have v:Bm.awayL (0,1) [⟨0,F*4096,1⟩]=[(0,1)]:=rfl
 refine Or.inr (Or.inr ⟨⟨by omega,by omega,by simp,by simp,by simp only;omega⟩,[⟨0,F*4096,1⟩],Or.inr (Or.inr (Or.inr ⟨by decide,by decide,?_,rfl,e.symm⟩)),Bm.can_one (by simp only;omega),?_,rfl⟩)
 . intro x hx
   rw [show 20 / 20=1 from rfl,e] at hx
   simp at hx
   subst hx
   unfold Bm.Fit
   rw [IntKind.wrap_u64]
   simp only
   omega
 . intro x
   unfold Bm.FR
   rw [u,v,Bm.has_one,Bm.has_one,Bm.has_one]
   simp only
   omega
theorem form_plain {F:Int} (f0:2<=F) (f1:F<=1048576):Bd.Form (rg [(1,F)]) 1:=form_can (F:=F) (Bm.can_one (by simp only;omega)) (fun x hx=>by rw [Bm.has_one] at hx;simp only at hx;omega) f1
theorem ru_plain (F:Int):Bd.RU (rg [(1,F)]) 1=fun i:Nat=>1<=i/\(i:Int)<F:=by
 funext i;apply propext
 rw [show (1:Nat)=[((1:Int),F)].length from rfl,ru_has,Bm.has_one]
 simp only [List.length_singleton]
 constructor
 . rintro ⟨a,b⟩;exact ⟨by omega,b⟩
 . rintro ⟨a,b⟩;exact ⟨by omega,b⟩
theorem pu_make2 {wa wb wc wd we:World} {K:Nat->Prop} {S:List Nat} {rb b N:Nat} {has:Int->Bool} {F:Int} {Fr:Nat->Prop} {T:Nat->Qu.Nd} {tb:Nat}
 (hB:Bd.Bu (fun j=>j<wa.heap.size) wb b N Fr Bd.noneF) (bab:bc wa wb) (bbc:bc wb wc)
 (h5:Ram5 wd K S rb has F (fun _=>0) 0) (hK: ∀ j,j<wc.heap.size->K j) (hS: ∀ s,s∈S->wc.heap.size<=s) (bcd:bc wc wd)
 (hT:Qu.IsTree we tb T) (htb:wd.heap.size<=tb) (sde:wd.heap.size<=we.heap.size) (kde: ∀ j,j<wd.heap.size-> ¬ (j<wa.heap.size\/(wb.heap.size<=j/\j<wc.heap.size))->we.heap[j]? =wd.heap[j]?) (tab:Tab we) (so:Sound ⟨rb,b,tb,has,F⟩ ⟨fun _=>0,Fr,Bd.noneF,T,0⟩) (w0:0<wa.heap.size) :
 Pu (fun j=>j<wa.heap.size\/(wb.heap.size<=j/\j<wc.heap.size)) we ⟨rb,b,tb,has,F⟩ ⟨fun _=>0,Fr,Bd.noneF,T,0⟩:=by
 have s1:=bab.size
 have s2:=bbc.size
 have s3:=bcd.size
 have lt:=hT.2.2
 have sl: ∀ s,s∈S->s<wd.heap.size:=h5.ok.2.1
 have r5:=ram_other h5 sde (fun j hj hn=>kde j hj fun c=>by
  have jc:j<wc.heap.size:=by omega
  rcases hn with q | q
  . exact q (hK j jc)
  . have:=hS j q;omega)
 have bu:=(hB.tight (m:=1000000) (fun i hi=>so.frb i hi) (fun x hx=>by cases hx)).next (W':=we) (by omega) (fun j hj hn=>(kde j (by omega) (by omega)).trans ((bcd.block j (by omega)).trans (bbc.block j hj)))
 refine ⟨_,_,S,r5,bu,hT,fun j hj=> ?_,⟨Or.inr ⟨htb,lt⟩,(fun e=>by have q:tb<wd.heap.size:=sl _ e;omega),Or.inr ⟨by show wb.heap.size<=tb;omega,lt⟩⟩,fun j hj=>⟨Or.inl (hK j (by omega)),fun e=>by have:=hS j e;omega,?_,by show j≠tb;omega⟩,tab,Or.inl w0,so⟩
 . by_cases c:j<wc.heap.size
   . exact Or.inl ⟨Or.inl (hK j c),fun e=>by have:=hS j e;omega⟩
   . exact Or.inr (Or.inr ⟨by omega,hj⟩)
 . rcases hj with c | ⟨c1,c2⟩
   . exact Or.inl c
   . exact Or.inr ⟨c1,by omega⟩
theorem purse_any (mb rb b tb:Nat) (k:Int) (x3 x4 x5 x6:Value) (W:World) (h:Blk W mb [pp rb,pp b,pp tb,x3,x4,x5,x6] 62) :
 Calls Tryz.prog 13 #[pp mb,.int .i64 k] W (re (.agg #[pp rb,pp b,pp tb,.int .i64 k]) W):=by
 have lm:=h.lt
 have c0:W.cell? ⟨mb,0,none⟩=some (pp rb):=h.cell 0
 have c1:W.cell? ⟨mb,1,none⟩=some (pp b):=h.cell 1
 have c2:W.cell? ⟨mb,2,none⟩=some (pp tb):=h.cell 2
 clear h
 go_enter Tryz.func13,Tryz.ntmps13
 go_wp2_with fail
 go_region
 all_goals (try go_wp2_with fail)
 all_goals (try go_returns)
 exact ⟨rfl,below_drew baa⟩
def Booted (F tags:Int) (W w':World) (M:Mb) (m:Pm) (s:Ps):Prop :=
 ∃ O,Mc (fun j=>j<W.heap.size) O 0 w' M m s Tl.T0 (Pc.freshS tags) []/\Nums m s 0 (F-3) 2 (F.toNat-3)/\m.F=F/\m.has=hasF F/\s.q<=5000/\bc W w'
def own0 (t l s m:Nat):Nat->Nat:=fun j=>if j=m then 1 else if j=l then 2 else if j=t\/j=t+1\/j=t+2 then 3 else if j=s then 4 else 0
theorem kept_one {X:Nat->Prop} {w w':World} {b:Nat} (hg:w.grownBy w' (some b)) (h: ∀ j,X j->j≠b/\j<w.heap.size):Kept X w w':=⟨hg.os,hg.tape,hg.output,hg.size,fun j hj=>hg.block j (h j hj).2 (fun e=>(h j hj).1 (sia e))⟩
theorem three_new (w:World) (Zs:Array Value) (hs:Zs.size=144) (hz: ∀ q r,q<16->r<9->Zs[q*9+r]? =Tl.Ln.zero.enc[r]?) (C:List Value) :
 bc w (((w.alloc (.cells Zs 131)).alloc (.map #[] 0)).alloc (.cells C.toArray 62))/\Tl.IsTlb (((w.alloc (.cells Zs 131)).alloc (.map #[] 0)).alloc (.cells C.toArray 62)) w.heap.size Tl.T0/\MapP (((w.alloc (.cells Zs 131)).alloc (.map #[] 0)).alloc (.cells C.toArray 62)) (w.heap.size+1) 0 (fun _=>none)/\Blk (((w.alloc (.cells Zs 131)).alloc (.map #[] 0)).alloc (.cells C.toArray 62)) (w.heap.size+2) C 62/\(((w.alloc (.cells Zs 131)).alloc (.map #[] 0)).alloc (.cells C.toArray 62)).heap.size=w.heap.size+3:=by
 have s1:(w.alloc (.cells Zs 131)).heap.size=w.heap.size+1:=World.size_alloc _ _
 have s2:((w.alloc (.cells Zs 131)).alloc (.map #[] 0)).heap.size=w.heap.size+2:=kj
 have b12:bc (w.alloc (.cells Zs 131)) (((w.alloc (.cells Zs 131)).alloc (.map #[] 0)).alloc (.cells C.toArray 62)):=Go.Joins.below_alloc2 _ _ _
 have b2:bc ((w.alloc (.cells Zs 131)).alloc (.map #[] 0)) (((w.alloc (.cells Zs 131)).alloc (.map #[] 0)).alloc (.cells C.toArray 62)):=baa
 refine ⟨below_then baa b12,?_,?_,?_,by rw [World.size_alloc,s2]⟩
 . have q:=Tl.IsTlb.made w Zs hs hz
   exact tlb_block q b12.size (b12.block _ q.2.2)
 . have q:=MapP.made (w.alloc (.cells Zs 131))
   rw [s1] at q
   exact q.block (b2.block _ (by rw [s2];omega))
 . rw [<- s2];exact Blk.made _ _ _
theorem boot_ok (F tags:Int) (f0:10<=F) (f1:F<=512) (t0:1<=tags) (t1:tags<=4095) (g c:Nat) (W:World) (tb0:Tab W) (gl:g<W.heap.size) (hc:20<=c) (hg: ∀ i,i<20->W.cell? ⟨g,0+i,none⟩=some (.int .u8 (Bm.BL (Bm.entB ⟨0,F*4096,1⟩) i))) :
 Calls Tryz.prog 20 #[.agg (si F 0 1 tags (.slice (some ⟨g,0,none⟩) 20 c))] W fun e w'=> ∃ M m s,e=.returned (.tuple #[pp M.mb,.int .i64 0])/\Booted F tags W w' M m s:=by
 have FC:Hid (∀ w:World,bc W w->Calls Tryz.prog 41 #[.slice (some ⟨g,0,none⟩) 20 c,.int .i64 F,.agg #[.int .i64 0,.int .i64 1]] w fun e w'=> ∃ g' c',e=.returned (.tuple #[.slice (some ⟨g',0,none⟩) 1 c',.int .i64 0])/\Bd.Rgs w' g' 1 (rg [(1,F)])/\bc w w'):=fun w hb=>by
  refine (Bm.frames_z g 0 20 c _ (Bm.bl_bd (Bm.ent_byt _)) hc F 0 1 w (nla gl hb.size) (fun i hi=>(hb.cell (p:=⟨g,0+i,none⟩) gl).trans (hg i hi))).mono ?_
  rintro e w' ⟨v',zz,MM,rfl,⟨h1,h1'⟩,h2,h3,h4⟩
  obtain ⟨rfl,rfl⟩:=h2.one (fz_plain F (by omega) (by omega))
  obtain ⟨g',c',rfl,hr⟩:=rgs_of (h1.low (Nat.zero_le _)) h1' (by simp)
  exact ⟨g',c',rfl,hr,h4⟩
 have NT:Hid (∀ w:World,_):=fun w=>Pc.new_ok tags t0 t1 w
 have NB:Hid (∀ (w:World) (g' c':Nat),Bd.Rgs w g' 1 (rg [(1,F)])->Calls Tryz.prog 43 #[.slice (some ⟨g',0,none⟩) 1 c'] w fun e w'=> ∃ b N,e=.returned (.tuple #[.pointer (some ⟨b,0,none⟩),.int .i64 0])/\Bd.Bu (fun j=>j<w.heap.size) w' b N (from1 F) Bd.noneF/\bc w w'):=fun w g' c' hr=>by
  refine (Bd.new_ok g' 1 c' (by omega) _ w hr (form_plain (by omega) (by omega))).mono ?_
  rintro e w' ⟨b,he,hB,hb⟩
  rw [ru_plain] at hB
  exact ⟨b,_,he,hB,hb⟩
 have NR:Hid (∀ w:World,_):=fun w=>new5 F (by omega) (by omega) w
 have NQ:Hid (∀ w:World,_):=fun w=>Qu.new_ok (F-1) (by omega) (by omega) w
 obtain ⟨Zs,hz,hs,hzz⟩:=Tl.zero30
 have HZ:Hid (Zs.size=144/\ ∀ q r,q<16->r<9->Zs[q*9+r]? =Tl.Ln.zero.enc[r]?):=⟨hs,hzz⟩
 have hmm:= @run_makeMap Tryz.prog
 have BP:Hid (Blk (W.alloc (.cells (si F 0 1 tags (.slice (some ⟨g,0,none⟩) 20 c)) 90)) W.heap.size (sj F 0 1 tags (.slice (some ⟨g,0,none⟩) 20 c)) 90/\bc W (W.alloc (.cells (si F 0 1 tags (.slice (some ⟨g,0,none⟩) 20 c)) 90))):=⟨Blk.made _ _ _,baa⟩
 have H0:Hid (Tab W/\10<=F/\F<=512):=⟨tb0,f0,f1⟩
 clear tb0 gl hc hg hs hzz f0 f1 t0 t1
 go_enter Tryz.func20,Tryz.ntmps20
 go_upto_region 1 with fail
 generalize (W.alloc (.cells (si F 0 1 tags (.slice (some ⟨g,0,none⟩) 20 c)) 90))=W0 at BP |-
 obtain ⟨P,hP⟩: ∃ P,P=W.heap.size:=⟨_,rfl⟩
 have BQ:Hid (bc W W0):=BP.out.2
 rw [<- hP] at BP |-
 have HP:Hid (P=W.heap.size):=hP
 clear hP
 have BX:=BP.out.1
 have c0:W0.cell? ⟨P,0,none⟩=some (.int .i64 F):=BX.cell 0
 have c1:W0.cell? ⟨P,1,none⟩=some (.int .i64 0):=BX.cell 1
 have c2:W0.cell? ⟨P,2,none⟩=some (.int .i64 1):=BX.cell 2
 have c4:W0.cell? ⟨P,4,none⟩=some (.slice (some ⟨g,0,none⟩) 20 c):=BX.cell 4
 clear BX
 go_wp2_with fail
 refine Calls.mono (FC.out _ BQ.out) ?_
 rintro e w1 ⟨g',c',rfl,hr,hb1⟩
 have B1:Hid (Blk w1 P (sj F 0 1 tags (.slice (some ⟨g,0,none⟩) 20 c)) 90/\Bd.Rgs w1 g' 1 (rg [(1,F)])/\bc W w1):=⟨BP.out.1.below hb1,hr,below_then BQ.out hb1⟩
 have c3:w1.cell? ⟨P,3,none⟩=some (.int .i64 tags):=B1.out.1.cell 3
 clear hr hb1 c0 c1 c2 c4 BP BQ FC
 go_wp2_with fail
 refine Calls.mono (NT.out _) ?_
 rintro e w2 ⟨rfl,ho⟩
 have B2:Hid (Blk w2 P (sj F 0 1 tags (.slice (some ⟨g,0,none⟩) 20 c)) 90/\Bd.Rgs w2 g' 1 (rg [(1,F)])/\bc W w2/\Pc.IsTags w2 (w1.heap.size+2) w1.heap.size (w1.heap.size+1) 0 (Pc.freshS tags)/\W.heap.size<=w1.heap.size):=⟨B1.out.1.below ho.2.1,B1.out.2.1.below ho.2.1,below_then B1.out.2.2 ho.2.1,ho.1,B1.out.2.2.size⟩
 generalize w1.heap.size=t at B2 |-
 clear ho c3 B1 NT
 go_wp2_with fail
 refine Calls.mono (NB.out _ g' c' B2.out.2.1) ?_
 rintro e w3 ⟨b,NN,rfl,hB,hb3⟩
 have B3:Hid (Bd.Bu (fun j=>j<w2.heap.size) w3 b NN (from1 F) Bd.noneF/\bc w2 w3):=⟨hB,hb3⟩
 clear hB hb3 NB
 have G4:Hid (bc w3 (((w3.alloc (.cells Zs 131)).alloc (.map #[] 0)).alloc (.cells #[.pointer none,pp b,.pointer none,pp w3.heap.size,pp (t+2),.int .i64 0,.map (some (w3.heap.size+1))] 62))/\Tl.IsTlb (((w3.alloc (.cells Zs 131)).alloc (.map #[] 0)).alloc (.cells #[.pointer none,pp b,.pointer none,pp w3.heap.size,pp (t+2),.int .i64 0,.map (some (w3.heap.size+1))] 62)) w3.heap.size Tl.T0/\MapP (((w3.alloc (.cells Zs 131)).alloc (.map #[] 0)).alloc (.cells #[.pointer none,pp b,.pointer none,pp w3.heap.size,pp (t+2),.int .i64 0,.map (some (w3.heap.size+1))] 62)) (w3.heap.size+1) 0 (fun _=>none)/\Blk (((w3.alloc (.cells Zs 131)).alloc (.map #[] 0)).alloc (.cells #[.pointer none,pp b,.pointer none,pp w3.heap.size,pp (t+2),.int .i64 0,.map (some (w3.heap.size+1))] 62)) (w3.heap.size+2) [.pointer none,pp b,.pointer none,pp w3.heap.size,pp (t+2),.int .i64 0,.map (some (w3.heap.size+1))] 62/\(((w3.alloc (.cells Zs 131)).alloc (.map #[] 0)).alloc (.cells #[.pointer none,pp b,.pointer none,pp w3.heap.size,pp (t+2),.int .i64 0,.map (some (w3.heap.size+1))] 62)).heap.size=w3.heap.size+3):=three_new w3 Zs HZ.out.1 HZ.out.2 _
 go_upto_region 11 with fail
 generalize (((w3.alloc (.cells Zs 131)).alloc (.map #[] 0)).alloc (.cells #[.pointer none,pp b,.pointer none,pp w3.heap.size,pp (t+2),.int .i64 0,.map (some (w3.heap.size+1))] 62))=w4 at G4 |-
 obtain ⟨l,hl⟩: ∃ l,l=w3.heap.size:=⟨_,rfl⟩
 rw [<- hl] at G4 |-
 obtain ⟨mb,hmb⟩: ∃ mb,mb=l+1+1:=⟨_,rfl⟩
 rw [<- hmb]
 have G5:Hid (bc w3 w4/\Tl.IsTlb w4 l Tl.T0/\MapP w4 (l+1) 0 (fun _=>none)/\Blk w4 mb [.pointer none,pp b,.pointer none,pp l,pp (t+2),.int .i64 0,.map (some (l+1))] 62/\w4.heap.size=l+3/\l=w3.heap.size/\mb=l+2):=by
  have q:=G4.out
  rw [hl] at q
  rw [hl,hmb,hl]
  exact ⟨q.1,q.2.1,q.2.2.1,q.2.2.2.1,q.2.2.2.2,rfl,rfl⟩
 clear hl hmb G4 HZ hz hmm
 have B4:Hid (Blk w4 P (sj F 0 1 tags (.slice (some ⟨g,0,none⟩) 20 c)) 90/\bc W w4/\bc w2 w4):=⟨(B2.out.1.below B3.out.2).below G5.out.1,below_then B2.out.2.2.1 (below_then B3.out.2 G5.out.1),below_then B3.out.2 G5.out.1⟩
 have c0:w4.cell? ⟨P,0,none⟩=some (.int .i64 F):=B4.out.1.cell 0
 go_wp2_with fail
 refine Calls.mono (NR.out _) ?_
 rintro e w5 ⟨rb,K,S,rfl,h5,hK,hS,b45⟩
 obtain ⟨X,hX⟩: ∃ X:Nat->Prop,X=fun j=>(j<w2.heap.size\/(w3.heap.size<=j/\j<w4.heap.size))/\j≠mb:=⟨_,rfl⟩
 have HX:Hid (X=fun j=>(j<w2.heap.size\/(w3.heap.size<=j/\j<w4.heap.size))/\j≠mb):=hX
 have XL:Hid (∀ j,X j->j<w4.heap.size/\j≠mb):=fun j hj=>by
  rw [hX] at hj
  have:=B4.out.2.2.size
  exact ⟨by omega,hj.2⟩
 clear hX
 have R5:Hid (Ram5 w5 K S rb (hasF F) F (fun _=>0) 0/\(∀ j,j<w4.heap.size->K j)/\(∀ s,s∈S->w4.heap.size<=s)/\bc w4 w5):=⟨h5,hK,hS,b45⟩
 have M5:Hid (Blk w5 mb [.pointer none,pp b,.pointer none,pp l,pp (t+2),.int .i64 0,.map (some (l+1))] 62/\Kept X w4 w5):=⟨G5.out.2.2.2.1.below b45,kept_of_below b45 (fun j hj=>(XL.out j hj).1)⟩
 have c1:w5.cell? ⟨mb,0,none⟩=some (.pointer none):=M5.out.1.cell 0
 have z1:w5.frozen? ⟨mb,0,none⟩=false:=M5.out.1.free 0
 clear h5 hK hS b45 c0 NR
 have N5:Hid (Blk (w5.setCell ⟨mb,0,none⟩ (pp rb)) mb [pp rb,pp b,.pointer none,pp l,pp (t+2),.int .i64 0,.map (some (l+1))] 62/\Kept X w4 (w5.setCell ⟨mb,0,none⟩ (pp rb))/\w5.grownBy (w5.setCell ⟨mb,0,none⟩ (pp rb)) (some mb)):=⟨M5.out.1.set 0 (pp rb),M5.out.2.trans (kept_one (Qu.grown_setCell1 _ _ _ _) fun j hj=>⟨(XL.out j hj).2,nla (XL.out j hj).1 M5.out.2.size⟩),Qu.grown_setCell1 _ _ _ _⟩
 go_upto_region 12 with fail
 generalize (w5.setCell ⟨mb,0,none⟩ (pp rb))=v5 at N5 |-
 clear c1 z1 M5
 have FB:Hid (Calls Tryz.prog 46 #[pp b] v5 fun e w'=>e=.returned (.int .i64 (F-1))/\w'=v5):=by
  have q:=(B3.out.1.next (W':=v5) (Nat.le_trans (Nat.le_trans G5.out.1.size R5.out.2.2.2.size) N5.out.2.2.size) (fun j hj _=>by
   have:=G5.out.2.2.2.2.2
   have s4:=G5.out.1.size
   exact (N5.out.2.2.block j (by have:=R5.out.2.2.2.size;omega) (fun e=>by have:=sia e;omega)).trans ((R5.out.2.2.2.block j (by omega)).trans (G5.out.1.block j hj)))).free
  refine q.mono ?_
  rintro e w' ⟨rfl,rfl⟩
  have h10:=H0.out.2
  obtain ⟨G,hG⟩: ∃ G:Nat,F=G:=⟨F.toNat,by omega⟩
  subst hG
  rw [cnt_from G (by omega) (by omega)]
  exact ⟨by rw [show ((G-1:Nat):Int)=(G:Int)-1 by omega],rfl⟩
 go_wp2_with fail
 refine Calls.mono FB.out ?_
 rintro e w' ⟨rfl,hu⟩
 have hu2:=hu.symm
 subst hu2
 clear FB
 go_wp2_with fail
 refine Calls.mono (NQ.out _) ?_
 rintro e w6 ⟨rfl,hq⟩
 obtain ⟨tb,htb⟩: ∃ tb,tb=v5.heap.size:=⟨_,rfl⟩
 rw [<- htb] at hq |-
 have Q6:Hid (Qu.IsTree w6 tb (Qu.rootT (F-1))/\bc v5 w6/\tb=v5.heap.size/\w5.heap.size<=tb):=⟨hq.1,hq.2.1,htb,by rw [htb];exact N5.out.2.2.size⟩
 clear hq htb NQ
 have ML:Hid (mb<w5.heap.size/\w5.heap.size<=v5.heap.size):=⟨by have:=G5.out.2.2.2.2;have:=R5.out.2.2.2.size;omega,N5.out.2.2.size⟩
 have M6:Hid (Blk w6 mb [pp rb,pp b,.pointer none,pp l,pp (t+2),.int .i64 0,.map (some (l+1))] 62/\Kept X w4 w6):=⟨N5.out.1.below Q6.out.2.1,N5.out.2.1.trans (kept_of_below Q6.out.2.1 (fun j hj=>nla (XL.out j hj).1 N5.out.2.1.size))⟩
 have c1:w6.cell? ⟨mb,2,none⟩=some (.pointer none):=M6.out.1.cell 2
 have z1:w6.frozen? ⟨mb,2,none⟩=false:=M6.out.1.free 2
 have N6:Hid (Blk (w6.setCell ⟨mb,2,none⟩ (pp tb)) mb [pp rb,pp b,pp tb,pp l,pp (t+2),.int .i64 0,.map (some (l+1))] 62/\Kept X w4 (w6.setCell ⟨mb,2,none⟩ (pp tb))/\w6.grownBy (w6.setCell ⟨mb,2,none⟩ (pp tb)) (some mb)):=⟨M6.out.1.set 2 (pp tb),M6.out.2.trans (kept_one (Qu.grown_setCell1 _ _ _ _) fun j hj=>⟨(XL.out j hj).2,nla (XL.out j hj).1 M6.out.2.size⟩),Qu.grown_setCell1 _ _ _ _⟩
 go_upto_region 13 with fail
 generalize (w6.setCell ⟨mb,2,none⟩ (pp tb))=v6 at N6 |-
 clear c1 z1 M6
 have P6:Hid (Pu (fun j=>j<w2.heap.size\/(w3.heap.size<=j/\j<w4.heap.size)) v6 (pm0 rb b tb F) (ps0 (from1 F) (F-1))):=by
  have h10:=H0.out.2
  have g5:=G5.out.2.2.2.2
  have ml:=ML.out
  have q6:=Q6.out.2.2
  have s1:=N5.out.2.2.size
  have s2:=Q6.out.2.1.size
  have s3:=N6.out.2.2.size
  have sz:=B2.out.2.2.1.size
  have sb:=B4.out.2.2.size
  have w0:=H0.out.1.1
  have e0:v6.heap[0]? =W.heap[0]? :=(N6.out.2.1.block 0 (by rw [HX.out];exact ⟨by omega,by omega⟩)).trans (B4.out.2.1.block 0 w0)
  refine pu_make2 B3.out.1 B3.out.2 G5.out.1 R5.out.1 R5.out.2.1 R5.out.2.2.1 R5.out.2.2.2 (Tt.tree_block Q6.out.1 s3 (N6.out.2.2.block tb (by have:=Q6.out.1.2.2;omega) (fun e=>by have:=sia e;omega))) (by omega) (by omega) (fun j hj hn=> ?_) (tab_block H0.out.1 (by have:=R5.out.2.2.2.size;have:=B4.out.2.1.size;omega) e0) (sound0 (by omega) (Int.le_refl _) (by omega) (by omega)) (by omega)
  have jm:j≠mb:=by omega
  exact (N6.out.2.2.block j (by omega) (fun e=>jm (sia e))).trans ((Q6.out.2.1.block j (by omega)).trans (N5.out.2.2.block j hj (fun e=>jm (sia e))))
 have PC:Hid _:=purse_any mb rb b tb 0 _ _ _ _ v6 N6.out.1
 have KC:Hid (∀ w:World,bc v6 w->Calls Tryz.prog 47 #[pv (pm0 rb b tb F) (0:Nat)] w fun e w'=> ∃ (kf z:Nat),e=.returned (.tuple #[.int .i64 kf,.int .i64 0])/\InL (ps0 (from1 F) (F-1)) [kf,z]/\ ∃ M':Int->Int,Pu (fun j=>j<w2.heap.size\/(w3.heap.size<=j/\j<w4.heap.size)) w' (pm0 rb b tb F) { takeS (ps0 (from1 F) (F-1)) 0 [kf,z] with M:=M',q:=0+5000 }/\Kx (fun j=>j<w2.heap.size\/(w3.heap.size<=j/\j<w4.heap.size)) w w'/\KT [kf,z] kf 2 (fun _=>0) M'):=fun w hb=>by
  have h10:=H0.out.2
  obtain ⟨G,hG⟩: ∃ G:Nat,F=G:=⟨F.toNat,by omega⟩
  have nm:Nums (pm0 rb b tb F) (ps0 (from1 F) (F-1)) 0 (F-1) 0 (G-1):=by rw [hG];exact nums0 _ G _ (by omega) (by omega)
  exact kernel_small (P6.out.below hb) (by show (1:Int)<=F;omega) (by show F<=512;omega) 0 (nm.box (by omega)) (by show (0:Nat)<_;omega) (by rw [nm.room];show 1+(F+262143) / 262144<=F-1;omega)
 go_wp2_with fail
 refine Calls.mono PC.out ?_
 rintro e w6p ⟨rfl,hb6⟩
 have HB6:Hid (bc v6 w6p):=hb6
 clear hb6 PC
 go_wp2_with fail
 refine Calls.mono (KC.out _ HB6.out) ?_
 rintro e w7 ⟨kf,z,rfl,IN,M',hp7,hk7,kt7⟩
 have P7:Hid (InL (ps0 (from1 F) (F-1)) [kf,z]/\Pu (fun j=>j<w2.heap.size\/(w3.heap.size<=j/\j<w4.heap.size)) w7 (pm0 rb b tb F) { takeS (ps0 (from1 F) (F-1)) 0 [kf,z] with M:=M',q:=0+5000 }):=⟨IN,hp7⟩
 have XX:Hid (∀ j,X j->j<w2.heap.size\/(w3.heap.size<=j/\j<w4.heap.size)):=fun j hj=>by rw [HX.out] at hj;exact hj.1
 have MM:Hid (w3.heap.size<=mb/\mb<w4.heap.size):=by have:=G5.out.2.2.2.2;show _/\_;omega
 have M7:Hid (Blk w7 mb [pp rb,pp b,pp tb,pp l,pp (t+2),.int .i64 0,.map (some (l+1))] 62/\Kept X w4 w7):=⟨(N6.out.1.below HB6.out).kx hk7 (Or.inr MM.out),(N6.out.2.1.trans (kept_of_below HB6.out (fun j hj=>nla (XL.out j hj).1 N6.out.2.1.size))).trans (hk7.sub XX.out)⟩
 have c1:w7.cell? ⟨mb,5,none⟩=some (.int .i64 0):=M7.out.1.cell 5
 have z1:w7.frozen? ⟨mb,5,none⟩=false:=M7.out.1.free 5
 have N7:Hid (Blk (w7.setCell ⟨mb,5,none⟩ (.int .i64 kf)) mb [pp rb,pp b,pp tb,pp l,pp (t+2),.int .i64 kf,.map (some (l+1))] 62/\Kept X w4 (w7.setCell ⟨mb,5,none⟩ (.int .i64 kf))/\w7.grownBy (w7.setCell ⟨mb,5,none⟩ (.int .i64 kf)) (some mb)):=⟨M7.out.1.set 5 (.int .i64 kf),M7.out.2.trans (kept_one (Qu.grown_setCell1 _ _ _ _) fun j hj=>⟨(XL.out j hj).2,nla (XL.out j hj).1 M7.out.2.size⟩),Qu.grown_setCell1 _ _ _ _⟩
 clear IN hp7 hk7 kt7 KC
 go_upto_region 14 with fail
 generalize (w7.setCell ⟨mb,5,none⟩ (.int .i64 kf))=v7 at N7 |-
 clear c1 z1
 go_wp2_with fail
 go_returns
 refine ⟨⟨mb,l,t+2,t,t+1,l+1,kf⟩,pm0 rb b tb F,{ takeS (ps0 (from1 F) (F-1)) 0 [kf,z] with M:=M',q:=0+5000 },rfl,own0 t l (l+1) mb,?_⟩
 have h10:=H0.out
 have g5:=G5.out.2.2.2.2
 have b2:=B2.out
 have lt1:=Pc.blk_lt b2.2.2.2.1.blk
 have lt2:t<w2.heap.size:=by obtain ⟨_,q⟩:=b2.2.2.2.1.tags;exact q.lt
 have lt3:t+1<w2.heap.size:=by obtain ⟨_,q⟩:=b2.2.2.2.1.owns;exact q.lt
 have s23:=B3.out.2.size
 have s34:=G5.out.1.size
 have sW:=b2.2.2.2.2
 have k7:=N7.out.2.1
 have nx: ∀ j,(j<w2.heap.size\/(w3.heap.size<=j/\j<w4.heap.size))->j≠mb->v7.heap[j]? =w4.heap[j]? :=fun j h1 h2=>k7.block j (by rw [HX.out];exact ⟨h1,h2⟩)
 have bel:bc W v7:=⟨k7.os.trans B4.out.2.1.os,k7.tape.trans B4.out.2.1.tape,k7.output.trans B4.out.2.1.output,Nat.le_trans B4.out.2.1.size k7.size,fun j hj=>(nx j (Or.inl (by have:=b2.2.2.1.size;omega)) (by omega)).trans (B4.out.2.1.block j hj)⟩
 have so:=P7.out.2.so
 obtain ⟨G,hG⟩: ∃ G:Nat,F=G:=⟨F.toNat,by omega⟩
 have nm:Nums (pm0 rb b tb F) (ps0 (from1 F) (F-1)) 0 (F-1) 0 (G-1):=by rw [hG];exact nums0 _ G _ (by omega) (by omega)
 have so0:Sound (pm0 rb b tb F) (ps0 (from1 F) (F-1)):=sound0 (by omega) (Int.le_refl _) (by omega) (by omega)
 have nm2:=nm.take so0 P7.out.1 M' (0+5000)
 have kfl:kf<1048576:=by
  have:=so0.frb kf (P7.out.1.2 kf (by simp))
  omega
 refine ⟨⟨(P7.out.2.poke (j:=mb) (Or.inr MM.out) (by omega) N7.out.2.2).less (fun j hj=> ?_) (Or.inl h10.1.1),h10.1.1,fun j hj=> ?_,N7.out.1,tlb_block G5.out.2.1 k7.size (nx l (Or.inr (by omega)) (by omega)),b2.2.2.2.1.kept (fun j hj hh=> ?_),G5.out.2.2.1.block (nx (l+1) (Or.inr (by omega)) (by omega)),?_,?_,?_,?_,by simp,by simp,by simp,by simp,by simp,by simp,kfl⟩,?_,rfl,rfl,Nat.le_refl _,bel⟩
 . rcases hj with c | c
   . exact Or.inl (by omega)
   . unfold own0 at c
     by_cases c1:j=mb
     . exact Or.inr (by omega)
     . rw [if_neg c1] at c
       by_cases c2:j=l
       . exact Or.inr (by omega)
       . rw [if_neg c2] at c
         by_cases c3:j=t\/j=t+1\/j=t+2
         . exact Or.inl (by omega)
         . rw [if_neg c3] at c
           by_cases c4:j=l+1
           . exact Or.inr (by omega)
           . rw [if_neg c4] at c;exact absurd rfl c
 . unfold own0
   have:j<W.heap.size:=hj
   rw [if_neg (by omega),if_neg (by omega),if_neg (by omega),if_neg (by omega)]
 . exact (nx j (Or.inl (by omega)) (by omega)).trans ((G5.out.1.block j (by omega)).trans (B3.out.2.block j hj))
 . unfold own0;rw [if_pos rfl]
 . show own0 t l (l+1) mb l=2
   unfold own0;rw [if_neg (by omega),if_pos rfl]
 . show own0 t l (l+1) mb (t+2)=3/\own0 t l (l+1) mb t=3/\own0 t l (l+1) mb (t+1)=3
   unfold own0
   refine ⟨?_,?_,?_⟩ <;> rw [if_neg (by omega),if_neg (by omega),if_pos (by omega)]
 . show own0 t l (l+1) mb (l+1)=4
   unfold own0;rw [if_neg (by omega),if_neg (by omega),if_neg (by omega),if_pos rfl]
 . have e1:(F-1-(([kf,z]:List Nat).length:Int))=F-3:=by simp;omega
   have e2:((0:Int)+(([kf,z]:List Nat).length:Int))=2:=by simp
   have e3:(G-1-([kf,z]:List Nat).length)=F.toNat-3:=kh
   rw [e1,e2,e3] at nm2
   exact nm2
end Go.Proofs.YtgbdnnkkcpkhdaaGreatDoor.Sp
namespace Go.Proofs.YtgbdnnkkcpkhdaaGreatDoor.Sp
open Go.Proofs.YtgbdnnkkcpkhdaaGreatDoor.Tt
theorem plain_any (F tags:Int) (f0:0<=F) (f1:F<=1048576) (W:World) :
 Calls Tryz.prog 21 #[.int .i64 F,.int .i64 tags] W fun e w'=> ∃ g,e=.returned (.agg (si F 0 1 tags (.slice (some ⟨g,0,none⟩) 20 20)))/\g<w'.heap.size/\(∀ i,i<20->w'.cell? ⟨g,0+i,none⟩=some (.int .u8 (Bm.BL (Bm.entB ⟨0,F*4096,1⟩) i)))/\bc W w':=by
 have EC:Hid (∀ w:World,_):=fun w=>Bm.entry_call 0 (F*4096) 1 (by omega) (by omega) (by omega) (by omega) (by omega) (by omega) w
 have e1:IntKind.u64.wrap F=F:=kg
 have e2:IntKind.u64.wrap (F*4096)=F*4096:=kg
 have BP:Hid (Blk (W.alloc (.cells (si 0 0 0 0 (.slice none 0 0)) 90)) W.heap.size (sj 0 0 0 0 (.slice none 0 0)) 90/\bc W (W.alloc (.cells (si 0 0 0 0 (.slice none 0 0)) 90))):=⟨Blk.made _ _ _,baa⟩
 clear f0 f1
 go_enter Tryz.func21,Tryz.ntmps21
 go_upto_region 1 with fail
 generalize W.alloc (.cells (si 0 0 0 0 (.slice none 0 0)) 90)=W0 at BP |-
 obtain ⟨P,hP⟩: ∃ P,P=W.heap.size:=⟨_,rfl⟩
 have HP:Hid (W.heap.size<=P/\bc W W0):=⟨by omega,BP.out.2⟩
 rw [<- hP] at BP |-
 clear hP
 go_wp2_with fail
 refine Calls.mono (EC.out _) ?_
 rintro e w1 ⟨g,rfl,O1,hb1⟩
 have Z1:Hid (g<w1.heap.size/\g≠P/\(∀ i,i<20->w1.cell? ⟨g,0+i,none⟩=some (.int .u8 (Bm.BL (Bm.entB ⟨0,F*4096,1⟩) i)))/\bc W w1):=by
  obtain ⟨q1,_,q3,q4⟩:=Bm.bl_cells (by rw [Bm.ent_len]) O1
  exact ⟨q1,by have:=BP.out.1.lt;omega,q3,below_then HP.out.2 hb1⟩
 have B1:Hid (Blk w1 P (sj 0 0 0 0 (.slice none 0 0)) 90):=BP.out.1.below hb1
 clear O1 hb1 EC BP
 have F1:Hid (Blk (w1.setCells P 0 (sj F 0 1 tags (.slice (some ⟨g,0,none⟩) 20 20))) P (sj F 0 1 tags (.slice (some ⟨g,0,none⟩) 20 20)) 90/\g<(w1.setCells P 0 (sj F 0 1 tags (.slice (some ⟨g,0,none⟩) 20 20))).heap.size/\(∀ i,i<20->(w1.setCells P 0 (sj F 0 1 tags (.slice (some ⟨g,0,none⟩) 20 20))).cell? ⟨g,0+i,none⟩=some (.int .u8 (Bm.BL (Bm.entB ⟨0,F*4096,1⟩) i)))/\bc W (w1.setCells P 0 (sj F 0 1 tags (.slice (some ⟨g,0,none⟩) 20 20)))):=by
  have gk:=Qu.grown_setCells P (sj F 0 1 tags (.slice (some ⟨g,0,none⟩) 20 20)) 0 w1
  obtain ⟨a1,a2,a3,a4⟩:=Z1.out
  exact ⟨B1.out.put rfl,nla a1 gk.size,fun i hi=>(World.cell?_of_block (w:=w1) (a:=⟨g,0+i,none⟩) (gk.block g a1 (fun e=>a2 (sia e)))).trans (a3 i hi),below_put a4 HP.out.1 _⟩
 have TH:Hid (w1.there P 0 5):=B1.out.there
 clear B1 Z1
 go_wp2_with (refine store_pat P 0 (si F 0 1 tags (.slice (some ⟨g,0,none⟩) 20 20)) ?hx ?hy ?ht ?hi ?h1 ?rest;(case hx=>rfl);(case hy=>rfl);(case ht=>exact TH.out);(case hi=>kernel_rfl);(case h1=>simp [Value.oneCell']);(try simp only [List.toList_toArray]);generalize w1.setCells P 0 (sj F 0 1 tags (.slice (some ⟨g,0,none⟩) 20 20))=V at F1 |-)
 refine bodyPost_ret (v:=.agg (si F 0 1 tags (.slice (some ⟨g,0,none⟩) 20 20))) (results_one Tryz.results21 _ _ _ _ _ rfl (run_loadVar_mid (P:=Tryz.prog) _ P 0 90 (sj F 0 1 tags (.slice (some ⟨g,0,none⟩) 20 20)) _ F1.out.1.range Tryz.underlying90 rfl ka)) rfl ?_
 exact ⟨g,rfl,F1.out.2⟩
theorem results_tct {fn:Func} {p q r:Tmp} {t:TypeId} (h:fn.results= #[.tmp p,.cell q t,.tmp r]) (tmps:Array Value) (P:Program) (w:World) (a:Addr) (x y z:Value) (hp:tmps.getD p undef=x)
 (hq:tmps.getD q undef=.pointer (some a)) (hr:tmps.getD r undef=z) (hy:(loadVar t a).run P w=.ok y w):(results fn tmps).run P w=.ok (.tuple #[x,y,z]) w:=by
 simp only [results,h]
 have e1: ∀ W:World,(asAddr (Value.pointer (some a))).run P W=.ok a W:=fun _=>rfl
 simp at hp hq hr
 simp [Sem.run_bind,Result.andThen,hp,hq,hr,e1,hy]
theorem begin_ok (F tags:Int) (f0:10<=F) (f1:F<=512) (t0:1<=tags) (t1:tags<=4095) (W:World) (tb0:Tab W) :
 Calls Tryz.prog 10 #[.int .i64 F,.int .i64 tags] W fun e w'=> ∃ M m s xb,e=.returned (.tuple #[pp M.mb,.agg #[.slice none 0 0,.slice (some ⟨xb,0,none⟩) 1 1,.int .i64 0],.bool true])/\Booted F tags W w' M m s:=by
 have PC:Hid (∀ w:World,_):=fun w=>plain_any F tags (by omega) (by omega) w
 have BC:Hid (∀ (w:World) (g:Nat),Tab w->g<w.heap.size->_->_):=fun w g tb lg hc=>boot_ok F tags f0 f1 t0 t1 g 20 w tb lg (Nat.le_refl _) hc
 have e1:IntKind.i64.wrap (F-1)=F-1:=ki1
 have BP:Hid (Blk (W.alloc (.cells #[.slice none 0 0,.slice none 0 0,.int .i64 0] 30)) W.heap.size [.slice none 0 0,.slice none 0 0,.int .i64 0] 30/\bc W (W.alloc (.cells #[.slice none 0 0,.slice none 0 0,.int .i64 0] 30))):=⟨Blk.made _ _ _,baa⟩
 have HT:Hid (Tab W):=tb0
 clear f0 f1 t0 t1 tb0
 go_enter Tryz.func10,Tryz.ntmps10
 go_upto_region 1 with fail
 generalize W.alloc (.cells #[.slice none 0 0,.slice none 0 0,.int .i64 0] 30)=W0 at BP |-
 obtain ⟨P,hP⟩: ∃ P,P=W.heap.size:=⟨_,rfl⟩
 have HP:Hid (P=W.heap.size/\bc W W0):=⟨hP,BP.out.2⟩
 rw [<- hP] at BP |-
 clear hP
 go_wp2_with fail
 refine Calls.mono (PC.out _) ?_
 rintro e w1 ⟨g,rfl,lg,hc,hb1⟩
 have Z1:Hid (g<w1.heap.size/\(∀ i,i<20->w1.cell? ⟨g,0+i,none⟩=some (.int .u8 (Bm.BL (Bm.entB ⟨0,F*4096,1⟩) i)))/\bc W w1/\Blk w1 P [.slice none 0 0,.slice none 0 0,.int .i64 0] 30):=⟨lg,hc,below_then HP.out.2 hb1,BP.out.1.below hb1⟩
 clear lg hc hb1 PC BP
 go_wp2_with fail
 refine Calls.mono (BC.out w1 g (HT.out.below Z1.out.2.2.1 HT.out.1) Z1.out.1 Z1.out.2.1) ?_
 rintro e w2 ⟨M,m,s,rfl,hB⟩
 have B2:Hid (Booted F tags w1 w2 M m s):=hB
 have BL:Hid (bc w1 w2):=by obtain ⟨O,_,_,_,_,_,hb⟩:=hB;exact hb
 have BM:=Z1.out.2.2.2.below BL.out
 have lP:=BM.lt
 have d0:w2.cell? ⟨P,0,none⟩=some (.slice none 0 0):=BM.cell 0
 have d1:w2.cell? ⟨P,1,none⟩=some (.slice none 0 0):=BM.cell 1
 have d2:w2.cell? ⟨P,2,none⟩=some (.int .i64 0):=BM.cell 2
 have q0:w2.frozen? ⟨P,0,none⟩=false:=BM.free 0
 have q1:w2.frozen? ⟨P,1,none⟩=false:=BM.free 1
 have q2:w2.frozen? ⟨P,2,none⟩=false:=BM.free 2
 have FV:Hid (Blk ((((w2.setCell ⟨P,0,none⟩ (.slice none 0 0)).setCell ⟨P,1,none⟩ (.slice (some ⟨w2.heap.size,0,none⟩) 1 1)).setCell ⟨P,2,none⟩ (.int .i64 0)).alloc (.cells (sc 0 (-1) (F-1) 2) 93)) P [.slice none 0 0,.slice (some ⟨w2.heap.size,0,none⟩) 1 1,.int .i64 0] 30/\Booted F tags W ((((w2.setCell ⟨P,0,none⟩ (.slice none 0 0)).setCell ⟨P,1,none⟩ (.slice (some ⟨w2.heap.size,0,none⟩) 1 1)).setCell ⟨P,2,none⟩ (.int .i64 0)).alloc (.cells (sc 0 (-1) (F-1) 2) 93)) M m s):=by
  refine ⟨(((BM.set 0 _).set 1 _).set 2 _).below baa,?_⟩
  obtain ⟨O,hM,hN,a1,a2,a3,hb⟩:=B2.out
  have hp:=HP.out.1
  have lt:=HT.out.1
  have s1:=Z1.out.2.2.1.size
  have l1:P<w1.heap.size:=Z1.out.2.2.2.lt
  refine ⟨O,?_,hN,a1,a2,a3,?_⟩
  . exact ((((hM.poke (j:=P) l1 (by omega) (Qu.grown_setCell1 _ _ _ _)).poke (j:=P) l1 (by omega) (Qu.grown_setCell1 _ _ _ _)).poke (j:=P) l1 (by omega) (Qu.grown_setCell1 _ _ _ _)).below baa).less (fun j hj=>by show j<w1.heap.size;omega) lt
  . exact below_new ((((below_then Z1.out.2.2.1 hb).setCell (by show W.heap.size<=P;omega) _).setCell (by show W.heap.size<=P;omega) _).setCell (by show W.heap.size<=P;omega) _) _
 clear hB BC BM
 go_wp2_with fail
 clear d0 d1 d2 q0 q1 q2
 refine bodyPost_ret (v:=.tuple #[pp M.mb,.agg #[.slice none 0 0,.slice (some ⟨w2.heap.size,0,none⟩) 1 1,.int .i64 0],.bool true]) (results_tct Tryz.results10 _ _ _ _ _ _ _ rfl rfl rfl (run_loadVar_mid (P:=Tryz.prog) _ P 0 30 [.slice none 0 0,.slice (some ⟨w2.heap.size,0,none⟩) 1 1,.int .i64 0] _ FV.out.1.range Tryz.underlying30 rfl ka)) rfl ?_
 exact ⟨M,m,s,_,rfl,FV.out.2⟩
end Go.Proofs.YtgbdnnkkcpkhdaaGreatDoor.Sp
