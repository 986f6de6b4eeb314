import Derived.Test.YtajfbieacfjhnaaGreatDoorKZa
import Derived.Test.YtajfbieacfjhnaaGreatDoorSWa
import Derived.Test.YtajfbieacfjhnaaGreatDoorBDea
import Derived.Test.YtajfbieacfjhnaaGreatDoorKKa
import Derived.Test.YtajfbieacfjhnaaGreatDoorMDa
namespace Go.Proofs.YtajfbieacfjhnaaGreatDoor.Sp
open Go.ChangeShapes Go.WideShapes Go.ChangeAt Go.RowKit Go.Maps Go.Sort Go.Shelf
open Go.Proofs.YtajfbieacfjhnaaGreatDoor.Tt
set_option linter.unusedSimpArgs false
set_option linter.unusedVariables false
set_option maxRecDepth 8000
theorem rt_give {m:Pm} {s:Ps} {k f root:Nat} {tab:Nat->Nat->Option Nat} {lf:Nat->Option Lf} (H:Rt m s root tab lf) (hn: ∀ l x,tab l x≠some f):Rt m (giveS s k f) root tab lf:=⟨H.pw,H.fu,fun l x g e=>by
 obtain ⟨a,b,c⟩:=H.ow l x g e
 have ne:g≠f:=fun q=>hn l x (by rw [<- q];exact e)
 refine ⟨a,?_,fun q=> ?_⟩
 . show Bd.setF s.G f none g=some 0
   unfold Bd.setF
   rw [if_neg (by omega)];exact b
 . rcases q with q | q
   . exact c q
   . exact ne q⟩
theorem keys_any (mb:Option Nat) (W:World):Calls Tryz.prog 30 #[.map mb] W fun e w'=>e=.returned (.func (.func 76) #[] #[.pointer (some ⟨W.heap.size,0,none⟩)])/\w'=W.alloc (.cells #[.map mb] 83) :=
 (callsIn_wide (n:=5)).1 (AnyZI.keys_in Bd.keysA Fence.wide 5 trivial rfl mb W)
def Asc (L:List Int):Prop:=L.Pairwise (· < ·)
theorem keys_mem {w:World} {b nn:Nat} {D0:DataW Unit} (hown:w.ownsMap Tryz.prog 3 (plainElem Tryz.prog 3) b nn D0):(intKeys D0).Nodup/\ ∀ x,x∈intKeys D0↔Maps.has D0 (.int .i64 x)=true:=by
 obtain ⟨es,hD,hpw,_⟩:=hown.entries keyLaw
 obtain ⟨es',hD',hko⟩:=hown.keysOf
 obtain rfl:es=es':=by rw [hD] at hD';simpa using hD'
 subst hD
 have hk: ∀ p∈es,∃ x,p.1=.int .i64 x:=fun p hp=>by obtain ⟨v,hv⟩:=hko p hp;obtain ⟨x,_,hx,_⟩:=Maps.keyOf_i64 Tryz.underlying3 hv;exact ⟨x,hx⟩
 constructor
 . show (es.map fun p=>Go.intOf p.1).Nodup
   refine List.pairwise_map.2 (hpw.imp_of_mem fun {p q} hp' hq' hne e=>hne ?_)
   obtain ⟨a,ha⟩:=hk p hp'
   obtain ⟨b,hb⟩:=hk q hq'
   rw [ha,hb] at e |-
   exact congrArg _ e
 . intro x
   rw [has_eq,List.any_eq_true]
   show x∈(es.map fun p=>Go.intOf p.1)↔_
   rw [List.mem_map]
   constructor
   . rintro ⟨p,hp',rfl⟩
     obtain ⟨a,ha⟩:=hk p hp'
     exact ⟨p,hp',by rw [ha];simp [Lit.sameKey,Go.intOf]⟩
   . rintro ⟨p,hp',hs⟩
     obtain ⟨a,ha⟩:=hk p hp'
     rw [ha] at hs
     exact ⟨p,hp',by rw [ha];simpa [Lit.sameKey,Go.intOf] using hs⟩
theorem sort_asc {ss:List Int} (h:ss.Nodup):Asc (ss.mergeSort leI)/\ ∀ x,x∈ss.mergeSort leI↔x∈ss:=by
 have tr: ∀ a b c:Int,leI a b=true->leI b c=true->leI a c=true:=fun a b c h1 h2=>by simp only [leI,decide_eq_true_eq] at *;exact Int.le_trans h1 h2
 have to_: ∀ a b:Int,(leI a b || leI b a)=true:=fun a b=>by simp only [leI,Bool.or_eq_true,decide_eq_true_eq];exact Int.le_total a b
 have P:=List.mergeSort_perm ss leI
 refine ⟨?_,fun x=>P.mem_iff⟩
 have a:=List.pairwise_mergeSort tr to_ ss
 have b:(ss.mergeSort leI).Nodup:=P.nodup_iff.2 h
 unfold Asc
 have:=a.and b
 refine this.imp ?_
 rintro x y ⟨h1,h2⟩
 simp only [leI,decide_eq_true_eq] at h1
 have h2':x≠y:=h2
 omega
set_option maxHeartbeats 1000000 in
theorem sorted_any (b n c:Nat) (f:Int->Option Int) (hn:n<=1048600) (w:World) (h:Pc.MapC w b n c f) :
 Calls Tryz.prog 29 #[.func (.func 76) #[] #[.pointer (some ⟨w.heap.size,0,none⟩)]] (w.alloc (.cells #[.map (some b)] 83)) fun e w'=> ∃ (v:Value) (L:List Int),e=.returned v/\Asc L/\(∀ x,x∈L↔(f x).isSome=true)/\w'.ownsRow w.heap.size 3 1 v L.length (L.map (Value.int .i64))/\Below w.heap.size w w':=by
 obtain ⟨D0,hown,hc,hD⟩:=h
 have hs:Maps.size D0<=n:=hown.size_le
 have hbl:=hown.lt
 have KM:=keys_mem hown
 have hseq:SeqGives Fence.wide 2 Tryz.prog 76 #[.pointer (some ⟨w.heap.size,0,none⟩)] encZ (fun ss=>ss.Perm (intKeys D0)) (Maps.size D0) (w.alloc (.cells #[.map (some b)] 83)) :=
  AnyZI.keys_gives (ρ :=Bd.keysA_ren) { Bd.keysA with } Fence.wide _ trivial rfl (by omega) w.heap.size b n D0 _ (by simp) (by simp) (by
   obtain ⟨es,clock,hb,Ft,hs,hD⟩:=hown
   exact ⟨es,clock,(Below.heap_alloc _ _ b hbl).trans hb,Ft,hs,hD⟩)
 have cS:=AnyZI.sorted_in Bd.sortedA Fence.wide 5 trivial trivial trivial trivial rfl (by omega) (Bd.sortsA _) (enters_of Tryz.func75 (by kernel_rfl) rfl) 76 #[.pointer (some ⟨w.heap.size,0,none⟩)] trivial (enters_of Tryz.func76 (by kernel_rfl) rfl) _ _ (by unfold maxLen;omega) (by omega) _ hseq
 change CallsIn _ _ Tryz.prog 29 _ _ _ at cS
 refine ((callsIn_wide (n:=5)).1 cS).mono ?_
 rintro e w' ⟨v,ss,rfl,hS,hrow,hnil,hb⟩
 have nd:ss.Nodup:=hS.nodup_iff.2 KM.1
 have SA:=sort_asc nd
 refine ⟨v,ss.mergeSort leI,rfl,SA.1,fun x=> ?_,?_,((Below.refl _ w).alloc (Nat.le_refl _) _).trans (hb.mono (by simp))⟩
 . rw [SA.2 x,hS.mem_iff,KM.2 x,(hD x).1]
 . have r:=ownsRow_base_a hrow (base':=w.heap.size) (by simp)
   rw [List.length_mergeSort]
   exact r
theorem sorted_i {w:World} {b n:Nat} {f:Int->Option Int} (h:Pc.MapI w b n f) (hn:n<=1048600) :
 Calls Tryz.prog 29 #[.func (.func 76) #[] #[.pointer (some ⟨w.heap.size,0,none⟩)]] (w.alloc (.cells #[.map (some b)] 83)) fun e w'=> ∃ (v:Value) (L:List Int),e=.returned v/\Asc L/\(∀ x,x∈L↔(f x).isSome=true)/\w'.ownsRow w.heap.size 3 1 v L.length (L.map (Value.int .i64))/\Below w.heap.size w w':=by
 obtain ⟨c,h⟩:=h
 exact sorted_any b n c f hn w h
theorem MapP.del {w:World} {b n:Nat} {f:Int->Option Nat} (h:MapP w b n f) {k:Int} (hk:(Lit.int .i64 k).wf=true) (ty:TypeId) :
 ∃ w',(Builtin.delete_ #[72,3] ty #[.map (some b),.int .i64 k]).run Tryz.prog w=.ok (.tuple #[]) w'/\MapP w' b n (put f k none)/\w.grownBy w' (some b):=by
 obtain ⟨D,hown,hD⟩:=h
 obtain ⟨w',hrun,hown',ht⟩:=hown.drop keyLaw Tryz.underlying72 (keyOf_int_mk Tryz.underlying3 hk) ty
 refine ⟨w',hrun,⟨_,hown',?_⟩,ht.grown⟩
 intro j
 unfold put
 by_cases e:j=k
 . subst e
   rw [if_pos rfl]
   exact ⟨Maps.has_del_same,Maps.atKey_del_same _⟩
 . have ne:(Lit.int .i64 j)≠ .int .i64 k:=by intro q;cases q;exact e rfl
   rw [if_neg e,Maps.has_del_other ne,Maps.atKey_del_other ne]
   exact hD j
set_option maxHeartbeats 1000000 in
theorem lends_nil (sb:Nat) (pf:Option Addr) (cf:Nat) (W:World) :
 Calls Tryz.prog 32 #[pp sb,.slice pf 0 cf] W fun e w'=>e=.returned (.bool false)/\w'=W:=by
 go_enter Tryz.func32,Tryz.ntmps32
 go_wp2_with fail
 refine wp_loop_rounds 3 ?_
 rw [rounds_succ]
 go_wp2_with fail
 go_returns
 exact ⟨rfl,rfl⟩
set_option maxHeartbeats 1000000 in
theorem borrows_nil {Y:Nat->Prop} {O:Nat->Nat} {n:Nat} {W:World} {M:Mb} {m:Pm} {s:Ps} {T:Nat->Tl.Ln} {S:Pc.Tg} {a:Sr} {B:List Sr} (h:Mc Y O n W M m s T S (a::B)) (f t:Int) (hL:a.L=[]) :
 Calls Tryz.prog 31 #[pp a.sb,.agg #[.int .i64 f,.int .i64 t]] W fun e w'=>e=.returned (.bool false)/\Below W.heap.size W w':=by
 have ma:=List.mem_cons_self (a:=a) (l:=B)
 have bb:Below W.heap.size W (W.alloc (.cells #[.int .i64 f,.int .i64 t] 44)):=Go.Joins.below_alloc1 _ _
 have c2:(W.alloc (.cells #[.int .i64 f,.int .i64 t] 44)).cell? ⟨a.sb,2,none⟩=some (.slice a.rp 0 a.rc):=by
  have q:(W.alloc (.cells #[.int .i64 f,.int .i64 t] 44)).cell? ⟨a.sb,2,none⟩=some (.slice a.rp a.L.length a.rc):=((h.below bb).sp a ma).blk.cell 2
  rw [hL] at q;exact q
 have HB:Hid (Below W.heap.size W (W.alloc (.cells #[.int .i64 f,.int .i64 t] 44))):=bb
 clear h hL bb
 go_enter Tryz.func31,Tryz.ntmps31
 go_upto_region 1 with fail
 generalize (W.alloc (.cells #[.int .i64 f,.int .i64 t] 44))=W0 at *
 go_wp2_with fail
 refine wp_loop_rounds 3 ?_
 rw [rounds_succ]
 go_wp2_with fail
 go_returns
 exact ⟨rfl,HB.out⟩
set_option maxHeartbeats 1000000 in
theorem release_nil {Y:Nat->Prop} {O:Nat->Nat} {n:Nat} {W:World} {M:Mb} {m:Pm} {s:Ps} {T:Nat->Tl.Ln} {S:Pc.Tg} {a:Sr} {B:List Sr} (h:Mc Y O n W M m s T S (a::B)) (id:Int) (pf:Option Addr) (cf:Nat) :
 Calls Tryz.prog 33 #[pp M.mb,.int .i64 id,pp a.sb,.slice pf 0 cf] W fun e w'=>e=.returned (.tuple #[])/\Below W.heap.size W w':=by
 have PC:Hid _:=purse_any M.mb m.rb m.b m.tb a.k _ _ _ _ W h.mac
 have c0:W.cell? ⟨a.sb,0,none⟩=some (.int .i64 a.k):=(h.sp a (List.mem_cons_self ..)).blk.cell 0
 clear h
 go_enter Tryz.func33,Tryz.ntmps33
 go_wp2_with fail
 refine Calls.mono PC.out ?_
 rintro e w1 ⟨rfl,hb1⟩
 have HB:Hid (Below W.heap.size W (w1.alloc (.cells #[pp m.rb,pp m.b,pp m.tb,.int .i64 a.k] 81))):=below_then hb1 (Go.Joins.below_alloc1 _ _)
 clear hb1 PC c0
 go_upto_region 1 with fail
 generalize (w1.alloc (.cells #[pp m.rb,pp m.b,pp m.tb,.int .i64 a.k] 81))=w2 at HB |-
 go_wp2_with fail
 refine wp_loop_rounds 3 ?_
 rw [rounds_succ]
 go_wp2_with fail
 go_end0
 exact ⟨rfl,HB.out⟩
theorem Mc.closed {Y:Nat->Prop} {O:Nat->Nat} {n:Nat} {W:World} {M:Mb} {m:Pm} {s:Ps} {T:Nat->Tl.Ln} {S:Pc.Tg} {a:Sr} {B:List Sr} {W1 W2:World} {k:Nat} (h:Mc Y O n W M m s T S (a::B)) (hk:Kx (fun j=>Y j\/O j≠0) W W1) (hp:Pu (fun j=>Y j\/O j≠0) W1 m (giveS s k a.root)) (hg:W1.grownBy W2 (some M.sm)) (hm:MapP W2 M.sm n (put (spF (a::B)) a.id none)):Mc Y O n W2 M m (giveS s k a.root) T S B/\Kx Y W W2:=by
 have ma:=List.mem_cons_self (a:=a) (l:=B)
 have t4:=(h.rt a ma).pw.t4
 have ym: ∀ j,Y j->j≠M.sm:=fun j hj e=>by have:=h.yo j hj;rw [e,h.o4] at this;omega
 have l1: ∀ j,O j≠0->j<W1.heap.size:=fun j hj=>hp.lt j (Or.inr hj)
 have lm: ∀ b,O b≠0->O b≠4->W2.heap[b]? =W.heap[b]? :=fun b hO c=>(hg.block b (l1 b hO) (fun e=>c (by rw [Option.some.inj e];exact h.o4))).trans (hk.block b (Or.inr hO))
 have sz:W.heap.size<=W2.heap.size:=Nat.le_trans hk.size hg.size
 have ni:=List.nodup_cons.1 h.ni
 have nj:=List.nodup_cons.1 h.nj
 have es:put (spF (a::B)) a.id none=spF B:=by
  funext i
  unfold put
  by_cases e:i=a.id
  . rw [if_pos e,e]
    exact (spF_none fun b hb q=>ni.1 (List.mem_map.2 ⟨b,hb,q⟩)).symm
  . rw [if_neg e]
    show (if i=a.id then _ else _)=_
    rw [if_neg e]
 rw [es] at hm
 have nt: ∀ b∈B,∀ l x,b.tab l x≠some a.root:=fun b hb l x=>h.dj a ma b (List.mem_cons_of_mem _ hb) (fun e=>h.other b hb e.symm) 4 0 l x a.root t4
 refine ⟨⟨hp.poke (Or.inr (by rw [h.o4];omega)) (fun e=>ym 0 h.y0 e.symm) hg,h.y0,h.yo,(lm _ (by rw [h.o1];omega) (by rw [h.o1];omega)).trans h.mac,tlb_block h.tlb sz (lm _ (by rw [h.o2];omega) (by rw [h.o2];omega)),h.tgs.kept fun b _ hb=> ?_,hm,h.o1,h.o2,h.o3,h.o4,fun b hb=>(h.sp b (List.mem_cons_of_mem _ hb)).keep sz fun d hl b1 b2=>⟨lm d (by omega) (by omega),rfl⟩,fun b hb=>rt_give (h.rt b (List.mem_cons_of_mem _ hb)) (nt b hb),ni.2,nj.2,fun x hx y hy=>h.dj x (List.mem_cons_of_mem _ hx) y (List.mem_cons_of_mem _ hy),fun b hb p v e=> ?_,h.kf⟩,(hk.sub (fun j hj=>Or.inl hj)).trans (kept_one hg fun j hj=>⟨ym j hj,hp.lt j (Or.inl hj)⟩)⟩
 . have o:O b=3:=by rcases hb with rfl | rfl | rfl;exact h.o3.1;exact h.o3.2.1;exact h.o3.2.2
   exact lm b (by omega) (by omega)
 . obtain ⟨d1,f,d2,d3,d4,d5⟩:=h.dat b (List.mem_cons_of_mem _ hb) p v e
   have ne:f≠a.root:=fun q=>d5 a ma _ _ (by rw [q];exact t4)
   refine ⟨d1,f,d2,?_,fun q=> ?_,fun x hx=>d5 x (List.mem_cons_of_mem _ hx)⟩
   . show Bd.setF s.G a.root none f=some 0
     unfold Bd.setF
     rw [if_neg (by omega)];exact d3
   . rcases q with q | q
     . exact d4 q
     . exact ne q
set_option maxHeartbeats 1000000 in
theorem tdrop_none (tb mb ob n:Nat) (S:Pc.Tg) (s:Int) (hs:(Lit.int .i64 s).wf=true) (hT:S.T s=none) (w:World) (h:Pc.IsTags w tb mb ob n S) :
 Calls Tryz.prog 37 #[pp tb,.int .i64 s] w fun e w'=>e=.returned (.tuple #[])/\w'=w:=by
 have c3:w.cell? ⟨tb,3,none⟩=some (.map (some mb)):=h.cell 3
 obtain ⟨m,hm⟩:=h.tags
 have hl:=hm.look hs
 rw [hT] at hl
 have hl:(Instr.lookup 83 (.map (some mb)) (.int .i64 s) true).run Tryz.prog w=.ok (.tuple #[.int .i64 0,.bool false]) w:=hl
 clear h hm
 go_enter Tryz.func37,Tryz.ntmps37
 go_wp2_with fail
 go_end0
 exact ⟨rfl,rfl⟩
theorem pgs_all {lf:Nat->Option Lf} (h: ∀ x,lf x=none):pgs lf=[]:=by
 have e:lf=fun _=>none:=funext h
 rw [e];exact pgs_none
def Closed (Y:Nat->Prop) (O:Nat->Nat) (n:Nat) (W w':World) (M:Mb) (m:Pm) (s:Ps) (T:Nat->Tl.Ln) (S:Pc.Tg) (k:Nat) (B:List Sr) (r u:Int) (f:Nat):Prop :=
 ∃ s':Ps,Mc Y O n w' M m s' T S B/\Nums m s' k r u f/\s'.q<=s.q+10/\Kx Y W w'
set_option maxHeartbeats 4000000 in
theorem close_none {Y:Nat->Prop} {O:Nat->Nat} {n:Nat} {W:World} {M:Mb} {m:Pm} {s:Ps} {T:Nat->Tl.Ln} {S:Pc.Tg} {a:Sr} {B:List Sr} (h:Mc Y O n W M m s T S (a::B)) (hn:a.ln<=1048600) (hL:a.L=[]) (hl: ∀ x,a.lt x=none) (hall: ∀ x,a.lf x=none) {ro u:Int} {fr:Nat} (hN:Nums m s a.k ro u fr) (hu:1<=u) (wi:(Lit.int .i64 a.id).wf=true) (hT:S.T a.id=none) :
 Calls Tryz.prog 11 #[pp M.mb,.int .i64 a.id] W fun e w'=>e=.returned (.int .i64 0)/\Closed Y O n W w' M m s T S a.k B (ro+1) (u-1) (fr+1):=by
 have ma:=List.mem_cons_self (a:=a) (l:=B)
 have lk:(Instr.lookup 72 (.map (some M.sm)) (.int .i64 a.id) false).run Tryz.prog W=.ok (.pointer (some ⟨a.sb,0,none⟩)) W:=by
  have q:=h.map.look wi
  rw [spF_head] at q;exact q
 have c6:W.cell? ⟨M.mb,6,none⟩=some (.map (some M.sm)):=h.mac.cell 6
 have c3:W.cell? ⟨a.sb,3,none⟩=some (.map (some a.lb)):=(h.sp a ma).blk.cell 3
 have KC:Hid (Calls Tryz.prog 30 #[.map (some a.lb)] W fun e w'=>e=.returned (.func (.func 76) #[] #[.pointer (some ⟨W.heap.size,0,none⟩)])/\w'=(W.alloc (.cells #[.map (some a.lb)] 83))):=keys_any (some a.lb) W
 have PC:Hid (∀ w:World,Blk w M.mb [pp m.rb,pp m.b,pp m.tb,pp M.tl,pp M.tg,.int .i64 M.kf,.map (some M.sm)] 74->_):=fun w hb=>purse_any M.mb m.rb m.b m.tb a.k _ _ _ _ w hb
 have TC:Hid (∀ w:World,Pc.IsTags w M.tg M.tm M.ow n S->Calls Tryz.prog 35 #[pp M.tg,.int .i64 a.id] w fun e w'=>e=.returned (.tuple #[.int .i64 0,.bool false])/\w'=w):=fun w hw=>by
  have q:=Pc.tag_any M.tg M.tm M.ow n S a.id wi w hw
  rw [hT] at q;exact q
 have TD:Hid (∀ w:World,Pc.IsTags w M.tg M.tm M.ow n S->_):=fun w hw=>tdrop_none M.tg M.tm M.ow n S a.id wi hT w hw
 have SC:Hid (Calls Tryz.prog 29 #[.func (.func 76) #[] #[.pointer (some ⟨W.heap.size,0,none⟩)]] (W.alloc (.cells #[.map (some a.lb)] 83)) fun e w'=> ∃ (pf:Option Addr) (cf:Nat),e=.returned (.slice pf 0 cf)/\Below W.heap.size W w'):=by
  refine (sorted_i (h.sp a ma).map hn).mono ?_
  rintro e w' ⟨v,L,he,hA,hM,ho,hb⟩
  obtain rfl:L=[]:=by
   cases L with
   | nil => rfl
   | cons x L => have := (hM x).1 List.mem_cons_self; rw [hl x] at this; cases this
  have ho:Li.OI w' W.heap.size v []:=ho
  obtain ⟨p,c,e1,_⟩:=(Li.ol_ll Li.eI_len ho).form
  exact ⟨p,c,by rw [he,e1];rfl,hb⟩
 have BC:Hid (∀ w:World,Below W.heap.size W w->_):=fun w hb=>borrows_nil (h.below hb) 0 34359738368 hL
 have NC:Hid (∀ (w:World) (pf:Option Addr) (cf:Nat),_):=fun w pf cf=>lends_nil a.sb pf cf w
 have RC:Hid (∀ (w:World) (pf:Option Addr) (cf:Nat),Below W.heap.size W w->_):=fun w pf cf hb=>release_nil (h.below hb) a.id pf cf
 have HM:Hid (Mc Y O n W M m s T S (a::B)):=h
 have WI:Hid ((Lit.int .i64 a.id).wf=true):=wi
 have HA:Hid ((∀ x,a.lf x=none)/\Nums m s a.k ro u fr/\1<=u):=⟨hall,hN,hu⟩
 obtain ⟨s5,hs5⟩: ∃ s5,s5=s:=⟨_,rfl⟩
 clear h hL hl hall hN hu wi hT
 go_enter Tryz.func11,Tryz.ntmps11
 go_wp2_with fail
 refine Calls.mono KC.out ?_
 rintro e w1 ⟨rfl,hu⟩
 subst hu
 clear KC
 go_wp2_with fail
 refine Calls.mono SC.out ?_
 rintro e w2 ⟨pf,cf,rfl,hb2⟩
 have B2:Hid (Below W.heap.size W w2):=hb2
 clear hb2 SC lk c6 c3
 go_wp2_with fail
 refine Calls.mono (BC.out _ B2.out) ?_
 rintro e w3 ⟨rfl,hb3⟩
 have B3:Hid (Below W.heap.size W w3):=below_then B2.out hb3
 clear hb3 B2 BC
 go_wp2_with fail
 refine Calls.mono (NC.out _ pf cf) ?_
 rintro e w4' ⟨rfl,hu⟩
 have hu2:=hu.symm
 subst hu2
 clear hu NC
 go_wp2_with fail
 refine Calls.mono (RC.out _ pf cf B3.out) ?_
 rintro e w5 ⟨rfl,hb5⟩
 have M5:Hid (Mc Y O n w5 M m s5 T S (a::B)/\Nums m s5 a.k ro u fr/\(∀ x,a.lf x=none)/\1<=u/\Kx Y W w5/\s5.q<=s.q+10):=by
  have bb:=below_then B3.out hb5
  rw [hs5]
  exact ⟨HM.out.below bb,HA.out.2.1,HA.out.1,HA.out.2.2,kept_of_below bb (fun j hj=>HM.out.pu.lt j (Or.inl hj)),by omega⟩
 clear hb5 RC B3 HA hs5
 have DC:Hid (∀ w:World,Below w5.heap.size w5 w->Calls Tryz.prog 34 #[pv m a.k,.int .i64 a.root] w fun e w'=>e=.returned (.int .i64 0)/\Pu (fun j=>Y j\/O j≠0) w' m (giveS s5 a.k a.root)/\Kx (fun j=>Y j\/O j≠0) w w'):=fun w hb=>by
  obtain ⟨q1,q2,q3,q4,q5⟩:=M5.out
  exact drop_ok (q1.pu.below hb) (q1.rt _ (List.mem_cons_self ..)) a.k (pgs_all q3) q2.k6 q2.live (by rw [q2.used];exact q4)
 have BS:Hid (Blk w5 M.mb [pp m.rb,pp m.b,pp m.tb,pp M.tl,pp M.tg,.int .i64 M.kf,.map (some M.sm)] 74/\Blk w5 a.sb [.int .i64 a.k,.int .i64 a.root,.slice a.rp a.L.length a.rc,.map (some a.lb)] 87):=⟨M5.out.1.mac,(M5.out.1.sp _ (List.mem_cons_self ..)).blk⟩
 have RR:Hid (O M.mb≠0/\O a.sb≠0):=⟨by rw [HM.out.o1];omega,by rw [(HM.out.sp a ma).o1];omega⟩
 go_upto_region 8 with fail
 refine wp_region_noPanic ?_
 refine wp_region_held_drew (S:=fun cw=>Blk cw M.mb [pp m.rb,pp m.b,pp m.tb,pp M.tl,pp M.tg,.int .i64 M.kf,.map (some M.sm)] 74/\Blk cw a.sb [.int .i64 a.k,.int .i64 a.root,.slice a.rp a.L.length a.rc,.map (some a.lb)] 87) (by kernel_rfl) ?_ (fun hHeld=> ?_)
 . exact BS.out
 have KU:Hid (Below w5.heap.size w5 w5.drew):=below_drew (Below.refl _ _)
 clear BS
 generalize w5.drew=U at hHeld KU |-
 refine tk 0 36 ?_ rfl (Or.inl ⟨by rfl,?_⟩) ?_
 rotate_left
 . intro w hSw;(try dsimp only at hSw);go_simp;(try with_reducible rfl)
 try simp only [Act.put,z1,z2,z3]
 refine tk 1 37 ?_ rfl (Or.inl ⟨by rfl,?_⟩) ?_
 rotate_left
 . intro w hSw;(try dsimp only at hSw);go_simp;(try with_reducible rfl)
 try simp only [Act.put,z1,z2,z3]
 refine tk 2 38 ?_ rfl (Or.inl ⟨by rfl,?_⟩) ?_
 rotate_left
 . intro w hSw;(try dsimp only at hSw);go_simp;(try with_reducible rfl)
 try simp only [Act.put,z1,z2,z3]
 refine tk 3 39 ?_ rfl (Or.inl ⟨by rfl,?_⟩) ?_
 rotate_left
 . intro w hSw;(try dsimp only at hSw);go_simp;(try with_reducible rfl)
 try simp only [Act.put,z1,z2,z3]
 refine tk 4 40 (.int .i64 a.k) rfl (Or.inl ⟨by rfl,?_⟩) ?_
 . intro w hSw;(try dsimp only at hSw);have r:=Blk.cell hSw.2 0;(try go_simp);(try simp [*])
 try simp only [Act.put,z1,z2,z3]
 refine tk 6 42 ?_ rfl (Or.inl ⟨by rfl,?_⟩) ?_
 rotate_left
 . intro w hSw;(try dsimp only at hSw);go_simp;(try with_reducible rfl)
 try simp only [Act.put,z1,z2,z3]
 refine tk 7 43 ?_ rfl (Or.inl ⟨by rfl,?_⟩) ?_
 rotate_left
 . intro w hSw;(try dsimp only at hSw);go_simp;(try with_reducible rfl)
 try simp only [Act.put,z1,z2,z3]
 refine tk 8 44 ?_ rfl (Or.inl ⟨by rfl,?_⟩) ?_
 rotate_left
 . intro w hSw;(try dsimp only at hSw);go_simp;(try with_reducible rfl)
 try simp only [Act.put,z1,z2,z3]
 refine tk 9 45 (.int .i64 a.root) rfl (Or.inl ⟨by rfl,?_⟩) ?_
 . intro w hSw;(try dsimp only at hSw);have r:=Blk.cell hSw.2 1;(try go_simp);(try simp [*])
 try simp only [Act.put,z1,z2,z3]
 refine wpAnyH_ready (rs:=[5]) (by kernel_rfl) (by simp) ?_
 refine AllReadyH.cons (o:=⟨some 41,_,_,_,_,none⟩) rfl (fun K hK=> ?_) AllReadyH.nil
 go_simp
 go_wp2_with (go_at_call 28;refine Calls.mono (PC.out _ hHeld.1) ?_;rintro e u1 ⟨rfl,hb1⟩)
 have KU1:Hid (Below w5.heap.size w5 u1):=below_then KU.out hb1
 refine hK.out _ _ ⟨hHeld.1.below hb1,hHeld.2.below hb1⟩ (fun hHeld2=> ?_)
 clear hK K hHeld hb1 KU
 have hHeld:=hHeld2
 clear hHeld2
 try simp only [Act.put,z1,z2,z3]
 refine wpAnyH_ready (rs:=[10]) (by kernel_rfl) (by simp) ?_
 refine AllReadyH.cons (o:=⟨some 46,_,_,_,_,none⟩) rfl (fun K hK=> ?_) AllReadyH.nil
 go_simp
 go_wp2_with (go_at_call 34;refine Calls.mono (DC.out _ KU1.out) ?_;rintro e u2 ⟨rfl,hp2,hk2⟩)
 have E2:Hid (Pu (fun j=>Y j\/O j≠0) u2 m (giveS s5 a.k a.root)/\Kx (fun j=>Y j\/O j≠0) w5 u2):=⟨hp2,(kept_of_below KU1.out (fun j hj=>M5.out.1.pu.lt j hj)).trans hk2⟩
 refine hK.out _ _ ⟨hHeld.1.kx hk2 (Or.inr RR.out.1),hHeld.2.kx hk2 (Or.inr RR.out.2)⟩ (fun hHeld2=> ?_)
 clear hK K hHeld hp2 hk2 KU1
 have hHeld:=hHeld2
 clear hHeld2
 try simp only [Act.put,z1,z2,z3]
 clear hHeld
 refine wpAnyH_done (by kernel_rfl) ?_ _
 refine NoPanic.normal ?_
 have tg2:Hid (Pc.IsTags u2 M.tg M.tm M.ow n S/\Blk u2 M.mb [pp m.rb,pp m.b,pp m.tb,pp M.tl,pp M.tg,.int .i64 M.kf,.map (some M.sm)] 74):=by
  have h3:=HM.out.o3
  exact ⟨M5.out.1.tgs.kept fun b _ hb=>E2.out.2.block b (Or.inr (by rcases hb with rfl | rfl | rfl;rw [h3.1];omega;rw [h3.2.1];omega;rw [h3.2.2];omega)),M5.out.1.mac.kx E2.out.2 (Or.inr RR.out.1)⟩
 have d4:u2.cell? ⟨M.mb,4,none⟩=some (pp M.tg):=tg2.out.2.cell 4
 have d6:u2.cell? ⟨M.mb,6,none⟩=some (.map (some M.sm)):=tg2.out.2.cell 6
 go_wp2_with fail
 refine Calls.mono (TC.out _ tg2.out.1) ?_
 rintro e u2' ⟨rfl,hu⟩
 have hu2:=hu.symm
 subst hu2
 clear hu TC
 go_wp2_with fail
 refine Calls.mono (TD.out _ tg2.out.1) ?_
 rintro e u2' ⟨rfl,hu⟩
 have hu2:=hu.symm
 subst hu2
 clear hu TD
 have mp2:MapP u2 M.sm n (spF (a::B)):=by
  have q:MapP w5 M.sm n (spF (a::B)):=M5.out.1.map
  exact q.block (E2.out.2.block _ (Or.inr (by rw [HM.out.o4];omega)))
 obtain ⟨u3,hdel,hm3,hg3⟩:=mp2.del (k:=a.id) WI.out 0
 have hdel:(Builtin.delete_ #[72,3] 0 #[.map (some M.sm),.int .i64 a.id]).run Tryz.prog u2=.ok (.tuple #[]) u3:=hdel
 have HE:Hid (Closed Y O n W u3 M m s T S a.k B (ro+1) (u-1) (fr+1)):=by
  obtain ⟨q1,q2,q3,q4,q5,q6⟩:=M5.out
  obtain ⟨k1,k2⟩:=q1.closed E2.out.2 E2.out.1 hg3 hm3
  have ow:=(q1.rt _ (List.mem_cons_self ..)).ow 4 0 a.root (q1.rt _ (List.mem_cons_self ..)).pw.t4
  have gb:=q1.pu.so.gb a.root (by rw [ow.2.1];rfl)
  exact ⟨giveS s5 a.k a.root,k1,q2.give (by omega) ow.2.2 s5.M s5.q,q6,q5.trans k2⟩
 clear mp2 hm3 hg3 E2 tg2 M5 RR
 go_wp2_with fail
 go_returns
 exact ⟨rfl,HE.out⟩
end Go.Proofs.YtajfbieacfjhnaaGreatDoor.Sp
