import Derived.Test.YtokpmclmdobgeaaGreatJYe
import Derived.Test.YtokpmclmdobgeaaGreatKZe
import Derived.Test.YtokpmclmdobgeaaGreatJWe
set_option linter.unusedSimpArgs false
set_option linter.unusedVariables false
set_option maxRecDepth 8000
set_option maxHeartbeats 4000000
open Go.ChangeShapes Go.WideShapes Go.ChangeAt Go.RowKit Go.Maps
namespace Go.Proofs.YtokpmclmdobgeaaGreat.Fl
def wcnt (K:List Int) (m y:Int):Nat:=(K.filter fun p=>p / m==y).length
def wopt (c:Nat):Option Int:=if c=0 then none else some c
theorem wopt_getD (c:Nat):(wopt c).getD 0=c:=by unfold wopt;split <;> simp_all
structure Ways (K:List Int) (F:Int->Option Nat) (G:Wy):Prop where
 nd:K.Nodup
 mem: ∀ p,p∈K↔F p≠none
 g9: ∀ y,G 9 y=wopt (wcnt K 512 y)
 g18: ∀ y,G 18 y=wopt (wcnt K 262144 y)
 g27: ∀ y,G 27 y=wopt (wcnt K 134217728 y)
theorem wcnt_cons (x:Int) (K:List Int) (m y:Int):wcnt (x::K) m y=wcnt K m y+if x / m=y then 1 else 0:=by
 unfold wcnt
 rw [List.filter_cons]
 by_cases c:x / m=y
 . rw [if_pos (by simp [c]),if_pos c,List.length_cons]
 . rw [if_neg (by simp [c]),if_neg c];rfl
theorem wcnt_perm {K K':List Int} (h:K.Perm K') (m y:Int):wcnt K m y=wcnt K' m y:=(h.filter _).length_eq
theorem wcnt_erase {x:Int} {K:List Int} (h:x∈K) (m y:Int):wcnt K m y=wcnt (K.erase x) m y+if x / m=y then 1 else 0:=by
 rw [wcnt_perm (List.perm_cons_erase h),wcnt_cons]
theorem wcnt_pos {x:Int} {K:List Int} (h:x∈K) (m:Int):1<=wcnt K m (x / m):=by
 rw [wcnt_erase h,if_pos rfl];omega
theorem bump_at (G:Wy) (a b x y:Int):bump G a b x y=if x=a/\y=b then some ((G a b).getD 0+1) else G x y:=by
 unfold bump;rw [set_set];rfl
theorem sink_at (G:Wy) (a b x y:Int):sink G a b x y=if x=a/\y=b then (if (G a b).getD 0=1 then none else some ((G a b).getD 0-1)) else G x y:=by
 unfold sink
 split
 . unfold Wy.set;split <;> simp_all
 . unfold Wy.set;split <;> simp_all
theorem wopt_more (c:Nat):some ((wopt c).getD 0+1)=wopt (c+1):=by rw [wopt_getD];unfold wopt;rw [if_neg (by omega)];simp
theorem wopt_less (c:Nat) (h:1<=c):(if (wopt c).getD 0=1 then none else some ((wopt c).getD 0-1))=wopt (c-1):=by
 rw [wopt_getD]
 unfold wopt
 by_cases e:c=1
 . subst e;simp
 . rw [if_neg (by omega),if_neg (by omega)];congr 1;omega
theorem Ways.add {K:List Int} {F:Int->Option Nat} {G:Wy} (h:Ways K F G) {x:Int} (hx:F x=none) (c:Nat):Ways (x::K) (put F x (some c)) (bumpN (x / 512) (x / 262144) (x / 134217728) G 3):=by
 have nx:x∉K:=fun e=>(h.mem x).1 e hx
 refine ⟨List.nodup_cons.2 ⟨nx,h.nd⟩,fun p=> ?_,fun y=> ?_,fun y=> ?_,fun y=> ?_⟩
 . rw [List.mem_cons]
   unfold put
   by_cases e:p=x
   . rw [if_pos e];simp [e]
   . rw [if_neg e,h.mem p];simp [e]
 all_goals
  show bump (bump (bump G 9 (x / 512)) 18 (x / 262144)) 27 (x / 134217728) _ y=_
  simp only [bump_at,h.g9,h.g18,h.g27,wcnt_cons]
  simp only [show ((9:Int)=27)=False by simp,show ((9:Int)=18)=False by simp,show ((18:Int)=27)=False by simp,show ((18:Int)=9)=False by simp,show ((27:Int)=9)=False by simp,show ((27:Int)=18)=False by simp,false_and,true_and,if_false]
 . by_cases e:y=x / 512
   . rw [if_pos e,if_pos e.symm,<- e,wopt_more]
   . rw [if_neg e,if_neg (Ne.symm e)];rfl
 . by_cases e:y=x / 262144
   . rw [if_pos e,if_pos e.symm,<- e,wopt_more]
   . rw [if_neg e,if_neg (Ne.symm e)];rfl
 . by_cases e:y=x / 134217728
   . rw [if_pos e,if_pos e.symm,<- e,wopt_more]
   . rw [if_neg e,if_neg (Ne.symm e)];rfl
theorem Ways.del {K:List Int} {F:Int->Option Nat} {G:Wy} (h:Ways K F G) {x:Int} (hx:F x≠none):Ways (K.erase x) (Fl.put F x none) (sinkN (x / 512) (x / 262144) (x / 134217728) G 3):=by
 have mx:x∈K:=(h.mem x).2 hx
 have w9:=wcnt_pos mx 512;have w18:=wcnt_pos mx 262144;have w27:=wcnt_pos mx 134217728
 refine ⟨h.nd.erase x,fun p=> ?_,fun y=> ?_,fun y=> ?_,fun y=> ?_⟩
 . rw [h.nd.mem_erase_iff,h.mem p]
   unfold Fl.put
   by_cases e:p=x
   . rw [if_pos e];simp [e]
   . rw [if_neg e];simp [e]
 . have q:=wcnt_erase mx 512 y
   show sink (sink (sink G 9 (x / 512)) 18 (x / 262144)) 27 (x / 134217728) 9 y=_
   rw [sink_other _ _ _ _ _ kh,sink_other _ _ _ _ _ kh,sink_at,h.g9,h.g9]
   by_cases e:y=x / 512
   . subst e;rw [if_pos ⟨rfl,rfl⟩,wopt_less _ w9];rw [if_pos rfl] at q;congr 1;omega
   . rw [if_neg (fun c=>e c.2)];rw [if_neg (Ne.symm e)] at q;rw [q];rfl
 . have q:=wcnt_erase mx 262144 y
   show sink (sink (sink G 9 (x / 512)) 18 (x / 262144)) 27 (x / 134217728) 18 y=_
   rw [sink_other _ _ _ _ _ kh,sink_at,sink_other _ _ _ _ _ kh,sink_other _ _ _ _ _ kh,h.g18,h.g18]
   by_cases e:y=x / 262144
   . subst e;rw [if_pos ⟨rfl,rfl⟩,wopt_less _ w18];rw [if_pos rfl] at q;congr 1;omega
   . rw [if_neg (fun c=>e c.2)];rw [if_neg (Ne.symm e)] at q;rw [q];rfl
 . have q:=wcnt_erase mx 134217728 y
   show sink (sink (sink G 9 (x / 512)) 18 (x / 262144)) 27 (x / 134217728) 27 y=_
   rw [sink_at,sink_other _ _ _ _ _ kh,sink_other _ _ _ _ _ kh,sink_other _ _ _ _ _ kh,sink_other _ _ _ _ _ kh,h.g27,h.g27]
   by_cases e:y=x / 134217728
   . subst e;rw [if_pos ⟨rfl,rfl⟩,wopt_less _ w27];rw [if_pos rfl] at q;congr 1;omega
   . rw [if_neg (fun c=>e c.2)];rw [if_neg (Ne.symm e)] at q;rw [q];rfl
theorem Ways.wayed {K:List Int} {F:Int->Option Nat} {G:Wy} (h:Ways K F G) {x:Int} (hx:F x≠none):Wayed G x:=by
 have mx:x∈K:=(h.mem x).2 hx
 have w9:=wcnt_pos mx 512;have w18:=wcnt_pos mx 262144;have w27:=wcnt_pos mx 134217728
 refine ⟨?_,?_,?_⟩
 . rw [h.g9,wopt_getD];omega
 . rw [h.g18,wopt_getD];omega
 . rw [h.g27,wopt_getD];omega
def unStep (x:Int) (s:(Nat->Qo.Nd) × Pr):(Nat->Qo.Nd) × Pr:=if s.2.F x=none then s else (Qo.creditT s.1 s.2.k (costD 1 (x / 512) (x / 262144) (x / 134217728) s.2.G 3),{ s.2 with F:=put s.2.F x none,G:=sinkN (x / 512) (x / 262144) (x / 134217728) s.2.G 3 })
def unRun (f:Int) (s:(Nat->Qo.Nd) × Pr):Nat->(Nat->Qo.Nd) × Pr
 | 0 => s
 | m + 1 => unStep (f + m) (unRun f s m)
structure Pr.like (P P':Pr):Prop where
 pb:P'.pb=P.pb
 lb:P'.lb=P.lb
 wb:P'.wb=P.wb
 par:P'.par=P.par
 k:P'.k=P.k
 st:P'.st=P.st
 rp:P'.rp=P.rp
 rc:P'.rc=P.rc
 L:P'.L=P.L
theorem Pr.like.refl (P:Pr):P.like P:=⟨rfl,rfl,rfl,rfl,rfl,rfl,rfl,rfl,rfl⟩
theorem Pr.like.trans {P Q R:Pr} (h:P.like Q) (k:Q.like R):P.like R:=⟨k.pb.trans h.pb,k.lb.trans h.lb,k.wb.trans h.wb,k.par.trans h.par,k.k.trans h.k,k.st.trans h.st,k.rp.trans h.rp,k.rc.trans h.rc,k.L.trans h.L⟩
theorem unStep_like (x:Int) (s:(Nat->Qo.Nd) × Pr):s.2.like (unStep x s).2:=by
 unfold unStep
 split
 . exact Pr.like.refl _
 . exact ⟨rfl,rfl,rfl,rfl,rfl,rfl,rfl,rfl,rfl⟩
theorem unRun_like (f:Int) (s:(Nat->Qo.Nd) × Pr): ∀ m,s.2.like (unRun f s m).2
 | 0 => Pr.like.refl _
 | m + 1 => (unRun_like f s m).trans (unStep_like _ _)
theorem unStep_ways (x:Int) (s:(Nat->Qo.Nd) × Pr) {K:List Int} (h:Ways K s.2.F s.2.G): ∃ K',Ways K' (unStep x s).2.F (unStep x s).2.G:=by
 unfold unStep
 split
 . exact ⟨K,h⟩
 . rename_i c;exact ⟨_,h.del c⟩
theorem unRun_ways (f:Int) (s:(Nat->Qo.Nd) × Pr) {K:List Int} (h:Ways K s.2.F s.2.G): ∀ m,∃ K',Ways K' (unRun f s m).2.F (unRun f s m).2.G
 | 0 => ⟨K, h⟩
 | m + 1 => by obtain ⟨K', h'⟩ := unRun_ways f s h m; exact unStep_ways _ _ h'
theorem unRun_F (f:Int) (s:(Nat->Qo.Nd) × Pr): ∀ m x,(unRun f s m).2.F x=if f<=x/\x<f+m then none else s.2.F x
 | 0, x => by rw [if_neg (by omega)]; rfl
 | m + 1, x => by
  have ih:=unRun_F f s m x
  show (unStep (f+m) (unRun f s m)).2.F x=_
  unfold unStep
  split
  . rename_i c
    rw [ih]
    by_cases e:x=f+m
    . rw [unRun_F f s m,if_neg (by omega)] at c
      rw [if_neg (by omega),if_pos (by omega),e];exact c
    . by_cases d:f<=x/\x<f+m
      . rw [if_pos d,if_pos (by omega)]
      . rw [if_neg d,if_neg (by omega)]
  . show put _ _ _ x=_
    unfold put
    by_cases e:x=f+m
    . rw [if_pos e,if_pos (by omega)]
    . rw [if_neg e,ih]
      by_cases d:f<=x/\x<f+m
      . rw [if_pos d,if_pos (by omega)]
      . rw [if_neg d,if_neg (by omega)]
section
variable {O:Nat->Nat} {n:Nat} {W:World} {M:Mb} {Q:Ca.Qu} {T:Nat->Qo.Nd} {root:Int} {I:Nat->Sh.Gr} {A:Nat->Option Pr} {B:Nat->Nat->Int}
theorem Mn.relist (h:Mn O n W M Q T root I A B) {i:Nat} {P:Pr} (hi:i<16) (hA:A i=some P) (base:Nat) (ho: ∀ b,base<=b->b<W.heap.size->O b=0) {p':Option Addr} {c':Nat} {L':List Re.Rg} (hl:Re.IsL W base p' L') (hc:L'.length<=c') (h1:L'.length<=100) :
 ∃ O',Mn O' n (W.setCell ⟨P.pb,15,none⟩ (.slice p' L'.length c')) M Q T root I (setA A i (some { P with rp:=p',rc:=c',L:=L' })) B/\(∀ j,j<base->O' j=O j)/\Ko O W (W.setCell ⟨P.pb,15,none⟩ (.slice p' L'.length c')):=by
 have r:=h.prs i P hi hA
 have hg:=grown_setCell1 W P.pb 15 (.slice p' L'.length c')
 have bs:=r.pro.set 15 (.slice p' L'.length c')
 generalize W.setCell ⟨P.pb,15,none⟩ (.slice p' L'.length c')=V at hg bs |-
 obtain ⟨O',eO,eo,nO,oO⟩: ∃ O':Nat->Nat,(∀ j,j<base->O' j=O j)/\(∀ j,O j≠0->O' j=O j)/\(∀ j,O' j≠0->O j=0->j<W.heap.size/\O' j=16+8*i+3)/\(∀ g,p'=some ⟨g,0,none⟩->0<L'.length->O' g=16+8*i+3):=by
  by_cases c:0<L'.length
  . obtain ⟨g,e1,l1,l2,_⟩:=hl 0 c
    refine ⟨fun j=>if j=g then 16+8*i+3 else O j,fun j hj=>if_neg (by omega),fun j hj=>if_neg (fun e=>hj (by rw [e];exact ho g l1 l2)),fun j hn h0=> ?_,fun g' e2 _=> ?_⟩
    . by_cases e:j=g
      . exact ⟨by omega,if_pos e⟩
      . have hn:(if j=g then 16+8*i+3 else O j)≠0:=hn
        rw [if_neg e] at hn;exact absurd h0 hn
    . rw [e1] at e2;cases e2;exact if_pos rfl
  . exact ⟨O,fun _ _=>rfl,fun _ _=>rfl,fun j hn h0=>absurd h0 hn,fun _ _ c'=>absurd c' c⟩
 have lm: ∀ b,O b≠16+8*i->b<W.heap.size->V.heap[b]? =W.heap[b]? :=fun b hs hl=>hg.block b hl (fun e=>hs (by rw [sia e];exact r.o0))
 have hs:W.heap.size<=V.heap.size:=hg.size
 have a3:=h.o3;have b0:=r.o0;have b1:=r.o1;have b2:=r.o2
 have l3:=h.lt M.tb (by omega);have lb:=h.lt P.lb (by omega);have lw:=h.lt P.wb (by omega)
 have nine: ∀ c,O' c=9->O c=9:=fun c e=>by
  by_cases d:O c=0
  . have:=(nO c (by omega) d).2;omega
  . rw [<- eo c d];exact e
 refine ⟨O',h.one (P':={ P with rp:=p',rc:=c',L:=L' }) hi hA rfl (Nat.le_refl _) hs eo (fun j h0 _ _ hr=>lm j (by omega) (h.lt j h0)) (tree_block h.tre hs (lm _ (by omega) l3)) h.goo ⟨bs,list_block (hl.weak (Nat.zero_le _)) hs fun g eg lg hl'=> ?_,hc,h1,r.led.block (lm _ (by omega) lb),r.way.block (lm _ (by omega) lw),r.wbd,fun p c e=> ?_,?_,?_,?_,oO⟩ (fun c hc=> ?_) (fun j hj=> ?_),eO,kept_grown hg (fun j hj=>⟨ne_O (O:=O) (by have:=hj.1;omega),hj.2⟩)⟩
 . obtain ⟨g',e',l1,l2,_⟩:=hl 0 hl'
   have e':p'=some ⟨g',0,none⟩:=e'
   have eg:p'=some ⟨g,0,none⟩:=eg
   rw [e'] at eg
   have gg:g=g':=by cases eg;rfl
   exact lm g (by have:=ho g (by omega) (by omega);omega) lg
 . have:=r.con p c e;rw [eo c (by omega)];exact this
 . show O' P.pb=_;rw [eo _ (by omega)];exact b0
 . show O' P.lb=_;rw [eo _ (by omega)];exact b1
 . show O' P.wb=_;rw [eo _ (by omega)];exact b2
 . have:=nine c hc
   have hl9:=h.lt c (by omega)
   exact ⟨page_block (h.pag c this).1 (lm c (by omega) hl9),(h.pag c this).2⟩
 . by_cases c:O j=0
   . exact nla (nO j hj c).1 hs
   . exact nla (h.lt j c) hs
theorem cut_new (p:Option Addr) (c:Nat) (L:List Re.Rg) (hL:L.length<=100) (f t:Int) (E:Int) (N:List Re.Rg) (hE:Re.errA (Re.checkN L f t) (Re.chg (fun _=>Re.Rg.zero) f t L)=E) (hM:Re.outL (Re.checkN L f t) (Re.chg (fun _=>Re.Rg.zero) f t L)=N) (w:World) (h:Re.IsL w 0 p L) (base:Nat) (hb:base<=w.heap.size) :
 Calls Tryz.prog 78 #[.slice p L.length c,.agg #[.int .i64 f,.int .i64 t]] w fun e w'=> ∃ p' c',e=.returned (.tuple #[.slice p' N.length c',.int .i64 E])/\N.length<=c'/\Re.IsL w' base p' N/\bc w w' :=
 (Re.cut_any 0 p c L hL f t w h).mono fun e w' ⟨v,er,h1,h2,h3⟩=>by
  obtain ⟨k1,p',c',k2,k3,k4⟩:=Re.ans_readb h2
  rw [hE] at k1;rw [hM] at k2 k3 k4
  exact ⟨p',c',by rw [h1,k1,k2],k3,k4.weak hb,h3⟩
theorem prot_new (p:Option Addr) (c:Nat) (L:List Re.Rg) (hL:L.length<=100) (f t:Int) (a b d:Bool) (E:Int) (N:List Re.Rg) (hE:Re.errA (Re.protN L f t) (Re.chg (fun r=>r.may a b d) f t L)=E) (hM:Re.outL (Re.protN L f t) (Re.chg (fun r=>r.may a b d) f t L)=N) (w:World) (h:Re.IsL w 0 p L) (base:Nat) (hb:base<=w.heap.size) :
 Calls Tryz.prog 82 #[.slice p L.length c,.agg #[.int .i64 f,.int .i64 t],.agg #[.bool a,.bool b,.bool d]] w fun e w'=> ∃ p' c',e=.returned (.tuple #[.slice p' N.length c',.int .i64 E])/\N.length<=c'/\Re.IsL w' base p' N/\bc w w' :=
 (Re.prot_any 0 p c L hL f t a b d w h).mono fun e w' ⟨v,er,h1,h2,h3⟩=>by
  obtain ⟨k1,p',c',k2,k3,k4⟩:=Re.ans_readb h2
  rw [hE] at k1;rw [hM] at k2 k3 k4
  exact ⟨p',c',by rw [h1,k1,k2],k3,k4.weak hb,h3⟩
theorem Mn.unmap (h:Mn O n W M Q T root I A B) {i:Nat} {P:Pr} (hi:i<16) (hA:A i=some P) (f t:Int) (k3 k4 k5:Bool) (ad sz x k6 k7 k8 k9:Int) (m:Nat) (E:Int) (L':List Re.Rg) (hE:Re.errA (Re.checkN P.L f t) (Re.chg (fun _=>Re.Rg.zero) f t P.L)=E) (hM:Re.outL (Re.checkN P.L f t) (Re.chg (fun _=>Re.Rg.zero) f t P.L)=L') (BB LL:Bool) (hB:borB P.L f t=BB) (hLE:lendsB I (i:Nat) f t=LL) (hN:E=0->Re.NumL P.L) (hp:E=0->BB=false->LL=false->L'.length<=100/\(∃ K,Ways K P.F P.G)/\0<=f/\t=f+m/\m<=65536/\t<=34359738368/\n<100000000000) :
 Calls Tryz.prog 61 #[pp M.mb,.int .i64 (i:Nat),.agg (sq 2 f t k3 k4 k5 ad sz x k6 k7 k8 k9)] W fun e w'=>Rd (E=0) (Rd (BB=true) (e=.returned (.int .i64 11)/\bc W w') (Rd (LL=true) (e=.returned (.int .i64 11)/\bc W w') (e=.returned (.int .i64 0)/\ ∃ n' p' c',n'<=n+6*m/\Tx O W (fun O' V=>Mn O' n' V M Q (unRun f (T,P) m).1 root I (setA A i (some { (unRun f (T,P) m).2 with rp:=p',rc:=c',L:=L' })) B) w'))) (e=.returned (.int .i64 E)/\bc W w'):=by
 have HN:Hid (E=0->Re.NumL P.L):=hN
 have HB:Hid (borB P.L f t=BB):=hB
 have HLE:Hid (lendsB I (i:Nat) f t=LL):=hLE
 have HPR:Hid (E=0->BB=false->LL=false->L'.length<=100/\(∃ K,Ways K P.F P.G)/\0<=f/\t=f+m/\m<=65536/\t<=34359738368/\n<100000000000):=hp
 obtain ⟨PO,hPO⟩: ∃ PO:Ending->World->Prop,PO=fun e w'=>Rd (E=0) (Rd (BB=true) (e=.returned (.int .i64 11)/\bc W w') (Rd (LL=true) (e=.returned (.int .i64 11)/\bc W w') (e=.returned (.int .i64 0)/\ ∃ n' p' c',n'<=n+6*m/\Tx O W (fun O' V=>Mn O' n' V M Q (unRun f (T,P) m).1 root I (setA A i (some { (unRun f (T,P) m).2 with rp:=p',rc:=c',L:=L' })) B) w'))) (e=.returned (.int .i64 E)/\bc W w'):=⟨_,rfl⟩
 rw [<- hPO]
 have HPO:Hid (∀ e w',Rd (E=0) (Rd (BB=true) (e=.returned (.int .i64 11)/\bc W w') (Rd (LL=true) (e=.returned (.int .i64 11)/\bc W w') (e=.returned (.int .i64 0)/\ ∃ n' p' c',n'<=n+6*m/\Tx O W (fun O' V=>Mn O' n' V M Q (unRun f (T,P) m).1 root I (setA A i (some { (unRun f (T,P) m).2 with rp:=p',rc:=c',L:=L' })) B) w'))) (e=.returned (.int .i64 E)/\bc W w')->PO e w'):=fun e w' z=>by rw [hPO];exact z
 clear hPO hN hB hLE hp
 have HM:Hid (Mn O n W M Q T root I A B):=h
 have HI:Hid (i<16/\A i=some P):=⟨hi,hA⟩
 have HP:Hid (IsPr O n i W P):=h.prs i P hi hA
 have RC:Hid (∀ w:World,bc W w->Calls Tryz.prog 78 #[.slice P.rp P.L.length P.rc,.agg #[.int .i64 f,.int .i64 t]] w fun e w'=> ∃ p' c',e=.returned (.tuple #[.slice p' L'.length c',.int .i64 E])/\L'.length<=c'/\Re.IsL w' W.heap.size p' L'/\bc w w'):=fun w hb=>cut_new P.rp P.rc P.L HP.out.few f t E L' hE hM w (HP.out.lis.below hb) W.heap.size hb.size
 have G0:Hid (bc W (W.alloc (.cells (sq 2 f t k3 k4 k5 ad sz x k6 k7 k8 k9) 70))/\Blk (W.alloc (.cells (sq 2 f t k3 k4 k5 ad sz x k6 k7 k8 k9) 70)) W.heap.size (su 2 f t k3 k4 k5 ad sz x k6 k7 k8 k9) 70/\Blk (W.alloc (.cells (sq 2 f t k3 k4 k5 ad sz x k6 k7 k8 k9) 70)) P.pb P.enc 88):=⟨baa,Blk.made _ _ _,HP.out.pro.below baa⟩
 clear h hE hM hi hA
 go_enter Tryz.func61,Tryz.ntmps61
 go_upto_region 1 with fail
 generalize (W.alloc (.cells (sq 2 f t k3 k4 k5 ad sz x k6 k7 k8 k9) 70))=W1 at G0 |-
 obtain ⟨b1,hb1⟩: ∃ b1,b1=W.heap.size:=⟨_,rfl⟩
 have G1:Hid (bc W W1/\Blk W1 b1 (su 2 f t k3 k4 k5 ad sz x k6 k7 k8 k9) 70/\Blk W1 P.pb P.enc 88):=kt1
 have NB:Hid (W.heap.size<=b1):=ks
 rw [<- hb1]
 clear hb1 G0
 have lk:=(HM.out.below G1.out.1).proc HI.out.1 HI.out.2
 have c3:W1.cell? ⟨M.mb,1538,none⟩=some (.map (some M.pm)):=(HM.out.below G1.out.1).mod.2.2.1
 go_upto_region 2 with fail
 clear lk c3
 refine hda (fun cw=>bc W1 cw) (below_drew (Below.refl _ _)) fun hHeld=> ?_
 generalize W1.drew=U at hHeld |-
 refine tma 0 18 rfl ?_
 refine tma 1 19 rfl ?_
 refine tma 2 20 rfl ?_
 refine tla 3 21 (.slice P.rp P.L.length P.rc) rfl ?_ ?_
 . intro w hSw;(try dsimp only at hSw);have q:=G1.out.2.2.below hSw;have r:w.cell? ⟨P.pb,15,none⟩=some (.slice P.rp P.L.length P.rc):=q.cell 15;(try go_simp);(try simp [*])
 refine tma 4 22 rfl ?_
 refine tla 5 23 (.agg #[.int .i64 f,.int .i64 t]) rfl ?_ ?_
 . intro w hSw;(try dsimp only at hSw);have q:=G1.out.2.1.below hSw;have r0:=q.cell 1;have r1:=q.cell 2;(try go_simp);(try simp [*])
 refine rda 6 ⟨some 24,_,_,_,_,none⟩ rfl fun K hK=> ?_
 go_simp
 go_wp2_with (go_at_call 78;refine Calls.mono (RC.out _ (below_then G1.out.1 hHeld)) ?_;rintro e u1 ⟨p',c',rfl,h6a,h6b,hb⟩)
 have L6:Hid (L'.length<=c'/\Re.IsL u1 W.heap.size p' L'):=⟨h6a,h6b⟩
 clear h6a h6b
 refine hK.out _ _ (below_then hHeld hb) ?_
 clear hK K hHeld
 intro hHeld
 try simp only [Act.put,zaa,zba,zca]
 refine tma 7 17 rfl ?_
 refine tma 8 25 rfl ?_
 refine tma 9 26 rfl ?_
 refine tma 10 8 rfl ?_
 refine tma 11 9 rfl ?_
 have KE:Hid (bc W1 u1):=hHeld
 clear hHeld
 refine wpAnyH_done kc ?_ _
 refine NoPanic.normal ?_
 have G3:Hid (bc W u1/\Blk u1 b1 (su 2 f t k3 k4 k5 ad sz x k6 k7 k8 k9) 70):=⟨below_then G1.out.1 KE.out,G1.out.2.1.below KE.out⟩
 clear KE G1 RC
 by_cases E0:E=0
 rotate_left
 . have d1:decide (E=0)=false:=by simp [E0]
   have d2:(E==0)=false:=by simp [E0]
   have d3:(E != 0)=true:=by simp [E0]
   have NE:Hid (¬ E=0):=E0
   clear E0
   go_wp2_with fail
   exact HPO.out _ _ (Rd.n NE.out ⟨rfl,G3.out.1⟩)
 subst E0
 have y1:u1.cell? ⟨b1,1,none⟩=some (.int .i64 f):=G3.out.2.cell 1
 have y2:u1.cell? ⟨b1,2,none⟩=some (.int .i64 t):=G3.out.2.cell 2
 have BC:Hid (∀ w,bc W w->Calls Tryz.prog 79 #[pp P.pb,.agg #[.int .i64 f,.int .i64 t]] w (re (.bool BB) w)):=fun w hb=>by
  have q:=borrows_any ((HM.out.below hb).prs i P HI.out.1 HI.out.2) (HN.out (by trivial)) f t
  rw [HB.out] at q;exact q
 go_wp2_with fail
 refine Calls.mono (BC.out _ G3.out.1) ?_
 rintro e u2 ⟨rfl,hb2⟩
 have G4:Hid (bc W u2/\Blk u2 b1 (su 2 f t k3 k4 k5 ad sz x k6 k7 k8 k9) 70):=⟨below_then G3.out.1 hb2,G3.out.2.below hb2⟩
 have L4:Hid (L'.length<=c'/\Re.IsL u2 W.heap.size p' L'):=⟨L6.out.1,L6.out.2.below hb2⟩
 clear hb2 G3 BC L6 y1 y2
 cases BB
 rotate_left
 . go_wp2_with fail
   exact HPO.out _ _ (Rd.t (Rd.t ⟨rfl,G4.out.1⟩))
 have y1:u2.cell? ⟨b1,1,none⟩=some (.int .i64 f):=G4.out.2.cell 1
 have y2:u2.cell? ⟨b1,2,none⟩=some (.int .i64 t):=G4.out.2.cell 2
 have EC:Hid (∀ w,bc W w->Calls Tryz.prog 80 #[pp M.mb,.int .i64 (i:Nat),.agg #[.int .i64 f,.int .i64 t]] w (re (.bool LL) w)):=fun w hb=>by
  have q:=(HM.out.below hb).lends (i:Nat) f t
  rw [HLE.out] at q;exact q
 go_wp2_with fail
 refine Calls.mono (EC.out _ G4.out.1) ?_
 rintro e u3 ⟨rfl,hb3⟩
 have G5:Hid (bc W u3/\Blk u3 b1 (su 2 f t k3 k4 k5 ad sz x k6 k7 k8 k9) 70):=⟨below_then G4.out.1 hb3,G4.out.2.below hb3⟩
 have L5:Hid (L'.length<=c'/\Re.IsL u3 W.heap.size p' L'):=⟨L4.out.1,L4.out.2.below hb3⟩
 clear hb3 G4 EC L4 y1 y2
 cases LL
 rotate_left
 . go_wp2_with fail
   exact HPO.out _ _ (Rd.t (Rd.f (Rd.t ⟨rfl,G5.out.1⟩)))
 have H1:Hid (L'.length<=100):=(HPR.out (by trivial) (by trivial) (by trivial)).1
 have HR:Hid (0<=f/\t=f+m/\m<=65536/\t<=34359738368/\n<100000000000):=(HPR.out (by trivial) (by trivial) (by trivial)).2.2
 have HW:Hid (∀ k,∃ K,Ways K (unRun f (T,P) k).2.F (unRun f (T,P) k).2.G):=by
  obtain ⟨K,hK⟩:=(HPR.out (by trivial) (by trivial) (by trivial)).2.1
  exact fun k=>unRun_ways f (T,P) hK k
 have OB:Hid (∀ b,W.heap.size<=b->O b=0):=fun b hb=>bca fun hh=>by have:=HM.out.lt b hh;omega
 have M0:Hid (Mn O n u3 M Q T root I A B):=HM.out.below G5.out.1
 have y1:u3.cell? ⟨b1,1,none⟩=some (.int .i64 f):=G5.out.2.cell 1
 go_wp2_with fail
 clear y1
 go_loopw [10] (fun x V=> ∃ k:Nat,k<=m/\x=.int .i64 (f+k)/\Hid (∃ n',n'<=n+6*k/\Mn O n' V M Q (unRun f (T,P) k).1 root I (setA A i (some (unRun f (T,P) k).2)) B/\Ko O u3 V)) (fun x _=>(t-intOf x).toNat)
 case atStart=>exact ⟨0,by omega,by simp,n,by omega,by show Mn O n u3 M Q T root I (setA A i (some P)) B;rw [setA_id HI.out.2];exact M0.out,Kept.refl _ _⟩
 case round =>
  obtain ⟨k,hk,rfl,hst⟩:=hrel
  have hr:=HR.out
  have ww:IntKind.i64.wrap (f+k+1)=f+((k+1:Nat):Int):=km1
  have hr2:0<=f+(k:Int)/\f+(k:Int)<=34359738368:=by omega
  obtain ⟨n',hn',hm',hko⟩:=hst.out
  have BK:Hid (Blk wr b1 (su 2 f t k3 k4 k5 ad sz x k6 k7 k8 k9) 70):=hko.blk G5.out.2 (OB.out b1 NB.out)
  have y2:wr.cell? ⟨b1,2,none⟩=some (.int .i64 t):=BK.out.cell 2
  have UN:Hid (unRun f (T,P) (k+1)=unStep (f+k) (unRun f (T,P) k)):=rfl
  have LI:Hid (P.like (unRun f (T,P) k).2):=unRun_like f (T,P) k
  have WY:=HW.out k
  by_cases hlt:k<m
  . have hd:decide (f+(k:Int)<t)=true:=by simp;omega
    obtain ⟨⟨T',P'⟩,hs⟩: ∃ s,(unRun f (T,P) k)=s:=⟨_,rfl⟩
    rw [hs] at UN LI hm' WY
    have li:=LI.out
    have M4:Hid (Mn O n' wr M Q T' root I (setA A i (some P')) B/\Ko O u3 wr/\n'<=n+6*k):=⟨hm',hko,hn'⟩
    have PR:=M4.out.1.prs i P' HI.out.1 (setA_same _ _ _)
    have c16:wr.cell? ⟨P.pb,16,none⟩=some (.map (some P'.lb)):=by
     have:=PR.pro.cell 16
     rw [li.pb] at this;exact this
    have lpp:P.pb<wr.heap.size:=by have:=PR.pro.lt;rw [li.pb] at this;exact this
    have l0:=PR.led.look (k:=f+(k:Int)) (wf64 (by omega) (by omega))
    clear hst hm' hko hn' hs hr
    cases hF:P'.F (f+k) with
    | none =>
     rw [hF] at l0
     have lk:(Instr.lookup 85 (.map (some P'.lb)) (.int .i64 (f+(k:Int))) false).run Tryz.prog wr=.ok (.pointer none) wr:=l0
     have EU:unRun f (T,P) (k+1)=(T',P'):=by rw [UN.out];unfold unStep;rw [if_pos hF]
     have HE:Hid (∃ n',n'<=n+6*(k+1)/\Mn O n' wr M Q (unRun f (T,P) (k+1)).1 root I (setA A i (some (unRun f (T,P) (k+1)).2)) B/\Ko O u3 wr):=by
      show ∃ n',_
      rw [EU];exact ⟨n',by have:=M4.out.2.2;omega,M4.out.1,M4.out.2.1⟩
     clear EU l0 hF li PR M4 WY UN LI BK
     go_wp2_with fail
     go_roundw
     case rel=>exact ⟨k+1,by omega,by go_num,HE⟩
     case measure=>have hr:=HR.out;simp [intOf];omega
    | some cc =>
     rw [hF] at l0
     have lk:(Instr.lookup 85 (.map (some P'.lb)) (.int .i64 (f+(k:Int))) false).run Tryz.prog wr=.ok (pp cc) wr:=l0
     have EU:unRun f (T,P) (k+1)=(Qo.creditT T' P'.k (costD 1 ((f+k) / 512) ((f+k) / 262144) ((f+k) / 134217728) P'.G 3),{ P' with F:=put P'.F (f+k) none,G:=sinkN ((f+k) / 512) ((f+k) / 262144) ((f+k) / 134217728) P'.G 3 }):=by rw [UN.out];unfold unStep;rw [if_neg (by rw [hF];simp)]
     have UC:Hid (Calls Tryz.prog 81 #[pp M.mb,pp P.pb,.int .i64 (f+(k:Int)),.int .i64 0] wr fun e w'=>e=.returned (.tuple #[])/\Hid (∃ n',n'<=n+6*(k+1)/\Mn O n' w' M Q (unRun f (T,P) (k+1)).1 root I (setA A i (some (unRun f (T,P) (k+1)).2)) B/\Ko O u3 w')):=by
      obtain ⟨K,hK⟩:=WY
      have hr:=HR.out
      have m4:=M4.out.2.2
      have q:=M4.out.1.unlead HI.out.1 (setA_same _ _ _) (f+k) hr2.1 (by omega) 0 1 (Or.inl ⟨rfl,rfl⟩) (by omega) (hK.wayed (by rw [hF];simp))
      rw [show pp P'.pb=pp P.pb by rw [li.pb]] at q
      refine Calls.mono q ?_
      rintro e w' ⟨he,h1,h2⟩
      rw [setA_set] at h1
      refine ⟨he,n'+6,by omega,?_,M4.out.2.1.trans (h2.sub fun j hj=>⟨hj.1,nla hj.2 M4.out.2.1.size⟩)⟩
      rw [EU];exact h1
     clear EU l0 hF li PR M4 WY UN LI BK
     go_wp2_with fail
     refine Calls.mono UC.out ?_
     rintro e u4 ⟨rfl,HE⟩
     clear UC lk c16 y2 lpp
     go_wp2_with fail
     go_roundw
     case rel=>exact ⟨k+1,by omega,by go_num,HE⟩
     case measure=>have hr:=HR.out;simp [intOf];omega
  . obtain rfl:k=m:=by omega
    have hd:decide (f+(k:Int)<t)=false:=kg
    have li:=LI.out
    have PR:=hm'.prs i _ HI.out.1 (setA_same _ _ _)
    have PL:=PR.pro.lt
    rw [li.pb] at PL
    have LL:Re.IsL wr W.heap.size p' L':=fun j hj=>by
     obtain ⟨g,e,l1,l2,cs⟩:=L5.out.2 j hj
     have hbk:=hko.block g ⟨OB.out g l1,l2⟩
     exact ⟨g,e,l1,nla l2 hko.size,fun a y hy=>(World.cell?_of_block (a:=⟨g,j*6+a,none⟩) hbk).trans (cs a y hy)⟩
    have c15:wr.cell? ⟨P.pb,15,none⟩=some (.slice P.rp P.L.length P.rc):=by
     have:=PR.pro.cell 15
     rw [li.pb] at this
     rw [this]
     show some (Value.slice (unRun f (T,P) k).2.rp (unRun f (T,P) k).2.L.length (unRun f (T,P) k).2.rc)=_
     rw [li.rp,li.L,li.rc]
    have z15:wr.frozen? ⟨P.pb,15,none⟩=false:=by
     have:=PR.pro.free 15
     rw [li.pb] at this;exact this
    have HE:=hm'.relist HI.out.1 (setA_same _ _ _) W.heap.size (fun b hb hb2=>OB.out b hb) LL L5.out.1 H1.out
    rw [setA_set,show (⟨(unRun f (T,P) k).2.pb,15,none⟩:Addr)=⟨P.pb,15,none⟩ by rw [li.pb]] at HE
    have HF:Hid _:=HE
    have KK:Hid (Ko O W wr/\n'<=n+6*k/\W.heap.size<=wr.heap.size):=⟨(Ko.of_below G5.out.1).trans (hko.sub fun j hj=>⟨hj.1,nla hj.2 G5.out.1.size⟩),hn',Nat.le_trans G5.out.1.size hko.size⟩
    clear HE hst hko hm' hn' LL PR li WY UN LI BK hr
    go_wp2_with fail
    obtain ⟨O',k1,k2,k3⟩:=HF.out
    exact HPO.out _ _ (Rd.t (Rd.f (Rd.f ⟨rfl,n',p',c',KK.out.2.1,O',k1,fun j hj=>k2 j hj,k1.lt,KK.out.1.trans (k3.sub fun j hj=>⟨hj.1,nla hj.2 KK.out.2.2⟩)⟩)))
theorem Mn.protect (h:Mn O n W M Q T root I A B) {i:Nat} {P:Pr} (hi:i<16) (hA:A i=some P) (f t:Int) (k3 k4 k5:Bool) (ad sz x k6 k7 k8 k9:Int) (E:Int) (L':List Re.Rg) (hE:Re.errA (Re.protN P.L f t) (Re.chg (fun r=>r.may k3 k4 k5) f t P.L)=E) (hM:Re.outL (Re.protN P.L f t) (Re.chg (fun r=>r.may k3 k4 k5) f t P.L)=L') (BB LL:Bool) (hB:borB P.L f t=BB) (hLE:lendsB I (i:Nat) f t=LL) (hN:E=0->Re.NumL P.L) (hp:E=0->BB=false->LL=false->L'.length<=100) :
 Calls Tryz.prog 62 #[pp M.mb,.int .i64 (i:Nat),.agg (sq 3 f t k3 k4 k5 ad sz x k6 k7 k8 k9)] W fun e w'=>Rd (E=0) (Rd (BB=true) (e=.returned (.int .i64 11)/\bc W w') (Rd (LL=true) (e=.returned (.int .i64 11)/\bc W w') (e=.returned (.int .i64 0)/\ ∃ p' c',Tx O W (fun O' V=>Mn O' n V M Q T root I (setA A i (some { P with rp:=p',rc:=c',L:=L' })) B) w'))) (e=.returned (.int .i64 E)/\bc W w'):=by
 have HN:Hid (E=0->Re.NumL P.L):=hN
 have HB:Hid (borB P.L f t=BB):=hB
 have HLE:Hid (lendsB I (i:Nat) f t=LL):=hLE
 have HPR:Hid (E=0->BB=false->LL=false->L'.length<=100):=hp
 obtain ⟨PO,hPO⟩: ∃ PO:Ending->World->Prop,PO=fun e w'=>Rd (E=0) (Rd (BB=true) (e=.returned (.int .i64 11)/\bc W w') (Rd (LL=true) (e=.returned (.int .i64 11)/\bc W w') (e=.returned (.int .i64 0)/\ ∃ p' c',Tx O W (fun O' V=>Mn O' n V M Q T root I (setA A i (some { P with rp:=p',rc:=c',L:=L' })) B) w'))) (e=.returned (.int .i64 E)/\bc W w'):=⟨_,rfl⟩
 rw [<- hPO]
 have HPO:Hid (∀ e w',Rd (E=0) (Rd (BB=true) (e=.returned (.int .i64 11)/\bc W w') (Rd (LL=true) (e=.returned (.int .i64 11)/\bc W w') (e=.returned (.int .i64 0)/\ ∃ p' c',Tx O W (fun O' V=>Mn O' n V M Q T root I (setA A i (some { P with rp:=p',rc:=c',L:=L' })) B) w'))) (e=.returned (.int .i64 E)/\bc W w')->PO e w'):=fun e w' z=>by rw [hPO];exact z
 clear hPO hN hB hLE hp
 have HM:Hid (Mn O n W M Q T root I A B):=h
 have HI:Hid (i<16/\A i=some P):=⟨hi,hA⟩
 have HP:Hid (IsPr O n i W P):=h.prs i P hi hA
 have RC:Hid (∀ w:World,bc W w->Calls Tryz.prog 82 #[.slice P.rp P.L.length P.rc,.agg #[.int .i64 f,.int .i64 t],.agg (s9 k3 k4 k5)] w fun e w'=> ∃ p' c',e=.returned (.tuple #[.slice p' L'.length c',.int .i64 E])/\L'.length<=c'/\Re.IsL w' W.heap.size p' L'/\bc w w'):=fun w hb=>prot_new P.rp P.rc P.L HP.out.few f t k3 k4 k5 E L' hE hM w (HP.out.lis.below hb) W.heap.size hb.size
 have G0:Hid (bc W (W.alloc (.cells (sq 3 f t k3 k4 k5 ad sz x k6 k7 k8 k9) 70))/\Blk (W.alloc (.cells (sq 3 f t k3 k4 k5 ad sz x k6 k7 k8 k9) 70)) W.heap.size (su 3 f t k3 k4 k5 ad sz x k6 k7 k8 k9) 70/\Blk (W.alloc (.cells (sq 3 f t k3 k4 k5 ad sz x k6 k7 k8 k9) 70)) P.pb P.enc 88):=⟨baa,Blk.made _ _ _,HP.out.pro.below baa⟩
 clear h hE hM hi hA
 go_enter Tryz.func62,Tryz.ntmps62
 go_upto_region 1 with fail
 generalize (W.alloc (.cells (sq 3 f t k3 k4 k5 ad sz x k6 k7 k8 k9) 70))=W1 at G0 |-
 obtain ⟨b1,hb1⟩: ∃ b1,b1=W.heap.size:=⟨_,rfl⟩
 have G1:Hid (bc W W1/\Blk W1 b1 (su 3 f t k3 k4 k5 ad sz x k6 k7 k8 k9) 70/\Blk W1 P.pb P.enc 88):=kt1
 have NB:Hid (W.heap.size<=b1):=ks
 rw [<- hb1]
 clear hb1 G0
 have lk:=(HM.out.below G1.out.1).proc HI.out.1 HI.out.2
 have c3:W1.cell? ⟨M.mb,1538,none⟩=some (.map (some M.pm)):=(HM.out.below G1.out.1).mod.2.2.1
 go_upto_region 2 with fail
 clear lk c3
 refine hda (fun cw=>bc W1 cw) (below_drew (Below.refl _ _)) fun hHeld=> ?_
 generalize W1.drew=U at hHeld |-
 refine tma 0 17 rfl ?_
 refine tma 1 18 rfl ?_
 refine tma 2 19 rfl ?_
 refine tla 3 20 (.slice P.rp P.L.length P.rc) rfl ?_ ?_
 . intro w hSw;(try dsimp only at hSw);have q:=G1.out.2.2.below hSw;have r:w.cell? ⟨P.pb,15,none⟩=some (.slice P.rp P.L.length P.rc):=q.cell 15;(try go_simp);(try simp [*])
 refine tma 4 21 rfl ?_
 refine tla 5 22 (.agg #[.int .i64 f,.int .i64 t]) rfl ?_ ?_
 . intro w hSw;(try dsimp only at hSw);have q:=G1.out.2.1.below hSw;have r0:=q.cell 1;have r1:=q.cell 2;(try go_simp);(try simp [*])
 refine tma 6 23 rfl ?_
 refine tla 7 24 (.agg (s9 k3 k4 k5)) rfl ?_ ?_
 . intro w hSw;(try dsimp only at hSw);have q:=G1.out.2.1.below hSw;have r0:=q.cell 3;have r1:=q.cell 4;have r2:=q.cell 5;(try go_simp);(try simp [*])
 refine rda 8 ⟨some 25,_,_,_,_,none⟩ rfl fun K hK=> ?_
 go_simp
 go_wp2_with (go_at_call 82;refine Calls.mono (RC.out _ (below_then G1.out.1 hHeld)) ?_;rintro e u1 ⟨p',c',rfl,h6a,h6b,hb⟩)
 have L6:Hid (L'.length<=c'/\Re.IsL u1 W.heap.size p' L'):=⟨h6a,h6b⟩
 clear h6a h6b
 refine hK.out _ _ (below_then hHeld hb) ?_
 clear hK K hHeld
 intro hHeld
 try simp only [Act.put,zaa,zba,zca]
 refine tma 9 16 rfl ?_
 refine tma 10 26 rfl ?_
 refine tma 11 27 rfl ?_
 refine tma 12 8 rfl ?_
 refine tma 13 9 rfl ?_
 have KE:Hid (bc W1 u1):=hHeld
 clear hHeld
 refine wpAnyH_done kc ?_ _
 refine NoPanic.normal ?_
 have G3:Hid (bc W u1/\Blk u1 b1 (su 3 f t k3 k4 k5 ad sz x k6 k7 k8 k9) 70):=⟨below_then G1.out.1 KE.out,G1.out.2.1.below KE.out⟩
 clear KE G1 RC
 by_cases E0:E=0
 rotate_left
 . have d1:decide (E=0)=false:=by simp [E0]
   have d2:(E==0)=false:=by simp [E0]
   have d3:(E != 0)=true:=by simp [E0]
   have NE:Hid (¬ E=0):=E0
   clear E0
   go_wp2_with fail
   exact HPO.out _ _ (Rd.n NE.out ⟨rfl,G3.out.1⟩)
 subst E0
 have y1:u1.cell? ⟨b1,1,none⟩=some (.int .i64 f):=G3.out.2.cell 1
 have y2:u1.cell? ⟨b1,2,none⟩=some (.int .i64 t):=G3.out.2.cell 2
 have BC:Hid (∀ w,bc W w->Calls Tryz.prog 79 #[pp P.pb,.agg #[.int .i64 f,.int .i64 t]] w (re (.bool BB) w)):=fun w hb=>by
  have q:=borrows_any ((HM.out.below hb).prs i P HI.out.1 HI.out.2) (HN.out (by trivial)) f t
  rw [HB.out] at q;exact q
 go_wp2_with fail
 refine Calls.mono (BC.out _ G3.out.1) ?_
 rintro e u2 ⟨rfl,hb2⟩
 have G4:Hid (bc W u2/\Blk u2 b1 (su 3 f t k3 k4 k5 ad sz x k6 k7 k8 k9) 70):=⟨below_then G3.out.1 hb2,G3.out.2.below hb2⟩
 have L4:Hid (L'.length<=c'/\Re.IsL u2 W.heap.size p' L'):=⟨L6.out.1,L6.out.2.below hb2⟩
 clear hb2 G3 BC L6 y1 y2
 cases BB
 rotate_left
 . go_wp2_with fail
   exact HPO.out _ _ (Rd.t (Rd.t ⟨rfl,G4.out.1⟩))
 have y1:u2.cell? ⟨b1,1,none⟩=some (.int .i64 f):=G4.out.2.cell 1
 have y2:u2.cell? ⟨b1,2,none⟩=some (.int .i64 t):=G4.out.2.cell 2
 have EC:Hid (∀ w,bc W w->Calls Tryz.prog 80 #[pp M.mb,.int .i64 (i:Nat),.agg #[.int .i64 f,.int .i64 t]] w (re (.bool LL) w)):=fun w hb=>by
  have q:=(HM.out.below hb).lends (i:Nat) f t
  rw [HLE.out] at q;exact q
 go_wp2_with fail
 refine Calls.mono (EC.out _ G4.out.1) ?_
 rintro e u3 ⟨rfl,hb3⟩
 have G5:Hid (bc W u3/\Blk u3 b1 (su 3 f t k3 k4 k5 ad sz x k6 k7 k8 k9) 70):=⟨below_then G4.out.1 hb3,G4.out.2.below hb3⟩
 have L5:Hid (L'.length<=c'/\Re.IsL u3 W.heap.size p' L'):=⟨L4.out.1,L4.out.2.below hb3⟩
 clear hb3 G4 EC L4 y1 y2
 cases LL
 rotate_left
 . go_wp2_with fail
   exact HPO.out _ _ (Rd.t (Rd.f (Rd.t ⟨rfl,G5.out.1⟩)))
 have H1:Hid (L'.length<=100):=HPR.out (by trivial) (by trivial) (by trivial)
 have c15:u3.cell? ⟨P.pb,15,none⟩=some (.slice P.rp P.L.length P.rc):=(HP.out.pro.below G5.out.1).cell 15
 have z15:u3.frozen? ⟨P.pb,15,none⟩=false:=(HP.out.pro.below G5.out.1).free 15
 have HE:=HM.out.list HI.out.1 HI.out.2 G5.out.1 L5.out.2 L5.out.1 H1.out
 have HF:Hid _:=HE
 clear HE
 go_wp2_with fail
 obtain ⟨O',m1,m2,m3⟩:=HF.out
 exact HPO.out _ _ (Rd.t (Rd.f (Rd.f ⟨rfl,p',c',O',m1,m2,m1.lt,m3⟩)))
end
end Go.Proofs.YtokpmclmdobgeaaGreat.Fl
