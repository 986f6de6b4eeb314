import Derived.Test.YtgbdnnkkcpkhdaaGreatDoorMDc
import Derived.Test.YtgbdnnkkcpkhdaaGreatDoorMCc
set_option linter.unusedSimpArgs false
set_option linter.unusedVariables false
set_option maxRecDepth 8000
namespace Go.Proofs.YtgbdnnkkcpkhdaaGreatDoor.Tt
def pg (lf:Nat->Option Lf):Nat->Nat->List Nat
 | 0, p => if (lf p).isSome = true then [p] else []
 | l + 1, x => (List.range 512).flatMap fun i => pg lf l (x * 512 + i)
theorem mem_pg (lf:Nat->Option Lf) (p:Nat): ∀ l x,p∈pg lf l x↔pre l p=x/\(lf p).isSome=true:=by
 intro l
 induction l with
 | zero =>
  intro x
  show p∈(if (lf x).isSome=true then [x] else [])↔p=x/\_
  constructor
  . intro h
    by_cases c:(lf x).isSome=true
    . rw [if_pos c] at h
      simp at h
      subst h
      exact ⟨rfl,c⟩
    . rw [if_neg c] at h;cases h
  . rintro ⟨rfl,h⟩
    rw [if_pos h];simp
 | succ l ih =>
  intro x
  show p∈(List.range 512).flatMap _↔pre l p / 512=x/\_
  rw [List.mem_flatMap]
  constructor
  . rintro ⟨i,hi,h⟩
    rw [List.mem_range] at hi
    obtain ⟨a,b⟩:=(ih _).1 h
    exact ⟨by omega,b⟩
  . rintro ⟨a,b⟩
    exact ⟨pre l p % 512,List.mem_range.2 (Nat.mod_lt _ (by omega)),(ih _).2 ⟨by omega,b⟩⟩
theorem pre_mono {p q:Nat} (h:p<=q): ∀ l,pre l p<=pre l q:=by
 intro l
 induction l with
 | zero => exact h
 | succ l ih => show pre l p / 512 ≤ pre l q / 512; exact Nat.div_le_div_right ih
theorem pg_rising (lf:Nat->Option Lf): ∀ l x,(pg lf l x).Pairwise (· < ·):=by
 intro l
 induction l with
 | zero =>
  intro x
  show (if (lf x).isSome=true then [x] else []).Pairwise _
  split <;> simp
 | succ l ih =>
  intro x
  show ((List.range 512).flatMap fun i=>pg lf l (x*512+i)).Pairwise _
  rw [List.pairwise_flatMap]
  refine ⟨fun i _=>ih _,?_⟩
  refine List.pairwise_lt_range.imp ?_
  intro i j hij a ha c hc
  have e1:=((mem_pg lf a l _).1 ha).1
  have e2:=((mem_pg lf c l _).1 hc).1
  apply Nat.lt_of_not_le
  intro hle
  have:=pre_mono hle l
  omega
end Go.Proofs.YtgbdnnkkcpkhdaaGreatDoor.Tt
namespace Go.Proofs.YtgbdnnkkcpkhdaaGreatDoor.Tt
open Go.ChangeShapes Go.WideShapes Go.ChangeAt Go.RowKit Go.Maps
section
variable {M:Int->Int} {root:Nat} {tab:Nat->Nat->Option Nat} {lf:Nat->Option Lf}
end
end Go.Proofs.YtgbdnnkkcpkhdaaGreatDoor.Tt
namespace Go.Proofs.YtgbdnnkkcpkhdaaGreatDoor.Tt
open Go.ChangeShapes Go.WideShapes Go.ChangeAt Go.RowKit Go.Maps
open Go.Proofs.YtgbdnnkkcpkhdaaGreatDoor.Li (wpList_app)
end Go.Proofs.YtgbdnnkkcpkhdaaGreatDoor.Tt
namespace Go.Proofs.YtgbdnnkkcpkhdaaGreatDoor.Tt
end Go.Proofs.YtgbdnnkkcpkhdaaGreatDoor.Tt
namespace Go.Proofs.YtgbdnnkkcpkhdaaGreatDoor.Tt
open Go.ChangeShapes Go.WideShapes Go.ChangeAt Go.RowKit Go.Maps
def frL (l:Nat) (P:List Nat) (p:Nat):Nat:=if P.any (fun q=>pre l q==pre l p) then 0 else 1
def fresh (P:List Nat) (p:Nat):Nat:=frL 1 P p+frL 2 P p+frL 3 P p
def tabsN:List Nat->Nat
 | [] => 1
 | p :: P => tabsN P + fresh P p
theorem frL_zero {l:Nat} {P:List Nat} {p q:Nat} (hq:q∈P) (e:pre l q=pre l p):frL l P p=0:=by
 unfold frL
 rw [if_pos]
 rw [List.any_eq_true]
 exact ⟨q,hq,by simp [e]⟩
theorem frL_one {l:Nat} {P:List Nat} {p:Nat} (h: ∀ q∈P,pre l q≠pre l p):frL l P p=1:=by
 unfold frL
 rw [if_neg]
 intro e
 rw [List.any_eq_true] at e
 obtain ⟨q,hq,e⟩:=e
 exact h q hq (by simpa using e)
theorem frL_or (l:Nat) (P:List Nat) (p:Nat):(frL l P p=0/\ ∃ q∈P,pre l q=pre l p)\/(frL l P p=1/\ ∀ q∈P,pre l q≠pre l p):=by
 by_cases c: ∃ q∈P,pre l q=pre l p
 . obtain ⟨q,hq,e⟩:=c
   exact Or.inl ⟨frL_zero hq e,q,hq,e⟩
 . have h: ∀ q∈P,pre l q≠pre l p:=fun q hq e=>c ⟨q,hq,e⟩
   exact Or.inr ⟨frL_one h,h⟩
theorem frL_mem {l:Nat} {P P':List Nat} {p:Nat} (h: ∀ q,q∈P↔q∈P'):frL l P p=frL l P' p:=by
 rcases frL_or l P p with ⟨e,q,hq,eq⟩ | ⟨e,hn⟩
 . rw [e,frL_zero ((h q).1 hq) eq]
 . rw [e,frL_one (fun q hq=>hn q ((h q).2 hq))]
theorem fresh_mem {P P':List Nat} {p:Nat} (h: ∀ q,q∈P↔q∈P'):fresh P p=fresh P' p:=by
 unfold fresh;rw [frL_mem h,frL_mem h,frL_mem h]
theorem frL_swap (l p q:Nat) (P:List Nat):frL l P q+frL l (q::P) p=frL l P p+frL l (p::P) q:=by
 by_cases c:pre l p=pre l q
 . rw [frL_zero (q:=q) List.mem_cons_self c.symm,frL_zero (q:=p) (p:=q) List.mem_cons_self c]
   have:frL l P p=frL l P q:=by unfold frL;rw [c]
   omega
 . have h1:frL l (q::P) p=frL l P p:=by
    unfold frL;rw [List.any_cons]
    have:(pre l q==pre l p)=false:=by simp;exact fun e=>c e.symm
    rw [this,Bool.false_or]
   have h2:frL l (p::P) q=frL l P q:=by
    unfold frL;rw [List.any_cons]
    have:(pre l p==pre l q)=false:=by simp;exact c
    rw [this,Bool.false_or]
   omega
theorem tabs_perm {P P':List Nat} (h:P.Perm P'):tabsN P=tabsN P':=by
 induction h with
 | nil => rfl
 | cons p h ih =>
  show tabsN _+fresh _ p=tabsN _+fresh _ p
  rw [ih,fresh_mem (fun q=>h.mem_iff)]
 | swap p q P =>
  show tabsN P+fresh P p+fresh (p::P) q=tabsN P+fresh P q+fresh (q::P) p
  have a:=frL_swap 1 p q P
  have b:=frL_swap 2 p q P
  have c:=frL_swap 3 p q P
  unfold fresh
  omega
 | trans _ _ a b => exact a.trans b
abbrev pgs (lf:Nat->Option Lf):List Nat:=pg lf 4 0
section
variable {M:Int->Int} {root:Nat} {tab:Nat->Nat->Option Nat} {lf:Nat->Option Lf}
theorem PW.mem (H:PW M root tab lf) (p:Nat):p∈pgs lf↔(lf p).isSome=true:=by
 rw [mem_pg]
 constructor
 . exact fun h=>h.2
 . intro h
   obtain ⟨v,hv⟩:=Option.isSome_iff_exists.1 h
   exact ⟨pre4 (H.lf1 p v hv).1,h⟩
theorem pgs_nodup (lf:Nat->Option Lf):(pgs lf).Nodup:=(pg_rising lf 4 0).imp (fun h=>Nat.ne_of_lt h)
theorem PW.has (H:PW M root tab lf) {q:Nat} (h:(lf q).isSome=true) {l:Nat} (l1:1<=l) (l3:l<=3): ∃ f,tab l (pre l q)=some f:=by
 obtain ⟨v,hv⟩:=Option.isSome_iff_exists.1 h
 obtain ⟨_,g,hg,_⟩:=H.lf1 q v hv
 have t1:tab 1 (pre 1 q)=some g:=hg
 obtain ⟨g2,t2,_⟩:=H.up 1 _ g (by omega) t1
 have t2':tab 2 (pre 2 q)=some g2:=t2
 obtain ⟨g3,t3,_⟩:=H.up 2 _ g2 (by omega) t2'
 have t3':tab 3 (pre 3 q)=some g3:=t3
 rcases (show l=1\/l=2\/l=3 by omega) with rfl | rfl | rfl
 . exact ⟨g,t1⟩
 . exact ⟨g2,t2'⟩
 . exact ⟨g3,t3'⟩
theorem PW.frL (H:PW M root tab lf) (F:Full tab lf) (p:Nat) {l:Nat} (l1:1<=l) (l3:l<=3):(tab l (pre l p)=none/\frL l (pgs lf) p=1)\/((∃ f,tab l (pre l p)=some f)/\frL l (pgs lf) p=0):=by
 cases c:tab l (pre l p) with
 | none =>
  refine Or.inl ⟨rfl,frL_one (fun q hq e=> ?_)⟩
  obtain ⟨f,hf⟩:=H.has ((H.mem q).1 hq) l1 l3
  rw [e,c] at hf;cases hf
 | some f =>
  refine Or.inr ⟨⟨f,rfl⟩,?_⟩
  obtain ⟨q,hq,e⟩:=F l _ f (by omega) c
  exact frL_zero ((H.mem q).2 hq) e
theorem PW.miss (H:PW M root tab lf) (F:Full tab lf) (p:Nat):miss tab p=fresh (pgs lf) p:=by
 have n32:tab 3 (pre 3 p)=none->tab 2 (pre 2 p)=none:=fun h=>none_below H 1 2 (by omega) (by omega) h
 have n21:tab 2 (pre 2 p)=none->tab 1 (pre 1 p)=none:=fun h=>none_below H 1 1 (by omega) (by omega) h
 unfold Tt.miss fresh
 rcases H.frL F p (l:=1) (by omega) (by omega) with ⟨a1,b1⟩ | ⟨⟨f1,a1⟩,b1⟩ <;>
 rcases H.frL F p (l:=2) (by omega) (by omega) with ⟨a2,b2⟩ | ⟨⟨f2,a2⟩,b2⟩ <;>
 rcases H.frL F p (l:=3) (by omega) (by omega) with ⟨a3,b3⟩ | ⟨⟨f3,a3⟩,b3⟩ <;>
 rw [b1,b2,b3] <;> simp [a1,a2,a3]
 . have:=n32 a3;rw [a2] at this;cases this
 . have:=n21 a2;rw [a1] at this;cases this
 . have:=n21 a2;rw [a1] at this;cases this
 . have:=n32 a3;rw [a2] at this;cases this
theorem pgs_more (H:PW M root tab lf) {M':Int->Int} {tab':Nat->Nat->Option Nat} {p:Nat} {v:Lf} (h:lf p=none) (H':PW M' root tab' (lfSet lf p (some v))):(pgs (lfSet lf p (some v))).Perm (p::pgs lf):=by
 refine (List.perm_ext_iff_of_nodup (pgs_nodup _) (List.nodup_cons.2 ⟨fun e=> ?_,pgs_nodup _⟩)).2 (fun q=> ?_)
 . have:=(H.mem p).1 e;rw [h] at this;cases this
 . rw [H'.mem,List.mem_cons,H.mem]
   by_cases c:q=p
   . subst c;rw [lf_same];simp
   . rw [lf_other c];simp [c]
end
structure St (X:Nat->Prop) (m:Pm) (root k:Nat) (R U:Int) (F:Nat) (s:Ps) (tab:Nat->Nat->Option Nat) (lf:Nat->Option Lf) (w:World):Prop where
 pu:Pu X w m s
 rt:Rt m s root tab lf
 nm:Nums m s k (R-tabsN (pgs lf)) (U+tabsN (pgs lf)) (F-tabsN (pgs lf))
 tF:tabsN (pgs lf)<=F
section
variable {X:Nat->Prop} {m:Pm} {root k:Nat} {R U:Int} {F:Nat} {s:Ps} {tab:Nat->Nat->Option Nat} {lf:Nat->Option Lf} {W:World}
structure Apt (s s':Ps) (tab tab':Nat->Nat->Option Nat):Prop where
 oth: ∀ f:Nat,(∀ l x,tab l x≠some f)-> ¬ s.Fr f->s'.G f=s.G f/\ ¬ s'.Fr f/\ ∀ j:Nat,j<512->En s'.M f j=En s.M f j
 new: ∀ l x f,tab' l x=some f->tab l x=some f\/s.Fr f
 hi: ∀ f:Nat,tab 4 0=some f-> ∀ j:Nat,256<=j->j<512->En s'.M f j=En s.M f j
def StTo (X:Nat->Prop) (m:Pm) (root k:Nat) (R U:Int) (F:Nat) (s:Ps) (tab:Nat->Nat->Option Nat) (lf':Nat->Option Lf) (W w':World):Prop :=
 ∃ (s':Ps) (tab':Nat->Nat->Option Nat),St X m root k R U F s' tab' lf' w'/\s'.q<=s.q+10/\Apt s s' tab tab'/\Kx X W w'
theorem St.map_ok (h:St X m root k R U F s tab lf W) (hF:R<=F\/10+tabsN (pgs lf)<=F) (hq:s.q<4000000000000000000) (p:Nat) (hp:p<34359738368) (fr:Int) (hfr:0<=fr/\fr<1048576) (pa pb pc:Bool) (ht:lf p=none) (hr:(tabsN (pgs lf)+fresh (pgs lf) p:Nat)<=R) :
 Calls Tryz.prog 111 #[pv m k,.int .i64 root,.int .i64 p,.int .i64 fr,.agg (sn pa pb pc)] W fun e w'=>e=.returned (.int .i64 0)/\StTo X m root k R U F s tab (lfSet lf p (some ⟨fr,pa,pb,pc⟩)) W w':=by
 have tF:=h.tF
 have ms:=h.rt.pw.miss h.rt.fu p
 refine (Tt.map_ok h.pu h.rt k (h.nm.box (by omega)) p hp fr hfr pa pb pc ht hq (by rw [h.nm.room,ms];omega)).mono ?_
 rintro e w' ⟨rfl,Lm,M6,tab6,hl6,IN6,hp6,hk6,pw6,fu6,new6,oth6,hi6⟩
 have N6:=h.nm.take h.pu.so IN6 M6 (s.q+10)
 have R6:=rt_mapped (k:=k) (q:=s.q+10) h.pu.so h.rt IN6 pw6 fu6 new6
 have pm:=pgs_more h.rt.pw ht pw6
 have tt:tabsN (pgs (lfSet lf p (some ⟨fr,pa,pb,pc⟩)))=tabsN (pgs lf)+fresh (pgs lf) p:=(tabs_perm pm).trans rfl
 have cn:=take_cnt h.pu.so k IN6
 have cf:=h.nm.free
 rw [hl6,ms] at N6
 rw [hl6,ms] at cn
 refine ⟨rfl,_,tab6,⟨hp6,R6,?_,by omega⟩,?_,⟨fun f hf hn=> ?_,fun l x f e=> ?_,fun f e j h1 hj=> ?_⟩,hk6⟩
 . rw [tt,show R-((tabsN (pgs lf)+fresh (pgs lf) p:Nat):Int)=R-(tabsN (pgs lf):Int)-(fresh (pgs lf) p:Int) by omega,show U+((tabsN (pgs lf)+fresh (pgs lf) p:Nat):Int)=U+(tabsN (pgs lf):Int)+(fresh (pgs lf) p:Int) by omega,show F-(tabsN (pgs lf)+fresh (pgs lf) p)=F-tabsN (pgs lf)-fresh (pgs lf) p by omega]
   exact N6
 . show s.q+10<=_;omega
 . have nl:f∉Lm:=fun q=>hn (IN6.2 f q)
   refine ⟨?_,fun q=>hn q.1,fun j hj=>oth6 f hf nl j hj⟩
   show (if 0<=(f:Int)/\(f:Int).toNat∈Lm then some 0 else s.G f)=s.G f
   rw [if_neg]
   rintro ⟨_,q⟩
   exact nl (by simpa using q)
 . rcases new6 l x f e with q | q
   . exact Or.inl q
   . exact Or.inr (IN6.2 f q)
 . rw [h.rt.pw.t4] at e;cases e;exact hi6 j h1 hj
end
end Go.Proofs.YtgbdnnkkcpkhdaaGreatDoor.Tt
