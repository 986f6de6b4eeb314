import Derived.Test.YtgbdnnkkcpkhdaaGreatDoorMAc
import Derived.Test.YtgbdnnkkcpkhdaaGreatDoorKZc
set_option linter.unusedSimpArgs false
set_option linter.unusedVariables false
set_option maxRecDepth 8000
set_option maxHeartbeats 4000000
open Go.ChangeShapes Go.WideShapes Go.ChangeAt Go.RowKit Go.Maps
namespace Go.Proofs.YtgbdnnkkcpkhdaaGreatDoor.Tt
theorem en_same (M:Int->Int) (f i x:Int) (x0:0<=x) (x1:x<18446744073709551616):En (enSet M f i x) f i=x:=ld_mset8 M _ x x0 x1
theorem en_other (M:Int->Int) {f i f' i':Int} (x:Int) (h0:0<=i) (h1:i<512) (h2:0<=i') (h3:i'<512) (h:f'≠f\/i'≠i):En (enSet M f i x) f' i'=En M f' i':=by
 unfold En enSet
 refine ld_mset_apart M ?_
 by_cases c:f'*4096+i'*8+8<=f*4096+i*8
 . exact Or.inl c
 . right
   rcases h with h | h <;> omega
theorem ld_keep {M M':Int->Int} {a:Int}: ∀ {n:Nat},(∀ i:Nat,i<n->M' (a+i)=M (a+i))->ld M' a n=ld M a n
 | 0, _ => rfl
 | n + 1, h => by
  show ld M' a n+M' (a+n)*256 ^ n=ld M a n+M (a+n)*256 ^ n
  rw [ld_keep (fun i hi=>h i (by omega)),h n (by omega)]
theorem en_zero (M:Int->Int) (f i:Int) (h0:0<=i) (h1:i<512):En (mzero M f) f i=0:=by
 unfold En
 refine ld_zero (fun j hj=> ?_)
 unfold mzero
 rw [if_pos ⟨by omega,by omega⟩]
theorem en_zero_other (M:Int->Int) {f f' i:Int} (h0:0<=i) (h1:i<512) (h:f'≠f):En (mzero M f) f' i=En M f' i:=by
 unfold En
 refine ld_keep (fun j hj=> ?_)
 unfold mzero
 rw [if_neg (by omega)]
theorem unp_zero:unp 0=ev false false false false false false false false 0:=rfl
structure Lf where
 f:Int
 w:Bool
 u:Bool
 x:Bool
def tabV (a d:Bool) (f:Nat):Int:=packV true true true a d false false false f
def leafV (a d:Bool) (l:Lf):Int:=packV true l.w l.u a d false false (!l.x) l.f
def MkT (x:Int) (f:Nat):Prop:=f<1048576/\ ∃ a d,x=tabV a d f
def MkL (x:Int) (l:Lf):Prop:=(0<=l.f/\l.f<1048576)/\ ∃ a d,x=leafV a d l
theorem pack_says (p q u a d l g n:Bool) (f:Int) (f0:0<=f) (f1:f<1048576):bt (packV p q u a d l g n f)=p/\packV p q u a d l g n f / 4096 % 1048576=f:=by
 have h:=unp_pack p q u a d l g n f f0 f1
 unfold unp at h
 simp only [Value.agg.injEq,Array.mk.injEq,List.cons.injEq,Value.bool.injEq,Value.int.injEq,and_true,true_and] at h
 exact ⟨h.1,h.2.2.2.2.2.2.2.2⟩
theorem MkT.bt {x:Int} {f:Nat} (h:MkT x f):bt x=true/\nx x=f:=by
 obtain ⟨h1,a,d,rfl⟩:=h
 have:=pack_says true true true a d false false false f (by omega) (by omega)
 exact ⟨this.1,by unfold nx tabV;rw [this.2];omega⟩
def pre:Nat->Nat->Nat
 | 0, p => p
 | l + 1, p => pre l p / 512
theorem pre4 {p:Nat} (h:p<34359738368):pre 4 p=0:=by
 show p / 512 / 512 / 512 / 512=0;omega
theorem pre3 {p:Nat} (h:p<34359738368):pre 3 p<256:=by
 show p / 512 / 512 / 512<256;omega
structure PW (M:Int->Int) (root:Nat) (tab:Nat->Nat->Option Nat) (lf:Nat->Option Lf):Prop where
 t4:tab 4 0=some root
 dom: ∀ l x f,tab l x=some f->1<=l/\l<=4/\(l=4->x=0)/\(l=3->x<256)
 up: ∀ l x f,l<4->tab l x=some f-> ∃ g,tab (l+1) (x / 512)=some g/\MkT (En M g (x % 512:Nat)) f
 no: ∀ l x g,1<=l->l<4->(l=3->x<256)->tab l x=none->tab (l+1) (x / 512)=some g->En M g (x % 512:Nat)=0
 lf1: ∀ p v,lf p=some v->p<34359738368/\ ∃ g,tab 1 (p / 512)=some g/\MkL (En M g (p % 512:Nat)) v
 lf0: ∀ p g,p<34359738368->lf p=none->tab 1 (p / 512)=some g->En M g (p % 512:Nat)=0
 inj: ∀ l x l' x' f,tab l x=some f->tab l' x'=some f->l=l'/\x=x'
def Full (tab:Nat->Nat->Option Nat) (lf:Nat->Option Lf):Prop:= ∀ l x f,l<4->tab l x=some f-> ∃ p,(lf p).isSome=true/\pre l p=x
def atP (p:Nat):At:=fun i=>((pre (3-i) p % 512:Nat):Int)
theorem at_bd (p i:Nat):0<=atP p i/\atP p i<512:=by unfold atP;omega
theorem at_at (p:Nat):atP p 0=(p:Int) / 512 / 512 / 512 % 512/\atP p 1=(p:Int) / 512 / 512 % 512/\atP p 2=(p:Int) / 512 % 512/\atP p 3=(p:Int) % 512:=by
 refine ⟨?_,?_,?_,?_⟩
 . show ((p / 512 / 512 / 512 % 512:Nat):Int)=_;omega
 . show ((p / 512 / 512 % 512:Nat):Int)=_;omega
 . show ((p / 512 % 512:Nat):Int)=_;omega
 . show ((p % 512:Nat):Int)=_;omega
structure Trl (tab:Nat->Nat->Option Nat) (p:Nat) (L:List Nat):Prop where
 l1:1<=L.length
 l4:L.length<=4
 is: ∀ (i x:Nat),L[i]? =some x->tab (4-i) (pre (4-i) p)=some x
 stop:L.length<4->tab (4-L.length) (pre (4-L.length) p)=none
theorem pre_next (l p:Nat):pre (l+1) p=pre l p / 512:=rfl
section
variable {M:Int->Int} {root:Nat} {tab:Nat->Nat->Option Nat} {lf:Nat->Option Lf}
theorem PW.step (H:PW M root tab lf) {p:Nat} (hp:p<34359738368) {i x:Nat} (hi:i<3) (hx:tab (4-i) (pre (4-i) p)=some x) :
 (tab (3-i) (pre (3-i) p)=none/\En M x (atP p i)=0)\/ ∃ f,tab (3-i) (pre (3-i) p)=some f/\MkT (En M x (atP p i)) f:=by
 have e:4-i=(3-i)+1:=by omega
 rw [e,pre_next] at hx
 cases h:tab (3-i) (pre (3-i) p) with
 | none =>
  left
  refine ⟨rfl,H.no (3-i) _ x (by omega) (by omega) (fun q=> ?_) h hx⟩
  rw [q];exact pre3 hp
 | some f =>
  right
  obtain ⟨g,hg,mk⟩:=H.up (3-i) _ f (by omega) h
  rw [hx] at hg
  cases hg
  exact ⟨f,rfl,mk⟩
theorem PW.pth (H:PW M root tab lf) {p:Nat} (hp:p<34359738368) {L:List Nat} (h:Pth M root (atP p) L) (l4:L.length<=4): ∀ (i x:Nat),L[i]? =some x->tab (4-i) (pre (4-i) p)=some x
 | 0, x, e => by
  rw [h.1] at e
  cases e
  show tab 4 (pre 4 p)=_
  rw [pre4 hp];exact H.t4
 | i + 1, y, e => by
  have li:i+1<L.length:=(List.getElem?_eq_some_iff.1 e).1
  have e1:L[i]? =some L[i]:=List.getElem?_eq_getElem (by omega)
  have ih:=PW.pth H hp h l4 i L[i] e1
  obtain ⟨b,hy⟩:=h.2 i L[i] y e1 e
  rcases H.step hp (by omega) ih with ⟨_,z⟩ | ⟨f,hf,mk⟩
  . rw [z] at b;exact absurd b (by decide)
  . rw [mk.bt.2] at hy
    subst hy
    rw [show 4-(i+1)=3-i by omega]
    exact hf
theorem PW.trl (H:PW M root tab lf) {p:Nat} (hp:p<34359738368) {L:List Nat} (h:Pth M root (atP p) L) (l1:1<=L.length) (l4:L.length<=4)
 (hs: ∀ l (hl:L.length=l+1),L.length<4->bt (En M (L[l]'(by omega):Nat) (atP p l))=false):Trl tab p L:=by
 refine ⟨l1,l4,H.pth hp h l4,fun c=> ?_⟩
 obtain ⟨l,hl⟩: ∃ l,L.length=l+1:=⟨L.length-1,by omega⟩
 have q:=hs l hl c
 have ih:=H.pth hp h l4 l _ (List.getElem?_eq_getElem (by omega))
 rw [hl,show 4-(l+1)=3-l by omega]
 rcases H.step hp (by omega) ih with ⟨z,_⟩ | ⟨f,hf,mk⟩
 . exact z
 . rw [mk.bt.1] at q;cases q
theorem PW.last (H:PW M root tab lf) {p:Nat} (hp:p<34359738368) {L:List Nat} (T:Trl tab p L) {l:Nat} (hl:L.length=l+1) :
 (lf p=none/\En M (L[l]'(by omega):Nat) (atP p l)=0)\/ ∃ v,lf p=some v/\L.length=4/\MkL (En M (L[l]'(by omega):Nat) (atP p l)) v:=by
 have e:=T.is l _ (List.getElem?_eq_getElem (by omega))
 have l4:=T.l4
 by_cases c:L.length=4
 . have e3:l=3:=by omega
   subst e3
   have e':tab 1 (p / 512)=some L[3]:=e
   cases h:lf p with
   | none => exact Or.inl ⟨rfl, H.lf0 p _ hp h e'⟩
   | some v =>
    obtain ⟨_,g,hg,mk⟩:=H.lf1 p v h
    rw [e'] at hg
    cases hg
    exact Or.inr ⟨v,rfl,c,mk⟩
 . left
   have s:=T.stop (by omega)
   rw [hl,show 4-(l+1)=3-l by omega] at s
   refine ⟨?_,?_⟩
   . cases h:lf p with
     | none => rfl
     | some v =>
      exfalso
      obtain ⟨_,g1,hg1,_⟩:=H.lf1 p v h
      obtain ⟨g2,hg2,_⟩:=H.up 1 _ g1 (by omega) hg1
      obtain ⟨g3,hg3,_⟩:=H.up 2 _ g2 (by omega) hg2
      rcases (show l=0\/l=1\/l=2 by omega) with rfl | rfl | rfl
      . exact absurd (s.symm.trans hg3) (by simp)
      . exact absurd (s.symm.trans hg2) (by simp)
      . exact absurd (s.symm.trans hg1) (by simp)
   . rcases H.step hp (by omega) e with ⟨_,z⟩ | ⟨f,hf,_⟩
     . exact z
     . rw [s] at hf;cases hf
theorem PW.keep {M M':Int->Int} {root:Nat} {tab:Nat->Nat->Option Nat} {lf:Nat->Option Lf} (H:PW M root tab lf) (h: ∀ l x (f:Nat),tab l x=some f-> ∀ i:Nat,i<512->En M' f i=En M f i):PW M' root tab lf:=by
 refine ⟨H.t4,H.dom,fun l x f hl e=> ?_,fun l x g h1 h2 h3 e1 e2=> ?_,fun p v e=> ?_,fun p g hp e1 e2=> ?_,H.inj⟩
 . obtain ⟨g,hg,mk⟩:=H.up l x f hl e
   exact ⟨g,hg,by rw [h _ _ g hg _ (Nat.mod_lt _ (by omega))];exact mk⟩
 . rw [h _ _ g e2 _ (Nat.mod_lt _ (by omega))];exact H.no l x g h1 h2 h3 e1 e2
 . obtain ⟨hp,g,hg,mk⟩:=H.lf1 p v e
   exact ⟨hp,g,hg,by rw [h _ _ g hg _ (Nat.mod_lt _ (by omega))];exact mk⟩
 . rw [h _ _ g e2 _ (Nat.mod_lt _ (by omega))];exact H.lf0 p g hp e1 e2
def tabSet (tab:Nat->Nat->Option Nat) (l x:Nat) (o:Option Nat):Nat->Nat->Option Nat:=fun l' x'=>if l'=l/\x'=x then o else tab l' x'
def lfSet (lf:Nat->Option Lf) (p:Nat) (o:Option Lf):Nat->Option Lf:=fun q=>if q=p then o else lf q
theorem tab_same (tab:Nat->Nat->Option Nat) (l x:Nat) (o:Option Nat):tabSet tab l x o l x=o:=if_pos ⟨rfl,rfl⟩
theorem tab_other {tab:Nat->Nat->Option Nat} {l x:Nat} {o:Option Nat} {l' x':Nat} (h: ¬ (l'=l/\x'=x)):tabSet tab l x o l' x'=tab l' x':=if_neg h
theorem lf_same (lf:Nat->Option Lf) (p:Nat) (o:Option Lf):lfSet lf p o p=o:=if_pos rfl
theorem lf_other {lf:Nat->Option Lf} {p q:Nat} {o:Option Lf} (h:q≠p):lfSet lf p o q=lf q:=if_neg h
theorem m512 (x:Nat):x % 512<512:=Nat.mod_lt _ (by omega)
theorem en_o (M:Int->Int) {g f i j:Nat} (x:Int) (hi:i<512) (hj:j<512) (h: ¬ (f=g/\j=i)):En (enSet M g i x) f j=En M f j :=
 en_other M x (by omega) (by omega) (by omega) (by omega) (by omega)
theorem tabV_bd (a d:Bool) {f:Nat} (h:f<1048576):0<=tabV a d f/\tabV a d f<18446744073709551616:=pack_bd _ _ _ _ _ _ _ _ _ (by omega) (by omega)
theorem leafV_bd (a d:Bool) {v:Lf} (h:0<=v.f/\v.f<1048576):0<=leafV a d v/\leafV a d v<18446744073709551616:=pack_bd _ _ _ _ _ _ _ _ _ h.1 h.2
section
variable {M:Int->Int} {root:Nat} {tab:Nat->Nat->Option Nat} {lf:Nat->Option Lf}
theorem PW.addTab (H:PW M root tab lf) {l x g f:Nat} (l1:1<=l) (l3:l<=3) (hx:l=3->x<256) (hn:tab l x=none) (hg:tab (l+1) (x / 512)=some g) (fr: ∀ l' x',tab l' x'≠some f) (f1:f<1048576) (fz: ∀ i:Nat,i<512->En M f i=0) :
 PW (enSet M g (x % 512:Nat) (tabV false false f)) root (tabSet tab l x (some f)) lf:=by
 have gf:f≠g:=fun e=>fr _ _ (by rw [e];exact hg)
 have bd:=tabV_bd false false f1
 have zf: ∀ i:Nat,i<512->En (enSet M g (x % 512:Nat) (tabV false false f)) f i=0:=fun i hi=>by
  rw [en_o M _ (m512 x) hi (fun e=>gf e.1)];exact fz i hi
 have pl: ∀ l' x' g',tab (l'+1) (x' / 512)=some g'->g'=g/\x' % 512=x % 512->l'=l/\x'=x:=fun l' x' g' h1 h2=>by
  have q:=H.inj _ _ _ _ g (h2.1 ▸ h1) hg
  omega
 refine ⟨?_,fun l' x' f' e=> ?_,fun l' x' f' hl e=> ?_,fun l' x' g' h1 h2 h3 e1 e2=> ?_,fun p v e=> ?_,fun p g' hp e1 e2=> ?_,fun l' x' l'' x'' f' e1 e2=> ?_⟩
 . rw [tab_other (by omega)];exact H.t4
 . by_cases c:l'=l/\x'=x
   . obtain ⟨rfl,rfl⟩:=c
     exact ⟨l1,by omega,by omega,hx⟩
   . rw [tab_other c] at e;exact H.dom _ _ _ e
 . by_cases c:l'=l/\x'=x
   . obtain ⟨rfl,rfl⟩:=c
     rw [tab_same] at e
     cases e
     exact ⟨g,by rw [tab_other (by omega)];exact hg,f1,false,false,en_same M _ _ _ bd.1 bd.2⟩
   . rw [tab_other c] at e
     obtain ⟨g',hg',mk⟩:=H.up l' x' f' hl e
     have c2: ¬ (l'+1=l/\x' / 512=x):=fun q=>by
      obtain ⟨rfl,rfl⟩:=q
      rw [hn] at hg';cases hg'
     refine ⟨g',by rw [tab_other c2];exact hg',?_⟩
     rw [en_o M _ (m512 x) (m512 x') (fun q=>c (pl l' x' g' hg' q))]
     exact mk
 . have c: ¬ (l'=l/\x'=x):=fun q=>by
    obtain ⟨rfl,rfl⟩:=q
    rw [tab_same] at e1;cases e1
   rw [tab_other c] at e1
   by_cases c2:l'+1=l/\x' / 512=x
   . obtain ⟨rfl,rfl⟩:=c2
     rw [tab_same] at e2
     cases e2
     exact zf _ (m512 x')
   . rw [tab_other c2] at e2
     rw [en_o M _ (m512 x) (m512 x') (fun q=>c (pl l' x' g' e2 q))]
     exact H.no l' x' g' h1 h2 h3 e1 e2
 . obtain ⟨hp,g',hg',mk⟩:=H.lf1 p v e
   have c2: ¬ (1=l/\p / 512=x):=fun q=>by
    obtain ⟨rfl,rfl⟩:=q
    rw [hn] at hg';cases hg'
   refine ⟨hp,g',by rw [tab_other c2];exact hg',?_⟩
   rw [en_o M _ (m512 x) (m512 p) (fun q=>by have:=(H.inj _ _ _ _ g (q.1 ▸ hg') hg).1;omega)]
   exact mk
 . by_cases c2:1=l/\p / 512=x
   . obtain ⟨rfl,rfl⟩:=c2
     rw [tab_same] at e2
     cases e2
     exact zf _ (m512 p)
   . rw [tab_other c2] at e2
     rw [en_o M _ (m512 x) (m512 p) (fun q=>by have:=(H.inj _ _ _ _ g (q.1 ▸ e2) hg).1;omega)]
     exact H.lf0 p g' hp e1 e2
 . by_cases c:l'=l/\x'=x
   . by_cases c2:l''=l/\x''=x
     . omega
     . obtain ⟨rfl,rfl⟩:=c
       rw [tab_same] at e1
       cases e1
       rw [tab_other c2] at e2
       exact absurd e2 (fr _ _)
   . rw [tab_other c] at e1
     by_cases c2:l''=l/\x''=x
     . obtain ⟨rfl,rfl⟩:=c2
       rw [tab_same] at e2
       cases e2
       exact absurd e1 (fr _ _)
     . rw [tab_other c2] at e2
       exact H.inj _ _ _ _ _ e1 e2
theorem PW.setLeaf (H:PW M root tab lf) {p g:Nat} {v:Lf} (hp:p<34359738368) (hg:tab 1 (p / 512)=some g) (hv:0<=v.f/\v.f<1048576) :
 PW (enSet M g (p % 512:Nat) (leafV false false v)) root tab (lfSet lf p (some v)):=by
 have bd:=leafV_bd false false hv
 have ol: ∀ l x g' (j:Nat),1<=l->tab (l+1) x=some g'->j<512->En (enSet M g (p % 512:Nat) (leafV false false v)) g' j=En M g' j:=fun l x g' j hl e hj =>
  en_o M _ (m512 p) hj (fun q=>by have:=(H.inj _ _ _ _ g (q.1 ▸ e) hg).1;omega)
 have op: ∀ q g',q≠p->tab 1 (q / 512)=some g'->En (enSet M g (p % 512:Nat) (leafV false false v)) g' (q % 512:Nat)=En M g' (q % 512:Nat):=fun q g' hq e =>
  en_o M _ (m512 p) (m512 q) (fun h=>by have:=(H.inj _ _ _ _ g (h.1 ▸ e) hg).2;omega)
 refine ⟨H.t4,H.dom,fun l x f hl e=> ?_,fun l x g' h1 h2 h3 e1 e2=> ?_,fun q u e=> ?_,fun q g' hq e1 e2=> ?_,H.inj⟩
 . obtain ⟨g',hg',mk⟩:=H.up l x f hl e
   exact ⟨g',hg',by rw [ol l _ g' _ (H.dom _ _ _ e).1 hg' (m512 x)];exact mk⟩
 . rw [ol l _ g' _ h1 e2 (m512 x)];exact H.no l x g' h1 h2 h3 e1 e2
 . by_cases c:q=p
   . subst c
     rw [lf_same] at e
     cases e
     exact ⟨hp,g,hg,hv,false,false,en_same M _ _ _ bd.1 bd.2⟩
   . rw [lf_other c] at e
     obtain ⟨hq,g',hg',mk⟩:=H.lf1 q u e
     exact ⟨hq,g',hg',by rw [op q g' c hg'];exact mk⟩
 . have c:q≠p:=fun e=>by subst e;rw [lf_same] at e1;cases e1
   rw [lf_other c] at e1
   rw [op q g' c e2];exact H.lf0 q g' hq e1 e2
end
structure Rt (m:Pm) (s:Ps) (root:Nat) (tab:Nat->Nat->Option Nat) (lf:Nat->Option Lf):Prop where
 pw:PW s.M root tab lf
 fu:Full tab lf
 ow: ∀ l x (f:Nat),tab l x=some f->m.has f=true/\s.G f=some 0/\ ¬ s.Fr f
theorem follow_rt {X:Nat->Prop} {W:World} {m:Pm} {s:Ps} (h:Pu X W m s) {root:Nat} {tab:Nat->Nat->Option Nat} {lf:Nat->Option Lf} (H:PW s.M root tab lf) (ow: ∀ l x (f:Nat),tab l x=some f->m.has f=true) (k:Int) (p:Nat) (hp:p<34359738368) :
 Calls Tryz.prog 128 #[pv m k,.int .i64 root,.int .i64 p] W fun e w'=> ∃ (g c:Nat) (L:List Nat),e=.returned (tv (atP p) g L.length c)/\IR w' g L/\Li.OI w' W.heap.size (.slice (some ⟨g,0,none⟩) L.length c) (ints L)/\W.heap.size<=g/\Trl tab p L/\(∀ x∈L,m.has (x:Nat)=true)/\bc W w':=by
 obtain ⟨a0,a1,a2,a3⟩:=at_at p
 have hh: ∀ L,Pth s.M root (atP p) L->L.length<=4-> ∀ x∈L,m.has (x:Nat)=true:=fun L hP l4 x hx=>by
  obtain ⟨i,hi,rfl⟩:=List.getElem_of_mem hx
  exact ow _ _ _ (H.pth hp hP l4 i _ (List.getElem?_eq_getElem hi))
 refine (follow_any h k root p hp (atP p) a0 a1 a2 a3 hh).mono ?_
 rintro e w' ⟨g,c,L,he,hr,ho,lg,hP,l1,l4,hs,hb⟩
 exact ⟨g,c,L,he,hr,ho,lg,H.trl hp hP l1 l4 hs,hh L hP l4,hb⟩
theorem zeroL_other {M:Int->Int}: ∀ (L:List Nat) {f:Nat},f∉L-> ∀ i:Nat,i<512->En (zeroL M L) f i=En M f i:=by
 intro L
 induction L generalizing M with
 | nil => intro f _ i _; rfl
 | cons a L ih =>
  intro f hf i hi
  show En (zeroL (mzero M a) L) f i=_
  rw [ih (fun h=>hf (List.mem_cons_of_mem _ h)) i hi,en_zero_other M (by omega) (by omega) (fun e=>hf (by have q:f=a:=(by omega);rw [q];exact List.mem_cons_self))]
theorem zeroL_in {M:Int->Int}: ∀ (L:List Nat) {f:Nat},f∈L-> ∀ i:Nat,i<512->En (zeroL M L) f i=0:=by
 intro L
 induction L generalizing M with
 | nil => intro f h; exact absurd h List.not_mem_nil
 | cons a L ih =>
  intro f hf i hi
  show En (zeroL (mzero M a) L) f i=0
  by_cases c:f∈L
  . exact ih c i hi
  . rw [zeroL_other L c i hi]
    rcases List.mem_cons.1 hf with e | e
    . rw [e];exact en_zero M _ _ (by omega) (by omega)
    . exact absurd e c
structure MP (M0 M:Int->Int) (root:Nat) (tab0 tab:Nat->Nat->Option Nat) (lf:Nat->Option Lf) (p:Nat) (L Lm:List Nat) (i:Nat):Prop where
 pw:PW M root tab lf
 is: ∀ (j x:Nat),(L++Lm.take i)[j]? =some x->tab (4-j) (pre (4-j) p)=some x
 nxt: ∀ l,1<=l->l+(L.length+i)<=4->tab l (pre l p)=none
 old: ∀ l x f,tab0 l x=some f->tab l x=some f
 new: ∀ l x f,tab l x=some f->tab0 l x=some f\/(f∈Lm.take i/\x=pre l p/\l<4)
 oth: ∀ f:Nat,(∀ l x,tab0 l x≠some f)->f∉Lm-> ∀ j:Nat,j<512->En M f j=En M0 f j
 zer: ∀ f∈Lm.drop i,∀ j:Nat,j<512->En M f j=0
 hi: ∀ j:Nat,256<=j->j<512->En M root j=En M0 root j
theorem none_below (H:PW M root tab lf) {p:Nat}: ∀ (n l:Nat),1<=l->l+n<=4->tab (l+n) (pre (l+n) p)=none->tab l (pre l p)=none
 | 0, l, _, _, h => h
 | n + 1, l, h1, h2, h => by
  have ih:=none_below H n (l+1) (by omega) (by omega) (by rw [show l+1+n=l+(n+1) by omega];exact h)
  cases q:tab l (pre l p) with
  | none => rfl
  | some f =>
   obtain ⟨g,hg,_⟩:=H.up l _ f (by omega) q
   rw [<- pre_next,ih] at hg
   cases hg
theorem MP.start (H:PW M root tab lf) {p:Nat} {L Lm:List Nat} (T:Trl tab p L) (hl:L.length+Lm.length=4) (hf: ∀ f∈Lm,∀ l x,tab l x≠some f):MP M (zeroL M Lm) root tab tab lf p L Lm 0:=by
 refine ⟨H.keep (fun l x f e i hi=>zeroL_other Lm (fun h=>hf f h l x e) i hi),fun j x e=>T.is j x (by simpa using e),fun l h1 h2=> ?_,fun _ _ _ e=>e,fun _ _ _ e=>Or.inl e,fun f _ hn j hj=>zeroL_other Lm hn j hj,fun f h j hj=>zeroL_in Lm (by simpa using h) j hj,fun j _ hj=>zeroL_other Lm (fun h=>hf root h 4 0 H.t4) j hj⟩
 have s:=T.stop (by omega)
 exact none_below H (4-L.length-l) l h1 (by omega) (by rw [show l+(4-L.length-l)=4-L.length by omega];exact s)
theorem MP.step {M0 M:Int->Int} {root:Nat} {tab0 tab:Nat->Nat->Option Nat} {lf:Nat->Option Lf} {p:Nat} {L Lm:List Nat} {i:Nat} (H:MP M0 M root tab0 tab lf p L Lm i) (hp:p<34359738368) (nd:Lm.Nodup) (l1:1<=L.length) (hl:L.length+Lm.length=4) (hi:i<Lm.length) (hf: ∀ f∈Lm,f<1048576/\ ∀ l x,tab0 l x≠some f)
 {n:Nat} (hn:(L++Lm.take i).length=n+1) :
 MP M0 (enSet M ((L++Lm.take i)[n]'(by omega):Nat) (atP p n) (tabV false false Lm[i])) root tab0 (tabSet tab (3-n) (pre (3-n) p) (some Lm[i])) lf p L Lm (i+1):=by
 have li:(Lm.take i).length=i:=by rw [List.length_take];omega
 have e1:L.length+i=n+1:=by rw [List.length_append,li] at hn;exact hn
 obtain ⟨g,hg⟩: ∃ g,(L++Lm.take i)[n]'(by omega)=g:=⟨_,rfl⟩
 rw [hg]
 have tg:tab (3-n+1) (pre (3-n) p / 512)=some g:=by
  have q:=H.is n g (by rw [<- hg];exact List.getElem?_eq_getElem (by omega))
  rw [show 4-n=3-n+1 by omega,pre_next] at q
  exact q
 have hn0:tab (3-n) (pre (3-n) p)=none:=H.nxt (3-n) (by omega) (by omega)
 have mi:Lm[i]∈Lm:=List.getElem_mem hi
 have ni:Lm[i]∉Lm.take i:=fun q=>by
  have:=nd
  rw [<- List.take_append_drop i Lm,List.nodup_append] at this
  refine this.2.2 _ q _ ?_ rfl
  rw [List.drop_eq_getElem_cons hi];exact List.mem_cons_self
 have fresh: ∀ l' x',tab l' x'≠some Lm[i]:=fun l' x' e=>by
  rcases H.new _ _ _ e with q | q
  . exact (hf _ mi).2 _ _ q
  . exact ni q.1
 have zi: ∀ j:Nat,j<512->En M Lm[i] j=0:=H.zer Lm[i] (by rw [List.drop_eq_getElem_cons hi];exact List.mem_cons_self)
 have x3:3-n=3->pre (3-n) p<256:=fun e=>by rw [e];exact pre3 hp
 have P:=H.pw.addTab (l:=3-n) (x:=pre (3-n) p) (by omega) (by omega) x3 hn0 tg fresh (hf _ mi).1 zi
 have et:Lm.take (i+1)=Lm.take i++[Lm[i]]:=List.take_succ_eq_append_getElem hi
 refine ⟨P,fun j x e=> ?_,fun l h1 h2=> ?_,fun l x f e=> ?_,fun l x f e=> ?_,fun f h1 h2 j hj=> ?_,fun f h j hj=> ?_,fun j h1 hj=> ?_⟩
 . rw [et,<- List.append_assoc] at e
   by_cases c:j<n+1
   . rw [List.getElem?_append_left (by omega)] at e
     rw [tab_other (by omega)]
     exact H.is j x e
   . have jl:j<(L++Lm.take i++[Lm[i]]).length:=(List.getElem?_eq_some_iff.1 e).1
     rw [List.length_append,hn] at jl
     have ej:j=n+1:=by simp at jl;omega
     subst ej
     rw [<- hn,List.getElem?_append_right (Nat.le_refl _)] at e
     simp at e
     subst e
     rw [show 4-(n+1)=3-n by omega]
     exact tab_same _ _ _ _
 . rw [tab_other (by omega)];exact H.nxt l h1 (by omega)
 . have q:=H.old _ _ _ e
   rw [tab_other (fun c=>by rw [c.1,c.2,hn0] at q;cases q)];exact q
 . by_cases c:l=3-n/\x=pre (3-n) p
   . obtain ⟨rfl,rfl⟩:=c
     rw [tab_same] at e
     cases e
     exact Or.inr ⟨by rw [et];exact List.mem_append_right _ List.mem_cons_self,rfl,by omega⟩
   . rw [tab_other c] at e
     rcases H.new _ _ _ e with q | q
     . exact Or.inl q
     . exact Or.inr ⟨by rw [et];exact List.mem_append_left _ q.1,q.2⟩
 . have fg:f≠g:=fun q=>by
    rcases H.new _ _ _ tg with z | z
    . exact h1 _ _ (by rw [q];exact z)
    . exact h2 (by rw [q];exact List.mem_of_mem_take z.1)
   rw [<- H.oth f h1 h2 j hj]
   exact en_other M _ (at_bd p n).1 (at_bd p n).2 (by omega) (by omega) (Or.inl (by omega))
 . have fd:f∈Lm.drop i:=by rw [List.drop_eq_getElem_cons hi];exact List.mem_cons_of_mem _ h
   have fg:f≠g:=fun q=>by
    have fm:f∈Lm:=List.mem_of_mem_drop h
    rcases H.new _ _ _ tg with z | z
    . exact (hf f fm).2 _ _ (by rw [q];exact z)
    . have:=nd
      rw [<- List.take_append_drop i Lm,List.nodup_append] at this
      exact this.2.2 _ z.1 _ (q ▸ fd) rfl
   rw [en_other M _ (at_bd p n).1 (at_bd p n).2 (by omega) (by omega) (Or.inl (by omega))]
   exact H.zer f fd j hj
 . rw [<- H.hi j h1 hj]
   by_cases c:root=g
   . have e0:=(H.pw.inj 4 0 (3-n+1) (pre (3-n) p / 512) root H.pw.t4 (by rw [tg,c])).1
     have p3:=pre3 hp
     have n0:n=0:=by omega
     have a0:atP p n=((pre 3 p % 512:Nat):Int):=by rw [n0];rfl
     exact en_other M _ (at_bd p n).1 (at_bd p n).2 (by omega) (by omega) (Or.inr (by rw [a0];omega))
   . exact en_other M _ (at_bd p n).1 (at_bd p n).2 (by omega) (by omega) (Or.inl (by omega))
theorem MP.leaf {M0 M:Int->Int} {root:Nat} {tab0 tab:Nat->Nat->Option Nat} {lf:Nat->Option Lf} {p:Nat} {L Lm:List Nat} (H:MP M0 M root tab0 tab lf p L Lm Lm.length) (fu:Full tab0 lf) (hp:p<34359738368) (hl:L.length+Lm.length=4) (hf: ∀ f∈Lm,∀ l x,tab0 l x≠some f) {v:Lf} (hv:0<=v.f/\v.f<1048576) (h4:3<(L++Lm).length) :
 PW (enSet M ((L++Lm)[3]'h4:Nat) (atP p 3) (leafV false false v)) root tab (lfSet lf p (some v))/\Full tab (lfSet lf p (some v))/\(∀ f:Nat,(∀ l x,tab0 l x≠some f)->f∉Lm-> ∀ j:Nat,j<512->En (enSet M ((L++Lm)[3]'h4:Nat) (atP p 3) (leafV false false v)) f j=En M0 f j)/\(∀ j:Nat,256<=j->j<512->En (enSet M ((L++Lm)[3]'h4:Nat) (atP p 3) (leafV false false v)) root j=En M0 root j):=by
 have is:=H.is
 have new:=H.new
 rw [List.take_length] at is new
 obtain ⟨g,hg⟩: ∃ g,(L++Lm)[3]'h4=g:=⟨_,rfl⟩
 have tg:tab 1 (p / 512)=some g:=is 3 g (by rw [<- hg];exact List.getElem?_eq_getElem h4)
 rw [hg]
 refine ⟨H.pw.setLeaf hp tg hv,fun l x f l4 e=> ?_,fun f h1 h2 j hj=> ?_,fun j h1 hj=> ?_⟩
 . rcases new _ _ _ e with q | q
   . obtain ⟨p',hp',e'⟩:=fu l x f l4 q
     refine ⟨p',?_,e'⟩
     by_cases c:p'=p
     . rw [c,lf_same];rfl
     . rw [lf_other c];exact hp'
   . exact ⟨p,by rw [lf_same];rfl,q.2.1.symm⟩
 . have fg:f≠g:=fun q=>by
    rcases new _ _ _ tg with z | z
    . exact h1 _ _ (by rw [q];exact z)
    . exact h2 (by rw [q];exact z.1)
   rw [<- H.oth f h1 h2 j hj]
   exact en_other M _ (at_bd p 3).1 (at_bd p 3).2 (by omega) (by omega) (Or.inl (by omega))
 . have ne:root≠g:=fun q=>by
    have:=(H.pw.inj 4 0 1 (p / 512) root H.pw.t4 (by rw [tg,q])).1
    omega
   rw [<- H.hi j h1 hj]
   exact en_other M _ (at_bd p 3).1 (at_bd p 3).2 (by omega) (by omega) (Or.inl (by omega))
end
end Go.Proofs.YtgbdnnkkcpkhdaaGreatDoor.Tt
namespace Go.Proofs.YtgbdnnkkcpkhdaaGreatDoor.Tt
open Go.Proofs.YtgbdnnkkcpkhdaaGreatDoor.Li (wpList_app)
structure MI (X:Nat->Prop) (W0:World) (A P T:Nat) (m:Pm) (k:Nat) (pa pb pc:Bool) (at_:At) (mv:Value) (Lm:List Nat) (st:Ps) (Lt:List Nat) (v:Value) (w:World):Prop where
 pu: ∃ Y:Nat->Prop,Pu Y w m st/\(∀ j,X j->Y j)/\(Y A/\Y P/\Y T)/\(∀ g,mv.ownBlock=some g->Y g)/\ ∀ g,v.ownBlock=some g->Y g
 bA:Blk w A [pp m.rb,pp m.b,pp m.tb,.int .i64 k] 66
 bP:Blk w P (sk pa pb pc) 45
 bT:Blk w T [.int .i64 (at_ 0),.int .i64 (at_ 1),.int .i64 (at_ 2),.int .i64 (at_ 3),v] 240
 own:Li.OI w W0.heap.size v (ints Lt)
 mor:Li.OI w W0.heap.size mv (ints Lm)
 kx:Kx X W0 w
 nv:v.ownBlock≠some A/\v.ownBlock≠some P/\v.ownBlock≠some T/\ ∀ g,v.ownBlock=some g->mv.ownBlock≠some g
 nm:mv.ownBlock≠some T
 dis:A≠T/\P≠T/\W0.heap.size<=T
 pos:0<W0.heap.size
 xl: ∀ j,X j->j<W0.heap.size
section
variable {X:Nat->Prop} {W0 w:World} {A P T:Nat} {m:Pm} {k:Nat} {pa pb pc:Bool} {at_:At} {mv:Value} {Lm:List Nat} {st:Ps} {Lt:List Nat} {v:Value}
theorem MI.lift (H:MI X W0 A P T m k pa pb pc at_ mv Lm st Lt v w) {f:FuncId} {args:Array Value} {Q:Ending->Prop} {st':Ps} (h: ∀ Y:Nat->Prop,Pu Y w m st->(∀ g,v.ownBlock=some g->Y g)->Calls Tryz.prog f args w fun e w'=>Q e/\Pu Y w' m st'/\Kx Y w w') :
 Calls Tryz.prog f args w fun e w'=>Q e/\MI X W0 A P T m k pa pb pc at_ mv Lm st' Lt v w':=by
 obtain ⟨Y,hY,hX,⟨yA,yP,yT⟩,hm,hv⟩:=H.pu
 refine (h Y hY hv).mono ?_
 rintro e w' ⟨he,hp,hk⟩
 exact ⟨he,⟨Y,hp,hX,⟨yA,yP,yT⟩,hm,hv⟩,H.bA.kx hk yA,H.bP.kx hk yP,H.bT.kx hk yT,Li.row_keep H.own (fun g e=>hk.block g (hv g e)),Li.row_keep H.mor (fun g e=>hk.block g (hm g e)),H.kx.trans (hk.sub hX),H.nv,H.nm,H.dis,H.pos,H.xl⟩
theorem MI.below {w':World} (H:MI X W0 A P T m k pa pb pc at_ mv Lm st Lt v w) (hb:bc w w'):MI X W0 A P T m k pa pb pc at_ mv Lm st Lt v w':=by
 obtain ⟨Y,hY,hX,yy,hm,hv⟩:=H.pu
 have hk:=Kx.of_below hY hb
 exact ⟨⟨Y,hY.below hb,hX,yy,hm,hv⟩,H.bA.below hb,H.bP.below hb,H.bT.below hb,Li.row_below H.own hb,Li.row_below H.mor hb,H.kx.trans (hk.sub hX),H.nv,H.nm,H.dis,H.pos,H.xl⟩
theorem MI.form (H:MI X W0 A P T m k pa pb pc at_ mv Lm st Lt v w) (h0:0<Lt.length): ∃ g c,v=.slice (some ⟨g,0,none⟩) Lt.length c/\IR w g Lt:=by
 obtain ⟨p,c,hv,_⟩:=(Li.ol_ll Li.eI_len H.own).form
 rw [List.length_map] at hv
 have ho:=H.own
 rw [hv] at ho
 obtain ⟨g,rfl,lg,_⟩:=ii_read ho 0 h0
 refine ⟨g,c,hv,lg,fun i hi=> ?_⟩
 obtain ⟨g',e,_,hc⟩:=ii_read ho i hi
 cases e
 exact hc
theorem MI.app (H:MI X W0 A P T m k pa pb pc at_ mv Lm st Lt v w) (hL:Lt.length<=1000) (y:Nat) :
 ∃ g' n' c' W2,(Builtin.append_ #[22,22] 22 #[v,.slice (some ⟨w.heap.size,0,none⟩) 1 1]).run Tryz.prog (w.alloc (.cells #[.int .i64 y] 3))=.ok (.slice (some ⟨g',0,none⟩) n' c') W2/\n'=Lt.length+1/\MI X W0 A P T m k pa pb pc at_ mv Lm st (Lt++[y]) (.slice (some ⟨g',0,none⟩) n' c') (W2.setCell ⟨T,4,none⟩ (.slice (some ⟨g',0,none⟩) n' c'))/\W2.cell? ⟨T,4,none⟩=some v/\W2.frozen? ⟨T,4,none⟩=false/\T<W2.heap.size:=by
 obtain ⟨v',W2,r,ho,hg,hat⟩:=Li.app_row Li.eI_len Li.eI_one (by decide) Tryz.underlying22 Li.infoI rfl (by decide) W0.heap.size v (ints Lt) (y:Int) (by rw [List.length_map];omega) w H.own H.kx.size
 have s1:(w.alloc (.cells (Li.eI y).toArray 3)).heap.size=w.heap.size+1:=World.size_alloc _ _
 have b1:bc w (w.alloc (.cells (Li.eI y).toArray 3)):=baa
 have vb: ∀ g,v.ownBlock=some g->W0.heap.size<=g:=fun g e=>(Li.row_lt H.own g e).1
 have same: ∀ j,j<w.heap.size->v.ownBlock≠some j->W2.heap[j]? =w.heap[j]? :=fun j hj ne=>(hg.block j (by rw [s1];omega) (fun e=>ne e.symm)).trans (b1.block j hj)
 have sz:w.heap.size<=W2.heap.size:=Nat.le_trans b1.size hg.size
 have bA:Blk W2 A [pp m.rb,pp m.b,pp m.tb,.int .i64 k] 66:=(same A H.bA.lt H.nv.1).trans H.bA
 have bP:Blk W2 P (sk pa pb pc) 45:=(same P H.bP.lt H.nv.2.1).trans H.bP
 have bT:Blk W2 T [.int .i64 (at_ 0),.int .i64 (at_ 1),.int .i64 (at_ 2),.int .i64 (at_ 3),v] 240:=(same T H.bT.lt H.nv.2.2.1).trans H.bT
 have new: ∀ j,j<w.heap.size->v.ownBlock≠some j->v'.ownBlock≠some j:=fun j hj ne e=>by
  rcases hat with q | q
  . rw [q] at e;exact ne e
  . rw [q] at e;have:=sia e;omega
 have nA:=new A H.bA.lt H.nv.1
 have nP:=new P H.bP.lt H.nv.2.1
 have nT:=new T H.bT.lt H.nv.2.2.1
 have mb: ∀ g,mv.ownBlock=some g->g<w.heap.size/\v.ownBlock≠some g:=fun g e=>⟨(Li.row_lt H.mor g e).2,fun q=>H.nv.2.2.2 g q e⟩
 have gs:=Qu.grown_setCell1 W2 T 4 v'
 have e9:ints (Lt++[y])=ints Lt++[(y:Int)]:=by simp [ints]
 have ho2:Li.OI W2 W0.heap.size v' (ints (Lt++[y])):=by rw [e9];exact ho
 have kx2:Kx X W0 W2:=⟨hg.os.trans (b1.os.trans H.kx.os),hg.tape.trans (b1.tape.trans H.kx.tape),hg.output.trans (b1.output.trans H.kx.output),Nat.le_trans H.kx.size sz,fun j hj=>(same j (nla (H.xl j hj) H.kx.size) (fun e=>by have:=vb j e;have:=H.xl j hj;omega)).trans (H.kx.block j hj)⟩
 obtain ⟨p',c',hv',_⟩:=(Li.ol_ll Li.eI_len ho2).form
 rw [List.length_map] at hv'
 obtain ⟨g',hg'⟩: ∃ g',p'=some ⟨g',0,none⟩:=by
  have q:=ho2
  rw [hv'] at q
  obtain ⟨g,e,_⟩:=ii_read q 0 (by simp)
  exact ⟨g,e⟩
 subst hg'
 have M2:MI X W0 A P T m k pa pb pc at_ mv Lm st (Lt++[y]) v' (W2.setCell ⟨T,4,none⟩ v'):=by
  obtain ⟨Y,hY,hX,⟨yA,yP,yT⟩,hm,hvY⟩:=H.pu
  have T0:T≠0:=by have:=H.dis.2.2;have:=H.pos;omega
  have q1:=hY.other sz (fun j hj nx=>same j hj (fun e=>nx (hvY j e))) (same 0 hY.tab.1 (fun e=>by have:=vb 0 e;have:=H.pos;omega))
  have q2:=q1.poke (j:=T) (Or.inl yT) T0 gs
  refine ⟨⟨_,q2,fun j hj=>Or.inl (hX j hj),⟨Or.inl yA,Or.inl yP,Or.inl yT⟩,fun g e=>Or.inl (hm g e),fun g e=> ?_⟩,(gs.block A bA.lt (fun e=>H.dis.1 (by have:=sia e;omega))).trans bA,(gs.block P bP.lt (fun e=>H.dis.2.1 (by have:=sia e;omega))).trans bP,bT.set 4 v',Li.row_keep ho2 (fun g e=>gs.block g (Li.row_lt ho2 g e).2 (fun q=>nT (by rw [e,q]))),?_,?_,⟨nA,nP,nT,fun g e q=>new g (mb g q).1 (mb g q).2 e⟩,H.nm,H.dis,H.pos,H.xl⟩
  . rcases hat with q | q
    . exact Or.inl (hvY g (by rw [<- q];exact e))
    . rw [q] at e
      have l:=(Li.row_lt ho2 g (by rw [q];exact e)).2
      have:=sia e
      exact Or.inr ⟨by omega,l⟩
  . have m2:Li.OI W2 W0.heap.size mv (ints Lm):=Li.row_keep H.mor (fun g e=>same g (mb g e).1 (mb g e).2)
    exact Li.row_keep m2 (fun g e=>gs.block g (Li.row_lt m2 g e).2 (fun q=>H.nm (by rw [e,q])))
  . exact ⟨gs.os.trans kx2.os,gs.tape.trans kx2.tape,gs.output.trans kx2.output,Nat.le_trans kx2.size gs.size,fun j hj=>(gs.block j (nla (H.xl j hj) kx2.size) (fun e=>by have:=sia e;have:=H.xl j hj;have:=H.dis.2.2;omega)).trans (kx2.block j hj)⟩
 rw [hv'] at r M2
 refine ⟨g',_,c',W2,r,by simp,M2,bT.cell 4,bT.free 4,bT.lt⟩
theorem fld0 (b0 b1 b2 b3 b4 b5 b6 b7:Bool) (f:Int) (W:World):(Instr.field 98 (.agg (sd b0 b1 b2 b3 b4 b5 b6 b7 f)) 0).run Tryz.prog W=.ok (.bool b0) W:=ka
def miss (tab:Nat->Nat->Option Nat) (p:Nat):Nat:=if tab 3 (pre 3 p)=none then 3 else if tab 2 (pre 2 p)=none then 2 else if tab 1 (pre 1 p)=none then 1 else 0
theorem trl_len {tab:Nat->Nat->Option Nat} {p:Nat} {L:List Nat} (T:Trl tab p L):L.length+miss tab p=4:=by
 have l1:=T.l1
 have l4:=T.l4
 have g: ∀ i,(hi:i<L.length)->tab (4-i) (pre (4-i) p)=some L[i]:=fun i hi=>T.is i _ (List.getElem?_eq_getElem hi)
 unfold miss
 rcases (show L.length=1\/L.length=2\/L.length=3\/L.length=4 by omega) with e | e | e | e
 . have s:=T.stop (by omega)
   rw [e] at s
   rw [if_pos s];omega
 . have s:=T.stop (by omega)
   rw [e] at s
   have a:tab 3 (pre 3 p)=_:=g 1 (by omega)
   rw [if_neg (by rw [a];simp),if_pos s];omega
 . have s:=T.stop (by omega)
   rw [e] at s
   have a:tab 3 (pre 3 p)=_:=g 1 (by omega)
   have b:tab 2 (pre 2 p)=_:=g 2 (by omega)
   rw [if_neg (by rw [a];simp),if_neg (by rw [b];simp),if_pos s];omega
 . have a:tab 3 (pre 3 p)=_:=g 1 (by omega)
   have b:tab 2 (pre 2 p)=_:=g 2 (by omega)
   have c:tab 1 (pre 1 p)=_:=g 3 (by omega)
   rw [if_neg (by rw [a];simp),if_neg (by rw [b];simp),if_neg (by rw [c];simp)];omega
def Mapped (X:Nat->Prop) (W:World) (m:Pm) (s:Ps) (k root:Nat) (tab:Nat->Nat->Option Nat) (lf:Nat->Option Lf) (p:Nat) (v:Lf) (w':World):Prop :=
 ∃ (Lm:List Nat) (M':Int->Int) (tab':Nat->Nat->Option Nat),Lm.length=miss tab p/\InL s Lm/\Pu X w' m { takeS s k Lm with M:=M',q:=s.q+10 }/\Kx X W w'/\PW M' root tab' (lfSet lf p (some v))/\Full tab' (lfSet lf p (some v))/\(∀ l x f,tab' l x=some f->tab l x=some f\/f∈Lm)/\(∀ f:Nat,(∀ l x,tab l x≠some f)->f∉Lm-> ∀ j:Nat,j<512->En M' f j=En s.M f j)/\(∀ j:Nat,256<=j->j<512->En M' root j=En s.M root j)
theorem link_n {X:Nat->Prop} {W:World} {m:Pm} {s:Ps} (h:Pu X W m s) (hq:s.q<4611686018427387904) (k:Int) (at_:At) (g c:Nat) (L:List Nat) (l n:Nat) (hn:n=l+1) (hl:L.length=l+1) (l3:l<4) (hL:m.has (L[l]'(by omega):Nat)=true) (ha:0<=at_ l/\at_ l<512) (hr:IR W g L) (hg:X g) (p r u a d lg gl nn:Bool) (fr:Int) (r0:0<=fr) (r1:fr<1048576) :
 Calls Tryz.prog 130 #[pv m k,tv at_ g n c,ev p r u a d lg gl nn fr] W fun e w'=>e=.returned (.tuple #[])/\Pu X w' m { s with M:=enSet s.M (L[l]'(by omega):Nat) (at_ l) (packV p r u a d lg gl nn fr),q:=s.q+2 }/\Kx X W w':=by
 subst hn
 exact link_any h hq k at_ g c L l hl l3 hL ha hr hg p r u a d lg gl nn fr r0 r1
theorem map_ok {X:Nat->Prop} {W:World} {m:Pm} {s:Ps} (h:Pu X W m s) {root:Nat} {tab:Nat->Nat->Option Nat} {lf:Nat->Option Lf} (H:Rt m s root tab lf) (k:Nat) (b:Box m s k) (p:Nat) (hp:p<34359738368) (fr:Int) (hfr:0<=fr/\fr<1048576) (pa pb pc:Bool) (ht:lf p=none) (hq:s.q<4000000000000000000) (hr:(miss tab p:Nat)<=(s.T k).room) :
 Calls Tryz.prog 111 #[pv m k,.int .i64 root,.int .i64 p,.int .i64 fr,.agg (sn pa pb pc)] W fun e w'=>e=.returned (.int .i64 0)/\Mapped X W m s k root tab lf p ⟨fr,pa,pb,pc⟩ w':=by
 have HT:Hid (lf p=none):=ht
 have HR:Hid ((miss tab p:Nat)<=(s.T k).room/\Box m s k):=⟨hr,b⟩
 have HQ:Hid (s.q<4000000000000000000):=hq
 clear ht hr b hq
 have IP:Hid (∀ w:World,Calls Tryz.prog 127 #[.int .i64 (p:Nat)] w fun e w'=>e=.returned (.bool true)/\w'=w):=fun w=>page_any p true ⟨fun _=>⟨by omega,by omega⟩,fun _=>rfl⟩ w
 have FC:Hid (∀ w:World,bc W w->Calls Tryz.prog 128 #[pv m k,.int .i64 root,.int .i64 p] w _):=fun w hb=>follow_rt (h.below hb) H.pw (fun l x f e=>(H.ow l x f e).1) k p hp
 have LC:Hid (∀ (w:World) (L:List Nat) (g c l n':Nat) (hl:L.length=l+1),n'=l+1->Trl tab p L->(∀ x∈L,m.has (x:Nat)=true)->IR w g L->bc W w->Calls Tryz.prog 129 #[pv m k,tv (atP p) g n' c] w (re (unp (En s.M (L[l]'(by omega):Nat) (atP p l))) w)):=fun w L g c l n' hl hn' T hh hr hb=>by
  subst hn'
  exact last_any (h.below hb) k (atP p) g c L l hl (by have:=T.l4;omega) (hh _ (List.getElem_mem _)) (at_bd p l) hr
 have HB1:Hid (bc W ((W.alloc (.cells #[pp m.rb,pp m.b,pp m.tb,.int .i64 k] 66)).alloc (.cells (sn pa pb pc) 45))):=below_then baa baa
 have BA1:Hid (Blk ((W.alloc (.cells #[pp m.rb,pp m.b,pp m.tb,.int .i64 k] 66)).alloc (.cells (sn pa pb pc) 45)) W.heap.size [pp m.rb,pp m.b,pp m.tb,.int .i64 k] 66):=(Blk.made W [pp m.rb,pp m.b,pp m.tb,.int .i64 k] 66).below baa
 have BP1:Hid (Blk ((W.alloc (.cells #[pp m.rb,pp m.b,pp m.tb,.int .i64 k] 66)).alloc (.cells (sn pa pb pc) 45)) (W.heap.size+1) (sk pa pb pc) 45):=by
  have s1:(W.alloc (.cells #[pp m.rb,pp m.b,pp m.tb,.int .i64 k] 66)).heap.size=W.heap.size+1:=World.size_alloc _ _
  rw [<- s1]
  exact Blk.made _ (sk pa pb pc) 45
 have d1:decide (fr<0)=false:=kh
 have d2:decide (1048576<=fr)=false:=kh
 have HFR:Hid (0<=fr/\fr<1048576):=hfr
 have HH:Hid (Pu X W m s/\Rt m s root tab lf):=⟨h,H⟩
 have HP:Hid (p<34359738368):=hp
 clear h H hfr hp
 go_enter Tryz.func111,Tryz.ntmps111
 go_upto_region 1 with fail
 generalize ((W.alloc (.cells #[pp m.rb,pp m.b,pp m.tb,.int .i64 k] 66)).alloc (.cells (sn pa pb pc) 45))=W1 at HB1 BA1 BP1 |-
 obtain ⟨P,hP⟩: ∃ P,W.heap.size+1=P:=⟨_,rfl⟩
 obtain ⟨A,hA⟩: ∃ A,W.heap.size=A:=⟨_,rfl⟩
 have LO:Hid (W.heap.size<=A/\W.heap.size<=P):=⟨by omega,by omega⟩
 rw [hP] at BP1 |-
 rw [hA] at BA1 |-
 clear hP hA
 go_wp2_with fail
 refine Calls.mono (IP.out _) ?_
 rintro e w0 ⟨rfl,rfl⟩
 have BX:=BA1.out
 have c0:w0.cell? ⟨A,0,none⟩=some (pp m.rb):=BX.cell 0
 have c1:w0.cell? ⟨A,1,none⟩=some (pp m.b):=BX.cell 1
 have c2:w0.cell? ⟨A,2,none⟩=some (pp m.tb):=BX.cell 2
 have c3:w0.cell? ⟨A,3,none⟩=some (.int .i64 k):=BX.cell 3
 have lA:=BX.lt
 clear BX IP
 go_wp2_with fail
 refine Calls.mono (FC.out w0 HB1.out) ?_
 rintro e w1 ⟨g,c,L,rfl,hr,ho,lg,TL,hh,hb1⟩
 clear c0 c1 c2 c3 lA FC
 obtain ⟨n,hn⟩: ∃ n,L.length=n:=⟨_,rfl⟩
 rw [hn]
 have s2:(w1.alloc (.cells (si (atP p 0) (atP p 1) (atP p 2) (atP p 3) (.slice (some ⟨g,0,none⟩) n c)) 240)).heap.size=w1.heap.size+1:=World.size_alloc _ _
 have bb2:bc w1 (w1.alloc (.cells (si (atP p 0) (atP p 1) (atP p 2) (atP p 3) (.slice (some ⟨g,0,none⟩) n c)) 240)):=baa
 have HN:Hid (L.length=n/\Trl tab p L/\(∀ x∈L,m.has (x:Nat)=true)):=⟨hn,TL,hh⟩
 have F2:Hid (bc W (w1.alloc (.cells (si (atP p 0) (atP p 1) (atP p 2) (atP p 3) (.slice (some ⟨g,0,none⟩) n c)) 240))/\Blk (w1.alloc (.cells (si (atP p 0) (atP p 1) (atP p 2) (atP p 3) (.slice (some ⟨g,0,none⟩) n c)) 240)) A [pp m.rb,pp m.b,pp m.tb,.int .i64 k] 66/\Blk (w1.alloc (.cells (si (atP p 0) (atP p 1) (atP p 2) (atP p 3) (.slice (some ⟨g,0,none⟩) n c)) 240)) P (sk pa pb pc) 45/\Blk (w1.alloc (.cells (si (atP p 0) (atP p 1) (atP p 2) (atP p 3) (.slice (some ⟨g,0,none⟩) n c)) 240)) w1.heap.size (sj (atP p 0) (atP p 1) (atP p 2) (atP p 3) (.slice (some ⟨g,0,none⟩) n c)) 240/\IR (w1.alloc (.cells (si (atP p 0) (atP p 1) (atP p 2) (atP p 3) (.slice (some ⟨g,0,none⟩) n c)) 240)) g L/\Li.OI (w1.alloc (.cells (si (atP p 0) (atP p 1) (atP p 2) (atP p 3) (.slice (some ⟨g,0,none⟩) n c)) 240)) W.heap.size (.slice (some ⟨g,0,none⟩) n c) (ints L)/\(A<w1.heap.size/\P<w1.heap.size/\g<w1.heap.size/\A≠g/\P≠g/\W.heap.size<=g/\W.heap.size<=w1.heap.size/\w1.heap.size<(w1.alloc (.cells (si (atP p 0) (atP p 1) (atP p 2) (atP p 3) (.slice (some ⟨g,0,none⟩) n c)) 240)).heap.size)):=by
  rw [hn] at ho
  have la:=BA1.out.lt
  have lp:=BP1.out.lt
  have sz:=hb1.size
  have sz0:=HB1.out.size
  refine ⟨below_then (below_then HB1.out hb1) bb2,(BA1.out.below hb1).below bb2,(BP1.out.below hb1).below bb2,Blk.made w1 (sj (atP p 0) (atP p 1) (atP p 2) (atP p 3) (.slice (some ⟨g,0,none⟩) n c)) 240,hr.below bb2,Li.row_below (Li.row_weak ho HB1.out.size) bb2,by omega,by omega,hr.1,by omega,by omega,by omega,by omega,by omega⟩
 clear hr ho lg TL hh hb1 hn s2 bb2 HB1 BA1 BP1
 go_upto_region 4 with fail
 generalize w1.alloc (.cells (si (atP p 0) (atP p 1) (atP p 2) (atP p 3) (.slice (some ⟨g,0,none⟩) n c)) 240)=w2 at F2 |-
 generalize w1.heap.size=T at F2 |-
 obtain ⟨l,hl⟩: ∃ l,n=l+1:=⟨n-1,by have:=HN.out.2.1.l1;have:=HN.out.1;omega⟩
 have HL:Hid (n=l+1):=hl
 obtain ⟨y,hy⟩: ∃ y,y=En s.M (L[l]'(by have:=HN.out.1;omega):Nat) (atP p l):=⟨_,rfl⟩
 have LC2:Calls Tryz.prog 129 #[pv m k,tv (atP p) g n c] w2 (re (unp y) w2):=by
  rw [hy]
  exact LC.out w2 L g c l n (by have:=HN.out.1;omega) hl HN.out.2.1 HN.out.2.2 F2.out.2.2.2.2.1 F2.out.1
 have HY:(lf p=none/\y=0)\/ ∃ v,lf p=some v/\MkL y v:=by
  rcases HH.out.2.pw.last HP.out HN.out.2.1 (l:=l) (by have:=HN.out.1;omega) with q | ⟨v,q1,q2,q3⟩
  . exact Or.inl ⟨q.1,hy.trans q.2⟩
  . exact Or.inr ⟨v,q1,by rw [hy];exact q3⟩
 have BX:=F2.out.2.1
 have BT:=F2.out.2.2.2.1
 have c0:w2.cell? ⟨A,0,none⟩=some (pp m.rb):=BX.cell 0
 have c1:w2.cell? ⟨A,1,none⟩=some (pp m.b):=BX.cell 1
 have c2:w2.cell? ⟨A,2,none⟩=some (pp m.tb):=BX.cell 2
 have c3:w2.cell? ⟨A,3,none⟩=some (.int .i64 k):=BX.cell 3
 have t0:w2.cell? ⟨T,0,none⟩=some (.int .i64 (atP p 0)):=BT.cell 0
 have t1:w2.cell? ⟨T,1,none⟩=some (.int .i64 (atP p 1)):=BT.cell 1
 have t2:w2.cell? ⟨T,2,none⟩=some (.int .i64 (atP p 2)):=BT.cell 2
 have t3:w2.cell? ⟨T,3,none⟩=some (.int .i64 (atP p 3)):=BT.cell 3
 have t4:w2.cell? ⟨T,4,none⟩=some (.slice (some ⟨g,0,none⟩) n c):=BT.cell 4
 have lA:=BX.lt
 have lT:=BT.lt
 clear BX BT LC hl hy
 rcases HY with ⟨hno,hy0⟩ | ⟨v0,q,_⟩
 rotate_left
 . exact absurd HT.out (by rw [q];simp)
 subst hy0
 rw [unp_zero] at LC2
 have L3:Hid _:=LC2
 clear LC2 hno
 go_wp2_with fail
 refine Calls.mono L3.out ?_
 rintro e w3 ⟨rfl,hb3⟩
 clear c0 c1 c2 c3 t0 t1 t2 t3 t4 lA lT L3
 have F3:Hid (bc W w3/\Blk w3 A [pp m.rb,pp m.b,pp m.tb,.int .i64 k] 66/\Blk w3 P (sk pa pb pc) 45/\Blk w3 T (sj (atP p 0) (atP p 1) (atP p 2) (atP p 3) (.slice (some ⟨g,0,none⟩) n c)) 240/\Li.OI w3 W.heap.size (.slice (some ⟨g,0,none⟩) n c) (ints L)/\(A<T/\P<T/\g<T/\A≠g/\P≠g/\W.heap.size<=g/\W.heap.size<=T/\T<w3.heap.size)):=by
  obtain ⟨q1,q2,q3,q4,q5,q6,q7⟩:=F2.out
  have:=hb3.size
  exact ⟨below_then q1 hb3,q2.below hb3,q3.below hb3,q4.below hb3,Li.row_below q6 hb3,by omega,by omega,by omega,by omega,by omega,by omega,by omega,by omega⟩
 clear hb3 F2
 have fd:=fld0
 have n4:n<=4:=by have:=HN.out.2.1.l4;have:=HN.out.1;omega
 have n1:1<=n:=by have:=HL.out;omega
 have BX:=F3.out.2.1
 have BT:=F3.out.2.2.2.1
 have c0:w3.cell? ⟨A,0,none⟩=some (pp m.rb):=BX.cell 0
 have c1:w3.cell? ⟨A,1,none⟩=some (pp m.b):=BX.cell 1
 have c2:w3.cell? ⟨A,2,none⟩=some (pp m.tb):=BX.cell 2
 have c3:w3.cell? ⟨A,3,none⟩=some (.int .i64 k):=BX.cell 3
 have t4:w3.cell? ⟨T,4,none⟩=some (.slice (some ⟨g,0,none⟩) n c):=BT.cell 4
 have lA:=BX.lt
 have lT:=BT.lt
 clear BX BT
 obtain ⟨nm,hnm⟩: ∃ nm:Nat,nm=4-n:=⟨_,rfl⟩
 have e4:(4:Int)-(n:Int)=(nm:Int):=by omega
 have HNM:Hid (nm+n=4):=by show _=_;omega
 have nm4:nm<=4:=by omega
 have wN:IntKind.i64.wrap ((4:Int)-(n:Int))=(4:Int)-(n:Int):=kz
 have MN:Hid (miss tab p=nm):=by
  have:=trl_len HN.out.2.1
  have:=HN.out.1
  show _=_
  omega
 have TC:Hid (Calls Tryz.prog 49 #[pv m k,.int .i64 ((4:Int)-(n:Int))] w3 fun e w'=> ∃ (Lm:List Nat) (mv:Value),e=.returned (.tuple #[mv,.int .i64 0])/\Lm.length=nm/\InL s Lm/\MI X W A P T m k pa pb pc (atP p) mv Lm { takeS s k Lm with M:=zeroL s.M Lm,q:=s.q+2*0 } L (.slice (some ⟨g,0,none⟩) n c) w'):=by
  rw [e4]
  refine (takeall_ok (HH.out.1.grow F3.out.1) k HR.out.2 nm (by omega) (by rw [<- MN.out];exact HR.out.1)).mono ?_
  rintro e w' ⟨Lm,mv,he,hl,IN,hp,ho,hk⟩
  obtain ⟨q1,q2,q3,q4,q5,q6⟩:=F3.out
  have xs: ∀ j,W.heap.size<=j->j<w3.heap.size->(fun j=>X j\/(W.heap.size<=j/\j<w3.heap.size)) j:=fun j h1 h2=>Or.inr ⟨h1,h2⟩
  have mb: ∀ g',mv.ownBlock=some g'->w3.heap.size<=g':=fun g' e=>(Li.row_lt ho g' e).1
  have lA:=q2.lt
  have lP:=q3.lt
  have lW:=HH.out.1.lt
  have wA:W.heap.size<=A:=LO.out.1
  have wP:W.heap.size<=P:=LO.out.2
  refine ⟨Lm,mv,he,hl,IN,⟨_,hp,fun j hj=>Or.inl (Or.inl hj),⟨Or.inl (xs A wA (by omega)),Or.inl (xs P wP (by omega)),Or.inl (xs T (by omega) (by omega))⟩,fun g' e=>Or.inr e,fun g' e=> ?_⟩,q2.kx hk (xs A wA (by omega)),q3.kx hk (xs P wP (by omega)),q4.kx hk (xs T (by omega) (by omega)),Li.row_keep q5 (fun g' e=>hk.block g' ?_),Li.row_weak ho (by have:=q1.size;omega),kx_of HH.out.1 q1 hk,⟨?_,?_,?_,?_⟩,?_,⟨by omega,by omega,by omega⟩,HH.out.1.tab.1,lW⟩
  . have e':some g=some g':=e
    cases e'
    exact Or.inl (xs g (by omega) (by omega))
  . have e':some g=some g':=e
    cases e'
    exact xs g (by omega) (by omega)
  . intro e;have e':some g=some A:=e;cases e';omega
  . intro e;have e':some g=some P:=e;cases e';omega
  . intro e;have e':some g=some T:=e;cases e';omega
  . intro g' e q;have e':some g=some g':=e;cases e';have:=mb g q;omega
  . intro q;have:=mb T q;omega
 have HAT:Hid (∀ f:Nat,s.Fr f->f<1048576/\ ∀ l x,tab l x≠some f):=fun f hf=>⟨by have:=HH.out.1.so.frb f hf;omega,fun l x e=>(HH.out.2.ow l x f e).2.2 hf⟩
 clear hnm e4 F3
 go_wp2_with fail
 refine Calls.mono TC.out ?_
 rintro e w4 ⟨Lm,mv,rfl,hlm,hIN,hMI⟩
 have IN:Hid (InL s Lm/\Lm.length=nm):=⟨hIN,hlm⟩
 have M0:Hid (MI X W A P T m k pa pb pc (atP p) mv Lm { takeS s k Lm with M:=zeroL s.M Lm,q:=s.q+2*0 } L (.slice (some ⟨g,0,none⟩) n c) w4):=hMI
 have P0:Hid (MP s.M (zeroL s.M Lm) root tab tab lf p L Lm 0):=MP.start HH.out.2.pw HN.out.2.1 (by have:=HN.out.1;have:=HNM.out;omega) (fun f hf=>(HAT.out f (hIN.2 f hf)).2)
 obtain ⟨pm,cm,hmv⟩: ∃ pm cm,mv=.slice pm nm cm:=by
  obtain ⟨pm,cm,hv,_⟩:=(Li.ol_ll Li.eI_len hMI.mor).form
  rw [List.length_map,hlm] at hv
  exact ⟨pm,cm,hv⟩
 subst hmv
 clear hMI hIN hlm TC c0 c1 c2 c3 t4 lA lT wN
 go_wp2_with fail
 go_loopw [15,49] (fun _ vi w=> ∃ (i:Nat) (tabi:Nat->Nat->Option Nat) (Mi:Int->Int) (Lt:List Nat) (v:Value),i<=nm/\vi=.int .i64 i/\Hid (Lt=L++Lm.take i)/\Hid (MI X W A P T m k pa pb pc (atP p) (.slice pm nm cm) Lm { takeS s k Lm with M:=Mi,q:=s.q+2*i } Lt v w)/\Hid (MP s.M Mi root tab tabi lf p L Lm i)) (fun _ vi _=>nm-(Go.RowKit.intOf vi).toNat)
 case atStart=>exact ⟨0,tab,_,L,(.slice (some ⟨g,0,none⟩) n c),by omega,rfl,(by show L=L++Lm.take 0;simp),M0,P0⟩
 case round =>
  clear M0 P0
  obtain ⟨i,tabi,Mi,Lt,v,hi,rfl,HLt,MI0,MP0⟩:=hrel
  have HLn:Hid (Lt.length=n+i):=by
   show _=_
   rw [HLt.out,List.length_append,List.length_take,HN.out.1]
   have:=IN.out.2
   omega
  obtain ⟨g2,cp2,hv,hr2⟩:=MI0.out.form (by have:=HLn.out;omega)
  obtain ⟨n2,hn2⟩: ∃ n2,Lt.length=n2:=⟨_,rfl⟩
  rw [hn2] at hv
  subst hv
  have HN2:Hid (Lt.length=n2/\n2=n+i):=⟨hn2,by have:=HLn.out;omega⟩
  have HR2:Hid (IR wr g2 Lt):=hr2
  clear hn2 hr2
  obtain ⟨l2,hl2⟩: ∃ l2,n2=l2+1:=⟨n2-1,by have:=HN2.out.2;omega⟩
  have HL2:Hid (n2=l2+1):=hl2
  clear hl2
  by_cases ci:i<nm
  . have d5:decide ((i:Int)<(nm:Int))=true:=by simp;omega
    have d6:decide ((i:Int)<0)=false:=by simp
    have iL:i<Lm.length:=by have:=IN.out.2;omega
    obtain ⟨gm,rfl,lgm,hcm⟩:=ii_read MI0.out.mor i iL
    obtain ⟨z,hz⟩: ∃ z:Nat,Lm[i]=z:=⟨_,rfl⟩
    rw [hz] at hcm
    have zF:s.Fr z:=by rw [<- hz];exact IN.out.1.2 _ (List.getElem_mem iL)
    have zb:=(HAT.out z zF).1
    have LKC:Hid (Calls Tryz.prog 130 #[pv m k,tv (atP p) g2 n2 cp2,ev true true true false false false false false (z:Nat)] wr fun e w'=>e=.returned (.tuple #[])/\MI X W A P T m k pa pb pc (atP p) (.slice (some ⟨gm,0,none⟩) nm cm) Lm { takeS s k Lm with M:=enSet Mi (Lt[l2]'(by have:=HN2.out.1;have:=HL2.out;omega):Nat) (atP p l2) (tabV false false z),q:=s.q+2*(i+1) } Lt (.slice (some ⟨g2,0,none⟩) n2 cp2) w'):=by
     have e2:=HL2.out
     have e3:=HN2.out.1
     refine MI0.out.lift (Q:=fun e=>e=.returned (.tuple #[])) (fun Y hY hv=> ?_)
     have hx:m.has (Lt[l2]'(by omega):Nat)=true:=by
      have q:=MP0.out.is l2 (Lt[l2]'(by omega)) (by rw [<- HLt.out];exact List.getElem?_eq_getElem (by omega))
      rcases MP0.out.new _ _ _ q with r | r
      . exact (HH.out.2.ow _ _ _ r).1
      . exact HH.out.1.so.fh _ (IN.out.1.2 _ (List.mem_of_mem_take r.1))
     exact link_n hY (by have:=HQ.out;have:=HN2.out.2;have:=HNM.out;show s.q+2*i<_;omega) k (atP p) g2 cp2 Lt l2 n2 e2 (by omega) (by have:=HN2.out.2;have:=HNM.out;omega) hx (at_bd p l2) HR2.out (hv g2 rfl) true true true false false false false false (z:Nat) (by omega) (by omega)
    have BX:=MI0.out.bA
    have BT:=MI0.out.bT
    have c0:wr.cell? ⟨A,0,none⟩=some (pp m.rb):=BX.cell 0
    have c1:wr.cell? ⟨A,1,none⟩=some (pp m.b):=BX.cell 1
    have c2:wr.cell? ⟨A,2,none⟩=some (pp m.tb):=BX.cell 2
    have c3:wr.cell? ⟨A,3,none⟩=some (.int .i64 k):=BX.cell 3
    have t0:wr.cell? ⟨T,0,none⟩=some (.int .i64 (atP p 0)):=BT.cell 0
    have t1:wr.cell? ⟨T,1,none⟩=some (.int .i64 (atP p 1)):=BT.cell 1
    have t2:wr.cell? ⟨T,2,none⟩=some (.int .i64 (atP p 2)):=BT.cell 2
    have t3:wr.cell? ⟨T,3,none⟩=some (.int .i64 (atP p 3)):=BT.cell 3
    have t4:wr.cell? ⟨T,4,none⟩=some (.slice (some ⟨g2,0,none⟩) n2 cp2):=BT.cell 4
    have lA:=BX.lt
    have lT:=BT.lt
    have MP1:Hid (∃ tab2,MP s.M (enSet Mi (Lt[l2]'(by have:=HN2.out.1;have:=HL2.out;omega):Nat) (atP p l2) (tabV false false z)) root tab tab2 lf p L Lm (i+1)):=by
     have e2:=HL2.out
     have e3:=HN2.out.1
     have e5:=HLt.out
     subst e5
     have q:=MP0.out.step HP.out IN.out.1.1 (by have:=HN.out.1;omega) (by have:=HN.out.1;have:=HNM.out;have:=IN.out.2;omega) iL (fun f hf=>HAT.out f (IN.out.1.2 f hf)) (n:=l2) (by omega)
     rw [hz] at q
     exact ⟨_,q⟩
    obtain ⟨M2,hM2⟩: ∃ M2,M2=enSet Mi (Lt[l2]'(by have:=HN2.out.1;have:=HL2.out;omega):Nat) (atP p l2) (tabV false false z):=⟨_,rfl⟩
    rw [<- hM2] at LKC MP1
    have HZ:Hid (Lm[i]? =some z):=by show Lm[i]? =some z;rw [List.getElem?_eq_getElem iL,hz]
    clear BX BT zF zb hz hM2 iL MI0 HR2
    go_wp2_with fail
    refine Calls.mono LKC.out ?_
    rintro e w5 ⟨rfl,hM5⟩
    clear c0 c1 c2 c3 t0 t1 t2 t3 t4 lA lT LKC hcm lgm
    obtain ⟨g3,n3,cp3,W6,r6,e6,M6,t4,f4,l4⟩:=hM5.app (by have:=HN2.out.1;have:=HN2.out.2;have:=HNM.out;omega) z
    have HM6:Hid (MI X W A P T m k pa pb pc (atP p) (.slice (some ⟨gm,0,none⟩) nm cm) Lm { takeS s k Lm with M:=M2,q:=s.q+2*(i+1) } (Lt++[z]) (.slice (some ⟨g3,0,none⟩) n3 cp3) (W6.setCell ⟨T,4,none⟩ (.slice (some ⟨g3,0,none⟩) n3 cp3))):=M6
    have BT:=hM5.bT
    have t5:w5.cell? ⟨T,4,none⟩=some (.slice (some ⟨g2,0,none⟩) n2 cp2):=BT.cell 4
    have lT:=BT.lt
    have HLt2:Hid (Lt++[z]=L++Lm.take (i+1)):=by
     show _=_
     obtain ⟨q1,q2⟩:=List.getElem?_eq_some_iff.1 HZ.out
     rw [List.take_succ_eq_append_getElem q1,q2,<- List.append_assoc,<- HLt.out]
    clear hM5 M6 e6 BT HZ
    go_wp2_with (at_builtin;refine wpList_app rfl _ _ 22 rfl (.slice (some ⟨g2,0,none⟩) n2 cp2) (.slice (some ⟨w5.heap.size,0,none⟩) 1 1) rfl rfl (.slice (some ⟨g3,0,none⟩) n3 cp3) W6 r6 ?_)
    go_roundw
    case rel =>
     obtain ⟨tab2,q⟩:=MP1.out
     exact ⟨i+1,tab2,M2,Lt++[z],.slice (some ⟨g3,0,none⟩) n3 cp3,by omega,by go_num,HLt2,HM6,q⟩
    case measure=>simp [Go.RowKit.intOf];omega
  . obtain rfl:i=nm:=by omega
    have d5:decide ((i:Int)<(i:Int))=false:=by simp
    go_upto_region 15 with fail
    obtain rfl:l2=3:=by have:=HL2.out;have:=HN2.out.2;have:=HNM.out;omega
    have e4:Lt.length=4:=by have:=HL2.out;have:=HN2.out.1;omega
    have HE4:Hid (Lt.length=4):=e4
    obtain ⟨M2,hM2⟩: ∃ M2,M2=enSet Mi (Lt[3]'(by omega):Nat) (atP p 3) (leafV false false ⟨fr,pa,pb,pc⟩):=⟨_,rfl⟩
    have LKC:Hid (∀ w:World,MI X W A P T m k pa pb pc (atP p) (.slice pm i cm) Lm { takeS s k Lm with M:=Mi,q:=s.q+2*i } Lt (.slice (some ⟨g2,0,none⟩) n2 cp2) w->IR w g2 Lt->Calls Tryz.prog 130 #[pv m k,tv (atP p) g2 n2 cp2,ev true pa pb false false false false (!pc) fr] w fun e w'=>e=.returned (.tuple #[])/\MI X W A P T m k pa pb pc (atP p) (.slice pm i cm) Lm { takeS s k Lm with M:=M2,q:=s.q+2*(i+1) } Lt (.slice (some ⟨g2,0,none⟩) n2 cp2) w'):=fun w hM hr=>by
     rw [hM2]
     refine hM.lift (Q:=fun e=>e=.returned (.tuple #[])) (fun Y hY hv=> ?_)
     have hx:m.has (Lt[3]'(by omega):Nat)=true:=by
      have q:=MP0.out.is 3 (Lt[3]'(by omega)) (by rw [<- HLt.out];exact List.getElem?_eq_getElem (by omega))
      rcases MP0.out.new _ _ _ q with r | r
      . exact (HH.out.2.ow _ _ _ r).1
      . exact HH.out.1.so.fh _ (IN.out.1.2 _ (List.mem_of_mem_take r.1))
     exact link_n hY (by have:=HQ.out;show s.q+2*i<_;omega) k (atP p) g2 cp2 Lt 3 n2 HL2.out (by omega) (by omega) hx (at_bd p 3) hr (hv g2 rfl) true pa pb false false false false (!pc) fr HFR.out.1 HFR.out.2
    have LEC:Hid (∀ w:World,Calls Tryz.prog 131 #[.int .i64 fr,.agg (sn pa pb pc)] w (re (ev true pa pb false false false false (!pc) fr) w)):=fun w=>leaf_any fr pa pb pc w
    have FIN:Hid (PW M2 root tabi (lfSet lf p (some ⟨fr,pa,pb,pc⟩))/\Full tabi (lfSet lf p (some ⟨fr,pa,pb,pc⟩))/\(∀ l x f,tabi l x=some f->tab l x=some f\/f∈Lm)/\(∀ f:Nat,(∀ l x,tab l x≠some f)->f∉Lm-> ∀ j:Nat,j<512->En M2 f j=En s.M f j)/\(∀ j:Nat,256<=j->j<512->En M2 root j=En s.M root j)):=by
     have il:Lm.length=i:=IN.out.2
     have mp:=MP0.out
     rw [<- il] at mp
     have eL:Lt=L++Lm:=by have:=HLt.out;rw [<- il,List.take_length] at this;exact this
     have hf: ∀ f∈Lm,∀ l x,tab l x≠some f:=fun f hf=>(HAT.out f (IN.out.1.2 f hf)).2
     have hl4:L.length+Lm.length=4:=by have:=HN.out.1;have:=HNM.out;omega
     have q:=mp.leaf HH.out.2.fu HP.out hl4 hf (v:=⟨fr,pa,pb,pc⟩) HFR.out (by rw [List.length_append];omega)
     subst eL
     rw [<- hM2] at q
     refine ⟨q.1,q.2.1,fun l x f e=>(mp.new l x f e).imp id (fun r=>List.mem_of_mem_take r.1),q.2.2⟩
    have BX:=MI0.out.bA
    have BT:=MI0.out.bT
    have BP:=MI0.out.bP
    have BA:Hid (Blk wr A [pp m.rb,pp m.b,pp m.tb,.int .i64 k] 66/\Blk wr T (sj (atP p 0) (atP p 1) (atP p 2) (atP p 3) (.slice (some ⟨g2,0,none⟩) n2 cp2)) 240/\Blk wr P (sk pa pb pc) 45):=⟨BX,BT,BP⟩
    clear BX BT BP hM2 e4 MP0
    refine hda (fun cw=>Blk cw A [pp m.rb,pp m.b,pp m.tb,.int .i64 k] 66/\Blk cw T (sj (atP p 0) (atP p 1) (atP p 2) (atP p 3) (.slice (some ⟨g2,0,none⟩) n2 cp2)) 240/\Blk cw P (sk pa pb pc) 45) BA.out fun hHeld=> ?_
    have MU:Hid (MI X W A P T m k pa pb pc (atP p) (.slice pm i cm) Lm { takeS s k Lm with M:=Mi,q:=s.q+2*i } Lt (.slice (some ⟨g2,0,none⟩) n2 cp2) wr.drew):=MI0.out.below (below_drew (Below.refl _ _))
    have HRU:Hid (IR wr.drew g2 Lt):=HR2.out
    clear BA MI0 HR2
    generalize wr.drew=U at hHeld MU HRU |-
    refine tla 0 65 (.agg #[pp m.rb,pp m.b,pp m.tb,.int .i64 k]) rfl ?_ ?_
    . exact kl
    refine tla 1 66 ((.agg (si (atP p 0) (atP p 1) (atP p 2) (atP p 3) (.slice (some ⟨g2,0,none⟩) n2 cp2)))) rfl ?_ ?_
    . intro w hSw;(try dsimp only at hSw);have r0:=Blk.cell hSw.2.1 0;have r1:=Blk.cell hSw.2.1 1;have r2:=Blk.cell hSw.2.1 2;have r3:=Blk.cell hSw.2.1 3;have r4:=Blk.cell hSw.2.1 4;(try go_simp);(try simp [*])
    refine tma 2 67 rfl ?_
    refine tla 3 68 (.agg (sn pa pb pc)) rfl ?_ ?_
    . exact k5
    refine rda 4 ⟨some 69,_,_,_,_,none⟩ rfl fun K hK=> ?_
    go_simp
    go_wp2_with (go_at_call 131;refine Calls.mono (LEC.out _) ?_;rintro e u1 ⟨rfl,hb1⟩)
    have MU1:Hid (MI X W A P T m k pa pb pc (atP p) (.slice pm i cm) Lm { takeS s k Lm with M:=Mi,q:=s.q+2*i } Lt (.slice (some ⟨g2,0,none⟩) n2 cp2) u1):=MU.out.below hb1
    have HRU1:Hid (IR u1 g2 Lt):=HRU.out.below hb1
    refine hK.out _ _ ⟨hHeld.1.below hb1,hHeld.2.1.below hb1,hHeld.2.2.below hb1⟩ ?_
    clear hK K hHeld hb1 MU HRU
    intro hHeld
    try simp only [Act.put,zaa,zba,zca]
    refine rda 5 ⟨some 70,_,_,_,_,none⟩ rfl fun K hK=> ?_
    go_simp
    go_wp2_with (go_at_call 130;refine Calls.mono (LKC.out _ MU1.out HRU1.out) ?_;rintro e u2 ⟨rfl,hM⟩)
    have E2:Hid (MI X W A P T m k pa pb pc (atP p) (.slice pm i cm) Lm { takeS s k Lm with M:=M2,q:=s.q+2*(i+1) } Lt (.slice (some ⟨g2,0,none⟩) n2 cp2) u2):=hM
    refine hK.out _ _ ⟨hM.bA,hM.bT,hM.bP⟩ ?_
    clear hK K hHeld hM MU1 HRU1
    intro hHeld
    try simp only [Act.put,zaa,zba,zca]
    clear hHeld
    refine wpAnyH_done ka ?_ _
    refine NoPanic.normal ?_
    go_wp2_with fail
    go_ret
    refine ⟨rfl,Lm,M2,tabi,by rw [MN.out];exact IN.out.2,IN.out.1,?_,E2.out.kx,FIN.out⟩
    obtain ⟨Y,hY,hX,_⟩:=E2.out.pu
    exact (hY.less hX HH.out.1.x0).q (by show s.q+2*(i+1)<=s.q+10;omega)
end
end Go.Proofs.YtgbdnnkkcpkhdaaGreatDoor.Tt
namespace Go.Proofs.YtgbdnnkkcpkhdaaGreatDoor.Tt
theorem results_pair {fn:Func} {p q:Tmp} {t u:TypeId} (h:fn.results= #[.cell p t,.cell q u]) (tmps:Array Value) (P:Program) (w:World) (a b:Addr) (x y:Value)
 (ha:tmps.getD p undef=.pointer (some a)) (hb:tmps.getD q undef=.pointer (some b)) (hx:(loadVar t a).run P w=.ok x w) (hy:(loadVar u b).run P w=.ok y w):(results fn tmps).run P w=.ok (.tuple #[x,y]) w:=by
 simp only [results,h]
 have e1: ∀ (a:Addr) (W:World),(asAddr (Value.pointer (some a))).run P W=.ok a W:=fun _ _=>rfl
 simp at ha hb
 simp [Sem.run_bind,Result.andThen,ha,hb,e1,hx,hy]
theorem blk_far {w:World} {a b:Nat} {C:List Value} {t:TypeId} (h:Blk w a C t) (ne:a≠b) (vs:List Value):Blk (w.setCells b 0 vs) a C t :=
 ((Qu.grown_setCells b vs 0 w).block a h.lt (fun e=>ne (by have:=sia e;omega))).trans h
theorem find_bad (m:Pm) (k:Int) (root:Nat) (p:Int) (hbad: ¬ (0<=p/\p<34359738368)) (W:World) :
 Calls Tryz.prog 126 #[pv m k,.int .i64 root,.int .i64 p] W (re (.tuple #[.agg (si 0 0 0 0 (.slice none 0 0)),.agg sg1]) W):=by
 have IP:Hid (∀ w:World,Calls Tryz.prog 127 #[.int .i64 p] w fun e w'=>e=.returned (.bool false)/\w'=w):=fun w=>page_any p false ⟨(fun e=>by cases e),fun e=>absurd e hbad⟩ w
 have s1:(W.alloc (.cells #[pp m.rb,pp m.b,pp m.tb,.int .i64 k] 66)).heap.size=W.heap.size+1:=World.size_alloc _ _
 have s2:((W.alloc (.cells #[pp m.rb,pp m.b,pp m.tb,.int .i64 k] 66)).alloc (.cells (si 0 0 0 0 (.slice none 0 0)) 240)).heap.size=W.heap.size+2:=kj
 have HB:Hid (bc W (((W.alloc (.cells #[pp m.rb,pp m.b,pp m.tb,.int .i64 k] 66)).alloc (.cells (si 0 0 0 0 (.slice none 0 0)) 240)).alloc (.cells sg1 98))):=below_then (below_then baa baa) baa
 have BA:Hid (Blk (((W.alloc (.cells #[pp m.rb,pp m.b,pp m.tb,.int .i64 k] 66)).alloc (.cells (si 0 0 0 0 (.slice none 0 0)) 240)).alloc (.cells sg1 98)) W.heap.size [pp m.rb,pp m.b,pp m.tb,.int .i64 k] 66):=((Blk.made W [pp m.rb,pp m.b,pp m.tb,.int .i64 k] 66).below baa).below baa
 have BR:Hid (Blk (((W.alloc (.cells #[pp m.rb,pp m.b,pp m.tb,.int .i64 k] 66)).alloc (.cells (si 0 0 0 0 (.slice none 0 0)) 240)).alloc (.cells sg1 98)) (W.heap.size+1) (sj 0 0 0 0 (.slice none 0 0)) 240):=by
  rw [<- s1]
  exact (Blk.made (W.alloc (.cells #[pp m.rb,pp m.b,pp m.tb,.int .i64 k] 66)) (sj 0 0 0 0 (.slice none 0 0)) 240).below baa
 have BE:Hid (Blk (((W.alloc (.cells #[pp m.rb,pp m.b,pp m.tb,.int .i64 k] 66)).alloc (.cells (si 0 0 0 0 (.slice none 0 0)) 240)).alloc (.cells sg1 98)) (W.heap.size+2) sh1 98):=by
  rw [<- s2]
  exact Blk.made _ sh1 98
 clear s1 s2
 clear hbad
 go_enter Tryz.func126,Tryz.ntmps126
 go_upto_region 1 with fail
 generalize (((W.alloc (.cells #[pp m.rb,pp m.b,pp m.tb,.int .i64 k] 66)).alloc (.cells (si 0 0 0 0 (.slice none 0 0)) 240)).alloc (.cells sg1 98))=W1 at HB BA BR BE |-
 obtain ⟨E,hE⟩: ∃ E,W.heap.size+2=E:=⟨_,rfl⟩
 obtain ⟨R,hR⟩: ∃ R,W.heap.size+1=R:=⟨_,rfl⟩
 obtain ⟨A,hA⟩: ∃ A,W.heap.size=A:=⟨_,rfl⟩
 have LO:Hid (W.heap.size<=A/\W.heap.size<=R/\W.heap.size<=E/\R≠E/\A≠R/\A≠E):=⟨by omega,by omega,by omega,by omega,by omega,by omega⟩
 rw [hE] at BE |-
 rw [hR] at BR |-
 rw [hA] at BA |-
 clear hE hR hA
 go_wp2_with fail
 refine Calls.mono (IP.out _) ?_
 rintro e w0 ⟨rfl,rfl⟩
 have F1:Hid (Blk ((w0.setCells R 0 (sj 0 0 0 0 (.slice none 0 0))).setCells E 0 sh1) R (sj 0 0 0 0 (.slice none 0 0)) 240/\Blk ((w0.setCells R 0 (sj 0 0 0 0 (.slice none 0 0))).setCells E 0 sh1) E sh1 98/\bc W ((w0.setCells R 0 (sj 0 0 0 0 (.slice none 0 0))).setCells E 0 sh1)):=⟨blk_far (BR.out.put rfl) LO.out.2.2.2.1 _,(blk_far BE.out (fun e=>LO.out.2.2.2.1 e.symm) _).put rfl,below_put (below_put HB.out LO.out.2.1 _) LO.out.2.2.1 _⟩
 have TH:Hid (w0.there R 0 5/\(w0.setCells R 0 (sj 0 0 0 0 (.slice none 0 0))).there E 0 9):=⟨BR.out.there,(blk_far BE.out (fun e=>LO.out.2.2.2.1 e.symm) _).there⟩
 clear HB BA BR BE LO IP
 go_upto_region 2 with fail
 refine wp_region_lit ?_
 iterate 6 go_step
 refine store_pat R 0 (si 0 0 0 0 (.slice none 0 0)) rfl rfl TH.out.1 ka kr ?_
 refine store_pat E 0 sg1 rfl rfl TH.out.2 ka kr ?_
 simp only [List.toList_toArray]
 generalize ((w0.setCells R 0 (sj 0 0 0 0 (.slice none 0 0))).setCells E 0 sh1)=V at F1 |-
 go_wp2_with fail
 refine bodyPost_ret (v:=.tuple #[.agg (si 0 0 0 0 (.slice none 0 0)),.agg sg1]) (results_pair Tryz.results126 _ _ _ _ _ _ _ rfl rfl (run_loadVar_mid (P:=Tryz.prog) _ R 0 240 (sj 0 0 0 0 (.slice none 0 0)) _ F1.out.1.range Tryz.underlying240 rfl ka) (run_loadVar_mid (P:=Tryz.prog) _ E 0 98 sh1 _ F1.out.2.1.range Tryz.underlying98 rfl ka)) rfl ?_
 exact ⟨rfl,F1.out.2.2⟩
theorem find_any {X:Nat->Prop} {W:World} {m:Pm} {s:Ps} (h:Pu X W m s) {root:Nat} {tab:Nat->Nat->Option Nat} {lf:Nat->Option Lf} (H:Rt m s root tab lf) (k:Int) (p:Nat) (hp:p<34359738368) :
 Calls Tryz.prog 126 #[pv m k,.int .i64 root,.int .i64 p] W fun e w'=> ∃ (g c n:Nat) (L:List Nat) (y:Int),e=.returned (.tuple #[tv (atP p) g n c,unp y])/\(IR w' g L/\L.length=n/\W.heap.size<=g/\Li.OI w' W.heap.size (.slice (some ⟨g,0,none⟩) n c) (ints L)/\Trl tab p L/\(∀ x∈L,m.has (x:Nat)=true)/\((lf p=none/\y=0)\/ ∃ v,lf p=some v/\MkL y v/\n=4))/\bc W w':=by
 have IP:Hid (∀ w:World,Calls Tryz.prog 127 #[.int .i64 (p:Nat)] w fun e w'=>e=.returned (.bool true)/\w'=w):=fun w=>page_any p true ⟨fun _=>⟨by omega,by omega⟩,fun _=>rfl⟩ w
 have FC:Hid (∀ w:World,bc W w->Calls Tryz.prog 128 #[pv m k,.int .i64 root,.int .i64 p] w _):=fun w hb=>follow_rt (h.below hb) H.pw (fun l x f e=>(H.ow l x f e).1) k p hp
 have LC:Hid (∀ (w:World) (L:List Nat) (g c l n':Nat) (hl:L.length=l+1),n'=l+1->Trl tab p L->(∀ x∈L,m.has (x:Nat)=true)->IR w g L->bc W w->Calls Tryz.prog 129 #[pv m k,tv (atP p) g n' c] w (re (unp (En s.M (L[l]'(by omega):Nat) (atP p l))) w)):=fun w L g c l n' hl hn' T hh hr hb=>by
  subst hn'
  exact last_any (h.below hb) k (atP p) g c L l hl (by have:=T.l4;omega) (hh _ (List.getElem_mem _)) (at_bd p l) hr
 have HH:Hid (Rt m s root tab lf/\p<34359738368):=⟨H,hp⟩
 have s1:(W.alloc (.cells #[pp m.rb,pp m.b,pp m.tb,.int .i64 k] 66)).heap.size=W.heap.size+1:=World.size_alloc _ _
 have s2:((W.alloc (.cells #[pp m.rb,pp m.b,pp m.tb,.int .i64 k] 66)).alloc (.cells (si 0 0 0 0 (.slice none 0 0)) 240)).heap.size=W.heap.size+2:=kj
 have HB:Hid (bc W (((W.alloc (.cells #[pp m.rb,pp m.b,pp m.tb,.int .i64 k] 66)).alloc (.cells (si 0 0 0 0 (.slice none 0 0)) 240)).alloc (.cells sg1 98))):=below_then (below_then baa baa) baa
 have BA:Hid (Blk (((W.alloc (.cells #[pp m.rb,pp m.b,pp m.tb,.int .i64 k] 66)).alloc (.cells (si 0 0 0 0 (.slice none 0 0)) 240)).alloc (.cells sg1 98)) W.heap.size [pp m.rb,pp m.b,pp m.tb,.int .i64 k] 66):=((Blk.made W [pp m.rb,pp m.b,pp m.tb,.int .i64 k] 66).below baa).below baa
 have BR:Hid (Blk (((W.alloc (.cells #[pp m.rb,pp m.b,pp m.tb,.int .i64 k] 66)).alloc (.cells (si 0 0 0 0 (.slice none 0 0)) 240)).alloc (.cells sg1 98)) (W.heap.size+1) (sj 0 0 0 0 (.slice none 0 0)) 240):=by
  rw [<- s1]
  exact (Blk.made (W.alloc (.cells #[pp m.rb,pp m.b,pp m.tb,.int .i64 k] 66)) (sj 0 0 0 0 (.slice none 0 0)) 240).below baa
 have BE:Hid (Blk (((W.alloc (.cells #[pp m.rb,pp m.b,pp m.tb,.int .i64 k] 66)).alloc (.cells (si 0 0 0 0 (.slice none 0 0)) 240)).alloc (.cells sg1 98)) (W.heap.size+2) sh1 98):=by
  rw [<- s2]
  exact Blk.made _ sh1 98
 clear s1 s2
 clear h H hp
 go_enter Tryz.func126,Tryz.ntmps126
 go_upto_region 1 with fail
 generalize (((W.alloc (.cells #[pp m.rb,pp m.b,pp m.tb,.int .i64 k] 66)).alloc (.cells (si 0 0 0 0 (.slice none 0 0)) 240)).alloc (.cells sg1 98))=W1 at HB BA BR BE |-
 obtain ⟨E,hE⟩: ∃ E,W.heap.size+2=E:=⟨_,rfl⟩
 obtain ⟨R,hR⟩: ∃ R,W.heap.size+1=R:=⟨_,rfl⟩
 obtain ⟨A,hA⟩: ∃ A,W.heap.size=A:=⟨_,rfl⟩
 have LO:Hid (W.heap.size<=A/\W.heap.size<=R/\W.heap.size<=E/\R≠E/\A≠R/\A≠E):=⟨by omega,by omega,by omega,by omega,by omega,by omega⟩
 rw [hE] at BE |-
 rw [hR] at BR |-
 rw [hA] at BA |-
 clear hE hR hA
 go_wp2_with fail
 refine Calls.mono (IP.out _) ?_
 rintro e w0 ⟨rfl,rfl⟩
 have BX:=BA.out
 have c0:w0.cell? ⟨A,0,none⟩=some (pp m.rb):=BX.cell 0
 have c1:w0.cell? ⟨A,1,none⟩=some (pp m.b):=BX.cell 1
 have c2:w0.cell? ⟨A,2,none⟩=some (pp m.tb):=BX.cell 2
 have c3:w0.cell? ⟨A,3,none⟩=some (.int .i64 k):=BX.cell 3
 have lA:=BX.lt
 clear BX IP
 go_wp2_with fail
 refine Calls.mono (FC.out w0 HB.out) ?_
 rintro e w1 ⟨g,c,L,rfl,hr,ho,lg,TL,hh,hb1⟩
 clear c0 c1 c2 c3 lA FC
 obtain ⟨n,hn⟩: ∃ n,L.length=n:=⟨_,rfl⟩
 rw [hn]
 have bb2:bc w1 (w1.alloc (.cells (si (atP p 0) (atP p 1) (atP p 2) (atP p 3) (.slice (some ⟨g,0,none⟩) n c)) 240)):=baa
 have HN:Hid (L.length=n/\Trl tab p L/\(∀ x∈L,m.has (x:Nat)=true)/\W.heap.size<=g):=⟨hn,TL,hh,Nat.le_trans HB.out.size lg⟩
 have sz0:=HB.out.size
 have szr:=BR.out.lt
 have sze:=BE.out.lt
 have sz1:=hb1.size
 have F2:Hid (bc W (w1.alloc (.cells (si (atP p 0) (atP p 1) (atP p 2) (atP p 3) (.slice (some ⟨g,0,none⟩) n c)) 240))/\Blk (w1.alloc (.cells (si (atP p 0) (atP p 1) (atP p 2) (atP p 3) (.slice (some ⟨g,0,none⟩) n c)) 240)) A [pp m.rb,pp m.b,pp m.tb,.int .i64 k] 66/\Blk (w1.alloc (.cells (si (atP p 0) (atP p 1) (atP p 2) (atP p 3) (.slice (some ⟨g,0,none⟩) n c)) 240)) w1.heap.size (sj (atP p 0) (atP p 1) (atP p 2) (atP p 3) (.slice (some ⟨g,0,none⟩) n c)) 240/\IR (w1.alloc (.cells (si (atP p 0) (atP p 1) (atP p 2) (atP p 3) (.slice (some ⟨g,0,none⟩) n c)) 240)) g L/\Li.OI (w1.alloc (.cells (si (atP p 0) (atP p 1) (atP p 2) (atP p 3) (.slice (some ⟨g,0,none⟩) n c)) 240)) W.heap.size (.slice (some ⟨g,0,none⟩) n c) (ints L)/\Blk (w1.alloc (.cells (si (atP p 0) (atP p 1) (atP p 2) (atP p 3) (.slice (some ⟨g,0,none⟩) n c)) 240)) R (sj 0 0 0 0 (.slice none 0 0)) 240/\Blk (w1.alloc (.cells (si (atP p 0) (atP p 1) (atP p 2) (atP p 3) (.slice (some ⟨g,0,none⟩) n c)) 240)) E sh1 98/\(R≠g/\E≠g/\R≠w1.heap.size/\E≠w1.heap.size)):=by
  rw [hn] at ho
  exact ⟨below_then (below_then HB.out hb1) bb2,(BA.out.below hb1).below bb2,Blk.made w1 (sj (atP p 0) (atP p 1) (atP p 2) (atP p 3) (.slice (some ⟨g,0,none⟩) n c)) 240,hr.below bb2,Li.row_below (Li.row_weak ho HB.out.size) bb2,(BR.out.below hb1).below bb2,(BE.out.below hb1).below bb2,by omega,by omega,by omega,by omega⟩
 clear hr ho lg TL hh hb1 hn bb2 HB BA BR BE sz0 szr sze sz1
 go_upto_region 4 with fail
 generalize w1.alloc (.cells (si (atP p 0) (atP p 1) (atP p 2) (atP p 3) (.slice (some ⟨g,0,none⟩) n c)) 240)=w2 at F2 |-
 generalize w1.heap.size=T at F2 |-
 obtain ⟨l,hl⟩: ∃ l,n=l+1:=⟨n-1,by have:=HN.out.2.1.l1;have:=HN.out.1;omega⟩
 obtain ⟨y,hy⟩: ∃ y,y=En s.M (L[l]'(by have:=HN.out.1;omega):Nat) (atP p l):=⟨_,rfl⟩
 have LC2:Hid (∀ w:World,IR w g L->bc W w->Calls Tryz.prog 129 #[pv m k,tv (atP p) g n c] w (re (unp y) w)):=fun w hr hb=>by
  rw [hy]
  exact LC.out w L g c l n (by have:=HN.out.1;omega) hl HN.out.2.1 HN.out.2.2.1 hr hb
 have HY:Hid ((lf p=none/\y=0)\/ ∃ v,lf p=some v/\MkL y v/\n=4):=by
  rcases HH.out.1.pw.last HH.out.2 HN.out.2.1 (l:=l) (by have:=HN.out.1;omega) with q | ⟨v,q1,q2,q3⟩
  . exact Or.inl ⟨q.1,hy.trans q.2⟩
  . exact Or.inr ⟨v,q1,by rw [hy];exact q3,by have:=HN.out.1;omega⟩
 obtain ⟨b0,b1,b2,b3,b4,b5,b6,b7,ff,hu⟩:=pow_bt y
 rw [hu] at LC2
 have HU:Hid (unp y=.agg (sd b0 b1 b2 b3 b4 b5 b6 b7 ff)):=hu
 clear hl hy hu LC
 refine hda (fun cw=>Blk cw A [pp m.rb,pp m.b,pp m.tb,.int .i64 k] 66/\Blk cw T (sj (atP p 0) (atP p 1) (atP p 2) (atP p 3) (.slice (some ⟨g,0,none⟩) n c)) 240) (⟨F2.out.2.1,F2.out.2.2.1⟩) fun hHeld=> ?_
 have DIS:Hid (R≠g/\E≠g/\R≠T/\E≠T):=F2.out.2.2.2.2.2.2.2
 have FU:Hid (bc W w2.drew/\IR w2.drew g L/\Li.OI w2.drew W.heap.size (.slice (some ⟨g,0,none⟩) n c) (ints L)/\Blk w2.drew R (sj 0 0 0 0 (.slice none 0 0)) 240/\Blk w2.drew E sh1 98):=⟨below_drew F2.out.1,F2.out.2.2.2.1,F2.out.2.2.2.2.1,F2.out.2.2.2.2.2.1,F2.out.2.2.2.2.2.2.1⟩
 clear F2
 generalize w2.drew=U at hHeld FU |-
 refine tla 0 18 ((.agg (si (atP p 0) (atP p 1) (atP p 2) (atP p 3) (.slice (some ⟨g,0,none⟩) n c)))) rfl ?_ ?_
 . intro w hSw;(try dsimp only at hSw);have r0:=Blk.cell hSw.2 0;have r1:=Blk.cell hSw.2 1;have r2:=Blk.cell hSw.2 2;have r3:=Blk.cell hSw.2 3;have r4:=Blk.cell hSw.2 4;(try go_simp);(try simp [*])
 refine tla 1 19 (.agg #[pp m.rb,pp m.b,pp m.tb,.int .i64 k]) rfl ?_ ?_
 . exact kl
 refine tla 2 20 ((.agg (si (atP p 0) (atP p 1) (atP p 2) (atP p 3) (.slice (some ⟨g,0,none⟩) n c)))) rfl ?_ ?_
 . intro w hSw;(try dsimp only at hSw);have r0:=Blk.cell hSw.2 0;have r1:=Blk.cell hSw.2 1;have r2:=Blk.cell hSw.2 2;have r3:=Blk.cell hSw.2 3;have r4:=Blk.cell hSw.2 4;(try go_simp);(try simp [*])
 refine rda 3 ⟨some 21,_,_,_,_,none⟩ rfl fun K hK=> ?_
 go_simp
 go_wp2_with (go_at_call 129;refine Calls.mono (LC2.out _ FU.out.2.1 FU.out.1) ?_;rintro e u2 ⟨rfl,hb2⟩)
 have FU2:Hid (bc W u2/\IR u2 g L/\Li.OI u2 W.heap.size (.slice (some ⟨g,0,none⟩) n c) (ints L)/\Blk u2 R (sj 0 0 0 0 (.slice none 0 0)) 240/\Blk u2 E sh1 98):=⟨below_then FU.out.1 hb2,FU.out.2.1.below hb2,Li.row_below FU.out.2.2.1 hb2,FU.out.2.2.2.1.below hb2,FU.out.2.2.2.2.below hb2⟩
 refine hK.out _ _ ⟨hHeld.1.below hb2,hHeld.2.below hb2⟩ ?_
 clear hK K hHeld hb2 FU
 intro hHeld
 try simp only [Act.put,zaa,zba,zca]
 refine rda 4 ⟨none,.store 240 (.tmp 6) (.tmp 18),_,_,_,none⟩ rfl fun K hK=> ?_
 refine wanted_mp rfl ?_
 have th:u2.there R 0 5:=FU2.out.2.2.2.1.there
 refine wp_store_mid _ _ _ rfl R 0 (si (atP p 0) (atP p 1) (atP p 2) (atP p 3) (.slice (some ⟨g,0,none⟩) n c)) rfl rfl th ka kr ?_
 (try simp only [List.toList_toArray])
 have gk:=Qu.grown_setCells R (sj (atP p 0) (atP p 1) (atP p 2) (atP p 3) (.slice (some ⟨g,0,none⟩) n c)) 0 u2
 have sg:(u2.setCells R 0 (sj (atP p 0) (atP p 1) (atP p 2) (atP p 3) (.slice (some ⟨g,0,none⟩) n c))).heap[g]? =u2.heap[g]? :=gk.block g FU2.out.2.1.1 (fun e=>DIS.out.1 (by have:=sia e;omega))
 have FV:Hid (bc W (u2.setCells R 0 (sj (atP p 0) (atP p 1) (atP p 2) (atP p 3) (.slice (some ⟨g,0,none⟩) n c)))/\IR (u2.setCells R 0 (sj (atP p 0) (atP p 1) (atP p 2) (atP p 3) (.slice (some ⟨g,0,none⟩) n c))) g L/\Li.OI (u2.setCells R 0 (sj (atP p 0) (atP p 1) (atP p 2) (atP p 3) (.slice (some ⟨g,0,none⟩) n c))) W.heap.size (.slice (some ⟨g,0,none⟩) n c) (ints L)/\Blk (u2.setCells R 0 (sj (atP p 0) (atP p 1) (atP p 2) (atP p 3) (.slice (some ⟨g,0,none⟩) n c))) R (sj (atP p 0) (atP p 1) (atP p 2) (atP p 3) (.slice (some ⟨g,0,none⟩) n c)) 240/\Blk (u2.setCells R 0 (sj (atP p 0) (atP p 1) (atP p 2) (atP p 3) (.slice (some ⟨g,0,none⟩) n c))) E sh1 98):=⟨below_put FU2.out.1 LO.out.2.1 _,⟨nla FU2.out.2.1.1 gk.size,fun i hi=>(World.cell?_of_block (w:=u2) (a:=⟨g,i,none⟩) sg).trans (FU2.out.2.1.2 i hi)⟩,Li.row_keep FU2.out.2.2.1 (fun g' e=>by have e':some g=some g':=e;cases e';exact sg),FU2.out.2.2.2.1.put rfl,blk_far FU2.out.2.2.2.2 (fun e=>LO.out.2.2.2.1 e.symm) _⟩
 have KE:Hid (Blk (u2.setCells R 0 (sj (atP p 0) (atP p 1) (atP p 2) (atP p 3) (.slice (some ⟨g,0,none⟩) n c))) A [pp m.rb,pp m.b,pp m.tb,.int .i64 k] 66/\Blk (u2.setCells R 0 (sj (atP p 0) (atP p 1) (atP p 2) (atP p 3) (.slice (some ⟨g,0,none⟩) n c))) T (sj (atP p 0) (atP p 1) (atP p 2) (atP p 3) (.slice (some ⟨g,0,none⟩) n c)) 240):=⟨blk_far hHeld.1 LO.out.2.2.2.2.1 _,blk_far hHeld.2 (fun e=>DIS.out.2.2.1 e.symm) _⟩
 clear gk sg
 generalize u2.setCells R 0 (sj (atP p 0) (atP p 1) (atP p 2) (atP p 3) (.slice (some ⟨g,0,none⟩) n c))=V1 at *
 refine hK.out _ _ KE.out ?_
 clear hK K hHeld th KE FU2
 intro hHeld
 try simp only [Act.put,zaa,zba,zca]
 refine rda 5 ⟨none,.store 98 (.tmp 7) (.tmp 21),_,_,_,none⟩ rfl fun K hK=> ?_
 refine wanted_mp rfl ?_
 have th:V1.there E 0 9:=FV.out.2.2.2.2.there
 refine wp_store_mid _ _ _ rfl E 0 (sd b0 b1 b2 b3 b4 b5 b6 b7 ff) rfl rfl th ka kr ?_
 (try simp only [List.toList_toArray])
 have gk:=Qu.grown_setCells E (sh b0 b1 b2 b3 b4 b5 b6 b7 ff) 0 V1
 have sg:(V1.setCells E 0 (sh b0 b1 b2 b3 b4 b5 b6 b7 ff)).heap[g]? =V1.heap[g]? :=gk.block g FV.out.2.1.1 (fun e=>DIS.out.2.1 (by have:=sia e;omega))
 have F1:Hid (Blk (V1.setCells E 0 (sh b0 b1 b2 b3 b4 b5 b6 b7 ff)) R (sj (atP p 0) (atP p 1) (atP p 2) (atP p 3) (.slice (some ⟨g,0,none⟩) n c)) 240/\Blk (V1.setCells E 0 (sh b0 b1 b2 b3 b4 b5 b6 b7 ff)) E (sh b0 b1 b2 b3 b4 b5 b6 b7 ff) 98/\bc W (V1.setCells E 0 (sh b0 b1 b2 b3 b4 b5 b6 b7 ff))/\IR (V1.setCells E 0 (sh b0 b1 b2 b3 b4 b5 b6 b7 ff)) g L/\Li.OI (V1.setCells E 0 (sh b0 b1 b2 b3 b4 b5 b6 b7 ff)) W.heap.size (.slice (some ⟨g,0,none⟩) n c) (ints L)):=⟨blk_far FV.out.2.2.2.1 LO.out.2.2.2.1 _,FV.out.2.2.2.2.put rfl,below_put FV.out.1 LO.out.2.2.1 _,⟨nla FV.out.2.1.1 gk.size,fun i hi=>(World.cell?_of_block (w:=V1) (a:=⟨g,i,none⟩) sg).trans (FV.out.2.1.2 i hi)⟩,Li.row_keep FV.out.2.2.1 (fun g' e=>by have e':some g=some g':=e;cases e';exact sg)⟩
 have KE:Hid (Blk (V1.setCells E 0 (sh b0 b1 b2 b3 b4 b5 b6 b7 ff)) A [pp m.rb,pp m.b,pp m.tb,.int .i64 k] 66/\Blk (V1.setCells E 0 (sh b0 b1 b2 b3 b4 b5 b6 b7 ff)) T (sj (atP p 0) (atP p 1) (atP p 2) (atP p 3) (.slice (some ⟨g,0,none⟩) n c)) 240):=⟨blk_far hHeld.1 LO.out.2.2.2.2.2 _,blk_far hHeld.2 (fun e=>DIS.out.2.2.2 e.symm) _⟩
 clear gk sg
 generalize V1.setCells E 0 (sh b0 b1 b2 b3 b4 b5 b6 b7 ff)=V at *
 refine hK.out _ _ KE.out ?_
 clear hK K hHeld th KE FV
 intro hHeld
 try simp only [Act.put,zaa,zba,zca]
 clear hHeld
 refine wpAnyH_done ka ?_ _
 refine NoPanic.normal ?_
 go_wp2_with fail
 refine bodyPost_ret (v:=.tuple #[.agg (si (atP p 0) (atP p 1) (atP p 2) (atP p 3) (.slice (some ⟨g,0,none⟩) n c)),.agg (sd b0 b1 b2 b3 b4 b5 b6 b7 ff)]) (results_pair Tryz.results126 _ _ _ _ _ _ _ rfl rfl (run_loadVar_mid (P:=Tryz.prog) _ R 0 240 (sj (atP p 0) (atP p 1) (atP p 2) (atP p 3) (.slice (some ⟨g,0,none⟩) n c)) _ F1.out.1.range Tryz.underlying240 rfl ka) (run_loadVar_mid (P:=Tryz.prog) _ E 0 98 (sh b0 b1 b2 b3 b4 b5 b6 b7 ff) _ F1.out.2.1.range Tryz.underlying98 rfl ka)) rfl ?_
 exact ⟨g,c,n,L,y,by rw [HU.out],⟨F1.out.2.2.2.1,HN.out.1,HN.out.2.2.2,F1.out.2.2.2.2,HN.out.2.1,HN.out.2.2.1,HY.out⟩,F1.out.2.2.1⟩
theorem results_tct {fn:Func} {p q r:Tmp} {t:TypeId} (h:fn.results= #[.tmp p,.cell q t,.tmp r]) (tmps:Array Value) (P:Program) (w:World) (a:Addr) (x y z:Value)
 (hp:tmps.getD p undef=x) (ha:tmps.getD q undef=.pointer (some a)) (hr:tmps.getD r undef=z) (hy:(loadVar t a).run P w=.ok y w):(results fn tmps).run P w=.ok (.tuple #[x,y,z]) w:=by
 simp only [results,h]
 have e1: ∀ (a:Addr) (W:World),(asAddr (Value.pointer (some a))).run P W=.ok a W:=fun _ _=>rfl
 simp at ha hp hr
 simp [Sem.run_bind,Result.andThen,ha,hp,hr,e1,hy]
theorem two_boxes (w1:World) (c5 b9:List Value) (h5:c5.length=5) (h9:b9.length=9) :
 (Blk ((((w1.alloc (.cells (si 0 0 0 0 (.slice none 0 0)) 240)).alloc (.cells sg1 98)).setCells w1.heap.size 0 c5).setCells (w1.heap.size+1) 0 b9) w1.heap.size c5 240/\Blk ((((w1.alloc (.cells (si 0 0 0 0 (.slice none 0 0)) 240)).alloc (.cells sg1 98)).setCells w1.heap.size 0 c5).setCells (w1.heap.size+1) 0 b9) (w1.heap.size+1) b9 98/\bc w1 ((((w1.alloc (.cells (si 0 0 0 0 (.slice none 0 0)) 240)).alloc (.cells sg1 98)).setCells w1.heap.size 0 c5).setCells (w1.heap.size+1) 0 b9)) /\
 (((w1.alloc (.cells (si 0 0 0 0 (.slice none 0 0)) 240)).alloc (.cells sg1 98)).there w1.heap.size 0 5/\(((w1.alloc (.cells (si 0 0 0 0 (.slice none 0 0)) 240)).alloc (.cells sg1 98)).setCells w1.heap.size 0 c5).there (w1.heap.size+1) 0 9):=by
 have q2:(w1.alloc (.cells (si 0 0 0 0 (.slice none 0 0)) 240)).heap.size=w1.heap.size+1:=World.size_alloc _ _
 rw [<- q2]
 have k1:Blk ((w1.alloc (.cells (si 0 0 0 0 (.slice none 0 0)) 240)).alloc (.cells sg1 98)) w1.heap.size (sj 0 0 0 0 (.slice none 0 0)) 240:=(Blk.made w1 (sj 0 0 0 0 (.slice none 0 0)) 240).below baa
 have k2:Blk ((w1.alloc (.cells (si 0 0 0 0 (.slice none 0 0)) 240)).alloc (.cells sg1 98)) (w1.alloc (.cells (si 0 0 0 0 (.slice none 0 0)) 240)).heap.size sh1 98:=Blk.made _ sh1 98
 have kb:bc w1 ((w1.alloc (.cells (si 0 0 0 0 (.slice none 0 0)) 240)).alloc (.cells sg1 98)):=below_then baa baa
 generalize (w1.alloc (.cells (si 0 0 0 0 (.slice none 0 0)) 240)).alloc (.cells sg1 98)=wa at k1 k2 kb |-
 generalize (w1.alloc (.cells (si 0 0 0 0 (.slice none 0 0)) 240)).heap.size=b2 at k2 q2 |-
 have ne:w1.heap.size≠b2:=by omega
 have k3:Blk (wa.setCells w1.heap.size 0 c5) w1.heap.size c5 240:=k1.put (by rw [h5];rfl)
 have k4:Blk (wa.setCells w1.heap.size 0 c5) b2 sh1 98:=blk_far k2 (fun e=>ne e.symm) _
 exact ⟨⟨blk_far k3 ne _,k4.put (by rw [h9];rfl),below_put (below_put kb (Nat.le_refl _) _) (by omega) _⟩,⟨k1.there,k4.there⟩⟩
theorem query_walk0 {W:World} {m:Pm} (k:Int) (root:Nat) (p:Int)
 (FC: ∀ w:World,bc W w->Calls Tryz.prog 126 #[pv m k,.int .i64 root,.int .i64 p] w fun e w'=> ∃ (t0 t1 t2 t3:Int) (po:Option Addr) (nn cc:Nat),e=.returned (.tuple #[.agg (si t0 t1 t2 t3 (.slice po nn cc)),.agg sg1])/\bc w w') :
 Calls Tryz.prog 109 #[pv m k,.int .i64 root,.int .i64 p] W (re (.tuple #[.int .i64 0,.agg si1,.bool false]) W):=by
 have FC:Hid (Calls Tryz.prog 126 #[pv m k,.int .i64 root,.int .i64 p] ((W.alloc (.cells #[pp m.rb,pp m.b,pp m.tb,.int .i64 k] 66)).alloc (.cells si1 45)) fun e w'=> ∃ (t0 t1 t2 t3:Int) (po:Option Addr) (nn cc:Nat),e=.returned (.tuple #[.agg (si t0 t1 t2 t3 (.slice po nn cc)),.agg sg1])/\bc ((W.alloc (.cells #[pp m.rb,pp m.b,pp m.tb,.int .i64 k] 66)).alloc (.cells si1 45)) w'):=FC _ (below_then baa baa)
 have s1:(W.alloc (.cells #[pp m.rb,pp m.b,pp m.tb,.int .i64 k] 66)).heap.size=W.heap.size+1:=World.size_alloc _ _
 have HB:Hid (bc W ((W.alloc (.cells #[pp m.rb,pp m.b,pp m.tb,.int .i64 k] 66)).alloc (.cells si1 45))):=below_then baa baa
 have BA:Hid (Blk ((W.alloc (.cells #[pp m.rb,pp m.b,pp m.tb,.int .i64 k] 66)).alloc (.cells si1 45)) W.heap.size [pp m.rb,pp m.b,pp m.tb,.int .i64 k] 66):=(Blk.made W [pp m.rb,pp m.b,pp m.tb,.int .i64 k] 66).below baa
 have BR:Hid (Blk ((W.alloc (.cells #[pp m.rb,pp m.b,pp m.tb,.int .i64 k] 66)).alloc (.cells si1 45)) (W.heap.size+1) sj1 45):=by
  rw [<- s1]
  exact Blk.made _ sj1 45
 clear s1
 go_enter Tryz.func109,Tryz.ntmps109
 go_upto_region 1 with fail
 generalize ((W.alloc (.cells #[pp m.rb,pp m.b,pp m.tb,.int .i64 k] 66)).alloc (.cells si1 45))=W1 at HB BA BR FC |-
 obtain ⟨R,hR⟩: ∃ R,W.heap.size+1=R:=⟨_,rfl⟩
 obtain ⟨A,hA⟩: ∃ A,W.heap.size=A:=⟨_,rfl⟩
 have LO:Hid (W.heap.size<=A/\W.heap.size<=R/\A≠R):=⟨by omega,by omega,by omega⟩
 rw [hR] at BR |-
 rw [hA] at BA |-
 clear hR hA
 have BX:=BA.out
 have c0:W1.cell? ⟨A,0,none⟩=some (pp m.rb):=BX.cell 0
 have c1:W1.cell? ⟨A,1,none⟩=some (pp m.b):=BX.cell 1
 have c2:W1.cell? ⟨A,2,none⟩=some (pp m.tb):=BX.cell 2
 have c3:W1.cell? ⟨A,3,none⟩=some (.int .i64 k):=BX.cell 3
 have lA:=BX.lt
 clear BX
 go_wp2_with fail
 refine Calls.mono FC.out ?_
 rintro e w1 ⟨t0,t1,t2,t3,po,nn,cc,rfl,hb1⟩
 obtain ⟨HV0,TH0⟩:=two_boxes w1 (sj t0 t1 t2 t3 (.slice po nn cc)) sh1 rfl rfl
 obtain ⟨V,hV⟩: ∃ V,V=((((w1.alloc (.cells (si 0 0 0 0 (.slice none 0 0)) 240)).alloc (.cells sg1 98)).setCells w1.heap.size 0 (sj t0 t1 t2 t3 (.slice po nn cc))).setCells (w1.heap.size+1) 0 sh1):=⟨_,rfl⟩
 have HV:Hid (Blk V w1.heap.size (sj t0 t1 t2 t3 (.slice po nn cc)) 240/\Blk V (w1.heap.size+1) sh1 98/\bc w1 V):=by
  rw [<- hV] at HV0
  exact HV0
 have TH:Hid (((w1.alloc (.cells (si 0 0 0 0 (.slice none 0 0)) 240)).alloc (.cells sg1 98)).there w1.heap.size 0 5/\(((w1.alloc (.cells (si 0 0 0 0 (.slice none 0 0)) 240)).alloc (.cells sg1 98)).setCells w1.heap.size 0 (sj t0 t1 t2 t3 (.slice po nn cc))).there (w1.heap.size+1) 0 9):=TH0
 clear HV0 TH0
 have BW:Hid (bc W V):=below_then (below_then HB.out hb1) HV.out.2.2
 have BRV:Hid (Blk V R sj1 45):=(BR.out.below hb1).below HV.out.2.2
 clear hb1 HB BA BR FC c0 c1 c2 c3 lA
 rename_i hcont
 refine hcont _ _ ?_
 clear hcont
 iterate 15 go_step
 refine store_pat w1.heap.size 0 (si t0 t1 t2 t3 (.slice po nn cc)) rfl rfl TH.out.1 ka kr ?_
 refine store_pat (w1.heap.size+1) 0 sg1 rfl rfl TH.out.2 ka kr ?_
 simp only [List.toList_toArray]
 rw [<- hV]
 clear hV TH
 go_upto_region 2 with fail
 generalize w1.heap.size+1=E at HV |-
 generalize w1.heap.size=T at HV |-
 have e0:V.cell? ⟨E,0,none⟩=some (.bool false):=HV.out.2.1.cell 0
 have lE:=HV.out.2.1.lt
 have F1:Hid (Blk (V.setCells R 0 sj1) R sj1 45/\bc W (V.setCells R 0 sj1)):=⟨BRV.out.put rfl,below_put BW.out LO.out.2.1 _⟩
 have TH:Hid (V.there R 0 3):=BRV.out.there
 clear HV BW BRV LO
 go_upto_region 3 with fail
 refine wp_region_lit ?_
 iterate 6 go_step
 refine store_pat R 0 si1 rfl rfl TH.out ka kr ?_
 simp only [List.toList_toArray]
 generalize V.setCells R 0 sj1=V2 at F1 |-
 go_wp2_with fail
 refine bodyPost_ret (v:=.tuple #[.int .i64 (0),.agg si1,.bool false]) (results_tct Tryz.results109 _ _ _ _ _ _ _ rfl rfl rfl (run_loadVar_mid (P:=Tryz.prog) _ R 0 45 sj1 _ F1.out.1.range Tryz.underlying45 rfl ka)) rfl ?_
 exact ⟨rfl,F1.out.2⟩
theorem query_walk1 {W:World} {m:Pm} (k:Int) (root:Nat) (p:Int) (b1 b2 b7:Bool) (ff:Int)
 (FC: ∀ w:World,bc W w->Calls Tryz.prog 126 #[pv m k,.int .i64 root,.int .i64 p] w fun e w'=> ∃ (t0 t1 t2 t3:Int) (po:Option Addr) (nn cc:Nat) (b3 b4 b5 b6:Bool),e=.returned (.tuple #[.agg (si t0 t1 t2 t3 (.slice po nn cc)),.agg (sd true b1 b2 b3 b4 b5 b6 b7 ff)])/\bc w w') :
 Calls Tryz.prog 109 #[pv m k,.int .i64 root,.int .i64 p] W (re (.tuple #[.int .i64 ff,.agg (sn b1 b2 (!b7)),.bool true]) W):=by
 have FC:Hid (Calls Tryz.prog 126 #[pv m k,.int .i64 root,.int .i64 p] ((W.alloc (.cells #[pp m.rb,pp m.b,pp m.tb,.int .i64 k] 66)).alloc (.cells si1 45)) fun e w'=> ∃ (t0 t1 t2 t3:Int) (po:Option Addr) (nn cc:Nat) (b3 b4 b5 b6:Bool),e=.returned (.tuple #[.agg (si t0 t1 t2 t3 (.slice po nn cc)),.agg (sd true b1 b2 b3 b4 b5 b6 b7 ff)])/\bc ((W.alloc (.cells #[pp m.rb,pp m.b,pp m.tb,.int .i64 k] 66)).alloc (.cells si1 45)) w'):=FC _ (below_then baa baa)
 have s1:(W.alloc (.cells #[pp m.rb,pp m.b,pp m.tb,.int .i64 k] 66)).heap.size=W.heap.size+1:=World.size_alloc _ _
 have HB:Hid (bc W ((W.alloc (.cells #[pp m.rb,pp m.b,pp m.tb,.int .i64 k] 66)).alloc (.cells si1 45))):=below_then baa baa
 have BA:Hid (Blk ((W.alloc (.cells #[pp m.rb,pp m.b,pp m.tb,.int .i64 k] 66)).alloc (.cells si1 45)) W.heap.size [pp m.rb,pp m.b,pp m.tb,.int .i64 k] 66):=(Blk.made W [pp m.rb,pp m.b,pp m.tb,.int .i64 k] 66).below baa
 have BR:Hid (Blk ((W.alloc (.cells #[pp m.rb,pp m.b,pp m.tb,.int .i64 k] 66)).alloc (.cells si1 45)) (W.heap.size+1) sj1 45):=by
  rw [<- s1]
  exact Blk.made _ sj1 45
 clear s1
 go_enter Tryz.func109,Tryz.ntmps109
 go_upto_region 1 with fail
 generalize ((W.alloc (.cells #[pp m.rb,pp m.b,pp m.tb,.int .i64 k] 66)).alloc (.cells si1 45))=W1 at HB BA BR FC |-
 obtain ⟨R,hR⟩: ∃ R,W.heap.size+1=R:=⟨_,rfl⟩
 obtain ⟨A,hA⟩: ∃ A,W.heap.size=A:=⟨_,rfl⟩
 have LO:Hid (W.heap.size<=A/\W.heap.size<=R/\A≠R):=⟨by omega,by omega,by omega⟩
 rw [hR] at BR |-
 rw [hA] at BA |-
 clear hR hA
 have BX:=BA.out
 have c0:W1.cell? ⟨A,0,none⟩=some (pp m.rb):=BX.cell 0
 have c1:W1.cell? ⟨A,1,none⟩=some (pp m.b):=BX.cell 1
 have c2:W1.cell? ⟨A,2,none⟩=some (pp m.tb):=BX.cell 2
 have c3:W1.cell? ⟨A,3,none⟩=some (.int .i64 k):=BX.cell 3
 have lA:=BX.lt
 clear BX
 go_wp2_with fail
 refine Calls.mono FC.out ?_
 rintro e w1 ⟨t0,t1,t2,t3,po,nn,cc,b3,b4,b5,b6,rfl,hb1⟩
 obtain ⟨HV0,TH0⟩:=two_boxes w1 (sj t0 t1 t2 t3 (.slice po nn cc)) (sh true b1 b2 b3 b4 b5 b6 b7 ff) rfl rfl
 obtain ⟨V,hV⟩: ∃ V,V=((((w1.alloc (.cells (si 0 0 0 0 (.slice none 0 0)) 240)).alloc (.cells sg1 98)).setCells w1.heap.size 0 (sj t0 t1 t2 t3 (.slice po nn cc))).setCells (w1.heap.size+1) 0 (sh true b1 b2 b3 b4 b5 b6 b7 ff)):=⟨_,rfl⟩
 have HV:Hid (Blk V w1.heap.size (sj t0 t1 t2 t3 (.slice po nn cc)) 240/\Blk V (w1.heap.size+1) (sh true b1 b2 b3 b4 b5 b6 b7 ff) 98/\bc w1 V):=by
  rw [<- hV] at HV0
  exact HV0
 have TH:Hid (((w1.alloc (.cells (si 0 0 0 0 (.slice none 0 0)) 240)).alloc (.cells sg1 98)).there w1.heap.size 0 5/\(((w1.alloc (.cells (si 0 0 0 0 (.slice none 0 0)) 240)).alloc (.cells sg1 98)).setCells w1.heap.size 0 (sj t0 t1 t2 t3 (.slice po nn cc))).there (w1.heap.size+1) 0 9):=TH0
 clear HV0 TH0
 have BW:Hid (bc W V):=below_then (below_then HB.out hb1) HV.out.2.2
 have BRV:Hid (Blk V R sj1 45):=(BR.out.below hb1).below HV.out.2.2
 have RE:Hid (R≠w1.heap.size+1):=by have:=BR.out.lt;have:=hb1.size;show R≠_;omega
 clear hb1 HB BA BR FC c0 c1 c2 c3 lA
 rename_i hcont
 refine hcont _ _ ?_
 clear hcont
 iterate 15 go_step
 refine store_pat w1.heap.size 0 (si t0 t1 t2 t3 (.slice po nn cc)) rfl rfl TH.out.1 ka kr ?_
 refine store_pat (w1.heap.size+1) 0 (sd true b1 b2 b3 b4 b5 b6 b7 ff) rfl rfl TH.out.2 ka kr ?_
 simp only [List.toList_toArray]
 rw [<- hV]
 clear hV TH
 go_upto_region 2 with fail
 generalize w1.heap.size+1=E at HV RE |-
 generalize w1.heap.size=T at HV |-
 have e0:V.cell? ⟨E,0,none⟩=some (.bool true):=HV.out.2.1.cell 0
 have lE:=HV.out.2.1.lt
 go_upto_region 4 with fail
 refine hda (fun cw=>Blk cw E (sh true b1 b2 b3 b4 b5 b6 b7 ff) 98) HV.out.2.1 fun hHeld=> ?_
 have BW2:Hid (bc W V.drew):=below_drew BW.out
 clear BW
 have BW:=BW2
 clear BW2
 change Hid (Blk V.drew R sj1 45) at BRV
 clear e0 lE HV
 generalize V.drew=U at hHeld BW BRV |-
 refine tma 0 22 rfl ?_
 refine tla 1 23 (.int .i64 ff) rfl ?_ ?_
 . intro w hSw;(try dsimp only at hSw);have r:=Blk.cell hSw 8;(try go_simp);(try simp [*])
 refine tma 2 24 rfl ?_
 refine tla 3 25 (.bool b1) rfl ?_ ?_
 . intro w hSw;(try dsimp only at hSw);have r:=Blk.cell hSw 1;(try go_simp);(try simp [*])
 refine tma 4 26 rfl ?_
 refine tla 5 27 (.bool b2) rfl ?_ ?_
 . intro w hSw;(try dsimp only at hSw);have r:=Blk.cell hSw 2;(try go_simp);(try simp [*])
 refine tma 6 28 rfl ?_
 refine tla 7 29 (.bool b7) rfl ?_ ?_
 . intro w hSw;(try dsimp only at hSw);have r:=Blk.cell hSw 7;(try go_simp);(try simp [*])
 refine tma 8 30 rfl ?_
 refine tma 9 31 rfl ?_
 refine tma 10 6 rfl ?_
 refine rda 11 ⟨none,.store 45 (.tmp 7) (.tmp 31),_,_,_,none⟩ rfl fun K hK=> ?_
 refine wanted_mp rfl ?_
 have th:U.there R 0 3:=BRV.out.there
 refine wp_store_mid _ _ _ rfl R 0 (sn b1 b2 (!b7)) rfl rfl th ka kr ?_
 (try simp only [List.toList_toArray])
 have F1:Hid (Blk (U.setCells R 0 (sk b1 b2 (!b7))) R (sk b1 b2 (!b7)) 45/\bc W (U.setCells R 0 (sk b1 b2 (!b7)))):=⟨BRV.out.put rfl,below_put BW.out LO.out.2.1 _⟩
 have KE:Hid (Blk (U.setCells R 0 (sk b1 b2 (!b7))) E (sh true b1 b2 b3 b4 b5 b6 b7 ff) 98):=blk_far hHeld (fun e=>RE.out e.symm) _
 generalize U.setCells R 0 (sk b1 b2 (!b7))=V3 at *
 refine hK.out _ _ KE.out ?_
 clear hK K hHeld th KE BRV BW
 intro hHeld
 try simp only [Act.put,zaa,zba,zca]
 refine tma 12 8 rfl ?_
 clear hHeld
 refine wpAnyH_done ka ?_ _
 refine NoPanic.normal ?_
 go_wp2_with fail
 refine bodyPost_ret (v:=.tuple #[.int .i64 (ff),.agg (sn b1 b2 (!b7)),.bool true]) (results_tct Tryz.results109 _ _ _ _ _ _ _ rfl rfl rfl (run_loadVar_mid (P:=Tryz.prog) _ R 0 45 (sk b1 b2 (!b7)) _ F1.out.1.range Tryz.underlying45 rfl ka)) rfl ?_
 exact ⟨rfl,F1.out.2⟩
theorem query_any {X:Nat->Prop} {W:World} {m:Pm} {s:Ps} (h:Pu X W m s) {root:Nat} {tab:Nat->Nat->Option Nat} {lf:Nat->Option Lf} (H:Rt m s root tab lf) (k:Int) (p:Nat) :
 Calls Tryz.prog 109 #[pv m k,.int .i64 root,.int .i64 p] W fun e w'=>(match lf p with | none=>e=.returned (.tuple #[.int .i64 0,.agg si1,.bool false]) | some v=>e=.returned (.tuple #[.int .i64 v.f,.agg (sn v.w v.u v.x),.bool true]))/\bc W w':=by
 by_cases hp:p<34359738368
 . cases e:lf p with
   | none =>
    refine query_walk0 k root p (fun w hb=>(find_any (h.below hb) H k p hp).mono ?_)
    rintro e' w' ⟨g,c,n,L,y,rfl,⟨_,_,_,_,_,_,q | ⟨v,q,_⟩⟩,hb'⟩
    . rw [q.2,unp_zero]
      exact ⟨_,_,_,_,_,_,_,rfl,hb'⟩
    . rw [e] at q;cases q
   | some v =>
    have w1:=query_walk1 (W:=W) (m:=m) k root p v.w v.u (!v.x) v.f (fun w hb=>(find_any (h.below hb) H k p hp).mono ?_)
    . rw [Bool.not_not] at w1;exact w1
    . rintro e' w' ⟨g,c,n,L,y,rfl,⟨_,_,_,_,_,_,q | ⟨v',q,mk,_⟩⟩,hb'⟩
      . rw [e] at q;cases q.1
      . rw [e] at q
        cases q
        obtain ⟨hv,a,d,rfl⟩:=mk
        unfold leafV
        rw [unp_pack _ _ _ _ _ _ _ _ _ hv.1 hv.2]
        exact ⟨_,_,_,_,_,_,_,_,_,_,_,rfl,hb'⟩
 . have e:lf p=none:=by
    cases q:lf p with
    | none => rfl
    | some v => exact absurd (H.pw.lf1 p v q).1 hp
   rw [e]
   refine query_walk0 k root p (fun w _=>(find_bad m k root p (fun q=>hp (by omega)) w).mono ?_)
   rintro e' w' ⟨rfl,hb'⟩
   exact ⟨_,_,_,_,_,_,_,rfl,hb'⟩
end Go.Proofs.YtgbdnnkkcpkhdaaGreatDoor.Tt
