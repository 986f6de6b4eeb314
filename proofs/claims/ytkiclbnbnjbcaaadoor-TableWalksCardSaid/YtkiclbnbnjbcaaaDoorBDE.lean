import Derived.Test.YtkiclbnbnjbcaaaDoorBDD
import Derived.Laws.ShiftsVar
namespace Go.Proofs.YtkiclbnbnjbcaaaDoor.Bd
open Go.ChangeShapes Go.WideShapes Go.ChangeAt Go.RowKit Go.Maps
set_option linter.unusedSimpArgs false
set_option linter.unusedVariables false
set_option maxRecDepth 8000
def takeA (A:Nat->Int->Prop) (f:Nat) (x:Int) (k:Nat):Nat->Int->Prop:=fun o a=>(A o a/\ ¬ (o=f/\a=x))\/(k<=o/\o<f/\a=x+2 ^ o)
structure FInv (A:Nat->Int->Prop):Prop where
 bd: ∀ o a,o<11->A o a->0<=a/\a+2 ^ o<=1048576
 dj: ∀ o a o' a',o<11->o'<11->A o a->A o' a'->(o=o'/\a=a')\/a+2 ^ o<=a'\/a'+2 ^ o'<=a
theorem two_lt {k f:Nat} (h:k<f):(2:Int) ^ k*2<=2 ^ f:=by
 have:(2:Int) ^ (k+1)<=2 ^ f:=by exact_mod_cast Nat.pow_le_pow_right (by omega) h
 rw [Int.pow_succ] at this;exact this
theorem two_pos (k:Nat):(0:Int)<2 ^ k:=Int.pow_pos (by omega)
theorem take_free {A:Nat->Int->Prop} (H:FInv A) {f k:Nat} {x:Int} (hf:f<11) (hx:A f x) (hk:k<f): ¬ takeA A f x (k+1) k (x+2 ^ k):=by
 rintro (⟨a,_⟩ | ⟨a,_⟩)
 . have p:=two_lt hk
   have q:=two_pos k
   rcases H.dj k _ f x (by omega) hf a hx with ⟨e,_⟩ | e | e
   . omega
   . omega
   . omega
 . omega
theorem take_step (A:Nat->Int->Prop) (f k:Nat) (x:Int) (hk:k<f):upd (takeA A f x (k+1)) k (fun a=>takeA A f x (k+1) k a\/a=x+2 ^ k)=takeA A f x k:=by
 funext o a
 unfold upd takeA
 by_cases c:o=k
 . subst c
   rw [if_pos rfl]
   apply propext
   constructor
   . rintro ((q | ⟨q,_⟩) | q)
     . exact Or.inl q
     . omega
     . exact Or.inr ⟨Nat.le_refl _,hk,q⟩
   . rintro (q | ⟨_,_,q⟩)
     . exact Or.inl (Or.inl q)
     . exact Or.inr q
 . rw [if_neg c]
   apply propext
   constructor
   . rintro (q | ⟨q1,q2,q3⟩)
     . exact Or.inl q
     . exact Or.inr ⟨by omega,q2,q3⟩
   . rintro (q | ⟨q1,q2,q3⟩)
     . exact Or.inl q
     . exact Or.inr ⟨by omega,q2,q3⟩
theorem take_first (A:Nat->Int->Prop) (f:Nat) (x:Int):upd A f (fun a=>A f a/\a≠x)=takeA A f x f:=by
 funext o a
 unfold upd takeA
 by_cases c:o=f
 . subst c
   rw [if_pos rfl]
   apply propext
   constructor
   . rintro ⟨q1,q2⟩;exact Or.inl ⟨q1,fun e=>q2 e.2⟩
   . rintro (⟨q1,q2⟩ | ⟨_,q,_⟩)
     . exact ⟨q1,fun e=>q2 ⟨rfl,e⟩⟩
     . omega
 . rw [if_neg c]
   apply propext
   constructor
   . intro q;exact Or.inl ⟨q,fun e=>c e.1⟩
   . rintro (⟨q,_⟩ | ⟨q1,q2,_⟩)
     . exact q
     . omega
theorem Bt.mono {w W:World} {base b gb N N':Nat} {mbs:Nat->Nat} {svs:Nat->Value} {A:Nat->Int->Prop} {G:Int->Option Int} (H:Bt w W base b gb mbs svs N A G) (hN:N<=N'):Bt w W base b gb mbs svs N' A G:=by
 obtain ⟨C,s,h1,h2,h3⟩:=H
 obtain ⟨n,hn,hm⟩:=h1.gm
 exact ⟨C,s,⟨fun o ho=>(h1.bs o ho).mono hN,h1.cg,⟨n,by omega,hm⟩,h1.dm,h1.dg,h1.ds,h1.gb,h1.bb⟩,h2,h3⟩
theorem take_no (b:Nat) (ord:Int) (ho: ¬ (0<=ord/\ord<=10)) (w:World) :
 Calls Tryd.prog 80 #[.pointer (some ⟨b,0,none⟩),.int .i64 ord] w fun e w'=>e=.returned (.tuple #[.int .i64 0,.int .i64 1])/\w'=w:=by
 have IO:=isorder_any ord
 rw [decide_eq_false ho] at IO
 have IO':Hid (∀ W:World,Calls Tryd.prog 91 #[.int .i64 ord] W fun e w'=>e=.returned (.bool false)/\w'=W):=IO
 clear IO ho
 go_enter Tryd.func80,Tryd.ntmps80
 go_wp2_with fail
 refine (IO'.out _).mono ?_
 rintro e w' ⟨rfl,rfl⟩
 go_wp2_with fail
 go_returns
 exact ⟨rfl,rfl⟩
set_option maxHeartbeats 2000000 in
theorem take_any (base b gb N:Nat) (mbs:Nat->Nat) (svs:Nat->Value) (A:Nat->Int->Prop) (G:Int->Option Int) (ord:Nat) (ho:ord<11) (hn:N+20<1048576) (w:World) (H:Bt w w base b gb mbs svs N A G) (hI:FInv A) :
 Calls Tryd.prog 80 #[.pointer (some ⟨b,0,none⟩),.int .i64 ord] w fun e w'=>(e=.returned (.tuple #[.int .i64 0,.int .i64 7])/\w'=w/\ ∀ o,ord<=o->o<11-> ∀ a,¬ A o a) \/
  ∃ (f:Nat) (x:Int),e=.returned (.tuple #[.int .i64 x,.int .i64 0])/\(ord<=f/\f<11)/\(∀ o,ord<=o->o<f-> ∀ a,¬ A o a)/\(A f x/\ ∀ a,A f a->x<=a)/\Bt w w' base b gb mbs svs (N+20) (takeA A f x ord) (setF G x (some (ord:Int))):=by
 have IO:Hid (∀ (o:Nat) (W:World),Calls Tryd.prog 91 #[.int .i64 o] W fun e w'=>e=.returned (.bool (decide (o<11)))/\w'=W):=fun o W=>by
  have q:=isorder_any (o:Int) W
  rw [show (decide ((0:Int)<=(o:Int)/\(o:Int)<=10))=decide (o<11) by rw [decide_eq_decide];omega] at q
  exact q
 have HH:Hid (Bt w w base b gb mbs svs N A G):=H
 have HI:Hid (FInv A):=hI
 have LE':=fun o ho=>HH.out.len o ho
 have LL:Hid (∀ o,o<11-> ∃ m:Nat,(m=0↔ ∀ a,¬ A o a)/\m<=N/\Hid (Calls Tryd.prog 44 #[.pointer (some ⟨b,o*2,none⟩)] w fun e w'=>e=.returned (.int .i64 m)/\w'=w)):=LE'
 have io1:Hid (∀ W:World,Calls Tryd.prog 91 #[.int .i64 ord] W fun e w'=>e=.returned (.bool true)/\w'=W):=fun W=>by have q:=IO.out ord W;rw [decide_eq_true ho] at q;exact q
 clear H hI LE'
 go_enter Tryd.func80,Tryd.ntmps80
 go_wp2_with fail
 refine (io1.out _).mono ?_
 rintro e w' ⟨rfl,rfl⟩
 go_wp2_with fail
 go_loopw [6] (fun v W=> ∃ f:Nat,ord<=f/\f<=11/\v=.int .i64 f/\Hid (∀ o,ord<=o->o<f-> ∀ a,¬ A o a)/\W=w') (fun v _=>11-(intOf v).toNat)
 case atStart=>exact ⟨ord,Nat.le_refl _,by omega,rfl,(fun o h1 h2=>by omega),rfl⟩
 case round =>
  obtain ⟨f,hf1,hf2,rfl,hE,rfl⟩:=hrel
  by_cases f11:f<11
  rotate_left
  . have f0:f=11:=by omega
    subst f0
    have iof:Hid (∀ W:World,Calls Tryd.prog 91 #[.int .i64 ((11:Nat):Int)] W fun e w'=>e=.returned (.bool false)/\w'=W):=fun W=>by have q:=IO.out 11 W;rw [decide_eq_false (by omega)] at q;exact q
    clear f11
    go_wp2_with fail
    refine (iof.out _).mono ?_
    rintro e v1 ⟨rfl,rfl⟩
    go_wp2_with fail
    refine (iof.out _).mono ?_
    rintro e v2 ⟨rfl,rfl⟩
    go_wp2_with fail
    go_returns
    exact Or.inl ⟨rfl,rfl,fun o h1 h2=>hE.out o h1 h2⟩
  have iof:Hid (∀ W:World,Calls Tryd.prog 91 #[.int .i64 f] W fun e w'=>e=.returned (.bool true)/\w'=W):=fun W=>by have q:=IO.out f W;rw [decide_eq_true f11] at q;exact q
  obtain ⟨m,hm0,hmN,LC⟩:=LL.out f f11
  have d0:decide ((f:Int)<0)=false:=by simp
  have d1:decide ((f:Int)<11)=true:=by simp;omega
  by_cases mz:m=0
  . subst mz
    have hE2:Hid (∀ o,ord<=o->o<f+1-> ∀ a,¬ A o a):=fun o h1 h2=>by
     by_cases c:o=f
     . subst c;exact hm0.1 rfl
     . exact hE.out o h1 (by omega)
    clear hm0 hE
    go_wp2_with fail
    refine (iof.out _).mono ?_
    rintro e v1 ⟨rfl,rfl⟩
    go_wp2_with fail
    refine LC.out.mono ?_
    rintro e v2 ⟨rfl,rfl⟩
    go_wp2_with fail
    go_roundw
    case rel=>exact ⟨f+1,by omega,by omega,by go_num,hE2,trivial⟩
    case measure=>simp [intOf];omega
  have mb0:((m:Int)==0)=false:=by simp;omega
  have ne: ∃ a,A f a:=by
   apply Classical.byContradiction
   intro q
   exact mz (hm0.2 (fun a ha=>q ⟨a,ha⟩))
  have LW:=HH.out.low f f11 (by omega) ne
  have LW':Hid _:=LW
  clear hm0 ne LW
  go_wp2_with fail
  refine (iof.out _).mono ?_
  rintro e v1 ⟨rfl,rfl⟩
  go_wp2_with fail
  refine LC.out.mono ?_
  rintro e v2 ⟨rfl,rfl⟩
  go_wp2_with fail
  refine (iof.out _).mono ?_
  rintro e v3 ⟨rfl,rfl⟩
  go_wp2_with fail
  refine Calls.mono LW'.out ?_
  rintro e u1 ⟨x,rfl,hx,hB⟩
  rw [take_first] at hB
  have B1:Hid (Bt v3 u1 base b gb mbs svs N (takeA A f x f) G):=hB
  have HX:Hid (A f x/\ ∀ a,A f a->x<=a):=hx
  have bx:=HI.out.bd f x f11 hx.1
  have x0:0<=x:=bx.1
  have XB:Hid (x+2 ^ f<=1048576):=bx.2
  clear hB hx bx LW' LC iof
  go_wp2_with fail
  go_loopw [6] (fun v W=> ∃ k:Nat,ord<=k/\k<=f/\v=.int .i64 k/\Hid (Bt v3 W base b gb mbs svs (N+(f-k)) (takeA A f x k) G)) (fun v _=>(intOf v).toNat)
  case atStart=>exact ⟨f,hf1,Nat.le_refl _,rfl,by rw [Nat.sub_self];exact B1⟩
  case round =>
   clear B1
   obtain ⟨k,hk1,hk2,rfl,hB⟩:=hrel
   by_cases c:ord<k
   . obtain ⟨k',rfl⟩: ∃ k',k=k'+1:=⟨k-1,by omega⟩
     have c1:decide ((ord:Int)<((k'+1:Nat):Int))=true:=by simp;omega
     have kf:k'<f:=by omega
     have p2:=two_lt kf
     have p3:=two_pos k'
     have xb:=XB.out
     have hBd:=hB.out.below (below_drew (Below.refl _ _))
     have AC:=hBd.add k' (by omega) (x+2 ^ k') ⟨by omega,by omega⟩ (by omega) (take_free HI.out f11 HX.out.1 kf)
     rw [take_step A f k' x kf,show N+(f-(k'+1))+1=N+(f-k') by omega] at AC
     have e2:wrap64 (x+wrap64 (2 ^ k'))=x+2 ^ k':=by unfold wrap64;omega
     rw [<- e2] at AC
     have AC':Hid _:=AC
     clear AC hB hBd e2
     have e0:decide ((k':Int)<0)=false:=by simp
     have e1:decide ((k':Int)<11)=true:=by simp;omega
     clear p2 p3 xb
     go_wp2_with fail
     go_region_with (refine Calls.mono AC'.out ?_;rintro e u2 ⟨rfl,hB2⟩)
     go_wp2_with fail
     go_roundw
     case rel=>exact ⟨k',by omega,by omega,by go_num,hB2⟩
     case measure=>simp [intOf]
   . have ck:k=ord:=by omega
     subst ck
     have c1:decide ((k:Int)<(k:Int))=false:=by simp
     obtain ⟨w9,c22,lb9,r9,B9⟩:=hB.out.note (x:=x) (v:=(k:Int)) (wf64 (by omega) (by have:=XB.out;have:=two_pos f;omega)) (wf64 (by omega) (by omega)) (by unfold maxLen;omega)
     have BB:Hid (Bt v3 w9 base b gb mbs svs (N+(f-k)+1) (takeA A f x k) (setF G x (some (k:Int)))):=B9
     clear hB B9 c
     go_wp2_with fail
     go_returns
     exact Or.inr ⟨f,x,rfl,⟨hf1,f11⟩,hE.out,HX.out,BB.out.mono (by omega)⟩
end Go.Proofs.YtkiclbnbnjbcaaaDoor.Bd
