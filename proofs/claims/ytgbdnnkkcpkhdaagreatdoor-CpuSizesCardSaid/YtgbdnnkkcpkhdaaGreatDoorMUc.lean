import Derived.Test.YtgbdnnkkcpkhdaaGreatDoorBDec
import Derived.Lib.SlKeysI
set_option linter.unusedSimpArgs false
set_option linter.unusedVariables false
set_option maxRecDepth 8000
set_option maxHeartbeats 4000000
open Go.ChangeShapes Go.WideShapes Go.ChangeAt Go.RowKit Go.Maps
namespace Go.Proofs.YtgbdnnkkcpkhdaaGreatDoor.Bd
theorem Bd.block {w w':World} {base b gb N:Nat} {C:List Value} {mbs:Nat->Nat} {svs:Nat->Value} {A:Nat->Int->Prop} {G:Int->Option Int} (H:Bd w base b gb N C mbs svs A G) (hs:w.heap.size<=w'.heap.size) (hb: ∀ j,j<w.heap.size->Ob b gb mbs svs j->w'.heap[j]? =w.heap[j]?):Bd w' base b gb N C mbs svs A G:=by
 obtain ⟨n,hn,hm⟩:=H.gm
 refine ⟨fun o ho=> ?_,H.cg,⟨n,hn,hm.block (hb gb hm.lt (Or.inr (Or.inl rfl)))⟩,H.dm,H.dg,H.ds,H.gb,Nat.le_trans H.bb hs⟩
 obtain ⟨h2,F2,n2,bl2,r⟩:=H.bs o ho
 exact ⟨h2,F2,n2,⟨(hb b (blk_lt bl2.blk) (Or.inl rfl)).trans bl2.blk,bl2.cm,bl2.cs,row_keep bl2.own (fun g e=>hb g (row_lt bl2.own g e).2 (Or.inr (Or.inr ⟨o,ho,Or.inr e⟩))),bl2.mp.block (hb _ bl2.mp.lt (Or.inr (Or.inr ⟨o,ho,Or.inl rfl⟩))),bl2.ne,bl2.nb,bl2.lb⟩,r⟩
def Bu (Z:Nat->Prop) (W:World) (b N:Nat) (F:Nat->Prop) (G:Int->Option Int):Prop :=
 Bnd F/\ ∃ base gb mbs s,Bt W W base b gb mbs s N (can F) G/\ ∀ j,Z j->j<W.heap.size/\ ¬ Ob b gb mbs s j
theorem Bt.rest {w W:World} {base b gb N:Nat} {mbs:Nat->Nat} {svs:Nat->Value} {A:Nat->Int->Prop} {G:Int->Option Int} (H:Bt w W base b gb mbs svs N A G): ∃ s,Bt W W base b gb mbs s N A G/\(∀ j,j<w.heap.size-> ¬ Ob b gb mbs svs j-> ¬ Ob b gb mbs s j)/\Kf (Ob b gb mbs svs) w W:=by
 obtain ⟨C,s,h1,h2,h3⟩:=H
 refine ⟨s,Bt.refl h1,fun j hj nO e=> ?_,h2⟩
 apply nO
 rcases e with e | e | ⟨o,ho,e | e⟩
 . exact Or.inl e
 . exact Or.inr (Or.inl e)
 . exact Or.inr (Or.inr ⟨o,ho,Or.inl e⟩)
 . rcases h3 o ho with q | ⟨g,q,lg⟩
   . exact Or.inr (Or.inr ⟨o,ho,Or.inr (q.symm.trans e)⟩)
   . rw [q] at e;have:=sia e;omega
theorem Kf.le {S S':Nat->Prop} {a b:World} (h:Kf S a b) (hS: ∀ j,S j->S' j):Kf S' a b:=⟨h.os,h.tape,h.output,h.size,fun j hj hn=>h.block j hj (fun e=>hn (hS j e))⟩
theorem Bu.of {Z:Nat->Prop} {w W:World} {base b gb N:Nat} {mbs:Nat->Nat} {svs:Nat->Value} {F:Nat->Prop} {G:Int->Option Int} (hF:Bnd F) (H:Bt w W base b gb mbs svs N (can F) G) (hZ: ∀ j,Z j->j<w.heap.size/\ ¬ Ob b gb mbs svs j):Bu Z W b N F G/\Kf (fun j=> ¬ Z j) w W:=by
 obtain ⟨s,B,hO,k⟩:=H.rest
 refine ⟨⟨hF,base,gb,mbs,s,B,fun j hj=>⟨nla (hZ j hj).1 k.size,hO j (hZ j hj).1 (hZ j hj).2⟩⟩,k.le (fun j e z=>(hZ j z).2 e)⟩
section
variable {Z:Nat->Prop} {W:World} {b N:Nat} {F:Nat->Prop} {G:Int->Option Int}
theorem Bu.next (H:Bu Z W b N F G) {W':World} (hs:W.heap.size<=W'.heap.size) (hb: ∀ j,j<W.heap.size-> ¬ Z j->W'.heap[j]? =W.heap[j]?):Bu (fun j=>Z j\/(W.heap.size<=j/\j<W'.heap.size)) W' b N F G:=by
 obtain ⟨hF,base,gb,mbs,s,⟨C,s',h1,h2,h3⟩,hZ⟩:=H
 have nz: ∀ j,j<W.heap.size->Ob b gb mbs s' j->Ob b gb mbs s j:=fun j hj e=>by
  rcases e with e | e | ⟨o,ho,e | e⟩
  . exact Or.inl e
  . exact Or.inr (Or.inl e)
  . exact Or.inr (Or.inr ⟨o,ho,Or.inl e⟩)
  . rcases h3 o ho with q | ⟨g,q,lg⟩
    . exact Or.inr (Or.inr ⟨o,ho,Or.inr (q.symm.trans e)⟩)
    . rw [q] at e;have:=sia e;omega
 refine ⟨hF,base,gb,mbs,s',Bt.refl (h1.block hs (fun j hj e=>hb j hj (fun z=>(hZ j z).2 (nz j hj e)))),fun j hj=> ?_⟩
 rcases hj with z | ⟨l1,l2⟩
 . exact ⟨nla (hZ j z).1 hs,fun e=>(hZ j z).2 (nz j (hZ j z).1 e)⟩
 . refine ⟨l2,fun e=> ?_⟩
   have bb:=h1.bb
   rcases e with e | e | ⟨o,ho,e | e⟩
   . have:=h1.blk.2;omega
   . have:=h1.gb.2;omega
   . obtain ⟨_,_,_,bl,_⟩:=h1.bs o ho
     have:=bl.lb.2;omega
   . obtain ⟨_,_,_,bl,_⟩:=h1.bs o ho
     have:=(row_lt bl.own _ e).2;omega
theorem Bu.less {Z Z':Nat->Prop} {W:World} {b N:Nat} {F:Nat->Prop} {G:Int->Option Int} (H:Bu Z W b N F G) (h: ∀ j,Z' j->Z j):Bu Z' W b N F G:=by
 obtain ⟨hF,base,gb,mbs,s,B,hZ⟩:=H
 exact ⟨hF,base,gb,mbs,s,B,fun j hj=>hZ j (h j hj)⟩
theorem Bu.below (H:Bu Z W b N F G) {W':World} (hb:bc W W'):Bu Z W' b N F G:=(H.next hb.size (fun j hj _=>hb.block j hj)).less (fun j h=>Or.inl h)
theorem Bu.mono (H:Bu Z W b N F G) {N':Nat} (h:N<=N'):Bu Z W b N' F G:=by
 obtain ⟨hF,base,gb,mbs,s,B,hZ⟩:=H
 exact ⟨hF,base,gb,mbs,s,B.mono h,hZ⟩
theorem Bu.free (H:Bu Z W b N F G):Calls Tryz.prog 46 #[.pointer (some ⟨b,0,none⟩)] W fun e w'=>e=.returned (.int .i64 (cnt F 1048576:Nat))/\w'=W:=by
 obtain ⟨hF,base,gb,mbs,s,B,hZ⟩:=H
 exact B.free hF
structure Took (F:Nat->Prop) (o p:Nat) (f q d:Nat):Prop where
 sum:o+d=f
 top:f<=10
 cn:cnN F f q
 low: ∀ q',cnN F f q'->q<=q'
 less: ∀ k,o<=k->k<f-> ∀ q',¬ cnN F k q'
 at_:p=q*2 ^ d
theorem Took.mul {F:Nat->Prop} {o p f q d:Nat} (T:Took F o p f q d):p*2 ^ o=q*2 ^ f:=by
 rw [T.at_,Nat.mul_assoc,<- Nat.pow_add,Nat.add_comm d o,T.sum]
theorem Took.all {F:Nat->Prop} {o p f q d:Nat} (T:Took F o p f q d): ∀ i,i / 2 ^ o=p->F i:=fun i hi=>by
 apply T.cn.1
 rw [<- T.sum,div_up,hi,T.at_,Nat.mul_div_cancel _ (p2pos d)]
theorem Bu.take (H:Bu Z W b N F G) (o:Nat) (ho:o<=10) (hn:N+20<1048576) :
 Calls Tryz.prog 106 #[.pointer (some ⟨b,0,none⟩),.int .i64 o] W fun e w'=>(e=.returned (.tuple #[.int .i64 0,.int .i64 7])/\w'=W/\ ∀ k q,o<=k->k<=10-> ¬ cnN F k q) \/
  ∃ p f q d:Nat,e=.returned (.tuple #[.int .i64 (p*2 ^ o:Nat),.int .i64 0])/\Took F o p f q d/\Bu Z w' b (N+20) (fun i=>F i/\ ¬ i / 2 ^ o=p) (setF G (p*2 ^ o:Nat) (some (o:Int)))/\Kf (fun j=> ¬ Z j) W w':=by
 obtain ⟨hF,base,gb,mbs,s,B,hZ⟩:=H
 refine (take_any base b gb N mbs s (can F) G o (by omega) hn W B (can_inv hF)).mono ?_
 rintro e w' (⟨he,hw,h⟩ | ⟨f,x,he,⟨of_,f11⟩,less,⟨hx,low⟩,hB⟩)
 . exact Or.inl ⟨he,hw,fun k q k1 k2 c=>h k k1 (by omega) _ ((can_iff k2).2 c)⟩
 . right
   obtain ⟨f10,q,rfl,hc⟩:=hx
   obtain ⟨d,rfl⟩: ∃ d,f=o+d:=⟨f-o,by omega⟩
   have T:Took F o (q*2 ^ d) (o+d) q d:=⟨rfl,f10,hc,fun q' c=>by
    have:=low _ ((can_iff f10).2 c)
    have l:q*2 ^ (o+d)<=q'*2 ^ (o+d):=Int.ofNat_le.1 this
    exact Nat.le_of_mul_le_mul_right l (p2pos _),fun k k1 k2 q' c=>less k k1 k2 _ ((can_iff (by omega)).2 c),rfl⟩
   rw [take_can f10 hc d o rfl,<- T.mul] at hB
   rw [<- T.mul] at he
   exact ⟨q*2 ^ d,o+d,q,d,he,T,Bu.of (fun i hi=>hF i hi.1) hB hZ⟩
def Rgs (w:World) (g n:Nat) (R:Nat->Int × Int):Prop:=g<w.heap.size/\ ∀ i,i<n->w.cell? ⟨g,i*2,none⟩=some (.int .i64 (R i).1)/\w.cell? ⟨g,i*2+1,none⟩=some (.int .i64 (R i).2)
theorem Rgs.block {w W:World} {g n:Nat} {R:Nat->Int × Int} (H:Rgs w g n R) (hs:w.heap.size<=W.heap.size) (e:W.heap[g]? =w.heap[g]?):Rgs W g n R :=
 ⟨nla H.1 hs,fun i hi=>⟨by rw [World.cell?_of_block (w:=w) (a:=⟨g,i*2,none⟩) e];exact (H.2 i hi).1,by rw [World.cell?_of_block (w:=w) (a:=⟨g,i*2+1,none⟩) e];exact (H.2 i hi).2⟩⟩
theorem Rgs.below {w W:World} {g n:Nat} {R:Nat->Int × Int} (H:Rgs w g n R) (hb:bc w W):Rgs W g n R:=H.block hb.size (hb.block g H.1)
def endAt (R:Nat->Int × Int):Nat->Int
 | 0 => 0
 | n + 1 => (R n).2
def Form (R:Nat->Int × Int) (n:Nat):Prop:= ∀ i,i<n->endAt R i<=(R i).1/\(R i).1<(R i).2/\(R i).2<=1048576
theorem inform_any (g n c:Nat) (R:Nat->Int × Int) (z:Bool) (hz:z=true↔Form R n) (hn:n<=1000) (w:World) (H:Rgs w g n R) :
 Calls Tryz.prog 82 #[.slice (some ⟨g,0,none⟩) n c] w (re (.bool z) w):=by
 have HZ:Hid (z=true↔Form R n):=hz
 clear hz
 have HH:Hid (Rgs w g n R):=H
 clear H
 go_enter Tryz.func82,Tryz.ntmps82
 go_wp2_with fail
 go_loopw [3,8] (fun v i wr=> ∃ j:Nat,j<=n/\i=.int .i64 j/\v=.int .i64 (endAt R j)/\Hid (bc w wr)/\Hid (Form R j)) (fun _ i _=>n-(Go.RowKit.intOf i).toNat)
 case atStart=>exact ⟨0,by omega,rfl,rfl,Below.refl _ _,fun i hi=>absurd hi (Nat.not_lt_zero _)⟩
 case round =>
  obtain ⟨j,hj,rfl,rfl,hb,hF⟩:=hrel
  by_cases cj:j<n
  rotate_left
  . obtain rfl:j=n:=by omega
    have d1:decide ((j:Int)<(j:Int))=false:=by simp
    go_wp2_with fail
    go_ret
    exact ⟨by rw [HZ.out.2 hF.out];rfl,hb.out⟩
  have dj:decide ((j:Int)<(n:Int))=true:=kh
  have d0:decide ((j:Int)<0)=false:=by simp
  have RR:=HH.out.below hb.out
  obtain ⟨q1,q2⟩:=RR.2 j cj
  have lg:=RR.1
  have NX:Hid (Form R (j+1)↔endAt R j<=(R j).1/\(R j).1<(R j).2/\(R j).2<=1048576):=by
   constructor
   . intro h;exact h j (by omega)
   . intro h i hi
     by_cases e:i=j
     . subst e;exact h
     . exact hF.out i (by omega)
  have NO:Hid (¬ (endAt R j<=(R j).1/\(R j).1<(R j).2/\(R j).2<=1048576)-> ¬ Form R n):=fun h h2=>h (h2 j cj)
  have EN:Hid (endAt R (j+1)=(R j).2):=rfl
  generalize endAt R j=en at *
  generalize (R j).1=f at *
  generalize ht:(R j).2=t at *
  clear RR hF ht
  by_cases c0:f<en
  . have e0:decide (f<en)=true:=by simp [c0]
    go_wp2_with fail
    go_ret
    have zf:z=false:=by
     cases z with
     | false => rfl
     | true => exact absurd (HZ.out.1 rfl) (NO.out (by omega))
    exact ⟨by rw [zf];rfl,hb.out.alloc hb.out.size _⟩
  have e0:decide (f<en)=false:=kh
  by_cases c1:t<=f
  . have e1:decide (t<=f)=true:=by simp [c1]
    go_wp2_with fail
    go_ret
    have zf:z=false:=by
     cases z with
     | false => rfl
     | true => exact absurd (HZ.out.1 rfl) (NO.out (by omega))
    exact ⟨by rw [zf];rfl,hb.out.alloc hb.out.size _⟩
  have e1:decide (t<=f)=false:=kh
  by_cases c2:1048576<t
  . have e2:decide (1048576<t)=true:=by simp [c2]
    go_wp2_with fail
    go_ret
    have zf:z=false:=by
     cases z with
     | false => rfl
     | true => exact absurd (HZ.out.1 rfl) (NO.out (by omega))
    exact ⟨by rw [zf];rfl,hb.out.alloc hb.out.size _⟩
  have e2:decide (1048576<t)=false:=kh
  have FF:Hid (Form R (j+1)):=NX.out.2 (by omega)
  go_wp2_with fail
  go_roundw
  case rel=>exact ⟨j+1,by omega,by go_num,by rw [EN.out],hb.out.alloc hb.out.size _,FF⟩
  case measure=>simp [Go.RowKit.intOf];omega
theorem MapC.here {w:World} {b:Nat} (h:w.heap[b]? =some (.map #[] 0)):MapC w b 0 0 noneF :=
 ⟨.map [],⟨#[],0,h,⟨by simp,MapKept.stamped_empty 0,by simp⟩,by simp,rfl⟩,rfl,fun k=>⟨rfl,rfl⟩⟩
theorem Bu.lay (H:Bu Z W b N F G) (f t:Nat) (ft:f<=t) (t9:t<=1048576) (hd: ∀ i,f<=i->i<t-> ¬ F i) (hn:N+(t-f)<=1048576) :
 Calls Tryz.prog 83 #[.pointer (some ⟨b,0,none⟩),.agg #[.int .i64 f,.int .i64 t]] W fun e w'=>e=.returned (.tuple #[])/\Bu Z w' b (N+(t-f)) (seg F f t) G/\Kf (fun j=> ¬ Z j) W w':=by
 obtain ⟨hF,base,gb,mbs,s,B,hZ⟩:=H
 refine (lay_any base b gb N mbs s F G f t ft t9 hd hF hn W B).mono ?_
 rintro e w' ⟨he,h⟩
 exact ⟨he,Bu.of (seg_bnd hF f t9) h hZ⟩
structure Mk (w1 W:World) (k:Nat):Prop where
 bl:bc w1 W
 size:W.heap.size=w1.heap.size+2+k
 mg:W.heap[w1.heap.size]? =some (.map #[] 0)
 ms: ∀ o,o<k->W.heap[w1.heap.size+2+o]? =some (.map #[] 0)
 blk: ∃ C,Blk W (w1.heap.size+1) C 190/\C.length=23/\C[22]? =some (.map (some w1.heap.size))/\(∀ o,o<11->C[o*2+1]? =some (.slice none 0 0))/\ ∀ o,o<k->C[o*2]? =some (.map (some (w1.heap.size+2+o)))
theorem Mk.cell {w1 W:World} {k:Nat} (H:Mk w1 W k) (o:Nat) (ho:o<23):(∃ v,W.cell? ⟨w1.heap.size+1,o,none⟩=some v)/\W.frozen? ⟨w1.heap.size+1,o,none⟩=false/\w1.heap.size+1<W.heap.size:=by
 obtain ⟨C,hB,hl,_⟩:=H.blk
 exact ⟨⟨C[o]'(by omega),by rw [hB.cell,List.getElem?_eq_getElem]⟩,hB.free o,blk_lt hB⟩
theorem Mk.step {w1 W:World} {k:Nat} (H:Mk w1 W k) (hk:k<11):Mk w1 ((W.alloc (.map #[] 0)).setCell ⟨w1.heap.size+1,k*2,none⟩ (.map (some W.heap.size))) (k+1):=by
 have bA:bc W (W.alloc (.map #[] 0)):=baa
 have sz:=H.size
 have kf:=Kf.set (S:=fun j=>j=w1.heap.size+1) (W.alloc (.map #[] 0)) (w1.heap.size+1) (k*2) (.map (some W.heap.size)) rfl
 have keep: ∀ j,j<W.heap.size->j≠w1.heap.size+1->((W.alloc (.map #[] 0)).setCell ⟨w1.heap.size+1,k*2,none⟩ (.map (some W.heap.size))).heap[j]? =W.heap[j]? :=fun j hj n=>(kf.block j ke n).trans (bA.block j hj)
 obtain ⟨C,hB,hl,h22,ho,he⟩:=H.blk
 have s2:((W.alloc (.map #[] 0)).setCell ⟨w1.heap.size+1,k*2,none⟩ (.map (some W.heap.size))).heap.size=W.heap.size+1:=by
  rw [World.size_setCell,World.size_alloc]
 refine ⟨⟨kf.os.trans (bA.os.trans H.bl.os),kf.tape.trans (bA.tape.trans H.bl.tape),kf.output.trans (bA.output.trans H.bl.output),by rw [s2];omega,fun j hj=>(keep j (by omega) (by omega)).trans (H.bl.block j hj)⟩,by rw [s2];omega,(keep _ (by omega) (by omega)).trans H.mg,fun o ho=> ?_,?_⟩
 . by_cases c:o=k
   . subst c
     have e:w1.heap.size+2+o=W.heap.size:=by omega
     rw [e,kf.block _ ke (by omega)]
     exact own1 W _
   . exact (keep _ (by omega) (by omega)).trans (H.ms o (by omega))
 . refine ⟨C.set (k*2) (.map (some W.heap.size)),(hB.below bA).set _ _,by simp [hl],?_,fun o h=> ?_,fun o h=> ?_⟩
   . rw [List.getElem?_set_ne (by omega)];exact h22
   . rw [List.getElem?_set_ne (by omega)];exact ho o h
   . by_cases c:o=k
     . subst c
       rw [List.getElem?_set_self (by omega),sz]
     . rw [List.getElem?_set_ne (by omega)];exact he o (by omega)
theorem can_none (o:Nat) (a:Int): ¬ can (fun _=>False) o a:=fun ⟨_,q,_,h⟩=>h.1 _ (blk_ne o q)
theorem Mk.bu {w1 W:World} (H:Mk w1 W 11):Bu (fun j=>j<w1.heap.size) W (w1.heap.size+1) 0 (fun _=>False) noneF:=by
 obtain ⟨C,hB,hl,h22,ho,he⟩:=H.blk
 have sz:=H.size
 refine ⟨fun i h=>h.elim,w1.heap.size+13,w1.heap.size,fun o=>w1.heap.size+2+o,fun _=>.slice none 0 0,Bt.refl (C:=C) ⟨fun o ho'=> ?_,h22,⟨0,Nat.le_refl _,MapC.here H.mg⟩,(fun o o' _ _ n=>by show w1.heap.size+2+o≠w1.heap.size+2+o';omega),(fun o _=>by show w1.heap.size+2+o≠_;omega),(fun o o' _ _ _ g e=>by cases e),⟨by omega,by omega⟩,by omega⟩,fun j hj=>⟨by omega,?_⟩⟩
 . refine ⟨[],noneF,0,⟨hB,he o ho',ho o ho',⟨rfl,Or.inl ⟨rfl,rfl⟩⟩,MapC.here (H.ms o ho'),by omega,(fun g e=>by cases e),⟨by omega,by omega⟩⟩,⟨fun k hk=>absurd hk (Nat.not_lt_zero _),(fun a k e=>by cases e),fun a ha=>absurd ha List.not_mem_nil⟩,fun k k0 km=>absurd km (Nat.not_lt_zero _),⟨Nat.le_refl _,Nat.le_refl _⟩,fun a=>⟨fun h=>absurd h List.not_mem_nil,fun h=>absurd h (can_none o a)⟩⟩
 . rintro (e | e | ⟨o,ho,e | e⟩)
   . have hj':j<w1.heap.size:=hj
     omega
   . have hj':j<w1.heap.size:=hj
     omega
   . have hj':j<w1.heap.size:=hj
     have e':j=w1.heap.size+2+o:=e
     omega
   . cases e
def RU (R:Nat->Int × Int) (j:Nat):Nat->Prop:=fun i=> ∃ m,m<j/\(R m).1<=(i:Int)/\(i:Int)<(R m).2
theorem ru_none (R:Nat->Int × Int):RU R 0=fun _=>False:=by
 funext i;apply propext
 exact ⟨fun ⟨m,h,_⟩=>absurd h (Nat.not_lt_zero _),fun h=>False.elim h⟩
theorem end_mono {R:Nat->Int × Int} {n:Nat} (H:Form R n): ∀ j m,m<j->j<=n->(R m).2<=endAt R j
 | 0, m, h, _ => absurd h (Nat.not_lt_zero _)
 | j + 1, m, h, hj => by
  by_cases c:m=j
  . subst c;exact Int.le_refl _
  . have:=end_mono H j m (by omega) (by omega)
    have:=H j (by omega)
    show _<=(R j).2
    omega
theorem end_pos {R:Nat->Int × Int} {n:Nat} (H:Form R n): ∀ j,j<=n->0<=endAt R j/\endAt R j<=1048576
 | 0, _ => ⟨Int.le_refl _, (by decide : (0 : Int) ≤ 1048576)⟩
 | j + 1, hj => by
  have:=end_pos H j (by omega)
  have:=H j (by omega)
  show 0<=(R j).2/\(R j).2<=1048576
  omega
theorem ru_lt {R:Nat->Int × Int} {n j i:Nat} (H:Form R n) (hj:j<=n) (h:RU R j i):(i:Int)<endAt R j:=by
 obtain ⟨m,h1,h2,h3⟩:=h
 have:=end_mono H j m h1 hj
 omega
theorem ru_seg {R:Nat->Int × Int} {j f t:Nat} (hf:(R j).1=(f:Int)) (ht:(R j).2=(t:Int)):seg (RU R j) f t=RU R (j+1):=by
 funext i;apply propext
 constructor
 . rintro (⟨m,h1,h2⟩ | ⟨h1,h2⟩)
   . exact ⟨m,by omega,h2⟩
   . exact ⟨j,by omega,by rw [hf];omega,by rw [ht];omega⟩
 . rintro ⟨m,h1,h2,h3⟩
   by_cases c:m=j
   . subst c
     rw [hf] at h2;rw [ht] at h3
     exact Or.inr ⟨by omega,by omega⟩
   . exact Or.inl ⟨m,by omega,h2,h3⟩
theorem mk_first (w1:World) (C:List Value) (hl:C.length=23) (h22:C[22]? =some (.map (some w1.heap.size))) (ho: ∀ o,o<11->C[o*2+1]? =some (.slice none 0 0)):Mk w1 ((w1.alloc (.map #[] 0)).alloc (.cells C.toArray 190)) 0:=by
 have b1:bc w1 (w1.alloc (.map #[] 0)):=baa
 have b2:bc (w1.alloc (.map #[] 0)) ((w1.alloc (.map #[] 0)).alloc (.cells C.toArray 190)):=baa
 have s1:(w1.alloc (.map #[] 0)).heap.size=w1.heap.size+1:=by rw [World.size_alloc]
 refine ⟨below_then b1 b2,by rw [World.size_alloc,s1],(b2.block _ (by rw [s1];omega)).trans (own1 _ _),fun o h=>absurd h (Nat.not_lt_zero _),C,?_,hl,h22,ho,fun o h=>absurd h (Nat.not_lt_zero _)⟩
 have:=own1 (w1.alloc (.map #[] 0)) (.cells C.toArray 190)
 rw [s1] at this
 exact this
theorem new_ok (g n c:Nat) (hn:n<=64) (R:Nat->Int × Int) (w:World) (H:Rgs w g n R) (hF:Form R n):Calls Tryz.prog 43 #[.slice (some ⟨g,0,none⟩) n c] w fun e w'=> ∃ b,e=.returned (.tuple #[.pointer (some ⟨b,0,none⟩),.int .i64 0])/\Bu (fun j=>j<w.heap.size) w' b (endAt R n).toNat (RU R n) noneF/\bc w w':=by
 have IC:Hid (_):=inform_any g n c R true ⟨fun _=>hF,fun _=>rfl⟩ (by omega) w H
 have HF:Hid (Form R n):=hF
 have HR:Hid (Rgs w g n R):=H
 have d:decide ((64:Int)<(n:Int))=false:=kh
 have hmm:= @run_makeMap Tryz.prog
 clear H hF
 go_enter Tryz.func43,Tryz.ntmps43
 go_wp2_with fail
 refine Calls.mono IC.out ?_
 rintro e w1 ⟨rfl,hb⟩
 have HB:Hid (bc w w1):=hb
 clear hb IC
 go_upto_region 6 with fail
 have M0:Hid (Mk w1 _ 0):=mk_first w1 [.map none,.slice none 0 0,.map none,.slice none 0 0,.map none,.slice none 0 0,.map none,.slice none 0 0,.map none,.slice none 0 0,.map none,.slice none 0 0,.map none,.slice none 0 0,.map none,.slice none 0 0,.map none,.slice none 0 0,.map none,.slice none 0 0,.map none,.slice none 0 0,.map (some w1.heap.size)] rfl rfl (fun o ho=>by
  have:o=0\/o=1\/o=2\/o=3\/o=4\/o=5\/o=6\/o=7\/o=8\/o=9\/o=10:=by omega
  rcases this with rfl | rfl | rfl | rfl | rfl | rfl | rfl | rfl | rfl | rfl | rfl <;> rfl)
 generalize (w1.alloc (.map #[] 0)).alloc _=W0 at M0 |-
 go_wp2_with fail
 go_loopw [5,17] (fun v i W=> ∃ k:Nat,k<=11/\i=.int .i64 k/\Hid (Mk w1 W k)) (fun _ i _=>11-(Go.RowKit.intOf i).toNat)
 case atStart=>exact ⟨0,by omega,rfl,M0⟩
 case round =>
  clear M0
  obtain ⟨k,hk,rfl,hM⟩:=hrel
  by_cases ck:k<11
  . have d0:decide ((k:Int)<0)=false:=by simp
    have d1:decide ((k:Int)<11)=true:=kh
    obtain ⟨⟨v0,c0⟩,fr,lb⟩:=hM.out.cell (k*2) (by omega)
    have M2:=hM.out.step ck
    rw [World.setCell_alloc_past _ _ _ _ lb] at M2
    have HM2:Hid (Mk w1 ((wr.setCell ⟨w1.heap.size+1,k*2,none⟩ (.map (some wr.heap.size))).alloc (.map #[] 0)) (k+1)):=M2
    clear hM M2
    go_wp2_with fail
    go_roundw
    case rel=>exact ⟨k+1,by omega,by go_num,HM2⟩
    case measure=>simp [Go.RowKit.intOf];omega
  obtain rfl:k=11:=by omega
  have hBu:=hM.out.bu
  have HBu:Hid (Bu (fun x=>x<w1.heap.size) wr (w1.heap.size+1) (endAt R 0).toNat (RU R 0) noneF/\bc w1 wr):=⟨by rw [ru_none];exact hBu,hM.out.bl⟩
  clear hM hBu ck
  rw [show ((11:Nat):Int)=(11:Int) from rfl]
  go_wp2_with fail
  go_loopw [7,30] (fun _ i W=> ∃ j:Nat,j<=n/\i=.int .i64 j/\Hid (Bu (fun x=>x<w1.heap.size) W (w1.heap.size+1) (endAt R j).toNat (RU R j) noneF/\bc w1 W)) (fun _ i _=>n-(Go.RowKit.intOf i).toNat)
  case atStart=>exact ⟨0,by omega,rfl,HBu⟩
  case round =>
   clear HBu
   obtain ⟨j,hj,rfl,hB⟩:=hrel
   have W1:Hid (bc w wr):=HB.out.trans (Below.mono hB.out.2 HB.out.size)
   by_cases cj:j<n
   rotate_left
   . obtain rfl:j=n:=by omega
     have d1:decide ((j:Int)<(j:Int))=false:=by simp
     go_wp2_with fail
     go_returns
     exact ⟨_,rfl,hB.out.1.less (fun x hx=>nla hx HB.out.size),W1.out⟩
   have d1:decide ((j:Int)<(n:Int))=true:=kh
   have d0:decide ((j:Int)<0)=false:=by simp
   have RR:=HR.out.below W1.out
   obtain ⟨q1,q2⟩:=RR.2 j cj
   have lg:=RR.1
   have fo:=HF.out j cj
   have ep:=end_pos HF.out j hj
   obtain ⟨f,hf⟩: ∃ f:Nat,(R j).1=(f:Int):=⟨(R j).1.toNat,by omega⟩
   obtain ⟨t,ht⟩: ∃ t:Nat,(R j).2=(t:Int):=⟨(R j).2.toNat,by omega⟩
   have LC:Hid (Calls Tryz.prog 83 #[.pointer (some ⟨w1.heap.size+1,0,none⟩),.agg #[.int .i64 f,.int .i64 t]] (wr.alloc (.cells #[.int .i64 f,.int .i64 t] 43)) fun e w'=>e=.returned (.tuple #[])/\Bu (fun x=>x<w1.heap.size) w' (w1.heap.size+1) (endAt R (j+1)).toNat (RU R (j+1)) noneF/\bc w1 w'):=by
    have b1:bc wr (wr.alloc (.cells #[.int .i64 f,.int .i64 t] 43)):=baa
    have B2:=hB.out.1.below b1
    refine (B2.lay f t (by omega) (by omega) (fun i h1 h2 c=> ?_) (by omega)).mono ?_
    . have:=ru_lt HF.out hj c
      omega
    . rintro e w' ⟨he,hB3,k⟩
      rw [ru_seg hf ht] at hB3
      have E:(endAt R (j+1)).toNat=t:=by show (R j).2.toNat=t;rw [ht];simp
      refine ⟨he,hB3.mono (by rw [E];omega),?_⟩
      have b0:=hB.out.2
      have sz:=World.size_alloc wr (.cells #[.int .i64 f,.int .i64 t] 43)
      exact ⟨k.os.trans (b1.os.trans b0.os),k.tape.trans (b1.tape.trans b0.tape),k.output.trans (b1.output.trans b0.output),Nat.le_trans b0.size (Nat.le_trans b1.size k.size),fun x hx=>(k.block x (nla hx (Nat.le_trans b0.size b1.size)) (fun nz=>nz hx)).trans ((b1.block x (nla hx b0.size)).trans (b0.block x hx))⟩
   rw [hf] at q1
   rw [ht] at q2
   clear hB RR fo ep hf ht W1
   go_wp2_with fail
   refine Calls.mono LC.out ?_
   rintro e u ⟨rfl,hB2⟩
   have HB2:Hid (Bu (fun x=>x<w1.heap.size) u (w1.heap.size+1) (endAt R (j+1)).toNat (RU R (j+1)) noneF/\bc w1 u):=hB2
   clear hB2 LC
   go_wp2_with fail
   go_roundw
   case rel=>exact ⟨j+1,by omega,by go_num,HB2⟩
   case measure=>simp [Go.RowKit.intOf];omega
theorem mapc_keys {w:World} {b n c:Nat} {f:Int->Option Int} (h:MapC w b n c f): ∃ K:List Int,K.Nodup/\(∀ x,x∈K↔(f x).isSome=true)/\K.length=c:=by
 obtain ⟨D0,hown,hc,hf⟩:=h
 obtain ⟨es,hD,hpw,_⟩:=hown.entries keyLaw
 obtain ⟨es',hD',hko⟩:=hown.keysOf
 obtain rfl:es=es':=by rw [hD] at hD';simpa using hD'
 subst hD
 have hk: ∀ p∈es,∃ x,p.1=.int .i64 x:=fun p hp=>by obtain ⟨v,hv⟩:=hko p hp;obtain ⟨x,_,hx,_⟩:=Maps.keyOf_i64 Tryz.underlying3 hv;exact ⟨x,hx⟩
 refine ⟨es.map fun p=>Go.intOf p.1,?_,fun x=> ?_,?_⟩
 . refine List.pairwise_map.2 (hpw.imp_of_mem fun {p q} hp' hq' hne e=>hne ?_)
   obtain ⟨a,ha⟩:=hk p hp'
   obtain ⟨b,hb⟩:=hk q hq'
   rw [ha,hb] at e |-
   exact congrArg _ e
 . rw [<- (hf x).1,has_eq,List.any_eq_true,List.mem_map]
   constructor
   . rintro ⟨p,hp',rfl⟩
     obtain ⟨a,ha⟩:=hk p hp'
     exact ⟨p,hp',by rw [ha];simp [Lit.sameKey,Go.intOf]⟩
   . rintro ⟨p,hp',hs⟩
     obtain ⟨a,ha⟩:=hk p hp'
     refine ⟨p,hp',?_⟩
     rw [ha] at hs |-
     simpa [Lit.sameKey,Go.intOf] using hs
 . rw [List.length_map,<- hc];rfl
theorem cnt_mono {F G:Nat->Prop} (h: ∀ i,F i->G i) (n:Nat):cnt F n<=cnt G n:=by
 have:=cnt_sub G F h n
 omega
theorem cnt_bound {F:Nat->Prop} {b:Nat} (h: ∀ i,F i->i<b) (n:Nat):cnt F n<=b:=by
 have:=cnt_mono (G:=fun i=>0<=i/\i<b) (fun i hi=>⟨Nat.zero_le _,h i hi⟩) n
 rw [cnt_seg 0 b (Nat.zero_le _)] at this
 omega
theorem cnt_empty {F:Nat->Prop} (h: ∀ i,¬ F i) (n:Nat):cnt F n=0:=by
 have:=cnt_bound (F:=F) (b:=0) (fun i hi=>absurd hi (h i)) n
 omega
theorem cn_some {F:Nat->Prop} {i:Nat} (h:F i): ∃ k q,k<=10/\cnN F k q:=by
 obtain ⟨o,q,_,h2,h3,_⟩:=cn_max F 10 0 i rfl (fun j e=>by simp at e;rw [e];exact h)
 exact ⟨o,q,h2,h3⟩
theorem cnt_some {F:Nat->Prop} {n:Nat} (h:cnt F n≠0): ∃ i,F i:=by
 apply bca
 intro c
 exact h (cnt_empty (fun i hi=>c ⟨i,hi⟩) n)
theorem nd_nodup {K:List Int} (k:K.Nodup):Nd K:=fun i j x ij e1 e2=>by
 obtain ⟨h1,g1⟩:=List.getElem?_eq_some_iff.1 e1
 obtain ⟨h2,g2⟩:=List.getElem?_eq_some_iff.1 e2
 have h: ∀ i j (h1:i<K.length) (h2:j<K.length),i<j->K[i]≠K[j]:=fun i j h1 h2 l=>List.pairwise_iff_getElem.1 k i j h1 h2 l
 rcases Nat.lt_or_gt_of_ne ij with c | c
 . exact h i j h1 h2 c (g1.trans g2.symm)
 . exact h j i h2 h1 c (g2.trans g1.symm)
theorem nd_len {h:List Int} (nd:Nd h) {m:Nat} (hm: ∀ a∈h,0<=a/\a<(m:Int)):h.length<=m:=by
 have e:=cnt_list 0 m h nd (fun a ha=>by
  have:=hm a ha
  exact ⟨a.toNat,by simp;omega,by simp;omega⟩)
 have l:=cnt_bound (F:=inL 0 h) (b:=m) (fun i hi=>by
  obtain ⟨a,ha,q,hq,e⟩:=hi
  have:=hm a ha
  simp at hq e
  omega) m
 simp at e
 omega
theorem placed_nd {h:List Int} {F:Int->Option Int} (H:Placed h F):Nd h:=fun i j x ij e1 e2=>by
 obtain ⟨h1,g1⟩:=List.getElem?_eq_some_iff.1 e1
 obtain ⟨h2,g2⟩:=List.getElem?_eq_some_iff.1 e2
 exact H.ne h1 h2 ij (g1.trans g2.symm)
theorem Bs.tight {w:World} {base b q mb N:Nat} {C:List Value} {sv:Value} {A:Int->Prop} (H:Bs w base b q mb N C sv A) {m:Nat} (hm: ∀ a,A a->0<=a/\a<(m:Int)):Bs w base b q mb m C sv A:=by
 obtain ⟨h,F,n,bl,pl,hp,_,hA⟩:=H
 obtain ⟨K,k1,k2,k3⟩:=mapc_keys bl.mp
 have l1:h.length<=m:=nd_len (placed_nd pl) (fun a ha=>hm a ((hA a).1 ha))
 have l2:K.length<=m:=nd_len (nd_nodup k1) (fun a ha=>hm a ((hA a).1 ((placed_mem pl a).1 ((k2 a).1 ha))))
 exact ⟨h,F,n,bl,pl,hp,⟨l1,by omega⟩,hA⟩
theorem Bd.tight {w:World} {base b gb N:Nat} {C:List Value} {mbs:Nat->Nat} {svs:Nat->Value} {A:Nat->Int->Prop} {G:Int->Option Int} (H:Bd w base b gb N C mbs svs A G) {m:Nat} (hm: ∀ o,o<11-> ∀ a,A o a->0<=a/\a<(m:Int)) (hg: ∀ x,(G x).isSome=true->0<=x/\x<(m:Int)):Bd w base b gb m C mbs svs A G:=by
 refine ⟨fun o ho=>(H.bs o ho).tight (hm o ho),H.cg,?_,H.dm,H.dg,H.ds,H.gb,H.bb⟩
 obtain ⟨n,_,mp⟩:=H.gm
 obtain ⟨K,k1,k2,k3⟩:=mapc_keys mp
 have:=nd_len (nd_nodup k1) (fun a ha=>hg a ((k2 a).1 ha))
 exact ⟨n,by omega,mp⟩
theorem Bu.tight (H:Bu Z W b N F G) {m:Nat} (hm: ∀ i,F i->i<m) (hg: ∀ x,(G x).isSome=true->0<=x/\x<(m:Int)):Bu Z W b m F G:=by
 obtain ⟨hF,base,gb,mbs,s,⟨C,s',h1,h2,h3⟩,hZ⟩:=H
 refine ⟨hF,base,gb,mbs,s,⟨C,s',h1.tight (fun o ho a ha=> ?_) hg,h2,h3⟩,hZ⟩
 obtain ⟨_,q,e,c⟩:=ha
 have:=hm _ (c.1 (q*2 ^ o) (Nat.mul_div_cancel _ (p2pos o)))
 rw [e]
 omega
theorem Bu.take1 {Z:Nat->Prop} {W:World} {b:Nat} {F:Nat->Prop} {G:Int->Option Int} (H:Bu Z W b 1000000 F G) (hm: ∀ i,F i->i<1000000) (hg: ∀ x,(G x).isSome=true->0<=x/\x<1000000) (hs: ∃ i,F i) :
 Calls Tryz.prog 106 #[.pointer (some ⟨b,0,none⟩),.int .i64 0] W fun e w'=> ∃ p:Nat,e=.returned (.tuple #[.int .i64 p,.int .i64 0])/\F p/\Bu Z w' b 1000000 (fun i=>F i/\i≠p) (setF G p (some 0))/\Kf (fun j=> ¬ Z j) W w':=by
 refine (H.take 0 (by omega) (by omega)).mono ?_
 rintro e w' (⟨_,_,h⟩ | ⟨p,f,q,d,he,T,hB2,kf⟩)
 . exfalso
   obtain ⟨x,hx⟩:=hs
   obtain ⟨k,q,hk,hcn⟩:=cn_some hx
   exact h k q (Nat.zero_le _) hk hcn
 . have Fp:F p:=T.all p (by simp)
   have e1:((p*2 ^ 0:Nat):Int)=(p:Int):=by simp
   rw [e1] at he hB2
   have e2:(fun i=>F i/\ ¬ i / 2 ^ 0=p)=(fun i=>F i/\i≠p):=by
    funext i;simp
   rw [e2] at hB2
   refine ⟨p,he,Fp,hB2.tight (fun i hi=>hm i hi.1) (fun x hx=> ?_),kf⟩
   by_cases c:x=(p:Int)
   . have:=hm p Fp;omega
   . rw [set_other _ _ _ _ c] at hx;exact hg x hx
end
end Go.Proofs.YtgbdnnkkcpkhdaaGreatDoor.Bd
