import Derived.Test.YtgbdnnkkcpkhdaaGreatDoorOXc
import Derived.Shelf.SlicesE.Clone
import Derived.Shelf.SlSortCmp.WholeK
import Derived.Shelf.SlSortCmp.NoneTotal
import Derived.Ground.SlgnProg
import Derived.Ground.SlsfProg
import Derived.Sort.BigQuietIn
set_option linter.unusedSimpArgs false
set_option linter.unusedVariables false
set_option maxRecDepth 8000
set_option maxHeartbeats 4000000
namespace Go.Proofs.YtgbdnnkkcpkhdaaGreatDoor.Bm
open Go.ChangeShapes Go.WideShapes Go.ChangeAt Go.RowKit Go.Maps Go.Sort Go.Shelf
def cloneR_ren:Go.Shelf.Ren:=⟨fun | 41=>84 | n=>n,fun | 22=>121 | 23=>43 | 4=>4 | n=>n,fun | n=>n⟩
theorem cloneR:Go.Proofs.SlLaysE0.n41 Tryz.prog cloneR_ren:={
 mixed:=ka
 f41:=⟨Tryz.f84.name,by decide,Tryz.func84.trans (congrArg some ka)⟩
 t4:=Tryz.underlying4
 a4:=Tryz.isAgg4
 z4:=Tryz.sizeOf4
 v4:=Tryz.zeroValue4
 t22:=Tryz.underlying121
 a22:=Tryz.isAgg121
 z22:=Tryz.sizeOf121
 v22:=Tryz.zeroValue121 }
def sortR_ren:Go.Shelf.Ren:=⟨fun | 6=>116 | 15=>134 | 14=>133 | 28=>148 | 29=>149 | 20=>140 | 21=>141 | 22=>142 | 23=>143 | 24=>144 | 25=>145 | 26=>146 | 27=>147 | 46=>152 | 47=>153 | 48=>154 | 49=>155 | 50=>156 | 57=>157 | n=>n,fun | 22=>121 | 24=>43 | 25=>236 | 3=>3 | 39=>203 | 0=>0 | 53=>138 | 55=>23 | 4=>4 | 46=>255 | 45=>254 | 50=>103 | 5=>5 | 9=>9 | 66=>268 | 70=>271 | 76=>273 | 77=>274 | n=>n,fun | n=>n⟩
theorem sortR:Go.Proofs.SlLaysF0.n6 Tryz.prog sortR_ren:={
 mixed:=ka
 f6:=⟨Tryz.f116.name,by decide,Tryz.func116.trans (congrArg some ka)⟩
 f14:=⟨Tryz.f133.name,by decide,Tryz.func133.trans (congrArg some ka)⟩
 f15:=Tryz.func134.trans (congrArg some ka)
 f20:=⟨Tryz.f140.name,by decide,Tryz.func140.trans (congrArg some ka)⟩
 f21:=⟨Tryz.f141.name,by decide,Tryz.func141.trans (congrArg some ka)⟩
 f22:=⟨Tryz.f142.name,by decide,Tryz.func142.trans (congrArg some ka)⟩
 f23:=⟨Tryz.f143.name,by decide,Tryz.func143.trans (congrArg some ka)⟩
 f24:=⟨Tryz.f144.name,by decide,Tryz.func144.trans (congrArg some ka)⟩
 f25:=⟨Tryz.f145.name,by decide,Tryz.func145.trans (congrArg some ka)⟩
 f26:=⟨Tryz.f146.name,by decide,Tryz.func146.trans (congrArg some ka)⟩
 f27:=⟨Tryz.f147.name,by decide,Tryz.func147.trans (congrArg some ka)⟩
 f28:=Tryz.func148.trans (congrArg some ka)
 f29:=Tryz.func149.trans (congrArg some ka)
 f46:=⟨Tryz.f152.name,by decide,Tryz.func152.trans (congrArg some ka)⟩
 f47:=Tryz.func153.trans (congrArg some ka)
 f48:=Tryz.func154.trans (congrArg some ka)
 f49:=⟨Tryz.f155.name,by decide,Tryz.func155.trans (congrArg some ka)⟩
 f50:=⟨Tryz.f156.name,by decide,Tryz.func156.trans (congrArg some ka)⟩
 f57:=⟨Tryz.f157.name,by decide,Tryz.func157.trans (congrArg some ka)⟩
 t0:=Tryz.underlying0
 a0:=Tryz.isAgg0
 z0:=Tryz.sizeOf0
 v0:=Tryz.zeroValue0
 t3:=Tryz.underlying3
 a3:=Tryz.isAgg3
 z3:=Tryz.sizeOf3
 v3:=Tryz.zeroValue3
 t4:=Tryz.underlying4
 a4:=Tryz.isAgg4
 z4:=Tryz.sizeOf4
 v4:=Tryz.zeroValue4
 t5:=Tryz.underlying5
 a5:=Tryz.isAgg5
 z5:=Tryz.sizeOf5
 v5:=Tryz.zeroValue5
 t9:=Tryz.underlying9
 a9:=Tryz.isAgg9
 z9:=Tryz.sizeOf9
 v9:=Tryz.zeroValue9
 t22:=Tryz.underlying121
 a22:=Tryz.isAgg121
 z22:=Tryz.sizeOf121
 v22:=Tryz.zeroValue121
 t25:=Tryz.underlying236
 a25:=Tryz.isAgg236
 z25:=Tryz.sizeOf236
 v25:=Tryz.zeroValue236
 t39:=Tryz.underlying203
 a39:=Tryz.isAgg203
 z39:=Tryz.sizeOf203
 v39:=Tryz.zeroValue203
 t45:=Tryz.underlying254
 a45:=Tryz.isAgg254
 z45:=Tryz.sizeOf254
 v45:=Tryz.zeroValue254
 t46:=Tryz.underlying255
 a46:=Tryz.isAgg255
 z46:=Tryz.sizeOf255
 v46:=Tryz.zeroValue255
 t50:=Tryz.underlying103
 a50:=Tryz.isAgg103
 z50:=Tryz.sizeOf103
 v50:=Tryz.zeroValue103
 t53:=Tryz.underlying138
 a53:=Tryz.isAgg138
 z53:=Tryz.sizeOf138
 v53:=Tryz.zeroValue138
 t55:=Tryz.underlying23
 a55:=Tryz.isAgg23
 z55:=Tryz.sizeOf23
 v55:=Tryz.zeroValue23
 t66:=Tryz.underlying268
 a66:=Tryz.isAgg268
 z66:=Tryz.sizeOf268
 v66:=Tryz.zeroValue268
 t70:=Tryz.underlying271
 a70:=Tryz.isAgg271
 z70:=Tryz.sizeOf271
 v70:=Tryz.zeroValue271
 t76:=Tryz.underlying273
 a76:=Tryz.isAgg273
 z76:=Tryz.sizeOf273
 v76:=Tryz.zeroValue273
 t77:=Tryz.underlying274
 a77:=Tryz.isAgg274
 z77:=Tryz.sizeOf274
 v77:=Tryz.zeroValue274 }
theorem clone_any (lo:Nat) (v:Value) (L:List (Int × Int)) (hL:L.length<=1048576) (w:World) (H:RL w lo v L) :
 Calls Tryz.prog 84 #[v] w fun e w'=> ∃ v',e=.returned v'/\OR w' w.heap.size v' L/\bc w w':=by
 rcases H with ⟨rfl,rfl⟩ | ⟨g,o,c,rfl,hc,l0,lg,h⟩
 . refine (AnyE.slices_Clone_nil cloneR 0 0 w).mono ?_
   rintro e w' ⟨rfl,rfl⟩
   exact ⟨_,rfl,ol_none _ _ _ _ _,Below.refl _ _⟩
 . obtain ⟨i0,hi,hz0,hz1,hz2⟩:=infoR
   refine (AnyE.slices_Clone cloneR i0 _ 2 16 hi hz0 hz1 hz2 rfl (by decide) Tryz.sizeOf43 g o L.length c (L.flatMap eR) w (flat_len eR_len L) (by unfold maxLen;omega) (by omega) (fun j u hu=> ?_) (fun u hu=> ?_)).mono ?_
   . have jl:j<L.length*2:=by rw [<- flat_len eR_len L];exact (List.getElem?_eq_some_iff.1 hu).1
     have i1:j / 2<L.length:=by omega
     have e:j=j / 2*2+j % 2:=by omega
     have q:=flat_get eR_len L (j / 2) i1 (j % 2) (by omega)
     rw [<- e,hu] at q
     have c:=h (j / 2) i1 (j % 2) (by omega)
     rw [Nat.add_assoc,<- e,<- q] at c
     exact c
   . obtain ⟨x,_,hx⟩:=List.mem_flatMap.1 hu
     exact eR_one x u hx
   . rintro e w' ⟨v',rfl,ho,_,hb⟩
     exact ⟨v',rfl,ho,hb⟩
theorem isnan_any (x:Int) (w:World):Calls Tryz.prog 135 #[.int .i64 x] w fun e w'=>e=.returned (.bool false)/\w'=w:=by
 have d:(x != x)=false:=by simp
 go_enter Tryz.func135,Tryz.ntmps135
 go_wp2_with fail
 go_ret
 exact ⟨rfl,rfl⟩
def cmpI (x y:Int):Int:=if x<y then -1 else if y<x then 1 else 0
theorem compare_any (x y:Int) (w:World):Calls Tryz.prog 118 #[.int .i64 x,.int .i64 y] w fun e w'=>e=.returned (.int .i64 (cmpI x y))/\w'=w:=by
 have NC:Hid (∀ z W,_):=fun z W=>isnan_any z W
 unfold cmpI
 by_cases c:x<y
 . have d1:decide (x<y)=true:=by simp [c]
   rw [if_pos c]
   go_enter Tryz.func118,Tryz.ntmps118
   go_wp2_with (go_at_call 135;refine Calls.mono (NC.out _ _) ?_;rintro e w' ⟨rfl,rfl⟩)
   go_ret
   exact ⟨rfl,rfl⟩
 . have d1:decide (x<y)=false:=by simp;omega
   rw [if_neg c]
   by_cases d:y<x
   . have d2:decide (y<x)=true:=by simp [d]
     rw [if_pos d]
     go_enter Tryz.func118,Tryz.ntmps118
     go_wp2_with (go_at_call 135;refine Calls.mono (NC.out _ _) ?_;rintro e w' ⟨rfl,rfl⟩)
     go_ret
     exact ⟨rfl,rfl⟩
   . have d2:decide (y<x)=false:=by simp;omega
     rw [if_neg d]
     go_enter Tryz.func118,Tryz.ntmps118
     go_wp2_with (go_at_call 135;refine Calls.mono (NC.out _ _) ?_;rintro e w' ⟨rfl,rfl⟩)
     go_ret
     exact ⟨rfl,rfl⟩
theorem less_is (x y:Int × Int):ltOf (fun x y:Int × Int=>cmpI x.1 y.1) x y=decide (x.1<y.1):=by
 unfold ltOf cmpI
 by_cases h1:x.1<y.1
 . simp [h1]
 . by_cases h2:y.1<x.1 <;> simp [h1,h2]
theorem less_swo:SWO (ltOf fun x y:Int × Int=>cmpI x.1 y.1) where
 irrefl x:=by rw [less_is];simp
 trans x y z h1 h2:=by rw [less_is] at *;simp at *;omega
 ntrans x y z h1 h2:=by rw [less_is] at *;simp at *;omega
theorem closure_any (x y:Int × Int) (W:World):Calls Tryz.prog 117 #[.agg #[.int .i64 x.1,.int .i64 x.2],.agg #[.int .i64 y.1,.int .i64 y.2]] W fun e w'=>e=.returned (.int .i64 (cmpI x.1 y.1))/\ ∃ q os',w'=grow (W.drewN q) os':=by
 have hcon:Hid (∀ W',_):=fun W'=>compare_any x.1 y.1 W'
 obtain ⟨x1,x2⟩:=x
 obtain ⟨y1,y2⟩:=y
 simp only at hcon |-
 generalize cmpI x1 y1=r at hcon |-
 go_enter Tryz.func117,Tryz.ntmps117
 go_wp2_with (go_at_call 118;refine Calls.mono (hcon.out _) ?_;rintro e w' ⟨rfl,rfl⟩)
 go_ret
 exact ⟨rfl,0,_,by rw [alloc_eq_grow,alloc_eq_grow,grow_grow];rfl⟩
theorem heap_modify_other (w:World) (blk:Nat) (f:Array Value->Array Value) (j:Nat) (h:j≠blk):(mapBlock w blk f).heap[j]? =w.heap[j]? :=by
 simp only [mapBlock,Array.getElem?_modify]
 rw [if_neg (Ne.symm h)]
theorem sort_any (base:Nat) (v:Value) (L:List (Int × Int)) (hL:L.length<=1048576) (w:World) (O:OR w base v L) (hb:base<=w.heap.size) :
 Calls Tryz.prog 116 #[v,.func (.func 117) #[] #[]] w fun e w'=>e=.returned (.tuple #[])/\ ∃ S,S.Perm L/\(S.Pairwise fun a b=>a.1<=b.1)/\RL w' base v S/\Below base w w':=by
 have O2:=O
 obtain ⟨hl',⟨hv,h0⟩ | ⟨g,cap,cur,hv,hbb,hblk,hcap,hmx,hsz,htk⟩⟩:=O
 . obtain rfl:L=[]:=List.eq_nil_of_length_eq_zero h0
   subst hv
   have:=AnyF.slices_SortFunc_none { sortR with } none 0 (.func (.func 117) #[] #[]) w
   change Calls Tryz.prog 116 _ _ _ at this
   refine this.mono ?_
   rintro e w' ⟨rfl,rfl⟩
   exact ⟨rfl,[],List.Perm.refl _,List.Pairwise.nil,Or.inl ⟨rfl,rfl⟩,Below.refl _ _⟩
 . subst hv
   have glt:=blk_lt hblk
   have hH:HoldsK eR 2 w g 0 L.toArray:=by
    intro j hj
    rw [size_flatK] at hj
    rw [get_flatK _ _ _ _ hj]
    have hj':j<L.length*2:=by simpa using hj
    refine ⟨?_,Go.Joins.unfrozen_of_block hblk _⟩
    have hc:=World.ownsRow.cells (g:=g) O2 rfl j
    have i1:j / 2<L.length:=by omega
    have q:=flat_get eR_len L (j / 2) i1 (j % 2) (by omega)
    have e:j / 2*2+j % 2=j:=by omega
    rw [e] at q
    have lt2:j % 2<(eR L[j / 2]).length:=by rw [eR_len];omega
    rw [List.getElem?_eq_getElem lt2] at q
    have:=hc _ q
    rw [Addr.add_mid,Nat.zero_add] at this
    rw [Nat.zero_add,this]
    have e2:L.toArray[j / 2]! =L[j / 2]:=by simp [i1]
    rw [e2]
    have e3:(eR L[j / 2])[j % 2]! =(eR L[j / 2])[j % 2]:=by rw [getElem!_pos (eR L[j / 2]) (j % 2) lt2]
    rw [e3];rfl
   have eg:=enters_of Tryz.func117 ka rfl
   have con:=AnyQ.slices_SortFunc sortR 2 Tryz.isAgg43 Tryz.sizeOf43 eR eR_len eR_one (fun x y=>cmpI x.1 y.1) less_swo 117 #[] g 0 cap L.toArray w eg (fun _ _ _ _ x y=>closure_any x y _) hH glt kh
   change Calls Tryz.prog 116 _ _ _ at con
   rw [show L.toArray.size=L.length by simp] at con
   refine con.mono ?_
   rintro e w' ⟨rfl,d',n,os,hp,hs,rfl⟩
   obtain ⟨p1,p2,p3⟩:=hp
   have s1:d'.size=L.length:=by rw [p1];simp
   have pm:d'.toList.Perm L:=by
    have e1:(d'.extract 0 L.length).toList=d'.toList:=by rw [<- s1];simp
    have e2:(L.toArray.extract 0 L.length).toList=L:=by simp
    rw [e1,e2] at p3
    exact p3
   refine ⟨rfl,d'.toList,pm,?_,?_,?_⟩
   . rw [List.pairwise_iff_getElem]
     intro i j hi hj hij
     have hi':i<d'.size:=by simpa using hi
     have hj':j<d'.size:=by simpa using hj
     have q:=hs i j (Nat.zero_le _) hij (by rw [<- s1];exact hj')
     rw [less_is] at q
     rw [getElem!_pos d' j hj',getElem!_pos d' i hi'] at q
     simp only [decide_eq_false_iff_not] at q
     simp only [Array.getElem_toList]
     omega
   . have hh:=holdsK_sortWorldK eR 2 w g 0 n L.toArray d' os glt hH p1
     have sl:=lt_sortWorldK eR 2 w g 0 n d' os glt
     refine Or.inr ⟨g,0,cap,by simp [s1],by simp [s1];omega,hbb,sl,fun i hi j hj=> ?_⟩
     have hi':i<d'.size:=by simpa using hi
     have q:=(HoldsK.cell hh hi' hj).1
     rw [q,getElem!_pos d' i hi']
     have lt2:j<(eR d'[i]).length:=by rw [eR_len];exact hj
     rw [getElem!_pos (eR d'[i]) j lt2]
     simp only [Array.getElem_toList]
     rw [List.getElem?_eq_getElem lt2]
   . refine ⟨rfl,rfl,rfl,?_,fun j hj=> ?_⟩
     . simp [sortWorldK,putRowK,putRow,mapBlock,grow,Sort.ahead]
     . have jl:j<w.heap.size:=nla hj hb
       have:(grow (putRowK eR 2 (Sort.ahead w n) g 0 d') os).heap[j]? =(putRowK eR 2 (Sort.ahead w n) g 0 d').heap[j]? :=heap_grow_old _ _ (by simp [putRowK,putRow,mapBlock,Sort.ahead];exact jl)
       show (grow (putRowK eR 2 (Sort.ahead w n) g 0 d') os).heap[j]? =_
       rw [this]
       exact heap_modify_other _ _ _ _ (by omega)
end Go.Proofs.YtgbdnnkkcpkhdaaGreatDoor.Bm
namespace Go.Proofs.YtgbdnnkkcpkhdaaGreatDoor.Bm
open Go.ChangeShapes Go.WideShapes Go.ChangeAt Go.RowKit Go.Maps
theorem set_after {α :Type} (A:List α) (x y z: α):(A++[x,y]).set (A.length+1) z=A++[x,z]:=by
 rw [List.set_append_right _ _ (by omega),show A.length+1-A.length=1 by omega];rfl
theorem or_last {w:World} {base:Nat} {v:Value} {M:List (Int × Int)} {q:Int × Int} (O:OR w base v (M++[q])): ∃ g c,v=.slice (some ⟨g,0,none⟩) (M.length+1) c/\base<=g/\g<w.heap.size /\
 w.cell? ⟨g,M.length*2,none⟩=some (.int .i64 q.1)/\w.cell? ⟨g,M.length*2+1,none⟩=some (.int .i64 q.2)/\w.frozen? ⟨g,M.length*2+1,none⟩=false/\M.length<c/\ ∀ t:Int,OR (w.setCell ⟨g,M.length*2+1,none⟩ (.int .i64 t)) base v (M++[(q.1,t)]):=by
 have hc:=fun g (hg:v.ownBlock=some g)=>World.ownsRow.cells (g:=g) O hg
 obtain ⟨hl',⟨hv,h0⟩ | ⟨g,cap,cur,hv,hb,hblk,hcap,hmx,hsz,htk⟩⟩:=O
 . simp at h0
 . have lm:(M++[q]).length=M.length+1:=by simp
   have fl:(M++[q]).flatMap eR=M.flatMap eR++[.int .i64 q.1,.int .i64 q.2]:=by simp [List.flatMap_append,eR]
   have ll:=flat_len eR_len M
   have c0:=hc g (by rw [hv];rfl) (M.length*2) (.int .i64 q.1) (by rw [fl,List.getElem?_append_right (by omega),ll];simp)
   have c1:=hc g (by rw [hv];rfl) (M.length*2+1) (.int .i64 q.2) (by rw [fl,List.getElem?_append_right (by omega),ll];simp)
   rw [Addr.add_mid,Nat.zero_add] at c0 c1
   rw [lm] at hv hcap
   refine ⟨g,cap,hv,hb,blk_lt hblk,c0,c1,Go.Joins.unfrozen_of_block hblk _,by omega,fun t=>⟨?_,Or.inr ⟨g,cap,cur.setIfInBounds (M.length*2+1) (.int .i64 t),?_,hb,Go.Joins.block_setCell hblk _,?_,hmx,?_,?_⟩⟩⟩
   . rw [flat_len eR_len]
   . rw [hv];simp
   . exact kh
   . rw [Array.size_setIfInBounds];exact hsz
   . have fl2:(M++[(q.1,t)]).flatMap eR=M.flatMap eR++[.int .i64 q.1,.int .i64 t]:=by simp [List.flatMap_append,eR]
     rw [fl2,<- set_after (M.flatMap eR) (.int .i64 q.1) (.int .i64 q.2) (.int .i64 t),<- fl,<- htk,ll,Array.toList_setIfInBounds,List.take_set]
     simp
theorem mrgL_next (S:List (Int × Int)) (k:Nat) (h:k<S.length):mrgL (S.take (k+1))=mrg1 (mrgL (S.take k)) S[k]:=by
 unfold mrgL
 rw [List.take_succ_eq_append_getElem h,List.foldl_append];rfl
theorem mrg1_len (M:List (Int × Int)) (r:Int × Int):(mrg1 M r).length<=M.length+1:=by
 by_cases c:r.2<=r.1
 . rw [mrg1_empty c];omega
 . rcases nil_or_snoc M with e | ⟨M',q,e⟩
   . subst e;rw [mrg1_first (by omega)];simp
   . subst e
     by_cases d:r.1<=q.2
     . rw [mrg1_meet (by omega) d];simp
     . rw [mrg1_new (by omega) (by omega)];simp
theorem mrgL_len: ∀ (S:List (Int × Int)),(mrgL S).length<=S.length:=by
 have: ∀ (S M:List (Int × Int)),(S.foldl mrg1 M).length<=M.length+S.length:=by
  intro S
  induction S with
  | nil => intro M; simp
  | cons r S ih => intro M; rw [List.foldl_cons, List.length_cons]; have := ih (mrg1 M r); have := mrg1_len M r; omega
 intro S
 have:=this S []
 simpa [mrgL] using this
theorem merge_any (lo:Nat) (v:Value) (L:List (Int × Int)) (hL:L.length<=100000) (w:World) (H:RL w lo v L) :
 Calls Tryz.prog 102 #[v] w fun e w'=> ∃ v' M,e=.returned v'/\OR w' w.heap.size v' M/\Can M/\(∀ n,Has M n↔Has L n)/\M.length<=L.length/\bc w w':=by
 have CC:Hid _:=clone_any lo v L (by omega) w H
 have SC:Hid (∀ (v1:Value) (W:World),OR W w.heap.size v1 L->w.heap.size<=W.heap.size->_):=fun v1 W O hb=>sort_any w.heap.size v1 L (by omega) W O hb
 clear H
 go_enter Tryz.func102,Tryz.ntmps102
 go_wp2_with fail
 refine Calls.mono CC.out ?_
 rintro e w1 ⟨v1,rfl,O1,B1⟩
 have HO1:Hid (OR w1 w.heap.size v1 L):=O1
 have HB1:Hid (bc w w1):=B1
 clear O1 B1 CC
 go_wp2_with fail
 refine Calls.mono (SC.out v1 w1 HO1.out HB1.out.size) ?_
 rintro e w2 ⟨rfl,S,pS,sS,R2,B2⟩
 have HB2:Hid (bc w w2):=HB1.out.trans B2
 obtain ⟨p1,c1,hv1,hc1,_,rd⟩:=R2.form
 have RD:Hid (∀ i (hi:i<S.length),∃ g o,p1=some ⟨g,o,none⟩/\w.heap.size<=g/\g<w2.heap.size/\ ∀ j,j<2->w2.cell? ⟨g,o+i*2+j,none⟩=(eR S[i])[j]?):=rd
 obtain ⟨n,hn⟩: ∃ n,S.length=n:=⟨_,rfl⟩
 have HN:Hid (S.length=n):=hn
 have n9:n<=100000:=by rw [<- hn,pS.length_eq];exact hL
 rw [hn] at hv1
 subst hv1
 have HS:Hid (S.Perm L/\S.Pairwise (fun a b=>a.1<=b.1)):=⟨pS,sS⟩
 clear rd R2 B2 HO1 HB1 SC hn hc1 pS sS hL
 go_wp2_with fail
 go_loopw [4,14] (fun v i W=> ∃ k:Nat,k<=n/\i=.int .i64 k/\Hid (OR W w2.heap.size v (mrgL (S.take k))/\bc w2 W)) (fun _ i _=>n-(Go.RowKit.intOf i).toNat)
 case atStart=>exact ⟨0,by omega,rfl,ol_none _ _ _ _ _,Below.refl _ _⟩
 case round =>
  obtain ⟨k,hk,rfl,J⟩:=hrel
  by_cases ck:k<n
  rotate_left
  . obtain rfl:k=n:=by omega
    have d1:decide ((k:Int)<(k:Int))=false:=by simp
    go_wp2_with fail
    go_ret
    have M:=mrg_any S HS.out.2
    have e:S.take k=S:=by rw [<- HN.out,List.take_length]
    have j1:=J.out.1
    rw [e] at j1
    exact ⟨u4,mrgL S,rfl,row_weak j1 HB2.out.size,M.1,fun x=>(M.2 x).trans (has_perm HS.out.1 x),by have:=mrgL_len S;rw [<- HS.out.1.length_eq];exact this,below_then HB2.out J.out.2⟩
  have d1:decide ((k:Int)<(n:Int))=true:=kh
  have d0:decide ((k:Int)<0)=false:=by simp
  have kS:k<S.length:=by rw [HN.out];exact ck
  obtain ⟨g,og,rfl,_,lg,rc⟩:=RD.out k kS
  have y0:wr.cell? ⟨g,og+k*2,none⟩=some (.int .i64 S[k].1):=(World.cell?_of_block (J.out.2.block g lg)).trans (rc 0 (by omega))
  have y1:wr.cell? ⟨g,og+k*2+1,none⟩=some (.int .i64 S[k].2):=(World.cell?_of_block (J.out.2.block g lg)).trans (rc 1 (by omega))
  have lgr:g<wr.heap.size:=nla lg J.out.2.size
  have NX:Hid (mrgL (S.take (k+1))=mrg1 (mrgL (S.take k)) S[k]):=mrgL_next S k kS
  have ML:Hid ((mrgL (S.take k)).length<=100000):=by
   have:=mrgL_len (S.take k)
   rw [List.length_take] at this
   show _<=_
   omega
  obtain ⟨M',hM'⟩: ∃ M',mrgL (S.take (k+1))=M':=⟨_,rfl⟩
  rw [hM'] at NX
  have HM':Hid (mrgL (S.take (k+1))=M'):=hM'
  generalize mrgL (S.take k)=M at J NX ML
  obtain ⟨a,ha⟩: ∃ a,S[k].1=a:=⟨_,rfl⟩
  obtain ⟨b,hb⟩: ∃ b,S[k].2=b:=⟨_,rfl⟩
  have er:S[k]=(a,b):=by rw [<- ha,<- hb]
  rw [er] at NX y0 y1
  clear rc lg hM' ha hb er
  have JB:Hid (OR (wr.alloc (.cells #[.int .i64 a,.int .i64 b] 43)) w2.heap.size u4 M/\bc w2 (wr.alloc (.cells #[.int .i64 a,.int .i64 b] 43))):=⟨row_below J.out.1 baa,below_new J.out.2 _⟩
  by_cases c1:b<=a
  . have e1:decide (b<=a)=true:=by simp [c1]
    have J2:Hid (OR (wr.alloc (.cells #[.int .i64 a,.int .i64 b] 43)) w2.heap.size u4 (mrgL (S.take (k+1)))/\bc w2 (wr.alloc (.cells #[.int .i64 a,.int .i64 b] 43))):=by
     have:=NX.out;rw [mrg1_empty c1] at this
     rw [HM'.out,this];exact JB.out
    obtain ⟨pm,cm,hvm,hcm,_,_⟩:=(ol_ll eR_len J.out.1).form
    generalize M.length=ml at hvm
    subst hvm
    clear J JB NX ML
    go_wp2_with fail
    go_roundw
    case rel=>exact ⟨k+1,by omega,by go_num,J2⟩
    case measure=>simp [Go.RowKit.intOf];omega
  . have e1:decide (b<=a)=false:=by simp;omega
    rcases nil_or_snoc M with eM | ⟨M0,q,eM⟩
    . subst eM
      obtain ⟨pm,cm,hvm,hcm,_,_⟩:=(ol_ll eR_len J.out.1).form
      obtain ⟨ml,hml⟩: ∃ ml,ml=0:=⟨0,rfl⟩
      have hvm:u4=.slice pm 0 cm:=hvm
      rw [<- hml] at hvm
      subst hvm
      have HML:Hid (ml=0):=hml
      have z1:decide ((0:Int)<= -1)=false:=by decide
      clear J
      subst hml
      go_upto_region 10 with fail
      go_quiet (fail)
      have JX:Hid (OR ((wr.alloc (.cells #[.int .i64 a,.int .i64 b] 43)).drewN nq) w2.heap.size (.slice pm 0 cm) []/\bc w2 ((wr.alloc (.cells #[.int .i64 a,.int .i64 b] 43)).drewN nq)):=⟨row_below JB.out.1 (below_drewN (Below.refl _ _)),below_drewN JB.out.2⟩
      have z0:((wr.alloc (.cells #[.int .i64 a,.int .i64 b] 43)).drewN nq).cell? ⟨wr.heap.size,0,none⟩=some (.int .i64 a):=(Blk.made wr [.int .i64 a,.int .i64 b] 43).cell 0
      have z1:((wr.alloc (.cells #[.int .i64 a,.int .i64 b] 43)).drewN nq).cell? ⟨wr.heap.size,1,none⟩=some (.int .i64 b):=(Blk.made wr [.int .i64 a,.int .i64 b] 43).cell 1
      have qn:wr.heap.size<((wr.alloc (.cells #[.int .i64 a,.int .i64 b] 43)).drewN nq).heap.size:=by show _<(wr.alloc (.cells #[.int .i64 a,.int .i64 b] 43)).heap.size;rw [World.size_alloc];omega
      clear JB lgr y0 y1
      generalize (wr.alloc (.cells #[.int .i64 a,.int .i64 b] 43)).drewN nq=X at JX z0 z1 qn |-
      generalize wr.heap.size=q at z0 z1 qn |-
      obtain ⟨v',W2,r,ho,hg,_⟩:=app_row eR_len eR_one (by decide) Tryz.underlying121 infoR rfl (by decide) w2.heap.size (.slice pm 0 cm) [] (a,b) (by simp) X JX.out.1 JX.out.2.size
      have J2:Hid (OR W2 w2.heap.size v' (mrgL (S.take (k+1)))/\bc w2 W2):=by
       have:=NX.out;rw [mrg1_first (by show a<b;omega)] at this
       rw [HM'.out,this]
       exact ⟨ho,(below_new JX.out.2 _).grown hg (by rw [World.size_alloc];have:=JX.out.2.size;omega) (fun g e=>(row_lt JX.out.1 g e).1)⟩
      clear JX NX ML ho hg
      go_wp2_with (at_builtin;refine wpList_app rfl _ _ 121 rfl (.slice pm 0 cm) (.slice (some ⟨X.heap.size,0,none⟩) 1 1) rfl rfl v' W2 r ?_)
      go_roundw
      case rel=>exact ⟨k+1,by omega,by go_num,J2⟩
      case measure=>simp [Go.RowKit.intOf];omega
    . subst eM
      obtain ⟨gm,cm,hvm,bgm,lgm,k0,k1,kf,mc,kset⟩:=or_last J.out.1
      obtain ⟨q1,q2⟩:=q
      simp only at k0 k1
      have b0:=World.cell?_of_block (w:=wr) (a:=⟨gm,M0.length*2+1,none⟩) ((Go.Joins.below_alloc1 wr (.cells #[.int .i64 a,.int .i64 b] 43)).block gm lgm)
      have KS:Hid (∀ (Y:World),OR Y w2.heap.size (.slice (some ⟨gm,0,none⟩) (M0.length+1) cm) (M0++[(q1,q2)])-> ∀ t:Int,OR (Y.setCell ⟨gm,M0.length*2+1,none⟩ (.int .i64 t)) w2.heap.size (.slice (some ⟨gm,0,none⟩) (M0.length+1) cm) (M0++[(q1,t)])):=fun Y hY t=>by
       obtain ⟨g',c',e',_,_,_,_,_,_,ks⟩:=or_last hY
       cases e'
       exact ks t
      have ML0:Hid (M0.length+1<=100000):=by have:=ML.out;simp at this;show _<=_;omega
      obtain ⟨ml,hml⟩: ∃ ml,M0.length=ml:=⟨_,rfl⟩
      rw [hml] at hvm k0 k1 KS ML0 b0 kf
      have HML:Hid (M0.length=ml):=hml
      subst hvm
      have ml9:ml+1<=100000:=ML0.out
      have kx:(wr.alloc (.cells #[.int .i64 a,.int .i64 b] 43)).cell? ⟨gm,ml*2+1,none⟩=some (.int .i64 q2):=b0.trans k1
      have kxf:(wr.alloc (.cells #[.int .i64 a,.int .i64 b] 43)).frozen? ⟨gm,ml*2+1,none⟩=false:=(World.frozen?_of_block (w:=wr) (a:=⟨gm,ml*2+1,none⟩) ((Go.Joins.below_alloc1 wr (.cells #[.int .i64 a,.int .i64 b] 43)).block gm lgm)).trans kf
      have i0:decide ((0:Int)<=(ml:Int))=true:=by simp
      have i1:decide ((ml:Int)<0)=false:=by simp
      have i2:decide ((ml:Int)<(ml:Int)+1)=true:=kh
      have lgx:gm<(wr.alloc (.cells #[.int .i64 a,.int .i64 b] 43)).heap.size:=ke
      have ng:gm≠wr.heap.size:=by omega
      clear J ML hml b0 k0 k1 mc kset kf lgm
      by_cases c2:a<=q2
      . have e2:decide (a<=q2)=true:=by simp [c2]
        go_upto_region 10 with fail
        go_quiet (fail)
        have kx2:((wr.alloc (.cells #[.int .i64 a,.int .i64 b] 43)).drewN nq).cell? ⟨gm,ml*2+1,none⟩=some (.int .i64 q2):=kx
        have kxf2:((wr.alloc (.cells #[.int .i64 a,.int .i64 b] 43)).drewN nq).frozen? ⟨gm,ml*2+1,none⟩=false:=kxf
        clear kx kxf lgx
        have ng2:wr.heap.size≠gm:=Ne.symm ng
        have JX:Hid (OR ((wr.alloc (.cells #[.int .i64 a,.int .i64 b] 43)).drewN nq) w2.heap.size (.slice (some ⟨gm,0,none⟩) (ml+1) cm) (M0++[(q1,q2)])/\bc w2 ((wr.alloc (.cells #[.int .i64 a,.int .i64 b] 43)).drewN nq)):=⟨row_below JB.out.1 (below_drewN (Below.refl _ _)),below_drewN JB.out.2⟩
        have z0:((wr.alloc (.cells #[.int .i64 a,.int .i64 b] 43)).drewN nq).cell? ⟨wr.heap.size,0,none⟩=some (.int .i64 a):=(Blk.made wr [.int .i64 a,.int .i64 b] 43).cell 0
        have z1:((wr.alloc (.cells #[.int .i64 a,.int .i64 b] 43)).drewN nq).cell? ⟨wr.heap.size,1,none⟩=some (.int .i64 b):=(Blk.made wr [.int .i64 a,.int .i64 b] 43).cell 1
        have qn:wr.heap.size<((wr.alloc (.cells #[.int .i64 a,.int .i64 b] 43)).drewN nq).heap.size:=by show _<(wr.alloc (.cells #[.int .i64 a,.int .i64 b] 43)).heap.size;rw [World.size_alloc];omega
        clear JB lgr y0 y1
        generalize (wr.alloc (.cells #[.int .i64 a,.int .i64 b] 43)).drewN nq=X at JX z0 z1 qn kx2 kxf2 |-
        generalize wr.heap.size=q at z0 z1 qn ng ng2 |-
        have END:Hid (∀ m,m=max q2 b->OR (X.setCell ⟨gm,ml*2+1,none⟩ (.int .i64 m)) w2.heap.size (.slice (some ⟨gm,0,none⟩) (ml+1) cm) (mrgL (S.take (k+1)))/\bc w2 (X.setCell ⟨gm,ml*2+1,none⟩ (.int .i64 m))):=fun m hm=>by
         have:=NX.out;rw [mrg1_meet (by show a<b;omega) c2] at this
         rw [HM'.out,this]
         have hh:=KS.out X JX.out.1 m
         rw [hm] at hh |-
         exact ⟨hh,JX.out.2.setCell (p:=⟨gm,ml*2+1,none⟩) bgm _⟩
        clear JX NX KS HML HM'
        have J2:Hid _:=END.out (max q2 b) rfl
        clear END
        go_wp2_with fail
        go_region
        go_wp2_with fail
        go_roundw
        case rel=>exact ⟨k+1,by omega,by go_num,row_below J2.out.1 (below_drew (Below.refl _ _)),below_drew J2.out.2⟩
        case measure=>simp [Go.RowKit.intOf];omega
      . have e2:decide (a<=q2)=false:=by simp;omega
        go_upto_region 10 with fail
        go_quiet (fail)
        clear kx kxf lgx
        have JX:Hid (OR ((wr.alloc (.cells #[.int .i64 a,.int .i64 b] 43)).drewN nq) w2.heap.size (.slice (some ⟨gm,0,none⟩) (ml+1) cm) (M0++[(q1,q2)])/\bc w2 ((wr.alloc (.cells #[.int .i64 a,.int .i64 b] 43)).drewN nq)):=⟨row_below JB.out.1 (below_drewN (Below.refl _ _)),below_drewN JB.out.2⟩
        have z0:((wr.alloc (.cells #[.int .i64 a,.int .i64 b] 43)).drewN nq).cell? ⟨wr.heap.size,0,none⟩=some (.int .i64 a):=(Blk.made wr [.int .i64 a,.int .i64 b] 43).cell 0
        have z1:((wr.alloc (.cells #[.int .i64 a,.int .i64 b] 43)).drewN nq).cell? ⟨wr.heap.size,1,none⟩=some (.int .i64 b):=(Blk.made wr [.int .i64 a,.int .i64 b] 43).cell 1
        clear JB lgr y0 y1 ng
        generalize (wr.alloc (.cells #[.int .i64 a,.int .i64 b] 43)).drewN nq=X at JX z0 z1 |-
        generalize wr.heap.size=q at z0 z1 |-
        obtain ⟨v',W2,r,ho,hg,_⟩:=app_row eR_len eR_one (by decide) Tryz.underlying121 infoR rfl (by decide) w2.heap.size (.slice (some ⟨gm,0,none⟩) (ml+1) cm) (M0++[(q1,q2)]) (a,b) (by have:=HML.out;simp;omega) X JX.out.1 JX.out.2.size
        have J2:Hid (OR W2 w2.heap.size v' (mrgL (S.take (k+1)))/\bc w2 W2):=by
         have:=NX.out;rw [mrg1_new (by show a<b;omega) (by show q2<a;omega)] at this
         rw [HM'.out,this]
         exact ⟨ho,(below_new JX.out.2 _).grown hg (by rw [World.size_alloc];have:=JX.out.2.size;omega) (fun g e=>(row_lt JX.out.1 g e).1)⟩
        clear JX NX ho hg KS
        go_wp2_with (at_builtin;refine wpList_app rfl _ _ 121 rfl (.slice (some ⟨gm,0,none⟩) (ml+1) cm) (.slice (some ⟨X.heap.size,0,none⟩) 1 1) rfl rfl v' W2 r ?_)
        go_roundw
        case rel=>exact ⟨k+1,by omega,by go_num,J2⟩
        case measure=>simp [Go.RowKit.intOf];omega
structure RI (w0:World) (b:Nat) (f t:Int) (A:List (Int × Int)) (v:Value) (W:World):Prop where
 own:OR W w0.heap.size v A
 bel:bc w0 W
 box:Blk W b [.int .i64 f,.int .i64 t] 43
 ne:v.ownBlock≠some b
 lb:w0.heap.size<=b
theorem RI.below {w0 W W':World} {b:Nat} {f t:Int} {A:List (Int × Int)} {v:Value} (H:RI w0 b f t A v W) (hb:bc W W'):RI w0 b f t A v W' :=
 ⟨row_below H.own hb,below_then H.bel hb,H.box.below hb,H.ne,H.lb⟩
theorem RI.set {w0 W:World} {b:Nat} {f t:Int} {A:List (Int × Int)} {v:Value} (H:RI w0 b f t A v W) (f':Int):RI w0 b f' t A v (W.setCell ⟨b,0,none⟩ (.int .i64 f')) :=
 ⟨row_keep H.own (fun g e=>Below.heap_setCell _ _ _ _ (fun h=>H.ne (by rw [e,h]))),H.bel.setCell (p:=⟨b,0,none⟩) H.lb _,H.box.set 0 _,H.ne,H.lb⟩
theorem RI.app {w0 W:World} {b:Nat} {f t:Int} {A:List (Int × Int)} {v:Value} (H:RI w0 b f t A v W) (hA:A.length<=1048576) (x:Int × Int) :
 ∃ v' W2,(Builtin.append_ #[121,121] 121 #[v,.slice (some ⟨W.heap.size,0,none⟩) 1 1]).run Tryz.prog (W.alloc (.cells #[.int .i64 x.1,.int .i64 x.2] 43))=.ok v' W2/\RI w0 b f t (A++[x]) v' W2/\ ∀ cb C T,Blk W cb C T->v.ownBlock≠some cb->Blk W2 cb C T:=by
 obtain ⟨v',W2,r,ho,hg,hat⟩:=app_row eR_len eR_one (by decide) Tryz.underlying121 infoR rfl (by decide) w0.heap.size v A x hA W H.own H.bel.size
 have sz:W.heap.size<(W.alloc (.cells (eR x).toArray 43)).heap.size:=ke
 have kp: ∀ cb C T,Blk W cb C T->v.ownBlock≠some cb->Blk W2 cb C T:=fun cb C T h n=>by
  have h1:Blk (W.alloc (.cells (eR x).toArray 43)) cb C T:=h.below baa
  exact (hg.block cb (blk_lt h1) (fun e=>n e.symm)).trans h1
 refine ⟨v',W2,r,⟨ho,(below_new H.bel _).grown hg (by rw [World.size_alloc];have:=H.bel.size;omega) (fun g e=>(row_lt H.own g e).1),kp b _ _ H.box H.ne,?_,H.lb⟩,kp⟩
 rcases hat with e | e
 . rw [e];exact H.ne
 . rw [e];intro h
   have:=blk_lt H.box
   have:=sia h
   omega
theorem rest_stop {f t:Int} {C:List (Int × Int)} {k:Nat} (hk:k<C.length) (h:t<=C[k].1):restL f t (C.drop k)=if f<t then [(f,t)] else []:=by
 rw [List.drop_eq_getElem_cons hk,restL,if_pos h]
theorem rest_go {f t:Int} {C:List (Int × Int)} {k:Nat} (hk:k<C.length) (h:C[k].1<t):restL f t (C.drop k)=(if f<C[k].1 then [(f,C[k].1)] else [])++restL C[k].2 t (C.drop (k+1)):=by
 rw [List.drop_eq_getElem_cons hk,restL,if_neg (by omega)]
theorem rest_len: ∀ (C:List (Int × Int)) (f t:Int),(restL f t C).length<=C.length+1
 | [], f, t => by unfold restL; split <;> simp
 | c :: C, f, t => by
  unfold restL
  have:=rest_len C c.2 t
  split
  . split <;> simp
  . split <;> simp <;> omega
theorem append_rest (w0:World) (lo:Nat) (lv cv:Value) (A C:List (Int × Int)) (f t:Int) (hA:A.length<=200000) (hC:C.length<=100000) (w:World) (HC:RL w0 lo cv C) (HA:OR w w0.heap.size lv A) (HB:bc w0 w) :
 Calls Tryz.prog 103 #[lv,.agg #[.int .i64 f,.int .i64 t],cv] w fun e w'=> ∃ v',e=.returned v'/\OR w' w0.heap.size v' (A++restL f t C)/\bc w0 w':=by
 obtain ⟨p,c,hv,hc,_,rd⟩:=HC.form
 have RD:Hid (∀ i (hi:i<C.length),∃ g o,p=some ⟨g,o,none⟩/\lo<=g/\g<w0.heap.size/\ ∀ j,j<2->w0.cell? ⟨g,o+i*2+j,none⟩=(eR C[i])[j]?):=rd
 obtain ⟨n,hn⟩: ∃ n,C.length=n:=⟨_,rfl⟩
 have HN:Hid (C.length=n):=hn
 rw [hn] at hv hC
 subst hv
 have HI:Hid (RI w0 w.heap.size f t A lv (w.alloc (.cells #[.int .i64 f,.int .i64 t] 43))) :=
  ⟨row_below HA baa,below_new HB _,Blk.made w [.int .i64 f,.int .i64 t] 43,(fun e=>by have:=(row_lt HA _ e).2;omega),HB.size⟩
 have HAL:Hid (A.length<=200000):=hA
 obtain ⟨RES,hR⟩: ∃ R,A++restL f t C=R:=⟨_,rfl⟩
 have E0:Hid (A++restL f t (C.drop 0)=RES):=hR
 rw [hR]
 clear rd hc hn HC HA HB hR hA
 go_enter Tryz.func103,Tryz.ntmps103
 go_wp2_with fail
 generalize w.alloc (.cells #[.int .i64 f,.int .i64 t] 43)=w1 at *
 generalize w.heap.size=b at *
 go_loopw [0,11] (fun v i W=> ∃ (k:Nat) (f':Int) (A':List (Int × Int)),k<=n/\i=.int .i64 k/\Hid (RI w0 b f' t A' v W)/\Hid (A'++restL f' t (C.drop k)=RES)/\Hid (A'.length<=200000+k)) (fun _ i _=>n-(Go.RowKit.intOf i).toNat)
 case atStart=>exact ⟨0,f,A,by omega,rfl,HI,E0,HAL⟩
 case round =>
  clear HI E0 HAL
  obtain ⟨k,f',A',hk,rfl,J,EQ,AL⟩:=hrel
  by_cases ck:k<n
  rotate_left
  . obtain rfl:k=n:=by omega
    have d1:decide ((k:Int)<(k:Int))=false:=by simp
    have FIN:Hid (A'++(if f'<t then [(f',t)] else [])=RES):=by have:=EQ.out;rw [<- HN.out,List.drop_length] at this;exact this
    have JW:=J
    clear J EQ
    by_cases ct:f'<t
    . have g1:decide (f'<t)=true:=by simp [ct]
      have FIN2:Hid (A'++[(f',t)]=RES):=by have:=FIN.out;rw [if_pos ct] at this;exact this
      obtain ⟨v',W2,r,HR,_⟩:=JW.out.app (by have:=AL.out;omega) (f',t)
      have HR2:Hid _:=HR
      have z0:wr.cell? ⟨b,0,none⟩=some (.int .i64 f'):=JW.out.box.cell 0
      have z1:wr.cell? ⟨b,1,none⟩=some (.int .i64 t):=JW.out.box.cell 1
      clear HR JW FIN ct
      go_wp2_with (at_builtin;refine wpList_app rfl _ _ 121 rfl u0 (.slice (some ⟨wr.heap.size,0,none⟩) 1 1) rfl rfl v' W2 r ?_)
      go_ret
      exact ⟨v',rfl,by rw [<- FIN2.out];exact HR2.out.own,HR2.out.bel⟩
    . have g1:decide (f'<t)=false:=by simp;omega
      have FIN2:Hid (A'=RES):=by have:=FIN.out;rw [if_neg ct,List.append_nil] at this;exact this
      have z0:wr.cell? ⟨b,0,none⟩=some (.int .i64 f'):=JW.out.box.cell 0
      have z1:wr.cell? ⟨b,1,none⟩=some (.int .i64 t):=JW.out.box.cell 1
      go_wp2_with fail
      go_ret
      exact ⟨u0,rfl,by rw [<- FIN2.out];exact JW.out.own,JW.out.bel⟩
  have d1:decide ((k:Int)<(n:Int))=true:=kh
  have d0:decide ((k:Int)<0)=false:=by simp
  have kS:k<C.length:=by rw [HN.out];exact ck
  obtain ⟨g,og,rfl,_,lg,rc⟩:=RD.out k kS
  have y0:wr.cell? ⟨g,og+k*2,none⟩=some (.int .i64 C[k].1):=(World.cell?_of_block (J.out.bel.block g lg)).trans (rc 0 (by omega))
  have y1:wr.cell? ⟨g,og+k*2+1,none⟩=some (.int .i64 C[k].2):=(World.cell?_of_block (J.out.bel.block g lg)).trans (rc 1 (by omega))
  have lgr:g<wr.heap.size:=nla lg J.out.bel.size
  have ST:Hid (∀ h:t<=C[k].1,A'++(if f'<t then [(f',t)] else [])=RES):=fun h=>by have:=EQ.out;rw [rest_stop kS h] at this;exact this
  have GO:Hid (∀ h:C[k].1<t,A'++((if f'<C[k].1 then [(f',C[k].1)] else [])++restL C[k].2 t (C.drop (k+1)))=RES):=fun h=>by have:=EQ.out;rw [rest_go kS h] at this;exact this
  clear EQ rc lg
  generalize C[k].1=c1 at y0 ST GO
  generalize C[k].2=c2 at y1 GO
  have JB:Hid (RI w0 b f' t A' u0 (wr.alloc (.cells #[.int .i64 c1,.int .i64 c2] 43))):=J.out.below baa
  have z0:wr.cell? ⟨b,0,none⟩=some (.int .i64 f'):=J.out.box.cell 0
  have z1:wr.cell? ⟨b,1,none⟩=some (.int .i64 t):=J.out.box.cell 1
  have bl:b<wr.heap.size:=blk_lt J.out.box
  have ZB:Hid (Blk (wr.alloc (.cells #[.int .i64 c1,.int .i64 c2] 43)) wr.heap.size [.int .i64 c1,.int .i64 c2] 43/\u0.ownBlock≠some wr.heap.size):=⟨Blk.made wr [.int .i64 c1,.int .i64 c2] 43,fun e=>by have:=(row_lt J.out.own _ e).2;omega⟩
  clear J
  by_cases cs:t<=c1
  . have e1:decide (t<=c1)=true:=by simp [cs]
    have FIN:Hid (A'++(if f'<t then [(f',t)] else [])=RES):=ST.out cs
    have JW:=JB
    clear JB ST GO ZB
    go_upto_region 9 with fail
    clear z0 z1 y0 y1 bl lgr
    generalize wr.alloc (.cells #[.int .i64 c1,.int .i64 c2] 43)=wx at JW |-
    by_cases ct:f'<t
    . have g1:decide (f'<t)=true:=by simp [ct]
      have FIN2:Hid (A'++[(f',t)]=RES):=by have:=FIN.out;rw [if_pos ct] at this;exact this
      obtain ⟨v',W2,r,HR,_⟩:=JW.out.app (by have:=AL.out;omega) (f',t)
      have HR2:Hid _:=HR
      have z0:wx.cell? ⟨b,0,none⟩=some (.int .i64 f'):=JW.out.box.cell 0
      have z1:wx.cell? ⟨b,1,none⟩=some (.int .i64 t):=JW.out.box.cell 1
      clear HR JW FIN ct
      go_wp2_with (at_builtin;refine wpList_app rfl _ _ 121 rfl u0 (.slice (some ⟨wx.heap.size,0,none⟩) 1 1) rfl rfl v' W2 r ?_)
      go_ret
      exact ⟨v',rfl,by rw [<- FIN2.out];exact HR2.out.own,HR2.out.bel⟩
    . have g1:decide (f'<t)=false:=by simp;omega
      have FIN2:Hid (A'=RES):=by have:=FIN.out;rw [if_neg ct,List.append_nil] at this;exact this
      have z0:wx.cell? ⟨b,0,none⟩=some (.int .i64 f'):=JW.out.box.cell 0
      have z1:wx.cell? ⟨b,1,none⟩=some (.int .i64 t):=JW.out.box.cell 1
      go_wp2_with fail
      go_ret
      exact ⟨u0,rfl,by rw [<- FIN2.out];exact JW.out.own,JW.out.bel⟩
  have e1:decide (t<=c1)=false:=kh
  have GO2:=GO.out (by omega)
  by_cases cf:f'<c1
  . have e2:decide (f'<c1)=true:=by simp [cf]
    rw [if_pos cf] at GO2
    have NX:Hid ((A'++[(f',c1)])++restL c2 t (C.drop (k+1))=RES):=by show _=_;rw [List.append_assoc];exact GO2
    obtain ⟨v',W2,r,HR,kp⟩:=JB.out.app (by have:=AL.out;omega) (f',c1)
    have Z2:=kp _ _ _ ZB.out.1 ZB.out.2
    rw [World.size_alloc] at r
    have s0:W2.cell? ⟨b,0,none⟩=some (.int .i64 f'):=HR.box.cell 0
    have s0f:W2.frozen? ⟨b,0,none⟩=false:=HR.box.free 0
    have s1:W2.cell? ⟨wr.heap.size,1,none⟩=some (.int .i64 c2):=Z2.cell 1
    have J2:Hid (RI w0 b c2 t (A'++[(f',c1)]) v' (W2.setCell ⟨b,0,none⟩ (.int .i64 c2))):=HR.set c2
    have AL2:Hid ((A'++[(f',c1)]).length<=200000+(k+1)):=by have:=AL.out;show _<=_;simp;omega
    clear HR kp Z2 JB ZB ST GO GO2 AL
    go_wp2_with (at_builtin;refine wpList_app rfl _ _ 121 rfl u0 (.slice (some ⟨wr.heap.size+1,0,none⟩) 1 1) rfl rfl v' W2 r ?_)
    go_roundw
    case rel=>exact ⟨k+1,c2,A'++[(f',c1)],by omega,by go_num,J2,NX,AL2⟩
    case measure=>simp [Go.RowKit.intOf];omega
  . have e2:decide (f'<c1)=false:=by simp;omega
    rw [if_neg cf,List.nil_append] at GO2
    have NX:Hid (A'++restL c2 t (C.drop (k+1))=RES):=GO2
    have zf:wr.frozen? ⟨b,0,none⟩=false:=(World.frozen?_of_block (w:=wr) (a:=⟨b,0,none⟩) ((Go.Joins.below_alloc1 wr (.cells #[.int .i64 c1,.int .i64 c2] 43)).block b bl)).symm.trans (JB.out.box.free 0)
    have J2:Hid (RI w0 b c2 t A' u0 ((wr.alloc (.cells #[.int .i64 c1,.int .i64 c2] 43)).setCell ⟨b,0,none⟩ (.int .i64 c2))):=JB.out.set c2
    have J3:Hid (RI w0 b c2 t A' u0 ((wr.setCell ⟨b,0,none⟩ (.int .i64 c2)).alloc (.cells #[.int .i64 c1,.int .i64 c2] 43))):=by rw [<- World.setCell_alloc_past _ _ _ _ bl];exact J2
    have AL2:Hid (A'.length<=200000+(k+1)):=by have:=AL.out;show _<=_;omega
    clear J2 JB ZB ST GO GO2 AL
    go_wp2_with fail
    go_roundw
    case rel=>exact ⟨k+1,c2,A',by omega,by go_num,J3,NX,AL2⟩
    case measure=>simp [Go.RowKit.intOf];omega
def lenS:Value->Nat
 | .slice _ n _ => n
 | _ => 0
theorem less_next {M C:List (Int × Int)} {k:Nat} (h:k<M.length):lessL (M.drop k) C=restL M[k].1 M[k].2 (dropL M[k].1 C)++lessL (M.drop (k+1)) (dropL M[k].1 C):=by
 rw [List.drop_eq_getElem_cons h,lessL]
theorem drop_len (f:Int): ∀ C:List (Int × Int),(dropL f C).length<=C.length
 | [] => by simp [dropL]
 | c :: C => by unfold dropL; have := drop_len f C; split <;> simp; omega
theorem ll_tail {w:World} {lo g o n c:Nat} {x:Int × Int} {C:List (Int × Int)} (hn:C.length=n) (hc:n+1<=c) (l0:lo<=g) (lg:g<w.heap.size) (h: ∀ i (hi:i<(x::C).length),∀ j,j<2->w.cell? ⟨g,o+i*2+j,none⟩=(eR (x::C)[i])[j]?) :
 RL w lo (.slice (if c=1 then some ⟨g,o,none⟩ else some ⟨g,o+2,none⟩) n (c-1)) C:=by
 by_cases e:c=1
 . rw [if_pos e]
   have:C=[]:=List.eq_nil_of_length_eq_zero (by omega)
   subst this
   exact Or.inr ⟨g,o,c-1,by rw [<- hn],by simp,l0,lg,fun i hi=>absurd hi (Nat.not_lt_zero _)⟩
 . rw [if_neg e]
   refine Or.inr ⟨g,o+2,c-1,by rw [hn],by omega,l0,lg,fun i hi j hj=> ?_⟩
   have:=h (i+1) kh j hj
   rw [show o+(i+1)*2+j=o+2+i*2+j by omega] at this
   exact this
theorem less_call (lo1 lo2:Nat) (v a:Value) (L B:List (Int × Int)) (hL:L.length<=10000) (hB:B.length<=10000) (hLB:L.length*(B.length+1)<=100000) (w:World) (H1:RL w lo1 v L) (H2:RL w lo2 a B) :
 Calls Tryz.prog 81 #[v,a] w fun e w'=> ∃ v' M,e=.returned v'/\OR w' w.heap.size v' M/\Can M/\(∀ n,Has M n↔Has L n/\ ¬ Has B n)/\M.length<=L.length*(B.length+1)/\bc w w':=by
 have C1:Hid _:=merge_any lo2 a B (by omega) w H2
 have C2:Hid (∀ W:World,bc w W->_):=fun W hb=>merge_any lo1 v L (by omega) W (H1.below hb)
 have HLB:Hid (L.length*(B.length+1)<=100000):=hLB
 clear H1 H2 hLB
 go_enter Tryz.func81,Tryz.ntmps81
 go_wp2_with fail
 refine Calls.mono C1.out ?_
 rintro e w1 ⟨v1,M1,rfl,O1,k1,h1,n1,B1⟩
 have S1:Hid (OR w1 w.heap.size v1 M1/\Can M1/\(∀ n,Has M1 n↔Has B n)/\M1.length<=B.length/\bc w w1):=⟨O1,k1,h1,n1,B1⟩
 clear O1 k1 h1 n1 B1 C1
 go_wp2_with fail
 refine Calls.mono (C2.out w1 S1.out.2.2.2.2) ?_
 rintro e w2 ⟨v2,M2,rfl,O2,k2,h2,n2,B2⟩
 have S2:Hid (Can M2/\(∀ n,Has M2 n↔Has L n)/\M2.length<=L.length/\bc w w2):=⟨k2,h2,n2,below_then S1.out.2.2.2.2 B2⟩
 have RC:Hid (RL w2 0 v1 M1):=((ol_ll eR_len S1.out.1).low (Nat.zero_le _)).below B2
 obtain ⟨p2,c2,hv2,hc2,_,rd⟩:=(ol_ll eR_len O2).form
 have RD:Hid (∀ i (hi:i<M2.length),∃ g o,p2=some ⟨g,o,none⟩/\w1.heap.size<=g/\g<w2.heap.size/\ ∀ j,j<2->w2.cell? ⟨g,o+i*2+j,none⟩=(eR M2[i])[j]?):=rd
 obtain ⟨n,hn⟩: ∃ n,M2.length=n:=⟨_,rfl⟩
 have HN:Hid (M2.length=n):=hn
 have n9:n<=10000:=by rw [<- hn];omega
 have HM:Hid (n*(M1.length+1)<=L.length*(B.length+1)):=by
  show _<=_
  have:=S1.out.2.2.2.1
  exact Nat.mul_le_mul (by omega) (by omega)
 have HM1:Hid (M1.length<=10000):=by have:=S1.out.2.2.2.1;show _<=_;omega
 rw [hn] at hv2
 subst hv2
 clear rd O2 k2 h2 n2 B2 C2 hc2 hn hL hB
 obtain ⟨m1,hm1⟩: ∃ m1,M1.length=m1:=⟨_,rfl⟩
 have HMM:Hid (M1.length=m1):=hm1
 rw [hm1] at HM HM1
 clear hm1
 go_wp2_with fail
 go_loopw [5,6,14] (fun v c i W=> ∃ (k:Nat) (A C:List (Int × Int)),k<=n/\i=.int .i64 k/\Hid (OR W w2.heap.size v A/\bc w2 W)/\Hid (RL w2 0 c C)/\Hid (A++lessL (M2.drop k) C=lessL M2 M1)/\Hid (A.length<=k*(m1+1))/\Hid (C.length<=m1)) (fun _ _ i _=>n-(Go.RowKit.intOf i).toNat)
 case atStart=>exact ⟨0,[],M1,by omega,rfl,⟨ol_none _ _ _ _ _,Below.refl _ _⟩,RC,rfl,Nat.zero_le _,Nat.le_of_eq HMM.out⟩
 case round =>
  clear RC
  obtain ⟨k,A,C,hk,rfl,J,RC,EQ,AL,CL⟩:=hrel
  by_cases ck:k<n
  rotate_left
  . obtain rfl:k=n:=by omega
    have d1:decide ((k:Int)<(k:Int))=false:=by simp
    go_wp2_with fail
    go_ret
    have e:A=lessL M2 M1:=by have:=EQ.out;rw [<- HN.out,List.drop_length,lessL,List.append_nil] at this;exact this
    have X:=less_any M2 M1 S2.out.1 S1.out.2.1
    rw [<- e] at X
    refine ⟨u5,A,rfl,row_weak J.out.1 S2.out.2.2.2.size,X.1,fun x=> ?_,Nat.le_trans AL.out HM.out,below_then S2.out.2.2.2 J.out.2⟩
    rw [X.2.2 x,S2.out.2.1 x,S1.out.2.2.1 x]
  have d1:decide ((k:Int)<(n:Int))=true:=kh
  have d0:decide ((k:Int)<0)=false:=by simp
  have kS:k<M2.length:=by rw [HN.out];exact ck
  obtain ⟨g,og,rfl,_,lg,rc⟩:=RD.out k kS
  have y0:wr.cell? ⟨g,og+k*2,none⟩=some (.int .i64 M2[k].1):=(World.cell?_of_block (J.out.2.block g lg)).trans (rc 0 (by omega))
  have y1:wr.cell? ⟨g,og+k*2+1,none⟩=some (.int .i64 M2[k].2):=(World.cell?_of_block (J.out.2.block g lg)).trans (rc 1 (by omega))
  have EQ2:Hid (A++(restL M2[k].1 M2[k].2 (dropL M2[k].1 C)++lessL (M2.drop (k+1)) (dropL M2[k].1 C))=lessL M2 M1):=by have:=EQ.out;rw [less_next kS] at this;exact this
  have CD:=drop_len M2[k].1 C
  clear EQ rc lg
  generalize M2[k].1=a at y0 EQ2 CD
  generalize M2[k].2=b at y1 EQ2
  have JI:Hid (RI w2 wr.heap.size a b A u5 (wr.alloc (.cells #[.int .i64 a,.int .i64 b] 43))):=⟨row_below J.out.1 baa,below_new J.out.2 _,Blk.made wr [.int .i64 a,.int .i64 b] 43,(fun e=>by have:=(row_lt J.out.1 _ e).2;omega),J.out.2.size⟩
  have EQ:=EQ2
  have DL:Hid ((dropL a C).length<=m1):=by have:=CL.out;show _<=_;omega
  have AK:Hid (A.length<=100000):=by
   have h1:=AL.out
   have h2:k*(m1+1)<=n*(m1+1):=Nat.mul_le_mul_right _ hk
   have h3:=HM.out
   have h4:=HLB.out
   show _<=_
   omega
  have DE0:Hid (dropL a C=dropL a C):=rfl
  generalize hD:dropL a C=D at EQ DL
  rw [hD] at DE0
  have DE1:Hid (dropL a C=D):=hD
  clear J EQ2 CD hD DE0
  go_wp2_with fail
  clear y0 y1
  generalize wr.alloc (.cells #[.int .i64 a,.int .i64 b] 43)=wx at JI |-
  generalize wr.heap.size=rb at JI |-
  go_loopw [6] (fun c W=> ∃ C2:List (Int × Int),Hid (RL w2 0 c C2)/\Hid (dropL a C2=D)/\Hid (RI w2 rb a b A u5 W)) (fun c _=>lenS c)
  case atStart=>exact ⟨C,RC,DE1,JI⟩
  case round =>
   clear RC JI DE1 CL
   obtain ⟨C2,RC,DE,JI⟩:=hrel
   obtain ⟨pc,cc,hv,hcc,hpn,rdc⟩:=RC.out.form
   obtain ⟨nc,hnc⟩: ∃ nc,C2.length=nc:=⟨_,rfl⟩
   rw [hnc] at hv hcc
   subst hv
   cases C2 with
   | nil =>
    obtain rfl:nc=0:=by rw [<- hnc];rfl
    obtain rfl:D=[]:=by rw [<- DE.out];rfl
    have CLL:=DL
    have zz:decide ((0:Int)<0)=false:=by decide
    clear rdc hpn hnc hcc DE DL
    go_wp2_with fail
    go_quiet (fail)
    have JQ:Hid (RI w2 rb a b A u5 (wr.drewN nq)):=JI.out.below (below_drewN (Below.refl _ _))
    have z2:(wr.drewN nq).cell? ⟨rb,0,none⟩=some (.int .i64 a):=JQ.out.box.cell 0
    have z3:(wr.drewN nq).cell? ⟨rb,1,none⟩=some (.int .i64 b):=JQ.out.box.cell 1
    clear JI
    generalize wr.drewN nq=wq at JQ z2 z3 |-
    have ARC:Hid (∀ W:World,RI w2 rb a b A u5 W->_):=fun W h=>append_rest w2 0 u5 (.slice pc 0 cc) A [] a b (by have:=AK.out;omega) (by have:=CLL.out;have:=HM1.out;omega) W RC.out h.own h.bel
    go_wp2_with fail
    refine Calls.mono (ARC.out _ JQ.out) ?_
    rintro e w3 ⟨v',rfl,O3,B3⟩
    have N1:Hid (OR w3 w2.heap.size v' (A++restL a b [])/\bc w2 w3):=⟨O3,B3⟩
    clear O3 B3 ARC JQ z2 z3
    go_wp2_with fail
    go_roundw
    case rel=>exact ⟨k+1,A++restL a b [],[],by omega,by go_num,N1,RC,by have:=EQ.out;show _=_;rw [List.append_assoc];exact this,by have:=AL.out;have:=rest_len [] a b;have:=CLL.out;show _<=_;rw [List.length_append,Nat.add_mul,Nat.one_mul];omega,CLL⟩
    case measure=>simp [Go.RowKit.intOf];omega
   | cons x cs =>
    obtain ⟨gc,oc,rfl,l0,lgc,_⟩:=rdc 0 (by simp)
    have rc: ∀ i (hi:i<(x::cs).length),∀ j,j<2->w2.cell? ⟨gc,oc+i*2+j,none⟩=(eR (x::cs)[i])[j]? :=fun i hi j hj=>by
     obtain ⟨g',o',e',_,_,h⟩:=rdc i hi
     cases e'
     exact h j hj
    obtain ⟨nd,hnd⟩: ∃ nd,cs.length=nd:=⟨_,rfl⟩
    obtain rfl:nc=nd+1:=by rw [<- hnc,<- hnd];rfl
    have TL:Hid (RL w2 0 (.slice (if cc=1 then some ⟨gc,oc,none⟩ else some ⟨gc,oc+2,none⟩) nd (cc-1)) cs):=ll_tail hnd hcc (Nat.zero_le _) lgc rc
    have q1:wr.cell? ⟨gc,oc+1,none⟩=some (.int .i64 x.2):=(World.cell?_of_block (JI.out.bel.block gc lgc)).trans (rc 0 (by simp) 1 (by omega))
    have q0:wr.cell? ⟨rb,0,none⟩=some (.int .i64 a):=JI.out.box.cell 0
    have i0:decide ((0:Int)<(nd:Int)+1)=true:=decide_eq_true (by omega)
    have nd9:nd+1<=cc:=hcc
    clear rdc hpn rc l0 lgc hcc
    by_cases cx:x.2<=a
    . have e1:decide (x.2<=a)=true:=by simp [cx]
      have DE2:Hid (dropL a cs=D):=by have:=DE.out;rw [dropL,if_pos cx] at this;exact this
      generalize x.2=x2 at *
      have c1:decide ((1:Int)<=(nd:Int)+1)=true:=decide_eq_true (by omega)
      have c2': ¬ ((nd:Int)+1<1):=by omega
      clear hnd hnc RC DE
      go_wp2_with fail
      go_quiet (fail)
      have JQ:Hid (RI w2 rb a b A u5 (wr.drewN nq)):=JI.out.below (below_drewN (Below.refl _ _))
      have z2:(wr.drewN nq).cell? ⟨rb,0,none⟩=some (.int .i64 a):=JQ.out.box.cell 0
      have z3:(wr.drewN nq).cell? ⟨rb,1,none⟩=some (.int .i64 b):=JQ.out.box.cell 1
      clear JI q1 q0
      generalize wr.drewN nq=wq at JQ z2 z3 |-
      go_wp2_with fail
      go_roundw
      case rel=>exact ⟨cs,TL,DE2,JQ⟩
      case measure=>simp [lenS]
    . have e1:decide (x.2<=a)=false:=by simp;omega
      have DE2:x::cs=D:=by have:=DE.out;rw [dropL,if_neg cx] at this;exact this
      subst DE2
      have CLL:=DL
      clear DL DE hnc TL
      generalize hx2:x.2=x2 at q1 e1 cx
      go_wp2_with fail
      go_quiet (fail)
      have JQ:Hid (RI w2 rb a b A u5 (wr.drewN nq)):=JI.out.below (below_drewN (Below.refl _ _))
      have z2:(wr.drewN nq).cell? ⟨rb,0,none⟩=some (.int .i64 a):=JQ.out.box.cell 0
      have z3:(wr.drewN nq).cell? ⟨rb,1,none⟩=some (.int .i64 b):=JQ.out.box.cell 1
      clear JI q1 q0
      generalize wr.drewN nq=wq at JQ z2 z3 |-
      have ARC:Hid (∀ W:World,RI w2 rb a b A u5 W->_):=fun W h=>append_rest w2 0 u5 (.slice (some ⟨gc,oc,none⟩) (nd+1) cc) A (x::cs) a b (by have:=AK.out;omega) (by have:=CLL.out;have:=HM1.out;omega) W RC.out h.own h.bel
      go_wp2_with fail
      refine Calls.mono (ARC.out _ JQ.out) ?_
      rintro e w3 ⟨v',rfl,O3,B3⟩
      have N1:Hid (OR w3 w2.heap.size v' (A++restL a b (x::cs))/\bc w2 w3):=⟨O3,B3⟩
      clear O3 B3 ARC JQ z2 z3
      go_wp2_with fail
      go_roundw
      case rel=>exact ⟨k+1,A++restL a b (x::cs),(x::cs),by omega,by go_num,N1,RC,by have:=EQ.out;show _=_;rw [List.append_assoc];exact this,by have:=AL.out;have:=rest_len (x::cs) a b;have:=CLL.out;show _<=_;rw [List.length_append,Nat.add_mul,Nat.one_mul];omega,CLL⟩
      case measure=>simp [Go.RowKit.intOf];omega
end Go.Proofs.YtgbdnnkkcpkhdaaGreatDoor.Bm
