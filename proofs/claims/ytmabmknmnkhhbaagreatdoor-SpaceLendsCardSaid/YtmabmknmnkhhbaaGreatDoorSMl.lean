import Derived.Test.YtmabmknmnkhhbaaGreatDoorSLl
import Derived.Test.YtmabmknmnkhhbaaGreatDoorSKl
import Derived.Test.YtmabmknmnkhhbaaGreatDoorKZl
namespace Go.Proofs.YtmabmknmnkhhbaaGreatDoor.Sp
open Go.ChangeShapes Go.WideShapes Go.ChangeAt Go.RowKit Go.Maps Go.Sort Go.Shelf
open Go.Proofs.YtmabmknmnkhhbaaGreatDoor.Tt
set_option linter.unusedSimpArgs false
set_option linter.unusedVariables false
set_option maxRecDepth 8000
def keysA_ren:Go.Shelf.Ren:=⟨fun | 7=>63 | 10=>115 | n=>n,fun | 23=>110 | 26=>3 | 3=>3 | 28=>122 | 0=>0 | 27=>121 | 33=>71 | 4=>4 | n=>n,fun | n=>n⟩
theorem keysA:Go.Proofs.SlLaysZI.n7 Tryz.prog keysA_ren:={
 mixed:=by kernel_rfl
 f7:=⟨Tryz.f63.name,by decide,Tryz.func63.trans (congrArg some (by kernel_rfl))⟩
 f10:=⟨Tryz.f115.name,by decide,Tryz.func115.trans (congrArg some (by kernel_rfl))⟩
 t0:=Tryz.underlying0
 a0:=Tryz.isAgg0
 z0:=Tryz.sizeOf0
 v0:=Tryz.zeroValue0
 t4:=Tryz.underlying4
 a4:=Tryz.isAgg4
 z4:=Tryz.sizeOf4
 v4:=Tryz.zeroValue4
 t23:=Tryz.underlying110
 a23:=Tryz.isAgg110
 z23:=Tryz.sizeOf110
 v23:=Tryz.zeroValue110
 t26:=Tryz.underlying3
 a26:=Tryz.isAgg3
 z26:=Tryz.sizeOf3
 v26:=Tryz.zeroValue3
 t27:=Tryz.underlying121
 a27:=Tryz.isAgg121
 z27:=Tryz.sizeOf121
 v27:=Tryz.zeroValue121
 t28:=Tryz.underlying122
 a28:=Tryz.isAgg122
 z28:=Tryz.sizeOf122
 v28:=Tryz.zeroValue122
 t33:=Tryz.underlying71
 a33:=Tryz.isAgg71
 z33:=Tryz.sizeOf71
 v33:=Tryz.zeroValue71 }
theorem keys_any (mb:Option Nat) (W:World):Calls Tryz.prog 63 #[.map mb] W fun e w'=>e=.returned (.func (.func 115) #[] #[.pointer (some ⟨W.heap.size,0,none⟩)])/\w'=W.alloc (.cells #[.map mb] 110) :=
 (callsIn_wide (n:=5)).1 (AnyZI.keys_in keysA Fence.wide 5 trivial rfl mb W)
def Asc (L:List Int):Prop:=L.Pairwise (· < ·)
theorem keys_mem {w:World} {b nn:Nat} {D0:DataW Unit} (hown:w.ownsMap Tryz.prog 3 (plainElem Tryz.prog 3) b nn D0):(intKeys D0).Nodup/\ ∀ x,x∈intKeys D0↔Maps.has D0 (.int .i64 x)=true:=by
 obtain ⟨es,hD,hpw,_⟩:=hown.entries keyLaw
 obtain ⟨es',hD',hko⟩:=hown.keysOf
 obtain rfl:es=es':=by rw [hD] at hD';simpa using hD'
 subst hD
 have hk: ∀ p∈es,∃ x,p.1=.int .i64 x:=fun p hp=>by obtain ⟨v,hv⟩:=hko p hp;obtain ⟨x,_,hx,_⟩:=Maps.keyOf_i64 Tryz.underlying3 hv;exact ⟨x,hx⟩
 constructor
 . show (es.map fun p=>Go.intOf p.1).Nodup
   refine List.pairwise_map.2 (hpw.imp_of_mem fun {p q} hp' hq' hne e=>hne ?_)
   obtain ⟨a,ha⟩:=hk p hp'
   obtain ⟨b,hb⟩:=hk q hq'
   rw [ha,hb] at e |-
   exact congrArg _ e
 . intro x
   rw [has_eq,List.any_eq_true]
   show x∈(es.map fun p=>Go.intOf p.1)↔_
   rw [List.mem_map]
   constructor
   . rintro ⟨p,hp',rfl⟩
     obtain ⟨a,ha⟩:=hk p hp'
     exact ⟨p,hp',by rw [ha];simp [Lit.sameKey,Go.intOf]⟩
   . rintro ⟨p,hp',hs⟩
     obtain ⟨a,ha⟩:=hk p hp'
     rw [ha] at hs
     exact ⟨p,hp',by rw [ha];simpa [Lit.sameKey,Go.intOf] using hs⟩
theorem sort_asc {ss:List Int} (h:ss.Nodup):Asc (ss.mergeSort leI)/\ ∀ x,x∈ss.mergeSort leI↔x∈ss:=by
 have tr: ∀ a b c:Int,leI a b=true->leI b c=true->leI a c=true:=fun a b c h1 h2=>by simp only [leI,decide_eq_true_eq] at *;exact Int.le_trans h1 h2
 have to_: ∀ a b:Int,(leI a b || leI b a)=true:=fun a b=>by simp only [leI,Bool.or_eq_true,decide_eq_true_eq];exact Int.le_total a b
 have P:=List.mergeSort_perm ss leI
 refine ⟨?_,fun x=>P.mem_iff⟩
 have a:=List.pairwise_mergeSort tr to_ ss
 have b:(ss.mergeSort leI).Nodup:=P.nodup_iff.2 h
 unfold Asc
 have:=a.and b
 refine this.imp ?_
 rintro x y ⟨h1,h2⟩
 simp only [leI,decide_eq_true_eq] at h1
 have h2':x≠y:=h2
 omega
set_option maxHeartbeats 1000000 in
theorem sorted_any (b n c:Nat) (f:Int->Option Int) (hn:n<=1048600) (w:World) (h:Pc.MapC w b n c f) :
 Calls Tryz.prog 44 #[.func (.func 115) #[] #[.pointer (some ⟨w.heap.size,0,none⟩)]] (w.alloc (.cells #[.map (some b)] 110)) fun e w'=> ∃ (v:Value) (L:List Int),e=.returned v/\Asc L/\(∀ x,x∈L↔(f x).isSome=true)/\w'.ownsRow w.heap.size 3 1 v L.length (L.map (Value.int .i64))/\Below w.heap.size w w':=by
 obtain ⟨D0,hown,hc,hD⟩:=h
 have hs:Maps.size D0<=n:=hown.size_le
 have hbl:=hown.lt
 have KM:=keys_mem hown
 have hseq:SeqGives Fence.wide 2 Tryz.prog 115 #[.pointer (some ⟨w.heap.size,0,none⟩)] encZ (fun ss=>ss.Perm (intKeys D0)) (Maps.size D0) (w.alloc (.cells #[.map (some b)] 110)) :=
  AnyZI.keys_gives (ρ :=keysA_ren) { keysA with } Fence.wide _ trivial rfl (by omega) w.heap.size b n D0 _ (by simp) (by simp) (by
   obtain ⟨es,clock,hb,Ft,hs,hD⟩:=hown
   exact ⟨es,clock,(Below.heap_alloc _ _ b hbl).trans hb,Ft,hs,hD⟩)
 have cS:=AnyZI.sorted_in sortedA Fence.wide 5 trivial trivial trivial trivial rfl (by omega) (sortsA _) (enters_of Tryz.func95 (by kernel_rfl) rfl) 115 #[.pointer (some ⟨w.heap.size,0,none⟩)] trivial (enters_of Tryz.func115 (by kernel_rfl) rfl) _ _ (by unfold maxLen;omega) (by omega) _ hseq
 change CallsIn _ _ Tryz.prog 44 _ _ _ at cS
 refine ((callsIn_wide (n:=5)).1 cS).mono ?_
 rintro e w' ⟨v,ss,rfl,hS,hrow,hnil,hb⟩
 have nd:ss.Nodup:=hS.nodup_iff.2 KM.1
 have SA:=sort_asc nd
 refine ⟨v,ss.mergeSort leI,rfl,SA.1,fun x=> ?_,?_,((Below.refl _ w).alloc (Nat.le_refl _) _).trans (hb.mono (by simp))⟩
 . rw [SA.2 x,hS.mem_iff,KM.2 x,(hD x).1]
 . have r:=ownsRow_base_a hrow (base':=w.heap.size) (by simp)
   rw [List.length_mergeSort]
   exact r
end Go.Proofs.YtmabmknmnkhhbaaGreatDoor.Sp
namespace Go.Proofs.YtmabmknmnkhhbaaGreatDoor.Sp
open Go.ChangeShapes Go.WideShapes Go.ChangeAt Go.RowKit Go.Maps Go.Sort Go.Shelf
open Go.Proofs.YtmabmknmnkhhbaaGreatDoor.Tt
set_option linter.unusedSimpArgs false
set_option linter.unusedVariables false
set_option maxRecDepth 8000
theorem sorted_i {w:World} {b n:Nat} {f:Int->Option Int} (h:Pc.MapI w b n f) (hn:n<=1048600) :
 Calls Tryz.prog 44 #[.func (.func 115) #[] #[.pointer (some ⟨w.heap.size,0,none⟩)]] (w.alloc (.cells #[.map (some b)] 110)) fun e w'=> ∃ (v:Value) (L:List Int),e=.returned v/\Asc L/\(∀ x,x∈L↔(f x).isSome=true)/\w'.ownsRow w.heap.size 3 1 v L.length (L.map (Value.int .i64))/\Below w.heap.size w w':=by
 obtain ⟨c,h⟩:=h
 exact sorted_any b n c f hn w h
set_option maxHeartbeats 2000000 in
theorem close_borrowed {Y:Nat->Prop} {O:Nat->Nat} {n:Nat} {W:World} {M:Mb} {m:Pm} {s:Ps} {T:Nat->Tl.Ln} {S:Pc.Tg} {a:Sr} {B:List Sr} (h:Mc Y O n W M m s T S (a::B)) (hn:a.ln<=1048600) (f t:Int) (gw gu gx:Bool) (f0:0<=f) (ft:f<t) (t1:t<=34359738368) (hL:a.L=[⟨f,t,gw,gu,gx,1⟩]) (wi:(Lit.int .i64 a.id).wf=true) :
 Calls Tryz.prog 21 #[pp M.mb,.int .i64 a.id] W fun e w'=>e=.returned (.int .i64 11)/\Below W.heap.size W w':=by
 have ma:=List.mem_cons_self (a:=a) (l:=B)
 have lk:(Instr.lookup 41 (.map (some M.sm)) (.int .i64 a.id) false).run Tryz.prog W=.ok (.pointer (some ⟨a.sb,0,none⟩)) W:=by
  have q:=h.map.look wi
  rw [spF_head] at q;exact q
 have c6:W.cell? ⟨M.mb,6,none⟩=some (.map (some M.sm)):=h.mac.cell 6
 have c3:W.cell? ⟨a.sb,3,none⟩=some (.map (some a.lb)):=(h.sp a ma).blk.cell 3
 have KC:Hid (Calls Tryz.prog 63 #[.map (some a.lb)] W fun e w'=>e=.returned (.func (.func 115) #[] #[.pointer (some ⟨W.heap.size,0,none⟩)])/\w'=(W.alloc (.cells #[.map (some a.lb)] 110))):=keys_any (some a.lb) W
 have SC:Hid (Calls Tryz.prog 44 #[.func (.func 115) #[] #[.pointer (some ⟨W.heap.size,0,none⟩)]] (W.alloc (.cells #[.map (some a.lb)] 110)) fun e w'=> ∃ v:Value,e=.returned v/\Below W.heap.size W w'):=(sorted_i (h.sp a ma).map hn).mono fun e w' ⟨v,L,he,_,_,_,hb⟩=>⟨v,he,hb⟩
 have BC:Hid (∀ w:World,Below W.heap.size W w->_):=fun w hb=>borrows_yes (h.below hb) 0 34359738368 f t gw gu gx hL (by omega) (by omega) (by omega) (by omega) (by omega) ft
 clear h hL wi
 go_enter Tryz.func21,Tryz.ntmps21
 go_wp2_with fail
 refine Calls.mono KC.out ?_
 rintro e w1 ⟨rfl,hu⟩
 subst hu
 clear KC
 go_wp2_with fail
 refine Calls.mono SC.out ?_
 rintro e w2 ⟨v,rfl,hb2⟩
 have B2:Hid (Below W.heap.size W w2):=hb2
 clear hb2 SC
 go_wp2_with fail
 refine Calls.mono (BC.out _ B2.out) ?_
 rintro e w3 ⟨rfl,hb3⟩
 have HB:Hid (Below W.heap.size W w3):=below_then B2.out hb3
 clear hb3 B2 BC
 go_wp2_with fail
 go_returns
 exact ⟨rfl,HB.out⟩
theorem asc_one {L:List Int} {p:Int} (h:Asc L) (hm: ∀ x,x∈L↔x=p):L=[p]:=by
 cases L with
 | nil => exact absurd ((hm p).2 rfl) List.not_mem_nil
 | cons a L =>
  have ea:a=p:=(hm a).1 List.mem_cons_self
  cases L with
  | nil => rw [ea]
  | cons b L =>
   have eb:b=p:=(hm b).1 (List.mem_cons_of_mem _ List.mem_cons_self)
   have:=(List.pairwise_cons.1 h).1 b List.mem_cons_self
   omega
set_option maxHeartbeats 2000000 in
theorem close_lent {Y:Nat->Prop} {O:Nat->Nat} {n:Nat} {W:World} {M:Mb} {m:Pm} {s:Ps} {T:Nat->Tl.Ln} {S:Pc.Tg} {a:Sr} {B:List Sr} (h:Mc Y O n W M m s T S (a::B)) (hn:a.ln<=1048600) (f t z:Int) (hz:0<z) (p:Nat) (p1:p<=34359738368) (gw gu gx:Bool) (hL:a.L=[⟨f,t,gw,gu,gx,0⟩]) (hl:a.lt=Pc.setF Pc.noneF p (some z)) (wi:(Lit.int .i64 a.id).wf=true) :
 Calls Tryz.prog 21 #[pp M.mb,.int .i64 a.id] W fun e w'=>e=.returned (.int .i64 11)/\Below W.heap.size W w':=by
 have ma:=List.mem_cons_self (a:=a) (l:=B)
 have lk:(Instr.lookup 41 (.map (some M.sm)) (.int .i64 a.id) false).run Tryz.prog W=.ok (.pointer (some ⟨a.sb,0,none⟩)) W:=by
  have q:=h.map.look wi
  rw [spF_head] at q;exact q
 have c6:W.cell? ⟨M.mb,6,none⟩=some (.map (some M.sm)):=h.mac.cell 6
 have c3:W.cell? ⟨a.sb,3,none⟩=some (.map (some a.lb)):=(h.sp a ma).blk.cell 3
 have KC:Hid (Calls Tryz.prog 63 #[.map (some a.lb)] W fun e w'=>e=.returned (.func (.func 115) #[] #[.pointer (some ⟨W.heap.size,0,none⟩)])/\w'=(W.alloc (.cells #[.map (some a.lb)] 110))):=keys_any (some a.lb) W
 have SC:Hid (Calls Tryz.prog 44 #[.func (.func 115) #[] #[.pointer (some ⟨W.heap.size,0,none⟩)]] (W.alloc (.cells #[.map (some a.lb)] 110)) fun e w'=> ∃ g o c:Nat,e=.returned (.slice (some ⟨g,o,none⟩) 1 c)/\g<w'.heap.size/\w'.cell? ⟨g,o,none⟩=some (.int .i64 p)/\Below W.heap.size W w'):=by
  refine (sorted_i (h.sp a ma).map hn).mono ?_
  rintro e w' ⟨v,L,he,hA,hM,ho,hb⟩
  obtain rfl:L=[(p:Int)]:=asc_one hA fun x=>by
   rw [hM x,hl]
   by_cases c:x=(p:Int)
   . rw [c,Pc.set_same];simp
   . rw [Pc.set_other _ _ _ _ c];simp [c,Pc.noneF]
  obtain ⟨g,o,c,e1,_,_,lg,cg⟩:=oi_one (w:=w') (base:=W.heap.size) (v:=v) (x:=(p:Int)) ho
  exact ⟨g,o,c,by rw [he,e1],lg,cg,hb⟩
 have BC:Hid (∀ w:World,Below W.heap.size W w->_):=fun w hb=>borrows_none (h.below hb) 0 34359738368 f t gw gu gx hL
 have NC:Hid (∀ (w:World) (g o c:Nat),Below W.heap.size W w->g<w.heap.size->w.cell? ⟨g,o,none⟩=some (.int .i64 p)->Calls Tryz.prog 61 #[pp a.sb,.slice (some ⟨g,o,none⟩) 1 c] w fun e w'=>e=.returned (.bool true)/\w'=w):=fun w g o c hb lg cg=>by
  have q:=lends_one (h.below hb) p z (by omega) (by omega) (by rw [hl];exact Pc.set_same _ _ _) g o c lg cg
  rw [decide_eq_true hz] at q;exact q
 clear h hL hl wi hz
 go_enter Tryz.func21,Tryz.ntmps21
 go_wp2_with fail
 refine Calls.mono KC.out ?_
 rintro e w1 ⟨rfl,hu⟩
 subst hu
 clear KC
 go_wp2_with fail
 refine Calls.mono SC.out ?_
 rintro e w2 ⟨g,og,cg,rfl,lg,cgp,hb2⟩
 have B2:Hid (Below W.heap.size W w2/\g<w2.heap.size/\w2.cell? ⟨g,og,none⟩=some (.int .i64 p)):=⟨hb2,lg,cgp⟩
 clear hb2 lg cgp SC
 go_wp2_with fail
 refine Calls.mono (BC.out _ B2.out.1) ?_
 rintro e w3 ⟨rfl,hb3⟩
 have B3:Hid (Below W.heap.size W w3/\g<w3.heap.size/\w3.cell? ⟨g,og,none⟩=some (.int .i64 p)):=⟨below_then B2.out.1 hb3,Nat.lt_of_lt_of_le B2.out.2.1 hb3.size,(hb3.cell (p:=⟨g,og,none⟩) B2.out.2.1).trans B2.out.2.2⟩
 clear hb3 B2 BC
 go_wp2_with fail
 refine Calls.mono (NC.out _ g og cg B3.out.1 B3.out.2.1 B3.out.2.2) ?_
 rintro e w4 ⟨rfl,hu⟩
 have hu2:=hu.symm
 subst hu2
 clear hu NC
 go_wp2_with fail
 go_returns
 exact ⟨rfl,B3.out.1⟩
end Go.Proofs.YtmabmknmnkhhbaaGreatDoor.Sp
namespace Go.Proofs.YtmabmknmnkhhbaaGreatDoor.Sp
open Go.ChangeShapes Go.WideShapes Go.ChangeAt Go.RowKit Go.Maps
open Go.Proofs.YtmabmknmnkhhbaaGreatDoor.Tt
set_option linter.unusedSimpArgs false
set_option linter.unusedVariables false
set_option maxRecDepth 8000
theorem MapP.del {w:World} {b n:Nat} {f:Int->Option Nat} (h:MapP w b n f) {k:Int} (hk:(Lit.int .i64 k).wf=true) (ty:TypeId) :
 ∃ w',(Builtin.delete_ #[41,3] ty #[.map (some b),.int .i64 k]).run Tryz.prog w=.ok (.tuple #[]) w'/\MapP w' b n (put f k none)/\w.grownBy w' (some b):=by
 obtain ⟨D,hown,hD⟩:=h
 obtain ⟨w',hrun,hown',ht⟩:=hown.drop keyLaw Tryz.underlying41 (keyOf_int_mk Tryz.underlying3 hk) ty
 refine ⟨w',hrun,⟨_,hown',?_⟩,ht.grown⟩
 intro j
 unfold put
 by_cases e:j=k
 . subst e
   rw [if_pos rfl]
   exact Maps.atKey_del_same _
 . have ne:(Lit.int .i64 j)≠ .int .i64 k:=by intro q;cases q;exact e rfl
   rw [if_neg e,Maps.atKey_del_other ne]
   exact hD j
end Go.Proofs.YtmabmknmnkhhbaaGreatDoor.Sp
namespace Go.Proofs.YtmabmknmnkhhbaaGreatDoor.Sp
open Go.ChangeShapes Go.WideShapes Go.ChangeAt Go.RowKit Go.Maps
open Go.Proofs.YtmabmknmnkhhbaaGreatDoor.Tt
set_option linter.unusedSimpArgs false
set_option linter.unusedVariables false
set_option maxRecDepth 8000
set_option maxHeartbeats 1000000 in
theorem lends_nil (sb:Nat) (pf:Option Addr) (cf:Nat) (W:World) :
 Calls Tryz.prog 61 #[pp sb,.slice pf 0 cf] W fun e w'=>e=.returned (.bool false)/\w'=W:=by
 go_enter Tryz.func61,Tryz.ntmps61
 go_wp2_with fail
 refine wp_loop_rounds 3 ?_
 rw [rounds_succ]
 go_wp2_with fail
 go_returns
 exact ⟨rfl,rfl⟩
set_option maxHeartbeats 1000000 in
theorem borrows_nil {Y:Nat->Prop} {O:Nat->Nat} {n:Nat} {W:World} {M:Mb} {m:Pm} {s:Ps} {T:Nat->Tl.Ln} {S:Pc.Tg} {a:Sr} {B:List Sr} (h:Mc Y O n W M m s T S (a::B)) (f t:Int) (hL:a.L=[]) :
 Calls Tryz.prog 60 #[pp a.sb,.agg #[.int .i64 f,.int .i64 t]] W fun e w'=>e=.returned (.bool false)/\Below W.heap.size W w':=by
 have ma:=List.mem_cons_self (a:=a) (l:=B)
 have bb:Below W.heap.size W (W.alloc (.cells #[.int .i64 f,.int .i64 t] 23)):=Go.Joins.below_alloc1 _ _
 have c2:(W.alloc (.cells #[.int .i64 f,.int .i64 t] 23)).cell? ⟨a.sb,2,none⟩=some (.slice a.rp 0 a.rc):=by
  have q:(W.alloc (.cells #[.int .i64 f,.int .i64 t] 23)).cell? ⟨a.sb,2,none⟩=some (.slice a.rp a.L.length a.rc):=((h.below bb).sp a ma).blk.cell 2
  rw [hL] at q;exact q
 have HB:Hid (Below W.heap.size W (W.alloc (.cells #[.int .i64 f,.int .i64 t] 23))):=bb
 clear h hL bb
 go_enter Tryz.func60,Tryz.ntmps60
 go_upto_region 1 with fail
 generalize (W.alloc (.cells #[.int .i64 f,.int .i64 t] 23))=W0 at *
 go_wp2_with fail
 refine wp_loop_rounds 3 ?_
 rw [rounds_succ]
 go_wp2_with fail
 go_returns
 exact ⟨rfl,HB.out⟩
set_option maxHeartbeats 1000000 in
theorem release_nil {Y:Nat->Prop} {O:Nat->Nat} {n:Nat} {W:World} {M:Mb} {m:Pm} {s:Ps} {T:Nat->Tl.Ln} {S:Pc.Tg} {a:Sr} {B:List Sr} (h:Mc Y O n W M m s T S (a::B)) (id:Int) (pf:Option Addr) (cf:Nat) :
 Calls Tryz.prog 62 #[pp M.mb,.int .i64 id,pp a.sb,.slice pf 0 cf] W fun e w'=>e=.returned (.tuple #[])/\Below W.heap.size W w':=by
 have PC:Hid _:=purse_any M.mb m.rb m.b m.tb a.k _ _ _ _ W h.mac
 have c0:W.cell? ⟨a.sb,0,none⟩=some (.int .i64 a.k):=(h.sp a (List.mem_cons_self ..)).blk.cell 0
 clear h
 go_enter Tryz.func62,Tryz.ntmps62
 go_wp2_with fail
 refine Calls.mono PC.out ?_
 rintro e w1 ⟨rfl,hb1⟩
 have HB:Hid (Below W.heap.size W (w1.alloc (.cells #[pp m.rb,pp m.b,pp m.tb,.int .i64 a.k] 99))):=below_then hb1 (Go.Joins.below_alloc1 _ _)
 clear hb1 PC c0
 go_upto_region 1 with fail
 generalize (w1.alloc (.cells #[pp m.rb,pp m.b,pp m.tb,.int .i64 a.k] 99))=w2 at HB |-
 go_wp2_with fail
 refine wp_loop_rounds 3 ?_
 rw [rounds_succ]
 go_wp2_with fail
 go_end0
 exact ⟨rfl,HB.out⟩
end Go.Proofs.YtmabmknmnkhhbaaGreatDoor.Sp
namespace Go.Proofs.YtmabmknmnkhhbaaGreatDoor.Sp
open Go.ChangeShapes Go.WideShapes Go.ChangeAt Go.RowKit Go.Maps
open Go.Proofs.YtmabmknmnkhhbaaGreatDoor.Tt
set_option linter.unusedSimpArgs false
set_option linter.unusedVariables false
set_option maxRecDepth 8000
def Released2 (Y:Nat->Prop) (O:Nat->Nat) (n:Nat) (W w':World) (M:Mb) (m:Pm) (s:Ps) (T:Nat->Tl.Ln) (S:Pc.Tg) (a:Sr) (B:List Sr) (p:Nat) (ro u:Int) (fr:Nat):Prop :=
 ∃ (s':Ps) (tab':Nat->Nat->Option Nat),Mc Y O n w' M m s' T S ({ a with tab:=tab',lf:=lfSet a.lf p none,lt:=Pc.setF a.lt p none }::B)/\Nums m s' a.k (ro+1+(tabsN (pgs a.lf):Int)-tabsN (pgs (lfSet a.lf p none))) (u-1-(tabsN (pgs a.lf):Int)+tabsN (pgs (lfSet a.lf p none))) (fr+1+tabsN (pgs a.lf)-tabsN (pgs (lfSet a.lf p none)))/\s'.q<=s.q+10/\Kx Y W w'
set_option maxHeartbeats 4000000 in
theorem release_two {Y:Nat->Prop} {O:Nat->Nat} {n:Nat} {W:World} {M:Mb} {m:Pm} {s:Ps} {T:Nat->Tl.Ln} {S:Pc.Tg} {a:Sr} {B:List Sr} (h:Mc Y O n W M m s T S (a::B)) (p:Nat) (hp:p<34359738368) {v:Lf} (hv:a.lf p=some v) (hB: ∀ b∈B,∀ x,b.lf x=none) (hall: ∀ x,lfSet a.lf p none x=none) {ro u:Int} {fr:Nat} (hN:Nums m s a.k ro u fr) (hu:1+(tabsN (pgs a.lf):Int)<=u) (htt:tabsN (pgs (lfSet a.lf p none))<=tabsN (pgs a.lf)) (hq:s.q<3000000000000000000) (wi:(Lit.int .i64 a.id).wf=true) (hT:S.T a.id=none) (g o c:Nat) (yg:Y g) (cg:W.cell? ⟨g,o,none⟩=some (.int .i64 p)) :
 Calls Tryz.prog 62 #[pp M.mb,.int .i64 a.id,pp a.sb,.slice (some ⟨g,o,none⟩) 1 c] W fun e w'=>e=.returned (.tuple #[])/\Released2 Y O n W w' M m s T S a B p ro u fr:=by
 have ma:=List.mem_cons_self (a:=a) (l:=B)
 obtain ⟨f,hvf,gf,nf,ntab⟩:=(h.dat a ma p v hv).2
 have HM:Hid (Mc Y O n W M m s T S (a::B)):=h
 have HH:Hid (p<34359738368/\a.lf p=some v/\(∀ x,lfSet a.lf p none x=none)/\Nums m s a.k ro u fr/\1+(tabsN (pgs a.lf):Int)<=u/\tabsN (pgs (lfSet a.lf p none))<=tabsN (pgs a.lf)/\s.q<3000000000000000000):=⟨hp,hv,hall,hN,hu,htt,hq⟩
 have HF:Hid (v.f=(f:Nat)/\s.G f=some 0/\ ¬ s.Fr f/\(∀ l x,a.tab l x≠some f)/\Y g/\f<1000000):=⟨hvf,gf,nf,ntab a ma,yg,by have:=h.pu.so.gb f (by rw [gf];rfl);omega⟩
 have HT:Hid ((∀ b∈a::B,∀ l x,b.tab l x≠some f)/\ ∀ b∈B,∀ x,b.lf x=none):=⟨ntab,hB⟩
 have PC:Hid _:=purse_any M.mb m.rb m.b m.tb a.k _ _ _ _ W h.mac
 have FC:Hid (∀ (w:World) (n':Nat) (s':Ps) (x:Sr),Mc Y O n' w M m s' T S (x::B)->Calls Tryz.prog 70 #[pp M.mb,.int .i64 a.id,.int .i64 p] w fun e w'=>e=.returned (.tuple #[])/\Below w.heap.size w w'):=fun w n' s' x hx=>forget_none hx a.id p wi hT
 have c0:W.cell? ⟨a.sb,0,none⟩=some (.int .i64 a.k):=(h.sp a ma).blk.cell 0
 have CG:Hid (W.cell? ⟨g,o,none⟩=some (.int .i64 p)):=cg
 clear h hB hp hv hall hN hu htt hq wi hT yg cg hvf gf nf ntab
 go_enter Tryz.func62,Tryz.ntmps62
 go_wp2_with fail
 refine Calls.mono PC.out ?_
 rintro e w1 ⟨rfl,hb1⟩
 have HB1:Hid (Below W.heap.size W w1):=hb1
 clear hb1 PC c0
 have G2:Hid (Below w1.heap.size w1 (w1.alloc (.cells #[pp m.rb,pp m.b,pp m.tb,.int .i64 a.k] 99))/\Blk (w1.alloc (.cells #[pp m.rb,pp m.b,pp m.tb,.int .i64 a.k] 99)) w1.heap.size [pp m.rb,pp m.b,pp m.tb,.int .i64 a.k] 99):=⟨Go.Joins.below_alloc1 _ _,Blk.made _ _ _⟩
 go_upto_region 1 with fail
 generalize (w1.alloc (.cells #[pp m.rb,pp m.b,pp m.tb,.int .i64 a.k] 99))=w2 at G2 |-
 obtain ⟨r,hr⟩: ∃ r,r=w1.heap.size:=⟨_,rfl⟩
 have M2:Hid (Mc (fun j=>Y j\/(w1.heap.size<=j/\j<w2.heap.size)) O n w2 M m s T S (a::B)):=(HM.out.below HB1.out).grow G2.out.1
 have RR:Hid ((Y r\/(w1.heap.size<=r/\r<w2.heap.size))/\O a.sb≠0):=⟨Or.inr ⟨by omega,by have:=G2.out.2.lt;omega⟩,by rw [(M2.out.sp a ma).o1];omega⟩
 have BS:Hid (Blk w2 r [pp m.rb,pp m.b,pp m.tb,.int .i64 a.k] 99/\Blk w2 a.sb [.int .i64 a.k,.int .i64 a.root,.slice a.rp a.L.length a.rc,.map (some a.lb)] 131):=⟨by rw [hr];exact G2.out.2,(M2.out.sp a ma).blk⟩
 rw [<- hr]
 clear hr
 have cgp:w2.cell? ⟨g,o,none⟩=some (.int .i64 p):=by
  have lg:=HM.out.pu.lt g (Or.inl HF.out.2.2.2.2.1)
  rw [(below_then HB1.out G2.out.1).cell (p:=⟨g,o,none⟩) lg];exact CG.out
 obtain ⟨tb,htb⟩: ∃ tb:Nat,tb=tabsN (pgs a.lf):=⟨_,rfl⟩
 obtain ⟨R,hR⟩: ∃ R:Int,R=ro+(tb:Int):=⟨_,rfl⟩
 obtain ⟨UU,hU⟩: ∃ UU:Int,UU=u-(tb:Int):=⟨_,rfl⟩
 obtain ⟨F,hFF⟩: ∃ F:Nat,F=fr+tb:=⟨_,rfl⟩
 have KC:Hid (∀ w:World,Below w2.heap.size w2 w->Calls Tryz.prog 69 #[pv m a.k,.int .i64 a.root,.int .i64 p] w fun e w'=>e=.returned (.tuple #[.int .i64 f,.int .i64 0])/\StTo (fun j=>(Y j\/(w1.heap.size<=j/\j<w2.heap.size))\/O j≠0) m a.root a.k R UU F s a.tab (lfSet a.lf p none) w w'):=fun w hb=>by
  obtain ⟨h1,h2,h3,h4,h5,h6,h7⟩:=HH.out
  have st:St (fun j=>(Y j\/(w1.heap.size<=j/\j<w2.heap.size))\/O j≠0) m a.root a.k R UU F s a.tab a.lf w:=⟨M2.out.pu.below hb,M2.out.rt a ma,by
   rw [<- htb,show R-(tb:Int)=ro by omega,show UU+(tb:Int)=u by omega,show F-tb=fr by omega];exact h4,by rw [<- htb];omega⟩
  have q:=st.unmap_ok (by omega) (by omega) p h2
  rw [HF.out.1] at q
  exact q
 go_wp2_with fail
 refine wp_loop_rounds 3 ?_
 rw [rounds_succ]
 go_upto_region 4 with fail
 clear cgp
 refine wp_region_noPanic ?_
 refine wp_region_held_drew (S:=fun cw=>Blk cw r [pp m.rb,pp m.b,pp m.tb,.int .i64 a.k] 99/\Blk cw a.sb [.int .i64 a.k,.int .i64 a.root,.slice a.rp a.L.length a.rc,.map (some a.lb)] 131) (by kernel_rfl) ?_ (fun hHeld=> ?_)
 . exact BS.out
 have KU:Hid (Below w2.heap.size w2 w2.drew):=below_drew (Below.refl _ _)
 clear BS
 generalize w2.drew=U at hHeld KU |-
 refine tk 0 26 (.agg #[pp m.rb,pp m.b,pp m.tb,.int .i64 a.k]) rfl (Or.inl ⟨by rfl,?_⟩) ?_
 . intro w hSw;(try dsimp only at hSw);have r0:=Blk.cell hSw.1 0;have r1:=Blk.cell hSw.1 1;have r2:=Blk.cell hSw.1 2;have r3:=Blk.cell hSw.1 3;(try go_simp);(try simp [*])
 try simp only [Act.put,z1,z2,z3]
 refine tk 1 27 ?_ rfl (Or.inl ⟨by rfl,?_⟩) ?_
 rotate_left
 . intro w hSw;(try dsimp only at hSw);go_simp;(try with_reducible rfl)
 try simp only [Act.put,z1,z2,z3]
 refine tk 2 28 ?_ rfl (Or.inl ⟨by rfl,?_⟩) ?_
 rotate_left
 . intro w hSw;(try dsimp only at hSw);go_simp;(try with_reducible rfl)
 try simp only [Act.put,z1,z2,z3]
 refine tk 3 29 ?_ rfl (Or.inl ⟨by rfl,?_⟩) ?_
 rotate_left
 . intro w hSw;(try dsimp only at hSw);go_simp;(try with_reducible rfl)
 try simp only [Act.put,z1,z2,z3]
 refine tk 4 30 (.int .i64 a.root) rfl (Or.inl ⟨by rfl,?_⟩) ?_
 . intro w hSw;(try dsimp only at hSw);have r:=Blk.cell hSw.2 1;(try go_simp);(try simp [*])
 try simp only [Act.put,z1,z2,z3]
 refine tk 5 31 ?_ rfl (Or.inl ⟨by rfl,?_⟩) ?_
 rotate_left
 . intro w hSw;(try dsimp only at hSw);go_simp;(try with_reducible rfl)
 try simp only [Act.put,z1,z2,z3]
 refine wpAnyH_ready (rs:=[6]) (by kernel_rfl) (by simp) ?_
 refine AllReadyH.cons (o:=⟨some 32,_,_,_,_,none⟩) rfl (fun K hK=> ?_) AllReadyH.nil
 go_simp
 go_wp2_with (go_at_call 69;refine Calls.mono (KC.out _ KU.out) ?_;rintro e u2 ⟨rfl,s2,tab2,hS,hq2,hA,hKx⟩)
 have E2:Hid (St (fun j=>(Y j\/(w1.heap.size<=j/\j<w2.heap.size))\/O j≠0) m a.root a.k R UU F s2 tab2 (lfSet a.lf p none) u2/\s2.q<=s.q+10/\Apt s s2 a.tab tab2/\Kx (fun j=>(Y j\/(w1.heap.size<=j/\j<w2.heap.size))\/O j≠0) w2 u2/\Blk u2 r [pp m.rb,pp m.b,pp m.tb,.int .i64 a.k] 99):=⟨hS,hq2,hA,(kept_of_below KU.out (fun j hj=>M2.out.pu.lt j hj)).trans hKx,hHeld.1.kx hKx (Or.inl RR.out.1)⟩
 refine hK.out _ _ ⟨hHeld.1.kx hKx (Or.inl RR.out.1),hHeld.2.kx hKx (Or.inr RR.out.2)⟩ (fun hHeld2=> ?_)
 clear hK K hHeld hS hq2 hA hKx KU
 have hHeld:=hHeld2
 clear hHeld2
 try simp only [Act.put,z1,z2,z3]
 refine tk 7 25 ?_ rfl (Or.inl ⟨by rfl,?_⟩) ?_
 rotate_left
 . intro w hSw;(try dsimp only at hSw);go_simp;(try with_reducible rfl)
 try simp only [Act.put,z1,z2,z3]
 refine tk 8 33 ?_ rfl (Or.inl ⟨by rfl,?_⟩) ?_
 rotate_left
 . intro w hSw;(try dsimp only at hSw);go_simp;(try with_reducible rfl)
 try simp only [Act.put,z1,z2,z3]
 refine tk 9 34 ?_ rfl (Or.inl ⟨by rfl,?_⟩) ?_
 rotate_left
 . intro w hSw;(try dsimp only at hSw);go_simp;(try with_reducible rfl)
 try simp only [Act.put,z1,z2,z3]
 refine tk 10 11 ?_ rfl (Or.inl ⟨by rfl,?_⟩) ?_
 rotate_left
 . intro w hSw;(try dsimp only at hSw);go_simp;(try with_reducible rfl)
 try simp only [Act.put,z1,z2,z3]
 refine tk 11 12 ?_ rfl (Or.inl ⟨by rfl,?_⟩) ?_
 rotate_left
 . intro w hSw;(try dsimp only at hSw);go_simp;(try with_reducible rfl)
 try simp only [Act.put,z1,z2,z3]
 clear hHeld
 refine wpAnyH_done (by kernel_rfl) ?_ _
 refine NoPanic.normal ?_
 obtain ⟨t2,ht2⟩: ∃ t2:Nat,t2=tabsN (pgs (lfSet a.lf p none)):=⟨_,rfl⟩
 have M3:Hid (Mc (fun j=>Y j\/(w1.heap.size<=j/\j<w2.heap.size)) O n u2 M m s2 T S ({ a with tab:=tab2,lf:=lfSet a.lf p none }::B)/\Nums m s2 a.k (R-t2) (UU+t2) (F-t2)/\s2.G f=some 0/\ ¬ s2.Fr f/\(∀ l x,tab2 l x≠some f)/\s2.q<=s.q+10/\Kx Y W u2):=by
  obtain ⟨hS,hq2,hA,hK2,_⟩:=E2.out
  obtain ⟨e1,e2,e3,e4,_⟩:=HF.out
  obtain ⟨g1,g2,_⟩:=hA.oth f e4 e3
  refine ⟨M2.out.tabs hK2 hS.pu hS.rt hA (fun p' v e=>by rw [HH.out.2.2.1] at e;cases e),by rw [ht2];exact hS.nm,by rw [g1];exact e2,g2,fun l x e=> ?_,hq2,?_⟩
  . rcases hA.new l x f e with q | q
    . exact e4 l x q
    . exact e3 q
  . exact Kept.trans (kept_of_below HB1.out (fun j hj=>HM.out.pu.lt j (Or.inl hj))) (Kept.trans (kept_of_below G2.out.1 (fun j hj=>(HM.out.below HB1.out).pu.lt j (Or.inl hj))) (hK2.sub (fun j hj=>Or.inl (Or.inl hj))))
 have GC:Hid (Calls Tryz.prog 111 #[pv m a.k,.int .i64 f] u2 fun e w'=>e=.returned (.tuple #[])/\Pu (fun j=>(Y j\/(w1.heap.size<=j/\j<w2.heap.size))\/O j≠0) w' m (giveS s2 a.k f)/\Kx (fun j=>(Y j\/(w1.heap.size<=j/\j<w2.heap.size))\/O j≠0) u2 w'):=by
  obtain ⟨q1,q2,q3,q4,_⟩:=M3.out
  have h5:=HH.out.2.2.2.2.1
  exact give_any q1.pu a.k f q2.k6 q2.live (by rw [q2.used];omega) q3 q4
 have BR:=E2.out.2.2.2.2
 have r0:u2.cell? ⟨r,0,none⟩=some (pp m.rb):=BR.cell 0
 have r1:u2.cell? ⟨r,1,none⟩=some (pp m.b):=BR.cell 1
 have r2:u2.cell? ⟨r,2,none⟩=some (pp m.tb):=BR.cell 2
 have r3:u2.cell? ⟨r,3,none⟩=some (.int .i64 a.k):=BR.cell 3
 clear BR KC E2
 go_wp2_with fail
 refine Calls.mono GC.out ?_
 rintro e u3 ⟨rfl,hp3,hk3⟩
 have M4:Hid (Mc (fun j=>Y j\/(w1.heap.size<=j/\j<w2.heap.size)) O n u3 M m (giveS s2 a.k f) T S ({ a with tab:=tab2,lf:=lfSet a.lf p none }::B)/\Nums m (giveS s2 a.k f) a.k (R-t2+1) (UU+t2-1) (F-t2+1)/\Kx Y W u3):=by
  obtain ⟨q1,q2,q3,q4,q5,q6,q7⟩:=M3.out
  refine ⟨q1.next hk3 hp3 (fun x hx=> ?_) (fun x hx p' v e=> ?_),q2.give HF.out.2.2.2.2.2 q4 s2.M s2.q,q7.trans (hk3.sub (fun j hj=>Or.inl (Or.inl hj)))⟩
  . have rx:=q1.rt x hx
    rcases List.mem_cons.1 hx with rfl | hx
    . exact rt_give rx q5
    . exact rt_give rx (HT.out.1 x (List.mem_cons_of_mem _ hx))
  . rcases List.mem_cons.1 hx with rfl | hx
    . have e:lfSet a.lf p none p'=some v:=e
      rw [HH.out.2.2.1] at e;cases e
    . rw [HT.out.2 x hx] at e;cases e
 clear hp3 hk3 GC r0 r1 r2 r3
 obtain ⟨cm,hcm⟩:=(M4.out.1.sp _ (List.mem_cons_self ..)).map
 obtain ⟨u4,hdel,hm4,hg4⟩:=hcm.del (k:=(p:Int)) (wf64 (by omega) (by have:=HH.out.1;omega)) 0
 have hdel:(Builtin.delete_ #[110,3] 0 #[.map (some a.lb),.int .i64 p]).run Tryz.prog u3=.ok (.tuple #[]) u4:=hdel
 have M5:Hid (Mc Y O n u4 M m (giveS s2 a.k f) T S ({ a with tab:=tab2,lf:=lfSet a.lf p none,lt:=Pc.setF a.lt p none }::B)/\Kx Y W u4):=by
  obtain ⟨q1,q2⟩:=M4.out.1.lent hg4 hm4
  exact ⟨q1.less (fun j hj=>Or.inl hj) HM.out.y0,M4.out.2.2.trans (q2.sub (fun j hj=>Or.inl hj))⟩
 have c3:u3.cell? ⟨a.sb,3,none⟩=some (.map (some a.lb)):=(M4.out.1.sp _ (List.mem_cons_self ..)).blk.cell 3
 clear hcm hm4 hg4
 go_wp2_with fail
 refine Calls.mono (FC.out _ _ _ _ M5.out.1) ?_
 rintro e u5 ⟨rfl,hb5⟩
 have HE:Hid (Released2 Y O n W u5 M m s T S a B p ro u fr):=by
  obtain ⟨q1,q2⟩:=M5.out
  obtain ⟨_,n2,_⟩:=M4.out
  have h6:=HH.out.2.2.2.2.2.1
  refine ⟨giveS s2 a.k f,tab2,q1.below hb5,?_,M3.out.2.2.2.2.2.1,q2.trans (kept_of_below hb5 (fun j hj=>q1.pu.lt j (Or.inl hj)))⟩
  rw [<- ht2,<- htb,show ro+1+(tb:Int)-t2=R-t2+1 by omega,show u-1-(tb:Int)+t2=UU+t2-1 by omega,show fr+1+tb-t2=F-t2+1 by omega]
  exact n2
 clear hb5 c3 M5 M4 M3 FC htb hR hU hFF ht2 RR
 go_wp2_with fail
 rw [rounds_succ]
 go_wp2_with fail
 go_end0
 exact ⟨rfl,HE.out⟩
theorem Mc.closed {Y:Nat->Prop} {O:Nat->Nat} {n:Nat} {W:World} {M:Mb} {m:Pm} {s:Ps} {T:Nat->Tl.Ln} {S:Pc.Tg} {a:Sr} {B:List Sr} {W1 W2:World} {k:Nat} (h:Mc Y O n W M m s T S (a::B)) (hk:Kx (fun j=>Y j\/O j≠0) W W1) (hp:Pu (fun j=>Y j\/O j≠0) W1 m (giveS s k a.root)) (hg:W1.grownBy W2 (some M.sm)) (hm:MapP W2 M.sm n (put (spF (a::B)) a.id none)):Mc Y O n W2 M m (giveS s k a.root) T S B/\Kx Y W W2:=by
 have ma:=List.mem_cons_self (a:=a) (l:=B)
 have t4:=(h.rt a ma).pw.t4
 have ym: ∀ j,Y j->j≠M.sm:=fun j hj e=>by have:=h.yo j hj;rw [e,h.o4] at this;omega
 have l1: ∀ j,O j≠0->j<W1.heap.size:=fun j hj=>hp.lt j (Or.inr hj)
 have lm: ∀ b,O b≠0->O b≠4->W2.heap[b]? =W.heap[b]? :=fun b hO c=>(hg.block b (l1 b hO) (fun e=>c (by rw [Option.some.inj e];exact h.o4))).trans (hk.block b (Or.inr hO))
 have sz:W.heap.size<=W2.heap.size:=Nat.le_trans hk.size hg.size
 have ni:=List.nodup_cons.1 h.ni
 have nj:=List.nodup_cons.1 h.nj
 have es:put (spF (a::B)) a.id none=spF B:=by
  funext i
  unfold put
  by_cases e:i=a.id
  . rw [if_pos e,e]
    exact (spF_none fun b hb q=>ni.1 (List.mem_map.2 ⟨b,hb,q⟩)).symm
  . rw [if_neg e]
    show (if i=a.id then _ else _)=_
    rw [if_neg e]
 rw [es] at hm
 have nt: ∀ b∈B,∀ l x,b.tab l x≠some a.root:=fun b hb l x=>h.dj a ma b (List.mem_cons_of_mem _ hb) (fun e=>h.other b hb e.symm) 4 0 l x a.root t4
 refine ⟨⟨hp.poke (Or.inr (by rw [h.o4];omega)) (fun e=>ym 0 h.y0 e.symm) hg,h.y0,h.yo,(lm _ (by rw [h.o1];omega) (by rw [h.o1];omega)).trans h.mac,tlb_block h.tlb sz (lm _ (by rw [h.o2];omega) (by rw [h.o2];omega)),h.tgs.kept fun b _ hb=> ?_,hm,h.o1,h.o2,h.o3,h.o4,fun b hb=>(h.sp b (List.mem_cons_of_mem _ hb)).keep sz fun d hl b1 b2=>⟨lm d (by omega) (by omega),rfl⟩,fun b hb=>rt_give (h.rt b (List.mem_cons_of_mem _ hb)) (nt b hb),ni.2,nj.2,fun x hx y hy=>h.dj x (List.mem_cons_of_mem _ hx) y (List.mem_cons_of_mem _ hy),fun b hb p v e=> ?_,h.kf⟩,(hk.sub (fun j hj=>Or.inl hj)).trans (kept_one hg fun j hj=>⟨ym j hj,hp.lt j (Or.inl hj)⟩)⟩
 . have o:O b=3:=by rcases hb with rfl | rfl | rfl;exact h.o3.1;exact h.o3.2.1;exact h.o3.2.2
   exact lm b (by omega) (by omega)
 . obtain ⟨d1,f,d2,d3,d4,d5⟩:=h.dat b (List.mem_cons_of_mem _ hb) p v e
   have ne:f≠a.root:=fun q=>d5 a ma _ _ (by rw [q];exact t4)
   refine ⟨d1,f,d2,?_,fun q=> ?_,fun x hx=>d5 x (List.mem_cons_of_mem _ hx)⟩
   . show Bd.setF s.G a.root none f=some 0
     unfold Bd.setF
     rw [if_neg (by omega)];exact d3
   . rcases q with q | q
     . exact d4 q
     . exact ne q
end Go.Proofs.YtmabmknmnkhhbaaGreatDoor.Sp
namespace Go.Proofs.YtmabmknmnkhhbaaGreatDoor.Sp
open Go.ChangeShapes Go.WideShapes Go.ChangeAt Go.RowKit Go.Maps Go.Sort Go.Shelf
open Go.Proofs.YtmabmknmnkhhbaaGreatDoor.Tt
set_option linter.unusedSimpArgs false
set_option linter.unusedVariables false
set_option maxRecDepth 8000
set_option maxHeartbeats 1000000 in
theorem tdrop_none (tb mb ob n:Nat) (S:Pc.Tg) (s:Int) (hs:(Lit.int .i64 s).wf=true) (hT:S.T s=none) (w:World) (h:Pc.IsTags w tb mb ob n S) :
 Calls Tryz.prog 67 #[pp tb,.int .i64 s] w fun e w'=>e=.returned (.tuple #[])/\w'=w:=by
 have c3:w.cell? ⟨tb,3,none⟩=some (.map (some mb)):=h.cell 3
 obtain ⟨m,hm⟩:=h.tags
 have hl:=hm.look hs
 rw [hT] at hl
 have hl:(Instr.lookup 110 (.map (some mb)) (.int .i64 s) true).run Tryz.prog w=.ok (.tuple #[.int .i64 0,.bool false]) w:=hl
 clear h hm
 go_enter Tryz.func67,Tryz.ntmps67
 go_wp2_with fail
 go_end0
 exact ⟨rfl,rfl⟩
theorem pgs_all {lf:Nat->Option Lf} (h: ∀ x,lf x=none):pgs lf=[]:=by
 have e:lf=fun _=>none:=funext h
 rw [e];exact pgs_none
def Closed (Y:Nat->Prop) (O:Nat->Nat) (n:Nat) (W w':World) (M:Mb) (m:Pm) (s:Ps) (T:Nat->Tl.Ln) (S:Pc.Tg) (k:Nat) (B:List Sr) (r u:Int) (f:Nat):Prop :=
 ∃ s':Ps,Mc Y O n w' M m s' T S B/\Nums m s' k r u f/\s'.q<=s.q+10/\Kx Y W w'
set_option maxHeartbeats 4000000 in
theorem close_one {Y:Nat->Prop} {O:Nat->Nat} {n:Nat} {W:World} {M:Mb} {m:Pm} {s:Ps} {T:Nat->Tl.Ln} {S:Pc.Tg} {a:Sr} {B:List Sr} (h:Mc Y O n W M m s T S (a::B)) (hn:a.ln<=1048600) (f t:Int) (p:Nat) (p1:p<34359738368) (gw gu gx:Bool) (hL:a.L=[⟨f,t,gw,gu,gx,0⟩]) (hl:a.lt=Pc.setF Pc.noneF p (some 0)) {v:Lf} (hv:a.lf p=some v) (hB: ∀ b∈B,∀ x,b.lf x=none) (hall: ∀ x,lfSet a.lf p none x=none) {ro u:Int} {fr:Nat} (hN:Nums m s a.k ro u fr) (hu:1+(tabsN (pgs a.lf):Int)<=u) (htt:1<=tabsN (pgs a.lf)) (hq:s.q<3000000000000000000) (wi:(Lit.int .i64 a.id).wf=true) (hT:S.T a.id=none) :
 Calls Tryz.prog 21 #[pp M.mb,.int .i64 a.id] W fun e w'=>e=.returned (.int .i64 0)/\Closed Y O n W w' M m s T S a.k B (ro+(tabsN (pgs a.lf):Int)+1) (u-(tabsN (pgs a.lf):Int)-1) (fr+tabsN (pgs a.lf)+1):=by
 have e1:tabsN (pgs (lfSet a.lf p none))=1:=by rw [pgs_all hall];rfl
 have ma:=List.mem_cons_self (a:=a) (l:=B)
 have lk:(Instr.lookup 41 (.map (some M.sm)) (.int .i64 a.id) false).run Tryz.prog W=.ok (.pointer (some ⟨a.sb,0,none⟩)) W:=by
  have q:=h.map.look wi
  rw [spF_head] at q;exact q
 have c6:W.cell? ⟨M.mb,6,none⟩=some (.map (some M.sm)):=h.mac.cell 6
 have c3:W.cell? ⟨a.sb,3,none⟩=some (.map (some a.lb)):=(h.sp a ma).blk.cell 3
 have KC:Hid (Calls Tryz.prog 63 #[.map (some a.lb)] W fun e w'=>e=.returned (.func (.func 115) #[] #[.pointer (some ⟨W.heap.size,0,none⟩)])/\w'=(W.alloc (.cells #[.map (some a.lb)] 110))):=keys_any (some a.lb) W
 have PC:Hid (∀ w:World,Blk w M.mb [pp m.rb,pp m.b,pp m.tb,pp M.tl,pp M.tg,.int .i64 M.kf,.map (some M.sm)] 43->_):=fun w hb=>purse_any M.mb m.rb m.b m.tb a.k _ _ _ _ w hb
 have TC:Hid (∀ w:World,Pc.IsTags w M.tg M.tm M.ow n S->Calls Tryz.prog 65 #[pp M.tg,.int .i64 a.id] w fun e w'=>e=.returned (.tuple #[.int .i64 0,.bool false])/\w'=w):=fun w hw=>by
  have q:=Pc.tag_any M.tg M.tm M.ow n S a.id wi w hw
  rw [hT] at q;exact q
 have TD:Hid (∀ w:World,Pc.IsTags w M.tg M.tm M.ow n S->_):=fun w hw=>tdrop_none M.tg M.tm M.ow n S a.id wi hT w hw
 have SC:Hid (Calls Tryz.prog 44 #[.func (.func 115) #[] #[.pointer (some ⟨W.heap.size,0,none⟩)]] (W.alloc (.cells #[.map (some a.lb)] 110)) fun e w'=> ∃ g o c:Nat,e=.returned (.slice (some ⟨g,o,none⟩) 1 c)/\W.heap.size<=g/\g<w'.heap.size/\w'.cell? ⟨g,o,none⟩=some (.int .i64 p)/\Below W.heap.size W w'):=by
  refine (sorted_i (h.sp a ma).map hn).mono ?_
  rintro e w' ⟨v,L,he,hA,hM,ho,hb⟩
  obtain rfl:L=[(p:Int)]:=asc_one hA fun x=>by
   rw [hM x,hl]
   by_cases c:x=(p:Int)
   . rw [c,Pc.set_same];simp
   . rw [Pc.set_other _ _ _ _ c];simp [c,Pc.noneF]
  obtain ⟨g,o,c,e1,_,l0,lg,cg⟩:=oi_one (w:=w') (base:=W.heap.size) (v:=v) (x:=(p:Int)) ho
  exact ⟨g,o,c,by rw [he,e1],l0,lg,cg,hb⟩
 have BC:Hid (∀ w:World,Below W.heap.size W w->_):=fun w hb=>borrows_none (h.below hb) 0 34359738368 f t gw gu gx hL
 have NC:Hid (∀ (w:World) (g o c:Nat),Below W.heap.size W w->g<w.heap.size->w.cell? ⟨g,o,none⟩=some (.int .i64 p)->Calls Tryz.prog 61 #[pp a.sb,.slice (some ⟨g,o,none⟩) 1 c] w fun e w'=>e=.returned (.bool false)/\w'=w):=fun w g o c hb lg cg=>by
  have q:=lends_one (h.below hb) p 0 (by omega) (by omega) (by rw [hl];exact Pc.set_same _ _ _) g o c lg cg
  exact q
 have RC:Hid (∀ (Y':Nat->Prop) (w:World) (g o c:Nat),Mc Y' O n w M m s T S (a::B)->Y' g->w.cell? ⟨g,o,none⟩=some (.int .i64 p)->_):=fun Y' w g o c hw yg cg=>release_two hw p p1 hv hB hall hN hu (by rw [e1];exact htt) hq wi hT g o c yg cg
 have HM:Hid (Mc Y O n W M m s T S (a::B)):=h
 have WI:Hid ((Lit.int .i64 a.id).wf=true):=wi
 have HA:Hid ((∀ x,lfSet a.lf p none x=none)/\tabsN (pgs (lfSet a.lf p none))=1/\1+(tabsN (pgs a.lf):Int)<=u/\1<=tabsN (pgs a.lf)):=⟨hall,e1,hu,htt⟩
 clear h hL hl hv hB hall hN hu htt hq wi hT e1
 go_enter Tryz.func21,Tryz.ntmps21
 go_wp2_with fail
 refine Calls.mono KC.out ?_
 rintro e w1 ⟨rfl,hu⟩
 subst hu
 clear KC
 go_wp2_with fail
 refine Calls.mono SC.out ?_
 rintro e w2 ⟨g,og,cg,rfl,l0,lg,cgp,hb2⟩
 have B2:Hid (Below W.heap.size W w2/\W.heap.size<=g/\g<w2.heap.size/\w2.cell? ⟨g,og,none⟩=some (.int .i64 p)):=⟨hb2,l0,lg,cgp⟩
 clear hb2 l0 lg cgp SC lk c6 c3
 go_wp2_with fail
 refine Calls.mono (BC.out _ B2.out.1) ?_
 rintro e w4 ⟨rfl,hb3⟩
 have B3:Hid (Below W.heap.size W w4/\W.heap.size<=g/\g<w4.heap.size/\w4.cell? ⟨g,og,none⟩=some (.int .i64 p)):=⟨below_then B2.out.1 hb3,B2.out.2.1,Nat.lt_of_lt_of_le B2.out.2.2.1 hb3.size,(hb3.cell (p:=⟨g,og,none⟩) B2.out.2.2.1).trans B2.out.2.2.2⟩
 clear hb3 B2 BC
 go_wp2_with fail
 refine Calls.mono (NC.out _ g og cg B3.out.1 B3.out.2.2.1 B3.out.2.2.2) ?_
 rintro e w4' ⟨rfl,hu⟩
 have hu2:=hu.symm
 subst hu2
 clear hu NC
 have M3:Hid (Mc (fun j=>Y j\/(W.heap.size<=j/\j<w4.heap.size)) O n w4 M m s T S (a::B)):=HM.out.grow B3.out.1
 go_wp2_with fail
 refine Calls.mono (RC.out _ _ g og cg M3.out (Or.inr ⟨B3.out.2.1,B3.out.2.2.1⟩) B3.out.2.2.2) ?_
 rintro e w5 ⟨rfl,s5,tab5,hM5,hN5,hq5,hK5⟩
 have M5:Hid (Mc (fun j=>Y j\/(W.heap.size<=j/\j<w4.heap.size)) O n w5 M m s5 T S ({ a with tab:=tab5,lf:=lfSet a.lf p none,lt:=Pc.setF a.lt p none }::B)/\Nums m s5 a.k (ro+(tabsN (pgs a.lf):Int)) (u-(tabsN (pgs a.lf):Int)) (fr+tabsN (pgs a.lf))/\(∀ x,lfSet a.lf p none x=none)/\1<=u-(tabsN (pgs a.lf):Int)/\Kx Y W w5/\s5.q<=s.q+10):=by
  obtain ⟨a1,a2,a3,a4⟩:=HA.out
  rw [a2] at hN5
  rw [show ro+1+(tabsN (pgs a.lf):Int)-((1:Nat):Int)=ro+(tabsN (pgs a.lf):Int) by omega,show u-1-(tabsN (pgs a.lf):Int)+((1:Nat):Int)=u-(tabsN (pgs a.lf):Int) by omega,show fr+1+tabsN (pgs a.lf)-1=fr+tabsN (pgs a.lf) by omega] at hN5
  exact ⟨hM5,hN5,a1,by omega,Kept.trans (kept_of_below B3.out.1 (fun j hj=>HM.out.pu.lt j (Or.inl hj))) (hK5.sub (fun j hj=>Or.inl hj)),hq5⟩
 clear hM5 hN5 hq5 hK5 RC M3 B3 HA
 have DC:Hid (∀ w:World,Below w5.heap.size w5 w->Calls Tryz.prog 64 #[pv m a.k,.int .i64 a.root] w fun e w'=>e=.returned (.int .i64 0)/\Pu (fun j=>(Y j\/(W.heap.size<=j/\j<w4.heap.size))\/O j≠0) w' m (giveS s5 a.k a.root)/\Kx (fun j=>(Y j\/(W.heap.size<=j/\j<w4.heap.size))\/O j≠0) w w'):=fun w hb=>by
  obtain ⟨q1,q2,q3,q4,q5⟩:=M5.out
  exact drop_ok (q1.pu.below hb) (q1.rt _ (List.mem_cons_self ..)) a.k (pgs_all q3) q2.k6 q2.live (by rw [q2.used];exact q4)
 have BS:Hid (Blk w5 M.mb [pp m.rb,pp m.b,pp m.tb,pp M.tl,pp M.tg,.int .i64 M.kf,.map (some M.sm)] 43/\Blk w5 a.sb [.int .i64 a.k,.int .i64 a.root,.slice a.rp a.L.length a.rc,.map (some a.lb)] 131):=⟨M5.out.1.mac,(M5.out.1.sp _ (List.mem_cons_self ..)).blk⟩
 have RR:Hid (O M.mb≠0/\O a.sb≠0):=⟨by rw [HM.out.o1];omega,by rw [(HM.out.sp a ma).o1];omega⟩
 go_upto_region 8 with fail
 refine wp_region_noPanic ?_
 refine wp_region_held_drew (S:=fun cw=>Blk cw M.mb [pp m.rb,pp m.b,pp m.tb,pp M.tl,pp M.tg,.int .i64 M.kf,.map (some M.sm)] 43/\Blk cw a.sb [.int .i64 a.k,.int .i64 a.root,.slice a.rp a.L.length a.rc,.map (some a.lb)] 131) (by kernel_rfl) ?_ (fun hHeld=> ?_)
 . exact BS.out
 have KU:Hid (Below w5.heap.size w5 w5.drew):=below_drew (Below.refl _ _)
 clear BS
 generalize w5.drew=U at hHeld KU |-
 refine tk 0 36 ?_ rfl (Or.inl ⟨by rfl,?_⟩) ?_
 rotate_left
 . intro w hSw;(try dsimp only at hSw);go_simp;(try with_reducible rfl)
 try simp only [Act.put,z1,z2,z3]
 refine tk 1 37 ?_ rfl (Or.inl ⟨by rfl,?_⟩) ?_
 rotate_left
 . intro w hSw;(try dsimp only at hSw);go_simp;(try with_reducible rfl)
 try simp only [Act.put,z1,z2,z3]
 refine tk 2 38 ?_ rfl (Or.inl ⟨by rfl,?_⟩) ?_
 rotate_left
 . intro w hSw;(try dsimp only at hSw);go_simp;(try with_reducible rfl)
 try simp only [Act.put,z1,z2,z3]
 refine tk 3 39 ?_ rfl (Or.inl ⟨by rfl,?_⟩) ?_
 rotate_left
 . intro w hSw;(try dsimp only at hSw);go_simp;(try with_reducible rfl)
 try simp only [Act.put,z1,z2,z3]
 refine tk 4 40 (.int .i64 a.k) rfl (Or.inl ⟨by rfl,?_⟩) ?_
 . intro w hSw;(try dsimp only at hSw);have r:=Blk.cell hSw.2 0;(try go_simp);(try simp [*])
 try simp only [Act.put,z1,z2,z3]
 refine tk 6 42 ?_ rfl (Or.inl ⟨by rfl,?_⟩) ?_
 rotate_left
 . intro w hSw;(try dsimp only at hSw);go_simp;(try with_reducible rfl)
 try simp only [Act.put,z1,z2,z3]
 refine tk 7 43 ?_ rfl (Or.inl ⟨by rfl,?_⟩) ?_
 rotate_left
 . intro w hSw;(try dsimp only at hSw);go_simp;(try with_reducible rfl)
 try simp only [Act.put,z1,z2,z3]
 refine tk 8 44 ?_ rfl (Or.inl ⟨by rfl,?_⟩) ?_
 rotate_left
 . intro w hSw;(try dsimp only at hSw);go_simp;(try with_reducible rfl)
 try simp only [Act.put,z1,z2,z3]
 refine tk 9 45 (.int .i64 a.root) rfl (Or.inl ⟨by rfl,?_⟩) ?_
 . intro w hSw;(try dsimp only at hSw);have r:=Blk.cell hSw.2 1;(try go_simp);(try simp [*])
 try simp only [Act.put,z1,z2,z3]
 refine wpAnyH_ready (rs:=[5]) (by kernel_rfl) (by simp) ?_
 refine AllReadyH.cons (o:=⟨some 41,_,_,_,_,none⟩) rfl (fun K hK=> ?_) AllReadyH.nil
 go_simp
 go_wp2_with (go_at_call 36;refine Calls.mono (PC.out _ hHeld.1) ?_;rintro e u1 ⟨rfl,hb1⟩)
 have KU1:Hid (Below w5.heap.size w5 u1):=below_then KU.out hb1
 refine hK.out _ _ ⟨hHeld.1.below hb1,hHeld.2.below hb1⟩ (fun hHeld2=> ?_)
 clear hK K hHeld hb1 KU
 have hHeld:=hHeld2
 clear hHeld2
 try simp only [Act.put,z1,z2,z3]
 refine wpAnyH_ready (rs:=[10]) (by kernel_rfl) (by simp) ?_
 refine AllReadyH.cons (o:=⟨some 46,_,_,_,_,none⟩) rfl (fun K hK=> ?_) AllReadyH.nil
 go_simp
 go_wp2_with (go_at_call 64;refine Calls.mono (DC.out _ KU1.out) ?_;rintro e u2 ⟨rfl,hp2,hk2⟩)
 have E2:Hid (Pu (fun j=>(Y j\/(W.heap.size<=j/\j<w4.heap.size))\/O j≠0) u2 m (giveS s5 a.k a.root)/\Kx (fun j=>(Y j\/(W.heap.size<=j/\j<w4.heap.size))\/O j≠0) w5 u2):=⟨hp2,(kept_of_below KU1.out (fun j hj=>M5.out.1.pu.lt j hj)).trans hk2⟩
 refine hK.out _ _ ⟨hHeld.1.kx hk2 (Or.inr RR.out.1),hHeld.2.kx hk2 (Or.inr RR.out.2)⟩ (fun hHeld2=> ?_)
 clear hK K hHeld hp2 hk2 KU1
 have hHeld:=hHeld2
 clear hHeld2
 try simp only [Act.put,z1,z2,z3]
 clear hHeld
 refine wpAnyH_done (by kernel_rfl) ?_ _
 refine NoPanic.normal ?_
 have tg2:Hid (Pc.IsTags u2 M.tg M.tm M.ow n S/\Blk u2 M.mb [pp m.rb,pp m.b,pp m.tb,pp M.tl,pp M.tg,.int .i64 M.kf,.map (some M.sm)] 43):=by
  have h3:=HM.out.o3
  exact ⟨M5.out.1.tgs.kept fun b _ hb=>E2.out.2.block b (Or.inr (by rcases hb with rfl | rfl | rfl;rw [h3.1];omega;rw [h3.2.1];omega;rw [h3.2.2];omega)),M5.out.1.mac.kx E2.out.2 (Or.inr RR.out.1)⟩
 have d4:u2.cell? ⟨M.mb,4,none⟩=some (pp M.tg):=tg2.out.2.cell 4
 have d6:u2.cell? ⟨M.mb,6,none⟩=some (.map (some M.sm)):=tg2.out.2.cell 6
 go_wp2_with fail
 refine Calls.mono (TC.out _ tg2.out.1) ?_
 rintro e u2' ⟨rfl,hu⟩
 have hu2:=hu.symm
 subst hu2
 clear hu TC
 go_wp2_with fail
 refine Calls.mono (TD.out _ tg2.out.1) ?_
 rintro e u2' ⟨rfl,hu⟩
 have hu2:=hu.symm
 subst hu2
 clear hu TD
 have mp2:MapP u2 M.sm n (spF (a::B)):=by
  have q:MapP w5 M.sm n (spF ({ a with tab:=tab5,lf:=lfSet a.lf p none,lt:=Pc.setF a.lt p none }::B)):=M5.out.1.map
  exact q.block (E2.out.2.block _ (Or.inr (by rw [HM.out.o4];omega)))
 obtain ⟨u3,hdel,hm3,hg3⟩:=mp2.del (k:=a.id) WI.out 0
 have hdel:(Builtin.delete_ #[41,3] 0 #[.map (some M.sm),.int .i64 a.id]).run Tryz.prog u2=.ok (.tuple #[]) u3:=hdel
 have HE:Hid (Closed Y O n W u3 M m s T S a.k B (ro+(tabsN (pgs a.lf):Int)+1) (u-(tabsN (pgs a.lf):Int)-1) (fr+tabsN (pgs a.lf)+1)):=by
  obtain ⟨q1,q2,q3,q4,q5,q6⟩:=M5.out
  obtain ⟨k1,k2⟩:=q1.closed E2.out.2 E2.out.1 hg3 hm3
  have ow:=(q1.rt _ (List.mem_cons_self ..)).ow 4 0 a.root (q1.rt _ (List.mem_cons_self ..)).pw.t4
  have gb:=q1.pu.so.gb a.root (by rw [ow.2.1];rfl)
  exact ⟨giveS s5 a.k a.root,k1.less (fun j hj=>Or.inl hj) HM.out.y0,q2.give (by omega) ow.2.2 s5.M s5.q,q6,q5.trans (k2.sub (fun j hj=>Or.inl hj))⟩
 clear mp2 hm3 hg3 E2 tg2 M5 RR
 go_wp2_with fail
 go_returns
 exact ⟨rfl,HE.out⟩
set_option maxHeartbeats 4000000 in
theorem close_none {Y:Nat->Prop} {O:Nat->Nat} {n:Nat} {W:World} {M:Mb} {m:Pm} {s:Ps} {T:Nat->Tl.Ln} {S:Pc.Tg} {a:Sr} {B:List Sr} (h:Mc Y O n W M m s T S (a::B)) (hn:a.ln<=1048600) (hL:a.L=[]) (hl: ∀ x,a.lt x=none) (hall: ∀ x,a.lf x=none) {ro u:Int} {fr:Nat} (hN:Nums m s a.k ro u fr) (hu:1<=u) (wi:(Lit.int .i64 a.id).wf=true) (hT:S.T a.id=none) :
 Calls Tryz.prog 21 #[pp M.mb,.int .i64 a.id] W fun e w'=>e=.returned (.int .i64 0)/\Closed Y O n W w' M m s T S a.k B (ro+1) (u-1) (fr+1):=by
 have ma:=List.mem_cons_self (a:=a) (l:=B)
 have lk:(Instr.lookup 41 (.map (some M.sm)) (.int .i64 a.id) false).run Tryz.prog W=.ok (.pointer (some ⟨a.sb,0,none⟩)) W:=by
  have q:=h.map.look wi
  rw [spF_head] at q;exact q
 have c6:W.cell? ⟨M.mb,6,none⟩=some (.map (some M.sm)):=h.mac.cell 6
 have c3:W.cell? ⟨a.sb,3,none⟩=some (.map (some a.lb)):=(h.sp a ma).blk.cell 3
 have KC:Hid (Calls Tryz.prog 63 #[.map (some a.lb)] W fun e w'=>e=.returned (.func (.func 115) #[] #[.pointer (some ⟨W.heap.size,0,none⟩)])/\w'=(W.alloc (.cells #[.map (some a.lb)] 110))):=keys_any (some a.lb) W
 have PC:Hid (∀ w:World,Blk w M.mb [pp m.rb,pp m.b,pp m.tb,pp M.tl,pp M.tg,.int .i64 M.kf,.map (some M.sm)] 43->_):=fun w hb=>purse_any M.mb m.rb m.b m.tb a.k _ _ _ _ w hb
 have TC:Hid (∀ w:World,Pc.IsTags w M.tg M.tm M.ow n S->Calls Tryz.prog 65 #[pp M.tg,.int .i64 a.id] w fun e w'=>e=.returned (.tuple #[.int .i64 0,.bool false])/\w'=w):=fun w hw=>by
  have q:=Pc.tag_any M.tg M.tm M.ow n S a.id wi w hw
  rw [hT] at q;exact q
 have TD:Hid (∀ w:World,Pc.IsTags w M.tg M.tm M.ow n S->_):=fun w hw=>tdrop_none M.tg M.tm M.ow n S a.id wi hT w hw
 have SC:Hid (Calls Tryz.prog 44 #[.func (.func 115) #[] #[.pointer (some ⟨W.heap.size,0,none⟩)]] (W.alloc (.cells #[.map (some a.lb)] 110)) fun e w'=> ∃ (pf:Option Addr) (cf:Nat),e=.returned (.slice pf 0 cf)/\Below W.heap.size W w'):=by
  refine (sorted_i (h.sp a ma).map hn).mono ?_
  rintro e w' ⟨v,L,he,hA,hM,ho,hb⟩
  obtain rfl:L=[]:=by
   cases L with
   | nil => rfl
   | cons x L => have := (hM x).1 List.mem_cons_self; rw [hl x] at this; cases this
  have ho:Li.OI w' W.heap.size v []:=ho
  obtain ⟨p,c,e1,_⟩:=(Li.ol_ll Li.eI_len ho).form
  exact ⟨p,c,by rw [he,e1];rfl,hb⟩
 have BC:Hid (∀ w:World,Below W.heap.size W w->_):=fun w hb=>borrows_nil (h.below hb) 0 34359738368 hL
 have NC:Hid (∀ (w:World) (pf:Option Addr) (cf:Nat),_):=fun w pf cf=>lends_nil a.sb pf cf w
 have RC:Hid (∀ (w:World) (pf:Option Addr) (cf:Nat),Below W.heap.size W w->_):=fun w pf cf hb=>release_nil (h.below hb) a.id pf cf
 have HM:Hid (Mc Y O n W M m s T S (a::B)):=h
 have WI:Hid ((Lit.int .i64 a.id).wf=true):=wi
 have HA:Hid ((∀ x,a.lf x=none)/\Nums m s a.k ro u fr/\1<=u):=⟨hall,hN,hu⟩
 obtain ⟨s5,hs5⟩: ∃ s5,s5=s:=⟨_,rfl⟩
 clear h hL hl hall hN hu wi hT
 go_enter Tryz.func21,Tryz.ntmps21
 go_wp2_with fail
 refine Calls.mono KC.out ?_
 rintro e w1 ⟨rfl,hu⟩
 subst hu
 clear KC
 go_wp2_with fail
 refine Calls.mono SC.out ?_
 rintro e w2 ⟨pf,cf,rfl,hb2⟩
 have B2:Hid (Below W.heap.size W w2):=hb2
 clear hb2 SC lk c6 c3
 go_wp2_with fail
 refine Calls.mono (BC.out _ B2.out) ?_
 rintro e w3 ⟨rfl,hb3⟩
 have B3:Hid (Below W.heap.size W w3):=below_then B2.out hb3
 clear hb3 B2 BC
 go_wp2_with fail
 refine Calls.mono (NC.out _ pf cf) ?_
 rintro e w4' ⟨rfl,hu⟩
 have hu2:=hu.symm
 subst hu2
 clear hu NC
 go_wp2_with fail
 refine Calls.mono (RC.out _ pf cf B3.out) ?_
 rintro e w5 ⟨rfl,hb5⟩
 have M5:Hid (Mc Y O n w5 M m s5 T S (a::B)/\Nums m s5 a.k ro u fr/\(∀ x,a.lf x=none)/\1<=u/\Kx Y W w5/\s5.q<=s.q+10):=by
  have bb:=below_then B3.out hb5
  rw [hs5]
  exact ⟨HM.out.below bb,HA.out.2.1,HA.out.1,HA.out.2.2,kept_of_below bb (fun j hj=>HM.out.pu.lt j (Or.inl hj)),by omega⟩
 clear hb5 RC B3 HA hs5
 have DC:Hid (∀ w:World,Below w5.heap.size w5 w->Calls Tryz.prog 64 #[pv m a.k,.int .i64 a.root] w fun e w'=>e=.returned (.int .i64 0)/\Pu (fun j=>Y j\/O j≠0) w' m (giveS s5 a.k a.root)/\Kx (fun j=>Y j\/O j≠0) w w'):=fun w hb=>by
  obtain ⟨q1,q2,q3,q4,q5⟩:=M5.out
  exact drop_ok (q1.pu.below hb) (q1.rt _ (List.mem_cons_self ..)) a.k (pgs_all q3) q2.k6 q2.live (by rw [q2.used];exact q4)
 have BS:Hid (Blk w5 M.mb [pp m.rb,pp m.b,pp m.tb,pp M.tl,pp M.tg,.int .i64 M.kf,.map (some M.sm)] 43/\Blk w5 a.sb [.int .i64 a.k,.int .i64 a.root,.slice a.rp a.L.length a.rc,.map (some a.lb)] 131):=⟨M5.out.1.mac,(M5.out.1.sp _ (List.mem_cons_self ..)).blk⟩
 have RR:Hid (O M.mb≠0/\O a.sb≠0):=⟨by rw [HM.out.o1];omega,by rw [(HM.out.sp a ma).o1];omega⟩
 go_upto_region 8 with fail
 refine wp_region_noPanic ?_
 refine wp_region_held_drew (S:=fun cw=>Blk cw M.mb [pp m.rb,pp m.b,pp m.tb,pp M.tl,pp M.tg,.int .i64 M.kf,.map (some M.sm)] 43/\Blk cw a.sb [.int .i64 a.k,.int .i64 a.root,.slice a.rp a.L.length a.rc,.map (some a.lb)] 131) (by kernel_rfl) ?_ (fun hHeld=> ?_)
 . exact BS.out
 have KU:Hid (Below w5.heap.size w5 w5.drew):=below_drew (Below.refl _ _)
 clear BS
 generalize w5.drew=U at hHeld KU |-
 refine tk 0 36 ?_ rfl (Or.inl ⟨by rfl,?_⟩) ?_
 rotate_left
 . intro w hSw;(try dsimp only at hSw);go_simp;(try with_reducible rfl)
 try simp only [Act.put,z1,z2,z3]
 refine tk 1 37 ?_ rfl (Or.inl ⟨by rfl,?_⟩) ?_
 rotate_left
 . intro w hSw;(try dsimp only at hSw);go_simp;(try with_reducible rfl)
 try simp only [Act.put,z1,z2,z3]
 refine tk 2 38 ?_ rfl (Or.inl ⟨by rfl,?_⟩) ?_
 rotate_left
 . intro w hSw;(try dsimp only at hSw);go_simp;(try with_reducible rfl)
 try simp only [Act.put,z1,z2,z3]
 refine tk 3 39 ?_ rfl (Or.inl ⟨by rfl,?_⟩) ?_
 rotate_left
 . intro w hSw;(try dsimp only at hSw);go_simp;(try with_reducible rfl)
 try simp only [Act.put,z1,z2,z3]
 refine tk 4 40 (.int .i64 a.k) rfl (Or.inl ⟨by rfl,?_⟩) ?_
 . intro w hSw;(try dsimp only at hSw);have r:=Blk.cell hSw.2 0;(try go_simp);(try simp [*])
 try simp only [Act.put,z1,z2,z3]
 refine tk 6 42 ?_ rfl (Or.inl ⟨by rfl,?_⟩) ?_
 rotate_left
 . intro w hSw;(try dsimp only at hSw);go_simp;(try with_reducible rfl)
 try simp only [Act.put,z1,z2,z3]
 refine tk 7 43 ?_ rfl (Or.inl ⟨by rfl,?_⟩) ?_
 rotate_left
 . intro w hSw;(try dsimp only at hSw);go_simp;(try with_reducible rfl)
 try simp only [Act.put,z1,z2,z3]
 refine tk 8 44 ?_ rfl (Or.inl ⟨by rfl,?_⟩) ?_
 rotate_left
 . intro w hSw;(try dsimp only at hSw);go_simp;(try with_reducible rfl)
 try simp only [Act.put,z1,z2,z3]
 refine tk 9 45 (.int .i64 a.root) rfl (Or.inl ⟨by rfl,?_⟩) ?_
 . intro w hSw;(try dsimp only at hSw);have r:=Blk.cell hSw.2 1;(try go_simp);(try simp [*])
 try simp only [Act.put,z1,z2,z3]
 refine wpAnyH_ready (rs:=[5]) (by kernel_rfl) (by simp) ?_
 refine AllReadyH.cons (o:=⟨some 41,_,_,_,_,none⟩) rfl (fun K hK=> ?_) AllReadyH.nil
 go_simp
 go_wp2_with (go_at_call 36;refine Calls.mono (PC.out _ hHeld.1) ?_;rintro e u1 ⟨rfl,hb1⟩)
 have KU1:Hid (Below w5.heap.size w5 u1):=below_then KU.out hb1
 refine hK.out _ _ ⟨hHeld.1.below hb1,hHeld.2.below hb1⟩ (fun hHeld2=> ?_)
 clear hK K hHeld hb1 KU
 have hHeld:=hHeld2
 clear hHeld2
 try simp only [Act.put,z1,z2,z3]
 refine wpAnyH_ready (rs:=[10]) (by kernel_rfl) (by simp) ?_
 refine AllReadyH.cons (o:=⟨some 46,_,_,_,_,none⟩) rfl (fun K hK=> ?_) AllReadyH.nil
 go_simp
 go_wp2_with (go_at_call 64;refine Calls.mono (DC.out _ KU1.out) ?_;rintro e u2 ⟨rfl,hp2,hk2⟩)
 have E2:Hid (Pu (fun j=>Y j\/O j≠0) u2 m (giveS s5 a.k a.root)/\Kx (fun j=>Y j\/O j≠0) w5 u2):=⟨hp2,(kept_of_below KU1.out (fun j hj=>M5.out.1.pu.lt j hj)).trans hk2⟩
 refine hK.out _ _ ⟨hHeld.1.kx hk2 (Or.inr RR.out.1),hHeld.2.kx hk2 (Or.inr RR.out.2)⟩ (fun hHeld2=> ?_)
 clear hK K hHeld hp2 hk2 KU1
 have hHeld:=hHeld2
 clear hHeld2
 try simp only [Act.put,z1,z2,z3]
 clear hHeld
 refine wpAnyH_done (by kernel_rfl) ?_ _
 refine NoPanic.normal ?_
 have tg2:Hid (Pc.IsTags u2 M.tg M.tm M.ow n S/\Blk u2 M.mb [pp m.rb,pp m.b,pp m.tb,pp M.tl,pp M.tg,.int .i64 M.kf,.map (some M.sm)] 43):=by
  have h3:=HM.out.o3
  exact ⟨M5.out.1.tgs.kept fun b _ hb=>E2.out.2.block b (Or.inr (by rcases hb with rfl | rfl | rfl;rw [h3.1];omega;rw [h3.2.1];omega;rw [h3.2.2];omega)),M5.out.1.mac.kx E2.out.2 (Or.inr RR.out.1)⟩
 have d4:u2.cell? ⟨M.mb,4,none⟩=some (pp M.tg):=tg2.out.2.cell 4
 have d6:u2.cell? ⟨M.mb,6,none⟩=some (.map (some M.sm)):=tg2.out.2.cell 6
 go_wp2_with fail
 refine Calls.mono (TC.out _ tg2.out.1) ?_
 rintro e u2' ⟨rfl,hu⟩
 have hu2:=hu.symm
 subst hu2
 clear hu TC
 go_wp2_with fail
 refine Calls.mono (TD.out _ tg2.out.1) ?_
 rintro e u2' ⟨rfl,hu⟩
 have hu2:=hu.symm
 subst hu2
 clear hu TD
 have mp2:MapP u2 M.sm n (spF (a::B)):=by
  have q:MapP w5 M.sm n (spF (a::B)):=M5.out.1.map
  exact q.block (E2.out.2.block _ (Or.inr (by rw [HM.out.o4];omega)))
 obtain ⟨u3,hdel,hm3,hg3⟩:=mp2.del (k:=a.id) WI.out 0
 have hdel:(Builtin.delete_ #[41,3] 0 #[.map (some M.sm),.int .i64 a.id]).run Tryz.prog u2=.ok (.tuple #[]) u3:=hdel
 have HE:Hid (Closed Y O n W u3 M m s T S a.k B (ro+1) (u-1) (fr+1)):=by
  obtain ⟨q1,q2,q3,q4,q5,q6⟩:=M5.out
  obtain ⟨k1,k2⟩:=q1.closed E2.out.2 E2.out.1 hg3 hm3
  have ow:=(q1.rt _ (List.mem_cons_self ..)).ow 4 0 a.root (q1.rt _ (List.mem_cons_self ..)).pw.t4
  have gb:=q1.pu.so.gb a.root (by rw [ow.2.1];rfl)
  exact ⟨giveS s5 a.k a.root,k1,q2.give (by omega) ow.2.2 s5.M s5.q,q6,q5.trans k2⟩
 clear mp2 hm3 hg3 E2 tg2 M5 RR
 go_wp2_with fail
 go_returns
 exact ⟨rfl,HE.out⟩
end Go.Proofs.YtmabmknmnkhhbaaGreatDoor.Sp
