import Derived.Test.YtgbdnnkkcpkhdaaGreatDoorKZc
import Derived.Test.YtgbdnnkkcpkhdaaGreatDoorSVc
import Derived.Test.YtgbdnnkkcpkhdaaGreatDoorKKc
import Derived.Test.YtgbdnnkkcpkhdaaGreatDoorMDc
set_option linter.unusedSimpArgs false
set_option linter.unusedVariables false
set_option maxRecDepth 8000
set_option maxHeartbeats 4000000
open Go.ChangeShapes Go.WideShapes Go.ChangeAt Go.RowKit Go.Maps
open Go.Proofs.YtgbdnnkkcpkhdaaGreatDoor.Tt
namespace Go.Proofs.YtgbdnnkkcpkhdaaGreatDoor.Sp
def lq (o:Option Lf):Lf × Bool:=match o with | none=>(⟨0,false,false,false⟩,false) | some v=>(v,true)
section
variable {Y:Nat->Prop} {O:Nat->Nat} {n:Nat} {W:World} {M:Mb} {m:Pm} {s:Ps} {T:Nat->Tl.Ln} {S:Pc.Tg}
theorem leads_any {a:Sr} {B:List Sr} (h:Mc Y O n W M m s T S (a::B)) (p:Nat) :
 Calls Tryz.prog 94 #[pp M.mb,pp a.sb,.int .i64 p] W (re (.tuple #[.int .i64 (lq (a.lf p)).1.f,.agg #[.bool (lq (a.lf p)).1.w,.bool (lq (a.lf p)).1.u,.bool (lq (a.lf p)).1.x],.bool (lq (a.lf p)).2]) W):=by
 have ma:=List.mem_cons_self (a:=a) (l:=B)
 obtain ⟨z,hz⟩: ∃ z,z=lq (a.lf p):=⟨_,rfl⟩
 have QC:Hid (∀ w:World,bc W w->Calls Tryz.prog 109 #[pv m a.k,.int .i64 a.root,.int .i64 p] w (re (.tuple #[.int .i64 z.1.f,.agg (sn z.1.w z.1.u z.1.x),.bool z.2]) w)):=fun w hb=>by
  refine (query_any (h.pu.below hb) (h.rt a ma) a.k p).mono ?_
  rintro e w' ⟨he,hb'⟩
  refine ⟨?_,hb'⟩
  rw [hz]
  unfold lq
  cases e1:a.lf p with
  | none => rw [e1] at he; exact he
  | some v => rw [e1] at he; exact he
 rw [<- hz]
 obtain ⟨⟨ff,fa,fb,fc⟩,th⟩:=z
 simp only at QC |-
 have PC:Hid (∀ w:World,Blk w M.mb [pp m.rb,pp m.b,pp m.tb,pp M.tl,pp M.tg,.int .i64 M.kf,.map (some M.sm)] 62->_):=fun w hb=>purse_any M.mb m.rb m.b m.tb a.k _ _ _ _ w hb
 have G0:Hid (Blk (W.alloc (.cells si1 45)) W.heap.size sj1 45/\bc W (W.alloc (.cells si1 45))/\Blk (W.alloc (.cells si1 45)) M.mb [pp m.rb,pp m.b,pp m.tb,pp M.tl,pp M.tg,.int .i64 M.kf,.map (some M.sm)] 62/\Blk (W.alloc (.cells si1 45)) a.sb [.int .i64 a.k,.int .i64 a.root,.slice a.rp a.L.length a.rc,.map (some a.lb)] 71/\M.mb<W.heap.size/\a.sb<W.heap.size):=⟨Blk.made _ _ _,baa,h.mac.below baa,(h.sp a ma).blk.below baa,h.mac.lt,(h.sp a ma).blk.lt⟩
 clear h hz ma
 go_enter Tryz.func94,Tryz.ntmps94
 go_upto_region 1 with fail
 generalize (W.alloc (.cells si1 45))=W0 at G0 |-
 obtain ⟨q,hq⟩: ∃ q,q=W.heap.size:=⟨_,rfl⟩
 have KW:Hid (bc W W0):=G0.out.2.1
 have HQ:Hid (W.heap.size<=q/\M.mb≠q/\a.sb≠q):=by have:=G0.out.2.2.2.2;exact ⟨by omega,by omega,by omega⟩
 have BR:Hid (Blk W0 q sj1 45):=by rw [hq];exact G0.out.1
 have BS:Hid (Blk W0 M.mb [pp m.rb,pp m.b,pp m.tb,pp M.tl,pp M.tg,.int .i64 M.kf,.map (some M.sm)] 62/\Blk W0 a.sb [.int .i64 a.k,.int .i64 a.root,.slice a.rp a.L.length a.rc,.map (some a.lb)] 71):=⟨G0.out.2.2.1,G0.out.2.2.2.1⟩
 rw [<- hq]
 clear hq G0
 refine hda (fun cw=>Blk cw M.mb [pp m.rb,pp m.b,pp m.tb,pp M.tl,pp M.tg,.int .i64 M.kf,.map (some M.sm)] 62/\Blk cw a.sb [.int .i64 a.k,.int .i64 a.root,.slice a.rp a.L.length a.rc,.map (some a.lb)] 71) BS.out fun hHeld=> ?_
 have KU:Hid (bc W W0.drew):=below_drew KW.out
 change Hid (Blk W0.drew q sj1 45) at BR
 clear BS KW
 generalize W0.drew=U at hHeld KU BR |-
 refine tma 0 9 rfl ?_
 refine tma 1 10 rfl ?_
 refine tma 2 11 rfl ?_
 refine tma 3 12 rfl ?_
 refine tla 4 13 (.int .i64 a.k) rfl ?_ ?_
 . intro w hSw;(try dsimp only at hSw);have r:=Blk.cell hSw.2 0;(try go_simp);(try simp [*])
 refine tma 6 15 rfl ?_
 refine tma 7 16 rfl ?_
 refine tma 8 17 rfl ?_
 refine tla 9 18 (.int .i64 a.root) rfl ?_ ?_
 . intro w hSw;(try dsimp only at hSw);have r:=Blk.cell hSw.2 1;(try go_simp);(try simp [*])
 refine tma 10 19 rfl ?_
 refine rda 5 ⟨some 14,_,_,_,_,none⟩ rfl fun K hK=> ?_
 go_simp
 go_wp2_with (go_at_call 13;refine Calls.mono (PC.out _ hHeld.1) ?_;rintro e u1 ⟨rfl,hb1⟩)
 have KU1:Hid (bc W u1):=below_then KU.out hb1
 have BR1:Hid (Blk u1 q sj1 45):=BR.out.below hb1
 refine hK.out _ _ ⟨hHeld.1.below hb1,hHeld.2.below hb1⟩ ?_
 clear hK K hHeld hb1 KU BR
 intro hHeld
 try simp only [Act.put,zaa,zba,zca]
 refine rda 11 ⟨some 20,_,_,_,_,none⟩ rfl fun K hK=> ?_
 go_simp
 go_wp2_with (go_at_call 109;refine Calls.mono (QC.out _ KU1.out) ?_;rintro e u2 ⟨rfl,hb2⟩)
 have KU2:Hid (bc W u2):=below_then KU1.out hb2
 have BR2:Hid (Blk u2 q sj1 45):=BR1.out.below hb2
 refine hK.out _ _ ⟨hHeld.1.below hb2,hHeld.2.below hb2⟩ ?_
 clear hK K hHeld hb2 KU1 BR1
 intro hHeld
 try simp only [Act.put,zaa,zba,zca]
 refine tma 12 21 rfl ?_
 refine tma 13 22 rfl ?_
 refine tma 14 23 rfl ?_
 refine tma 15 6 rfl ?_
 refine rda 16 ⟨none,.store 45 (.tmp 7) (.tmp 22),_,_,_,none⟩ rfl fun K hK=> ?_
 refine wanted_mp rfl ?_
 have th:u2.there q 0 3:=BR2.out.there
 refine wp_store_mid _ _ _ rfl q 0 (sn fa fb fc) rfl rfl th ka kr ?_
 (try simp only [List.toList_toArray])
 have F1:Hid (Blk (u2.setCells q 0 (sk fa fb fc)) q (sk fa fb fc) 45/\bc W (u2.setCells q 0 (sk fa fb fc))):=⟨BR2.out.put rfl,below_put KU2.out HQ.out.1 _⟩
 have gk:=Qu.grown_setCells q (sk fa fb fc) 0 u2
 have KE:Hid (Blk (u2.setCells q 0 (sk fa fb fc)) M.mb [pp m.rb,pp m.b,pp m.tb,pp M.tl,pp M.tg,.int .i64 M.kf,.map (some M.sm)] 62/\Blk (u2.setCells q 0 (sk fa fb fc)) a.sb [.int .i64 a.k,.int .i64 a.root,.slice a.rp a.L.length a.rc,.map (some a.lb)] 71):=⟨(gk.block _ hHeld.1.lt (fun e=>HQ.out.2.1 (sia e))).trans hHeld.1,(gk.block _ hHeld.2.lt (fun e=>HQ.out.2.2 (sia e))).trans hHeld.2⟩
 clear gk
 generalize u2.setCells q 0 (sk fa fb fc)=V at *
 refine hK.out _ _ KE.out ?_
 clear hK K hHeld th KE BR2 KU2
 intro hHeld
 try simp only [Act.put,zaa,zba,zca]
 refine tma 17 8 rfl ?_
 clear hHeld
 refine wpAnyH_done ka ?_ _
 refine NoPanic.normal ?_
 go_wp2_with fail
 refine bodyPost_ret (v:=.tuple #[.int .i64 ff,.agg (sn fa fb fc),.bool th]) (results_tct Tryz.results94 _ _ _ _ _ _ _ rfl rfl rfl (run_loadVar_mid (P:=Tryz.prog) _ q 0 45 (sk fa fb fc) _ F1.out.1.range Tryz.underlying45 rfl ka)) rfl ?_
 exact ⟨rfl,F1.out.2⟩
def Supplied (Y:Nat->Prop) (O:Nat->Nat) (n:Nat) (W w':World) (M:Mb) (m:Pm) (s:Ps) (T:Nat->Tl.Ln) (S:Pc.Tg) (a:Sr) (B:List Sr) (p f:Nat) (pa pb pc:Bool) (ro u:Int) (fr:Nat):Prop :=
 ∃ (s':Ps) (tab':Nat->Nat->Option Nat),Mc Y O n w' M m s' T S ({ a with tab:=tab',lf:=(lfSet a.lf p (some ⟨(f:Nat),pa,pb,pc⟩)),ln:=a.ln+1,lt:=Pc.setF a.lt p (some 0) }::B)/\Nums m s' a.k (ro-1-fresh (pgs a.lf) p) (u+1+fresh (pgs a.lf) p) (fr-1-fresh (pgs a.lf) p)/\s'.q<=s.q+10/\m.has f=true/\Kx Y W w'
theorem supply_ok {a:Sr} {B:List Sr} (h:Mc Y O n W M m s T S (a::B)) (p:Nat) (hp:p<34359738368) (pa pb pc:Bool) (ht:a.lf p=none) {ro u:Int} {fr:Nat} (hN:Nums m s a.k ro u fr) (hr:1+(fresh (pgs a.lf) p:Int)<=ro) (hf:10<=fr-1) (hq:s.q<3000000000000000000) (hl:a.ln<1000000) :
 Calls Tryz.prog 96 #[pp M.mb,pp a.sb,.int .i64 p,.agg (sn pa pb pc)] W fun e w'=> ∃ f:Nat,e=.returned (.tuple #[.int .i64 f,.int .i64 0])/\Supplied Y O n W w' M m s T S a B p f pa pb pc ro u fr:=by
 have ma:=List.mem_cons_self (a:=a) (l:=B)
 have bx:Box m s a.k:=hN.box (by omega)
 have HH:Hid (p<34359738368/\a.lf p=none/\Nums m s a.k ro u fr/\1+(fresh (pgs a.lf) p:Int)<=ro/\10<=fr-1/\s.q<3000000000000000000/\a.ln<1000000):=⟨hp,ht,hN,hr,hf,hq,hl⟩
 have HM:Hid (Mc Y O n W M m s T S (a::B)):=h
 have bb:bc W (W.alloc (.cells (sn pa pb pc) 45)):=baa
 have G0:Hid (Mc (fun j=>Y j\/(W.heap.size<=j/\j<(W.alloc (.cells (sn pa pb pc) 45)).heap.size)) O n (W.alloc (.cells (sn pa pb pc) 45)) M m s T S (a::B)/\bc W (W.alloc (.cells (sn pa pb pc) 45))/\Blk (W.alloc (.cells (sn pa pb pc) 45)) W.heap.size (sk pa pb pc) 45):=⟨h.grow bb,bb,Blk.made _ _ _⟩
 have BX:Hid (Box m s a.k/\1<=(s.T a.k).room):=⟨bx,by rw [hN.room];omega⟩
 clear h hp ht hN hr hf hq hl bb bx
 go_enter Tryz.func96,Tryz.ntmps96
 go_upto_region 1 with fail
 generalize (W.alloc (.cells (sn pa pb pc) 45))=W0 at G0 |-
 obtain ⟨q,hq⟩: ∃ q,q=W.heap.size:=⟨_,rfl⟩
 have G1:Hid (Mc (fun j=>Y j\/(W.heap.size<=j/\j<W0.heap.size)) O n W0 M m s T S (a::B)/\bc W W0/\Blk W0 q (sk pa pb pc) 45/\q=W.heap.size):=by rw [hq];exact ⟨G0.out.1,G0.out.2.1,G0.out.2.2,rfl⟩
 rw [<- hq]
 clear hq G0
 have RC:Hid _:=reserve_ok G1.out.1 a.k BX.out.1 BX.out.2
 have c0:W0.cell? ⟨a.sb,0,none⟩=some (.int .i64 a.k):=(G1.out.1.sp a ma).blk.cell 0
 go_wp2_with fail
 refine Calls.mono RC.out ?_
 rintro e w1 ⟨f,rfl,hF,hp1,hk1⟩
 have M1:Hid ((Mc (fun j=>Y j\/(W.heap.size<=j/\j<W0.heap.size)) O n w1 M m (takeS s a.k [f]) T S (a::B)/\m.has f=true/\(takeS s a.k [f]).G f=some 0/\ ¬ (takeS s a.k [f]).Fr f/\ ∀ x∈a::B,∀ l i,x.tab l i≠some f)/\Blk w1 q (sk pa pb pc) 45/\Kx (fun j=>Y j\/(W.heap.size<=j/\j<W0.heap.size)) W0 w1/\s.Fr f):=⟨G1.out.1.take hF hk1 hp1,G1.out.2.2.1.kx hk1 (Or.inl (Or.inr ⟨by rw [G1.out.2.2.2];exact Nat.le_refl _,G1.out.2.2.1.lt⟩)),hk1.sub (fun j hj=>Or.inl hj),hF⟩
 clear hF hp1 hk1 RC c0 BX
 have PC:Hid _:=purse_any M.mb m.rb m.b m.tb a.k _ _ _ _ w1 M1.out.1.1.mac
 have c0:w1.cell? ⟨a.sb,0,none⟩=some (.int .i64 a.k):=(M1.out.1.1.sp a ma).blk.cell 0
 go_wp2_with fail
 refine Calls.mono PC.out ?_
 rintro e w2 ⟨rfl,hb2⟩
 have HB2:Hid (bc w1 w2):=hb2
 clear hb2 PC c0
 have G3:Hid (bc w2 (w2.alloc (.cells #[pp m.rb,pp m.b,pp m.tb,.int .i64 a.k] 66))/\Blk (w2.alloc (.cells #[pp m.rb,pp m.b,pp m.tb,.int .i64 a.k] 66)) w2.heap.size [pp m.rb,pp m.b,pp m.tb,.int .i64 a.k] 66):=⟨baa,Blk.made _ _ _⟩
 go_upto_region 5 with fail
 generalize (w2.alloc (.cells #[pp m.rb,pp m.b,pp m.tb,.int .i64 a.k] 66))=w3 at G3 |-
 obtain ⟨r,hr⟩: ∃ r,r=w2.heap.size:=⟨_,rfl⟩
 have M3:Hid (Mc (fun j=>(Y j\/(W.heap.size<=j/\j<W0.heap.size))\/(w2.heap.size<=j/\j<w3.heap.size)) O n w3 M m (takeS s a.k [f]) T S (a::B)):=(M1.out.1.1.below HB2.out).grow G3.out.1
 have RR:Hid (((Y r\/(W.heap.size<=r/\r<W0.heap.size))\/(w2.heap.size<=r/\r<w3.heap.size))/\O a.sb≠0/\((Y q\/(W.heap.size<=q/\q<W0.heap.size))\/(w2.heap.size<=q/\q<w3.heap.size))):=by
  have l1:=G3.out.2.lt
  have l2:=G1.out.2.2.1.lt
  have l3:=G1.out.2.2.2
  exact ⟨Or.inr ⟨by omega,by omega⟩,by rw [(M3.out.sp a ma).o1];omega,Or.inl (Or.inr ⟨by omega,l2⟩)⟩
 have BS:Hid (Blk w3 r [pp m.rb,pp m.b,pp m.tb,.int .i64 a.k] 66/\Blk w3 a.sb [.int .i64 a.k,.int .i64 a.root,.slice a.rp a.L.length a.rc,.map (some a.lb)] 71/\Blk w3 q (sk pa pb pc) 45):=⟨by rw [hr];exact G3.out.2,(M3.out.sp a ma).blk,(M1.out.2.1.below HB2.out).below G3.out.1⟩
 rw [<- hr]
 clear hr
 obtain ⟨tb,htb⟩: ∃ tb:Nat,tb=tabsN (pgs a.lf):=⟨_,rfl⟩
 obtain ⟨R,hR⟩: ∃ R:Int,R=ro-1+(tb:Int):=⟨_,rfl⟩
 obtain ⟨UU,hU⟩: ∃ UU:Int,UU=u+1-(tb:Int):=⟨_,rfl⟩
 obtain ⟨F,hFF⟩: ∃ F:Nat,F=fr-1+tb:=⟨_,rfl⟩
 have N1:Hid (Nums m (takeS s a.k [f]) a.k (R-tb) (UU+tb) (F-tb)):=by
  have q:=HH.out.2.2.1.take HM.out.pu.so (L:=[f]) ⟨by simp,fun x hx=>by simp at hx;rw [hx];exact M1.out.2.2.2⟩ s.M s.q
  have e1:R-tb=ro-(([f]:List Nat).length:Int):=by rw [hR];simp only [List.length_singleton];omega
  have e2:UU+tb=u+(([f]:List Nat).length:Int):=by rw [hU];simp only [List.length_singleton];omega
  have e3:F-tb=fr-([f]:List Nat).length:=by rw [hFF];simp
  rw [e1,e2,e3]
  exact q
 have KC:Hid (∀ w:World,bc w3 w->Calls Tryz.prog 111 #[pv m a.k,.int .i64 a.root,.int .i64 p,.int .i64 f,.agg (sn pa pb pc)] w fun e w'=>e=.returned (.int .i64 0)/\StTo (fun j=>((Y j\/(W.heap.size<=j/\j<W0.heap.size))\/(w2.heap.size<=j/\j<w3.heap.size))\/O j≠0) m a.root a.k R UU F (takeS s a.k [f]) a.tab (lfSet a.lf p (some ⟨(f:Nat),pa,pb,pc⟩)) w w'):=fun w hb=>by
  obtain ⟨h1,h2,h3,h4,h5,h6,h7⟩:=HH.out
  have st:St (fun j=>((Y j\/(W.heap.size<=j/\j<W0.heap.size))\/(w2.heap.size<=j/\j<w3.heap.size))\/O j≠0) m a.root a.k R UU F (takeS s a.k [f]) a.tab a.lf w:=⟨M3.out.pu.below hb,M3.out.rt a ma,by rw [<- htb];exact N1.out,by rw [<- htb];omega⟩
  have fl:f<1000000:=HM.out.pu.so.frb f M1.out.2.2.2
  exact st.map_ok (Or.inr (by rw [<- htb];omega)) (by show s.q<_;omega) p h1 (f:Nat) ⟨by omega,by omega⟩ pa pb pc h2 (by rw [<- htb];omega)
 refine hda (fun cw=>Blk cw r [pp m.rb,pp m.b,pp m.tb,.int .i64 a.k] 66/\Blk cw a.sb [.int .i64 a.k,.int .i64 a.root,.slice a.rp a.L.length a.rc,.map (some a.lb)] 71/\Blk cw q (sk pa pb pc) 45) BS.out fun hHeld=> ?_
 have KU:Hid (bc w3 w3.drew):=below_drew (Below.refl _ _)
 clear BS
 generalize w3.drew=U at hHeld KU |-
 refine tla 0 32 (.agg #[pp m.rb,pp m.b,pp m.tb,.int .i64 a.k]) rfl ?_ ?_
 . exact kl
 refine tma 1 33 rfl ?_
 refine tma 2 34 rfl ?_
 refine tma 3 35 rfl ?_
 refine tla 4 36 (.int .i64 a.root) rfl ?_ ?_
 . exact kw
 refine tma 5 37 rfl ?_
 refine tma 6 38 rfl ?_
 refine tla 7 39 (.agg (sn pa pb pc)) rfl ?_ ?_
 . exact k5
 refine rda 8 ⟨some 40,_,_,_,_,none⟩ rfl fun K hK=> ?_
 go_simp
 go_wp2_with (go_at_call 111;refine Calls.mono (KC.out _ KU.out) ?_;rintro e u2 ⟨rfl,s2,tab2,hS,hq2,hA,hKx⟩)
 have E2:Hid (St (fun j=>((Y j\/(W.heap.size<=j/\j<W0.heap.size))\/(w2.heap.size<=j/\j<w3.heap.size))\/O j≠0) m a.root a.k R UU F s2 tab2 (lfSet a.lf p (some ⟨(f:Nat),pa,pb,pc⟩)) u2/\s2.q<=s.q+10/\Apt (takeS s a.k [f]) s2 a.tab tab2/\Kx (fun j=>((Y j\/(W.heap.size<=j/\j<W0.heap.size))\/(w2.heap.size<=j/\j<w3.heap.size))\/O j≠0) w3 u2):=⟨hS,hq2,hA,(kept_of_below KU.out (fun j hj=>M3.out.pu.lt j hj)).trans hKx⟩
 refine hK.out _ _ ⟨hHeld.1.kx hKx (Or.inl RR.out.1),hHeld.2.1.kx hKx (Or.inr RR.out.2.1),hHeld.2.2.kx hKx (Or.inl RR.out.2.2)⟩ ?_
 clear hK K hHeld hS hq2 hA hKx KU
 intro hHeld
 try simp only [Act.put,zaa,zba,zca]
 refine tma 9 13 rfl ?_
 clear hHeld
 refine wpAnyH_done ka ?_ _
 refine NoPanic.normal ?_
 have M4:Hid (Mc (fun j=>(Y j\/(W.heap.size<=j/\j<W0.heap.size))\/(w2.heap.size<=j/\j<w3.heap.size)) O n u2 M m s2 T S ({ a with tab:=tab2,lf:=(lfSet a.lf p (some ⟨(f:Nat),pa,pb,pc⟩)) }::B)/\(∀ x∈{ a with tab:=tab2,lf:=(lfSet a.lf p (some ⟨(f:Nat),pa,pb,pc⟩)) }::B,∀ l i,x.tab l i≠some f)/\Nums m s2 a.k (ro-1-fresh (pgs a.lf) p) (u+1+fresh (pgs a.lf) p) (fr-1-fresh (pgs a.lf) p)/\s2.q<=s.q+10/\m.has f=true/\Kx Y W u2):=by
  obtain ⟨hS,hq2,hA,hK2⟩:=E2.out
  obtain ⟨m1,hf1,hf2,hf3,hf4⟩:=M1.out.1
  obtain ⟨h1,h2,h3,h4,h5,h6,h7⟩:=HH.out
  have nf: ∀ l x,tab2 l x≠some f:=fun l x e=>by
   rcases hA.new l x f e with q | q
   . exact hf4 a ma l x q
   . exact hf3 q
  obtain ⟨g1,g2,_⟩:=hA.oth f (hf4 a ma) hf3
  have tt:tabsN (pgs (lfSet a.lf p (some ⟨(f:Nat),pa,pb,pc⟩)))=tabsN (pgs a.lf)+fresh (pgs a.lf) p:=(tabs_perm (pgs_more (M3.out.rt a ma).pw h2 hS.rt.pw)).trans rfl
  refine ⟨M3.out.tabs hK2 hS.pu hS.rt hA (fun p' v e=> ?_),fun x hx=> ?_,?_,hq2,hf1,?_⟩
  . unfold lfSet at e
    by_cases c:p'=p
    . rw [if_pos c] at e
      cases e
      exact ⟨hf1,f,rfl,by rw [g1];exact hf2,g2,nf,fun b hb=>hf4 b (List.mem_cons_of_mem _ hb)⟩
    . rw [if_neg c] at e
      obtain ⟨d1,g,d2,d3,d4,d5⟩:=M3.out.dat a ma p' v e
      obtain ⟨k1,k2,_⟩:=hA.oth g (d5 a ma) d4
      refine ⟨d1,g,d2,by rw [k1];exact d3,k2,fun l i e'=> ?_,fun b hb=>d5 b (List.mem_cons_of_mem _ hb)⟩
      rcases hA.new l i g e' with q | q
      . exact d5 a ma l i q
      . exact d4 q
  . rcases List.mem_cons.1 hx with rfl | hx
    . exact nf
    . exact hf4 x (List.mem_cons_of_mem _ hx)
  . have q:=hS.nm
    rw [tt,<- htb] at q
    rw [show ro-1-(fresh (pgs a.lf) p:Int)=R-((tb+fresh (pgs a.lf) p:Nat):Int) by omega,show u+1+(fresh (pgs a.lf) p:Int)=UU+((tb+fresh (pgs a.lf) p:Nat):Int) by omega,show fr-1-fresh (pgs a.lf) p=F-(tb+fresh (pgs a.lf) p) by omega]
    exact q
  . refine Kept.trans (kept_of_below G1.out.2.1 (fun j hj=>HM.out.pu.lt j (Or.inl hj))) (Kept.trans (M1.out.2.2.1.sub (fun j hj=>Or.inl hj)) (Kept.trans (kept_of_below HB2.out (fun j hj=>m1.pu.lt j (Or.inl (Or.inl hj)))) (Kept.trans (kept_of_below G3.out.1 (fun j hj=>(m1.below HB2.out).pu.lt j (Or.inl (Or.inl hj)))) (hK2.sub (fun j hj=>Or.inl (Or.inl (Or.inl hj)))))))
 clear E2 KC N1 htb hR hU hFF RR G3 HB2
 have ZC:Hid _:=M4.out.1.pu.zero f M4.out.2.2.2.2.1
 have c0:u2.cell? ⟨M.mb,0,none⟩=some (pp m.rb):=M4.out.1.mac.cell 0
 go_wp2_with fail
 refine Calls.mono ZC.out ?_
 rintro e u3 ⟨rfl,hp3,hk3⟩
 have M5:Hid (Mc (fun j=>(Y j\/(W.heap.size<=j/\j<W0.heap.size))\/(w2.heap.size<=j/\j<w3.heap.size)) O n u3 M m { s2 with M:=mzero s2.M f } T S ({ a with tab:=tab2,lf:=(lfSet a.lf p (some ⟨(f:Nat),pa,pb,pc⟩)) }::B)/\Kx Y W u3):=⟨M4.out.1.zero M4.out.2.1 hk3 hp3,M4.out.2.2.2.2.2.trans (hk3.sub (fun j hj=>Or.inl (Or.inl (Or.inl hj))))⟩
 clear hp3 hk3 ZC c0
 obtain ⟨cm,hcm⟩:=(M5.out.1.sp _ (List.mem_cons_self ..)).map
 obtain ⟨u4,hset,hm4,hg4⟩:=hcm.set (k:=(p:Int)) (v:=0) (by have:=HH.out.2.2.2.2.2.2;unfold maxLen;show a.ln<_;omega) (wf64 (by omega) (by have:=HH.out.1;omega)) (by decide)
 have hset:(Instr.mapUpdate 31 (.map (some a.lb)) (.int .i64 p) (.int .i64 0)).run Tryz.prog u3=.ok () u4:=hset
 have HE:Hid (Supplied Y O n W u4 M m s T S a B p f pa pb pc ro u fr):=by
  obtain ⟨hM,hK⟩:=M5.out
  obtain ⟨q1,q2⟩:=hM.lent hg4 ⟨_,hm4⟩
  obtain ⟨_,_,n4,n5,n6,_⟩:=M4.out
  exact ⟨_,tab2,q1.less (fun j hj=>Or.inl (Or.inl hj)) HM.out.y0,⟨n4.k6,n4.live,n4.room,n4.used,n4.free⟩,n5,n6,hK.trans (q2.sub (fun j hj=>Or.inl (Or.inl hj)))⟩
 have c3:u3.cell? ⟨a.sb,3,none⟩=some (.map (some a.lb)):=(M5.out.1.sp _ (List.mem_cons_self ..)).blk.cell 3
 clear hcm hm4 hg4 M4 M5 M1 M3 G1
 go_wp2_with fail
 go_returns
 exact ⟨f,rfl,HE.out⟩
theorem touch_none {a:Sr} {B:List Sr} (h:Mc Y O n W M m s T S (a::B)) (p:Nat) (ax au af:Bool) (g1 g2 gk ff:Int) (gw gu gx fa fb fc th:Bool) (wi:(Lit.int .i64 a.id).wf=true) (hv:lq (a.lf p)=(⟨ff,fa,fb,fc⟩,th)) (hz:Re.findR a.L p=(⟨g1,g2,gw,gu,gx,gk⟩,false)) :
 Calls Tryz.prog 59 #[pp M.mb,.int .i64 a.id,.int .i64 p,.agg (sn ax au af)] W (re (.tuple #[.int .i64 0,.int .i64 (codeV ax au af th),.int .i64 9]) W):=by
 have CC:Hid (∀ w:World,_):=fun w=>code_any ax au af th w
 have ma:=List.mem_cons_self (a:=a) (l:=B)
 have FC:Hid (∀ w:World,bc W w->Calls Tryz.prog 93 #[.slice a.rp a.L.length a.rc,.int .i64 p] w (re (.tuple #[.agg (sr g1 g2 gw gu gx gk),.bool false]) w)):=fun w hb=>by
  have q:=Re.find_any 0 a.rp a.rc a.L (by have:=(h.sp a ma).few;omega) p w ((h.sp a ma).lis.below hb)
  rw [hz] at q;exact q
 have LC:Hid (∀ w:World,bc W w->Calls Tryz.prog 94 #[pp M.mb,pp a.sb,.int .i64 p] w (re (.tuple #[.int .i64 ff,.agg (sn fa fb fc),.bool th]) w)):=fun w hb=>by
  have q:=leads_any (h.below hb) p
  rw [hv] at q;exact q
 have bb:bc W (W.alloc (.cells (sn ax au af) 84)):=baa
 have lk:(Instr.lookup 60 (.map (some M.sm)) (.int .i64 a.id) false).run Tryz.prog (W.alloc (.cells (sn ax au af) 84))=.ok (.pointer (some ⟨a.sb,0,none⟩)) (W.alloc (.cells (sn ax au af) 84)):=by
  have q:=(h.below bb).map.look wi
  rw [spF_head] at q;exact q
 have HM:Hid (Mc Y O n W M m s T S (a::B)):=h
 have G0:Hid (Blk (W.alloc (.cells (sn ax au af) 84)) W.heap.size (sk ax au af) 84/\bc W (W.alloc (.cells (sn ax au af) 84))):=⟨Blk.made _ _ _,bb⟩
 clear h hz hv wi bb
 go_enter Tryz.func59,Tryz.ntmps59
 go_upto_region 1 with fail
 generalize (W.alloc (.cells (sn ax au af) 84))=W0 at G0 lk |-
 obtain ⟨q,hq⟩: ∃ q,q=W.heap.size:=⟨_,rfl⟩
 have G1:Hid (Blk W0 q (sk ax au af) 84/\bc W W0):=by rw [hq];exact G0.out
 rw [<- hq]
 clear hq G0
 have c6:W0.cell? ⟨M.mb,6,none⟩=some (.map (some M.sm)):=(HM.out.below G1.out.2).mac.cell 6
 have c2:W0.cell? ⟨a.sb,2,none⟩=some (.slice a.rp a.L.length a.rc):=((HM.out.below G1.out.2).sp a ma).blk.cell 2
 go_wp2_with fail
 refine Calls.mono (FC.out _ G1.out.2) ?_
 rintro e w1 ⟨rfl,hb1⟩
 clear c6 c2 lk
 have G2:Hid (Blk (w1.alloc (.cells (sr g1 g2 gw gu gx gk) 75)) q (sk ax au af) 84/\bc W (w1.alloc (.cells (sr g1 g2 gw gu gx gk) 75))/\Blk (w1.alloc (.cells (sr g1 g2 gw gu gx gk) 75)) w1.heap.size (sq g1 g2 gw gu gx gk) 75):=⟨(G1.out.1.below hb1).below baa,below_then (below_then G1.out.2 hb1) baa,Blk.made _ _ _⟩
 clear hb1 G1 FC
 go_upto_region 5 with fail
 generalize (w1.alloc (.cells (sr g1 g2 gw gu gx gk) 75))=w2 at G2 |-
 generalize w1.heap.size=g at G2 |-
 go_wp2_with fail
 refine Calls.mono (LC.out _ G2.out.2.1) ?_
 rintro e w3 ⟨rfl,hb3⟩
 have G3:Hid (Blk (w3.alloc (.cells (sn fa fb fc) 45)) q (sk ax au af) 84/\bc W (w3.alloc (.cells (sn fa fb fc) 45))/\Blk (w3.alloc (.cells (sn fa fb fc) 45)) g (sq g1 g2 gw gu gx gk) 75):=⟨(G2.out.1.below hb3).below baa,below_then (below_then G2.out.2.1 hb3) baa,(G2.out.2.2.below hb3).below baa⟩
 clear hb3 G2 LC
 go_upto_region 6 with fail
 generalize (w3.alloc (.cells (sn fa fb fc) 45))=w4 at G3 |-
 have x0:w4.cell? ⟨q,0,none⟩=some (.bool ax):=G3.out.1.cell 0
 have x1:w4.cell? ⟨q,1,none⟩=some (.bool au):=G3.out.1.cell 1
 have x2:w4.cell? ⟨q,2,none⟩=some (.bool af):=G3.out.1.cell 2
 have y2:w4.cell? ⟨g,2,none⟩=some (.bool gw):=G3.out.2.2.cell 2
 have y3:w4.cell? ⟨g,3,none⟩=some (.bool gu):=G3.out.2.2.cell 3
 have y4:w4.cell? ⟨g,4,none⟩=some (.bool gx):=G3.out.2.2.cell 4
 go_wp2_with fail
 refine Calls.mono (CC.out _) ?_
 rintro e w5 ⟨rfl,hb5⟩
 have BF:Hid (bc W w5):=below_then G3.out.2.1 hb5
 clear hb5 G3 x0 x1 x2 y2 y3 y4
 go_wp2_with fail
 go_returns
 exact ⟨rfl,BF.out⟩
theorem touch_there {a:Sr} {B:List Sr} (h:Mc Y O n W M m s T S (a::B)) (p:Nat) (ax au af:Bool) (g1 g2 gk ff:Int) (gw gu gx fa fb fc:Bool) (wi:(Lit.int .i64 a.id).wf=true) (hv:lq (a.lf p)=(⟨ff,fa,fb,fc⟩,true)) (hz:Re.findR a.L p=(⟨g1,g2,gw,gu,gx,gk⟩,true)) (hm:mayV gw gu gx ax au af=true) :
 Calls Tryz.prog 59 #[pp M.mb,.int .i64 a.id,.int .i64 p,.agg (sn ax au af)] W (re (.tuple #[.int .i64 ff,.int .i64 0,.int .i64 0]) W):=by
 have YC:Hid (∀ w:World,Calls Tryz.prog 34 #[.agg (sn gw gu gx),.agg (sn ax au af)] w (re (.bool true) w)):=fun w=>by
  have q:=may_any gw gu gx ax au af w
  rw [hm] at q;exact q
 clear hm
 have ma:=List.mem_cons_self (a:=a) (l:=B)
 have FC:Hid (∀ w:World,bc W w->Calls Tryz.prog 93 #[.slice a.rp a.L.length a.rc,.int .i64 p] w (re (.tuple #[.agg (sr g1 g2 gw gu gx gk),.bool true]) w)):=fun w hb=>by
  have q:=Re.find_any 0 a.rp a.rc a.L (by have:=(h.sp a ma).few;omega) p w ((h.sp a ma).lis.below hb)
  rw [hz] at q;exact q
 have LC:Hid (∀ w:World,bc W w->Calls Tryz.prog 94 #[pp M.mb,pp a.sb,.int .i64 p] w (re (.tuple #[.int .i64 ff,.agg (sn fa fb fc),.bool true]) w)):=fun w hb=>by
  have q:=leads_any (h.below hb) p
  rw [hv] at q;exact q
 have bb:bc W (W.alloc (.cells (sn ax au af) 84)):=baa
 have lk:(Instr.lookup 60 (.map (some M.sm)) (.int .i64 a.id) false).run Tryz.prog (W.alloc (.cells (sn ax au af) 84))=.ok (.pointer (some ⟨a.sb,0,none⟩)) (W.alloc (.cells (sn ax au af) 84)):=by
  have q:=(h.below bb).map.look wi
  rw [spF_head] at q;exact q
 have HM:Hid (Mc Y O n W M m s T S (a::B)):=h
 have G0:Hid (Blk (W.alloc (.cells (sn ax au af) 84)) W.heap.size (sk ax au af) 84/\bc W (W.alloc (.cells (sn ax au af) 84))):=⟨Blk.made _ _ _,bb⟩
 clear h hz hv wi bb
 go_enter Tryz.func59,Tryz.ntmps59
 go_upto_region 1 with fail
 generalize (W.alloc (.cells (sn ax au af) 84))=W0 at G0 lk |-
 obtain ⟨q,hq⟩: ∃ q,q=W.heap.size:=⟨_,rfl⟩
 have G1:Hid (Blk W0 q (sk ax au af) 84/\bc W W0):=by rw [hq];exact G0.out
 rw [<- hq]
 clear hq G0
 have c6:W0.cell? ⟨M.mb,6,none⟩=some (.map (some M.sm)):=(HM.out.below G1.out.2).mac.cell 6
 have c2:W0.cell? ⟨a.sb,2,none⟩=some (.slice a.rp a.L.length a.rc):=((HM.out.below G1.out.2).sp a ma).blk.cell 2
 go_wp2_with fail
 refine Calls.mono (FC.out _ G1.out.2) ?_
 rintro e w1 ⟨rfl,hb1⟩
 clear c6 c2 lk
 have G2:Hid (Blk (w1.alloc (.cells (sr g1 g2 gw gu gx gk) 75)) q (sk ax au af) 84/\bc W (w1.alloc (.cells (sr g1 g2 gw gu gx gk) 75))/\Blk (w1.alloc (.cells (sr g1 g2 gw gu gx gk) 75)) w1.heap.size (sq g1 g2 gw gu gx gk) 75):=⟨(G1.out.1.below hb1).below baa,below_then (below_then G1.out.2 hb1) baa,Blk.made _ _ _⟩
 clear hb1 G1 FC
 go_upto_region 5 with fail
 generalize (w1.alloc (.cells (sr g1 g2 gw gu gx gk) 75))=w2 at G2 |-
 generalize w1.heap.size=g at G2 |-
 go_wp2_with fail
 refine Calls.mono (LC.out _ G2.out.2.1) ?_
 rintro e w3 ⟨rfl,hb3⟩
 have G3:Hid (Blk (w3.alloc (.cells (sn fa fb fc) 45)) q (sk ax au af) 84/\bc W (w3.alloc (.cells (sn fa fb fc) 45))/\Blk (w3.alloc (.cells (sn fa fb fc) 45)) g (sq g1 g2 gw gu gx gk) 75):=⟨(G2.out.1.below hb3).below baa,below_then (below_then G2.out.2.1 hb3) baa,(G2.out.2.2.below hb3).below baa⟩
 clear hb3 G2 LC
 go_upto_region 6 with fail
 generalize (w3.alloc (.cells (sn fa fb fc) 45))=w4 at G3 |-
 have x0:w4.cell? ⟨q,0,none⟩=some (.bool ax):=G3.out.1.cell 0
 have x1:w4.cell? ⟨q,1,none⟩=some (.bool au):=G3.out.1.cell 1
 have x2:w4.cell? ⟨q,2,none⟩=some (.bool af):=G3.out.1.cell 2
 have y2:w4.cell? ⟨g,2,none⟩=some (.bool gw):=G3.out.2.2.cell 2
 have y3:w4.cell? ⟨g,3,none⟩=some (.bool gu):=G3.out.2.2.cell 3
 have y4:w4.cell? ⟨g,4,none⟩=some (.bool gx):=G3.out.2.2.cell 4
 go_wp2_with fail
 refine Calls.mono (YC.out _) ?_
 rintro e w5 ⟨rfl,hb5⟩
 have BF:Hid (bc W w5):=below_then G3.out.2.1 hb5
 clear hb5 G3 x0 x1 x2 y2 y3 y4
 go_wp2_with fail
 go_returns
 exact ⟨rfl,BF.out⟩
theorem touch_new {a:Sr} {B:List Sr} (h:Mc Y O n W M m s T S (a::B)) (p:Nat) (hp:p<34359738368) (ax au af:Bool) (g1 g2 gk:Int) (gw gu gx:Bool) (wi:(Lit.int .i64 a.id).wf=true) (ht:a.lf p=none) (hz:Re.findR a.L p=(⟨g1,g2,gw,gu,gx,gk⟩,true)) (hm:mayV gw gu gx ax au af=true) {ro u:Int} {fr:Nat} (hN:Nums m s a.k ro u fr) (hr:1+(fresh (pgs a.lf) p:Int)<=ro) (hf:10<=fr-1) (hq:s.q<3000000000000000000) (hl:a.ln<1000000) :
 Calls Tryz.prog 59 #[pp M.mb,.int .i64 a.id,.int .i64 p,.agg (sn ax au af)] W fun e w'=> ∃ f:Nat,e=.returned (.tuple #[.int .i64 f,.int .i64 0,.int .i64 0])/\Supplied Y O n W w' M m s T S a B p f gw gu gx ro u fr:=by
 have hv:lq (a.lf p)=(⟨0,false,false,false⟩,false):=by rw [ht];rfl
 have SC:Hid (∀ w:World,bc W w->Calls Tryz.prog 96 #[pp M.mb,pp a.sb,.int .i64 p,.agg (sn gw gu gx)] w fun e w'=> ∃ f:Nat,e=.returned (.tuple #[.int .i64 f,.int .i64 0])/\Supplied Y O n W w' M m s T S a B p f gw gu gx ro u fr):=fun w hb=>by
  refine (supply_ok (h.below hb) p hp gw gu gx ht hN hr hf hq hl).mono ?_
  rintro e w' ⟨f,he,s',tab',q1,q2,q3,q4,q5⟩
  exact ⟨f,he,s',tab',q1,q2,q3,q4,(kept_of_below hb (fun j hj=>h.pu.lt j (Or.inl hj))).trans q5⟩
 clear hp ht hN hr hf hq hl
 have YC:Hid (∀ w:World,Calls Tryz.prog 34 #[.agg (sn gw gu gx),.agg (sn ax au af)] w (re (.bool true) w)):=fun w=>by
  have q:=may_any gw gu gx ax au af w
  rw [hm] at q;exact q
 clear hm
 have ma:=List.mem_cons_self (a:=a) (l:=B)
 have FC:Hid (∀ w:World,bc W w->Calls Tryz.prog 93 #[.slice a.rp a.L.length a.rc,.int .i64 p] w (re (.tuple #[.agg (sr g1 g2 gw gu gx gk),.bool true]) w)):=fun w hb=>by
  have q:=Re.find_any 0 a.rp a.rc a.L (by have:=(h.sp a ma).few;omega) p w ((h.sp a ma).lis.below hb)
  rw [hz] at q;exact q
 have LC:Hid (∀ w:World,bc W w->Calls Tryz.prog 94 #[pp M.mb,pp a.sb,.int .i64 p] w (re (.tuple #[.int .i64 0,.agg si1,.bool false]) w)):=fun w hb=>by
  have q:=leads_any (h.below hb) p
  rw [hv] at q;exact q
 have bb:bc W (W.alloc (.cells (sn ax au af) 84)):=baa
 have lk:(Instr.lookup 60 (.map (some M.sm)) (.int .i64 a.id) false).run Tryz.prog (W.alloc (.cells (sn ax au af) 84))=.ok (.pointer (some ⟨a.sb,0,none⟩)) (W.alloc (.cells (sn ax au af) 84)):=by
  have q:=(h.below bb).map.look wi
  rw [spF_head] at q;exact q
 have HM:Hid (Mc Y O n W M m s T S (a::B)):=h
 have G0:Hid (Blk (W.alloc (.cells (sn ax au af) 84)) W.heap.size (sk ax au af) 84/\bc W (W.alloc (.cells (sn ax au af) 84))):=⟨Blk.made _ _ _,bb⟩
 clear h hz hv wi bb
 go_enter Tryz.func59,Tryz.ntmps59
 go_upto_region 1 with fail
 generalize (W.alloc (.cells (sn ax au af) 84))=W0 at G0 lk |-
 obtain ⟨q,hq⟩: ∃ q,q=W.heap.size:=⟨_,rfl⟩
 have G1:Hid (Blk W0 q (sk ax au af) 84/\bc W W0):=by rw [hq];exact G0.out
 rw [<- hq]
 clear hq G0
 have c6:W0.cell? ⟨M.mb,6,none⟩=some (.map (some M.sm)):=(HM.out.below G1.out.2).mac.cell 6
 have c2:W0.cell? ⟨a.sb,2,none⟩=some (.slice a.rp a.L.length a.rc):=((HM.out.below G1.out.2).sp a ma).blk.cell 2
 go_wp2_with fail
 refine Calls.mono (FC.out _ G1.out.2) ?_
 rintro e w1 ⟨rfl,hb1⟩
 clear c6 c2 lk
 have G2:Hid (Blk (w1.alloc (.cells (sr g1 g2 gw gu gx gk) 75)) q (sk ax au af) 84/\bc W (w1.alloc (.cells (sr g1 g2 gw gu gx gk) 75))/\Blk (w1.alloc (.cells (sr g1 g2 gw gu gx gk) 75)) w1.heap.size (sq g1 g2 gw gu gx gk) 75):=⟨(G1.out.1.below hb1).below baa,below_then (below_then G1.out.2 hb1) baa,Blk.made _ _ _⟩
 clear hb1 G1 FC
 go_upto_region 5 with fail
 generalize (w1.alloc (.cells (sr g1 g2 gw gu gx gk) 75))=w2 at G2 |-
 generalize w1.heap.size=g at G2 |-
 go_wp2_with fail
 refine Calls.mono (LC.out _ G2.out.2.1) ?_
 rintro e w3 ⟨rfl,hb3⟩
 have G3:Hid (Blk (w3.alloc (.cells si1 45)) q (sk ax au af) 84/\bc W (w3.alloc (.cells si1 45))/\Blk (w3.alloc (.cells si1 45)) g (sq g1 g2 gw gu gx gk) 75):=⟨(G2.out.1.below hb3).below baa,below_then (below_then G2.out.2.1 hb3) baa,(G2.out.2.2.below hb3).below baa⟩
 clear hb3 G2 LC
 go_upto_region 6 with fail
 generalize (w3.alloc (.cells si1 45))=w4 at G3 |-
 have x0:w4.cell? ⟨q,0,none⟩=some (.bool ax):=G3.out.1.cell 0
 have x1:w4.cell? ⟨q,1,none⟩=some (.bool au):=G3.out.1.cell 1
 have x2:w4.cell? ⟨q,2,none⟩=some (.bool af):=G3.out.1.cell 2
 have y2:w4.cell? ⟨g,2,none⟩=some (.bool gw):=G3.out.2.2.cell 2
 have y3:w4.cell? ⟨g,3,none⟩=some (.bool gu):=G3.out.2.2.cell 3
 have y4:w4.cell? ⟨g,4,none⟩=some (.bool gx):=G3.out.2.2.cell 4
 go_wp2_with fail
 refine Calls.mono (YC.out _) ?_
 rintro e w5 ⟨rfl,hb5⟩
 have G5:Hid (Blk w5 g (sq g1 g2 gw gu gx gk) 75/\bc W w5):=⟨G3.out.2.2.below hb5,below_then G3.out.2.1 hb5⟩
 clear hb5 G3 x0 x1 x2 y2 y3 y4
 have y2:w5.cell? ⟨g,2,none⟩=some (.bool gw):=G5.out.1.cell 2
 have y3:w5.cell? ⟨g,3,none⟩=some (.bool gu):=G5.out.1.cell 3
 have y4:w5.cell? ⟨g,4,none⟩=some (.bool gx):=G5.out.1.cell 4
 go_wp2_with fail
 refine Calls.mono (SC.out _ G5.out.2) ?_
 rintro e w6 ⟨f,rfl,hS⟩
 have HE:Hid (Supplied Y O n W w6 M m s T S a B p f gw gu gx ro u fr):=hS
 clear hS G5 y2 y3 y4 SC
 go_wp2_with fail
 go_returns
 exact ⟨f,rfl,HE.out⟩
theorem below_of_kept {W W':World} (h:Kept (fun j=>j<W.heap.size) W W'):bc W W':=⟨h.os,h.tape,h.output,h.size,h.block⟩
theorem one_wf:(Lit.int .i64 1).wf=true:=by decide
abbrev sr0 (id:Int) (j sb k root lb:Nat):Sr:=⟨id,j,sb,k,root,tab1 root,fun _=>none,none,0,[],lb,0,Pc.noneF⟩
theorem add_first (f t:Int) (pa pb pc:Bool) (h0:0<=f) (h1:f<t) (h2:t<=34359738368) (h3:t-f<=65536):Re.errA (Re.addN [] ⟨f,t,pa,pb,pc,0⟩) (Re.addL [] ⟨f,t,pa,pb,pc,0⟩)=0/\Re.addL [] ⟨f,t,pa,pb,pc,0⟩=[⟨f,t,pa,pb,pc,0⟩]:=by
 have e:Re.addL [] ⟨f,t,pa,pb,pc,0⟩=[⟨f,t,pa,pb,pc,0⟩]:=by
  show Re.withL [] ⟨f,t,pa,pb,pc,0⟩=_
  unfold Re.withL
  rw [if_neg (by show ¬ t<=f;omega),if_neg (by simp)]
  rfl
 refine ⟨?_,e⟩
 rw [e]
 have c:Re.checkN [] f t=0:=by
  unfold Re.checkN
  rw [if_pos (by unfold Re.rightB;simp;omega),if_pos (show Re.goodB []=true from rfl)]
 unfold Re.errA Re.addN
 simp only
 rw [c,if_pos rfl]
 rfl
theorem cellsI:Tryz.prog.cellsOf 3=1:=ka
def IsInts (w:World) (p:Option Addr) (n:Nat) (A:Nat->Int):Prop:= ∀ i,i<n-> ∃ b o,p=some ⟨b,o,none⟩/\b<w.heap.size/\w.cell? ⟨b,o+i,none⟩=some (.int .i64 (A i))/\(Lit.int .i64 (A i)).wf=true
theorem open_ints {H:Type} {enc:TypeId × Value->H} {W:World} {base:Nat} {sp:Nat->Bool} {held:Bool} {v:Value} {x:DataW H} {ps:List MemPlace} {r:Reach} {b0:Nat}
 (hv:Value.okWide Tryz.prog W r b0 22 v) (h:DataW.Trod enc Tryz.prog W base sp held 22 v x ps) :
 ∃ (p:Option Addr) (n c:Nat) (A:Nat->Int),v=.slice p n c/\n<=maxLen/\IsInts W p n A:=by
 obtain ⟨a',l',c',rfl⟩:=okWide_slice Tryz.underlying22 hv
 obtain ⟨fuel,hf⟩:=h
 rcases Go.Deep.open_slice Tryz.underlying22 hf with ⟨e,_⟩ | ⟨a,len,cap,m,k,D,Pl,e,hb,hl,hm,hmm,hx,hel⟩
 . have e':Value.slice a' l' c'=.slice none 0 0:=(List.cons.inj (show [Value.slice a' l' c']=[.slice none 0 0] from e)).1
   exact ⟨none,0,0,fun _=>0,e',by omega,fun i hi=>absurd hi (Nat.not_lt_zero _)⟩
 . have e':Value.slice a' l' c'=.slice (some a) len cap:=(List.cons.inj (show [Value.slice a' l' c']=[.slice (some a) len cap] from e)).1
   have hlm:len<=m:=by rw [hmm];split <;> omega
   rw [e']
   have each: ∀ i,i<len-> ∃ q:Int,a.spot=none/\a.block<W.heap.size/\W.cell? ⟨a.block,a.off+i,none⟩=some (.int .i64 q)/\(Lit.int .i64 q).wf=true:=fun i hi=>by
    obtain ⟨cs',h1,h2⟩:=hel i (by omega)
    obtain ⟨c2',h3,_⟩:=hel 0 (by omega)
    rw [cellsI] at h1 h3
    obtain ⟨_,hlen,hcell⟩:=World.cells?_some h1
    obtain ⟨_,hlen3,hcell3⟩:=World.cells?_some h3
    have hspot:a.spot=none:=by
     have:=hcell3 0 (by omega)
     simpa [Addr.add] using World.cell?_spot (this.trans (List.getElem?_eq_getElem (by omega)))
    obtain ⟨q1,e1,_,w1⟩:=DataW.trod_int Tryz.underlying3 h2
    have ad:(a.add (i*1)).add 0=⟨a.block,a.off+i,none⟩:=by
     rw [Go.Deep.add_add]
     unfold Addr.add
     by_cases c:i*1+0=0
     . rw [if_pos c]
       have:i=0:=by omega
       obtain ⟨bb,oo,ss⟩:=a
       simp only at hspot
       subst hspot
       simp [this]
     . rw [if_neg c];simp;try omega
    have c1:=hcell 0 (by omega)
    rw [ad,e1] at c1
    have c2:W.cell? ⟨a.block,a.off+i,none⟩=some (.int .i64 q1):=c1
    exact ⟨q1,hspot,(by have:=lt_of_cell c2;exact this),c2,w1⟩
   obtain ⟨q,hq⟩:=Go.Deep.choose_lt each
   refine ⟨some a,len,cap,q,rfl,by omega,fun i hi=> ?_⟩
   obtain ⟨s,l,c1,w1⟩:=hq i hi
   obtain ⟨bb,oo,ss⟩:=a
   simp only at s
   subst s
   exact ⟨bb,oo,rfl,l,c1,w1⟩
theorem MapP.mono {w:World} {b n n':Nat} {f:Int->Option Nat} (h:MapP w b n f) (hn:n<=n'):MapP w b n' f:=by
 obtain ⟨D,hown,hD⟩:=h
 exact ⟨D,hown.mono hn,hD⟩
theorem Mc.tagsN {A:List Sr} {W':World} {n':Nat} {S':Pc.Tg} (h:Mc Y O n W M m s T S A) (hT:Pc.IsTags W' M.tg M.tm M.ow n' S') (hk:Pc.Kp M.tg M.tm M.ow W W') (hn:n<=n'):Mc Y O n' W' M m s T S' A/\Kx Y W W':=by
 have nx: ∀ b,O b≠3->b≠M.tg/\b≠M.tm/\b≠M.ow:=fun b c=>⟨fun e=>c (by rw [e];exact h.o3.1),fun e=>c (by rw [e];exact h.o3.2.1),fun e=>c (by rw [e];exact h.o3.2.2)⟩
 have lm: ∀ b,b<W.heap.size->O b≠3->W'.heap[b]? =W.heap[b]? :=fun b l c=>hk.block b l (nx b c).1 (nx b c).2.1 (nx b c).2.2
 have lo: ∀ b,O b≠0->O b≠3->W'.heap[b]? =W.heap[b]? :=fun b c d=>lm b (h.lt b c) d
 have y3: ∀ j,Y j->O j≠3:=fun j hj=>by rw [h.yo j hj];omega
 refine ⟨⟨(h.pu.other hk.size (fun j hj hn=>lm j hj (fun e=>hn (Or.inr (by omega)))) (lm 0 (h.pu.lt 0 (Or.inl h.y0)) (y3 0 h.y0))).less (fun j hj=>Or.inl hj) (Or.inl h.y0),h.y0,h.yo,(lo _ (by rw [h.o1];omega) (by rw [h.o1];omega)).trans h.mac,tlb_block h.tlb hk.size (lo _ (by rw [h.o2];omega) (by rw [h.o2];omega)),hT,(h.map.block (lo _ (by rw [h.o4];omega) (by rw [h.o4];omega))).mono hn,h.o1,h.o2,h.o3,h.o4,fun a ha=>(h.sp a ha).keep hk.size fun b hl b1 b2=>⟨lo b (by omega) (by omega),rfl⟩,h.rt,h.ni,h.nj,h.dj,h.dat,h.kf⟩,⟨hk.os,hk.tape,hk.output,hk.size,fun j hj=>lm j (h.pu.lt j (Or.inl hj)) (y3 j hj)⟩⟩
theorem Mc.tlbN {A:List Sr} {W':World} {T':Nat->Tl.Ln} (h:Mc Y O n W M m s T S A) (hT:Tl.IsTlb W' M.tl T') (hg:W.grownBy W' (some M.tl)):Mc Y O n W' M m s T' S A/\Kx Y W W':=by
 have lm: ∀ b,b<W.heap.size->O b≠2->W'.heap[b]? =W.heap[b]? :=fun b l c=>hg.block b l (fun e=>c (by rw [sia e];exact h.o2))
 have lo: ∀ b,O b≠0->O b≠2->W'.heap[b]? =W.heap[b]? :=fun b c d=>lm b (h.lt b c) d
 have y2: ∀ j,Y j->O j≠2:=fun j hj=>by rw [h.yo j hj];omega
 refine ⟨⟨(h.pu.other hg.size (fun j hj hn=>lm j hj (fun e=>hn (Or.inr (by omega)))) (lm 0 (h.pu.lt 0 (Or.inl h.y0)) (y2 0 h.y0))).less (fun j hj=>Or.inl hj) (Or.inl h.y0),h.y0,h.yo,(lo _ (by rw [h.o1];omega) (by rw [h.o1];omega)).trans h.mac,hT,h.tgs.kept fun b _ hb=> ?_,h.map.block (lo _ (by rw [h.o4];omega) (by rw [h.o4];omega)),h.o1,h.o2,h.o3,h.o4,fun a ha=>(h.sp a ha).keep hg.size fun b hl b1 b2=>⟨lo b (by omega) (by omega),rfl⟩,h.rt,h.ni,h.nj,h.dj,h.dat,h.kf⟩,⟨hg.os,hg.tape,hg.output,hg.size,fun j hj=>lm j (h.pu.lt j (Or.inl hj)) (y2 j hj)⟩⟩
 have o:O b=3:=by rcases hb with rfl | rfl | rfl;exact h.o3.1;exact h.o3.2.1;exact h.o3.2.2
 exact lo b (by omega) (by omega)
def tagT (T:Nat->Tl.Ln) (over:Bool):Nat->Tl.Ln:=if over then Tl.dropT T (fun l=> !true || !l.g) 16 else T
theorem tag_ok {A:List Sr} (h:Mc Y O n W M m s T S A) (id:Int) (wi:(Lit.int .i64 id).wf=true) (hO:Pc.Ok S) (hg:S.gen<4611686018427387904) (nn:n<1000000) :
 Calls Tryz.prog 31 #[pp M.mb,.int .i64 id] W fun e w'=>e=.returned (.int .i64 (Pc.getV S id))/\Mc Y O (n+1) w' M m s (tagT T (Pc.getB S id)) (Pc.getS S id) A/\Kx Y W w':=by
 have GC:Hid _:=Pc.get_any M.tg M.tm M.ow n S id wi hO hg (by unfold maxLen;omega) W h.tgs
 have HM:Hid (Mc Y O n W M m s T S A):=h
 have AC:Hid (∀ w:World,Mc Y O (n+1) w M m s T (Pc.getS S id) A->Calls Tryz.prog 57 #[pp M.tl,.bool true] w fun e w'=>e=.returned (.tuple #[])/\Mc Y O (n+1) w' M m s (tagT T true) (Pc.getS S id) A/\Kx Y w w'):=fun w hw=>by
  refine (Tl.all_any M.tl T true w hw.tlb).mono ?_
  rintro e w' ⟨he,h1,h2⟩
  exact ⟨he,hw.tlbN h1 h2⟩
 have c4:W.cell? ⟨M.mb,4,none⟩=some (pp M.tg):=h.mac.cell 4
 clear h wi hO hg nn
 generalize Pc.getV S id=v at GC |-
 generalize Pc.getB S id=ov at GC |-
 generalize Pc.getS S id=S2 at GC AC |-
 cases ov
 . go_enter Tryz.func31,Tryz.ntmps31
   go_wp2_with fail
   refine Calls.mono GC.out ?_
   rintro e w1 ⟨rfl,h1,h2⟩
   have H1:Hid (Mc Y O (n+1) w1 M m s T S2 A/\Kx Y W w1):=HM.out.tagsN h1 h2 (Nat.le_succ n)
   clear h1 h2 GC c4
   go_wp2_with fail
   go_returns
   exact ⟨rfl,H1.out.1,H1.out.2⟩
 . go_enter Tryz.func31,Tryz.ntmps31
   go_wp2_with fail
   refine Calls.mono GC.out ?_
   rintro e w1 ⟨rfl,h1,h2⟩
   have H1:Hid (Mc Y O (n+1) w1 M m s T S2 A/\Kx Y W w1):=HM.out.tagsN h1 h2 (Nat.le_succ n)
   have c3:w1.cell? ⟨M.mb,3,none⟩=some (pp M.tl):=H1.out.1.mac.cell 3
   clear h1 h2 GC c4
   go_wp2_with fail
   refine Calls.mono (AC.out _ H1.out.1) ?_
   rintro e w2 ⟨rfl,h1,h2⟩
   have H2:Hid (Mc Y O (n+1) w2 M m s (tagT T true) S2 A/\Kx Y W w2):=⟨h1,H1.out.2.trans h2⟩
   clear h1 h2 AC H1 c3
   go_wp2_with fail
   go_returns
   exact ⟨rfl,H2.out.1,H2.out.2⟩
end
end Go.Proofs.YtgbdnnkkcpkhdaaGreatDoor.Sp
