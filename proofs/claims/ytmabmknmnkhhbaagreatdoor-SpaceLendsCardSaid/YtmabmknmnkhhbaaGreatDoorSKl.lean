import Derived.Test.YtmabmknmnkhhbaaGreatDoorSXl
import Derived.Sort.BigQuietIn
import Derived.Test.YtmabmknmnkhhbaaGreatDoorSWl
import Derived.Shelf.SlIterI.Nil
import Derived.Shelf.SortM.Plain
import Derived.Shelf.SortM.SortNone
import Derived.Ground.GgzProg
import Derived.Ground.SlgmProg
namespace Go.Proofs.YtmabmknmnkhhbaaGreatDoor.Sp
open Go.ChangeShapes Go.WideShapes Go.ChangeAt Go.RowKit Go.Maps
open Go.Proofs.YtmabmknmnkhhbaaGreatDoor.Tt
set_option linter.unusedSimpArgs false
set_option linter.unusedVariables false
set_option maxRecDepth 8000
theorem spF_swap {a b:Sr} (A:List Sr) (h:a.id≠b.id):spF (a::b::A)=spF (b::a::A):=by
 funext i
 show (if i=a.id then some a.sb else if i=b.id then some b.sb else spF A i)=(if i=b.id then some b.sb else if i=a.id then some a.sb else spF A i)
 by_cases c1:i=a.id
 . have c2:i≠b.id:=fun e=>h (c1.symm.trans e)
   rw [if_pos c1,if_neg c2,if_pos c1]
 . rw [if_neg c1,if_neg c1]
theorem Mc.swap {Y:Nat->Prop} {O:Nat->Nat} {n:Nat} {W:World} {M:Mb} {m:Pm} {s:Ps} {T:Nat->Tl.Ln} {S:Pc.Tg} {a b:Sr} {B:List Sr} (h:Mc Y O n W M m s T S (a::b::B)):Mc Y O n W M m s T S (b::a::B):=by
 have mm: ∀ x,x∈b::a::B->x∈a::b::B:=fun x hx=>by
  simp only [List.mem_cons] at hx |-
  rcases hx with q | q | q
  . exact Or.inr (Or.inl q)
  . exact Or.inl q
  . exact Or.inr (Or.inr q)
 have ni:=h.ni
 have nj:=h.nj
 have ne:a.id≠b.id:=by
  simp only [List.map_cons,List.nodup_cons,List.mem_cons,not_or] at ni
  exact ni.1.1
 refine ⟨h.pu,h.y0,h.yo,h.mac,h.tlb,h.tgs,?_,h.o1,h.o2,h.o3,h.o4,fun x hx=>h.sp x (mm x hx),fun x hx=>h.rt x (mm x hx),?_,?_,fun x hx y hy=>h.dj x (mm x hx) y (mm y hy),fun x hx p v e=> ?_,h.kf⟩
 . rw [<- spF_swap B ne];exact h.map
 . simp only [List.map_cons,List.nodup_cons,List.mem_cons,not_or] at ni |-
   exact ⟨⟨fun e=>ni.1.1 e.symm,ni.2.1⟩,ni.1.2,ni.2.2⟩
 . simp only [List.map_cons,List.nodup_cons,List.mem_cons,not_or] at nj |-
   exact ⟨⟨fun e=>nj.1.1 e.symm,nj.2.1⟩,nj.1.2,nj.2.2⟩
 . obtain ⟨h1,f,h2,h3,h4,h5⟩:=h.dat x (mm x hx) p v e
   exact ⟨h1,f,h2,h3,h4,fun y hy=>h5 y (mm y hy)⟩
theorem look_ok {w:World} {b n:Nat} {f:Int->Option Int} (h:Pc.MapI w b n f) {k:Int} (hk:(Lit.int .i64 k).wf=true) :
 (Instr.lookup 110 (.map (some b)) (.int .i64 k) true).run Tryz.prog w=.ok (.tuple #[.int .i64 ((f k).getD 0),.bool (f k).isSome]) w:=by
 obtain ⟨c,h⟩:=h
 exact h.look hk
set_option maxHeartbeats 2000000 in
theorem lendable_none {Y:Nat->Prop} {O:Nat->Nat} {n:Nat} {W:World} {M:Mb} {m:Pm} {s:Ps} {T:Nat->Tl.Ln} {S:Pc.Tg} {a:Sr} {B:List Sr} (h:Mc Y O n W M m s T S (a::B)) (p:Int) (hp:(Lit.int .i64 p).wf=true) (pw pu px:Bool) (hl:a.lt p=none) :
 Calls Tryz.prog 50 #[pp a.sb,.int .i64 p,.agg #[.bool pw,.bool pu,.bool px]] W fun e w'=>e=.returned (.int .i64 5)/\Below W.heap.size W w':=by
 have ma:=List.mem_cons_self (a:=a) (l:=B)
 have bb:Below W.heap.size W (W.alloc (.cells #[.bool pw,.bool pu,.bool px] 58)):=Go.Joins.below_alloc1 _ _
 have lk:(Instr.lookup 110 (.map (some a.lb)) (.int .i64 p) true).run Tryz.prog (W.alloc (.cells #[.bool pw,.bool pu,.bool px] 58))=.ok (.tuple #[.int .i64 0,.bool false]) (W.alloc (.cells #[.bool pw,.bool pu,.bool px] 58)):=by
  have q:=look_ok ((h.below bb).sp a ma).map hp
  rw [hl] at q;exact q
 have c3:(W.alloc (.cells #[.bool pw,.bool pu,.bool px] 58)).cell? ⟨a.sb,3,none⟩=some (.map (some a.lb)):=((h.below bb).sp a ma).blk.cell 3
 have HB:Hid (Below W.heap.size W (W.alloc (.cells #[.bool pw,.bool pu,.bool px] 58))):=bb
 clear h bb hl
 go_enter Tryz.func50,Tryz.ntmps50
 go_upto_region 1 with fail
 generalize (W.alloc (.cells #[.bool pw,.bool pu,.bool px] 58))=W1 at HB lk c3 |-
 go_wp2_with fail
 go_returns
 exact ⟨rfl,HB.out⟩
set_option maxHeartbeats 2000000 in
theorem lendable_ok {Y:Nat->Prop} {O:Nat->Nat} {n:Nat} {W:World} {M:Mb} {m:Pm} {s:Ps} {T:Nat->Tl.Ln} {S:Pc.Tg} {a:Sr} {B:List Sr} (h:Mc Y O n W M m s T S (a::B)) (p:Nat) (hp:(Lit.int .i64 (p:Nat)).wf=true) (pw pu px:Bool) {z:Int} (hl:a.lt p=some z) (g1 g2 gk:Int) (gw gu gx gf:Bool) (hz:Re.findR a.L p=(⟨g1,g2,gw,gu,gx,gk⟩,gf)) :
 Calls Tryz.prog 50 #[pp a.sb,.int .i64 p,.agg #[.bool pw,.bool pu,.bool px]] W fun e w'=>e=.returned (.int .i64 (if ((pw && !gw) || (px && !gx))=true then 10 else 0))/\Below W.heap.size W w':=by
 have ma:=List.mem_cons_self (a:=a) (l:=B)
 have bb:Below W.heap.size W (W.alloc (.cells #[.bool pw,.bool pu,.bool px] 58)):=Go.Joins.below_alloc1 _ _
 have lk:(Instr.lookup 110 (.map (some a.lb)) (.int .i64 (p:Nat)) true).run Tryz.prog (W.alloc (.cells #[.bool pw,.bool pu,.bool px] 58))=.ok (.tuple #[.int .i64 z,.bool true]) (W.alloc (.cells #[.bool pw,.bool pu,.bool px] 58)):=by
  have q:=look_ok ((h.below bb).sp a ma).map hp
  rw [hl] at q;exact q
 have c3:(W.alloc (.cells #[.bool pw,.bool pu,.bool px] 58)).cell? ⟨a.sb,3,none⟩=some (.map (some a.lb)):=((h.below bb).sp a ma).blk.cell 3
 have c2:(W.alloc (.cells #[.bool pw,.bool pu,.bool px] 58)).cell? ⟨a.sb,2,none⟩=some (.slice a.rp a.L.length a.rc):=((h.below bb).sp a ma).blk.cell 2
 have FC:Hid (∀ w:World,Below W.heap.size W w->Calls Tryz.prog 54 #[.slice a.rp a.L.length a.rc,.int .i64 p] w fun e w'=>e=.returned (.tuple #[.agg #[.int .i64 g1,.int .i64 g2,.bool gw,.bool gu,.bool gx,.int .i64 gk],.bool gf])/\Below w.heap.size w w'):=fun w hb=>by
  have q:=Re.find_any 0 a.rp a.rc a.L (by have:=(h.sp a ma).few;omega) p w ((h.sp a ma).lis.below hb)
  rw [hz] at q;exact q
 have HB:Hid (Below W.heap.size W (W.alloc (.cells #[.bool pw,.bool pu,.bool px] 58))/\Blk (W.alloc (.cells #[.bool pw,.bool pu,.bool px] 58)) W.heap.size [.bool pw,.bool pu,.bool px] 58):=⟨bb,Blk.made _ _ _⟩
 clear h bb hl hz
 go_enter Tryz.func50,Tryz.ntmps50
 go_upto_region 1 with fail
 generalize (W.alloc (.cells #[.bool pw,.bool pu,.bool px] 58))=W1 at HB lk c3 c2 |-
 obtain ⟨q,hq⟩: ∃ q,q=W.heap.size:=⟨_,rfl⟩
 have H1:Hid (Below W.heap.size W W1/\Blk W1 q [.bool pw,.bool pu,.bool px] 58):=by rw [hq];exact HB.out
 rw [<- hq]
 clear hq HB
 go_wp2_with fail
 refine Calls.mono (FC.out _ H1.out.1) ?_
 rintro e w2 ⟨rfl,hb2⟩
 have G2:Hid (Below W.heap.size W (w2.alloc (.cells #[.int .i64 g1,.int .i64 g2,.bool gw,.bool gu,.bool gx,.int .i64 gk] 135))/\Blk (w2.alloc (.cells #[.int .i64 g1,.int .i64 g2,.bool gw,.bool gu,.bool gx,.int .i64 gk] 135)) q [.bool pw,.bool pu,.bool px] 58/\Blk (w2.alloc (.cells #[.int .i64 g1,.int .i64 g2,.bool gw,.bool gu,.bool gx,.int .i64 gk] 135)) w2.heap.size [.int .i64 g1,.int .i64 g2,.bool gw,.bool gu,.bool gx,.int .i64 gk] 135):=⟨below_then (below_then H1.out.1 hb2) (Go.Joins.below_alloc1 _ _),(H1.out.2.below hb2).below (Go.Joins.below_alloc1 _ _),Blk.made _ _ _⟩
 clear hb2 H1 FC lk c3 c2
 go_upto_region 5 with fail
 generalize (w2.alloc (.cells #[.int .i64 g1,.int .i64 g2,.bool gw,.bool gu,.bool gx,.int .i64 gk] 135))=w3 at G2 |-
 obtain ⟨g,hg⟩: ∃ g,g=w2.heap.size:=⟨_,rfl⟩
 have G3:Hid (Below W.heap.size W w3/\Blk w3 q [.bool pw,.bool pu,.bool px] 58/\Blk w3 g [.int .i64 g1,.int .i64 g2,.bool gw,.bool gu,.bool gx,.int .i64 gk] 135):=by rw [hg];exact G2.out
 rw [<- hg]
 clear hg G2
 have x0:w3.cell? ⟨q,0,none⟩=some (.bool pw):=G3.out.2.1.cell 0
 have x2:w3.cell? ⟨q,2,none⟩=some (.bool px):=G3.out.2.1.cell 2
 have y2:w3.cell? ⟨g,2,none⟩=some (.bool gw):=G3.out.2.2.cell 2
 have y4:w3.cell? ⟨g,4,none⟩=some (.bool gx):=G3.out.2.2.cell 4
 cases pw <;> cases px <;> cases gw <;> cases gx <;> (go_wp2_with fail;go_returns;exact ⟨rfl,G3.out.1⟩)
end Go.Proofs.YtmabmknmnkhhbaaGreatDoor.Sp
namespace Go.Proofs.YtmabmknmnkhhbaaGreatDoor.Sp
open Go.ChangeShapes Go.WideShapes Go.ChangeAt Go.RowKit Go.Maps
open Go.Proofs.YtmabmknmnkhhbaaGreatDoor.Tt
set_option linter.unusedSimpArgs false
set_option linter.unusedVariables false
set_option maxRecDepth 8000
theorem spF_two {a b:Sr} (A:List Sr) (h:b.id≠a.id):spF (a::b::A) b.id=some b.sb:=by
 show (if b.id=a.id then some a.sb else if b.id=b.id then some b.sb else spF A b.id)=_
 rw [if_neg h,if_pos rfl]
set_option maxHeartbeats 2000000 in
theorem lend_no {Y:Nat->Prop} {O:Nat->Nat} {n:Nat} {W:World} {M:Mb} {m:Pm} {s:Ps} {T:Nat->Tl.Ln} {S:Pc.Tg} {a b:Sr} {B:List Sr} (h:Mc Y O n W M m s T S (a::b::B)) (ab:b.id≠a.id) (wa:(Lit.int .i64 a.id).wf=true) (wb:(Lit.int .i64 b.id).wf=true) (p t:Int) (pw pu px:Bool) (z:Int) (z0:z≠0)
 (hl: ∀ w:World,Below W.heap.size W w->Calls Tryz.prog 50 #[pp a.sb,.int .i64 p,.agg #[.bool pw,.bool pu,.bool px]] w fun e w'=>e=.returned (.int .i64 z)/\Below w.heap.size w w') :
 Calls Tryz.prog 18 #[pp M.mb,.int .i64 a.id,.int .i64 p,.int .i64 b.id,.int .i64 t,.agg #[.bool pw,.bool pu,.bool px]] W fun e w'=>e=.returned (.int .i64 z)/\Below W.heap.size W w':=by
 have bb:Below W.heap.size W (W.alloc (.cells #[.bool pw,.bool pu,.bool px] 58)):=Go.Joins.below_alloc1 _ _
 have l1:(Instr.lookup 41 (.map (some M.sm)) (.int .i64 a.id) false).run Tryz.prog (W.alloc (.cells #[.bool pw,.bool pu,.bool px] 58)).drew=.ok (.pointer (some ⟨a.sb,0,none⟩)) (W.alloc (.cells #[.bool pw,.bool pu,.bool px] 58)).drew:=by
  have q:=((h.below bb).map.block (w':=(W.alloc (.cells #[.bool pw,.bool pu,.bool px] 58)).drew) rfl).look wa
  rw [spF_head] at q;exact q
 have l2:(Instr.lookup 41 (.map (some M.sm)) (.int .i64 b.id) false).run Tryz.prog (W.alloc (.cells #[.bool pw,.bool pu,.bool px] 58)).drew=.ok (.pointer (some ⟨b.sb,0,none⟩)) (W.alloc (.cells #[.bool pw,.bool pu,.bool px] 58)).drew:=by
  have q:=((h.below bb).map.block (w':=(W.alloc (.cells #[.bool pw,.bool pu,.bool px] 58)).drew) rfl).look wb
  rw [spF_two _ ab] at q;exact q
 have c6:(W.alloc (.cells #[.bool pw,.bool pu,.bool px] 58)).cell? ⟨M.mb,6,none⟩=some (.map (some M.sm)):=(h.below bb).mac.cell 6
 have HB:Hid (Below W.heap.size W (W.alloc (.cells #[.bool pw,.bool pu,.bool px] 58))/\Blk (W.alloc (.cells #[.bool pw,.bool pu,.bool px] 58)) W.heap.size [.bool pw,.bool pu,.bool px] 58):=⟨bb,Blk.made _ _ _⟩
 have LC:Hid (_):=hl
 have dz:decide (z=0)=false:=by simp [z0]
 clear h bb hl
 go_enter Tryz.func18,Tryz.ntmps18
 go_upto_region 1 with fail
 generalize (W.alloc (.cells #[.bool pw,.bool pu,.bool px] 58))=W1 at HB l1 l2 c6 |-
 obtain ⟨q,hq⟩: ∃ q,q=W.heap.size:=⟨_,rfl⟩
 have H1:Hid (Below W.heap.size W W1/\Blk W1 q [.bool pw,.bool pu,.bool px] 58):=by rw [hq];exact HB.out
 rw [<- hq]
 clear hq HB
 have x0:W1.cell? ⟨q,0,none⟩=some (.bool pw):=H1.out.2.cell 0
 have x1:W1.cell? ⟨q,1,none⟩=some (.bool pu):=H1.out.2.cell 1
 have x2:W1.cell? ⟨q,2,none⟩=some (.bool px):=H1.out.2.cell 2
 go_region
 go_wp2_with fail
 refine Calls.mono (LC.out _ (below_drew H1.out.1)) ?_
 rintro e w2 ⟨rfl,hb2⟩
 have HB:Hid (Below W.heap.size W w2):=below_then (below_drew H1.out.1) hb2
 clear hb2 H1 LC
 go_wp2_with fail
 go_returns
 exact ⟨rfl,HB.out⟩
end Go.Proofs.YtmabmknmnkhhbaaGreatDoor.Sp
namespace Go.Proofs.YtmabmknmnkhhbaaGreatDoor.Sp
open Go.ChangeShapes Go.WideShapes Go.ChangeAt Go.RowKit Go.Maps
open Go.Proofs.YtmabmknmnkhhbaaGreatDoor.Tt
set_option linter.unusedSimpArgs false
set_option linter.unusedVariables false
set_option maxRecDepth 8000
theorem Mc.adopt {Y:Nat->Prop} {O:Nat->Nat} {n:Nat} {W:World} {M:Mb} {m:Pm} {s:Ps} {T:Nat->Tl.Ln} {S:Pc.Tg} {a:Sr} {B:List Sr} (h:Mc Y O n W M m s T S (a::B)) (Y0:Nat->Prop) (hY: ∀ j,Y0 j->Y j) (y0:Y0 0) {p':Option Addr} {c':Nat} {L':List Re.Rg} (hl:Re.IsL W 0 p' L') (hp: ∀ g,p'=some ⟨g,0,none⟩->0<L'.length->Y g/\ ¬ Y0 g) (hc:L'.length<=c') (h64:L'.length<=64) :
 ∃ O',Mc Y0 O' n (W.setCell ⟨a.sb,2,none⟩ (.slice p' L'.length c')) M m s T S ({ a with rp:=p',rc:=c',L:=L' }::B)/\Kx Y W (W.setCell ⟨a.sb,2,none⟩ (.slice p' L'.length c')):=by
 have sa:=(h.sp a (List.mem_cons_self ..))
 have hg:=Qu.grown_setCell1 W a.sb 2 (.slice p' L'.length c')
 have bs:=sa.blk.set 2 (.slice p' L'.length c')
 generalize W.setCell ⟨a.sb,2,none⟩ (.slice p' L'.length c')=V at hg bs |-
 have ya: ∀ j,Y j->j≠a.sb:=fun j hj e=>by have:=h.yo j hj;rw [e,sa.o1] at this;omega
 have kk:Kx Y W V:=kept_one hg fun j hj=>⟨ya j hj,h.pu.lt j (Or.inl hj)⟩
 obtain ⟨O',eO,nO,oO,zO⟩: ∃ O':Nat->Nat,(∀ j,O j≠0->O' j=O j)/\(∀ j,O' j≠0->Y j\/O j≠0)/\(∀ g,p'=some ⟨g,0,none⟩->0<L'.length->O' g=7+3*a.j)/\(∀ j,Y0 j->O' j=0):=by
  by_cases c:0<L'.length
  . obtain ⟨g,e1,l1,l2,_⟩:=hl 0 c
    obtain ⟨g1,g2⟩:=hp g e1 c
    have og:=h.yo g g1
    refine ⟨fun j=>if j=g then 7+3*a.j else O j,fun j hj=>if_neg (fun e=>hj (by rw [e];exact og)),fun j hn=> ?_,fun g' e2 _=> ?_,fun j hj=> ?_⟩
    . by_cases e:j=g
      . rw [e];exact Or.inl g1
      . have hn:(if j=g then 7+3*a.j else O j)≠0:=hn
        rw [if_neg e] at hn;exact Or.inr hn
    . rw [e1] at e2;cases e2;exact if_pos rfl
    . show (if j=g then 7+3*a.j else O j)=0
      rw [if_neg (fun e=>g2 (by rw [<- e];exact hj))];exact h.yo j (hY j hj)
  . exact ⟨O,fun _ _=>rfl,fun j hn=>Or.inr hn,fun _ _ c'=>absurd c' c,fun j hj=>h.yo j (hY j hj)⟩
 have lm: ∀ b,O b≠0->b≠a.sb->V.heap[b]? =W.heap[b]? :=fun b hO hs=>hg.block b (h.lt b hO) (fun e=>hs (Option.some.inj e))
 have ns: ∀ b,O b≠5+3*a.j->b≠a.sb:=fun b hO e=>hO (by rw [e];exact sa.o1)
 have oq: ∀ {j c:Nat},O j=c->c≠0->O' j=c:=fun {j c} e c0=>(eO j (by omega)).trans e
 refine ⟨O',⟨?_,y0,zO,(lm _ (by rw [h.o1];omega) (ns _ (by rw [h.o1];omega))).trans h.mac,tlb_block h.tlb hg.size (lm _ (by rw [h.o2];omega) (ns _ (by rw [h.o2];omega))),h.tgs.kept fun b _ hb=> ?_,?_,oq h.o1 (by omega),oq h.o2 (by omega),⟨oq h.o3.1 (by omega),oq h.o3.2.1 (by omega),oq h.o3.2.2 (by omega)⟩,oq h.o4 (by omega),fun b hb'=> ?_,fun b hb'=> ?_,h.ni,h.nj,?_,?_,h.kf⟩,kk⟩
 . refine (h.pu.poke (j:=a.sb) (Or.inr (by rw [sa.o1];omega)) (fun e=>ya 0 h.y0 e.symm) hg).less (fun j hj=> ?_) (Or.inl y0)
   rcases hj with c | c
   . exact Or.inl (hY j c)
   . exact nO j c
 . have o:O b=3:=by rcases hb with rfl | rfl | rfl;exact h.o3.1;exact h.o3.2.1;exact h.o3.2.2
   exact lm b (by omega) (ns b (by omega))
 . have e:spF ({ a with rp:=p',rc:=c',L:=L' }::B)=spF (a::B):=rfl
   rw [e];exact h.map.block (lm _ (by rw [h.o4];omega) (ns _ (by rw [h.o4];omega)))
 . rcases List.mem_cons.1 hb' with rfl | hb'
   . obtain ⟨c,hm⟩:=sa.map
     refine ⟨bs,⟨c,hm.block (lm a.lb (by rw [sa.o2];omega) (ns _ (by rw [sa.o2];omega)))⟩,?_,hc,h64,oq sa.o1 (by omega),oq sa.o2 (by omega),oO⟩
     refine list_block hl hg.size fun g eg lg hl'=> ?_
     have eg:p'=some ⟨g,0,none⟩:=eg
     exact hg.block g lg (fun e=>ya g (hp g eg hl').1 (Option.some.inj e))
   . have nj:=h.other b hb'
     exact (h.sp b (List.mem_cons_of_mem _ hb')).keep hg.size fun d hl b1 b2=>⟨lm d (by omega) (ns d (by omega)),eO d (by omega)⟩
 . rcases List.mem_cons.1 hb' with rfl | hb'
   . exact h.rt a (List.mem_cons_self ..)
   . exact h.rt b (List.mem_cons_of_mem _ hb')
 . exact forall_head2 (P:=fun x y=>x.j≠y.j-> ∀ l i l' i' f,x.tab l i=some f->y.tab l' i'≠some f) h.dj (fun _ q=>q) (fun _ q=>q) (fun q=>q)
 . intro b hb' p v e
   have e2: ∃ b0∈a::B,b0.lf p=some v:=by
    rcases List.mem_cons.1 hb' with rfl | hb'
    . exact ⟨a,List.mem_cons_self ..,e⟩
    . exact ⟨b,List.mem_cons_of_mem _ hb',e⟩
   obtain ⟨b0,m0,e0⟩:=e2
   obtain ⟨d1,f,d2,d3,d4,d5⟩:=h.dat b0 m0 p v e0
   refine ⟨d1,f,d2,d3,d4,fun x hx=> ?_⟩
   rcases List.mem_cons.1 hx with rfl | hx
   . exact d5 a (List.mem_cons_self ..)
   . exact d5 x (List.mem_cons_of_mem _ hx)
set_option maxHeartbeats 1000000 in
theorem single_any (p:Int) (p0:0<=p) (p1:p<34359738368) (W:World):Calls Tryz.prog 51 #[.int .i64 p] W fun e w'=>e=.returned (.agg #[.int .i64 p,.int .i64 (p+1)])/\Below W.heap.size W w':=by
 have dw:IntKind.i64.wrap (p+1)=p+1:=by simp only [IntKind.wrap_i64];omega
 go_enter Tryz.func51,Tryz.ntmps51
 go_wp2_with fail
 go_returns
 refine ⟨rfl,?_⟩
 exact Go.Joins.below_alloc1 _ _
end Go.Proofs.YtmabmknmnkhhbaaGreatDoor.Sp
namespace Go.Proofs.YtmabmknmnkhhbaaGreatDoor.Sp
open Go.ChangeShapes Go.WideShapes Go.ChangeAt Go.RowKit Go.Maps Go.Sort Go.Shelf
open Go.Proofs.YtmabmknmnkhhbaaGreatDoor.Tt
set_option linter.unusedSimpArgs false
set_option linter.unusedVariables false
set_option maxRecDepth 8000
def sortedA_ren:Go.Shelf.Ren:=⟨fun | 6=>44 | 8=>94 | 9=>95 | 11=>134 | 13=>136 | 12=>135 | 23=>170 | 24=>171 | 14=>161 | 15=>162 | 16=>163 | 17=>164 | 18=>165 | 19=>166 | 20=>167 | 21=>168 | 22=>169 | 25=>182 | 26=>183 | 27=>184 | 28=>185 | 29=>186 | 30=>179 | 31=>198 | n=>n,fun | 26=>3 | 28=>122 | 24=>46 | 0=>0 | 3=>3 | 37=>186 | 48=>105 | 50=>104 | 4=>4 | 40=>254 | 39=>253 | 45=>78 | 5=>5 | 9=>9 | 51=>266 | 55=>269 | 57=>283 | 58=>284 | 33=>71 | n=>n,fun | n=>n⟩
theorem sortedA:Go.Proofs.SlLaysZI.n6 Tryz.prog sortedA_ren:={
 mixed:=by kernel_rfl
 f6:=⟨Tryz.f44.name,by decide,Tryz.func44.trans (congrArg some (by kernel_rfl))⟩
 f8:=⟨Tryz.f94.name,by decide,Tryz.func94.trans (congrArg some (by kernel_rfl))⟩
 f11:=⟨Tryz.f134.name,by decide,Tryz.func134.trans (congrArg some (by kernel_rfl))⟩
 t0:=Tryz.underlying0
 a0:=Tryz.isAgg0
 z0:=Tryz.sizeOf0
 v0:=Tryz.zeroValue0
 t24:=Tryz.underlying46
 a24:=Tryz.isAgg46
 z24:=Tryz.sizeOf46
 v24:=Tryz.zeroValue46
 t26:=Tryz.underlying3
 a26:=Tryz.isAgg3
 z26:=Tryz.sizeOf3
 v26:=Tryz.zeroValue3
 t28:=Tryz.underlying122
 a28:=Tryz.isAgg122
 z28:=Tryz.sizeOf122
 v28:=Tryz.zeroValue122
 i26:=by kernel_rfl }
def sortA_ren:Go.Shelf.Ren:=⟨fun | 5=>95 | 8=>136 | 7=>135 | 19=>170 | 20=>171 | 10=>161 | 11=>162 | 12=>163 | 13=>164 | 14=>165 | 15=>166 | 16=>167 | 17=>168 | 18=>169 | 30=>182 | 31=>183 | 32=>184 | 33=>185 | 34=>186 | 35=>179 | 40=>198 | n=>n,fun | 23=>46 | 25=>3 | 3=>3 | 32=>186 | 22=>46 | 0=>0 | 44=>105 | 46=>104 | 4=>4 | 36=>254 | 35=>253 | 41=>78 | 5=>5 | 9=>9 | 53=>266 | 57=>269 | 63=>283 | 64=>284 | n=>n,fun | n=>n⟩
theorem sortA:Go.Proofs.SlLaysM.n5 Tryz.prog sortA_ren:={
 mixed:=by kernel_rfl
 f5:=⟨Tryz.f95.name,by decide,Tryz.func95.trans (congrArg some (by kernel_rfl))⟩
 f7:=⟨Tryz.f135.name,by decide,Tryz.func135.trans (congrArg some (by kernel_rfl))⟩
 f8:=Tryz.func136.trans (congrArg some (by kernel_rfl))
 f10:=⟨Tryz.f161.name,by decide,Tryz.func161.trans (congrArg some (by kernel_rfl))⟩
 f11:=⟨Tryz.f162.name,by decide,Tryz.func162.trans (congrArg some (by kernel_rfl))⟩
 f12:=⟨Tryz.f163.name,by decide,Tryz.func163.trans (congrArg some (by kernel_rfl))⟩
 f13:=⟨Tryz.f164.name,by decide,Tryz.func164.trans (congrArg some (by kernel_rfl))⟩
 f14:=⟨Tryz.f165.name,by decide,Tryz.func165.trans (congrArg some (by kernel_rfl))⟩
 f15:=⟨Tryz.f166.name,by decide,Tryz.func166.trans (congrArg some (by kernel_rfl))⟩
 f16:=⟨Tryz.f167.name,by decide,Tryz.func167.trans (congrArg some (by kernel_rfl))⟩
 f17:=⟨Tryz.f168.name,by decide,Tryz.func168.trans (congrArg some (by kernel_rfl))⟩
 f18:=⟨Tryz.f169.name,by decide,Tryz.func169.trans (congrArg some (by kernel_rfl))⟩
 f19:=Tryz.func170.trans (congrArg some (by kernel_rfl))
 f20:=Tryz.func171.trans (congrArg some (by kernel_rfl))
 f30:=⟨Tryz.f182.name,by decide,Tryz.func182.trans (congrArg some (by kernel_rfl))⟩
 f31:=Tryz.func183.trans (congrArg some (by kernel_rfl))
 f32:=Tryz.func184.trans (congrArg some (by kernel_rfl))
 f33:=⟨Tryz.f185.name,by decide,Tryz.func185.trans (congrArg some (by kernel_rfl))⟩
 f34:=⟨Tryz.f186.name,by decide,Tryz.func186.trans (congrArg some (by kernel_rfl))⟩
 f35:=⟨Tryz.f179.name,by decide,Tryz.func179.trans (congrArg some (by kernel_rfl))⟩
 f40:=⟨Tryz.f198.name,by decide,Tryz.func198.trans (congrArg some (by kernel_rfl))⟩
 t0:=Tryz.underlying0
 a0:=Tryz.isAgg0
 z0:=Tryz.sizeOf0
 v0:=Tryz.zeroValue0
 t3:=Tryz.underlying3
 a3:=Tryz.isAgg3
 z3:=Tryz.sizeOf3
 v3:=Tryz.zeroValue3
 t4:=Tryz.underlying4
 a4:=Tryz.isAgg4
 z4:=Tryz.sizeOf4
 v4:=Tryz.zeroValue4
 t5:=Tryz.underlying5
 a5:=Tryz.isAgg5
 z5:=Tryz.sizeOf5
 v5:=Tryz.zeroValue5
 t9:=Tryz.underlying9
 a9:=Tryz.isAgg9
 z9:=Tryz.sizeOf9
 v9:=Tryz.zeroValue9
 t22:=Tryz.underlying46
 a22:=Tryz.isAgg46
 z22:=Tryz.sizeOf46
 v22:=Tryz.zeroValue46
 t23:=Tryz.underlying46
 a23:=Tryz.isAgg46
 z23:=Tryz.sizeOf46
 v23:=Tryz.zeroValue46
 t25:=Tryz.underlying3
 a25:=Tryz.isAgg3
 z25:=Tryz.sizeOf3
 v25:=Tryz.zeroValue3
 t32:=Tryz.underlying186
 a32:=Tryz.isAgg186
 z32:=Tryz.sizeOf186
 v32:=Tryz.zeroValue186
 t35:=Tryz.underlying253
 a35:=Tryz.isAgg253
 z35:=Tryz.sizeOf253
 v35:=Tryz.zeroValue253
 t36:=Tryz.underlying254
 a36:=Tryz.isAgg254
 z36:=Tryz.sizeOf254
 v36:=Tryz.zeroValue254
 t41:=Tryz.underlying78
 a41:=Tryz.isAgg78
 z41:=Tryz.sizeOf78
 v41:=Tryz.zeroValue78
 t44:=Tryz.underlying105
 a44:=Tryz.isAgg105
 z44:=Tryz.sizeOf105
 v44:=Tryz.zeroValue105
 t46:=Tryz.underlying104
 a46:=Tryz.isAgg104
 z46:=Tryz.sizeOf104
 v46:=Tryz.zeroValue104
 t53:=Tryz.underlying266
 a53:=Tryz.isAgg266
 z53:=Tryz.sizeOf266
 v53:=Tryz.zeroValue266
 t57:=Tryz.underlying269
 a57:=Tryz.isAgg269
 z57:=Tryz.sizeOf269
 v57:=Tryz.zeroValue269
 t63:=Tryz.underlying283
 a63:=Tryz.isAgg283
 z63:=Tryz.sizeOf283
 v63:=Tryz.zeroValue283
 t64:=Tryz.underlying284
 a64:=Tryz.isAgg284
 z64:=Tryz.sizeOf284
 v64:=Tryz.zeroValue284 }
theorem sortsA (m:Nat):AnyZI.SortsIn Tryz.prog sortedA_ren Fence.wide m :=
 ⟨fun blk off cap ss W hH hblk hsz=>callsIn_wide.2 (AnyM.slices_Sort_int sortA blk off cap ss W hH hblk hsz),
  fun p cap W=>callsIn_wide.2 (AnyM.slices_Sort_int_none sortA p cap W)⟩
end Go.Proofs.YtmabmknmnkhhbaaGreatDoor.Sp
