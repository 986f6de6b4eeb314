import Derived.Test.YtajfbieacfjhnaaGreatDoorABc
import Derived.Test.YtajfbieacfjhnaaGreatDoorAAc
import Derived.Test.YtajfbieacfjhnaaGreatDoorSVc
import Derived.Test.YtajfbieacfjhnaaGreatDoorBDec
import Derived.Laws.EntriesVeiled
namespace Go.Proofs.YtajfbieacfjhnaaGreatDoor.Au
open Go.ChangeShapes Go.WideShapes Go.ChangeAt Go.RowKit Go.Maps
open Go.Proofs.YtajfbieacfjhnaaGreatDoor.Tt Go.Proofs.YtajfbieacfjhnaaGreatDoor.Sp
set_option linter.unusedSimpArgs false
set_option linter.unusedVariables false
set_option maxRecDepth 8000
structure Tbs (m:Pm) (s:Ps) (root:Nat) (tab:Nat->Nat->Option Nat) (lf:Nat->Option Lf) (R:List Re.Rg) (kf:Nat):Prop where
 pw:PW s.M root tab lf
 has: ∀ l x (f:Nat),tab l x=some f->m.has f=true
 hi:En s.M root (256:Nat)=kV kf/\ ∀ j:Nat,257<=j->j<512->En s.M root j=0
 kf:kf<1048576
 own: ∀ (p:Nat) v,lf p=some v->(Re.findR R (p:Int)).2=true/\(Re.findR R (p:Int)).1.kd=0
theorem Tbs.b3 {m:Pm} {s:Ps} {root:Nat} {tab:Nat->Nat->Option Nat} {lf:Nat->Option Lf} {R:List Re.Rg} {kf:Nat} (T:Tbs m s root tab lf R kf) {x f:Nat} (h:tab 3 x=some f):x<256:=(T.pw.dom 3 x f h).2.2.2 rfl
theorem Tbs.b2 {m:Pm} {s:Ps} {root:Nat} {tab:Nat->Nat->Option Nat} {lf:Nat->Option Lf} {R:List Re.Rg} {kf:Nat} (T:Tbs m s root tab lf R kf) {x f:Nat} (h:tab 2 x=some f):x<131072:=by
 obtain ⟨g,q,_⟩:=T.pw.up 2 x f (by omega) h
 have:=T.b3 q;omega
theorem Tbs.b1 {m:Pm} {s:Ps} {root:Nat} {tab:Nat->Nat->Option Nat} {lf:Nat->Option Lf} {R:List Re.Rg} {kf:Nat} (T:Tbs m s root tab lf R kf) {x f:Nat} (h:tab 1 x=some f):x<67108864:=by
 obtain ⟨g,q,_⟩:=T.pw.up 1 x f (by omega) h
 have:=T.b2 q;omega
theorem Tbs.b4 {m:Pm} {s:Ps} {root:Nat} {tab:Nat->Nat->Option Nat} {lf:Nat->Option Lf} {R:List Re.Rg} {kf:Nat} (T:Tbs m s root tab lf R kf) {x f:Nat} (h:tab 4 x=some f):x=0:=(T.pw.dom 4 x f h).2.2.1 rfl
theorem root_is {m:Pm} {s:Ps} {root:Nat} {tab:Nat->Nat->Option Nat} {lf:Nat->Option Lf} {R:List Re.Rg} {kf:Nat} (T:Tbs m s root tab lf R kf) {f:Nat} (h:tab 4 0=some f):f=root:=by
 have q:=T.pw.t4;rw [h] at q;exact Option.some.inj q
theorem fm_room {g:Nat->List Us} {L:List Us} {u:Us} {j:Nat} (hj:j<512) (h:L.length+(u::(List.range 512).flatMap g).length<=1000000):(L++u::(List.range j).flatMap g).length+(g j).length<=1000000:=by
 have q:=fm_le g (j:=j+1) (n:=512) (by omega)
 rw [fm_succ,List.length_append] at q
 rw [List.length_cons] at h
 rw [List.length_append,List.length_cons];omega
set_option maxHeartbeats 2000000 in
theorem below0_any {X:Nat->Prop} {w0:World} {m:Pm} {s:Ps} (h:Pu X w0 m s) {root:Nat} {tab:Nat->Nat->Option Nat} {lf:Nat->Option Lf} {R:List Re.Rg} {kf:Nat} (T:Tbs m s root tab lf R kf) {b mb:Nat} {id:Int} {p:Option Addr} {c:Nat} {kn ki km kb kr:Nat} (x f:Nat) (ht:tab 1 x=some f)
 (K:Nat->Prop) (W:World) (L:List Us) (E:Env w0 K b mb m.rb id p c R kn ki km kb kr W) (hl:LU w0 K b L W) (hL:L.length+(usA tab lf id 0 x f).length<=1000000) :
 Calls Tryz.prog 58 #[.int .i64 f,.int .i64 1,.int .i64 ((x:Int)*512),pp kn,pp ki,pp km,pp kb,pp kr] W fun e w'=>e=.returned (.tuple #[])/\LU w0 K b (L++usA tab lf id 0 x f) w'/\Ks w0 K W w':=by
 have xb:x<67108864:=T.b1 ht
 have us:=usA_is tab lf id 0 x f
 rw [us] at hL
 have sz:((W.alloc (.cells #[.int .i64 1] 3)).alloc (.cells #[.int .i64 ((x:Int)*512)] 3)).heap.size=W.heap.size+2:=by rw [World.size_alloc,World.size_alloc]
 have hb:Below W.heap.size W ((W.alloc (.cells #[.int .i64 1] 3)).alloc (.cells #[.int .i64 ((x:Int)*512)] 3)):=Go.Joins.below_alloc2 _ _ _
 have c1:((W.alloc (.cells #[.int .i64 1] 3)).alloc (.cells #[.int .i64 ((x:Int)*512)] 3)).cell? ⟨W.heap.size,0,none⟩=some (.int .i64 1):=((Blk.made W [.int .i64 1] 3).below (Go.Joins.below_alloc1 _ _)).cell 0
 have c2:((W.alloc (.cells #[.int .i64 1] 3)).alloc (.cells #[.int .i64 ((x:Int)*512)] 3)).cell? ⟨W.heap.size+1,0,none⟩=some (.int .i64 ((x:Int)*512)):=by
  have q:=(Blk.made (W.alloc (.cells #[.int .i64 1] 3)) [.int .i64 ((x:Int)*512)] 3).cell 0
  rw [World.size_alloc] at q;exact q
 have KW:Hid (Ks w0 K W ((W.alloc (.cells #[.int .i64 1] 3)).alloc (.cells #[.int .i64 ((x:Int)*512)] 3))):=ks_below hl hb
 have HL:Hid (LU w0 (fun i=>K i\/(W.heap.size<=i/\i<W.heap.size+2)) b L ((W.alloc (.cells #[.int .i64 1] 3)).alloc (.cells #[.int .i64 ((x:Int)*512)] 3))/\Env w0 (fun i=>K i\/(W.heap.size<=i/\i<W.heap.size+2)) b mb m.rb id p c R kn ki km kb kr ((W.alloc (.cells #[.int .i64 1] 3)).alloc (.cells #[.int .i64 ((x:Int)*512)] 3))):=by
  have q:=hl.grow hb
  rw [sz] at q
  exact ⟨q,(E.keep KW.out).more (fun _=>Or.inl)⟩
 have C1:Hid (_/\_):=⟨c2,c1⟩
 have NC:Hid (∀ V,LU w0 (fun i=>K i\/(W.heap.size<=i/\i<W.heap.size+2)) b L V->_):=fun V hV=>note_any hV (by omega) (f:Int) 2 id
 have EC:Hid (∀ w2,LU w0 (fun i=>K i\/(W.heap.size<=i/\i<W.heap.size+2)) b (L++[((f:Int),2,id)]) w2->Env w0 (fun i=>K i\/(W.heap.size<=i/\i<W.heap.size+2)) b mb m.rb id p c R kn ki km kb kr w2->(w2.cell? ⟨W.heap.size+1,0,none⟩=some (.int .i64 ((x:Int)*512))/\w2.cell? ⟨W.heap.size,0,none⟩=some (.int .i64 1))->Calls Tryz.prog 54 #[pp m.rb,.int .i64 f,.func (.func 59) #[] #[pp (W.heap.size+1),pp W.heap.size,pp kb,pp kr,pp kn,pp ki]] w2 fun e w'=>e=.returned (.tuple #[])/\LU w0 (fun i=>K i\/(W.heap.size<=i/\i<W.heap.size+2)) b (L++usA tab lf id 0 x f) w'/\Ks w0 (fun i=>K i\/(W.heap.size<=i/\i<W.heap.size+2)) w2 w'):=by
  intro w2 h2 e2 cf
  have E2:Hid _:=e2
  have CF:Hid (_/\_):=cf
  have ej: ∀ j,j<512->(x*512+j) / 512=x:=fun j hj=>by omega
  have em: ∀ j,j<512->(x*512+j) % 512=j:=fun j hj=>by omega
  have q:=each_s h f (T.has 1 x f ht) (W.heap.size+1) W.heap.size kb kr kn ki (fun j V=>LU w0 (fun i=>K i\/(W.heap.size<=i/\i<W.heap.size+2)) b (L++((f:Int),2,id)::(List.range j).flatMap (fun j=>usE tab lf id 0 (x*512+j))) V/\Ks w0 (fun i=>K i\/(W.heap.size<=i/\i<W.heap.size+2)) w2 V)
   (fun j V V' hV hb=>⟨hV.1.below hb,hV.2.trans (ks_below hV.1 hb)⟩) (fun j V hV=>hV.1.bel) (fun j V hj e0 hV=>by
    have ej:=ej j hj
    have em:=em j hj
    have:usE tab lf id 0 (x*512+j)=[]:=by
     cases hc:lf (x*512+j) with
     | none => exact usP_none hc
     | some v =>
      obtain ⟨_,q,hq,mk⟩:=T.pw.lf1 (x*512+j) v hc
      rw [ej,ht] at hq
      cases hq
      rw [em] at mk
      exact absurd e0 mk.ne
    rw [fm_succ,this,List.append_nil];exact hV) (fun j hj=> ?_) w2 ⟨by simpa using h2,Kept.refl _ _⟩
  rotate_left
  . have ej:=ej j hj
    have em:=em j hj
    cases hc:lf (x*512+j) with
    | none =>
     left
     have q:=T.pw.lf0 (x*512+j) f (by omega) hc (by rw [ej];exact ht)
     rw [em] at q;exact q
    | some v =>
     right
     obtain ⟨_,q,hq,mk⟩:=T.pw.lf1 (x*512+j) v hc
     rw [ej,ht] at hq
     cases hq
     rw [em] at mk
     obtain ⟨⟨g0,g1⟩,a,d,ex⟩:=mk
     have eu:usE tab lf id 0 (x*512+j)=[(v.f,3,id)]:=usP_some hc
     refine ⟨v.w,v.u,a,(d && false),false,false,(!v.x),v.f,by omega,by omega,ex,fun V hV=> ?_⟩
     have EV:=E2.out.keep hV.2
     have ll:=fm_room (g:=(fun j=>usE tab lf id 0 (x*512+j))) hj hL
     obtain ⟨o1,o2⟩:=T.own _ v hc
     refine (cl0_any EV hV.1 (by omega) (W.heap.size+1) W.heap.size x j (Or.inr ⟨by omega,by omega⟩) (Or.inr ⟨by omega,by omega⟩) xb hj (hV.2.cell (Or.inr ⟨by omega,by omega⟩) CF.out.1) (hV.2.cell (Or.inr ⟨by omega,by omega⟩) CF.out.2) v.w v.u a (d && false) false false (!v.x) v.f o1 o2).mono ?_
     rintro e w' ⟨he,q1,q2⟩
     refine ⟨he,?_,hV.2.trans q2⟩
     rw [fm_succ,eu]
     rw [List.append_assoc,List.cons_append] at q1
     exact q1
  refine q.mono ?_
  rintro e w' ⟨he,q1,q2⟩
  refine ⟨he,?_,q2⟩
  rw [us];exact q1
 have ca:=HL.out.2.m1.2
 have cb:=HL.out.2.n1.2
 have ci:=HL.out.2.i1.2
 clear h T ht E hl hL us c1 c2 hb sz xb
 go_enter Tryz.func58,Tryz.ntmps58
 go_upto_region 1 with fail
 generalize ((W.alloc (.cells #[.int .i64 1] 3)).alloc (.cells #[.int .i64 ((x:Int)*512)] 3))=W1 at HL KW C1 ca cb ci |-
 go_wp2_with fail
 refine Calls.mono (NC.out _ HL.out.1) ?_
 rintro e w2 ⟨rfl,h1,h2⟩
 have H2:Hid (LU w0 (fun i=>K i\/(W.heap.size<=i/\i<W.heap.size+2)) b (L++[((f:Int),2,id)]) w2/\Ks w0 (fun i=>K i\/(W.heap.size<=i/\i<W.heap.size+2)) W1 w2/\Env w0 (fun i=>K i\/(W.heap.size<=i/\i<W.heap.size+2)) b mb m.rb id p c R kn ki km kb kr w2):=⟨h1,h2,HL.out.2.keep h2⟩
 have C2:Hid (w2.cell? ⟨W.heap.size+1,0,none⟩=some (.int .i64 ((x:Int)*512))/\w2.cell? ⟨W.heap.size,0,none⟩=some (.int .i64 1)):=⟨h2.cell (Or.inr ⟨by omega,by omega⟩) C1.out.1,h2.cell (Or.inr ⟨by omega,by omega⟩) C1.out.2⟩
 have ea:=H2.out.2.2.m1.2
 have eb:=H2.out.2.2.ma.2
 clear h1 h2 NC HL C1 ca cb ci
 go_wp2_with fail
 refine Calls.mono (EC.out _ H2.out.1 H2.out.2.2 C2.out) ?_
 rintro e w3 ⟨rfl,h1,h2⟩
 have HE:Hid (LU w0 K b (L++usA tab lf id 0 x f) w3/\Ks w0 K W w3):=⟨h1.less (fun j hj=>Or.inl hj),KW.out.trans (Ks.less (H2.out.2.1.trans h2) (fun j hj=>Or.inl hj))⟩
 clear h1 h2 EC H2 C2 ea eb KW
 go_wp2_with fail
 go_returns
 exact ⟨rfl,HE.out⟩
set_option maxHeartbeats 2000000 in
theorem below1_any {X:Nat->Prop} {w0:World} {m:Pm} {s:Ps} (h:Pu X w0 m s) {root:Nat} {tab:Nat->Nat->Option Nat} {lf:Nat->Option Lf} {R:List Re.Rg} {kf:Nat} (T:Tbs m s root tab lf R kf) {b mb:Nat} {id:Int} {p:Option Addr} {c:Nat} {kn ki km kb kr:Nat} (x f:Nat) (ht:tab 2 x=some f)
 (K:Nat->Prop) (W:World) (L:List Us) (E:Env w0 K b mb m.rb id p c R kn ki km kb kr W) (hl:LU w0 K b L W) (hL:L.length+(usA tab lf id 1 x f).length<=1000000) :
 Calls Tryz.prog 58 #[.int .i64 f,.int .i64 2,.int .i64 ((x:Int)*262144),pp kn,pp ki,pp km,pp kb,pp kr] W fun e w'=>e=.returned (.tuple #[])/\LU w0 K b (L++usA tab lf id 1 x f) w'/\Ks w0 K W w':=by
 have xb:x<131072:=T.b2 ht
 have us:=usA_is tab lf id 1 x f
 rw [us] at hL
 have sz:((W.alloc (.cells #[.int .i64 2] 3)).alloc (.cells #[.int .i64 ((x:Int)*262144)] 3)).heap.size=W.heap.size+2:=by rw [World.size_alloc,World.size_alloc]
 have hb:Below W.heap.size W ((W.alloc (.cells #[.int .i64 2] 3)).alloc (.cells #[.int .i64 ((x:Int)*262144)] 3)):=Go.Joins.below_alloc2 _ _ _
 have c1:((W.alloc (.cells #[.int .i64 2] 3)).alloc (.cells #[.int .i64 ((x:Int)*262144)] 3)).cell? ⟨W.heap.size,0,none⟩=some (.int .i64 2):=((Blk.made W [.int .i64 2] 3).below (Go.Joins.below_alloc1 _ _)).cell 0
 have c2:((W.alloc (.cells #[.int .i64 2] 3)).alloc (.cells #[.int .i64 ((x:Int)*262144)] 3)).cell? ⟨W.heap.size+1,0,none⟩=some (.int .i64 ((x:Int)*262144)):=by
  have q:=(Blk.made (W.alloc (.cells #[.int .i64 2] 3)) [.int .i64 ((x:Int)*262144)] 3).cell 0
  rw [World.size_alloc] at q;exact q
 have KW:Hid (Ks w0 K W ((W.alloc (.cells #[.int .i64 2] 3)).alloc (.cells #[.int .i64 ((x:Int)*262144)] 3))):=ks_below hl hb
 have HL:Hid (LU w0 (fun i=>K i\/(W.heap.size<=i/\i<W.heap.size+2)) b L ((W.alloc (.cells #[.int .i64 2] 3)).alloc (.cells #[.int .i64 ((x:Int)*262144)] 3))/\Env w0 (fun i=>K i\/(W.heap.size<=i/\i<W.heap.size+2)) b mb m.rb id p c R kn ki km kb kr ((W.alloc (.cells #[.int .i64 2] 3)).alloc (.cells #[.int .i64 ((x:Int)*262144)] 3))):=by
  have q:=hl.grow hb
  rw [sz] at q
  exact ⟨q,(E.keep KW.out).more (fun _=>Or.inl)⟩
 have C1:Hid (_/\_):=⟨c2,c1⟩
 have NC:Hid (∀ V,LU w0 (fun i=>K i\/(W.heap.size<=i/\i<W.heap.size+2)) b L V->_):=fun V hV=>note_any hV (by omega) (f:Int) 2 id
 have EC:Hid (∀ w2,LU w0 (fun i=>K i\/(W.heap.size<=i/\i<W.heap.size+2)) b (L++[((f:Int),2,id)]) w2->Env w0 (fun i=>K i\/(W.heap.size<=i/\i<W.heap.size+2)) b mb m.rb id p c R kn ki km kb kr w2->(w2.cell? ⟨W.heap.size+1,0,none⟩=some (.int .i64 ((x:Int)*262144))/\w2.cell? ⟨W.heap.size,0,none⟩=some (.int .i64 2))->Calls Tryz.prog 54 #[pp m.rb,.int .i64 f,.func (.func 59) #[] #[pp (W.heap.size+1),pp W.heap.size,pp kb,pp kr,pp kn,pp ki]] w2 fun e w'=>e=.returned (.tuple #[])/\LU w0 (fun i=>K i\/(W.heap.size<=i/\i<W.heap.size+2)) b (L++usA tab lf id 1 x f) w'/\Ks w0 (fun i=>K i\/(W.heap.size<=i/\i<W.heap.size+2)) w2 w'):=by
  intro w2 h2 e2 cf
  have E2:Hid _:=e2
  have CF:Hid (_/\_):=cf
  have ej: ∀ j,j<512->(x*512+j) / 512=x:=fun j hj=>by omega
  have em: ∀ j,j<512->(x*512+j) % 512=j:=fun j hj=>by omega
  have q:=each_s h f (T.has 2 x f ht) (W.heap.size+1) W.heap.size kb kr kn ki (fun j V=>LU w0 (fun i=>K i\/(W.heap.size<=i/\i<W.heap.size+2)) b (L++((f:Int),2,id)::(List.range j).flatMap (fun j=>usE tab lf id 1 (x*512+j))) V/\Ks w0 (fun i=>K i\/(W.heap.size<=i/\i<W.heap.size+2)) w2 V)
   (fun j V V' hV hb=>⟨hV.1.below hb,hV.2.trans (ks_below hV.1 hb)⟩) (fun j V hV=>hV.1.bel) (fun j V hj e0 hV=>by
    have ej:=ej j hj
    have em:=em j hj
    have:usE tab lf id 1 (x*512+j)=[]:=by
     cases hc:tab 1 (x*512+j) with
     | none => exact usE_none (n := 0) hc
     | some g =>
      obtain ⟨q,hq,mk⟩:=T.pw.up 1 (x*512+j) g (by omega) hc
      rw [ej,ht] at hq
      cases hq
      rw [em] at mk
      exact absurd e0 mk.ne
    rw [fm_succ,this,List.append_nil];exact hV) (fun j hj=> ?_) w2 ⟨by simpa using h2,Kept.refl _ _⟩
  rotate_left
  . have ej:=ej j hj
    have em:=em j hj
    cases hc:tab 1 (x*512+j) with
    | none =>
     left
     have q:=T.pw.no 1 (x*512+j) f (by omega) (by omega) (fun e=>by omega) hc (by rw [ej];exact ht)
     rw [em] at q;exact q
    | some g =>
     right
     obtain ⟨q,hq,mk⟩:=T.pw.up 1 (x*512+j) g (by omega) hc
     rw [ej,ht] at hq
     cases hq
     rw [em] at mk
     obtain ⟨g1,a,d,ex⟩:=mk
     have eu:usE tab lf id 1 (x*512+j)=usA tab lf id 0 (x*512+j) g:=usE_some (n:=0) hc
     refine ⟨true,true,a,d,false,false,false,g,by omega,by omega,ex,fun V hV=> ?_⟩
     have EV:=E2.out.keep hV.2
     have ll:=fm_room (g:=(fun j=>usE tab lf id 1 (x*512+j))) hj hL
     rw [eu] at ll
     have cf0:V.cell? ⟨W.heap.size+1,0,none⟩=some (.int .i64 ((x:Int)*262144)):=by
      have q:=hV.2.cell (Or.inr ⟨by omega,by omega⟩) CF.out.1
      exact q
     refine (cl1_any EV hV.1 (W.heap.size+1) W.heap.size x j g (Or.inr ⟨by omega,by omega⟩) (Or.inr ⟨by omega,by omega⟩) xb hj cf0 (hV.2.cell (Or.inr ⟨by omega,by omega⟩) CF.out.2) a d (fun V' EV' hV'=>below0_any h T (x*512+j) g hc _ V' _ EV' hV' ll)).mono ?_
     rintro e w' ⟨he,q1,q2⟩
     refine ⟨he,?_,hV.2.trans q2⟩
     rw [fm_succ,eu]
     rw [List.append_assoc,List.cons_append] at q1
     exact q1
  refine q.mono ?_
  rintro e w' ⟨he,q1,q2⟩
  refine ⟨he,?_,q2⟩
  rw [us];exact q1
 have ca:=HL.out.2.m1.2
 have cb:=HL.out.2.n1.2
 have ci:=HL.out.2.i1.2
 clear h T ht E hl hL us c1 c2 hb sz xb
 go_enter Tryz.func58,Tryz.ntmps58
 go_upto_region 1 with fail
 generalize ((W.alloc (.cells #[.int .i64 2] 3)).alloc (.cells #[.int .i64 ((x:Int)*262144)] 3))=W1 at HL KW C1 ca cb ci |-
 go_wp2_with fail
 refine Calls.mono (NC.out _ HL.out.1) ?_
 rintro e w2 ⟨rfl,h1,h2⟩
 have H2:Hid (LU w0 (fun i=>K i\/(W.heap.size<=i/\i<W.heap.size+2)) b (L++[((f:Int),2,id)]) w2/\Ks w0 (fun i=>K i\/(W.heap.size<=i/\i<W.heap.size+2)) W1 w2/\Env w0 (fun i=>K i\/(W.heap.size<=i/\i<W.heap.size+2)) b mb m.rb id p c R kn ki km kb kr w2):=⟨h1,h2,HL.out.2.keep h2⟩
 have C2:Hid (w2.cell? ⟨W.heap.size+1,0,none⟩=some (.int .i64 ((x:Int)*262144))/\w2.cell? ⟨W.heap.size,0,none⟩=some (.int .i64 2)):=⟨h2.cell (Or.inr ⟨by omega,by omega⟩) C1.out.1,h2.cell (Or.inr ⟨by omega,by omega⟩) C1.out.2⟩
 have ea:=H2.out.2.2.m1.2
 have eb:=H2.out.2.2.ma.2
 clear h1 h2 NC HL C1 ca cb ci
 go_wp2_with fail
 refine Calls.mono (EC.out _ H2.out.1 H2.out.2.2 C2.out) ?_
 rintro e w3 ⟨rfl,h1,h2⟩
 have HE:Hid (LU w0 K b (L++usA tab lf id 1 x f) w3/\Ks w0 K W w3):=⟨h1.less (fun j hj=>Or.inl hj),KW.out.trans (Ks.less (H2.out.2.1.trans h2) (fun j hj=>Or.inl hj))⟩
 clear h1 h2 EC H2 C2 ea eb KW
 go_wp2_with fail
 go_returns
 exact ⟨rfl,HE.out⟩
set_option maxHeartbeats 2000000 in
theorem below2_any {X:Nat->Prop} {w0:World} {m:Pm} {s:Ps} (h:Pu X w0 m s) {root:Nat} {tab:Nat->Nat->Option Nat} {lf:Nat->Option Lf} {R:List Re.Rg} {kf:Nat} (T:Tbs m s root tab lf R kf) {b mb:Nat} {id:Int} {p:Option Addr} {c:Nat} {kn ki km kb kr:Nat} (x f:Nat) (ht:tab 3 x=some f)
 (K:Nat->Prop) (W:World) (L:List Us) (E:Env w0 K b mb m.rb id p c R kn ki km kb kr W) (hl:LU w0 K b L W) (hL:L.length+(usA tab lf id 2 x f).length<=1000000) :
 Calls Tryz.prog 58 #[.int .i64 f,.int .i64 3,.int .i64 ((x:Int)*134217728),pp kn,pp ki,pp km,pp kb,pp kr] W fun e w'=>e=.returned (.tuple #[])/\LU w0 K b (L++usA tab lf id 2 x f) w'/\Ks w0 K W w':=by
 have xb:x<256:=T.b3 ht
 have us:=usA_is tab lf id 2 x f
 rw [us] at hL
 have sz:((W.alloc (.cells #[.int .i64 3] 3)).alloc (.cells #[.int .i64 ((x:Int)*134217728)] 3)).heap.size=W.heap.size+2:=by rw [World.size_alloc,World.size_alloc]
 have hb:Below W.heap.size W ((W.alloc (.cells #[.int .i64 3] 3)).alloc (.cells #[.int .i64 ((x:Int)*134217728)] 3)):=Go.Joins.below_alloc2 _ _ _
 have c1:((W.alloc (.cells #[.int .i64 3] 3)).alloc (.cells #[.int .i64 ((x:Int)*134217728)] 3)).cell? ⟨W.heap.size,0,none⟩=some (.int .i64 3):=((Blk.made W [.int .i64 3] 3).below (Go.Joins.below_alloc1 _ _)).cell 0
 have c2:((W.alloc (.cells #[.int .i64 3] 3)).alloc (.cells #[.int .i64 ((x:Int)*134217728)] 3)).cell? ⟨W.heap.size+1,0,none⟩=some (.int .i64 ((x:Int)*134217728)):=by
  have q:=(Blk.made (W.alloc (.cells #[.int .i64 3] 3)) [.int .i64 ((x:Int)*134217728)] 3).cell 0
  rw [World.size_alloc] at q;exact q
 have KW:Hid (Ks w0 K W ((W.alloc (.cells #[.int .i64 3] 3)).alloc (.cells #[.int .i64 ((x:Int)*134217728)] 3))):=ks_below hl hb
 have HL:Hid (LU w0 (fun i=>K i\/(W.heap.size<=i/\i<W.heap.size+2)) b L ((W.alloc (.cells #[.int .i64 3] 3)).alloc (.cells #[.int .i64 ((x:Int)*134217728)] 3))/\Env w0 (fun i=>K i\/(W.heap.size<=i/\i<W.heap.size+2)) b mb m.rb id p c R kn ki km kb kr ((W.alloc (.cells #[.int .i64 3] 3)).alloc (.cells #[.int .i64 ((x:Int)*134217728)] 3))):=by
  have q:=hl.grow hb
  rw [sz] at q
  exact ⟨q,(E.keep KW.out).more (fun _=>Or.inl)⟩
 have C1:Hid (_/\_):=⟨c2,c1⟩
 have NC:Hid (∀ V,LU w0 (fun i=>K i\/(W.heap.size<=i/\i<W.heap.size+2)) b L V->_):=fun V hV=>note_any hV (by omega) (f:Int) 2 id
 have EC:Hid (∀ w2,LU w0 (fun i=>K i\/(W.heap.size<=i/\i<W.heap.size+2)) b (L++[((f:Int),2,id)]) w2->Env w0 (fun i=>K i\/(W.heap.size<=i/\i<W.heap.size+2)) b mb m.rb id p c R kn ki km kb kr w2->(w2.cell? ⟨W.heap.size+1,0,none⟩=some (.int .i64 ((x:Int)*134217728))/\w2.cell? ⟨W.heap.size,0,none⟩=some (.int .i64 3))->Calls Tryz.prog 54 #[pp m.rb,.int .i64 f,.func (.func 59) #[] #[pp (W.heap.size+1),pp W.heap.size,pp kb,pp kr,pp kn,pp ki]] w2 fun e w'=>e=.returned (.tuple #[])/\LU w0 (fun i=>K i\/(W.heap.size<=i/\i<W.heap.size+2)) b (L++usA tab lf id 2 x f) w'/\Ks w0 (fun i=>K i\/(W.heap.size<=i/\i<W.heap.size+2)) w2 w'):=by
  intro w2 h2 e2 cf
  have E2:Hid _:=e2
  have CF:Hid (_/\_):=cf
  have ej: ∀ j,j<512->(x*512+j) / 512=x:=fun j hj=>by omega
  have em: ∀ j,j<512->(x*512+j) % 512=j:=fun j hj=>by omega
  have q:=each_s h f (T.has 3 x f ht) (W.heap.size+1) W.heap.size kb kr kn ki (fun j V=>LU w0 (fun i=>K i\/(W.heap.size<=i/\i<W.heap.size+2)) b (L++((f:Int),2,id)::(List.range j).flatMap (fun j=>usE tab lf id 2 (x*512+j))) V/\Ks w0 (fun i=>K i\/(W.heap.size<=i/\i<W.heap.size+2)) w2 V)
   (fun j V V' hV hb=>⟨hV.1.below hb,hV.2.trans (ks_below hV.1 hb)⟩) (fun j V hV=>hV.1.bel) (fun j V hj e0 hV=>by
    have ej:=ej j hj
    have em:=em j hj
    have:usE tab lf id 2 (x*512+j)=[]:=by
     cases hc:tab 2 (x*512+j) with
     | none => exact usE_none (n := 1) hc
     | some g =>
      obtain ⟨q,hq,mk⟩:=T.pw.up 2 (x*512+j) g (by omega) hc
      rw [ej,ht] at hq
      cases hq
      rw [em] at mk
      exact absurd e0 mk.ne
    rw [fm_succ,this,List.append_nil];exact hV) (fun j hj=> ?_) w2 ⟨by simpa using h2,Kept.refl _ _⟩
  rotate_left
  . have ej:=ej j hj
    have em:=em j hj
    cases hc:tab 2 (x*512+j) with
    | none =>
     left
     have q:=T.pw.no 2 (x*512+j) f (by omega) (by omega) (fun e=>by omega) hc (by rw [ej];exact ht)
     rw [em] at q;exact q
    | some g =>
     right
     obtain ⟨q,hq,mk⟩:=T.pw.up 2 (x*512+j) g (by omega) hc
     rw [ej,ht] at hq
     cases hq
     rw [em] at mk
     obtain ⟨g1,a,d,ex⟩:=mk
     have eu:usE tab lf id 2 (x*512+j)=usA tab lf id 1 (x*512+j) g:=usE_some (n:=1) hc
     refine ⟨true,true,a,d,false,false,false,g,by omega,by omega,ex,fun V hV=> ?_⟩
     have EV:=E2.out.keep hV.2
     have ll:=fm_room (g:=(fun j=>usE tab lf id 2 (x*512+j))) hj hL
     rw [eu] at ll
     have cf0:V.cell? ⟨W.heap.size+1,0,none⟩=some (.int .i64 ((x:Int)*134217728)):=by
      have q:=hV.2.cell (Or.inr ⟨by omega,by omega⟩) CF.out.1
      exact q
     refine (cl2_any EV hV.1 (W.heap.size+1) W.heap.size x j g (Or.inr ⟨by omega,by omega⟩) (Or.inr ⟨by omega,by omega⟩) xb hj cf0 (hV.2.cell (Or.inr ⟨by omega,by omega⟩) CF.out.2) a d (fun V' EV' hV'=>below1_any h T (x*512+j) g hc _ V' _ EV' hV' ll)).mono ?_
     rintro e w' ⟨he,q1,q2⟩
     refine ⟨he,?_,hV.2.trans q2⟩
     rw [fm_succ,eu]
     rw [List.append_assoc,List.cons_append] at q1
     exact q1
  refine q.mono ?_
  rintro e w' ⟨he,q1,q2⟩
  refine ⟨he,?_,q2⟩
  rw [us];exact q1
 have ca:=HL.out.2.m1.2
 have cb:=HL.out.2.n1.2
 have ci:=HL.out.2.i1.2
 clear h T ht E hl hL us c1 c2 hb sz xb
 go_enter Tryz.func58,Tryz.ntmps58
 go_upto_region 1 with fail
 generalize ((W.alloc (.cells #[.int .i64 3] 3)).alloc (.cells #[.int .i64 ((x:Int)*134217728)] 3))=W1 at HL KW C1 ca cb ci |-
 go_wp2_with fail
 refine Calls.mono (NC.out _ HL.out.1) ?_
 rintro e w2 ⟨rfl,h1,h2⟩
 have H2:Hid (LU w0 (fun i=>K i\/(W.heap.size<=i/\i<W.heap.size+2)) b (L++[((f:Int),2,id)]) w2/\Ks w0 (fun i=>K i\/(W.heap.size<=i/\i<W.heap.size+2)) W1 w2/\Env w0 (fun i=>K i\/(W.heap.size<=i/\i<W.heap.size+2)) b mb m.rb id p c R kn ki km kb kr w2):=⟨h1,h2,HL.out.2.keep h2⟩
 have C2:Hid (w2.cell? ⟨W.heap.size+1,0,none⟩=some (.int .i64 ((x:Int)*134217728))/\w2.cell? ⟨W.heap.size,0,none⟩=some (.int .i64 3)):=⟨h2.cell (Or.inr ⟨by omega,by omega⟩) C1.out.1,h2.cell (Or.inr ⟨by omega,by omega⟩) C1.out.2⟩
 have ea:=H2.out.2.2.m1.2
 have eb:=H2.out.2.2.ma.2
 clear h1 h2 NC HL C1 ca cb ci
 go_wp2_with fail
 refine Calls.mono (EC.out _ H2.out.1 H2.out.2.2 C2.out) ?_
 rintro e w3 ⟨rfl,h1,h2⟩
 have HE:Hid (LU w0 K b (L++usA tab lf id 2 x f) w3/\Ks w0 K W w3):=⟨h1.less (fun j hj=>Or.inl hj),KW.out.trans (Ks.less (H2.out.2.1.trans h2) (fun j hj=>Or.inl hj))⟩
 clear h1 h2 EC H2 C2 ea eb KW
 go_wp2_with fail
 go_returns
 exact ⟨rfl,HE.out⟩
set_option maxHeartbeats 2000000 in
theorem below3_any {X:Nat->Prop} {w0:World} {m:Pm} {s:Ps} (h:Pu X w0 m s) {root:Nat} {tab:Nat->Nat->Option Nat} {lf:Nat->Option Lf} {R:List Re.Rg} {kf:Nat} (T:Tbs m s root tab lf R kf) {b mb:Nat} {id:Int} {p:Option Addr} {c:Nat} {kn ki km kb kr:Nat} (x f:Nat) (ht:tab 4 x=some f)
 (K:Nat->Prop) (W:World) (L:List Us) (E:Env w0 K b mb m.rb id p c R kn ki km kb kr W) (hl:LU w0 K b L W) (hL:L.length+(usA tab lf id 3 x f).length<=1000000) :
 Calls Tryz.prog 58 #[.int .i64 f,.int .i64 4,.int .i64 ((x:Int)*68719476736),pp kn,pp ki,pp km,pp kb,pp kr] W fun e w'=>e=.returned (.tuple #[])/\LU w0 K b (L++usA tab lf id 3 x f) w'/\Ks w0 K W w':=by
 have xb:x=0:=T.b4 ht
 have us:=usA_is tab lf id 3 x f
 rw [us] at hL
 have sz:((W.alloc (.cells #[.int .i64 4] 3)).alloc (.cells #[.int .i64 ((x:Int)*68719476736)] 3)).heap.size=W.heap.size+2:=by rw [World.size_alloc,World.size_alloc]
 have hb:Below W.heap.size W ((W.alloc (.cells #[.int .i64 4] 3)).alloc (.cells #[.int .i64 ((x:Int)*68719476736)] 3)):=Go.Joins.below_alloc2 _ _ _
 have c1:((W.alloc (.cells #[.int .i64 4] 3)).alloc (.cells #[.int .i64 ((x:Int)*68719476736)] 3)).cell? ⟨W.heap.size,0,none⟩=some (.int .i64 4):=((Blk.made W [.int .i64 4] 3).below (Go.Joins.below_alloc1 _ _)).cell 0
 have c2:((W.alloc (.cells #[.int .i64 4] 3)).alloc (.cells #[.int .i64 ((x:Int)*68719476736)] 3)).cell? ⟨W.heap.size+1,0,none⟩=some (.int .i64 ((x:Int)*68719476736)):=by
  have q:=(Blk.made (W.alloc (.cells #[.int .i64 4] 3)) [.int .i64 ((x:Int)*68719476736)] 3).cell 0
  rw [World.size_alloc] at q;exact q
 have KW:Hid (Ks w0 K W ((W.alloc (.cells #[.int .i64 4] 3)).alloc (.cells #[.int .i64 ((x:Int)*68719476736)] 3))):=ks_below hl hb
 have HL:Hid (LU w0 (fun i=>K i\/(W.heap.size<=i/\i<W.heap.size+2)) b L ((W.alloc (.cells #[.int .i64 4] 3)).alloc (.cells #[.int .i64 ((x:Int)*68719476736)] 3))/\Env w0 (fun i=>K i\/(W.heap.size<=i/\i<W.heap.size+2)) b mb m.rb id p c R kn ki km kb kr ((W.alloc (.cells #[.int .i64 4] 3)).alloc (.cells #[.int .i64 ((x:Int)*68719476736)] 3))):=by
  have q:=hl.grow hb
  rw [sz] at q
  exact ⟨q,(E.keep KW.out).more (fun _=>Or.inl)⟩
 have C1:Hid (_/\_):=⟨c2,c1⟩
 have NC:Hid (∀ V,LU w0 (fun i=>K i\/(W.heap.size<=i/\i<W.heap.size+2)) b L V->_):=fun V hV=>note_any hV (by omega) (f:Int) 2 id
 have EC:Hid (∀ w2,LU w0 (fun i=>K i\/(W.heap.size<=i/\i<W.heap.size+2)) b (L++[((f:Int),2,id)]) w2->Env w0 (fun i=>K i\/(W.heap.size<=i/\i<W.heap.size+2)) b mb m.rb id p c R kn ki km kb kr w2->(w2.cell? ⟨W.heap.size+1,0,none⟩=some (.int .i64 ((x:Int)*68719476736))/\w2.cell? ⟨W.heap.size,0,none⟩=some (.int .i64 4))->Calls Tryz.prog 54 #[pp m.rb,.int .i64 f,.func (.func 59) #[] #[pp (W.heap.size+1),pp W.heap.size,pp kb,pp kr,pp kn,pp ki]] w2 fun e w'=>e=.returned (.tuple #[])/\LU w0 (fun i=>K i\/(W.heap.size<=i/\i<W.heap.size+2)) b (L++usA tab lf id 3 x f) w'/\Ks w0 (fun i=>K i\/(W.heap.size<=i/\i<W.heap.size+2)) w2 w'):=by
  intro w2 h2 e2 cf
  have E2:Hid _:=e2
  have CF:Hid (_/\_):=cf
  have ej: ∀ j,j<512->(x*512+j) / 512=x:=fun j hj=>by omega
  have em: ∀ j,j<512->(x*512+j) % 512=j:=fun j hj=>by omega
  have q:=each_s h f (T.has 4 x f ht) (W.heap.size+1) W.heap.size kb kr kn ki (fun j V=>LU w0 (fun i=>K i\/(W.heap.size<=i/\i<W.heap.size+2)) b (L++((f:Int),2,id)::(List.range j).flatMap (fun j=>usE tab lf id 3 (x*512+j))) V/\Ks w0 (fun i=>K i\/(W.heap.size<=i/\i<W.heap.size+2)) w2 V)
   (fun j V V' hV hb=>⟨hV.1.below hb,hV.2.trans (ks_below hV.1 hb)⟩) (fun j V hV=>hV.1.bel) (fun j V hj e0 hV=>by
    have ej:=ej j hj
    have em:=em j hj
    have:usE tab lf id 3 (x*512+j)=[]:=by
     cases hc:tab 3 (x*512+j) with
     | none => exact usE_none (n := 2) hc
     | some g =>
      obtain ⟨q,hq,mk⟩:=T.pw.up 3 (x*512+j) g (by omega) hc
      rw [ej,ht] at hq
      cases hq
      rw [em] at mk
      exact absurd e0 mk.ne
    rw [fm_succ,this,List.append_nil];exact hV) (fun j hj=> ?_) w2 ⟨by simpa using h2,Kept.refl _ _⟩
  rotate_left
  . have ej:=ej j hj
    have em:=em j hj
    by_cases c:j<256
    rotate_left
    . by_cases c6:j=256
      . right
        subst c6
        have er:f=root:=root_is T (by have:=xb;rw [this] at ht;exact ht)
        refine ⟨true,false,false,false,false,false,false,kf,by omega,by have:=T.kf;omega,by rw [er];exact T.hi.1,fun V hV=> ?_⟩
        have cf0:=hV.2.cell (Or.inr ⟨by omega,by omega⟩) CF.out.1
        rw [xb] at cf0
        refine (cltop_any hV.1 kb kr kn ki (W.heap.size+1) W.heap.size (Or.inr ⟨by omega,by omega⟩) (Or.inr ⟨by omega,by omega⟩) cf0 (hV.2.cell (Or.inr ⟨by omega,by omega⟩) CF.out.2) true false false false false false false kf).mono ?_
        rintro e w' ⟨he,q1,q2⟩
        have nn:tab 3 (x*512+256)=none:=by
         cases hc:tab 3 (x*512+256) with
         | none => rfl
         | some g => have := T.b3 hc; omega
        refine ⟨he,?_,hV.2.trans q2⟩
        rw [fm_succ,usE_none (n:=2) nn,List.append_nil];exact q1
      . left
        have er:f=root:=root_is T (by have:=xb;rw [this] at ht;exact ht)
        rw [er];exact T.hi.2 j (by omega) hj
    cases hc:tab 3 (x*512+j) with
    | none =>
     left
     have q:=T.pw.no 3 (x*512+j) f (by omega) (by omega) (fun e=>by omega) hc (by rw [ej];exact ht)
     rw [em] at q;exact q
    | some g =>
     right
     obtain ⟨q,hq,mk⟩:=T.pw.up 3 (x*512+j) g (by omega) hc
     rw [ej,ht] at hq
     cases hq
     rw [em] at mk
     obtain ⟨g1,a,d,ex⟩:=mk
     have eu:usE tab lf id 3 (x*512+j)=usA tab lf id 2 (x*512+j) g:=usE_some (n:=2) hc
     refine ⟨true,true,a,d,false,false,false,g,by omega,by omega,ex,fun V hV=> ?_⟩
     have EV:=E2.out.keep hV.2
     have ll:=fm_room (g:=(fun j=>usE tab lf id 3 (x*512+j))) hj hL
     rw [eu] at ll
     have cf0:V.cell? ⟨W.heap.size+1,0,none⟩=some (.int .i64 0):=by
      have q:=hV.2.cell (Or.inr ⟨by omega,by omega⟩) CF.out.1
      rw [xb] at q;exact q
     refine (cl3_any EV hV.1 (W.heap.size+1) W.heap.size x j g (Or.inr ⟨by omega,by omega⟩) (Or.inr ⟨by omega,by omega⟩) xb c cf0 (hV.2.cell (Or.inr ⟨by omega,by omega⟩) CF.out.2) a d (fun V' EV' hV'=>below2_any h T (x*512+j) g hc _ V' _ EV' hV' ll)).mono ?_
     rintro e w' ⟨he,q1,q2⟩
     refine ⟨he,?_,hV.2.trans q2⟩
     rw [fm_succ,eu]
     rw [List.append_assoc,List.cons_append] at q1
     exact q1
  refine q.mono ?_
  rintro e w' ⟨he,q1,q2⟩
  refine ⟨he,?_,q2⟩
  rw [us];exact q1
 have ca:=HL.out.2.m1.2
 have cb:=HL.out.2.n1.2
 have ci:=HL.out.2.i1.2
 clear h T ht E hl hL us c1 c2 hb sz xb
 go_enter Tryz.func58,Tryz.ntmps58
 go_upto_region 1 with fail
 generalize ((W.alloc (.cells #[.int .i64 4] 3)).alloc (.cells #[.int .i64 ((x:Int)*68719476736)] 3))=W1 at HL KW C1 ca cb ci |-
 go_wp2_with fail
 refine Calls.mono (NC.out _ HL.out.1) ?_
 rintro e w2 ⟨rfl,h1,h2⟩
 have H2:Hid (LU w0 (fun i=>K i\/(W.heap.size<=i/\i<W.heap.size+2)) b (L++[((f:Int),2,id)]) w2/\Ks w0 (fun i=>K i\/(W.heap.size<=i/\i<W.heap.size+2)) W1 w2/\Env w0 (fun i=>K i\/(W.heap.size<=i/\i<W.heap.size+2)) b mb m.rb id p c R kn ki km kb kr w2):=⟨h1,h2,HL.out.2.keep h2⟩
 have C2:Hid (w2.cell? ⟨W.heap.size+1,0,none⟩=some (.int .i64 ((x:Int)*68719476736))/\w2.cell? ⟨W.heap.size,0,none⟩=some (.int .i64 4)):=⟨h2.cell (Or.inr ⟨by omega,by omega⟩) C1.out.1,h2.cell (Or.inr ⟨by omega,by omega⟩) C1.out.2⟩
 have ea:=H2.out.2.2.m1.2
 have eb:=H2.out.2.2.ma.2
 clear h1 h2 NC HL C1 ca cb ci
 go_wp2_with fail
 refine Calls.mono (EC.out _ H2.out.1 H2.out.2.2 C2.out) ?_
 rintro e w3 ⟨rfl,h1,h2⟩
 have HE:Hid (LU w0 K b (L++usA tab lf id 3 x f) w3/\Ks w0 K W w3):=⟨h1.less (fun j hj=>Or.inl hj),KW.out.trans (Ks.less (H2.out.2.1.trans h2) (fun j hj=>Or.inl hj))⟩
 clear h1 h2 EC H2 C2 ea eb KW
 go_wp2_with fail
 go_returns
 exact ⟨rfl,HE.out⟩
end Go.Proofs.YtajfbieacfjhnaaGreatDoor.Au
namespace Go.Proofs.YtajfbieacfjhnaaGreatDoor.Au
open Go.ChangeShapes Go.WideShapes Go.ChangeAt Go.RowKit Go.Maps Go.Sort Go.Shelf
open Go.Proofs.YtajfbieacfjhnaaGreatDoor.Tt Go.Proofs.YtajfbieacfjhnaaGreatDoor.Sp
set_option linter.unusedSimpArgs false
set_option linter.unusedVariables false
set_option maxRecDepth 8000
set_option maxHeartbeats 1000000 in
theorem root_any {Y:Nat->Prop} {O:Nat->Nat} {n:Nat} {W:World} {M:Mb} {m:Pm} {s:Ps} {T:Nat->Tl.Ln} {S:Pc.Tg} {a:Sr} {B:List Sr} (h:Mc Y O n W M m s T S (a::B)) (wi:(Lit.int .i64 a.id).wf=true) :
 Calls Tryz.prog 53 #[pp M.mb,.int .i64 a.id] W fun e w'=>e=.returned (.tuple #[.int .i64 a.root,.bool true])/\w'=W:=by
 have ma:=List.mem_cons_self (a:=a) (l:=B)
 have lk:(Instr.lookup 72 (.map (some M.sm)) (.int .i64 a.id) false).run Tryz.prog W=.ok (.pointer (some ⟨a.sb,0,none⟩)) W:=by
  have q:=h.map.look wi
  rw [spF_head] at q;exact q
 have c6:W.cell? ⟨M.mb,6,none⟩=some (.map (some M.sm)):=h.mac.cell 6
 have c1:W.cell? ⟨a.sb,1,none⟩=some (.int .i64 a.root):=(h.sp a ma).blk.cell 1
 clear h wi
 go_enter Tryz.func53,Tryz.ntmps53
 go_wp2_with fail
 go_returns
 exact ⟨rfl,rfl⟩
set_option maxHeartbeats 1000000 in
theorem clone_any (p:Option Addr) (c:Nat) (L:List Re.Rg) (hp: ∀ x,p=some x-> ∃ g,x=⟨g,0,none⟩) (hL:L.length<=100) (w:World) (h:Re.IsL w 0 p L):Calls Tryz.prog 105 #[.slice p L.length c] w fun e w'=> ∃ p' c',e=.returned (.slice p' L.length c')/\Re.IsL w' w.heap.size p' L/\Below w.heap.size w w':=by
 cases p with
 | none =>
  obtain rfl:L=[]:=by
   cases L with
   | nil => rfl
   | cons x L => obtain ⟨g, q, _⟩ := h 0 (by simp); cases q
  have e1: ∀ w:World,(binOp .eql 85 (.slice none 0 c) (.slice none 0 0)).run Tryz.prog w=.ok (.bool true) w:=fun w=>by kernel_rfl
  go_enter Tryz.func105,Tryz.ntmps105
  go_wp2_with fail
  go_returns
  exact ⟨none,0,rfl,fun i hi=>absurd hi (Nat.not_lt_zero _),Below.refl _ _⟩
 | some x =>
  obtain ⟨g,rfl⟩:=hp x rfl
  have b0:Below w.heap.size w (w.alloc (.cells #[] 102)):=Go.Joins.below_alloc1 _ _
  obtain ⟨i0,hi,hz0,hz1,hz2⟩:=Re.info5 Re.rg_info5
  obtain ⟨v',W2,r2,ho,hg,_⟩:=Li.app_all (enc:=Re.Rg.enc) (k:=6) (fun _=>rfl) (fun x u hu=>by unfold Re.Rg.enc at hu;simp at hu;rcases hu with rfl | rfl | rfl | rfl | rfl | rfl <;> rfl) (by decide) Tryz.underlying85 ⟨i0,hi,hz0,hz1,hz2⟩ rfl (by decide) w.heap.size (.slice (some ⟨w.heap.size,0,none⟩) 0 0) [] L g 0 L.length c rfl (by simp;omega) (w.alloc (.cells #[] 102)) (Li.ol_made w w.heap.size (Nat.le_refl _)) (fun i hi j hj=>by
   obtain ⟨g',q,_,l2,hc⟩:=h i hi
   cases q
   rw [Nat.zero_add,World.cell?_of_block (w:=w) (a:=⟨g,i*6+j,none⟩) (b0.block g l2)]
   have lj:j<(Re.Rg.enc L[i]).length:=hj
   rw [List.getElem?_eq_getElem lj]
   refine hc j _ ?_
   rw [List.getD_eq_getElem?_getD,List.getElem?_eq_getElem hi]
   exact List.getElem?_eq_getElem lj) (by rw [World.size_alloc];omega)
  have HB:Hid (Below w.heap.size w W2):=⟨hg.os.trans b0.os,hg.tape.trans b0.tape,hg.output.trans b0.output,Nat.le_trans b0.size hg.size,fun j hj=>(hg.block j (by rw [World.size_alloc];omega) (fun e=>by have e:some j=some w.heap.size:=e;have:=Option.some.inj e;omega)).trans (b0.block j hj)⟩
  have ho:Re.OwnL W2 w.heap.size v' L:=by
   have q:=ho
   rw [List.nil_append] at q;exact q
  obtain ⟨p',c',rfl,is⟩:=Re.own_read ho
  have HI:Hid (Re.IsL W2 w.heap.size p' L):=is
  obtain ⟨n,hn⟩: ∃ n,n=L.length:=⟨_,rfl⟩
  rw [<- hn] at r2 |-
  have e1: ∀ w:World,(binOp .eql 85 (.slice (some ⟨g,0,none⟩) n c) (.slice none 0 0)).run Tryz.prog w=.ok (.bool false) w:=fun w=>by kernel_rfl
  clear ho hg is h hL b0 hn
  go_enter Tryz.func105,Tryz.ntmps105
  go_wp2_with (at_builtin;refine Li.wpList_app rfl _ _ 85 rfl (.slice (some ⟨w.heap.size,0,none⟩) 0 0) (.slice (some ⟨g,0,none⟩) n c) rfl rfl (.slice p' n c') W2 r2 ?_)
  go_returns
  exact ⟨p',c',rfl,HI.out,HB.out⟩
set_option maxHeartbeats 1000000 in
theorem regions_any {Y:Nat->Prop} {O:Nat->Nat} {n:Nat} {W:World} {M:Mb} {m:Pm} {s:Ps} {T:Nat->Tl.Ln} {S:Pc.Tg} {a:Sr} {B:List Sr} (h:Mc Y O n W M m s T S (a::B)) (hr: ∀ x,a.rp=some x-> ∃ g,x=⟨g,0,none⟩) (wi:(Lit.int .i64 a.id).wf=true) :
 Calls Tryz.prog 57 #[pp M.mb,.int .i64 a.id] W fun e w'=> ∃ p' c',e=.returned (.slice p' a.L.length c')/\Re.IsL w' W.heap.size p' a.L/\Below W.heap.size W w':=by
 have ma:=List.mem_cons_self (a:=a) (l:=B)
 have lk:(Instr.lookup 72 (.map (some M.sm)) (.int .i64 a.id) false).run Tryz.prog W=.ok (.pointer (some ⟨a.sb,0,none⟩)) W:=by
  have q:=h.map.look wi
  rw [spF_head] at q;exact q
 have c6:W.cell? ⟨M.mb,6,none⟩=some (.map (some M.sm)):=h.mac.cell 6
 have c2:W.cell? ⟨a.sb,2,none⟩=some (.slice a.rp a.L.length a.rc):=(h.sp a ma).blk.cell 2
 have CC:Hid _:=clone_any a.rp a.rc a.L hr (by have:=(h.sp a ma).few;omega) W (h.sp a ma).lis
 generalize a.L.length=nl at c2 CC |-
 clear h hr wi
 go_enter Tryz.func57,Tryz.ntmps57
 go_wp2_with fail
 refine Calls.mono CC.out ?_
 rintro e w1 ⟨p',c',rfl,is,hb1⟩
 have HB:Hid (Re.IsL w1 W.heap.size p' a.L/\Below W.heap.size W w1):=⟨is,hb1⟩
 clear hb1 is CC c2 c6 lk
 go_wp2_with fail
 go_returns
 exact ⟨p',c',rfl,HB.out⟩
theorem keysS_any (mb:Option Nat) (W:World):Calls Tryz.prog 52 #[.map mb] W fun e w'=>e=.returned (.func (.func 102) #[] #[.pointer (some ⟨W.heap.size,0,none⟩)])/\w'=W.alloc (.cells #[.map mb] 72) :=
 (callsIn_wide (n:=5)).1 (AnyZI.keys_in Bd.keysS Fence.wide 5 trivial rfl mb W)
theorem keysP_mem {w:World} {b nn:Nat} {D0:DataW Unit} (hown:w.ownsMap Tryz.prog 3 ptrElem b nn D0):(intKeys D0).Nodup/\ ∀ x,x∈intKeys D0↔Maps.has D0 (.int .i64 x)=true:=by
 obtain ⟨es,hD,hpw,_⟩:=hown.entries keyLaw
 obtain ⟨es',hD',hko⟩:=hown.keysOf
 obtain rfl:es=es':=by rw [hD] at hD';simpa using hD'
 subst hD
 have hk: ∀ p∈es,∃ x,p.1=.int .i64 x:=fun p hp=>by obtain ⟨v,hv⟩:=hko p hp;obtain ⟨x,_,hx,_⟩:=Maps.keyOf_i64 Tryz.underlying3 hv;exact ⟨x,hx⟩
 constructor
 . show (es.map fun p=>Go.intOf p.1).Nodup
   refine List.pairwise_map.2 (hpw.imp_of_mem fun {p q} hp' hq' hne e=>hne ?_)
   obtain ⟨a,ha⟩:=hk p hp'
   obtain ⟨b,hb⟩:=hk q hq'
   rw [ha,hb] at e |-
   exact congrArg _ e
 . intro x
   rw [has_eq,List.any_eq_true]
   show x∈(es.map fun p=>Go.intOf p.1)↔_
   rw [List.mem_map]
   constructor
   . rintro ⟨p,hp',rfl⟩
     obtain ⟨a,ha⟩:=hk p hp'
     exact ⟨p,hp',by rw [ha];simp [Lit.sameKey,Go.intOf]⟩
   . rintro ⟨p,hp',hs⟩
     obtain ⟨a,ha⟩:=hk p hp'
     rw [ha] at hs
     exact ⟨p,hp',by rw [ha];simpa [Lit.sameKey,Go.intOf] using hs⟩
set_option maxHeartbeats 1000000 in
theorem sortedS_any (b n:Nat) (f:Int->Option Nat) (hn:n<=1048600) (w:World) (h:MapP w b n f) :
 Calls Tryz.prog 29 #[.func (.func 102) #[] #[.pointer (some ⟨w.heap.size,0,none⟩)]] (w.alloc (.cells #[.map (some b)] 72)) fun e w'=> ∃ (v:Value) (L:List Int),e=.returned v/\Bd.Asc L/\(∀ x,x∈L↔(f x).isSome=true)/\w'.ownsRow w.heap.size 3 1 v L.length (L.map (Value.int .i64))/\Below w.heap.size w w':=by
 obtain ⟨D0,hown,hD⟩:=h
 have hs:Maps.size D0<=n:=hown.size_le
 have hbl:=hown.lt
 have KM:=keysP_mem hown
 have hseq:SeqGives Fence.wide 2 Tryz.prog 102 #[.pointer (some ⟨w.heap.size,0,none⟩)] encZ (fun ss=>ss.Perm (intKeys D0)) (Maps.size D0) (w.alloc (.cells #[.map (some b)] 72)) :=
  AnyZI.keys_gives (ρ :=Bd.keysS_ren) { Bd.keysS with } Fence.wide _ trivial rfl (by omega) w.heap.size b n D0 _ (by simp) (by simp) (by
   obtain ⟨es,clock,hb,Ft,hs,hD⟩:=hown
   exact ⟨es,clock,(Below.heap_alloc _ _ b hbl).trans hb,Ft,hs,hD⟩)
 have cS:=AnyZI.sorted_in Bd.sortedA Fence.wide 5 trivial trivial trivial trivial rfl (by omega) (Bd.sortsA _) (enters_of Tryz.func75 (by kernel_rfl) rfl) 102 #[.pointer (some ⟨w.heap.size,0,none⟩)] trivial (enters_of Tryz.func102 (by kernel_rfl) rfl) _ _ (by unfold maxLen;omega) (by omega) _ hseq
 change CallsIn _ _ Tryz.prog 29 _ _ _ at cS
 refine ((callsIn_wide (n:=5)).1 cS).mono ?_
 rintro e w' ⟨v,ss,rfl,hS,hrow,hnil,hb⟩
 have nd:ss.Nodup:=hS.nodup_iff.2 KM.1
 have SA:=Bd.sort_asc nd
 refine ⟨v,ss.mergeSort leI,rfl,SA.1,fun x=> ?_,?_,((Below.refl _ w).alloc (Nat.le_refl _) _).trans (hb.mono (by simp))⟩
 . rw [SA.2 x,hS.mem_iff,KM.2 x,(hD x).1]
 . have r:=ownsRow_base_a hrow (base':=w.heap.size) (by simp)
   rw [List.length_mergeSort]
   exact r
theorem spaces_any {Y:Nat->Prop} {O:Nat->Nat} {n:Nat} {W:World} {M:Mb} {m:Pm} {s:Ps} {T:Nat->Tl.Ln} {S:Pc.Tg} {A:List Sr} (h:Mc Y O n W M m s T S A) (hn:n<=1048600) :
 Calls Tryz.prog 17 #[pp M.mb] W fun e w'=> ∃ (v:Value) (L:List Int),e=.returned v/\Bd.Asc L/\(∀ x,x∈L↔(spF A x).isSome=true)/\w'.ownsRow W.heap.size 3 1 v L.length (L.map (Value.int .i64))/\Below W.heap.size W w':=by
 have c6:W.cell? ⟨M.mb,6,none⟩=some (.map (some M.sm)):=h.mac.cell 6
 have SC:Hid _:=sortedS_any M.sm n _ hn W h.map
 have KC:Hid _:=keysS_any (some M.sm) W
 clear h
 go_enter Tryz.func17,Tryz.ntmps17
 go_wp2_with fail
 refine Calls.mono KC.out ?_
 rintro e w1 ⟨rfl,hu⟩
 subst hu
 clear KC
 go_wp2_with fail
 refine Calls.mono SC.out ?_
 rintro e w2 ⟨v,L,rfl,h1,h2,h3,h4⟩
 have HB:Hid (Bd.Asc L/\(∀ x,x∈L↔(spF A x).isSome=true)/\w2.ownsRow W.heap.size 3 1 v L.length (L.map (Value.int .i64))/\Below W.heap.size W w2):=⟨h1,h2,h3,h4⟩
 clear h1 h2 h3 h4 SC
 go_wp2_with fail
 go_returns
 exact ⟨_,_,rfl,HB.out⟩
end Go.Proofs.YtajfbieacfjhnaaGreatDoor.Au
namespace Go.Proofs.YtajfbieacfjhnaaGreatDoor.Au
open Go.ChangeShapes Go.WideShapes Go.ChangeAt Go.RowKit Go.Maps
open Go.Proofs.YtajfbieacfjhnaaGreatDoor.Tt Go.Proofs.YtajfbieacfjhnaaGreatDoor.Sp
set_option linter.unusedSimpArgs false
set_option linter.unusedVariables false
set_option maxRecDepth 8000
set_option maxHeartbeats 2000000 in
theorem noteK_any {Y:Nat->Prop} {O:Nat->Nat} {n:Nat} {w0:World} {M:Mb} {m:Pm} {s:Ps} {T:Nat->Tl.Ln} {S:Pc.Tg} {a:Sr} {B:List Sr} (h:Mc Y O n w0 M m s T S (a::B)) (wi:(Lit.int .i64 a.id).wf=true) {z:Nat} (kz:Kern s (a::B) M.kf z) (hkf:m.has (M.kf:Nat)=true) (hz:z<1048576)
 {K:Nat->Prop} {b:Nat} {L:List Us} {W:World} (hl:LU w0 K b L W) (hL:L.length<=999990) :
 Calls Tryz.prog 18 #[pp M.mb,.int .i64 a.id,NV b] W fun e w'=>e=.returned (.tuple #[])/\LU w0 K b (L++[((M.kf:Int),1,0),((z:Int),1,0)]) w'/\Ks w0 K W w':=by
 have ma:=List.mem_cons_self (a:=a) (l:=B)
 obtain ⟨K',hK'⟩: ∃ K':Nat->Prop,K'=fun i=>K i\/(W.heap.size<=i/\i<W.heap.size+2):=⟨_,rfl⟩
 have KS:Hid (∀ j,K j->K' j):=fun j hj=>by rw [hK'];exact Or.inl hj
 obtain ⟨q,hq⟩: ∃ q,q=W.heap.size:=⟨_,rfl⟩
 have Kq:Hid (K' q/\K' (q+1)):=by show K' _/\K' _;rw [hK',hq];exact ⟨Or.inr ⟨by omega,by omega⟩,Or.inr ⟨by omega,by omega⟩⟩
 have sz:((W.alloc (.cells #[pp M.mb] 29)).alloc (.cells #[NV b] 59)).heap.size=W.heap.size+2:=by rw [World.size_alloc,World.size_alloc]
 have hb0:Below W.heap.size W ((W.alloc (.cells #[pp M.mb] 29)).alloc (.cells #[NV b] 59)):=Go.Joins.below_alloc2 _ _ _
 have c1:((W.alloc (.cells #[pp M.mb] 29)).alloc (.cells #[NV b] 59)).cell? ⟨q,0,none⟩=some (pp M.mb):=by rw [hq];exact ((Blk.made W [pp M.mb] 29).below (Go.Joins.below_alloc1 _ _)).cell 0
 have c2:((W.alloc (.cells #[pp M.mb] 29)).alloc (.cells #[NV b] 59)).cell? ⟨q+1,0,none⟩=some (NV b):=by
  have r:=(Blk.made (W.alloc (.cells #[pp M.mb] 29)) [NV b] 59).cell 0
  rw [World.size_alloc,<- hq] at r;exact r
 have K0:Hid (Ks w0 K W ((W.alloc (.cells #[pp M.mb] 29)).alloc (.cells #[NV b] 59))):=ks_below hl hb0
 have H0:Hid (LU w0 K' b L ((W.alloc (.cells #[pp M.mb] 29)).alloc (.cells #[NV b] 59))):=by
  have r:=hl.grow hb0
  rw [sz] at r
  rw [hK'];exact r
 have RC:Hid (∀ V,LU w0 K' b L V->Calls Tryz.prog 53 #[pp M.mb,.int .i64 a.id] V fun e w'=>e=.returned (.tuple #[.int .i64 a.root,.bool true])/\w'=V):=fun V hV=>root_any (h.below hV.bel) wi
 have MC:Hid (∀ V,LU w0 K' b L V->V.cell? ⟨M.mb,0,none⟩=some (pp m.rb)):=fun V hV=>(h.below hV.bel).mac.cell 0
 have lm:M.mb<w0.heap.size:=h.mac.lt
 have rt:=h.rt a ma
 have EC:Hid (∀ V,LU w0 K' b L V->V.cell? ⟨q,0,none⟩=some (pp M.mb)->V.cell? ⟨q+1,0,none⟩=some (NV b)->Calls Tryz.prog 54 #[pp m.rb,.int .i64 a.root,.func (.func 55) #[] #[pp (q+1),pp q]] V fun e w'=>e=.returned (.tuple #[])/\LU w0 K' b (L++[((M.kf:Int),1,0),((z:Int),1,0)]) w'/\Ks w0 K' V w'):=fun V hV e1 e2=>by
  have r:=each_k h.pu a.root (rt.ow 4 0 a.root rt.pw.t4).1 (q+1) q (fun j U=>LU w0 K' b (if j<=256 then L else L++[((M.kf:Int),1,0),((z:Int),1,0)]) U/\Ks w0 K' V U)
   (fun j U U' hU hb=>⟨hU.1.below hb,hU.2.trans (ks_below hU.1 hb)⟩) (fun j U hU=>hU.1.bel) (fun j U hj e0 hU=>by
    by_cases c:j=256
    . subst c
      have p:=(pack_says true true false false false false false false M.kf (by omega) (by have:=h.kf;omega)).1
      have q:=(kz.hi a ma).1
      unfold kV at q
      rw [<- q,e0] at p;exact absurd p (by decide)
    . by_cases d:j<=256
      . rw [if_pos d] at hU
        rw [if_pos (by omega)];exact hU
      . rw [if_neg d] at hU
        rw [if_neg (by omega)];exact hU)
   (fun j hj=>by
    by_cases c:j<256
    . cases hc:a.tab 3 j with
      | none =>
       left
       have r:=rt.pw.no 3 j a.root (by omega) (by omega) (fun _=>c) hc (by rw [show j / 512=0 by omega];exact rt.pw.t4)
       rw [show j % 512=j by omega] at r;exact r
      | some f =>
       right
       obtain ⟨g,hg,mk⟩:=rt.pw.up 3 j f (by omega) hc
       rw [show j / 512=0 by omega,rt.pw.t4] at hg
       cases hg
       rw [show j % 512=j by omega] at mk
       obtain ⟨g1,aa,d,ex⟩:=mk
       refine ⟨true,true,aa,d,false,false,false,f,by omega,by omega,ex,fun U hU=> ?_⟩
       refine (k_no (q+1) q j (by omega) true true aa d false false false f).mono ?_
       rintro e w' ⟨he,hb⟩
       rw [if_pos (by omega)] at hU
       rw [if_pos (by omega)]
       exact ⟨he,hU.1.below hb,hU.2.trans (ks_below hU.1 hb)⟩
    . by_cases c6:j=256
      . right
        subst c6
        refine ⟨true,false,false,false,false,false,false,M.kf,by omega,by have:=h.kf;omega,(kz.hi a ma).1,fun U hU=> ?_⟩
        rw [if_pos (by omega)] at hU
        refine (k_yes h.pu hU.1 hL (q+1) q M.mb Kq.out.2 (hU.2.cell Kq.out.2 e2) Kq.out.1 (hU.2.cell Kq.out.1 e1) lm (MC.out U hU.1) M.kf z hkf hz kz.en true false false false false false false).mono ?_
        rintro e w' ⟨he,h1,h2⟩
        rw [if_neg (by omega)]
        exact ⟨he,h1,hU.2.trans h2⟩
      . left;exact (kz.hi a ma).2 j (by omega) hj)
   V ⟨by rw [if_pos (by omega)];exact hV,Kept.refl _ _⟩
  refine r.mono ?_
  rintro e w' ⟨he,h1,h2⟩
  rw [if_neg (by omega)] at h1
  exact ⟨he,h1,h2⟩
 clear h wi kz hkf hz hl hL sz hb0 lm rt ma hK'
 go_enter Tryz.func18,Tryz.ntmps18
 go_upto_region 1 with fail
 generalize ((W.alloc (.cells #[pp M.mb] 29)).alloc (.cells #[NV b] 59))=V at K0 H0 c1 c2 |-
 rw [<- hq]
 clear hq
 go_wp2_with fail
 refine Calls.mono (RC.out _ H0.out) ?_
 rintro e w' ⟨rfl,hu⟩
 have hu2:=hu.symm
 clear hu
 subst hu2
 have m0:=MC.out _ H0.out
 have C2:Hid _:=c2
 clear RC MC c2
 go_wp2_with fail
 refine Calls.mono (EC.out _ H0.out c1 C2.out) ?_
 rintro e w2 ⟨rfl,h1,h2⟩
 have HE:Hid (LU w0 K b (L++[((M.kf:Int),1,0),((z:Int),1,0)]) w2/\Ks w0 K W w2):=⟨h1.less KS.out,K0.out.trans (Ks.less h2 KS.out)⟩
 clear h1 h2 EC H0 K0 c1 C2 m0
 go_wp2_with fail
 go_returns
 exact ⟨rfl,HE.out⟩
theorem LU.poke {w0 W:World} {K:Nat->Prop} {b:Nat} {L:List Us} (h:LU w0 K b L W) {j:Nat} (hj:K j) (hw:w0.heap.size<=j) (o:Nat) (v:Value):LU w0 K b L (W.setCell ⟨j,o,none⟩ v):=by
 obtain ⟨⟨v',h1,h2,h3,h4⟩,h5,h6,h7⟩:=h
 have g:=Qu.grown_setCell1 W j o v
 refine ⟨⟨v',(g.block b h1.lt (fun e=>(h7 j hj).1 (Option.some.inj e).symm)).trans h1,Bm.row_keep h2 (fun i e=>g.block i (Bm.row_lt h2 i e).2 (fun q=>h4 j hj (by rw [e];exact q))),h3,h4⟩,h5.setCell (p:=⟨j,o,none⟩) hw _,h6,fun i hi=>⟨(h7 i hi).1,Nat.lt_of_lt_of_le (h7 i hi).2 g.size⟩⟩
theorem env_made {w0 V w1:World} {K':Nat->Prop} {b mb rb q n:Nat} {L:List Us} {id:Int} {p':Option Addr} {c':Nat} {R:List Re.Rg} (t1 t2:TypeId) (nf:Value) (H:LU w0 K' b L V) (is:Re.IsL w1 V.heap.size p' R) (hn:n=R.length) (few:R.length<=100) (hb:Below V.heap.size V w1) (Kq:K' q/\K' (q+1)/\K' (q+2)) (c1:V.cell? ⟨q,0,none⟩=some (pp mb)) (c2:V.cell? ⟨q+1,0,none⟩=some (.int .i64 id)) (c3:V.cell? ⟨q+2,0,none⟩=some (NV b)) (lm:mb<w0.heap.size) (cm:V.cell? ⟨mb,0,none⟩=some (pp rb)) :
 LU w0 (fun j=>K' j\/(V.heap.size<=j/\j<w1.heap.size+2)) b L (((w1.alloc (.cells #[.slice p' n c'] t1)).alloc (.cells #[nf] t2)).setCell ⟨w1.heap.size+1,0,none⟩ (.func (.func 58) #[] #[pp (q+2),pp (q+1),pp q,pp (w1.heap.size+1),pp w1.heap.size])) /\
 Ks w0 K' V (((w1.alloc (.cells #[.slice p' n c'] t1)).alloc (.cells #[nf] t2)).setCell ⟨w1.heap.size+1,0,none⟩ (.func (.func 58) #[] #[pp (q+2),pp (q+1),pp q,pp (w1.heap.size+1),pp w1.heap.size])) /\
 Env w0 (fun j=>K' j\/(V.heap.size<=j/\j<w1.heap.size+2)) b mb rb id p' c' R (q+2) (q+1) q (w1.heap.size+1) w1.heap.size (((w1.alloc (.cells #[.slice p' n c'] t1)).alloc (.cells #[nf] t2)).setCell ⟨w1.heap.size+1,0,none⟩ (.func (.func 58) #[] #[pp (q+2),pp (q+1),pp q,pp (w1.heap.size+1),pp w1.heap.size])):=by
 obtain ⟨CL,hCL⟩: ∃ CL:Value,CL=.func (.func 58) #[] #[pp (q+2),pp (q+1),pp q,pp (w1.heap.size+1),pp w1.heap.size]:=⟨_,rfl⟩
 rw [<- hCL]
 have ba:Below w1.heap.size w1 ((w1.alloc (.cells #[.slice p' n c'] t1)).alloc (.cells #[nf] t2)):=Go.Joins.below_alloc2 _ _ _
 have sz:((w1.alloc (.cells #[.slice p' n c'] t1)).alloc (.cells #[nf] t2)).heap.size=w1.heap.size+2:=by rw [World.size_alloc,World.size_alloc]
 have Bk1:Blk ((w1.alloc (.cells #[.slice p' n c'] t1)).alloc (.cells #[nf] t2)) w1.heap.size [.slice p' n c'] t1:=(Blk.made w1 [.slice p' n c'] t1).below (Go.Joins.below_alloc1 _ _)
 have Bk2:Blk ((w1.alloc (.cells #[.slice p' n c'] t1)).alloc (.cells #[nf] t2)) (w1.heap.size+1) [nf] t2:=by
  have r:=Blk.made (w1.alloc (.cells #[.slice p' n c'] t1)) [nf] t2
  rw [World.size_alloc] at r;exact r
 generalize ((w1.alloc (.cells #[.slice p' n c'] t1)).alloc (.cells #[nf] t2))=W4 at ba sz Bk1 Bk2 |-
 have b4:Below V.heap.size V W4:=below_then hb ba
 have g:=Qu.grown_setCell1 W4 (w1.heap.size+1) 0 CL
 have s1:=hb.size
 have H4:LU w0 (fun j=>K' j\/(V.heap.size<=j/\j<w1.heap.size+2)) b L W4:=by
  have r:=H.grow b4
  rw [sz] at r;exact r
 have s0:=H.bel.size
 have H5:=H4.poke (j:=w1.heap.size+1) (Or.inr ⟨by omega,by omega⟩) (by omega) 0 CL
 have KV:Ks w0 K' V (W4.setCell ⟨w1.heap.size+1,0,none⟩ CL):=by
  refine ⟨g.os.trans b4.os,g.tape.trans b4.tape,g.output.trans b4.output,Nat.le_trans b4.size g.size,fun j hj=> ?_⟩
  have lj:j<V.heap.size:=hj.elim (fun c=>(H.kb j c).2) (fun c=>Nat.lt_of_lt_of_le c s0)
  exact (g.block j (by have:=b4.size;omega) (fun e=>by have:=Option.some.inj e;omega)).trans (b4.block j lj)
 have bo: ∀ j,j<w1.heap.size+1->(W4.setCell ⟨w1.heap.size+1,0,none⟩ CL).heap[j]? =W4.heap[j]? :=fun j hj=>g.block j (by omega) (fun e=>by have:=Option.some.inj e;omega)
 refine ⟨H5,KV,⟨⟨Or.inl Kq.2.2,KV.cell Kq.2.2 c3⟩,⟨Or.inl Kq.2.1,KV.cell Kq.2.1 c2⟩,⟨Or.inl Kq.1,KV.cell Kq.1 c1⟩,⟨Or.inr ⟨by omega,by omega⟩,by rw [hCL];exact (Bk2.set 0 _).cell 0⟩,⟨Or.inr ⟨by omega,by omega⟩,?_⟩,⟨lm,KV.old lm cm⟩,?_,fun g' e l=> ?_,few⟩⟩
 . rw [<- hn]
   exact (World.cell?_of_block (w:=W4) (a:=⟨w1.heap.size,0,none⟩) (bo w1.heap.size (by omega))).trans (Bk1.cell 0)
 . have i4:=is.below ba
   refine list_block (w:=W4) (fun i hi=> ?_) g.size (fun g' e l k=> ?_)
   . obtain ⟨g',e1,e2,e3,e4⟩:=i4 i hi
     exact ⟨g',e1,Nat.zero_le _,e3,e4⟩
   . obtain ⟨g2,e1,e2,e3,_⟩:=is 0 k
     rw [e] at e1
     cases e1
     exact bo _ (by omega)
 . obtain ⟨g2,e1,e2,e3,_⟩:=is 0 l
   rw [e] at e1
   cases e1
   exact Or.inr ⟨e2,by omega⟩
set_option maxHeartbeats 2000000 in
theorem noteS_any {Y:Nat->Prop} {O:Nat->Nat} {n:Nat} {w0:World} {M:Mb} {m:Pm} {s:Ps} {T:Nat->Tl.Ln} {S:Pc.Tg} {a:Sr} {B:List Sr} (h:Mc Y O n w0 M m s T S (a::B)) (wi:(Lit.int .i64 a.id).wf=true) (hr: ∀ x,a.rp=some x-> ∃ g,x=⟨g,0,none⟩) {z:Nat} (kz:Kern s (a::B) M.kf z) (own: ∀ (p:Nat) v,a.lf p=some v->(Re.findR a.L (p:Int)).2=true/\(Re.findR a.L (p:Int)).1.kd=0)
 {K:Nat->Prop} {b:Nat} {L:List Us} {W:World} (hl:LU w0 K b L W) (hL:L.length+(usA a.tab a.lf a.id 3 0 a.root).length<=1000000) :
 Calls Tryz.prog 19 #[pp M.mb,.int .i64 a.id,NV b] W fun e w'=>e=.returned (.tuple #[])/\LU w0 K b (L++usA a.tab a.lf a.id 3 0 a.root) w'/\Ks w0 K W w':=by
 have ma:=List.mem_cons_self (a:=a) (l:=B)
 have rt:=h.rt a ma
 have TB:Tbs m s a.root a.tab a.lf a.L M.kf:=⟨rt.pw,fun l x f e=>(rt.ow l x f e).1,kz.hi a ma,h.kf,own⟩
 obtain ⟨K',hK'⟩: ∃ K':Nat->Prop,K'=fun i=>K i\/(W.heap.size<=i/\i<W.heap.size+3):=⟨_,rfl⟩
 have KS:Hid (∀ j,K j->K' j):=fun j hj=>by rw [hK'];exact Or.inl hj
 obtain ⟨q,hq⟩: ∃ q,q=W.heap.size:=⟨_,rfl⟩
 have Kq:Hid (K' q/\K' (q+1)/\K' (q+2)):=by show K' _/\K' _/\K' _;rw [hK',hq];exact ⟨Or.inr ⟨by omega,by omega⟩,Or.inr ⟨by omega,by omega⟩,Or.inr ⟨by omega,by omega⟩⟩
 have sz:(((W.alloc (.cells #[pp M.mb] 29)).alloc (.cells #[.int .i64 a.id] 3)).alloc (.cells #[NV b] 59)).heap.size=W.heap.size+3:=by rw [World.size_alloc,World.size_alloc,World.size_alloc]
 have hb0:Below W.heap.size W (((W.alloc (.cells #[pp M.mb] 29)).alloc (.cells #[.int .i64 a.id] 3)).alloc (.cells #[NV b] 59)):=Bm.below_new (Go.Joins.below_alloc2 _ _ _) _
 have hb1:Below ((W.alloc (.cells #[pp M.mb] 29)).alloc (.cells #[.int .i64 a.id] 3)).heap.size ((W.alloc (.cells #[pp M.mb] 29)).alloc (.cells #[.int .i64 a.id] 3)) (((W.alloc (.cells #[pp M.mb] 29)).alloc (.cells #[.int .i64 a.id] 3)).alloc (.cells #[NV b] 59)):=Go.Joins.below_alloc1 _ _
 have c1:(((W.alloc (.cells #[pp M.mb] 29)).alloc (.cells #[.int .i64 a.id] 3)).alloc (.cells #[NV b] 59)).cell? ⟨q,0,none⟩=some (pp M.mb):=by rw [hq];exact (((Blk.made W [pp M.mb] 29).below (Go.Joins.below_alloc1 _ _)).below hb1).cell 0
 have c2:(((W.alloc (.cells #[pp M.mb] 29)).alloc (.cells #[.int .i64 a.id] 3)).alloc (.cells #[NV b] 59)).cell? ⟨q+1,0,none⟩=some (.int .i64 a.id):=by
  have r:=((Blk.made (W.alloc (.cells #[pp M.mb] 29)) [.int .i64 a.id] 3).below hb1).cell 0
  rw [World.size_alloc,<- hq] at r;exact r
 have c3:(((W.alloc (.cells #[pp M.mb] 29)).alloc (.cells #[.int .i64 a.id] 3)).alloc (.cells #[NV b] 59)).cell? ⟨q+2,0,none⟩=some (NV b):=by
  have r:=(Blk.made ((W.alloc (.cells #[pp M.mb] 29)).alloc (.cells #[.int .i64 a.id] 3)) [NV b] 59).cell 0
  rw [World.size_alloc,World.size_alloc,<- hq] at r;exact r
 have K0:Hid (Ks w0 K W (((W.alloc (.cells #[pp M.mb] 29)).alloc (.cells #[.int .i64 a.id] 3)).alloc (.cells #[NV b] 59))):=ks_below hl hb0
 have H0:Hid (LU w0 K' b L (((W.alloc (.cells #[pp M.mb] 29)).alloc (.cells #[.int .i64 a.id] 3)).alloc (.cells #[NV b] 59))):=by
  have r:=hl.grow hb0
  rw [sz] at r
  rw [hK'];exact r
 have RC:Hid (∀ V,LU w0 K' b L V->Calls Tryz.prog 53 #[pp M.mb,.int .i64 a.id] V fun e w'=>e=.returned (.tuple #[.int .i64 a.root,.bool true])/\w'=V):=fun V hV=>root_any (h.below hV.bel) wi
 have GC:Hid (∀ V,LU w0 K' b L V->_):=fun V hV=>regions_any (h.below hV.bel) hr wi
 have few:a.L.length<=100:=by have:=(h.sp a ma).few;omega
 have BC:Hid (∀ K2 V p c kn ki km kb kr,Env w0 K2 b M.mb m.rb a.id p c a.L kn ki km kb kr V->LU w0 K2 b L V->Calls Tryz.prog 58 #[.int .i64 a.root,.int .i64 4,.int .i64 0,pp kn,pp ki,pp km,pp kb,pp kr] V fun e w'=>e=.returned (.tuple #[])/\LU w0 K2 b (L++usA a.tab a.lf a.id 3 0 a.root) w'/\Ks w0 K2 V w'):=fun K2 V p c kn ki km kb kr hE hV=>below3_any h.pu TB 0 a.root rt.pw.t4 K2 V L hE hV hL
 have lm:M.mb<w0.heap.size:=h.mac.lt
 have MC:Hid (∀ V,Below w0.heap.size w0 V->V.cell? ⟨M.mb,0,none⟩=some (pp m.rb)):=fun V hV=>(h.below hV).mac.cell 0
 clear h wi kz hl hL sz hb0 hb1 rt ma hK' own hr TB
 go_enter Tryz.func19,Tryz.ntmps19
 go_upto_region 1 with fail
 generalize (((W.alloc (.cells #[pp M.mb] 29)).alloc (.cells #[.int .i64 a.id] 3)).alloc (.cells #[NV b] 59))=V at K0 H0 c1 c2 c3 |-
 rw [<- hq]
 clear hq
 go_wp2_with fail
 refine Calls.mono (RC.out _ H0.out) ?_
 rintro e w' ⟨rfl,hu⟩
 have hu2:=hu.symm
 clear hu
 subst hu2
 clear RC
 go_wp2_with fail
 refine Calls.mono (GC.out _ H0.out) ?_
 rintro e w1 ⟨p',c',rfl,is,hb1⟩
 obtain ⟨nL,hn⟩: ∃ nL,nL=a.L.length:=⟨_,rfl⟩
 have EM:Hid _:=env_made (n:=nL) (c':=c') 85 138 .nilFunc H0.out is hn few hb1 Kq.out c1 c2 c3 lm (MC.out V H0.out.bel)
 rw [<- hn]
 have f0:((w1.alloc (.cells #[.slice p' nL c'] 85)).alloc (.cells #[.nilFunc] 138)).cell? ⟨w1.heap.size+1,0,none⟩=some .nilFunc:=by
  have r:=(Blk.made (w1.alloc (.cells #[.slice p' nL c'] 85)) [.nilFunc] 138).cell 0
  rw [World.size_alloc] at r;exact r
 have f1:((w1.alloc (.cells #[.slice p' nL c'] 85)).alloc (.cells #[.nilFunc] 138)).frozen? ⟨w1.heap.size+1,0,none⟩=false:=by
  have r:=(Blk.made (w1.alloc (.cells #[.slice p' nL c'] 85)) [.nilFunc] 138).free 0
  rw [World.size_alloc] at r;exact r
 clear GC is hb1 hn
 go_upto_region 4 with fail
 generalize ((w1.alloc (.cells #[.slice p' nL c'] 85)).alloc (.cells #[.nilFunc] 138))=W4 at EM f0 f1 |-
 go_upto_region 5 with fail
 clear f0 f1 c1 c2 c3
 generalize (W4.setCell ⟨w1.heap.size+1,0,none⟩ (.func (.func 58) #[] #[pp (q+2),pp (q+1),pp q,pp (w1.heap.size+1),pp w1.heap.size]))=W5 at EM |-
 have cb:=EM.out.2.2.b1.2
 go_wp2_with fail
 refine Calls.mono (BC.out _ _ _ _ _ _ _ _ _ EM.out.2.2 EM.out.1) ?_
 rintro e w2 ⟨rfl,h1,h2⟩
 have HE:Hid (LU w0 K b (L++usA a.tab a.lf a.id 3 0 a.root) w2/\Ks w0 K W w2):=⟨h1.less (fun j hj=>Or.inl (KS.out j hj)),K0.out.trans (Ks.less (EM.out.2.1.trans (Ks.less h2 (fun j hj=>Or.inl hj))) KS.out)⟩
 clear h1 h2 BC H0 K0 EM cb
 go_wp2_with fail
 go_returns
 exact ⟨rfl,HE.out⟩
end Go.Proofs.YtajfbieacfjhnaaGreatDoor.Au
