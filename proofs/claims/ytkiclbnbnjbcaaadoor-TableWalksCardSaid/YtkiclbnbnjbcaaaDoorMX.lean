import Derived.Test.YtkiclbnbnjbcaaaDoorW12
import Derived.Test.YtkiclbnbnjbcaaaDoorW7
import Derived.Test.YtkiclbnbnjbcaaaDoorMP
namespace Go.Proofs.YtkiclbnbnjbcaaaDoor
open Go.ChangeShapes Go.WideShapes Go.ChangeAt Go.RowKit Go.Maps
set_option linter.unusedSimpArgs false
set_option linter.unusedVariables false
set_option maxRecDepth 8000
def entV (M:Int->Int) (T P:Int):Int:=ld M (T*4096+P*8) (8:Int).toNat
def badV (has:Int->Bool) (M:Int->Int) (T P L ad cd:Int):Option (Int × Int × Int) :=
 if chkG has (T*4096+P*8) 8≠0 then some (0,0,chkG has (T*4096+P*8) 8) else if bt (entV M T P)=false then some (ad,cd,9) else if resV (entV M T P) L=true then some (ad,cd+9,9) else none
def orb (X b:Int):Int:=bits .or .u64 X b
structure WR where
 er:Int
 fa:Int
 fc:Int
 fr:Int
 pw:Bool
 pu:Bool
 px:Bool
 g:Bool
 l:Bool
 d:Bool
 M:Int->Int
abbrev WR.val (r:WR):Value:=.tuple #[.agg #[.int .i64 r.fr,.bool r.pw,.bool r.pu,.bool r.px,.bool r.g,.bool r.l,.bool r.d],.agg #[.int .u64 r.fa,.int .i64 r.fc],.int .i64 r.er]
def WR.no (M:Int->Int) (a c e:Int):WR:=⟨e,a,c,0,false,false,false,false,false,false,M⟩
def end3 (M:Int->Int) (addr cd p3:Int) (x u f:Bool) (A0 X0 A1 X1 A2 X2:Int):WR :=
 if mayV (((true && bt (X0 / 2)) && bt (X1 / 2)) && bt (X2 / 2)) (((true && bt (X0 / 4)) && bt (X1 / 4)) && bt (X2 / 4)) (((true && !bt (X0 / 9223372036854775808)) && !bt (X1 / 9223372036854775808)) && !bt (X2 / 9223372036854775808)) x u f=true then
  ⟨0,0,0,X2 / 4096 % 1048576+p3,((true && bt (X0 / 2)) && bt (X1 / 2)) && bt (X2 / 2),((true && bt (X0 / 4)) && bt (X1 / 4)) && bt (X2 / 4),((true && !bt (X0 / 9223372036854775808)) && !bt (X1 / 9223372036854775808)) && !bt (X2 / 9223372036854775808),bt (X2 / 256),true,bt (X2 / 64) || x,
   mset (mset (mset M A0 8 (orb X0 32)) A1 8 (orb X1 32)) A2 8 (orb X2 (if x then 96 else 32))⟩
 else WR.no M addr (cd+1) 9
def end4 (M:Int->Int) (addr cd:Int) (x u f:Bool) (A0 X0 A1 X1 A2 X2 A3 X3:Int):WR :=
 if mayV ((((true && bt (X0 / 2)) && bt (X1 / 2)) && bt (X2 / 2)) && bt (X3 / 2)) ((((true && bt (X0 / 4)) && bt (X1 / 4)) && bt (X2 / 4)) && bt (X3 / 4)) ((((true && !bt (X0 / 9223372036854775808)) && !bt (X1 / 9223372036854775808)) && !bt (X2 / 9223372036854775808)) && !bt (X3 / 9223372036854775808)) x u f=true then
  ⟨0,0,0,X3 / 4096 % 1048576,(((true && bt (X0 / 2)) && bt (X1 / 2)) && bt (X2 / 2)) && bt (X3 / 2),(((true && bt (X0 / 4)) && bt (X1 / 4)) && bt (X2 / 4)) && bt (X3 / 4),(((true && !bt (X0 / 9223372036854775808)) && !bt (X1 / 9223372036854775808)) && !bt (X2 / 9223372036854775808)) && !bt (X3 / 9223372036854775808),bt (X3 / 256),false,bt (X3 / 64) || x,
   mset (mset (mset (mset M A0 8 (orb X0 32)) A1 8 (orb X1 32)) A2 8 (orb X2 32)) A3 8 (orb X3 (if x then 96 else 32))⟩
 else WR.no M addr (cd+1) 9
def walk3 (has:Int->Bool) (M:Int->Int) (addr cd p3:Int) (x u f:Bool) (A0 X0 A1 X1 A2 X2:Int):WR :=
 if bt (X2 / 128)=true then end3 M addr cd p3 x u f A0 X0 A1 X1 A2 X2 else
 match badV has M (X2 / 4096 % 1048576) p3 1 addr cd with
 | some (a, c, e) => WR.no M a c e
 | none => end4 M addr cd x u f A0 X0 A1 X1 A2 X2 (X2 / 4096 % 1048576 * 4096 + p3 * 8) (entV M (X2 / 4096 % 1048576) p3)
def walk2 (has:Int->Bool) (M:Int->Int) (addr cd p2 p3:Int) (x u f:Bool) (A0 X0 A1 X1:Int):WR :=
 match badV has M (X1 / 4096 % 1048576) p2 2 addr cd with
 | some (a, c, e) => WR.no M a c e
 | none => walk3 has M addr cd p3 x u f A0 X0 A1 X1 (X1 / 4096 % 1048576 * 4096 + p2 * 8) (entV M (X1 / 4096 % 1048576) p2)
def walk1 (has:Int->Bool) (M:Int->Int) (addr cd p1 p2 p3:Int) (x u f:Bool) (A0 X0:Int):WR :=
 match badV has M (X0 / 4096 % 1048576) p1 3 addr cd with
 | some (a, c, e) => WR.no M a c e
 | none => walk2 has M addr cd p2 p3 x u f A0 X0 (X0 / 4096 % 1048576 * 4096 + p1 * 8) (entV M (X0 / 4096 % 1048576) p1)
def walk0 (has:Int->Bool) (M:Int->Int) (root addr cd p0 p1 p2 p3:Int) (x u f:Bool):WR :=
 match badV has M root p0 4 addr cd with
 | some (a, c, e) => WR.no M a c e
 | none => walk1 has M addr cd p1 p2 p3 x u f (root * 4096 + p0 * 8) (entV M root p0)
def walkW (has:Int->Bool) (M:Int->Int) (root addr:Int) (x u f:Bool):WR :=
 if (ext addr==addr)=false then WR.no M 0 0 1 else if has root=false then WR.no M 0 0 2 else
 walk0 has M root addr (codeV x u f) (addr / 4096 / 512 / 512 / 512 % 512) (addr / 4096 / 512 / 512 % 512) (addr / 4096 / 512 % 512) (addr / 4096 % 512) x u f
theorem code9 (x u f:Bool):bits .or .i64 (codeV x u f) 9=codeV x u f+9:=by cases x <;> cases u <;> cases f <;> decide
theorem code1 (x u f:Bool):bits .or .i64 (codeV x u f) 1=codeV x u f+1:=by cases x <;> cases u <;> cases f <;> decide
theorem code0 (x u f:Bool):bits .or .i64 (codeV x u f) 0=codeV x u f:=by cases x <;> cases u <;> cases f <;> decide
theorem orb_bd (X b:Int) (h0:0<=X) (h1:X<18446744073709551616) (b0:0<=b) (b1:b<18446744073709551616):0<=orb X b/\orb X b<18446744073709551616:=by
 unfold orb
 rw [u64_or X b h0 h1 b0 b1]
 have:=Nat.or_lt_two_pow (x:=X.toNat) (y:=b.toNat) (n:=64) (by omega) (by omega)
 omega
theorem ent_bd {M:Int->Int} (hM: ∀ t,0<=M t/\M t<256) (T P:Int):0<=entV M T P/\entV M T P<18446744073709551616:=by
 have:=ld_bd hM (T*4096+P*8) 8
 exact this
theorem look_good {rb n:Nat} {has:Int->Bool} {F:Int} {M:Int->Int} (hM: ∀ t,0<=M t/\M t<256) (T P L ad cd:Int) (t0:0<=T) (t1:T<1048576) (p0:0<=P) (p1:P<512) (hb:badV has M T P L ad cd=none) :
 chkG has (T*4096+P*8) 8=0/\Hid (∀ w:World,Rd w rb has F M n->Calls Tryd.prog 76 #[.pointer (some ⟨rb,0,none⟩),.int .i64 T,.int .i64 P,.int .i64 L,.agg #[.int .u64 ad,.int .i64 cd]] w fun e w'=>e=.returned (.agg #[.int .u64 (T*4096+P*8),.int .u64 (entV M T P),.bool (bt ((entV M T P))),.bool (bt ((entV M T P) / 2)),.bool (bt ((entV M T P) / 4)),.bool (bt ((entV M T P) / 32)),.bool (bt ((entV M T P) / 64)),.bool (bt ((entV M T P) / 128)),.bool (bt ((entV M T P) / 256)),.bool (bt ((entV M T P) / 9223372036854775808)),.int .i64 ((entV M T P) / 4096 % 1048576),.int .i64 L])/\Below w.heap.size w w'):=by
 unfold badV at hb
 split at hb
 . cases hb
 . rename_i h1
   split at hb
   . cases hb
   . rename_i h2
     split at hb
     . cases hb
     . rename_i h3
       have hc:chkG has (T*4096+P*8) 8=0:=by simpa using h1
       have h4:bt (entV M T P)=true:=by simpa using h2
       have h5:resV (entV M T P) L=false:=by simpa using h3
       have hbd:=ent_bd hM T P
       refine ⟨hc,fun w h=> ?_⟩
       exact look_ok T P L ad cd (entV M T P) t0 t1 p0 p1 _ _ _ _ _ _ _ _ _ hc rfl hbd.1 hbd.2 rfl h4 h5 w h
theorem look_bad {rb n:Nat} {has:Int->Bool} {F:Int} {M:Int->Int} (hM: ∀ t,0<=M t/\M t<256) (T P L ad:Int) (x u f:Bool) (t0:0<=T) (t1:T<1048576) (p0:0<=P) (p1:P<512) {a c e:Int} (hb:badV has M T P L ad (codeV x u f)=some (a,c,e)) :
 Hid (∀ w:World,Rd w rb has F M n->Calls Tryd.prog 76 #[.pointer (some ⟨rb,0,none⟩),.int .i64 T,.int .i64 P,.int .i64 L,.agg #[.int .u64 ad,.int .i64 (codeV x u f)]] w fun en w'=>en=.panicked [refv a c e]/\Below w.heap.size w w'):=by
 unfold badV at hb
 have hbd:=ent_bd hM T P
 split at hb
 . rename_i h1
   cases hb
   exact fun w h=>look_bus T P L ad (codeV x u f) 0 t0 t1 p0 p1 _ rfl h1 w h
 . rename_i h1
   have hc:chkG has (T*4096+P*8) 8=0:=by simpa using h1
   split at hb
   . rename_i h2
     cases hb
     exact fun w h=>look_absent T P L ad (codeV x u f) (entV M T P) t0 t1 p0 p1 _ _ _ _ _ _ _ _ _ hc rfl hbd.1 hbd.2 rfl h2 (code0 x u f) w h
   . rename_i h2
     split at hb
     . rename_i h3
       cases hb
       have h4:bt (entV M T P)=true:=by simpa using h2
       exact fun w h=>look_reserved T P L ad (codeV x u f) (entV M T P) t0 t1 p0 p1 _ _ _ _ _ _ _ _ _ hc rfl hbd.1 hbd.2 rfl h4 h3 _ (code9 x u f) w h
     . cases hb
end Go.Proofs.YtkiclbnbnjbcaaaDoor
namespace Go.Proofs.YtkiclbnbnjbcaaaDoor
open Go.ChangeShapes Go.WideShapes Go.ChangeAt Go.RowKit Go.Maps
set_option linter.unusedSimpArgs false
set_option linter.unusedVariables false
set_option maxRecDepth 8000
abbrev zW14a (x0 x1:Int) (x2 x3 x4 x5 x6 x7 x8 x9:Bool) (x10 x11:Int):Array Value:=#[.int .u64 x0,.int .u64 x1,.bool x2,.bool x3,.bool x4,.bool x5,.bool x6,.bool x7,.bool x8,.bool x9,.int .i64 x10,.int .i64 x11]
abbrev zW14b (x0 x1:Int) (x2 x3 x4 x5 x6 x7 x8 x9:Bool) (x10 x11:Int):List Value:=[.int .u64 x0,.int .u64 x1,.bool x2,.bool x3,.bool x4,.bool x5,.bool x6,.bool x7,.bool x8,.bool x9,.int .i64 x10,.int .i64 x11]
theorem RamX.below {w w':World} {K:Nat->Prop} {rb n:Nat} {has:Int->Bool} {F:Int} {M:Int->Int} (h:RamX w K rb has F M n) (hb:Below w.heap.size w w'):RamX w' K rb has F M n/\Kept K w w':=by
 obtain ⟨h1,S,hS,hSK⟩:=h
 have hk:Kept K w w':=kept_of_below hb h1.dom
 exact ⟨⟨h1.grown (grown_of_below' hb),S,hS.keep (fun s hs=>hk.block s (hSK s hs)) hk.size,hSK⟩,hk⟩
theorem RamX.more {w:World} {K:Nat->Prop} {rb n m:Nat} {has:Int->Bool} {F:Int} {M:Int->Int} (h:RamX w K rb has F M n) (hn:n<=m):RamX w K rb has F M m:=⟨h.1.mono hn,h.2⟩
theorem RamX.has {w:World} {K:Nat->Prop} {rb n:Nat} {has:Int->Bool} {F:Int} {M:Int->Int} (h:RamX w K rb has F M n) (k:Int) :
 Hid (∀ W:World,Below w.heap.size w W->Calls Tryd.prog 48 #[.pointer (some ⟨rb,0,none⟩),.int .i64 k] W fun e w'=>e=.returned (.bool (has k))/\Below W.heap.size W w'):=fun W hb=>by
 obtain ⟨h1,S,hS,hSK⟩:=h
 exact (hS.2.2 W (fun s hs=>hb.block s (hS.2.1 s hs)) hb.size k).mono fun e w' ⟨he,hg⟩=>⟨he,below_of_grown' hg⟩
theorem RamX.rd {w W:World} {K:Nat->Prop} {rb n:Nat} {has:Int->Bool} {F:Int} {M:Int->Int} (h:RamX w K rb has F M n) (ht:Tab w) (hb:Below w.heap.size w W):Rd W rb has F M n :=
 Rd.keep ⟨h.1.ram,ht⟩ hb
theorem walk_still {w w':World} {K:Nat->Prop} {rb n:Nat} {has:Int->Bool} {F:Int} {M:Int->Int} (h:RamX w K rb has F M n) (ht:Tab w) (hb:Below w.heap.size w w'):RamX w' K rb has F M (n+8)/\Kept K w w'/\Tab w' :=
 ⟨(h.below hb).1.more (by omega),(h.below hb).2,ht.keep hb⟩
theorem chk_pos {has:Int->Bool} (hF: ∀ k,has k=true->0<=k/\k<1048576) {A:Int} (h:chkG has A 8=0) (h0:0<=A):A<18446744073709551616:=by
 unfold chkG at h
 rw [if_pos (by omega)] at h
 split at h
 . rename_i c;omega
 . omega
set_option maxHeartbeats 1000000 in
theorem walk_end3 {w:World} {K0:Nat->Prop} {rb m:Nat} {has:Int->Bool} {F:Int} {M:Int->Int} (hX:RamX w K0 rb has F M m) (ht:Tab w) (k00:K0 0) (hm:m+100<maxLen) (hF: ∀ k,has k=true->0<=k/\k<1048576) (root addr p0 p1 p2 p3 po:Int) (x u f:Bool)
 (hc:Hid (∀ w:World,Calls Tryd.prog 23 #[.int .u64 addr] w fun e w'=>e=.returned (.bool true)/\w'=w))
 (sp:Hid (∀ w:World,Calls Tryd.prog 49 #[.int .u64 addr] w fun e w'=>e=.returned (.tuple #[.agg #[.int .i64 p0,.int .i64 p1,.int .i64 p2,.int .i64 p3],.int .i64 po])/\Below w.heap.size w w'))
 (hr:has root=true) (b0:0<=p0/\p0<512) (b1:0<=p1/\p1<512) (b2:0<=p2/\p2<512) (b3:0<=p3/\p3<512)
 (A0 X0 A1 X1 A2 X2:Int) (a0:0<=A0) (c0:chkG has A0 8=0) (x0:0<=X0/\X0<18446744073709551616) (l0:Hid (∀ w:World,Rd w rb has F M m->Calls Tryd.prog 76 #[.pointer (some ⟨rb,0,none⟩),.int .i64 root,.int .i64 p0,.int .i64 4,.agg #[.int .u64 addr,.int .i64 (codeV x u f)]] w fun e w'=>e=.returned (.agg (zW14a A0 X0 (bt (X0)) (bt (X0 / 2)) (bt (X0 / 4)) (bt (X0 / 32)) (bt (X0 / 64)) (bt (X0 / 128)) (bt (X0 / 256)) (bt (X0 / 9223372036854775808)) (X0 / 4096 % 1048576) 4))/\Below w.heap.size w w')) (a1:0<=A1) (c1:chkG has A1 8=0) (x1:0<=X1/\X1<18446744073709551616) (l1:Hid (∀ w:World,Rd w rb has F M m->Calls Tryd.prog 76 #[.pointer (some ⟨rb,0,none⟩),.int .i64 (X0 / 4096 % 1048576),.int .i64 p1,.int .i64 3,.agg #[.int .u64 addr,.int .i64 (codeV x u f)]] w fun e w'=>e=.returned (.agg (zW14a A1 X1 (bt (X1)) (bt (X1 / 2)) (bt (X1 / 4)) (bt (X1 / 32)) (bt (X1 / 64)) (bt (X1 / 128)) (bt (X1 / 256)) (bt (X1 / 9223372036854775808)) (X1 / 4096 % 1048576) 3))/\Below w.heap.size w w')) (a2:0<=A2) (c2:chkG has A2 8=0) (x2:0<=X2/\X2<18446744073709551616) (l2:Hid (∀ w:World,Rd w rb has F M m->Calls Tryd.prog 76 #[.pointer (some ⟨rb,0,none⟩),.int .i64 (X1 / 4096 % 1048576),.int .i64 p2,.int .i64 2,.agg #[.int .u64 addr,.int .i64 (codeV x u f)]] w fun e w'=>e=.returned (.agg (zW14a A2 X2 (bt (X2)) (bt (X2 / 2)) (bt (X2 / 4)) (bt (X2 / 32)) (bt (X2 / 64)) true (bt (X2 / 256)) (bt (X2 / 9223372036854775808)) (X2 / 4096 % 1048576) 2))/\Below w.heap.size w w')) :
 Calls Tryd.prog 22 #[.pointer (some ⟨rb,0,none⟩),.int .i64 root,.int .u64 addr,.agg #[.bool x,.bool u,.bool f]] w fun e w'=>e=.returned (end3 M addr (codeV x u f) p3 x u f A0 X0 A1 X1 A2 X2).val/\RamX w' K0 rb has F (end3 M addr (codeV x u f) p3 x u f A0 X0 A1 X1 A2 X2).M (m+8)/\Kept K0 w w'/\Tab w':=by
 have fo:Hid (∀ W:World,Below w.heap.size w W->Calls Tryd.prog 51 #[.pointer (some ⟨rb,0,none⟩),.int .i64 root,.agg #[.int .i64 p0,.int .i64 p1,.int .i64 p2,.int .i64 p3],.agg #[.int .u64 addr,.int .i64 (codeV x u f)]] W fun e w'=> ∃ v,e=.returned v/\Way w' (W.heap.size+2) v 3 ((((([]:List Value)++((zW14b A0 X0 (bt (X0)) (bt (X0 / 2)) (bt (X0 / 4)) (bt (X0 / 32)) (bt (X0 / 64)) (bt (X0 / 128)) (bt (X0 / 256)) (bt (X0 / 9223372036854775808)) (X0 / 4096 % 1048576) 4):List Value))++((zW14b A1 X1 (bt (X1)) (bt (X1 / 2)) (bt (X1 / 4)) (bt (X1 / 32)) (bt (X1 / 64)) (bt (X1 / 128)) (bt (X1 / 256)) (bt (X1 / 9223372036854775808)) (X1 / 4096 % 1048576) 3):List Value))++((zW14b A2 X2 (bt (X2)) (bt (X2 / 2)) (bt (X2 / 4)) (bt (X2 / 32)) (bt (X2 / 64)) true (bt (X2 / 256)) (bt (X2 / 9223372036854775808)) (X2 / 4096 % 1048576) 2):List Value)))/\Below W.heap.size W w'):=fun W hb =>
  follow3 root addr (codeV x u f) p0 p1 p2 p3 _ _ _ _ _ _ _ _ _ _ _ _ _ _ _ _ _ _ _ _ _ _ _ _ _ _ _ _ _ _ _ _ l0 l1 l2 W (hX.rd ht hb)
 have cm:Hid (∀ (W:World) (base:Nat) (v:Value),Way W base v 3 ((((([]:List Value)++((zW14b A0 X0 (bt (X0)) (bt (X0 / 2)) (bt (X0 / 4)) (bt (X0 / 32)) (bt (X0 / 64)) (bt (X0 / 128)) (bt (X0 / 256)) (bt (X0 / 9223372036854775808)) (X0 / 4096 % 1048576) 4):List Value))++((zW14b A1 X1 (bt (X1)) (bt (X1 / 2)) (bt (X1 / 4)) (bt (X1 / 32)) (bt (X1 / 64)) (bt (X1 / 128)) (bt (X1 / 256)) (bt (X1 / 9223372036854775808)) (X1 / 4096 % 1048576) 3):List Value))++((zW14b A2 X2 (bt (X2)) (bt (X2 / 2)) (bt (X2 / 4)) (bt (X2 / 32)) (bt (X2 / 64)) true (bt (X2 / 256)) (bt (X2 / 9223372036854775808)) (X2 / 4096 % 1048576) 2):List Value)))->Calls Tryd.prog 52 #[v] W fun e w'=>e=.returned (.agg #[.bool (((true && bt (X0 / 2)) && bt (X1 / 2)) && bt (X2 / 2)),.bool (((true && bt (X0 / 4)) && bt (X1 / 4)) && bt (X2 / 4)),.bool (((true && !bt (X0 / 9223372036854775808)) && !bt (X1 / 9223372036854775808)) && !bt (X2 / 9223372036854775808))])/\Below W.heap.size W w'):=fun W base v h =>
  common3 _ _ _ _ _ _ _ _ _ _ _ _ _ _ _ _ _ _ _ _ _ _ _ _ _ _ _ _ _ _ _ _ base v W h
 have co:Hid (∀ w:World,Calls Tryd.prog 50 #[.agg #[.bool x,.bool u,.bool f]] w fun e w'=>e=.returned (.int .i64 (codeV x u f))/\Below w.heap.size w w'):=fun w=>code_any x u f w
 have hh:=hX.has root
 rw [hr] at hh
 unfold end3
 by_cases hy:mayV (((true && bt (X0 / 2)) && bt (X1 / 2)) && bt (X2 / 2)) (((true && bt (X0 / 4)) && bt (X1 / 4)) && bt (X2 / 4)) (((true && !bt (X0 / 9223372036854775808)) && !bt (X1 / 9223372036854775808)) && !bt (X2 / 9223372036854775808)) x u f=true
 . rw [if_pos hy]
   have ma:Hid (∀ W:World,Calls Tryd.prog 25 #[.agg #[.bool (((true && bt (X0 / 2)) && bt (X1 / 2)) && bt (X2 / 2)),.bool (((true && bt (X0 / 4)) && bt (X1 / 4)) && bt (X2 / 4)),.bool (((true && !bt (X0 / 9223372036854775808)) && !bt (X1 / 9223372036854775808)) && !bt (X2 / 9223372036854775808))],.agg #[.bool x,.bool u,.bool f]] W fun e w'=>e=.returned (.bool true)/\Below W.heap.size W w'):=fun W=>by
    have:=may_any (((true && bt (X0 / 2)) && bt (X1 / 2)) && bt (X2 / 2)) (((true && bt (X0 / 4)) && bt (X1 / 4)) && bt (X2 / 4)) (((true && !bt (X0 / 9223372036854775808)) && !bt (X1 / 9223372036854775808)) && !bt (X2 / 9223372036854775808)) x u f W
    rw [hy] at this;exact this
   have mk:Hid (∀ (W:World) (K:Nat->Prop) (base:Nat) (v:Value),Way W base v 3 ((((([]:List Value)++((zW14b A0 X0 (bt (X0)) (bt (X0 / 2)) (bt (X0 / 4)) (bt (X0 / 32)) (bt (X0 / 64)) (bt (X0 / 128)) (bt (X0 / 256)) (bt (X0 / 9223372036854775808)) (X0 / 4096 % 1048576) 4):List Value))++((zW14b A1 X1 (bt (X1)) (bt (X1 / 2)) (bt (X1 / 4)) (bt (X1 / 32)) (bt (X1 / 64)) (bt (X1 / 128)) (bt (X1 / 256)) (bt (X1 / 9223372036854775808)) (X1 / 4096 % 1048576) 3):List Value))++((zW14b A2 X2 (bt (X2)) (bt (X2 / 2)) (bt (X2 / 4)) (bt (X2 / 32)) (bt (X2 / 64)) true (bt (X2 / 256)) (bt (X2 / 9223372036854775808)) (X2 / 4096 % 1048576) 2):List Value)))->(∀ j,base<=j->j<W.heap.size->K j)->K 0->Tab W->IsRamK W K rb has F M m->Calls Tryd.prog 54 #[.pointer (some ⟨rb,0,none⟩),v,.bool x] W fun e w'=>e=.returned (.tuple #[])/\IsRamK w' K rb has F (mset (mset (mset M A0 8 (orb X0 32)) A1 8 (orb X1 32)) A2 8 (orb X2 (if x then 96 else 32))) (m+8)/\Kept K W w'/\Tab w'):=fun W K base v hw hK hk hT hI=>by
    cases x
    . exact (mark3r hm A0 X0 (X0 / 4096 % 1048576) _ _ _ _ _ _ _ _ A1 X1 (X1 / 4096 % 1048576) _ _ _ _ _ _ _ _ A2 X2 (X2 / 4096 % 1048576) _ _ _ _ _ _ _ (orb X0 32) (orb X1 32) (orb X2 32) a0 (chk_pos hF c0 a0) c0 rfl (orb_bd X0 32 x0.1 x0.2 (by omega) (by omega)).1 (orb_bd X0 32 x0.1 x0.2 (by omega) (by omega)).2 a1 (chk_pos hF c1 a1) c1 rfl (orb_bd X1 32 x1.1 x1.2 (by omega) (by omega)).1 (orb_bd X1 32 x1.1 x1.2 (by omega) (by omega)).2 a2 (chk_pos hF c2 a2) c2 rfl (orb_bd X2 32 x2.1 x2.2 (by omega) (by omega)).1 (orb_bd X2 32 x2.1 x2.2 (by omega) (by omega)).2 base v W hw hK hk hT hI).mono fun e w' h=>⟨h.1,h.2.1.mono (by omega),h.2.2⟩
    . exact (mark3w hm A0 X0 (X0 / 4096 % 1048576) _ _ _ _ _ _ _ _ A1 X1 (X1 / 4096 % 1048576) _ _ _ _ _ _ _ _ A2 X2 (X2 / 4096 % 1048576) _ _ _ _ _ _ _ (orb X0 32) (orb X1 32) (orb X2 96) a0 (chk_pos hF c0 a0) c0 rfl (orb_bd X0 32 x0.1 x0.2 (by omega) (by omega)).1 (orb_bd X0 32 x0.1 x0.2 (by omega) (by omega)).2 a1 (chk_pos hF c1 a1) c1 rfl (orb_bd X1 32 x1.1 x1.2 (by omega) (by omega)).1 (orb_bd X1 32 x1.1 x1.2 (by omega) (by omega)).2 a2 (chk_pos hF c2 a2) c2 rfl (orb_bd X2 96 x2.1 x2.2 (by omega) (by omega)).1 (orb_bd X2 96 x2.1 x2.2 (by omega) (by omega)).2 base v W hw hK hk hT hI).mono fun e w' h=>⟨h.1,h.2.1.mono (by omega),h.2.2⟩
   have te:Hid (∀ W:World,Calls Tryd.prog 55 #[.agg (zW14a A2 X2 (bt (X2)) (bt (X2 / 2)) (bt (X2 / 4)) (bt (X2 / 32)) (bt (X2 / 64)) true (bt (X2 / 256)) (bt (X2 / 9223372036854775808)) (X2 / 4096 % 1048576) 2),.agg #[.bool (((true && bt (X0 / 2)) && bt (X1 / 2)) && bt (X2 / 2)),.bool (((true && bt (X0 / 4)) && bt (X1 / 4)) && bt (X2 / 4)),.bool (((true && !bt (X0 / 9223372036854775808)) && !bt (X1 / 9223372036854775808)) && !bt (X2 / 9223372036854775808))],.int .i64 p3,.bool x] W fun e w'=>e=.returned (.agg #[.int .i64 (X2 / 4096 % 1048576+p3),.bool (((true && bt (X0 / 2)) && bt (X1 / 2)) && bt (X2 / 2)),.bool (((true && bt (X0 / 4)) && bt (X1 / 4)) && bt (X2 / 4)),.bool (((true && !bt (X0 / 9223372036854775808)) && !bt (X1 / 9223372036854775808)) && !bt (X2 / 9223372036854775808)),.bool (bt (X2 / 256)),.bool true,.bool (bt (X2 / 64) || x)])/\Below W.heap.size W w'):=fun W=>by
    cases hd:bt (X2 / 64)
    . exact tell_large_f A2 X2 (X2 / 4096 % 1048576) p3 _ _ _ _ _ _ _ _ _ x b3.1 b3.2 (by omega) (by omega) W
    . exact tell_large_t A2 X2 (X2 / 4096 % 1048576) p3 _ _ _ _ _ _ _ _ _ x b3.1 b3.2 (by omega) (by omega) W
   exact walk_ok3 root addr p0 p1 p2 p3 po (codeV x u f) x u f hc sp co w hh ((((([]:List Value)++((zW14b A0 X0 (bt (X0)) (bt (X0 / 2)) (bt (X0 / 4)) (bt (X0 / 32)) (bt (X0 / 64)) (bt (X0 / 128)) (bt (X0 / 256)) (bt (X0 / 9223372036854775808)) (X0 / 4096 % 1048576) 4):List Value))++((zW14b A1 X1 (bt (X1)) (bt (X1 / 2)) (bt (X1 / 4)) (bt (X1 / 32)) (bt (X1 / 64)) (bt (X1 / 128)) (bt (X1 / 256)) (bt (X1 / 9223372036854775808)) (X1 / 4096 % 1048576) 3):List Value))++((zW14b A2 X2 (bt (X2)) (bt (X2 / 2)) (bt (X2 / 4)) (bt (X2 / 32)) (bt (X2 / 64)) true (bt (X2 / 256)) (bt (X2 / 9223372036854775808)) (X2 / 4096 % 1048576) 2):List Value))) _ _ _ fo cm _ hX ht k00 _ _ _ _ _ _ _ _ _ _ _ _ _ _ _ _ rfl rfl rfl rfl rfl rfl rfl rfl rfl rfl rfl rfl ma mk te
 . rw [if_neg hy]
   have hy':mayV (((true && bt (X0 / 2)) && bt (X1 / 2)) && bt (X2 / 2)) (((true && bt (X0 / 4)) && bt (X1 / 4)) && bt (X2 / 4)) (((true && !bt (X0 / 9223372036854775808)) && !bt (X1 / 9223372036854775808)) && !bt (X2 / 9223372036854775808)) x u f=false:=by simpa using hy
   have ma:Hid (∀ W:World,Calls Tryd.prog 25 #[.agg #[.bool (((true && bt (X0 / 2)) && bt (X1 / 2)) && bt (X2 / 2)),.bool (((true && bt (X0 / 4)) && bt (X1 / 4)) && bt (X2 / 4)),.bool (((true && !bt (X0 / 9223372036854775808)) && !bt (X1 / 9223372036854775808)) && !bt (X2 / 9223372036854775808))],.agg #[.bool x,.bool u,.bool f]] W fun e w'=>e=.returned (.bool false)/\Below W.heap.size W w'):=fun W=>by
    have:=may_any (((true && bt (X0 / 2)) && bt (X1 / 2)) && bt (X2 / 2)) (((true && bt (X0 / 4)) && bt (X1 / 4)) && bt (X2 / 4)) (((true && !bt (X0 / 9223372036854775808)) && !bt (X1 / 9223372036854775808)) && !bt (X2 / 9223372036854775808)) x u f W
    rw [hy'] at this;exact this
   have re:Hid (∀ W:World,Calls Tryd.prog 53 #[.agg #[.int .u64 addr,.int .i64 (codeV x u f)],.int .i64 1] W fun e w'=>e=.panicked [refv addr (codeV x u f+1) 9]/\Below W.heap.size W w'):=fun W=>refuse_any addr (codeV x u f) 1 _ (code1 x u f) W
   exact (walk_refused root addr p0 p1 p2 p3 po (codeV x u f) x u f hc sp co w hh 3 ((((([]:List Value)++((zW14b A0 X0 (bt (X0)) (bt (X0 / 2)) (bt (X0 / 4)) (bt (X0 / 32)) (bt (X0 / 64)) (bt (X0 / 128)) (bt (X0 / 256)) (bt (X0 / 9223372036854775808)) (X0 / 4096 % 1048576) 4):List Value))++((zW14b A1 X1 (bt (X1)) (bt (X1 / 2)) (bt (X1 / 4)) (bt (X1 / 32)) (bt (X1 / 64)) (bt (X1 / 128)) (bt (X1 / 256)) (bt (X1 / 9223372036854775808)) (X1 / 4096 % 1048576) 3):List Value))++((zW14b A2 X2 (bt (X2)) (bt (X2 / 2)) (bt (X2 / 4)) (bt (X2 / 32)) (bt (X2 / 64)) true (bt (X2 / 256)) (bt (X2 / 9223372036854775808)) (X2 / 4096 % 1048576) 2):List Value))) _ _ _ fo cm ma _ re).mono fun e w' h=>⟨h.1,walk_still hX ht h.2⟩
set_option maxHeartbeats 1000000 in
theorem walk_end4 {w:World} {K0:Nat->Prop} {rb m:Nat} {has:Int->Bool} {F:Int} {M:Int->Int} (hX:RamX w K0 rb has F M m) (ht:Tab w) (k00:K0 0) (hm:m+100<maxLen) (hF: ∀ k,has k=true->0<=k/\k<1048576) (root addr p0 p1 p2 p3 po:Int) (x u f:Bool)
 (hc:Hid (∀ w:World,Calls Tryd.prog 23 #[.int .u64 addr] w fun e w'=>e=.returned (.bool true)/\w'=w))
 (sp:Hid (∀ w:World,Calls Tryd.prog 49 #[.int .u64 addr] w fun e w'=>e=.returned (.tuple #[.agg #[.int .i64 p0,.int .i64 p1,.int .i64 p2,.int .i64 p3],.int .i64 po])/\Below w.heap.size w w'))
 (hr:has root=true) (b0:0<=p0/\p0<512) (b1:0<=p1/\p1<512) (b2:0<=p2/\p2<512) (b3:0<=p3/\p3<512)
 (A0 X0 A1 X1 A2 X2 A3 X3:Int) (a0:0<=A0) (c0:chkG has A0 8=0) (x0:0<=X0/\X0<18446744073709551616) (l0:Hid (∀ w:World,Rd w rb has F M m->Calls Tryd.prog 76 #[.pointer (some ⟨rb,0,none⟩),.int .i64 root,.int .i64 p0,.int .i64 4,.agg #[.int .u64 addr,.int .i64 (codeV x u f)]] w fun e w'=>e=.returned (.agg (zW14a A0 X0 (bt (X0)) (bt (X0 / 2)) (bt (X0 / 4)) (bt (X0 / 32)) (bt (X0 / 64)) (bt (X0 / 128)) (bt (X0 / 256)) (bt (X0 / 9223372036854775808)) (X0 / 4096 % 1048576) 4))/\Below w.heap.size w w')) (a1:0<=A1) (c1:chkG has A1 8=0) (x1:0<=X1/\X1<18446744073709551616) (l1:Hid (∀ w:World,Rd w rb has F M m->Calls Tryd.prog 76 #[.pointer (some ⟨rb,0,none⟩),.int .i64 (X0 / 4096 % 1048576),.int .i64 p1,.int .i64 3,.agg #[.int .u64 addr,.int .i64 (codeV x u f)]] w fun e w'=>e=.returned (.agg (zW14a A1 X1 (bt (X1)) (bt (X1 / 2)) (bt (X1 / 4)) (bt (X1 / 32)) (bt (X1 / 64)) (bt (X1 / 128)) (bt (X1 / 256)) (bt (X1 / 9223372036854775808)) (X1 / 4096 % 1048576) 3))/\Below w.heap.size w w')) (a2:0<=A2) (c2:chkG has A2 8=0) (x2:0<=X2/\X2<18446744073709551616) (l2:Hid (∀ w:World,Rd w rb has F M m->Calls Tryd.prog 76 #[.pointer (some ⟨rb,0,none⟩),.int .i64 (X1 / 4096 % 1048576),.int .i64 p2,.int .i64 2,.agg #[.int .u64 addr,.int .i64 (codeV x u f)]] w fun e w'=>e=.returned (.agg (zW14a A2 X2 (bt (X2)) (bt (X2 / 2)) (bt (X2 / 4)) (bt (X2 / 32)) (bt (X2 / 64)) false (bt (X2 / 256)) (bt (X2 / 9223372036854775808)) (X2 / 4096 % 1048576) 2))/\Below w.heap.size w w')) (a3:0<=A3) (c3:chkG has A3 8=0) (x3:0<=X3/\X3<18446744073709551616) (l3:Hid (∀ w:World,Rd w rb has F M m->Calls Tryd.prog 76 #[.pointer (some ⟨rb,0,none⟩),.int .i64 (X2 / 4096 % 1048576),.int .i64 p3,.int .i64 1,.agg #[.int .u64 addr,.int .i64 (codeV x u f)]] w fun e w'=>e=.returned (.agg (zW14a A3 X3 (bt (X3)) (bt (X3 / 2)) (bt (X3 / 4)) (bt (X3 / 32)) (bt (X3 / 64)) (bt (X3 / 128)) (bt (X3 / 256)) (bt (X3 / 9223372036854775808)) (X3 / 4096 % 1048576) 1))/\Below w.heap.size w w')) :
 Calls Tryd.prog 22 #[.pointer (some ⟨rb,0,none⟩),.int .i64 root,.int .u64 addr,.agg #[.bool x,.bool u,.bool f]] w fun e w'=>e=.returned (end4 M addr (codeV x u f) x u f A0 X0 A1 X1 A2 X2 A3 X3).val/\RamX w' K0 rb has F (end4 M addr (codeV x u f) x u f A0 X0 A1 X1 A2 X2 A3 X3).M (m+8)/\Kept K0 w w'/\Tab w':=by
 have fo:Hid (∀ W:World,Below w.heap.size w W->Calls Tryd.prog 51 #[.pointer (some ⟨rb,0,none⟩),.int .i64 root,.agg #[.int .i64 p0,.int .i64 p1,.int .i64 p2,.int .i64 p3],.agg #[.int .u64 addr,.int .i64 (codeV x u f)]] W fun e w'=> ∃ v,e=.returned v/\Way w' (W.heap.size+2) v 4 (((((([]:List Value)++((zW14b A0 X0 (bt (X0)) (bt (X0 / 2)) (bt (X0 / 4)) (bt (X0 / 32)) (bt (X0 / 64)) (bt (X0 / 128)) (bt (X0 / 256)) (bt (X0 / 9223372036854775808)) (X0 / 4096 % 1048576) 4):List Value))++((zW14b A1 X1 (bt (X1)) (bt (X1 / 2)) (bt (X1 / 4)) (bt (X1 / 32)) (bt (X1 / 64)) (bt (X1 / 128)) (bt (X1 / 256)) (bt (X1 / 9223372036854775808)) (X1 / 4096 % 1048576) 3):List Value))++((zW14b A2 X2 (bt (X2)) (bt (X2 / 2)) (bt (X2 / 4)) (bt (X2 / 32)) (bt (X2 / 64)) false (bt (X2 / 256)) (bt (X2 / 9223372036854775808)) (X2 / 4096 % 1048576) 2):List Value))++((zW14b A3 X3 (bt (X3)) (bt (X3 / 2)) (bt (X3 / 4)) (bt (X3 / 32)) (bt (X3 / 64)) (bt (X3 / 128)) (bt (X3 / 256)) (bt (X3 / 9223372036854775808)) (X3 / 4096 % 1048576) 1):List Value)))/\Below W.heap.size W w'):=fun W hb =>
  follow4 root addr (codeV x u f) p0 p1 p2 p3 _ _ _ _ _ _ _ _ _ _ _ _ _ _ _ _ _ _ _ _ _ _ _ _ _ _ _ _ _ _ _ _ _ _ _ _ _ _ _ _ _ _ _ l0 l1 l2 l3 W (hX.rd ht hb)
 have cm:Hid (∀ (W:World) (base:Nat) (v:Value),Way W base v 4 (((((([]:List Value)++((zW14b A0 X0 (bt (X0)) (bt (X0 / 2)) (bt (X0 / 4)) (bt (X0 / 32)) (bt (X0 / 64)) (bt (X0 / 128)) (bt (X0 / 256)) (bt (X0 / 9223372036854775808)) (X0 / 4096 % 1048576) 4):List Value))++((zW14b A1 X1 (bt (X1)) (bt (X1 / 2)) (bt (X1 / 4)) (bt (X1 / 32)) (bt (X1 / 64)) (bt (X1 / 128)) (bt (X1 / 256)) (bt (X1 / 9223372036854775808)) (X1 / 4096 % 1048576) 3):List Value))++((zW14b A2 X2 (bt (X2)) (bt (X2 / 2)) (bt (X2 / 4)) (bt (X2 / 32)) (bt (X2 / 64)) false (bt (X2 / 256)) (bt (X2 / 9223372036854775808)) (X2 / 4096 % 1048576) 2):List Value))++((zW14b A3 X3 (bt (X3)) (bt (X3 / 2)) (bt (X3 / 4)) (bt (X3 / 32)) (bt (X3 / 64)) (bt (X3 / 128)) (bt (X3 / 256)) (bt (X3 / 9223372036854775808)) (X3 / 4096 % 1048576) 1):List Value)))->Calls Tryd.prog 52 #[v] W fun e w'=>e=.returned (.agg #[.bool ((((true && bt (X0 / 2)) && bt (X1 / 2)) && bt (X2 / 2)) && bt (X3 / 2)),.bool ((((true && bt (X0 / 4)) && bt (X1 / 4)) && bt (X2 / 4)) && bt (X3 / 4)),.bool ((((true && !bt (X0 / 9223372036854775808)) && !bt (X1 / 9223372036854775808)) && !bt (X2 / 9223372036854775808)) && !bt (X3 / 9223372036854775808))])/\Below W.heap.size W w'):=fun W base v h =>
  common4 _ _ _ _ _ _ _ _ _ _ _ _ _ _ _ _ _ _ _ _ _ _ _ _ _ _ _ _ _ _ _ _ _ _ _ _ _ _ _ _ _ _ _ base v W h
 have co:Hid (∀ w:World,Calls Tryd.prog 50 #[.agg #[.bool x,.bool u,.bool f]] w fun e w'=>e=.returned (.int .i64 (codeV x u f))/\Below w.heap.size w w'):=fun w=>code_any x u f w
 have hh:=hX.has root
 rw [hr] at hh
 unfold end4
 by_cases hy:mayV ((((true && bt (X0 / 2)) && bt (X1 / 2)) && bt (X2 / 2)) && bt (X3 / 2)) ((((true && bt (X0 / 4)) && bt (X1 / 4)) && bt (X2 / 4)) && bt (X3 / 4)) ((((true && !bt (X0 / 9223372036854775808)) && !bt (X1 / 9223372036854775808)) && !bt (X2 / 9223372036854775808)) && !bt (X3 / 9223372036854775808)) x u f=true
 . rw [if_pos hy]
   have ma:Hid (∀ W:World,Calls Tryd.prog 25 #[.agg #[.bool ((((true && bt (X0 / 2)) && bt (X1 / 2)) && bt (X2 / 2)) && bt (X3 / 2)),.bool ((((true && bt (X0 / 4)) && bt (X1 / 4)) && bt (X2 / 4)) && bt (X3 / 4)),.bool ((((true && !bt (X0 / 9223372036854775808)) && !bt (X1 / 9223372036854775808)) && !bt (X2 / 9223372036854775808)) && !bt (X3 / 9223372036854775808))],.agg #[.bool x,.bool u,.bool f]] W fun e w'=>e=.returned (.bool true)/\Below W.heap.size W w'):=fun W=>by
    have:=may_any ((((true && bt (X0 / 2)) && bt (X1 / 2)) && bt (X2 / 2)) && bt (X3 / 2)) ((((true && bt (X0 / 4)) && bt (X1 / 4)) && bt (X2 / 4)) && bt (X3 / 4)) ((((true && !bt (X0 / 9223372036854775808)) && !bt (X1 / 9223372036854775808)) && !bt (X2 / 9223372036854775808)) && !bt (X3 / 9223372036854775808)) x u f W
    rw [hy] at this;exact this
   have mk:Hid (∀ (W:World) (K:Nat->Prop) (base:Nat) (v:Value),Way W base v 4 (((((([]:List Value)++((zW14b A0 X0 (bt (X0)) (bt (X0 / 2)) (bt (X0 / 4)) (bt (X0 / 32)) (bt (X0 / 64)) (bt (X0 / 128)) (bt (X0 / 256)) (bt (X0 / 9223372036854775808)) (X0 / 4096 % 1048576) 4):List Value))++((zW14b A1 X1 (bt (X1)) (bt (X1 / 2)) (bt (X1 / 4)) (bt (X1 / 32)) (bt (X1 / 64)) (bt (X1 / 128)) (bt (X1 / 256)) (bt (X1 / 9223372036854775808)) (X1 / 4096 % 1048576) 3):List Value))++((zW14b A2 X2 (bt (X2)) (bt (X2 / 2)) (bt (X2 / 4)) (bt (X2 / 32)) (bt (X2 / 64)) false (bt (X2 / 256)) (bt (X2 / 9223372036854775808)) (X2 / 4096 % 1048576) 2):List Value))++((zW14b A3 X3 (bt (X3)) (bt (X3 / 2)) (bt (X3 / 4)) (bt (X3 / 32)) (bt (X3 / 64)) (bt (X3 / 128)) (bt (X3 / 256)) (bt (X3 / 9223372036854775808)) (X3 / 4096 % 1048576) 1):List Value)))->(∀ j,base<=j->j<W.heap.size->K j)->K 0->Tab W->IsRamK W K rb has F M m->Calls Tryd.prog 54 #[.pointer (some ⟨rb,0,none⟩),v,.bool x] W fun e w'=>e=.returned (.tuple #[])/\IsRamK w' K rb has F (mset (mset (mset (mset M A0 8 (orb X0 32)) A1 8 (orb X1 32)) A2 8 (orb X2 32)) A3 8 (orb X3 (if x then 96 else 32))) (m+8)/\Kept K W w'/\Tab w'):=fun W K base v hw hK hk hT hI=>by
    cases x
    . exact (mark4r hm A0 X0 (X0 / 4096 % 1048576) _ _ _ _ _ _ _ _ A1 X1 (X1 / 4096 % 1048576) _ _ _ _ _ _ _ _ A2 X2 (X2 / 4096 % 1048576) _ _ _ _ _ _ _ A3 X3 (X3 / 4096 % 1048576) _ _ _ _ _ _ _ _ (orb X0 32) (orb X1 32) (orb X2 32) (orb X3 32) a0 (chk_pos hF c0 a0) c0 rfl (orb_bd X0 32 x0.1 x0.2 (by omega) (by omega)).1 (orb_bd X0 32 x0.1 x0.2 (by omega) (by omega)).2 a1 (chk_pos hF c1 a1) c1 rfl (orb_bd X1 32 x1.1 x1.2 (by omega) (by omega)).1 (orb_bd X1 32 x1.1 x1.2 (by omega) (by omega)).2 a2 (chk_pos hF c2 a2) c2 rfl (orb_bd X2 32 x2.1 x2.2 (by omega) (by omega)).1 (orb_bd X2 32 x2.1 x2.2 (by omega) (by omega)).2 a3 (chk_pos hF c3 a3) c3 rfl (orb_bd X3 32 x3.1 x3.2 (by omega) (by omega)).1 (orb_bd X3 32 x3.1 x3.2 (by omega) (by omega)).2 base v W hw hK hk hT hI).mono fun e w' h=>⟨h.1,h.2.1.mono (by omega),h.2.2⟩
    . exact (mark4w hm A0 X0 (X0 / 4096 % 1048576) _ _ _ _ _ _ _ _ A1 X1 (X1 / 4096 % 1048576) _ _ _ _ _ _ _ _ A2 X2 (X2 / 4096 % 1048576) _ _ _ _ _ _ _ A3 X3 (X3 / 4096 % 1048576) _ _ _ _ _ _ _ _ (orb X0 32) (orb X1 32) (orb X2 32) (orb X3 96) a0 (chk_pos hF c0 a0) c0 rfl (orb_bd X0 32 x0.1 x0.2 (by omega) (by omega)).1 (orb_bd X0 32 x0.1 x0.2 (by omega) (by omega)).2 a1 (chk_pos hF c1 a1) c1 rfl (orb_bd X1 32 x1.1 x1.2 (by omega) (by omega)).1 (orb_bd X1 32 x1.1 x1.2 (by omega) (by omega)).2 a2 (chk_pos hF c2 a2) c2 rfl (orb_bd X2 32 x2.1 x2.2 (by omega) (by omega)).1 (orb_bd X2 32 x2.1 x2.2 (by omega) (by omega)).2 a3 (chk_pos hF c3 a3) c3 rfl (orb_bd X3 96 x3.1 x3.2 (by omega) (by omega)).1 (orb_bd X3 96 x3.1 x3.2 (by omega) (by omega)).2 base v W hw hK hk hT hI).mono fun e w' h=>⟨h.1,h.2.1.mono (by omega),h.2.2⟩
   have te:Hid (∀ W:World,Calls Tryd.prog 55 #[.agg (zW14a A3 X3 (bt (X3)) (bt (X3 / 2)) (bt (X3 / 4)) (bt (X3 / 32)) (bt (X3 / 64)) (bt (X3 / 128)) (bt (X3 / 256)) (bt (X3 / 9223372036854775808)) (X3 / 4096 % 1048576) 1),.agg #[.bool ((((true && bt (X0 / 2)) && bt (X1 / 2)) && bt (X2 / 2)) && bt (X3 / 2)),.bool ((((true && bt (X0 / 4)) && bt (X1 / 4)) && bt (X2 / 4)) && bt (X3 / 4)),.bool ((((true && !bt (X0 / 9223372036854775808)) && !bt (X1 / 9223372036854775808)) && !bt (X2 / 9223372036854775808)) && !bt (X3 / 9223372036854775808))],.int .i64 p3,.bool x] W fun e w'=>e=.returned (.agg #[.int .i64 (X3 / 4096 % 1048576),.bool ((((true && bt (X0 / 2)) && bt (X1 / 2)) && bt (X2 / 2)) && bt (X3 / 2)),.bool ((((true && bt (X0 / 4)) && bt (X1 / 4)) && bt (X2 / 4)) && bt (X3 / 4)),.bool ((((true && !bt (X0 / 9223372036854775808)) && !bt (X1 / 9223372036854775808)) && !bt (X2 / 9223372036854775808)) && !bt (X3 / 9223372036854775808)),.bool (bt (X3 / 256)),.bool false,.bool (bt (X3 / 64) || x)])/\Below W.heap.size W w'):=fun W=>by
    cases hd:bt (X3 / 64)
    . exact tell_small_f A3 X3 (X3 / 4096 % 1048576) 1 p3 _ _ _ _ _ _ _ _ _ _ x rfl W
    . exact tell_small_t A3 X3 (X3 / 4096 % 1048576) 1 p3 _ _ _ _ _ _ _ _ _ _ x rfl W
   exact walk_ok4 root addr p0 p1 p2 p3 po (codeV x u f) x u f hc sp co w hh (((((([]:List Value)++((zW14b A0 X0 (bt (X0)) (bt (X0 / 2)) (bt (X0 / 4)) (bt (X0 / 32)) (bt (X0 / 64)) (bt (X0 / 128)) (bt (X0 / 256)) (bt (X0 / 9223372036854775808)) (X0 / 4096 % 1048576) 4):List Value))++((zW14b A1 X1 (bt (X1)) (bt (X1 / 2)) (bt (X1 / 4)) (bt (X1 / 32)) (bt (X1 / 64)) (bt (X1 / 128)) (bt (X1 / 256)) (bt (X1 / 9223372036854775808)) (X1 / 4096 % 1048576) 3):List Value))++((zW14b A2 X2 (bt (X2)) (bt (X2 / 2)) (bt (X2 / 4)) (bt (X2 / 32)) (bt (X2 / 64)) false (bt (X2 / 256)) (bt (X2 / 9223372036854775808)) (X2 / 4096 % 1048576) 2):List Value))++((zW14b A3 X3 (bt (X3)) (bt (X3 / 2)) (bt (X3 / 4)) (bt (X3 / 32)) (bt (X3 / 64)) (bt (X3 / 128)) (bt (X3 / 256)) (bt (X3 / 9223372036854775808)) (X3 / 4096 % 1048576) 1):List Value))) _ _ _ fo cm _ hX ht k00 _ _ _ _ _ _ _ _ _ _ _ _ _ _ _ _ rfl rfl rfl rfl rfl rfl rfl rfl rfl rfl rfl rfl ma mk te
 . rw [if_neg hy]
   have hy':mayV ((((true && bt (X0 / 2)) && bt (X1 / 2)) && bt (X2 / 2)) && bt (X3 / 2)) ((((true && bt (X0 / 4)) && bt (X1 / 4)) && bt (X2 / 4)) && bt (X3 / 4)) ((((true && !bt (X0 / 9223372036854775808)) && !bt (X1 / 9223372036854775808)) && !bt (X2 / 9223372036854775808)) && !bt (X3 / 9223372036854775808)) x u f=false:=by simpa using hy
   have ma:Hid (∀ W:World,Calls Tryd.prog 25 #[.agg #[.bool ((((true && bt (X0 / 2)) && bt (X1 / 2)) && bt (X2 / 2)) && bt (X3 / 2)),.bool ((((true && bt (X0 / 4)) && bt (X1 / 4)) && bt (X2 / 4)) && bt (X3 / 4)),.bool ((((true && !bt (X0 / 9223372036854775808)) && !bt (X1 / 9223372036854775808)) && !bt (X2 / 9223372036854775808)) && !bt (X3 / 9223372036854775808))],.agg #[.bool x,.bool u,.bool f]] W fun e w'=>e=.returned (.bool false)/\Below W.heap.size W w'):=fun W=>by
    have:=may_any ((((true && bt (X0 / 2)) && bt (X1 / 2)) && bt (X2 / 2)) && bt (X3 / 2)) ((((true && bt (X0 / 4)) && bt (X1 / 4)) && bt (X2 / 4)) && bt (X3 / 4)) ((((true && !bt (X0 / 9223372036854775808)) && !bt (X1 / 9223372036854775808)) && !bt (X2 / 9223372036854775808)) && !bt (X3 / 9223372036854775808)) x u f W
    rw [hy'] at this;exact this
   have re:Hid (∀ W:World,Calls Tryd.prog 53 #[.agg #[.int .u64 addr,.int .i64 (codeV x u f)],.int .i64 1] W fun e w'=>e=.panicked [refv addr (codeV x u f+1) 9]/\Below W.heap.size W w'):=fun W=>refuse_any addr (codeV x u f) 1 _ (code1 x u f) W
   exact (walk_refused root addr p0 p1 p2 p3 po (codeV x u f) x u f hc sp co w hh 4 (((((([]:List Value)++((zW14b A0 X0 (bt (X0)) (bt (X0 / 2)) (bt (X0 / 4)) (bt (X0 / 32)) (bt (X0 / 64)) (bt (X0 / 128)) (bt (X0 / 256)) (bt (X0 / 9223372036854775808)) (X0 / 4096 % 1048576) 4):List Value))++((zW14b A1 X1 (bt (X1)) (bt (X1 / 2)) (bt (X1 / 4)) (bt (X1 / 32)) (bt (X1 / 64)) (bt (X1 / 128)) (bt (X1 / 256)) (bt (X1 / 9223372036854775808)) (X1 / 4096 % 1048576) 3):List Value))++((zW14b A2 X2 (bt (X2)) (bt (X2 / 2)) (bt (X2 / 4)) (bt (X2 / 32)) (bt (X2 / 64)) false (bt (X2 / 256)) (bt (X2 / 9223372036854775808)) (X2 / 4096 % 1048576) 2):List Value))++((zW14b A3 X3 (bt (X3)) (bt (X3 / 2)) (bt (X3 / 4)) (bt (X3 / 32)) (bt (X3 / 64)) (bt (X3 / 128)) (bt (X3 / 256)) (bt (X3 / 9223372036854775808)) (X3 / 4096 % 1048576) 1):List Value))) _ _ _ fo cm ma _ re).mono fun e w' h=>⟨h.1,walk_still hX ht h.2⟩
end Go.Proofs.YtkiclbnbnjbcaaaDoor
namespace Go.Proofs.YtkiclbnbnjbcaaaDoor
open Go.ChangeShapes Go.WideShapes Go.ChangeAt Go.RowKit Go.Maps
set_option linter.unusedSimpArgs false
set_option linter.unusedVariables false
set_option maxRecDepth 8000
theorem walk_l3 {w:World} {K0:Nat->Prop} {rb m:Nat} {has:Int->Bool} {F:Int} {M:Int->Int} (hX:RamX w K0 rb has F M m) (ht:Tab w) (k00:K0 0) (hm:m+100<maxLen) (hF: ∀ k,has k=true->0<=k/\k<1048576) (root addr p0 p1 p2 p3 po:Int) (x u f:Bool)
 (hc:Hid (∀ w:World,Calls Tryd.prog 23 #[.int .u64 addr] w fun e w'=>e=.returned (.bool true)/\w'=w))
 (sp:Hid (∀ w:World,Calls Tryd.prog 49 #[.int .u64 addr] w fun e w'=>e=.returned (.tuple #[.agg #[.int .i64 p0,.int .i64 p1,.int .i64 p2,.int .i64 p3],.int .i64 po])/\Below w.heap.size w w'))
 (hr:has root=true) (b0:0<=p0/\p0<512) (b1:0<=p1/\p1<512) (b2:0<=p2/\p2<512) (b3:0<=p3/\p3<512)
 (A0 X0 A1 X1 A2 X2:Int) (a0:0<=A0) (c0:chkG has A0 8=0) (x0:0<=X0/\X0<18446744073709551616) (l0:Hid (∀ w:World,Rd w rb has F M m->Calls Tryd.prog 76 #[.pointer (some ⟨rb,0,none⟩),.int .i64 root,.int .i64 p0,.int .i64 4,.agg #[.int .u64 addr,.int .i64 (codeV x u f)]] w fun e w'=>e=.returned (.agg #[.int .u64 A0,.int .u64 X0,.bool (bt (X0)),.bool (bt (X0 / 2)),.bool (bt (X0 / 4)),.bool (bt (X0 / 32)),.bool (bt (X0 / 64)),.bool (bt (X0 / 128)),.bool (bt (X0 / 256)),.bool (bt (X0 / 9223372036854775808)),.int .i64 (X0 / 4096 % 1048576),.int .i64 4])/\Below w.heap.size w w')) (a1:0<=A1) (c1:chkG has A1 8=0) (x1:0<=X1/\X1<18446744073709551616) (l1:Hid (∀ w:World,Rd w rb has F M m->Calls Tryd.prog 76 #[.pointer (some ⟨rb,0,none⟩),.int .i64 (X0 / 4096 % 1048576),.int .i64 p1,.int .i64 3,.agg #[.int .u64 addr,.int .i64 (codeV x u f)]] w fun e w'=>e=.returned (.agg #[.int .u64 A1,.int .u64 X1,.bool (bt (X1)),.bool (bt (X1 / 2)),.bool (bt (X1 / 4)),.bool (bt (X1 / 32)),.bool (bt (X1 / 64)),.bool (bt (X1 / 128)),.bool (bt (X1 / 256)),.bool (bt (X1 / 9223372036854775808)),.int .i64 (X1 / 4096 % 1048576),.int .i64 3])/\Below w.heap.size w w')) (a2:0<=A2) (c2:chkG has A2 8=0) (x2:0<=X2/\X2<18446744073709551616) (l2:Hid (∀ w:World,Rd w rb has F M m->Calls Tryd.prog 76 #[.pointer (some ⟨rb,0,none⟩),.int .i64 (X1 / 4096 % 1048576),.int .i64 p2,.int .i64 2,.agg #[.int .u64 addr,.int .i64 (codeV x u f)]] w fun e w'=>e=.returned (.agg #[.int .u64 A2,.int .u64 X2,.bool (bt (X2)),.bool (bt (X2 / 2)),.bool (bt (X2 / 4)),.bool (bt (X2 / 32)),.bool (bt (X2 / 64)),.bool false,.bool (bt (X2 / 256)),.bool (bt (X2 / 9223372036854775808)),.int .i64 (X2 / 4096 % 1048576),.int .i64 2])/\Below w.heap.size w w')) (nl:bt (X2 / 128)=false) :
 Calls Tryd.prog 22 #[.pointer (some ⟨rb,0,none⟩),.int .i64 root,.int .u64 addr,.agg #[.bool x,.bool u,.bool f]] w fun e w'=>e=.returned (walk3 has M addr (codeV x u f) p3 x u f A0 X0 A1 X1 A2 X2).val/\RamX w' K0 rb has F (walk3 has M addr (codeV x u f) p3 x u f A0 X0 A1 X1 A2 X2).M (m+8)/\Kept K0 w w'/\Tab w':=by
 have hM:=hX.1.byte
 have t0:0<=(X2 / 4096 % 1048576)/\(X2 / 4096 % 1048576)<1048576:=by omega
 unfold walk3
 rw [if_neg (by rw [nl];simp)]
 cases hb:badV has M (X2 / 4096 % 1048576) p3 1 addr (codeV x u f) with
 | some t =>
  obtain ⟨a,c,e'⟩:=t
  have lb:=look_bad (rb:=rb) (n:=m) (F:=F) hM (X2 / 4096 % 1048576) p3 1 addr x u f t0.1 t0.2 b3.1 b3.2 hb
  simp only
  have fo:Hid (∀ W:World,Below w.heap.size w W->Calls Tryd.prog 51 #[.pointer (some ⟨rb,0,none⟩),.int .i64 root,.agg #[.int .i64 p0,.int .i64 p1,.int .i64 p2,.int .i64 p3],.agg #[.int .u64 addr,.int .i64 (codeV x u f)]] W fun e w'=>e=.panicked [refv a c e']/\Below W.heap.size W w'):=fun W hb =>
   followP3 root addr (codeV x u f) p0 p1 p2 p3 _ _ _ _ _ _ _ _ _ _ _ _ _ _ _ _ _ _ _ _ _ _ _ _ _ _ _ _ _ _ _ _ _ l0 l1 l2 lb W (hX.rd ht hb)
  have hh:=hX.has root
  rw [hr] at hh
  exact (walk_panic root addr p0 p1 p2 p3 po (codeV x u f) x u f hc sp (fun w=>code_any x u f w) w hh a c e' fo).mono fun e w' h=>⟨h.1,walk_still hX ht h.2⟩
 | none =>
  have hg:=look_good (rb:=rb) (n:=m) (F:=F) hM (X2 / 4096 % 1048576) p3 1 addr (codeV x u f) t0.1 t0.2 b3.1 b3.2 hb
  have hx:=ent_bd hM (X2 / 4096 % 1048576) p3
  have ha:0<=(X2 / 4096 % 1048576)*4096+p3*8:=by omega
  simp only
  generalize entV M (X2 / 4096 % 1048576) p3=X3 at hg hx |-
  generalize (X2 / 4096 % 1048576)*4096+p3*8=A3 at hg ha |-
  exact walk_end4 hX ht k00 hm hF root addr p0 p1 p2 p3 po x u f hc sp hr b0 b1 b2 b3 A0 X0 A1 X1 A2 X2 A3 X3 a0 c0 x0 l0 a1 c1 x1 l1 a2 c2 x2 l2 ha hg.1 hx hg.2
theorem walk_l2 {w:World} {K0:Nat->Prop} {rb m:Nat} {has:Int->Bool} {F:Int} {M:Int->Int} (hX:RamX w K0 rb has F M m) (ht:Tab w) (k00:K0 0) (hm:m+100<maxLen) (hF: ∀ k,has k=true->0<=k/\k<1048576) (root addr p0 p1 p2 p3 po:Int) (x u f:Bool)
 (hc:Hid (∀ w:World,Calls Tryd.prog 23 #[.int .u64 addr] w fun e w'=>e=.returned (.bool true)/\w'=w))
 (sp:Hid (∀ w:World,Calls Tryd.prog 49 #[.int .u64 addr] w fun e w'=>e=.returned (.tuple #[.agg #[.int .i64 p0,.int .i64 p1,.int .i64 p2,.int .i64 p3],.int .i64 po])/\Below w.heap.size w w'))
 (hr:has root=true) (b0:0<=p0/\p0<512) (b1:0<=p1/\p1<512) (b2:0<=p2/\p2<512) (b3:0<=p3/\p3<512)
 (A0 X0 A1 X1:Int) (a0:0<=A0) (c0:chkG has A0 8=0) (x0:0<=X0/\X0<18446744073709551616) (l0:Hid (∀ w:World,Rd w rb has F M m->Calls Tryd.prog 76 #[.pointer (some ⟨rb,0,none⟩),.int .i64 root,.int .i64 p0,.int .i64 4,.agg #[.int .u64 addr,.int .i64 (codeV x u f)]] w fun e w'=>e=.returned (.agg #[.int .u64 A0,.int .u64 X0,.bool (bt (X0)),.bool (bt (X0 / 2)),.bool (bt (X0 / 4)),.bool (bt (X0 / 32)),.bool (bt (X0 / 64)),.bool (bt (X0 / 128)),.bool (bt (X0 / 256)),.bool (bt (X0 / 9223372036854775808)),.int .i64 (X0 / 4096 % 1048576),.int .i64 4])/\Below w.heap.size w w')) (a1:0<=A1) (c1:chkG has A1 8=0) (x1:0<=X1/\X1<18446744073709551616) (l1:Hid (∀ w:World,Rd w rb has F M m->Calls Tryd.prog 76 #[.pointer (some ⟨rb,0,none⟩),.int .i64 (X0 / 4096 % 1048576),.int .i64 p1,.int .i64 3,.agg #[.int .u64 addr,.int .i64 (codeV x u f)]] w fun e w'=>e=.returned (.agg #[.int .u64 A1,.int .u64 X1,.bool (bt (X1)),.bool (bt (X1 / 2)),.bool (bt (X1 / 4)),.bool (bt (X1 / 32)),.bool (bt (X1 / 64)),.bool (bt (X1 / 128)),.bool (bt (X1 / 256)),.bool (bt (X1 / 9223372036854775808)),.int .i64 (X1 / 4096 % 1048576),.int .i64 3])/\Below w.heap.size w w')) :
 Calls Tryd.prog 22 #[.pointer (some ⟨rb,0,none⟩),.int .i64 root,.int .u64 addr,.agg #[.bool x,.bool u,.bool f]] w fun e w'=>e=.returned (walk2 has M addr (codeV x u f) p2 p3 x u f A0 X0 A1 X1).val/\RamX w' K0 rb has F (walk2 has M addr (codeV x u f) p2 p3 x u f A0 X0 A1 X1).M (m+8)/\Kept K0 w w'/\Tab w':=by
 have hM:=hX.1.byte
 have t0:0<=(X1 / 4096 % 1048576)/\(X1 / 4096 % 1048576)<1048576:=by omega
 unfold walk2
 cases hb:badV has M (X1 / 4096 % 1048576) p2 2 addr (codeV x u f) with
 | some t =>
  obtain ⟨a,c,e'⟩:=t
  have lb:=look_bad (rb:=rb) (n:=m) (F:=F) hM (X1 / 4096 % 1048576) p2 2 addr x u f t0.1 t0.2 b2.1 b2.2 hb
  simp only
  have fo:Hid (∀ W:World,Below w.heap.size w W->Calls Tryd.prog 51 #[.pointer (some ⟨rb,0,none⟩),.int .i64 root,.agg #[.int .i64 p0,.int .i64 p1,.int .i64 p2,.int .i64 p3],.agg #[.int .u64 addr,.int .i64 (codeV x u f)]] W fun e w'=>e=.panicked [refv a c e']/\Below W.heap.size W w'):=fun W hb =>
   followP2 root addr (codeV x u f) p0 p1 p2 p3 _ _ _ _ _ _ _ _ _ _ _ _ _ _ _ _ _ _ _ _ _ _ _ l0 l1 lb W (hX.rd ht hb)
  have hh:=hX.has root
  rw [hr] at hh
  exact (walk_panic root addr p0 p1 p2 p3 po (codeV x u f) x u f hc sp (fun w=>code_any x u f w) w hh a c e' fo).mono fun e w' h=>⟨h.1,walk_still hX ht h.2⟩
 | none =>
  have hg:=look_good (rb:=rb) (n:=m) (F:=F) hM (X1 / 4096 % 1048576) p2 2 addr (codeV x u f) t0.1 t0.2 b2.1 b2.2 hb
  have hx:=ent_bd hM (X1 / 4096 % 1048576) p2
  have ha:0<=(X1 / 4096 % 1048576)*4096+p2*8:=by omega
  simp only
  generalize entV M (X1 / 4096 % 1048576) p2=X2 at hg hx |-
  generalize (X1 / 4096 % 1048576)*4096+p2*8=A2 at hg ha |-
  cases hl:bt (X2 / 128)
  . have l2:=hg.2
    rw [hl] at l2
    exact walk_l3 hX ht k00 hm hF root addr p0 p1 p2 p3 po x u f hc sp hr b0 b1 b2 b3 A0 X0 A1 X1 A2 X2 a0 c0 x0 l0 a1 c1 x1 l1 ha hg.1 hx l2 hl
  . have l2:=hg.2
    rw [hl] at l2
    unfold walk3
    rw [if_pos hl]
    exact walk_end3 hX ht k00 hm hF root addr p0 p1 p2 p3 po x u f hc sp hr b0 b1 b2 b3 A0 X0 A1 X1 A2 X2 a0 c0 x0 l0 a1 c1 x1 l1 ha hg.1 hx l2
theorem walk_l1 {w:World} {K0:Nat->Prop} {rb m:Nat} {has:Int->Bool} {F:Int} {M:Int->Int} (hX:RamX w K0 rb has F M m) (ht:Tab w) (k00:K0 0) (hm:m+100<maxLen) (hF: ∀ k,has k=true->0<=k/\k<1048576) (root addr p0 p1 p2 p3 po:Int) (x u f:Bool)
 (hc:Hid (∀ w:World,Calls Tryd.prog 23 #[.int .u64 addr] w fun e w'=>e=.returned (.bool true)/\w'=w))
 (sp:Hid (∀ w:World,Calls Tryd.prog 49 #[.int .u64 addr] w fun e w'=>e=.returned (.tuple #[.agg #[.int .i64 p0,.int .i64 p1,.int .i64 p2,.int .i64 p3],.int .i64 po])/\Below w.heap.size w w'))
 (hr:has root=true) (b0:0<=p0/\p0<512) (b1:0<=p1/\p1<512) (b2:0<=p2/\p2<512) (b3:0<=p3/\p3<512)
 (A0 X0:Int) (a0:0<=A0) (c0:chkG has A0 8=0) (x0:0<=X0/\X0<18446744073709551616) (l0:Hid (∀ w:World,Rd w rb has F M m->Calls Tryd.prog 76 #[.pointer (some ⟨rb,0,none⟩),.int .i64 root,.int .i64 p0,.int .i64 4,.agg #[.int .u64 addr,.int .i64 (codeV x u f)]] w fun e w'=>e=.returned (.agg #[.int .u64 A0,.int .u64 X0,.bool (bt (X0)),.bool (bt (X0 / 2)),.bool (bt (X0 / 4)),.bool (bt (X0 / 32)),.bool (bt (X0 / 64)),.bool (bt (X0 / 128)),.bool (bt (X0 / 256)),.bool (bt (X0 / 9223372036854775808)),.int .i64 (X0 / 4096 % 1048576),.int .i64 4])/\Below w.heap.size w w')) :
 Calls Tryd.prog 22 #[.pointer (some ⟨rb,0,none⟩),.int .i64 root,.int .u64 addr,.agg #[.bool x,.bool u,.bool f]] w fun e w'=>e=.returned (walk1 has M addr (codeV x u f) p1 p2 p3 x u f A0 X0).val/\RamX w' K0 rb has F (walk1 has M addr (codeV x u f) p1 p2 p3 x u f A0 X0).M (m+8)/\Kept K0 w w'/\Tab w':=by
 have hM:=hX.1.byte
 have t0:0<=(X0 / 4096 % 1048576)/\(X0 / 4096 % 1048576)<1048576:=by omega
 unfold walk1
 cases hb:badV has M (X0 / 4096 % 1048576) p1 3 addr (codeV x u f) with
 | some t =>
  obtain ⟨a,c,e'⟩:=t
  have lb:=look_bad (rb:=rb) (n:=m) (F:=F) hM (X0 / 4096 % 1048576) p1 3 addr x u f t0.1 t0.2 b1.1 b1.2 hb
  simp only
  have fo:Hid (∀ W:World,Below w.heap.size w W->Calls Tryd.prog 51 #[.pointer (some ⟨rb,0,none⟩),.int .i64 root,.agg #[.int .i64 p0,.int .i64 p1,.int .i64 p2,.int .i64 p3],.agg #[.int .u64 addr,.int .i64 (codeV x u f)]] W fun e w'=>e=.panicked [refv a c e']/\Below W.heap.size W w'):=fun W hb =>
   followP1 root addr (codeV x u f) p0 p1 p2 p3 _ _ _ _ _ _ _ _ _ _ _ _ l0 lb W (hX.rd ht hb)
  have hh:=hX.has root
  rw [hr] at hh
  exact (walk_panic root addr p0 p1 p2 p3 po (codeV x u f) x u f hc sp (fun w=>code_any x u f w) w hh a c e' fo).mono fun e w' h=>⟨h.1,walk_still hX ht h.2⟩
 | none =>
  have hg:=look_good (rb:=rb) (n:=m) (F:=F) hM (X0 / 4096 % 1048576) p1 3 addr (codeV x u f) t0.1 t0.2 b1.1 b1.2 hb
  have hx:=ent_bd hM (X0 / 4096 % 1048576) p1
  have ha:0<=(X0 / 4096 % 1048576)*4096+p1*8:=by omega
  simp only
  generalize entV M (X0 / 4096 % 1048576) p1=X1 at hg hx |-
  generalize (X0 / 4096 % 1048576)*4096+p1*8=A1 at hg ha |-
  exact walk_l2 hX ht k00 hm hF root addr p0 p1 p2 p3 po x u f hc sp hr b0 b1 b2 b3 A0 X0 A1 X1 a0 c0 x0 l0 ha hg.1 hx hg.2
theorem walk_l0 {w:World} {K0:Nat->Prop} {rb m:Nat} {has:Int->Bool} {F:Int} {M:Int->Int} (hX:RamX w K0 rb has F M m) (ht:Tab w) (k00:K0 0) (hm:m+100<maxLen) (hF: ∀ k,has k=true->0<=k/\k<1048576) (root addr p0 p1 p2 p3 po:Int) (x u f:Bool)
 (hc:Hid (∀ w:World,Calls Tryd.prog 23 #[.int .u64 addr] w fun e w'=>e=.returned (.bool true)/\w'=w))
 (sp:Hid (∀ w:World,Calls Tryd.prog 49 #[.int .u64 addr] w fun e w'=>e=.returned (.tuple #[.agg #[.int .i64 p0,.int .i64 p1,.int .i64 p2,.int .i64 p3],.int .i64 po])/\Below w.heap.size w w'))
 (
  hr:has root=true) (b0:0<=p0/\p0<512) (b1:0<=p1/\p1<512) (b2:0<=p2/\p2<512) (b3:0<=p3/\p3<512)
  :
 Calls Tryd.prog 22 #[.pointer (some ⟨rb,0,none⟩),.int .i64 root,.int .u64 addr,.agg #[.bool x,.bool u,.bool f]] w fun e w'=>e=.returned (walk0 has M root addr (codeV x u f) p0 p1 p2 p3 x u f).val/\RamX w' K0 rb has F (walk0 has M root addr (codeV x u f) p0 p1 p2 p3 x u f).M (m+8)/\Kept K0 w w'/\Tab w':=by
 have hM:=hX.1.byte
 have t0:0<=root/\root<1048576:=hF root hr
 unfold walk0
 cases hb:badV has M root p0 4 addr (codeV x u f) with
 | some t =>
  obtain ⟨a,c,e'⟩:=t
  have lb:=look_bad (rb:=rb) (n:=m) (F:=F) hM root p0 4 addr x u f t0.1 t0.2 b0.1 b0.2 hb
  simp only
  have fo:Hid (∀ W:World,Below w.heap.size w W->Calls Tryd.prog 51 #[.pointer (some ⟨rb,0,none⟩),.int .i64 root,.agg #[.int .i64 p0,.int .i64 p1,.int .i64 p2,.int .i64 p3],.agg #[.int .u64 addr,.int .i64 (codeV x u f)]] W fun e w'=>e=.panicked [refv a c e']/\Below W.heap.size W w'):=fun W hb =>
   followP0 root addr (codeV x u f) p0 p1 p2 p3 _   lb W (hX.rd ht hb)
  have hh:=hX.has root
  rw [hr] at hh
  exact (walk_panic root addr p0 p1 p2 p3 po (codeV x u f) x u f hc sp (fun w=>code_any x u f w) w hh a c e' fo).mono fun e w' h=>⟨h.1,walk_still hX ht h.2⟩
 | none =>
  have hg:=look_good (rb:=rb) (n:=m) (F:=F) hM root p0 4 addr (codeV x u f) t0.1 t0.2 b0.1 b0.2 hb
  have hx:=ent_bd hM root p0
  have ha:0<=root*4096+p0*8:=by omega
  simp only
  generalize entV M root p0=X0 at hg hx |-
  generalize root*4096+p0*8=A0 at hg ha |-
  exact walk_l1 hX ht k00 hm hF root addr p0 p1 p2 p3 po x u f hc sp hr b0 b1 b2 b3  A0 X0  ha hg.1 hx hg.2
theorem walk_any {w:World} {K0:Nat->Prop} {rb m:Nat} {has:Int->Bool} {F:Int} {M:Int->Int} (hX:RamX w K0 rb has F M m) (ht:Tab w) (k00:K0 0) (hm:m+100<maxLen) (hF: ∀ k,has k=true->0<=k/\k<1048576) (root addr:Int) (a0:0<=addr) (a1:addr<18446744073709551616) (x u f:Bool) :
 Calls Tryd.prog 22 #[.pointer (some ⟨rb,0,none⟩),.int .i64 root,.int .u64 addr,.agg #[.bool x,.bool u,.bool f]] w fun e w'=>e=.returned (walkW has M root addr x u f).val/\RamX w' K0 rb has F (walkW has M root addr x u f).M (m+8)/\Kept K0 w w'/\Tab w':=by
 unfold walkW
 by_cases hc:(ext addr==addr)=false
 . rw [if_pos hc]
   have h:Hid (∀ w:World,Calls Tryd.prog 23 #[.int .u64 addr] w fun e w'=>e=.returned (.bool false)/\w'=w):=fun w=>by
    have:=canonical_any addr a0 a1 w
    rw [hc] at this;exact this
   exact (walk_arg rb root addr x u f h w).mono fun e w' h=>⟨h.1,walk_still hX ht h.2⟩
 . rw [if_neg hc]
   have hc':(ext addr==addr)=true:=by simpa using hc
   have h:Hid (∀ w:World,Calls Tryd.prog 23 #[.int .u64 addr] w fun e w'=>e=.returned (.bool true)/\w'=w):=fun w=>by
    have:=canonical_any addr a0 a1 w
    rw [hc'] at this;exact this
   by_cases hr:has root=false
   . rw [if_pos hr]
     have hh:=hX.has root
     rw [hr] at hh
     exact (walk_bus rb root addr x u f h w hh).mono fun e w' h=>⟨h.1,walk_still hX ht h.2⟩
   . rw [if_neg hr]
     exact walk_l0 hX ht k00 hm hF root addr _ _ _ _ (addr % 4096) x u f h (fun w=>split_any addr a0 a1 w) (by simpa using hr) (by omega) (by omega) (by omega) (by omega)
end Go.Proofs.YtkiclbnbnjbcaaaDoor
