import Derived.Test.YtgbdnnkkcpkhdaaGreatDoorKZc
import Derived.Test.YtgbdnnkkcpkhdaaGreatDoorRows
import Derived.WalkKit
import Derived.ProofKit
import Derived.OpenShut
import Derived.WalkLawsBesides
import Derived.Deep.Light
import Derived.Deep.Draws
import Derived.Maps.OwnSet
import Derived.Maps.OwnOps
import Derived.Laws.ShiftsVar
import Derived.RegionTactic
import Derived.BigRegion
set_option linter.unusedSimpArgs false
set_option linter.unusedVariables false
set_option maxRecDepth 8000
set_option maxHeartbeats 1000000
open Go.ChangeShapes Go.WideShapes Go.ChangeAt Go.RowKit Go.Maps
namespace Go.Proofs.YtgbdnnkkcpkhdaaGreatDoor
theorem keyLaw:Keyed Tryz.prog 3:=int_keyed Tryz.underlying3
theorem zeroPtr (w:World):(zeroValue 217).run Tryz.prog w=.ok (.pointer none) w:=ka
def pgD:Option Nat->DataW Unit
 | none => .nil
 | some b => .lit (.int .u64 b)
def pgV:Option Nat->Value
 | none => .pointer none
 | some b => .pointer (some ⟨b, 0, none⟩)
def ptrElem (v:Value):Option (DataW Unit × List MemPlace) :=
 match v with
 | .pointer none => some (pgD none, [])
 | .pointer (some a) => if a.off = 0 ∧ a.spot = none then some (pgD (some a.block), []) else none
 | _ => none
theorem ptrElem_pgV (o:Option Nat):ptrElem (pgV o)=some (pgD o,[]):=by cases o <;> simp [ptrElem,pgV]
theorem ptrElem_inv {v:Value} {o:Option Nat} {ps:List MemPlace} (h:ptrElem v=some (pgD o,ps)):v=pgV o:=by
 unfold ptrElem at h
 split at h
 . cases o with
   | none => rfl
   | some b => simp [pgD] at h
 . rename_i a
   split at h
   . rename_i c
     cases o with
     | none => simp [pgD] at h
     | some b =>
      simp [pgD] at h
      obtain ⟨h1,h2⟩:=c
      cases a;simp_all [pgV];omega
   . cases h
 . cases h
def Mem (w:World) (mb n:Nat) (pg:Int->Option Nat):Prop :=
 ∃ D:DataW Unit,w.ownsMap Tryz.prog 3 ptrElem mb n D/\ ∀ k,D.atKey (.int .i64 k) .nil=pgD (pg k)
def put (pg:Int->Option Nat) (k:Int) (o:Option Nat):Int->Option Nat:=fun j=>if j=k then o else pg j
theorem wf64 {k:Int} (h0: -9223372036854775808<=k) (h1:k<=9223372036854775807):(Lit.int .i64 k).wf=true:=by
 simp [Lit.wf,IntKind.min,IntKind.max,IntKind.signed,IntKind.bits];omega
theorem Mem.look {w:World} {mb n:Nat} {pg:Int->Option Nat} (h:Mem w mb n pg) {k:Int} (h0: -9223372036854775808<=k) (h1:k<=9223372036854775807) :
 (Instr.lookup 193 (.map (some mb)) (.int .i64 k) false).run Tryz.prog w=.ok (pgV (pg k)) w:=by
 obtain ⟨D,hown,hD⟩:=h
 obtain ⟨v,ps,hrun,hv⟩:=hown.lookup keyLaw Tryz.underlying193 (zeroPtr w) (zd:=.nil) (zp:=[]) rfl (keyOf_int_mk Tryz.underlying3 (wf64 h0 h1))
 rw [hD] at hv
 rw [hrun,ptrElem_inv hv]
theorem Mem.store {w:World} {mb n:Nat} {pg:Int->Option Nat} (h:Mem w mb n pg) (hn:n<maxLen) {k:Int} (h0: -9223372036854775808<=k) (h1:k<=9223372036854775807) (b:Nat) :
 ∃ w',(Instr.mapUpdate 193 (.map (some mb)) (.int .i64 k) (pgV (some b))).run Tryz.prog w=.ok () w'/\Mem w' mb (n+1) (put pg k (some b))/\w.grownBy w' (some mb):=by
 obtain ⟨D,hown,hD⟩:=h
 have hkey:=keyOf_int_mk Tryz.underlying3 (wf64 h0 h1)
 obtain ⟨w',hrun,hown',hg⟩:=hown.update keyLaw Tryz.underlying193 hn hkey (ptrElem_pgV (some b))
 refine ⟨w',hrun,⟨_,hown',?_⟩,hg⟩
 intro j
 unfold put
 by_cases c:j=k
 . subst c;rw [if_pos rfl];exact atKey_put_same hown.isMap (by trivial) _ _
 . rw [if_neg c,atKey_put_other (by intro e;cases e;exact c rfl)];exact hD j
theorem Mem.kept {w w':World} {mb n:Nat} {pg:Int->Option Nat} {row:Option Nat} (h:Mem w mb n pg) (hg:w.grownBy w' row) (hne:some mb≠row):Mem w' mb n pg:=by
 obtain ⟨D,hown,hD⟩:=h
 exact ⟨D,hown.kept hg hne,hD⟩
theorem Mem.lt {w:World} {mb n:Nat} {pg:Int->Option Nat} (h:Mem w mb n pg):mb<w.heap.size:=by
 obtain ⟨D,hown,_⟩:=h;exact hown.lt
theorem Mem.made (w:World):Mem (w.alloc (.map #[] 0)) w.heap.size 0 (fun _=>none) :=
 ⟨.map [],World.ownsMap_made w Tryz.prog 3 ptrElem,fun _=>rfl⟩
theorem split_in (addr size:Int) (h0:0<=addr) (h1:addr<18446744073709551616) (s0:0<=size) (s1:size<=8) (c:size<=4096-addr % 4096) (w:World) :
 Calls Tryz.prog 74 #[.int .u64 addr,.int .i64 size] w fun e w'=>e=.returned (.tuple #[.int .i64 (addr / 4096),.int .i64 (addr % 4096),.int .i64 size])/\w'=w:=by
 go_enter Tryz.func74,Tryz.ntmps74
 go_wp2
 go_ret3
 exact ⟨rfl,rfl⟩
theorem split_over (addr size:Int) (h0:0<=addr) (h1:addr<18446744073709551616) (s0:0<=size) (s1:size<=8) (c:4096-addr % 4096<size) (w:World) :
 Calls Tryz.prog 74 #[.int .u64 addr,.int .i64 size] w fun e w'=>e=.returned (.tuple #[.int .i64 (addr / 4096),.int .i64 (addr % 4096),.int .i64 (4096-addr % 4096)])/\w'=w:=by
 go_enter Tryz.func74,Tryz.ntmps74
 go_wp2
 go_ret3
 exact ⟨rfl,rfl⟩
def hasF (F k:Int):Bool:=decide (0<=k) && decide (k<F)
theorem has_nil (rb:Nat) (F k:Int) (w:World) (c0:w.cell? ⟨rb,0,none⟩=some (.int .i64 F)) (c1:w.cell? ⟨rb,1,none⟩=some (.slice none 0 0)) :
 Calls Tryz.prog 62 #[.pointer (some ⟨rb,0,none⟩),.int .i64 k] w fun e w'=>e=.returned (.bool (hasF F k))/\w'=w:=by
 by_cases a:k<0
 . have hh:Hid (hasF F k=false):=by show hasF F k=false;unfold hasF;rw [decide_eq_false (by omega),Bool.false_and]
   go_enter Tryz.func62,Tryz.ntmps62
   go_wp2
   go_ret
   exact ⟨by rw [hh.out];rfl,rfl⟩
 . by_cases b:F<=k
   . have hh:Hid (hasF F k=false):=by show hasF F k=false;unfold hasF;rw [decide_eq_false (by omega: ¬ k<F),Bool.and_false]
     go_enter Tryz.func62,Tryz.ntmps62
     go_wp2
     go_ret
     exact ⟨by rw [hh.out];rfl,rfl⟩
   . have hh:Hid (hasF F k=true):=by show hasF F k=true;unfold hasF;rw [decide_eq_true (by omega),decide_eq_true (by omega)];rfl
     go_enter Tryz.func62,Tryz.ntmps62
     go_wp2
     refine wp_loop_rounds 1 ?_
     rw [rounds_succ]
     go_wp2
     go_ret
     exact ⟨by rw [hh.out];rfl,rfl⟩
def le (c:Nat->Int) (at_:Nat):Nat->Int
 | 0 => 0
 | i + 1 => le c at_ i + c (at_ + i) * 256 ^ i
theorem le_bd {c:Nat->Int} (hc: ∀ i,0<=c i/\c i<256) (a:Nat): ∀ n,0<=le c a n/\le c a n<256 ^ n
 | 0 => by simp [le]
 | n + 1 => by
  have h:=le_bd hc a n
  have h2:=hc (a+n)
  simp only [le]
  have hp:(0:Int)<256 ^ n:=Int.pow_pos (by omega)
  have h3:0<=c (a+n)*256 ^ n:=Int.mul_nonneg h2.1 (by omega)
  have h4:c (a+n)*256 ^ n<=255*256 ^ n:=Int.mul_le_mul_of_nonneg_right (by omega) (by omega)
  rw [Int.pow_succ]
  omega
theorem or_at (k:Nat) (X v:Int) (x0:0<=X) (x1:X<2 ^ k) (v0:0<=v) (hb:v*2 ^ k<=18446744073709551616-2 ^ k):bits .or .u64 X (v*2 ^ k)=X+v*2 ^ k:=by
 have hp:(0:Int)<2 ^ k:=Int.pow_pos (by omega)
 have hm:0<=v*2 ^ k:=Int.mul_nonneg v0 (by omega)
 rw [u64_or _ _ (by omega) (by omega) (by omega) (by omega),Nat.or_comm]
 have e:(v*2 ^ k).toNat=v.toNat*2 ^ k:=by
  rw [<- Int.toNat_natCast (v.toNat*2 ^ k),Int.natCast_mul,Int.natCast_pow,Int.toNat_of_nonneg v0];rfl
 rw [nat_join k (v*2 ^ k).toNat X.toNat (by rw [e,Nat.mul_mod_left]) (by
  have:((2 ^ k:Nat):Int)=2 ^ k:=by rw [Int.natCast_pow];rfl
  omega)]
 omega
theorem pow256 (n:Nat):(2:Int) ^ (8*n)=256 ^ n:=by rw [Int.pow_mul];rfl
theorem or_byte (X v j:Int) (j0:0<=j) (j8:j<8) (x0:0<=X) (x1:X<256 ^ j.toNat) (v0:0<=v) (v1:v<256) :
 bits .or .u64 X (IntKind.u64.wrap (v*2 ^ (8*j).toNat))=X+v*256 ^ j.toNat:=by
 rw [show (8*j).toNat=8*j.toNat by omega,pow256]
 rcases (show j=0\/j=1\/j=2\/j=3\/j=4\/j=5\/j=6\/j=7 by omega) with rfl | rfl | rfl | rfl | rfl | rfl | rfl | rfl
 all_goals
  simp only [Int.reduceToNat,Int.reducePow,Int.mul_one] at *
  rw [IntKind.wrap_u64,Int.emod_eq_of_lt (by omega) (by omega)]
 . have h:=or_at 0 X v (by omega) (by omega) v0 (by omega)
   rw [Int.pow_zero,Int.mul_one] at h;exact h
 . exact or_at 8 X v (by omega) (by omega) v0 (by omega)
 . exact or_at 16 X v (by omega) (by omega) v0 (by omega)
 . exact or_at 24 X v (by omega) (by omega) v0 (by omega)
 . exact or_at 32 X v (by omega) (by omega) v0 (by omega)
 . exact or_at 40 X v (by omega) (by omega) v0 (by omega)
 . exact or_at 48 X v (by omega) (by omega) v0 (by omega)
 . exact or_at 56 X v (by omega) (by omega) v0 (by omega)
theorem read_none (rb mb n:Nat) (pg:Int->Option Nat) (k a m:Int) (w:World) (k0: -9223372036854775808<=k) (k1:k<=9223372036854775807)
 (c2:w.cell? ⟨rb,2,none⟩=some (.map (some mb))) (hm:Mem w mb n pg) (hp:pg k=none) :
 Calls Tryz.prog 76 #[.pointer (some ⟨rb,0,none⟩),.int .i64 k,.int .i64 a,.int .i64 m] w fun e w'=>e=.returned (.int .u64 0)/\w'=w:=by
 have hl:=hm.look k0 k1
 rw [hp] at hl
 have hl':(Instr.lookup 193 (.map (some mb)) (.int .i64 k) false).run Tryz.prog w=.ok (.pointer none) w:=hl
 clear hl hp hm
 go_enter Tryz.func76,Tryz.ntmps76
 go_wp2
 go_ret
 exact ⟨rfl,rfl⟩
theorem read_some (rb mb n b:Nat) (pg:Int->Option Nat) (c:Nat->Int) (k a m:Int) (w:World) (k0: -9223372036854775808<=k) (k1:k<=9223372036854775807)
 (c2:w.cell? ⟨rb,2,none⟩=some (.map (some mb))) (hm:Mem w mb n pg) (hp:pg k=some b) (hc: ∀ i,0<=c i/\c i<256)
 (hpage: ∀ i,i<4096->w.cell? ⟨b,i,none⟩=some (.int .u8 (c i))) (a0:0<=a) (m0:0<=m) (m8:m<=8) (am:a+m<=4096) :
 Calls Tryz.prog 76 #[.pointer (some ⟨rb,0,none⟩),.int .i64 k,.int .i64 a,.int .i64 m] w fun e w'=>e=.returned (.int .u64 (le c a.toNat m.toNat))/\w'=w:=by
 have hl:=hm.look k0 k1
 rw [hp] at hl
 have hl':(Instr.lookup 193 (.map (some mb)) (.int .i64 k) false).run Tryz.prog w=.ok (.pointer (some ⟨b,0,none⟩)) w:=hl
 clear hl hp hm
 go_enter Tryz.func76,Tryz.ntmps76
 go_wp2
 go_loop [10,21] (fun x i=> ∃ j:Int,0<=j/\j<=m/\i=.int .i64 j/\x=.int .u64 (le c a.toNat j.toNat)) (fun _ i=>(m-intOf i).toNat)
 case atStart=>exact ⟨0,by omega,by omega,rfl,rfl⟩
 case round =>
  obtain ⟨j,j0,j1,rfl,rfl⟩:=hrel
  by_cases cj:j<m
  . obtain ⟨X,hX⟩: ∃ X:Int,le c a.toNat j.toNat=X:=⟨_,rfl⟩
    rw [hX]
    obtain ⟨v,hv⟩: ∃ v:Int,c (a+j).toNat=v:=⟨_,rfl⟩
    have hcell:w.cell? ⟨b,(a+j).toNat,none⟩=some (.int .u8 v):=by rw [<- hv];exact hpage _ (by omega)
    have hvb:0<=v/\v<256:=by rw [<- hv];exact hc _
    obtain ⟨v0,v1⟩:=hvb
    have hnext:le c a.toNat (j+1).toNat=X+v*256 ^ j.toNat:=by
     rw [show (j+1).toNat=j.toNat+1 by omega]
     simp only [le]
     rw [hX,show a.toNat+j.toNat=(a+j).toNat by omega,hv]
    have hXb:=le_bd hc a.toNat j.toNat
    rw [hX] at hXb
    have HN:Hid (le c a.toNat (j+1).toNat=X+v*256 ^ j.toNat/\0<=X/\X<256 ^ j.toNat):=⟨hnext,hXb.1,hXb.2⟩
    have hpow:(2:Int) ^ (8*j).toNat=256 ^ j.toNat:=by
     rw [show (8*j).toNat=8*j.toNat by omega,Int.pow_mul];rfl
    have hor:bits .or .u64 X (IntKind.u64.wrap (v*2 ^ (8*j).toNat))=X+v*256 ^ j.toNat:=or_byte X v j j0 (by omega) HN.out.2.1 HN.out.2.2 v0 v1
    clear hpage hc hXb hX hv hnext hpow
    go_wp2
    go_round
    case rel=>exact ⟨j+1,by omega,by omega,rfl,by rw [HN.out.1]⟩
    case measure=>simp [intOf];omega
  . have e:j=m:=by omega
    subst e
    go_wp2
    go_ret
    exact ⟨rfl,rfl⟩
def cset (c:Nat->Int) (a m:Nat) (x:Int):Nat->Int:=fun i=>if a<=i/\i<a+m then x / 256 ^ (i-a) % 256 else c i
def Page (w:World) (b:Nat) (c:Nat->Int):Prop:= ∀ i,i<4096->w.cell? ⟨b,i,none⟩=some (.int .u8 (c i))/\w.frozen? ⟨b,i,none⟩=false
theorem Page.set {w:World} {b:Nat} {c c':Nat->Int} (h:Page w b c') {a m:Nat} {x:Int} (hm:a+m<4096) {v:Int} (hv:v=x / 256 ^ m % 256) (hc:Page w b (cset c a m x)) :
 Page (w.setCell ⟨b,a+m,none⟩ (.int .u8 v)) b (cset c a (m+1) x):=by
 intro i hi
 obtain ⟨h1,h2⟩:=hc i hi
 refine ⟨?_,by rw [World.frozen?_setCell];exact h2⟩
 by_cases e:i=a+m
 . subst e
   have:=(hc (a+m) hi).1
   rw [World.cell?_setCell_same' w _ _ (by rw [this];rfl)]
   unfold cset
   rw [if_pos ⟨by omega,by omega⟩,hv,show a+m-a=m by omega]
 . have hne:(⟨b,a+m,none⟩:Addr)≠⟨b,i,none⟩:=by intro k;cases k;omega
   have ho:(w.setCell ⟨b,a+m,none⟩ (.int .u8 v)).cell? ⟨b,i,none⟩=w.cell? ⟨b,i,none⟩:=World.cell?_setCell_other (h:=hne) ..
   rw [ho,h1]
   unfold cset
   by_cases c1:a<=i/\i<a+m
   . rw [if_pos c1,if_pos ⟨by omega,by omega⟩]
   . rw [if_neg c1,if_neg (by omega)]
theorem grown_set {w wr:World} {b:Nat} (h:w.grownBy wr (some b)) (o:Nat) (v:Value):w.grownBy (wr.setCell ⟨b,o,none⟩ v) (some b) :=
 ⟨h.os,h.tape,h.output,by rw [World.size_setCell];exact h.size,fun k hk hne=>by rw [Below.heap_setCell _ _ _ _ (fun e=>hne (by rw [e])),h.block k hk hne]⟩
theorem grown_drew {w wr:World} {row:Option Nat} (h:w.grownBy wr row):w.grownBy wr.drew row:=⟨h.os,h.tape,h.output,h.size,h.block⟩
theorem write_some (rb mb n b:Nat) (pg:Int->Option Nat) (c:Nat->Int) (k a m x:Int) (w:World) (k0: -9223372036854775808<=k) (k1:k<=9223372036854775807)
 (c2:w.cell? ⟨rb,2,none⟩=some (.map (some mb))) (hm:Mem w mb n pg) (hp:pg k=some b)
 (hpage:Page w b c) (a0:0<=a) (m0:0<=m) (m8:m<=8) (am:a+m<=4096) (x0:0<=x) (x1:x<18446744073709551616) :
 Calls Tryz.prog 75 #[.pointer (some ⟨rb,0,none⟩),.int .i64 k,.int .i64 a,.int .i64 m,.int .u64 x] w fun e w'=>e=.returned (.tuple #[])/\Page w' b (cset c a.toNat m.toNat x)/\w.grownBy w' (some b):=by
 have hl:=hm.look k0 k1
 rw [hp] at hl
 have hl':(Instr.lookup 193 (.map (some mb)) (.int .i64 k) false).run Tryz.prog w=.ok (.pointer (some ⟨b,0,none⟩)) w:=hl
 clear hl hp hm
 go_enter Tryz.func75,Tryz.ntmps75
 go_wp2
 go_loopw [29] (fun i wr=> ∃ j:Int,0<=j/\j<=m/\i=.int .i64 j/\Page wr b (cset c a.toNat j.toNat x)/\w.grownBy wr (some b)) (fun i _=>(m-intOf i).toNat)
 case atStart=>exact ⟨0,by omega,by omega,rfl,by intro i hi;have:=hpage i hi;unfold cset;rw [if_neg (by omega)];exact this,World.grownBy.refl _ _⟩
 case round =>
  obtain ⟨j,j0,j1,rfl,hpj,hgj⟩:=hrel
  by_cases cj:j<m
  . obtain ⟨u,hu⟩: ∃ u:Int,cset c a.toNat j.toNat x (a+j).toNat=u:=⟨_,rfl⟩
    have hcl:=hpj (a+j).toNat (by omega)
    rw [hu] at hcl
    obtain ⟨hcell,hfroz⟩:=hcl
    have hnx:Page (wr.setCell ⟨b,(a+j).toNat,none⟩ (.int .u8 (x / 2 ^ (8*j).toNat % 256))) b (cset c a.toNat (j+1).toNat x):=by
     rw [show (a+j).toNat=a.toNat+j.toNat by omega,show (j+1).toNat=j.toNat+1 by omega]
     exact Page.set hpj (by omega) (by rw [show (8*j).toNat=8*j.toNat by omega,pow256]) hpj
    have HP:Hid (Page (wr.setCell ⟨b,(a+j).toNat,none⟩ (.int .u8 (x / 2 ^ (8*j).toNat % 256))) b (cset c a.toNat (j+1).toNat x)):=hnx
    clear hnx hu hpage
    go_wp2
    go_region
    go_wp2
    go_roundw
    case rel=>exact ⟨j+1,by omega,by omega,rfl,HP.out,grown_drew (grown_set hgj _ _)⟩
    case measure=>simp [intOf];omega
  . have e:j=m:=by omega
    subst e
    go_wp2
    go_end0
    exact ⟨rfl,hpj,hgj⟩
theorem zero_run (w:World):(zeroValue 219).run Tryz.prog w=.ok (.agg (Array.replicate 4096 (.int .u8 0))) w:=ka
theorem zero_page: ∃ zs:Array Value,(∀ w:World,(zeroValue 219).run Tryz.prog w=.ok (.agg zs) w)/\ ∀ i,i<4096->zs[i]? =some (.int .u8 0) :=
 ⟨Array.replicate 4096 (.int .u8 0),zero_run,fun i hi=>by rw [Array.getElem?_replicate,if_pos hi]⟩
theorem write_none (rb mb n:Nat) (pg:Int->Option Nat) (k a m x:Int) (w:World) (k0: -9223372036854775808<=k) (k1:k<=9223372036854775807)
 (c2:w.cell? ⟨rb,2,none⟩=some (.map (some mb))) (hrb:rb<w.heap.size) (hm:Mem w mb n pg) (hn:n<maxLen) (hp:pg k=none)
 (a0:0<=a) (m0:0<=m) (m8:m<=8) (am:a+m<=4096) (x0:0<=x) (x1:x<18446744073709551616) :
 Calls Tryz.prog 75 #[.pointer (some ⟨rb,0,none⟩),.int .i64 k,.int .i64 a,.int .i64 m,.int .u64 x] w fun e w'=>e=.returned (.tuple #[]) /\
  Mem w' mb (n+1) (put pg k (some w.heap.size))/\Page w' w.heap.size (cset (fun _=>0) a.toNat m.toNat x)/\w.grownBy w' (some mb):=by
 have hl:=hm.look k0 k1
 rw [hp] at hl
 have hl':(Instr.lookup 193 (.map (some mb)) (.int .i64 k) false).run Tryz.prog w=.ok (.pointer none) w:=hl
 obtain ⟨zs,hbuild,hzs⟩:=zero_page
 have hmb:=hm.lt
 have hg0:w.grownBy (w.alloc (.cells zs 219)) none:=World.grownBy_alloc w _ none
 obtain ⟨w1,hst,hm1,hg1⟩:=(hm.kept hg0 (by simp)).store hn k0 k1 w.heap.size
 have hst':(Instr.mapUpdate 193 (.map (some mb)) (.int .i64 k) (.pointer (some ⟨w.heap.size,0,none⟩))).run Tryz.prog (w.alloc (.cells zs 219))=.ok () w1:=hst
 have hc2:(w.alloc (.cells zs 219)).cell? ⟨rb,2,none⟩=some (.map (some mb)):=by rw [World.cell?_alloc_past _ _ _ hrb];exact c2
 have hpage:Page w1 w.heap.size (fun _=>0):=by
  intro i hi
  have hb:w1.heap[w.heap.size]? =(w.alloc (.cells zs 219)).heap[w.heap.size]? :=hg1.block _ ke (by intro e;cases e;omega)
  have e1:w1.cell? ⟨w.heap.size,i,none⟩=(w.alloc (.cells zs 219)).cell? ⟨w.heap.size,i,none⟩:=World.cell?_of_block hb
  have e2:w1.frozen? ⟨w.heap.size,i,none⟩=(w.alloc (.cells zs 219)).frozen? ⟨w.heap.size,i,none⟩:=World.frozen?_of_block hb
  rw [e1,e2,World.cell?_alloc_at _ _ _ _ rfl,World.frozen?_alloc_at _ _ _ _ rfl]
  exact ⟨hzs i hi,rfl⟩
 have hgw:w.grownBy w1 (some mb):=⟨hg1.os,hg1.tape,hg1.output,by have:=hg1.size;rw [World.size_alloc] at this;omega,fun j hj hne=>by
  rw [hg1.block j ke hne];exact hg0.block j hj (by simp)⟩
 have hsz:w.heap.size<w1.heap.size:=by have:=hg1.size;rw [World.size_alloc] at this;omega
 obtain ⟨b,hb⟩: ∃ b,w.heap.size=b:=⟨_,rfl⟩
 have HB:Hid (w.heap.size=b):=hb
 have HM:Hid (Mem w1 mb (n+1) (put pg k (some b))/\w.grownBy w1 (some mb)/\mb<b/\b<w1.heap.size):=⟨by rw [<- hb];exact hm1,hgw,by omega,by omega⟩
 rw [hb] at hpage
 clear hl hp hm hm1 hg0 hg1 hst hzs hgw hsz hmb
 rw [hb] at hst' |-
 go_enter Tryz.func75,Tryz.ntmps75
 go_wp2
 go_loopw [29] (fun i wr=> ∃ j:Int,0<=j/\j<=m/\i=.int .i64 j/\Page wr b (cset (fun _=>0) a.toNat j.toNat x)/\w1.grownBy wr (some b)) (fun i _=>(m-intOf i).toNat)
 case atStart=>exact ⟨0,by omega,by omega,rfl,by intro i hi;have:=hpage i hi;unfold cset;rw [if_neg (by omega)];exact this,World.grownBy.refl _ _⟩
 case round =>
  obtain ⟨j,j0,j1,rfl,hpj,hgj⟩:=hrel
  by_cases cj:j<m
  . obtain ⟨u,hu⟩: ∃ u:Int,cset (fun _=>0) a.toNat j.toNat x (a+j).toNat=u:=⟨_,rfl⟩
    have hcl:=hpj (a+j).toNat (by omega)
    rw [hu] at hcl
    obtain ⟨hcell,hfroz⟩:=hcl
    have hnx:Page (wr.setCell ⟨b,(a+j).toNat,none⟩ (.int .u8 (x / 2 ^ (8*j).toNat % 256))) b (cset (fun _=>0) a.toNat (j+1).toNat x):=by
     rw [show (a+j).toNat=a.toNat+j.toNat by omega,show (j+1).toNat=j.toNat+1 by omega]
     exact Page.set hpj (by omega) (by rw [show (8*j).toNat=8*j.toNat by omega,pow256]) hpj
    have HP:Hid (Page (wr.setCell ⟨b,(a+j).toNat,none⟩ (.int .u8 (x / 2 ^ (8*j).toNat % 256))) b (cset (fun _=>0) a.toNat (j+1).toNat x)):=hnx
    clear hnx hu hpage hl' hst' hc2 hbuild c2
    go_wp2
    go_region
    go_wp2
    go_roundw
    case rel=>exact ⟨j+1,by omega,by omega,rfl,HP.out,grown_drew (grown_set hgj _ _)⟩
    case measure=>simp [intOf];omega
  . have e:j=m:=by omega
    subst e
    go_wp2
    go_end0
    obtain ⟨hM,hG,hlt,hlt2⟩:=HM.out
    refine ⟨rfl,hM.kept hgj (by intro e;cases e;omega),hpj,⟨?_,?_,?_,?_,?_⟩⟩
    . rw [hgj.os];exact hG.os
    . rw [hgj.tape];exact hG.tape
    . rw [hgj.output];exact hG.output
    . exact Nat.le_trans hG.size hgj.size
    . intro i hi hne
      have hib:i<b:=by rw [<- HB.out];exact hi
      rw [hgj.block i (by omega) (by intro e;cases e;omega),hG.block i hi hne]
end Go.Proofs.YtgbdnnkkcpkhdaaGreatDoor
