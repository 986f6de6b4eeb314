import Derived.Test.YtlaiadheelgbdaaGreatFVc
import Derived.Test.YtlaiadheelgbdaaGreatFWc
import Derived.Deep.Slices
import Derived.Maps.AppendAt
namespace Go.Proofs.YtlaiadheelgbdaaGreat.Fl
open Go.ChangeShapes Go.WideShapes Go.ChangeAt Go.RowKit Go.Maps
set_option linter.unusedSimpArgs false
set_option linter.unusedVariables false
set_option maxRecDepth 8000
theorem at_find: ∀ (L:List Re.Rg) (x:Int) (a b c:Bool) (k:Int),Re.atR L x=some (a,b,c,k)-> ∃ g1 g2,Re.findR L x=(⟨g1,g2,a,b,c,k⟩,true)
 | [], x, a, b, c, k, e => by cases e
 | r :: l, x, a, b, c, k, e => by
  by_cases h:r.fr<=x/\x<r.tt
  . rw [Re.atR,if_pos h] at e
    obtain ⟨f,t,ra,rb,rc,rk⟩:=r
    cases e
    exact ⟨f,t,by rw [Re.findR,if_pos h]⟩
  . rw [Re.atR,if_neg h] at e
    obtain ⟨g1,g2,q⟩:=at_find l x a b c k e
    exact ⟨g1,g2,by rw [Re.findR,if_neg h,q]⟩
theorem cnt_at: ∀ (L:List Re.Rg) (x:Int),0<Re.cntR x (x+1) L↔Re.atR L x≠none
 | [], x => by simp [Re.cntR, Re.atR]
 | r :: l, x => by
  have n:=Re.cnt_nn x (x+1) l
  have i:=cnt_at l x
  rw [Re.cntR,Re.atR]
  unfold Re.Rg.len
  by_cases h:r.fr<=x/\x<r.tt
  . rw [if_pos h,if_pos (by omega)]
    exact ⟨fun _=>(fun e=>nomatch e),fun _=>by omega⟩
  . rw [if_neg h,if_neg (by omega),Int.zero_add];exact i
theorem add_len (L:List Re.Rg) (r:Re.Rg):(Re.addL L r).length<=L.length+1:=by
 have pl: ∀ M K:List Re.Rg,(Re.preL M K).length<=M.length+K.length:=fun M K=>by
  have:=Re.pre_len M K K.length (Nat.le_refl _)
  rwa [List.take_length] at this
 unfold Re.addL
 have h1:=pl (Re.withL (Re.preL [] (L.take (Re.aheadN L r.fr))) r) (L.drop (Re.aheadN L r.fr))
 have h2:=Re.withL_len (Re.preL [] (L.take (Re.aheadN L r.fr))) r
 have h3:=pl [] (L.take (Re.aheadN L r.fr))
 rw [List.length_drop] at h1
 rw [List.length_take] at h3
 simp only [List.length_nil] at h3
 omega
def shB (m:Int) (fr:List Int) (p:Int):Bool:=fr.any fun q=>p / m==q / m
theorem sh_iff (m:Int) (fr:List Int) (p:Int):shB m fr p=true↔ ∃ q∈fr,p / m=q / m:=by
 unfold shB;rw [List.any_eq_true];simp
def costP (fr:List Int) (p:Int):Int:=4-(if shB 512 fr p then 1 else 0)-(if shB 262144 fr p then 1 else 0)-(if shB 134217728 fr p then 1 else 0)
structure Cs (fr:List Int) (i:Nat) (P:Fp) (T:Nat->Qo.Nd):Prop where
 num:P.k=1
 rng: ∀ p∈fr,0<=p/\p<34359738368
 len:fr.length<=i
 can:Re.Can 0 P.L
 top:Re.endL 0 P.L<=34359738368
 few:P.L.length<=i
 ats: ∀ x,Re.atR P.L x=if x∈fr then some (true,true,false,0) else none
 led: ∀ p,(p∈fr-> ∃ c,P.F p=some c)/\(p∉fr->P.F p=none)
 w9: ∀ n,0<(P.G 9 n).getD 0↔ ∃ q∈fr,n=q / 512
 w18: ∀ n,0<(P.G 18 n).getD 0↔ ∃ q∈fr,n=q / 262144
 w27: ∀ n,0<(P.G 27 n).getD 0↔ ∃ q∈fr,n=q / 134217728
 live:(T 1).live=true
 room:(T 1).room=998-(T 1).used
 used:1<=(T 1).used/\(T 1).used<=1+4*i
theorem Cs.start {T:Nat->Qo.Nd} (h1:(T 1).live=true) (h2:(T 1).used=1) (h3:(T 1).room=997):Cs [] 0 ⟨1,none,0,[],fun _=>none,fun _ _=>0,fun _ _=>none⟩ T :=
 ⟨rfl,by simp,by simp,trivial,by show (0:Int)<=_;omega,by simp,fun x=>by simp [Re.atR],fun p=>⟨fun h=>by simp at h,fun _=>rfl⟩,fun n=>by simp,fun n=>by simp,fun n=>by simp,h1,by omega,by omega⟩
theorem Cs.good {fr:List Int} {i:Nat} {P:Fp} {T:Nat->Qo.Nd} (h:Cs fr i P T) (hi:i<=40) {p:Int} (p0:0<=p) (p1:p<34359738368):Re.checkN P.L p (p+1)=0:=by
 unfold Re.checkN
 have r:Re.rightB p (p+1)=true:=by unfold Re.rightB;simp;omega
 rw [if_pos r,if_pos (Re.can_good h.can h.top (by have:=h.few;omega))]
theorem Cs.dup {fr:List Int} {i:Nat} {P:Fp} {T:Nat->Qo.Nd} (h:Cs fr i P T) (hi:i<=40) {p:Int} (hp:p∈fr):Re.errA (Re.addN P.L ⟨p,p+1,true,true,false,0⟩) (Re.addL P.L ⟨p,p+1,true,true,false,0⟩)=6:=by
 obtain ⟨p0,p1⟩:=h.rng p hp
 have c:0<Re.cntR p (p+1) P.L:=(cnt_at P.L p).2 (by rw [h.ats,if_pos hp];simp)
 have e:Re.addN P.L ⟨p,p+1,true,true,false,0⟩=6:=by
  unfold Re.addN
  rw [if_pos (h.good hi p0 p1),if_pos c]
 unfold Re.errA
 rw [e,if_neg (by omega)]
theorem Cs.add {fr:List Int} {i:Nat} {P:Fp} {T:Nat->Qo.Nd} (h:Cs fr i P T) (hi:i<=40) {p:Int} (p0:0<=p) (p1:p<34359738368) (hp:p∉fr) :
 Re.errA (Re.addN P.L ⟨p,p+1,true,true,false,0⟩) (Re.addL P.L ⟨p,p+1,true,true,false,0⟩)=0/\Re.outL (Re.addN P.L ⟨p,p+1,true,true,false,0⟩) (Re.addL P.L ⟨p,p+1,true,true,false,0⟩)=Re.addL P.L ⟨p,p+1,true,true,false,0⟩/\(Re.addL P.L ⟨p,p+1,true,true,false,0⟩).length<=i+1/\Re.Can 0 (Re.addL P.L ⟨p,p+1,true,true,false,0⟩)/\Re.endL 0 (Re.addL P.L ⟨p,p+1,true,true,false,0⟩)<=34359738368/\ ∀ x,Re.atR (Re.addL P.L ⟨p,p+1,true,true,false,0⟩) x=if x=p\/x∈fr then some (true,true,false,0) else none:=by
 have c: ¬ 0<Re.cntR p (p+1) P.L:=fun q=>(cnt_at P.L p).1 q (by rw [h.ats,if_neg hp])
 have e:Re.addN P.L ⟨p,p+1,true,true,false,0⟩=0:=by
  unfold Re.addN
  rw [if_pos (h.good hi p0 p1),if_neg c]
 have l:=add_len P.L ⟨p,p+1,true,true,false,0⟩
 have f:=h.few
 have ea:Re.errA (Re.addN P.L ⟨p,p+1,true,true,false,0⟩) (Re.addL P.L ⟨p,p+1,true,true,false,0⟩)=0:=by
  unfold Re.errA
  rw [e,if_pos rfl,if_pos (by omega)]
 obtain ⟨q1,q2,q3⟩:=Re.add_can h.can ⟨p,p+1,true,true,false,0⟩ p0 (show p<p+1 by omega) c
 refine ⟨ea,by unfold Re.outL;rw [if_pos ea],by omega,q1,?_,fun x=> ?_⟩
 . have t:=h.top
   have q2':Re.endL 0 (Re.addL P.L ⟨p,p+1,true,true,false,0⟩)<=max (p+1) (Re.endL 0 P.L):=q2
   omega
 . rw [q3 x]
   show (if p<=x/\x<p+1 then some (true,true,false,0) else Re.atR P.L x)=_
   by_cases d:x=p
   . rw [if_pos (by omega),if_pos (Or.inl d)]
   . rw [if_neg (by omega),h.ats]
     by_cases m:x∈fr
     . rw [if_pos m,if_pos (Or.inr m)]
     . rw [if_neg m,if_neg (by intro q;rcases q with q | q;exact d q;exact m q)]
theorem zz_of {o:Option Int} {b:Bool} (h0:0<=o.getD 0) (h:0<o.getD 0↔b=true):zz o=1-(if b then 1 else 0):=by
 unfold zz
 cases b
 . rw [if_pos (by
    have: ¬ 0<o.getD 0:=fun q=>by cases h.1 q
    omega)];rfl
 . rw [if_neg (by have:=h.2 rfl;omega)];rfl
theorem Cs.cost {fr:List Int} {i:Nat} {P:Fp} {T:Nat->Qo.Nd} (h:Cs fr i P T) (p:Int) (wb: ∀ a b,0<=(P.G a b).getD 0):costN (p / 512) (p / 262144) (p / 134217728) P.G 3=costP fr p:=by
 have a1:=zz_of (b:=shB 512 fr p) (wb 9 (p / 512)) ((h.w9 _).trans (sh_iff 512 fr p).symm)
 have a2:=zz_of (b:=shB 262144 fr p) (wb 18 (p / 262144)) ((h.w18 _).trans (sh_iff 262144 fr p).symm)
 have a3:=zz_of (b:=shB 134217728 fr p) (wb 27 (p / 134217728)) ((h.w27 _).trans (sh_iff 134217728 fr p).symm)
 show 1+zz (P.G 9 (p / 512))+zz (P.G 18 (p / 262144))+zz (P.G 27 (p / 134217728))=_
 unfold costP
 rw [a1,a2,a3]
 omega
theorem costP_bd (fr:List Int) (p:Int):1<=costP fr p/\costP fr p<=4:=by
 unfold costP
 split <;> split <;> split <;> omega
theorem Cs.may {fr:List Int} {i:Nat} {P:Fp} {T:Nat->Qo.Nd} (h:Cs fr i P T) (hi:i<=40) (p:Int):Qo.mayN T 1 (costP fr p)=0/\Qo.getN T 1=T 1:=by
 have g:Qo.getN T 1=T 1:=by unfold Qo.getN;rw [if_pos ⟨by omega,by omega⟩];rfl
 have b:=costP_bd fr p
 have r:=h.room
 have u:=h.used
 refine ⟨?_,g⟩
 unfold Qo.mayN
 rw [g,h.live,if_neg (by decide),if_neg (by omega),if_neg (by omega)]
theorem Cs.later {fr:List Int} {i:Nat} {P:Fp} {T:Nat->Qo.Nd} (h:Cs fr i P T):Cs fr (i+1) P T :=
 ⟨h.num,h.rng,by have:=h.len;omega,h.can,h.top,by have:=h.few;omega,h.ats,h.led,h.w9,h.w18,h.w27,h.live,h.room,by have:=h.used;omega⟩
end Go.Proofs.YtlaiadheelgbdaaGreat.Fl
namespace Go.Proofs.YtlaiadheelgbdaaGreat.Fl
open Go.ChangeShapes Go.WideShapes Go.ChangeAt Go.RowKit Go.Maps
set_option linter.unusedSimpArgs false
set_option linter.unusedVariables false
set_option maxRecDepth 8000
theorem wf_four (a b c d:Int) (ha:0<=a/\a<18446744073709551616) (hb:0<=b/\b<18446744073709551616) (hc:0<=c/\c<18446744073709551616) (hd:0<=d/\d<18446744073709551616):(Ca.Wd.mk a b c d 0 0).wf:=fun k=>by
 match k with
 | 0 => exact ha
 | 1 => exact hb
 | 2 => exact hc
 | 3 => exact hd
 | 4 => show (0 : Int) ≤ 0 ∧ (0 : Int) < _; omega
 | 5 => show (0 : Int) ≤ 0 ∧ (0 : Int) < _; omega
 | k + 6 =>
  have:(Ca.Wd.mk a b c d 0 0).at (k+6)=0:=by simp [Ca.Wd.at,Ca.Wd.list]
  rw [this];omega
theorem call_one (p:Int) (p1:p<34359738368):Ca.callV ⟨1,p,1,1,0,0⟩=some (⟨1,p,p+1,true,true,false,0,0,0,0,0,0,0⟩,4):=by
 have c:Ca.pagesOk p 1/\(1:Int)<4:=⟨by unfold Ca.pagesOk;omega,by omega⟩
 show (if (1:Int)=1 then (if Ca.pagesOk p 1/\(1:Int)<4 then some ((⟨1,p,p+1,Ca.permW 1,true,Ca.permX 1,0,0,0,0,0,0,0⟩:Ca.Cl),4) else none) else _)=_
 rw [if_pos rfl,if_pos c];rfl
theorem call_five (p x:Int) (p0:0<=p) (p1:p<34359738368) (x1:x<100):Ca.callV ⟨5,p*4096,8,x,0,0⟩=some (⟨5,0,0,false,false,false,p*4096,8,x,0,0,0,0⟩,4):=by
 have c:Ca.spotOk (p*4096) 8:=by unfold Ca.spotOk;omega
 have c2:((8:Int)=1/\x<256)\/((8:Int)=2/\x<65536)\/((8:Int)=4/\x<4294967296)\/((8:Int)=8/\x<18446744073709551616):=by omega
 unfold Ca.callV
 have a0:(Ca.Wd.mk 5 (p*4096) 8 x 0 0).at 0=5:=rfl
 have a1:(Ca.Wd.mk 5 (p*4096) 8 x 0 0).at 1=p*4096:=rfl
 have a2:(Ca.Wd.mk 5 (p*4096) 8 x 0 0).at 2=8:=rfl
 have a3:(Ca.Wd.mk 5 (p*4096) 8 x 0 0).at 3=x:=rfl
 have n: ∀ k:Int,k≠5-> ¬ (5:Int)=k:=fun k h q=>h q.symm
 rw [a0,a1,a2,a3,if_neg (by omega),if_neg (by omega),if_neg (by omega),if_neg (by omega),if_neg (by omega),if_neg (by omega),if_neg (by omega),if_neg (by omega),if_neg (by omega),if_neg (by omega),if_neg (by omega),if_neg (by omega),if_neg (by omega),if_neg (by omega),if_neg (by omega),if_pos rfl,if_pos c,if_pos c2]
def Fs (M:Fb) (fr:List Int) (i:Nat) (u:Int) (O:Nat->Nat) (W:World):Prop:= ∃ n T P,Fm O n W M ⟨1,0,[0]⟩ T 1000 P/\Cs fr i P T/\n<=1+6*i/\(T 1).used=u
def Fh (M:Fb) (fr:List Int) (p:Int) (i:Nat) (u:Int) (O:Nat->Nat) (W:World):Prop:= ∃ n T P p' c',Fm O n W M ⟨1,0,[0]⟩ T 1000 { P with rp:=p',rc:=c',L:=Re.addL P.L ⟨p,p+1,true,true,false,0⟩ }/\Cs fr i P T/\n<=1+6*i/\(T 1).used=u
theorem Fs.keep {O:Nat->Nat} {W:World} {M:Fb} {fr:List Int} {i:Nat} {u:Int} {W':World} (h:Fs M fr i u O W) (hs:W.heap.size<=W'.heap.size) (hk: ∀ j,O j≠0->W'.heap[j]? =W.heap[j]?):Fs M fr i u O W':=by
 obtain ⟨n,T,P,hF,r⟩:=h
 exact ⟨n,T,P,hF.keep hs hk,r⟩
theorem Fs.lt {O:Nat->Nat} {W:World} {M:Fb} {fr:List Int} {i:Nat} {u:Int} (h:Fs M fr i u O W): ∀ j,O j≠0->j<W.heap.size:=by
 obtain ⟨n,T,P,hF,r⟩:=h
 exact hF.lt
theorem Fs.below {O:Nat->Nat} {W:World} {M:Fb} {fr:List Int} {i:Nat} {u:Int} {W':World} (h:Fs M fr i u O W) (hb:Below W.heap.size W W'):Fs M fr i u O W':=h.keep hb.size fun j hj=>hb.block j (h.lt j hj)
theorem Fh.below {O:Nat->Nat} {W:World} {M:Fb} {fr:List Int} {i:Nat} {u:Int} {p:Int} {W':World} (h:Fh M fr p i u O W) (hb:Below W.heap.size W W'):Fh M fr p i u O W':=by
 obtain ⟨n,T,P,p',c',hF,r⟩:=h
 exact ⟨n,T,P,p',c',hF.below hb,r⟩
theorem Fs.later {O:Nat->Nat} {W:World} {M:Fb} {fr:List Int} {i:Nat} {u:Int} (h:Fs M fr i u O W):Fs M fr (i+1) u O W:=by
 obtain ⟨n,T,P,hF,hC,hn,hu⟩:=h
 exact ⟨n,T,P,hF,hC.later,by omega,hu⟩
theorem st_used {O:Nat->Nat} {W:World} {M:Fb} {fr:List Int} {i:Nat} {u:Int} (h:Fs M fr i u O W) (hi:i<=40):Calls Tryz.prog 9 #[pp M.mb,.int .i64 0] W fun e w'=>e=.returned (.int .i64 u)/\Below W.heap.size W w':=by
 obtain ⟨n,T,P,hF,hC,hn,hu⟩:=h
 refine Calls.mono (used_ok hF) ?_
 rintro e w' ⟨he,hb⟩
 refine ⟨he.trans ?_,hb⟩
 rw [hC.num,(hC.may hi 0).2,hu]
theorem sh_used {O:Nat->Nat} {W:World} {M:Fb} {fr:List Int} {i:Nat} {u:Int} {p:Int} (h:Fh M fr p i u O W) (hi:i<=40):Calls Tryz.prog 9 #[pp M.mb,.int .i64 0] W fun e w'=>e=.returned (.int .i64 u)/\Below W.heap.size W w':=by
 obtain ⟨n,T,P,p',c',hF,hC,hn,hu⟩:=h
 refine Calls.mono (used_ok hF) ?_
 rintro e w' ⟨he,hb⟩
 refine ⟨he.trans ?_,hb⟩
 show Ending.returned (.int .i64 (Qo.getN T P.k).used)=_
 rw [hC.num,(hC.may hi 0).2,hu]
theorem st_dup {O:Nat->Nat} {W:World} {M:Fb} {fr:List Int} {i:Nat} {u:Int} (p:Int) (p0:0<=p) (p1:p<34359738368) (hi:i<40) (hp:p∈fr) (h:Fs M fr i u O W):Calls Tryz.prog 5 #[pp M.mb,.agg #[.int .u64 1,.int .u64 p,.int .u64 1,.int .u64 1,.int .u64 0,.int .u64 0]] W fun e w'=>e=.returned (.agg #[.int .i64 0,.int .u64 0,.int .i64 6,.int .u64 0,.int .i64 0,.bool false])/\Tx O W (Fs M fr i u) w':=by
 obtain ⟨n,T,P,hF,hC,hn,hu⟩:=h
 refine Calls.mono (do_map_no hF rfl ⟨1,p,1,1,0,0⟩ (wf_four 1 p 1 1 (by omega) (by omega) (by omega) (by omega)) p (p+1) true true false 0 0 0 0 0 0 0 4 (call_one p p1) (by omega) (fun j h1 h2=>by
  have:j=4\/j=5:=by omega
  rcases this with rfl | rfl <;> rfl) 6 (by omega) (hC.dup (by omega) hp)) ?_
 rintro e w' ⟨he,O',q,r⟩
 exact ⟨he,O',⟨n,T,P,q,hC,hn,hu⟩,r⟩
theorem st_map {O:Nat->Nat} {W:World} {M:Fb} {fr:List Int} {i:Nat} {u:Int} (p:Int) (p0:0<=p) (p1:p<34359738368) (hi:i<40) (hp:p∉fr) (h:Fs M fr i u O W):Calls Tryz.prog 5 #[pp M.mb,.agg #[.int .u64 1,.int .u64 p,.int .u64 1,.int .u64 1,.int .u64 0,.int .u64 0]] W fun e w'=>e=.returned (.agg #[.int .i64 0,.int .u64 0,.int .i64 0,.int .u64 0,.int .i64 0,.bool false])/\Tx O W (Fh M fr p i u) w':=by
 obtain ⟨n,T,P,hF,hC,hn,hu⟩:=h
 obtain ⟨a1,a2,a3,_⟩:=hC.add (show i<=40 by omega) p0 p1 hp
 refine Calls.mono (do_map hF rfl ⟨1,p,1,1,0,0⟩ (wf_four 1 p 1 1 (by omega) (by omega) (by omega) (by omega)) p (p+1) true true false 0 0 0 0 0 0 0 4 (call_one p p1) (by omega) (fun j h1 h2=>by
  have:j=4\/j=5:=by omega
  rcases this with rfl | rfl <;> rfl) (Re.addL P.L ⟨p,p+1,true,true,false,0⟩) a1 a2 (by omega)) ?_
 rintro e w' ⟨he,O',⟨p',c',q⟩,r⟩
 exact ⟨he,O',⟨n,T,P,p',c',q,hC,hn,hu⟩,r⟩
theorem st_old {O:Nat->Nat} {W:World} {M:Fb} {fr:List Int} {i:Nat} {u:Int} (p:Int) (p0:0<=p) (p1:p<34359738368) (hi:i<40) (hp:p∈fr) (h:Fs M fr i u O W):Calls Tryz.prog 5 #[pp M.mb,.agg #[.int .u64 5,.int .u64 (p*4096),.int .u64 8,.int .u64 i,.int .u64 0,.int .u64 0]] W fun e w'=>e=.returned (.agg #[.int .i64 0,.int .u64 0,.int .i64 0,.int .u64 0,.int .i64 0,.bool false])/\Tx O W (Fs M fr i u) w':=by
 obtain ⟨n,T,P,hF,hC,hn,hu⟩:=h
 obtain ⟨g1,g2,hf⟩:=at_find P.L p true true false 0 (by rw [hC.ats,if_pos hp])
 obtain ⟨c,hc⟩:=(hC.led p).1 hp
 refine Calls.mono (do_store hF rfl ⟨5,p*4096,8,i,0,0⟩ (wf_four 5 (p*4096) 8 i (by omega) (by omega) (by omega) (by omega)) 0 0 false false false (p*4096) 8 i 0 0 0 0 4 (call_five p i p0 p1 (by omega)) (by omega) (fun j h1 h2=>by
  have:j=4\/j=5:=by omega
  rcases this with rfl | rfl <;> rfl) p (by omega) (by omega) (by omega) (by omega) (by omega) (by omega) (by omega) (by omega) g1 g2 0 false hf c hc) ?_
 rintro e w' ⟨he,O',q,r⟩
 exact ⟨he,O',⟨n,T,_,q,⟨hC.num,hC.rng,hC.len,hC.can,hC.top,hC.few,hC.ats,hC.led,hC.w9,hC.w18,hC.w27,hC.live,hC.room,hC.used⟩,hn,hu⟩,r⟩
theorem bump_at (G:Wy) (a b x y:Int):(bump G a b x y).getD 0=if x=a/\y=b then (G a b).getD 0+1 else (G x y).getD 0:=by
 unfold bump Wy.set
 by_cases h:x=a/\y=b
 . rw [if_pos h,if_pos h];rfl
 . rw [if_neg h,if_neg h,if_neg h]
theorem way_more {fr:List Int} {g g':Int} {m n p:Int} (h:0<g↔ ∃ q∈fr,n=q / m) (h0:0<=g) (e:g'=if n=p / m then g+1 else g):0<g'↔ ∃ q∈fr++[p],n=q / m:=by
 by_cases c:n=p / m
 . rw [if_pos c] at e
   exact ⟨fun _=>⟨p,by simp,c⟩,fun _=>by omega⟩
 . rw [if_neg c] at e
   rw [e,h]
   refine ⟨fun ⟨q,hq,eq⟩=>⟨q,List.mem_append_left _ hq,eq⟩,fun ⟨q,hq,eq⟩=> ?_⟩
   rcases List.mem_append.1 hq with hq | hq
   . exact ⟨q,hq,eq⟩
   . rw [List.mem_singleton] at hq;rw [hq] at eq;exact absurd eq c
theorem Cs.next {fr:List Int} {i:Nat} {P:Fp} {T:Nat->Qo.Nd} (h:Cs fr i P T) (p:Int) (p0:0<=p) (p1:p<34359738368) (hi:i<40) (hp:p∉fr) (wb: ∀ a b,0<=(P.G a b).getD 0) (p':Option Addr) (c' c:Nat) (B:Nat->Nat->Int) :
 Cs (fr++[p]) (i+1) { P with rp:=p',rc:=c',L:=Re.addL P.L ⟨p,p+1,true,true,false,0⟩,F:=put P.F p (some c),B:=B,G:=bumpN (p / 512) (p / 262144) (p / 134217728) P.G 3 } (Qo.chargeT T 1 (costP fr p))/\(Qo.chargeT T 1 (costP fr p) 1).used=(T 1).used+costP fr p:=by
 obtain ⟨_,_,a3,a4,a5,a6⟩:=h.add (show i<=40 by omega) p0 p1 hp
 have my:=h.may (show i<=40 by omega) p
 have cb:=costP_bd fr p
 have T1:Qo.chargeT T 1 (costP fr p) 1=(T 1).plus (costP fr p):=by
  unfold Qo.chargeT
  rw [if_pos my.1]
  exact Qo.put_same _ _ _
 have b3: ∀ x y,(bumpN (p / 512) (p / 262144) (p / 134217728) P.G 3 x y).getD 0=if x=27/\y=p / 134217728 then (bump (bump P.G 9 (p / 512)) 18 (p / 262144) 27 (p / 134217728)).getD 0+1 else (bump (bump P.G 9 (p / 512)) 18 (p / 262144) x y).getD 0:=fun x y=>bump_at _ _ _ _ _
 refine ⟨⟨h.num,?_,?_,a4,a5,a3,?_,?_,?_,?_,?_,?_,?_,?_⟩,?_⟩
 . intro q hq
   rcases List.mem_append.1 hq with hq | hq
   . exact h.rng q hq
   . rw [List.mem_singleton] at hq;rw [hq];exact ⟨p0,p1⟩
 . have:=h.len;simp;omega
 . intro x
   show Re.atR (Re.addL P.L ⟨p,p+1,true,true,false,0⟩) x=_
   rw [a6 x]
   by_cases d:x=p\/x∈fr
   . rw [if_pos d,if_pos (by rcases d with d | d;simp [d];exact List.mem_append_left _ d)]
   . rw [if_neg d,if_neg (by
      intro q
      rcases List.mem_append.1 q with q | q
      exact d (Or.inr q)
      rw [List.mem_singleton] at q;exact d (Or.inl q))]
 . intro x
   show (x∈fr++[p]-> ∃ c0,put P.F p (some c) x=some c0)/\(x∉fr++[p]->put P.F p (some c) x=none)
   unfold put
   by_cases d:x=p
   . rw [if_pos d];exact ⟨fun _=>⟨c,rfl⟩,fun q=>absurd (by simp [d]) q⟩
   . rw [if_neg d]
     refine ⟨fun q=>(h.led x).1 ?_,fun q=>(h.led x).2 fun z=>q (List.mem_append_left _ z)⟩
     rcases List.mem_append.1 q with q | q
     . exact q
     . rw [List.mem_singleton] at q;exact absurd q d
 . intro n
   refine way_more (h.w9 n) (wb _ _) ?_
   rw [b3,if_neg (by omega),bump_at,if_neg (by omega),bump_at]
   by_cases d:n=p / 512
   . rw [if_pos ⟨rfl,d⟩,if_pos d,d]
   . rw [if_neg (fun q=>d q.2),if_neg d]
 . intro n
   refine way_more (h.w18 n) (wb _ _) ?_
   rw [b3,if_neg (by omega),bump_at]
   by_cases d:n=p / 262144
   . rw [if_pos ⟨rfl,d⟩,if_pos d,d,bump_at,if_neg (by omega)]
   . rw [if_neg (fun q=>d q.2),if_neg d,bump_at,if_neg (by omega)]
 . intro n
   refine way_more (h.w27 n) (wb _ _) ?_
   rw [b3]
   by_cases d:n=p / 134217728
   . rw [if_pos ⟨rfl,d⟩,if_pos d,d,bump_at,if_neg (by omega),bump_at,if_neg (by omega)]
   . rw [if_neg (fun q=>d q.2),if_neg d,bump_at,if_neg (by omega),bump_at,if_neg (by omega)]
 . rw [T1];exact h.live
 . rw [T1]
   have r:=h.room
   show (T 1).quota-((T 1).used+costP fr p)-(T 1).lent=998-((T 1).used+costP fr p)
   unfold Qo.Nd.room at r;omega
 . rw [T1]
   have r:=h.used
   show 1<=(T 1).used+costP fr p/\(T 1).used+costP fr p<=1+4*((i+1:Nat):Int)
   omega
 . rw [T1];rfl
theorem sh_new {O:Nat->Nat} {W:World} {M:Fb} {fr:List Int} {i:Nat} {u:Int} (p:Int) (p0:0<=p) (p1:p<34359738368) (hi:i<40) (hp:p∉fr) (h:Fh M fr p i u O W):Calls Tryz.prog 5 #[pp M.mb,.agg #[.int .u64 5,.int .u64 (p*4096),.int .u64 8,.int .u64 i,.int .u64 0,.int .u64 0]] W fun e w'=>e=.returned (.agg #[.int .i64 0,.int .u64 0,.int .i64 0,.int .u64 0,.int .i64 0,.bool false])/\Tx O W (Fs M (fr++[p]) (i+1) (u+costP fr p)) w':=by
 obtain ⟨n,T,P,p',c',hF,hC,hn,hu⟩:=h
 obtain ⟨_,_,_,_,_,a6⟩:=hC.add (show i<=40 by omega) p0 p1 hp
 obtain ⟨g1,g2,hf⟩:=at_find (Re.addL P.L ⟨p,p+1,true,true,false,0⟩) p true true false 0 (by rw [a6,if_pos (Or.inl rfl)])
 have wb: ∀ a b,0<=(P.G a b).getD 0:=fun a b=>(hF.wbd a b).1
 have hc:costN (p / 512) (p / 262144) (p / 134217728) P.G 3=costP fr p:=hC.cost p wb
 have my:=(hC.may (show i<=40 by omega) p).1
 refine Calls.mono (do_new hF rfl ⟨5,p*4096,8,i,0,0⟩ (wf_four 5 (p*4096) 8 i (by omega) (by omega) (by omega) (by omega)) 0 0 false false false (p*4096) 8 i 0 0 0 0 4 (call_five p i p0 p1 (by omega)) (by omega) (fun j h1 h2=>by
  have:j=4\/j=5:=by omega
  rcases this with rfl | rfl <;> rfl) p (by omega) (by omega) (by omega) (by omega) (by omega) (by omega) (by omega) (by omega) g1 g2 0 false hf ((hC.led p).2 hp) (by show Qo.mayN T P.k (costN (p / 512) (p / 262144) (p / 134217728) P.G 3)=0;rw [hc,hC.num];exact my) (by omega)) ?_
 rintro e w' ⟨he,O',⟨c,q⟩,r⟩
 have q2:Fm O' (n+6) w' M ⟨1,0,[0]⟩ (Qo.chargeT T P.k (costN (p / 512) (p / 262144) (p / 134217728) P.G 3)) 1000 _:=q
 have ek:Qo.chargeT T P.k (costN (p / 512) (p / 262144) (p / 134217728) P.G 3)=Qo.chargeT T 1 (costP fr p):=by rw [hc,hC.num]
 rw [ek] at q2
 obtain ⟨x1,x2⟩:=hC.next p p0 p1 hi hp wb p' c' c _
 exact ⟨he,O',⟨n+6,_,_,q2,x1,by omega,x2.trans (by rw [hu])⟩,r⟩
end Go.Proofs.YtlaiadheelgbdaaGreat.Fl
namespace Go.Proofs.YtlaiadheelgbdaaGreat.Fl
open Go.ChangeShapes Go.WideShapes Go.ChangeAt Go.RowKit Go.Maps
set_option linter.unusedSimpArgs false
set_option linter.unusedVariables false
set_option maxRecDepth 8000
theorem cellsI:Tryz.prog.cellsOf 3=1:=by kernel_rfl
def IsInts (w:World) (p:Option Addr) (n:Nat) (A:Nat->Int):Prop:= ∀ i,i<n-> ∃ b o,p=some ⟨b,o,none⟩/\b<w.heap.size/\w.cell? ⟨b,o+i,none⟩=some (.int .i64 (A i))/\(Lit.int .i64 (A i)).wf=true
theorem open_ints {H:Type} {enc:TypeId × Value->H} {W:World} {base:Nat} {sp:Nat->Bool} {held:Bool} {v:Value} {x:DataW H} {ps:List MemPlace} {r:Reach} {b0:Nat}
 (hv:Value.okWide Tryz.prog W r b0 44 v) (h:DataW.Trod enc Tryz.prog W base sp held 44 v x ps) :
 ∃ (p:Option Addr) (n c:Nat) (A:Nat->Int),v=.slice p n c/\n<=maxLen/\IsInts W p n A:=by
 obtain ⟨a',l',c',rfl⟩:=okWide_slice Tryz.underlying44 hv
 obtain ⟨fuel,hf⟩:=h
 rcases Go.Deep.open_slice Tryz.underlying44 hf with ⟨e,_⟩ | ⟨a,len,cap,m,k,D,Pl,e,hb,hl,hm,hmm,hx,hel⟩
 . have e':Value.slice a' l' c'=.slice none 0 0:=(List.cons.inj (show [Value.slice a' l' c']=[.slice none 0 0] from e)).1
   exact ⟨none,0,0,fun _=>0,e',by omega,fun i hi=>absurd hi (Nat.not_lt_zero _)⟩
 . have e':Value.slice a' l' c'=.slice (some a) len cap:=(List.cons.inj (show [Value.slice a' l' c']=[.slice (some a) len cap] from e)).1
   have hlm:len<=m:=by rw [hmm];split <;> omega
   rw [e']
   have each: ∀ i,i<len-> ∃ q:Int,a.spot=none/\a.block<W.heap.size/\W.cell? ⟨a.block,a.off+i,none⟩=some (.int .i64 q)/\(Lit.int .i64 q).wf=true:=fun i hi=>by
    obtain ⟨cs',h1,h2⟩:=hel i (by omega)
    obtain ⟨c2',h3,_⟩:=hel 0 (by omega)
    rw [cellsI] at h1 h3
    obtain ⟨_,hlen,hcell⟩:=World.cells?_some h1
    obtain ⟨_,hlen3,hcell3⟩:=World.cells?_some h3
    have hspot:a.spot=none:=by
     have:=hcell3 0 (by omega)
     simpa [Addr.add] using World.cell?_spot (this.trans (List.getElem?_eq_getElem (by omega)))
    obtain ⟨q1,e1,_,w1⟩:=DataW.trod_int Tryz.underlying3 h2
    have ad:(a.add (i*1)).add 0=⟨a.block,a.off+i,none⟩:=by
     rw [Go.Deep.add_add]
     unfold Addr.add
     by_cases c:i*1+0=0
     . rw [if_pos c]
       have:i=0:=by omega
       obtain ⟨bb,oo,ss⟩:=a
       simp only at hspot
       subst hspot
       simp [this]
     . rw [if_neg c];simp;try omega
    have c1:=hcell 0 (by omega)
    rw [ad,e1] at c1
    have c2:W.cell? ⟨a.block,a.off+i,none⟩=some (.int .i64 q1):=c1
    exact ⟨q1,hspot,(by have:=lt_of_cell c2;exact this),c2,w1⟩
   obtain ⟨q,hq⟩:=Go.Deep.choose_lt each
   refine ⟨some a,len,cap,q,rfl,by omega,fun i hi=> ?_⟩
   obtain ⟨s,l,c1,w1⟩:=hq i hi
   obtain ⟨bb,oo,ss⟩:=a
   simp only at s
   subst s
   exact ⟨bb,oo,rfl,l,c1,w1⟩
def encI (L:List Int):List Value:=L.map (fun x=>Value.int .i64 x)
theorem encI_app (L M:List Int):encI (L++M)=encI L++encI M:=by unfold encI;rw [List.map_append]
theorem int_info5:(Tryz.prog.info? 3).map (fun i=>(i.zero,i.size,i.bytes))=some (some (.int .i64 0),1,8):=by kernel_rfl
def OwnI (w:World) (base:Nat) (v:Value) (L:List Int):Prop:=w.ownsRow base 3 1 v L.length (encI L)
def IsI (w:World) (base:Nat) (p:Option Addr) (L:List Int):Prop:= ∀ i,i<L.length-> ∃ g,p=some ⟨g,0,none⟩/\base<=g/\g<w.heap.size/\w.cell? ⟨g,i,none⟩=some (.int .i64 (L.getD i 0))
theorem owni_read {w:World} {base:Nat} {v:Value} {L:List Int} (h:OwnI w base v L): ∃ p c,v=.slice p L.length c/\IsI w base p L:=by
 obtain ⟨h1,h2 | ⟨g,cap,cur,e1,e2,e3,e4,e5,e6,e7⟩⟩:=h
 . refine ⟨none,0,by rw [h2.1,h2.2],fun i hi=> ?_⟩
   rw [h2.2] at hi;exact absurd hi (Nat.not_lt_zero _)
 . refine ⟨_,cap,e1,fun i hi=>⟨g,rfl,e2,(Array.getElem?_eq_some_iff.1 e3).1,?_⟩⟩
   rw [Go.Joins.cell_of_block e3 _]
   have:(cur.toList.take (L.length*1))[i]? =(encI L)[i]? :=by rw [e7]
   rw [List.getElem?_take,if_pos (by omega),Array.getElem?_toList] at this
   rw [this]
   unfold encI
   simp [List.getD,List.getElem?_eq_getElem hi]
theorem OwnI.next {w:World} {base:Nat} {v:Value} {L:List Int} {x:Int} (h:w.ownsRow base 3 1 v (L.length+1) (encI L++[.int .i64 x])):OwnI w base v (L++[x]):=by
 unfold OwnI;rw [encI_app,List.length_append];exact h
theorem OwnI.lt {w:World} {base:Nat} {v:Value} {L:List Int} (h:OwnI w base v L): ∀ j,v.ownBlock=some j->j<w.heap.size:=by
 obtain ⟨h1,h2 | ⟨g,cap,cur,e1,e2,e3,_⟩⟩:=h
 . intro j hj;rw [h2.1] at hj;cases hj
 . intro j hj;rw [e1] at hj;cases hj;exact (Array.getElem?_eq_some_iff.1 e3).1
theorem one_new {w:World} {b:Nat} {x:Int} (h:w.cell? ⟨b,0,none⟩=some (.int .i64 x)): ∀ j u,([.int .i64 x]:List Value)[j]? =some u->w.cell? ((⟨b,0,none⟩:Addr).add j)=some u:=by
 intro j u hu
 cases j with
 | zero => cases hu; rw [Addr.add_mid]; exact h
 | succ j => simp at hu
theorem one_one (x:Int): ∀ u∈([.int .i64 x]:List Value),u.oneCell'=true:=by
 intro u hu
 simp at hu
 subst hu;rfl
theorem takeI (l:List Int) (i:Nat) (h:i<l.length):l.take (i+1)=l.take i++[l.getD i 0]:=by
 rw [List.take_add_one,List.getElem?_eq_getElem h]
 have:l.getD i 0=l[i]:=by rw [List.getD,List.getElem?_eq_getElem h];rfl
 rw [this];rfl
theorem own1' (w:World) (o:Obj):(w.alloc o).heap[w.heap.size]? =some o:=by
 rw [show (w.alloc o).heap=w.heap.push o from rfl];simp
theorem starti (w:World):OwnI (w.alloc (.cells #[] 3)) w.heap.size (.slice (some ⟨w.heap.size,0,none⟩) 0 0) []:=⟨rfl,Or.inr ⟨w.heap.size,0,#[],rfl,Nat.le_refl _,own1' w _,by simp,by simp,rfl,rfl⟩⟩
theorem OwnI.same {w w':World} {base:Nat} {v:Value} {L:List Int} (h:OwnI w base v L) (e: ∀ g,v.ownBlock=some g->w'.heap[g]? =w.heap[g]?):OwnI w' base v L:=by
 obtain ⟨h1,h2 | ⟨g,cap,cur,e1,e2,e3,e4⟩⟩:=h
 . exact ⟨h1,Or.inl h2⟩
 . exact ⟨h1,Or.inr ⟨g,cap,cur,e1,e2,(e g (by rw [e1];rfl)).trans e3,e4⟩⟩
def Fr (O:Nat->Nat) (w:World) (v:Value) (L:List Int):Prop:=OwnI w 0 v L/\ ∀ g,v.ownBlock=some g->O g=0
theorem Fr.on {O O':Nat->Nat} {W V:World} {v:Value} {L:List Int} (h:Fr O W v L) (e: ∀ j,j<W.heap.size->O' j=O j) (k:Ko O W V):Fr O' V v L :=
 ⟨h.1.same fun g hg=>k.block g ⟨h.2 g hg,h.1.lt g hg⟩,fun g hg=>(e g (h.1.lt g hg)).trans (h.2 g hg)⟩
theorem Fr.below {O:Nat->Nat} {V V':World} {v:Value} {L:List Int} (h:Fr O V v L) (hb:Below V.heap.size V V'):Fr O V' v L:=⟨h.1.same fun g hg=>hb.block g (h.1.lt g hg),h.2⟩
theorem sh_take (m:Int) (fr:List Int) (p:Int) (i:Nat) (h:i<fr.length):shB m (fr.take (i+1)) p=(shB m (fr.take i) p || decide (p / m=fr.getD i 0 / m)):=by
 unfold shB
 rw [takeI fr i h,List.any_append]
 simp [List.any_cons,List.any_nil]
 rfl
def inB (fr:List Int) (p:Int):Bool:=fr.any fun q=>p==q
theorem in_iff (fr:List Int) (p:Int):inB fr p=true↔p∈fr:=by
 unfold inB;rw [List.any_eq_true];simp
theorem in_take (fr:List Int) (p:Int) (i:Nat) (h:i<fr.length):inB (fr.take (i+1)) p=(inB (fr.take i) p || decide (p=fr.getD i 0)):=by
 unfold inB
 rw [takeI fr i h,List.any_append]
 simp [List.any_cons,List.any_nil]
 rfl
def byV:Nat->Int
 | 0 => 9
 | 1 => 18
 | _ => 27
def byM:Nat->Int
 | 0 => 512
 | 1 => 262144
 | _ => 134217728
def costQ (fr:List Int) (p:Int):Nat->Int
 | 0 => 4
 | k + 1 => costQ fr p k - (if shB (byM k) fr p then 1 else 0)
theorem costQ_three (fr:List Int) (p:Int):costQ fr p 3=costP fr p:=rfl
theorem costQ_bd (fr:List Int) (p:Int): ∀ k,4-k<=costQ fr p k/\costQ fr p k<=4
 | 0 => by simp [costQ]
 | k + 1 => by
  have:=costQ_bd fr p k
  unfold costQ
  split <;> omega
end Go.Proofs.YtlaiadheelgbdaaGreat.Fl
