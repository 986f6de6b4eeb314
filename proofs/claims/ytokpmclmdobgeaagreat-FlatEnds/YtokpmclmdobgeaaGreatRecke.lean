import Derived.Test.YtokpmclmdobgeaaGreatFlte
set_option maxHeartbeats 400000
open Go.ChangeShapes Go.WideShapes Go.ChangeAt Go.RowKit
open FltM
namespace Go.Proofs.YtokpmclmdobgeaaGreat.Tr
theorem reckon_nan (op:Int) (a b:Int) (ha0:0<=a) (ha1:a<18446744073709551616) (hb0:0<=b) (hb1:b<18446744073709551616) (w:World)
 (h:9218868437227405312<rg a.toNat\/9218868437227405312<rg b.toNat) :
 Calls Tryz.prog 117 #[.int .i64 op,.int .u64 a,.int .u64 b] w fun e w'=>e=.returned (.int .u64 (reck op a.toNat b.toNat))/\w'=w:=by
 have hr0:reck op a.toNat b.toNat=9221120237041090560:=by unfold reck;rw [if_pos h];rfl
 have hr:Hid (reck op a.toNat b.toNat=9221120237041090560):=hr0
 clear hr0
 by_cases n1:9218868437227405312<rg a.toNat
 . have q1:=cls_yes n1
   clear h n1
   go_enter Tryz.func117,Tryz.ntmps117
   go_wp2_with (first | (go_at_call_of 120 (Value.int IntKind.u64 a);refine (class_any _ ha0 ha1 _).mono ?_;rintro e w' ⟨rfl,rfl⟩) | (go_at_call_of 120 (Value.int IntKind.u64 b);refine (class_any _ hb0 hb1 _).mono ?_;rintro e w' ⟨rfl,rfl⟩) | (go_at_call 122;refine (isnan_any _ _).mono ?_;rintro e w' ⟨rfl,rfl⟩))
   go_ret
   exact ⟨ret_int (by rw [hr.out];rfl),rfl⟩
 . have q1:=cls_no n1
   have q2:=cls_yes (h.resolve_left n1)
   clear h n1
   go_enter Tryz.func117,Tryz.ntmps117
   go_wp2_with (first | (go_at_call_of 120 (Value.int IntKind.u64 a);refine (class_any _ ha0 ha1 _).mono ?_;rintro e w' ⟨rfl,rfl⟩) | (go_at_call_of 120 (Value.int IntKind.u64 b);refine (class_any _ hb0 hb1 _).mono ?_;rintro e w' ⟨rfl,rfl⟩) | (go_at_call 122;refine (isnan_any _ _).mono ?_;rintro e w' ⟨rfl,rfl⟩))
   go_ret
   exact ⟨ret_int (by rw [hr.out];rfl),rfl⟩
theorem reckon_add (a b:Int) (ha0:0<=a) (ha1:a<18446744073709551616) (hb0:0<=b) (hb1:b<18446744073709551616) (w:World)
 (n1: ¬ 9218868437227405312<rg a.toNat) (n2: ¬ 9218868437227405312<rg b.toNat) :
 Calls Tryz.prog 117 #[.int .i64 1,.int .u64 a,.int .u64 b] w fun e w'=>e=.returned (.int .u64 (reck 1 a.toNat b.toNat))/\ ∃ n,w'=w.drewN n:=by
 have hr0:reck 1 a.toNat b.toNat=(Ieee.double.add a.toNat b.toNat).getD qnan:=by
  unfold reck;rw [if_neg (by omega),if_pos rfl]
 have hr:Hid (reck 1 a.toNat b.toNat=(Ieee.double.add a.toNat b.toNat).getD qnan):=hr0
 clear hr0
 have hfb:=frombits_run
 have hbt:=bits_run
 have q1:=cls_no n1
 have q2:=cls_no n2
 obtain ⟨r,n,hrun,hd⟩:=run_arith .add (by simp) 191 a.toNat b.toNat w
 rcases hd with hd | ⟨hd,hn⟩
 . have hn: ¬ 9218868437227405312<rg r:=add_not_nan hd
   have hq:=decide_eq_false hn
   have HD:Hid (Ieee.double.add a.toNat b.toNat=some r):=hd
   clear hd hn n1 n2
   go_enter Tryz.func117,Tryz.ntmps117
   go_wp2_with (first | (go_at_call_of 120 (Value.int IntKind.u64 a);refine (class_any _ ha0 ha1 _).mono ?_;rintro e w' ⟨rfl,rfl⟩) | (go_at_call_of 120 (Value.int IntKind.u64 b);refine (class_any _ hb0 hb1 _).mono ?_;rintro e w' ⟨rfl,rfl⟩) | (go_at_call 122;refine (isnan_any _ _).mono ?_;rintro e w' ⟨rfl,rfl⟩))
   go_ret
   exact ⟨ret_int (by rw [hr.out,HD.out];rfl),n,rfl⟩
 . have hq:=decide_eq_true hn
   have HD:Hid (Ieee.double.add a.toNat b.toNat=none):=hd
   clear hd hn n1 n2
   go_enter Tryz.func117,Tryz.ntmps117
   go_wp2_with (first | (go_at_call_of 120 (Value.int IntKind.u64 a);refine (class_any _ ha0 ha1 _).mono ?_;rintro e w' ⟨rfl,rfl⟩) | (go_at_call_of 120 (Value.int IntKind.u64 b);refine (class_any _ hb0 hb1 _).mono ?_;rintro e w' ⟨rfl,rfl⟩) | (go_at_call 122;refine (isnan_any _ _).mono ?_;rintro e w' ⟨rfl,rfl⟩))
   go_ret
   exact ⟨ret_int (by rw [hr.out,HD.out];rfl),n,rfl⟩
theorem reckon_sub (a b:Int) (ha0:0<=a) (ha1:a<18446744073709551616) (hb0:0<=b) (hb1:b<18446744073709551616) (w:World)
 (n1: ¬ 9218868437227405312<rg a.toNat) (n2: ¬ 9218868437227405312<rg b.toNat) :
 Calls Tryz.prog 117 #[.int .i64 2,.int .u64 a,.int .u64 b] w fun e w'=>e=.returned (.int .u64 (reck 2 a.toNat b.toNat))/\ ∃ n,w'=w.drewN n:=by
 have hr0:reck 2 a.toNat b.toNat=(Ieee.double.sub a.toNat b.toNat).getD qnan:=by
  unfold reck;rw [if_neg (by omega),if_neg kh,if_pos rfl]
 have hr:Hid (reck 2 a.toNat b.toNat=(Ieee.double.sub a.toNat b.toNat).getD qnan):=hr0
 clear hr0
 have hfb:=frombits_run
 have hbt:=bits_run
 have q1:=cls_no n1
 have q2:=cls_no n2
 obtain ⟨r,n,hrun,hd⟩:=run_arith .sub (by simp) 191 a.toNat b.toNat w
 rcases hd with hd | ⟨hd,hn⟩
 . have hn: ¬ 9218868437227405312<rg r:=sub_not_nan hd
   have hq:=decide_eq_false hn
   have HD:Hid (Ieee.double.sub a.toNat b.toNat=some r):=hd
   clear hd hn n1 n2
   go_enter Tryz.func117,Tryz.ntmps117
   go_wp2_with (first | (go_at_call_of 120 (Value.int IntKind.u64 a);refine (class_any _ ha0 ha1 _).mono ?_;rintro e w' ⟨rfl,rfl⟩) | (go_at_call_of 120 (Value.int IntKind.u64 b);refine (class_any _ hb0 hb1 _).mono ?_;rintro e w' ⟨rfl,rfl⟩) | (go_at_call 122;refine (isnan_any _ _).mono ?_;rintro e w' ⟨rfl,rfl⟩))
   go_ret
   exact ⟨ret_int (by rw [hr.out,HD.out];rfl),n,rfl⟩
 . have hq:=decide_eq_true hn
   have HD:Hid (Ieee.double.sub a.toNat b.toNat=none):=hd
   clear hd hn n1 n2
   go_enter Tryz.func117,Tryz.ntmps117
   go_wp2_with (first | (go_at_call_of 120 (Value.int IntKind.u64 a);refine (class_any _ ha0 ha1 _).mono ?_;rintro e w' ⟨rfl,rfl⟩) | (go_at_call_of 120 (Value.int IntKind.u64 b);refine (class_any _ hb0 hb1 _).mono ?_;rintro e w' ⟨rfl,rfl⟩) | (go_at_call 122;refine (isnan_any _ _).mono ?_;rintro e w' ⟨rfl,rfl⟩))
   go_ret
   exact ⟨ret_int (by rw [hr.out,HD.out];rfl),n,rfl⟩
theorem reckon_mul (a b:Int) (ha0:0<=a) (ha1:a<18446744073709551616) (hb0:0<=b) (hb1:b<18446744073709551616) (w:World)
 (n1: ¬ 9218868437227405312<rg a.toNat) (n2: ¬ 9218868437227405312<rg b.toNat) :
 Calls Tryz.prog 117 #[.int .i64 3,.int .u64 a,.int .u64 b] w fun e w'=>e=.returned (.int .u64 (reck 3 a.toNat b.toNat))/\ ∃ n,w'=w.drewN n:=by
 have hr0:reck 3 a.toNat b.toNat=(Ieee.double.mul a.toNat b.toNat).getD qnan:=by
  unfold reck;rw [if_neg (by omega),if_neg kh,if_neg kh,if_pos rfl]
 have hr:Hid (reck 3 a.toNat b.toNat=(Ieee.double.mul a.toNat b.toNat).getD qnan):=hr0
 clear hr0
 have hfb:=frombits_run
 have hbt:=bits_run
 have q1:=cls_no n1
 have q2:=cls_no n2
 obtain ⟨r,n,hrun,hd⟩:=run_arith .mul (by simp) 191 a.toNat b.toNat w
 rcases hd with hd | ⟨hd,hn⟩
 . have hn: ¬ 9218868437227405312<rg r:=mul_not_nan hd
   have hq:=decide_eq_false hn
   have HD:Hid (Ieee.double.mul a.toNat b.toNat=some r):=hd
   clear hd hn n1 n2
   go_enter Tryz.func117,Tryz.ntmps117
   go_wp2_with (first | (go_at_call_of 120 (Value.int IntKind.u64 a);refine (class_any _ ha0 ha1 _).mono ?_;rintro e w' ⟨rfl,rfl⟩) | (go_at_call_of 120 (Value.int IntKind.u64 b);refine (class_any _ hb0 hb1 _).mono ?_;rintro e w' ⟨rfl,rfl⟩) | (go_at_call 122;refine (isnan_any _ _).mono ?_;rintro e w' ⟨rfl,rfl⟩))
   go_ret
   exact ⟨ret_int (by rw [hr.out,HD.out];rfl),n,rfl⟩
 . have hq:=decide_eq_true hn
   have HD:Hid (Ieee.double.mul a.toNat b.toNat=none):=hd
   clear hd hn n1 n2
   go_enter Tryz.func117,Tryz.ntmps117
   go_wp2_with (first | (go_at_call_of 120 (Value.int IntKind.u64 a);refine (class_any _ ha0 ha1 _).mono ?_;rintro e w' ⟨rfl,rfl⟩) | (go_at_call_of 120 (Value.int IntKind.u64 b);refine (class_any _ hb0 hb1 _).mono ?_;rintro e w' ⟨rfl,rfl⟩) | (go_at_call 122;refine (isnan_any _ _).mono ?_;rintro e w' ⟨rfl,rfl⟩))
   go_ret
   exact ⟨ret_int (by rw [hr.out,HD.out];rfl),n,rfl⟩
theorem reckon_div (a b:Int) (ha0:0<=a) (ha1:a<18446744073709551616) (hb0:0<=b) (hb1:b<18446744073709551616) (w:World)
 (n1: ¬ 9218868437227405312<rg a.toNat) (n2: ¬ 9218868437227405312<rg b.toNat) :
 Calls Tryz.prog 117 #[.int .i64 4,.int .u64 a,.int .u64 b] w fun e w'=>e=.returned (.int .u64 (reck 4 a.toNat b.toNat))/\ ∃ n,w'=w.drewN n:=by
 have hr0:reck 4 a.toNat b.toNat=(Ieee.double.div a.toNat b.toNat).getD qnan:=by
  unfold reck;rw [if_neg (by omega),if_neg kh,if_neg kh,if_neg kh,if_pos rfl]
 have hr:Hid (reck 4 a.toNat b.toNat=(Ieee.double.div a.toNat b.toNat).getD qnan):=hr0
 clear hr0
 have hfb:=frombits_run
 have hbt:=bits_run
 have q1:=cls_no n1
 have q2:=cls_no n2
 obtain ⟨r,n,hrun,hd⟩:=run_arith .quo (by simp) 191 a.toNat b.toNat w
 rcases hd with hd | ⟨hd,hn⟩
 . have hn: ¬ 9218868437227405312<rg r:=div_not_nan hd
   have hq:=decide_eq_false hn
   have HD:Hid (Ieee.double.div a.toNat b.toNat=some r):=hd
   clear hd hn n1 n2
   go_enter Tryz.func117,Tryz.ntmps117
   go_wp2_with (first | (go_at_call_of 120 (Value.int IntKind.u64 a);refine (class_any _ ha0 ha1 _).mono ?_;rintro e w' ⟨rfl,rfl⟩) | (go_at_call_of 120 (Value.int IntKind.u64 b);refine (class_any _ hb0 hb1 _).mono ?_;rintro e w' ⟨rfl,rfl⟩) | (go_at_call 122;refine (isnan_any _ _).mono ?_;rintro e w' ⟨rfl,rfl⟩))
   go_ret
   exact ⟨ret_int (by rw [hr.out,HD.out];rfl),n,rfl⟩
 . have hq:=decide_eq_true hn
   have HD:Hid (Ieee.double.div a.toNat b.toNat=none):=hd
   clear hd hn n1 n2
   go_enter Tryz.func117,Tryz.ntmps117
   go_wp2_with (first | (go_at_call_of 120 (Value.int IntKind.u64 a);refine (class_any _ ha0 ha1 _).mono ?_;rintro e w' ⟨rfl,rfl⟩) | (go_at_call_of 120 (Value.int IntKind.u64 b);refine (class_any _ hb0 hb1 _).mono ?_;rintro e w' ⟨rfl,rfl⟩) | (go_at_call 122;refine (isnan_any _ _).mono ?_;rintro e w' ⟨rfl,rfl⟩))
   go_ret
   exact ⟨ret_int (by rw [hr.out,HD.out];rfl),n,rfl⟩
theorem run_minF (ts:Array TypeId) (t:TypeId) (x y:Nat) (n1: ¬ 9218868437227405312<rg x) (n2: ¬ 9218868437227405312<rg y) (w:World) :
 (Builtin.min_ ts t #[.float .f64 x,.float .f64 y]).run Tryz.prog w=.ok (.float .f64 (minF x y)) w:=by
 have hs:(FloatKind.f64.decode x).neg=sg x:=neg_read n1
 unfold minF
 by_cases c1:key x<key y
 . have ho:FloatKind.f64.format.order x y=some .lt:=order_lt n1 n2 c1
   rw [if_pos c1];simp [Builtin.min_,Builtin.min2,ho]
 . rw [if_neg c1]
   by_cases c2:key y<key x
   . have ho:FloatKind.f64.format.order x y=some .gt:=order_gt n1 n2 c2
     rw [if_pos c2];simp [Builtin.min_,Builtin.min2,ho]
   . have ho:FloatKind.f64.format.order x y=some .eq:=order_same n1 n2 c1 c2
     rw [if_neg c2];simp [Builtin.min_,Builtin.min2,ho,hs]
theorem minF_num {x y:Nat} (n1: ¬ 9218868437227405312<rg x) (n2: ¬ 9218868437227405312<rg y): ¬ 9218868437227405312<rg (minF x y):=by
 unfold minF;repeat' split
 all_goals assumption
theorem reckon_min (a b:Int) (ha0:0<=a) (ha1:a<18446744073709551616) (hb0:0<=b) (hb1:b<18446744073709551616) (w:World)
 (n1: ¬ 9218868437227405312<rg a.toNat) (n2: ¬ 9218868437227405312<rg b.toNat) :
 Calls Tryz.prog 117 #[.int .i64 5,.int .u64 a,.int .u64 b] w fun e w'=>e=.returned (.int .u64 (reck 5 a.toNat b.toNat))/\ ∃ n,w'=w.drewN n:=by
 have hr0:reck 5 a.toNat b.toNat=minF a.toNat b.toNat:=by
  unfold reck;rw [if_neg (by omega),if_neg kh,if_neg kh,if_neg kh,if_neg kh,if_pos rfl]
 have hr:Hid (reck 5 a.toNat b.toNat=minF a.toNat b.toNat):=hr0
 clear hr0
 have hfb:=frombits_run
 have hbt:=bits_run
 have q1:=cls_no n1
 have q2:=cls_no n2
 have hm:=fun ts t=>run_minF ts t _ _ n1 n2 w
 have hq:=decide_eq_false (minF_num n1 n2)
 clear n1 n2
 go_enter Tryz.func117,Tryz.ntmps117
 go_wp2_with (first | (go_at_call_of 120 (Value.int IntKind.u64 a);refine (class_any _ ha0 ha1 _).mono ?_;rintro e w' ⟨rfl,rfl⟩) | (go_at_call_of 120 (Value.int IntKind.u64 b);refine (class_any _ hb0 hb1 _).mono ?_;rintro e w' ⟨rfl,rfl⟩) | (go_at_call 122;refine (isnan_any _ _).mono ?_;rintro e w' ⟨rfl,rfl⟩))
 go_ret
 exact ⟨ret_int (by rw [hr.out]),0,rfl⟩
theorem run_maxF (ts:Array TypeId) (t:TypeId) (x y:Nat) (n1: ¬ 9218868437227405312<rg x) (n2: ¬ 9218868437227405312<rg y) (w:World) :
 (Builtin.max_ ts t #[.float .f64 x,.float .f64 y]).run Tryz.prog w=.ok (.float .f64 (maxF x y)) w:=by
 have hs:(FloatKind.f64.decode x).neg=sg x:=neg_read n1
 unfold maxF
 by_cases c1:key x<key y
 . have ho:FloatKind.f64.format.order x y=some .lt:=order_lt n1 n2 c1
   rw [if_pos c1];simp [Builtin.max_,Builtin.max2,ho]
 . rw [if_neg c1]
   by_cases c2:key y<key x
   . have ho:FloatKind.f64.format.order x y=some .gt:=order_gt n1 n2 c2
     rw [if_pos c2];simp [Builtin.max_,Builtin.max2,ho]
   . have ho:FloatKind.f64.format.order x y=some .eq:=order_same n1 n2 c1 c2
     rw [if_neg c2];simp [Builtin.max_,Builtin.max2,ho,hs]
theorem maxF_num {x y:Nat} (n1: ¬ 9218868437227405312<rg x) (n2: ¬ 9218868437227405312<rg y): ¬ 9218868437227405312<rg (maxF x y):=by
 unfold maxF;repeat' split
 all_goals assumption
theorem reckon_max (a b:Int) (ha0:0<=a) (ha1:a<18446744073709551616) (hb0:0<=b) (hb1:b<18446744073709551616) (w:World)
 (n1: ¬ 9218868437227405312<rg a.toNat) (n2: ¬ 9218868437227405312<rg b.toNat) :
 Calls Tryz.prog 117 #[.int .i64 6,.int .u64 a,.int .u64 b] w fun e w'=>e=.returned (.int .u64 (reck 6 a.toNat b.toNat))/\ ∃ n,w'=w.drewN n:=by
 have hr0:reck 6 a.toNat b.toNat=maxF a.toNat b.toNat:=by
  unfold reck;rw [if_neg (by omega),if_neg kh,if_neg kh,if_neg kh,if_neg kh,if_neg kh]
 have hr:Hid (reck 6 a.toNat b.toNat=maxF a.toNat b.toNat):=hr0
 clear hr0
 have hfb:=frombits_run
 have hbt:=bits_run
 have q1:=cls_no n1
 have q2:=cls_no n2
 have hm:=fun ts t=>run_maxF ts t _ _ n1 n2 w
 have hq:=decide_eq_false (maxF_num n1 n2)
 clear n1 n2
 go_enter Tryz.func117,Tryz.ntmps117
 go_wp2_with (first | (go_at_call_of 120 (Value.int IntKind.u64 a);refine (class_any _ ha0 ha1 _).mono ?_;rintro e w' ⟨rfl,rfl⟩) | (go_at_call_of 120 (Value.int IntKind.u64 b);refine (class_any _ hb0 hb1 _).mono ?_;rintro e w' ⟨rfl,rfl⟩) | (go_at_call 122;refine (isnan_any _ _).mono ?_;rintro e w' ⟨rfl,rfl⟩))
 go_ret
 exact ⟨ret_int (by rw [hr.out]),0,rfl⟩
theorem reckon_any (op:Int) (a b:Int) (ha0:0<=a) (ha1:a<18446744073709551616) (hb0:0<=b) (hb1:b<18446744073709551616) (w:World) (h1:1<=op) (h2:op<=6) :
 Calls Tryz.prog 117 #[.int .i64 op,.int .u64 a,.int .u64 b] w fun e w'=>e=.returned (.int .u64 (reck op a.toNat b.toNat))/\ ∃ n,w'=w.drewN n:=by
 by_cases h:9218868437227405312<rg a.toNat\/9218868437227405312<rg b.toNat
 . exact (reckon_nan op a b ha0 ha1 hb0 hb1 w h).mono fun e w' ⟨he,hw⟩=>⟨he,0,hw⟩
 . have n1: ¬ 9218868437227405312<rg a.toNat:=fun k=>h (Or.inl k)
   have n2: ¬ 9218868437227405312<rg b.toNat:=fun k=>h (Or.inr k)
   rcases (show op=1\/op=2\/op=3\/op=4\/op=5\/op=6 by omega) with rfl | rfl | rfl | rfl | rfl | rfl
   . exact reckon_add a b ha0 ha1 hb0 hb1 w n1 n2
   . exact reckon_sub a b ha0 ha1 hb0 hb1 w n1 n2
   . exact reckon_mul a b ha0 ha1 hb0 hb1 w n1 n2
   . exact reckon_div a b ha0 ha1 hb0 hb1 w n1 n2
   . exact reckon_min a b ha0 ha1 hb0 hb1 w n1 n2
   . exact reckon_max a b ha0 ha1 hb0 hb1 w n1 n2
end Go.Proofs.YtokpmclmdobgeaaGreat.Tr
