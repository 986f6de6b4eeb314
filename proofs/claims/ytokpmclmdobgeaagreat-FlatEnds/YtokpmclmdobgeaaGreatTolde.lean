import Derived.Test.YtokpmclmdobgeaaGreatRecke
set_option linter.unusedSimpArgs false
set_option linter.unusedVariables false
set_option maxRecDepth 8000
set_option maxHeartbeats 1000000
open Go.ChangeShapes Go.WideShapes Go.ChangeAt Go.RowKit
open FltM
namespace Go.Proofs.YtokpmclmdobgeaaGreat.Tr
theorem told_any (op:Int) (a b r:Int) (ha0:0<=a) (ha1:a<18446744073709551616) (hb0:0<=b) (hb1:b<18446744073709551616) (hr0:0<=r) (hr1:r<18446744073709551616) (w:World) :
 Calls Tryz.prog 118 #[.int .i64 op,.int .u64 a,.int .u64 b,.int .u64 r] w fun e w'=>e=.returned (.int .i64 (tells op a.toNat b.toNat r.toNat))/\w'=w:=by
 cases s1:sigs a.toNat
 case true =>
  have ht0:tells op a.toNat b.toNat r.toNat=1:=by unfold tells;rw [if_pos (by simp [s1])]
  have ht:Hid (tells op a.toNat b.toNat r.toNat=1):=ht0
  clear ht0
  go_enter Tryz.func118,Tryz.ntmps118
  go_wp2_with (first | (go_at_call_of 120 (Value.int IntKind.u64 a);refine (class_any _ ha0 ha1 _).mono ?_;rintro e w' ⟨rfl,rfl⟩) | (go_at_call_of 120 (Value.int IntKind.u64 b);refine (class_any _ hb0 hb1 _).mono ?_;rintro e w' ⟨rfl,rfl⟩) | (go_at_call_of 120 (Value.int IntKind.u64 r);refine (class_any _ hr0 hr1 _).mono ?_;rintro e w' ⟨rfl,rfl⟩) | (go_at_call_of 124 (Value.int IntKind.u64 a);refine (signals_any _ ha0 ha1 _).mono ?_;rintro e w' ⟨rfl,rfl⟩) | (go_at_call_of 124 (Value.int IntKind.u64 b);refine (signals_any _ hb0 hb1 _).mono ?_;rintro e w' ⟨rfl,rfl⟩))
  go_ret
  exact ⟨ret_int ht.out.symm,rfl⟩
 case false =>
 cases s2:sigs b.toNat
 case true =>
  have ht0:tells op a.toNat b.toNat r.toNat=1:=by unfold tells;rw [if_pos (by simp [s2])]
  have ht:Hid (tells op a.toNat b.toNat r.toNat=1):=ht0
  clear ht0
  go_enter Tryz.func118,Tryz.ntmps118
  go_wp2_with (first | (go_at_call_of 120 (Value.int IntKind.u64 a);refine (class_any _ ha0 ha1 _).mono ?_;rintro e w' ⟨rfl,rfl⟩) | (go_at_call_of 120 (Value.int IntKind.u64 b);refine (class_any _ hb0 hb1 _).mono ?_;rintro e w' ⟨rfl,rfl⟩) | (go_at_call_of 120 (Value.int IntKind.u64 r);refine (class_any _ hr0 hr1 _).mono ?_;rintro e w' ⟨rfl,rfl⟩) | (go_at_call_of 124 (Value.int IntKind.u64 a);refine (signals_any _ ha0 ha1 _).mono ?_;rintro e w' ⟨rfl,rfl⟩) | (go_at_call_of 124 (Value.int IntKind.u64 b);refine (signals_any _ hb0 hb1 _).mono ?_;rintro e w' ⟨rfl,rfl⟩))
  go_ret
  exact ⟨ret_int ht.out.symm,rfl⟩
 case false =>
 cases q1:(cls a.toNat==4)
 case true =>
  have ht0:tells op a.toNat b.toNat r.toNat=0:=by unfold tells;rw [if_neg (by simp [s1,s2]),if_pos (Or.inl (beq_iff_eq.1 q1))]
  have ht:Hid (tells op a.toNat b.toNat r.toNat=0):=ht0
  clear ht0
  go_enter Tryz.func118,Tryz.ntmps118
  go_wp2_with (first | (go_at_call_of 120 (Value.int IntKind.u64 a);refine (class_any _ ha0 ha1 _).mono ?_;rintro e w' ⟨rfl,rfl⟩) | (go_at_call_of 120 (Value.int IntKind.u64 b);refine (class_any _ hb0 hb1 _).mono ?_;rintro e w' ⟨rfl,rfl⟩) | (go_at_call_of 120 (Value.int IntKind.u64 r);refine (class_any _ hr0 hr1 _).mono ?_;rintro e w' ⟨rfl,rfl⟩) | (go_at_call_of 124 (Value.int IntKind.u64 a);refine (signals_any _ ha0 ha1 _).mono ?_;rintro e w' ⟨rfl,rfl⟩) | (go_at_call_of 124 (Value.int IntKind.u64 b);refine (signals_any _ hb0 hb1 _).mono ?_;rintro e w' ⟨rfl,rfl⟩))
  go_ret
  exact ⟨ret_int ht.out.symm,rfl⟩
 case false =>
 cases q2:(cls b.toNat==4)
 case true =>
  have ht0:tells op a.toNat b.toNat r.toNat=0:=by unfold tells;rw [if_neg (by simp [s1,s2]),if_pos (Or.inr (beq_iff_eq.1 q2))]
  have ht:Hid (tells op a.toNat b.toNat r.toNat=0):=ht0
  clear ht0
  go_enter Tryz.func118,Tryz.ntmps118
  go_wp2_with (first | (go_at_call_of 120 (Value.int IntKind.u64 a);refine (class_any _ ha0 ha1 _).mono ?_;rintro e w' ⟨rfl,rfl⟩) | (go_at_call_of 120 (Value.int IntKind.u64 b);refine (class_any _ hb0 hb1 _).mono ?_;rintro e w' ⟨rfl,rfl⟩) | (go_at_call_of 120 (Value.int IntKind.u64 r);refine (class_any _ hr0 hr1 _).mono ?_;rintro e w' ⟨rfl,rfl⟩) | (go_at_call_of 124 (Value.int IntKind.u64 a);refine (signals_any _ ha0 ha1 _).mono ?_;rintro e w' ⟨rfl,rfl⟩) | (go_at_call_of 124 (Value.int IntKind.u64 b);refine (signals_any _ hb0 hb1 _).mono ?_;rintro e w' ⟨rfl,rfl⟩))
  go_ret
  exact ⟨ret_int ht.out.symm,rfl⟩
 case false =>
 have k1: ¬ cls a.toNat=4:=by simpa using q1
 have k2: ¬ cls b.toNat=4:=by simpa using q2
 cases q3:(cls r.toNat==4)
 case true =>
  have ht0:tells op a.toNat b.toNat r.toNat=1:=by unfold tells;rw [if_neg (by simp [s1,s2]),if_neg (by omega),if_pos (beq_iff_eq.1 q3)]
  have ht:Hid (tells op a.toNat b.toNat r.toNat=1):=ht0
  clear ht0
  go_enter Tryz.func118,Tryz.ntmps118
  go_wp2_with (first | (go_at_call_of 120 (Value.int IntKind.u64 a);refine (class_any _ ha0 ha1 _).mono ?_;rintro e w' ⟨rfl,rfl⟩) | (go_at_call_of 120 (Value.int IntKind.u64 b);refine (class_any _ hb0 hb1 _).mono ?_;rintro e w' ⟨rfl,rfl⟩) | (go_at_call_of 120 (Value.int IntKind.u64 r);refine (class_any _ hr0 hr1 _).mono ?_;rintro e w' ⟨rfl,rfl⟩) | (go_at_call_of 124 (Value.int IntKind.u64 a);refine (signals_any _ ha0 ha1 _).mono ?_;rintro e w' ⟨rfl,rfl⟩) | (go_at_call_of 124 (Value.int IntKind.u64 b);refine (signals_any _ hb0 hb1 _).mono ?_;rintro e w' ⟨rfl,rfl⟩))
  go_ret
  exact ⟨ret_int ht.out.symm,rfl⟩
 case false =>
 have k3: ¬ cls r.toNat=4:=by simpa using q3
 clear k1 k2 k3
 have hpre: ∀ v,(if op=4/\cls b.toNat=0/\cls a.toNat≠0/\cls a.toNat≠3 then 2 else if cls r.toNat=3/\cls a.toNat≠3/\cls b.toNat≠3 then 4 else 0)=v->tells op a.toNat b.toNat r.toNat=v:=by
  intro v hv
  have k1: ¬ cls a.toNat=4:=by simpa using q1
  have k2: ¬ cls b.toNat=4:=by simpa using q2
  have k3: ¬ cls r.toNat=4:=by simpa using q3
  unfold tells;rw [if_neg (by simp [s1,s2]),if_neg (by omega),if_neg k3];exact hv
 have HP:Hid (∀ v,(if op=4/\cls b.toNat=0/\cls a.toNat≠0/\cls a.toNat≠3 then 2 else if cls r.toNat=3/\cls a.toNat≠3/\cls b.toNat≠3 then 4 else 0)=v->tells op a.toNat b.toNat r.toNat=v):=hpre
 clear hpre
 cases o4:(op==4) <;> cases z2:(cls b.toNat==0) <;> cases z1:(cls a.toNat != 0) <;> cases i1:(cls a.toNat != 3) <;> cases i3:(cls r.toNat==3) <;> cases i2:(cls b.toNat != 3)
 all_goals
  go_enter Tryz.func118,Tryz.ntmps118
  go_wp2_with (first | (go_at_call_of 120 (Value.int IntKind.u64 a);refine (class_any _ ha0 ha1 _).mono ?_;rintro e w' ⟨rfl,rfl⟩) | (go_at_call_of 120 (Value.int IntKind.u64 b);refine (class_any _ hb0 hb1 _).mono ?_;rintro e w' ⟨rfl,rfl⟩) | (go_at_call_of 120 (Value.int IntKind.u64 r);refine (class_any _ hr0 hr1 _).mono ?_;rintro e w' ⟨rfl,rfl⟩) | (go_at_call_of 124 (Value.int IntKind.u64 a);refine (signals_any _ ha0 ha1 _).mono ?_;rintro e w' ⟨rfl,rfl⟩) | (go_at_call_of 124 (Value.int IntKind.u64 b);refine (signals_any _ hb0 hb1 _).mono ?_;rintro e w' ⟨rfl,rfl⟩))
  go_ret
  refine ⟨ret_int (HP.out _ ?_).symm,rfl⟩
  go_light
  clear HP
  simp only [beq_eq_false_iff_ne,ne_eq,beq_iff_eq,bne_iff_ne,bne_eq_false_iff_eq] at *
  repeat' split
  all_goals omega
end Go.Proofs.YtokpmclmdobgeaaGreat.Tr
