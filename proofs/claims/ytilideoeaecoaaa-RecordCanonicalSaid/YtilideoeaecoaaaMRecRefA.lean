/- RecRefA. -/
import Derived.Test.YtilideoeaecoaaaMk2a
set_option maxRecDepth 400000
set_option maxHeartbeats 64000000
set_option linter.unusedVariables false
set_option linter.unusedSimpArgs false
namespace Go.Proofs.Ytilideoeaecoaaa
section
open Go.RowKit Num
def stB(k c p y:Int):Bool:=decide (0≤k∧k≤3∧0≤p∧p≤65535∧0≤y∧y≤4611686018427387904)&&(decide (2≤k)||decide (p=0∧y=0))&&(if k=3 then decide (1≤c∧c≤4)else decide (c=0))
theorem stR_is(r:j3):stR r=stB r.k r.c r.p r.y:=rfl
theorem t6(k c p y:Int)(w:World):Calls Try.prog 25 #[.agg (lD k c p y)] w fun e w'=>e=.returned (.bool (stB k c p y))∧Below w.heap.size w w':=by
 obtain⟨r,hr⟩:∃r,stB k c p y=r:=⟨_,rfl⟩;have RR:=zW hr;rw[hr];clear hr;go_enter Try.func25,Try.ntmps25;go_upto_region 0 with fail;refine zN ?_;refine kD rfl _ (.tmp 0) rfl (lD k c p y) rfl ?_;simp only[Act.put,zQ,zZ,zJ];have K1:=zW (Blk.new w 30 (lD k c p y));have BB:=zW (j2 w (.cells (lD k c p y) 30));generalize w.heap.size=g1 at K1⊢;generalize World.alloc w _=w1 at K1 BB⊢;have c0:w1.cell? ⟨g1,0,none⟩=some (.int .i64 k):=(K1.out.cell 0).trans rfl;have c1:w1.cell? ⟨g1,1,none⟩=some (.int .i64 c):=(K1.out.cell 1).trans rfl;have c2:w1.cell? ⟨g1,2,none⟩=some (.int .i64 p):=(K1.out.cell 2).trans rfl;have c3:w1.cell? ⟨g1,3,none⟩=some (.int .i64 y):=(K1.out.cell 3).trans rfl;have hcase:(k<0∧r=false)∨(¬k<0∧(3:Int)<k∧r=false)∨(¬k<0∧¬(3:Int)<k∧p<0∧r=false)∨(¬k<0∧¬(3:Int)<k∧¬p<0∧(65535:Int)<p∧r=false)∨(¬k<0∧¬(3:Int)<k∧¬p<0∧¬(65535:Int)<p∧y<0∧r=false)∨(¬k<0∧¬(3:Int)<k∧¬p<0∧¬(65535:Int)<p∧¬y<0∧(4611686018427387904:Int)<y∧r=false)
   ∨((¬k<0∧¬(3:Int)<k∧¬p<0∧¬(65535:Int)<p∧¬y<0∧¬(4611686018427387904:Int)<y)∧((k≤1∧¬p=0∧r=false)∨(k≤1∧p=0∧¬y=0∧r=false)∨(k≤1∧p=0∧y=0∧¬k=3∧r=decide (c=0))∨(¬k≤1∧¬k=3∧r=decide (c=0))∨(¬k≤1∧k=3∧c<1∧r=false)∨(¬k≤1∧k=3∧¬c<1∧r=decide (c≤4)))):=by
  have e:=RR.out;unfold stB at e;have f0:∀(P Q:Bool),(decide (0≤k∧k≤3∧0≤p∧p≤65535∧0≤y∧y≤4611686018427387904)&&P&&Q)=r→¬(0≤k∧k≤3∧0≤p∧p≤65535∧0≤y∧y≤4611686018427387904)→r=false:=fun P Q h hn=>by rw[←h,z5 hn];rfl
  by_cases hr:0≤k∧k≤3∧0≤p∧p≤65535∧0≤y∧y≤4611686018427387904
  ·rw[zP hr,Bool.true_and]at e;refine .inr (.inr (.inr (.inr (.inr (.inr ⟨by omega,?_⟩)))));by_cases h1:k≤1
   ·rw[z5 (show¬2≤k by omega),Bool.false_or,zY (show¬k=3 by omega)]at e;by_cases h2:p=0
    ·by_cases h3:y=0
     ·rw[zP ⟨h2,h3⟩,Bool.true_and]at e;exact .inr (.inr (.inl ⟨h1,h2,h3,by omega,e.symm⟩))
     ·rw[z5 (fun h=>h3 h.2),Bool.false_and]at e;exact .inr (.inl ⟨h1,h2,h3,e.symm⟩)
    ·rw[z5 (fun h=>h2 h.1),Bool.false_and]at e;exact .inl ⟨h1,h2,e.symm⟩
   ·rw[zP (show 2≤k by omega),Bool.true_or,Bool.true_and]at e;by_cases h3:k=3
    ·rw[zL h3]at e;by_cases h4:c<1
     ·rw[z5 (fun h=>by omega)]at e;exact .inr (.inr (.inr (.inr (.inl ⟨h1,h3,h4,e.symm⟩))))
     ·refine .inr (.inr (.inr (.inr (.inr ⟨h1,h3,h4,?_⟩))));rw[←e];congr 1
      simp
      omega
    ·rw[zY h3]at e;exact .inr (.inr (.inr (.inl ⟨h1,h3,e.symm⟩)))
  ·have hf:=f0 _ _ e hr;by_cases a1:k<0
   ·exact .inl ⟨a1,hf⟩
   by_cases a2:(3:Int)<k
   ·exact .inr (.inl ⟨a1,a2,hf⟩)
   by_cases a3:p<0
   ·exact .inr (.inr (.inl ⟨a1,a2,a3,hf⟩))
   by_cases a4:(65535:Int)<p
   ·exact .inr (.inr (.inr (.inl ⟨a1,a2,a3,a4,hf⟩)))
   by_cases a5:y<0
   ·exact .inr (.inr (.inr (.inr (.inl ⟨a1,a2,a3,a4,a5,hf⟩))))
   exact .inr (.inr (.inr (.inr (.inr (.inl ⟨a1,a2,a3,a4,a5,by omega,hf⟩)))))
 clear RR
 rcases hcase with⟨h1,rfl⟩|⟨h1,h2,rfl⟩|⟨h1,h2,h3,rfl⟩|⟨h1,h2,h3,h4,rfl⟩|⟨h1,h2,h3,h4,h5,rfl⟩|⟨h1,h2,h3,h4,h5,h6,rfl⟩|⟨⟨h1,h2,h3,h4,h5,h6⟩,hc⟩
 all_goals try
  go_wp2
  go_returns
  exact⟨rfl,BB.out⟩
 rcases hc with⟨h7,h8,rfl⟩|⟨h7,rfl,h8,rfl⟩|⟨h7,rfl,rfl,h8,rfl⟩|⟨h7,h8,rfl⟩|⟨h7,rfl,h8,rfl⟩|⟨h7,rfl,h8,rfl⟩
 all_goals
  try have e8:¬(3:Int)=3↔False:=by simp
  go_wp2
  go_returns
  refine⟨?_,BB.out⟩
  first|rfl|(congr 2;simp;done)|(congr 2;simp;omega)
theorem fC:∀(s n j:Nat),j<s→(nb s n)[j]?=some (n/256^(s-1-j)%256)
 |s+1,n,j,h=>by
  show(nb s (n/256)++[n%256])[j]?=_;by_cases e:j=s
  ·subst e;rw[qX (by rw[kP];exact zT _),kP,Nat.sub_self,show j+1-1-j=0 by omega,Nat.pow_zero,Nat.div_one];rfl
  ·rw[qK (by rw[kP];omega),fC s (n/256) j oD,show s+1-1-j=(s-1-j)+1 by omega,Nat.pow_succ,Nat.mul_comm,Nat.div_div_eq_div_mul]
end
end Go.Proofs.Ytilideoeaecoaaa
