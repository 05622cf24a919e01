/- AluDo. -/
import Derived.Test.YtcjldabaekbdlaaGreatDoorMk0a
set_option maxRecDepth 400000
set_option maxHeartbeats 64000000
set_option linter.unusedVariables false
set_option linter.unusedSimpArgs false
namespace Go.Proofs.YtcjldabaekbdlaaGreatDoor
section
open Go.RowKit Num Dec Cpu
structure D4(w0:World)(g:Nat)(v:Nat→Nat)(op:Int)(x y:Nat)(n:Int)(nn:Nat)(addr len:Int)(q:Pr)(w:World):Prop where
 r:Blk g 23 (rg v) w
 i:Blk (g+1) 47 #[.int .i64 op,.int .i64 (x:Int),.int .i64 (y:Int),.int .i64 n,.int .i64 (nn:Int),.int .i64 addr,.int .i64 len] w
 p:Blk (g+1+1) 31 (prc q) w
 o:Blk (g+1+1+1) 23 (pc mU) w
 low:Below w0.heap.size w0 w
 le:w0.heap.size≤g
theorem D4.put{w0 w:World}{g:Nat}{v:Nat→Nat}{op:Int}{x y:Nat}{n:Int}{nn:Nat}{addr len:Int}{q:Pr}(D:D4 w0 g v op x y n nn addr len q w){k:Nat}(hk:k<16)(r:Nat):D4 w0 g (upd v k r) op x y n nn addr len q (w.setCell ⟨g,k,none⟩ (.int .u8 (r:Int))):=
 ⟨(D.r.put k _).eq (IY v hk r),D.i.other zBY k _,D.p.other zBY k _,D.o.other zBY k _,D.low.trans ⟨rfl,rfl,rfl,by simp,fun b hb=>qQ w ⟨g,k,none⟩ _ b (by have:=D.le;show b≠g;omega)⟩,D.le⟩
theorem D4.cx{w0 w:World}{g:Nat}{v:Nat→Nat}{op:Int}{x y:Nat}{n:Int}{nn:Nat}{addr len:Int}{q:Pr}(D:D4 w0 g v op x y n nn addr len q w){k:Nat}(hk:k<16):w.cell? ⟨g,k,none⟩=some (.int .u8 (v k:Int)):=by rw[D.r.cell,gJ v hk]
theorem JT{a b:Nat}(ha:a<256)(hb:b<256):∃(d:Int) (R:Nat),(IntKind.i64.wrap ((a:Int)+(b:Int))=d∧Int.tmod d 256=(R:Int)∧IntKind.i64.wrap (R:Int)=(R:Int)∧IntKind.u8.wrap (R:Int)=(R:Int))∧R=(a+b)%256∧d=(a:Int)+(b:Int):=
 ⟨(a:Int)+(b:Int),(a+b)%256,⟨by rw[zU];omega,by rw[qT zBY];omega,by rw[zU];omega,by rw[j9];omega⟩,rfl,rfl⟩
theorem JD{a b:Nat}(ha:a<256)(hb:b<256):∃(d e:Int) (R:Nat),(IntKind.i64.wrap ((a:Int)-(b:Int))=d∧IntKind.i64.wrap (d+256)=e∧Int.tmod e 256=(R:Int)∧IntKind.i64.wrap (R:Int)=(R:Int)∧IntKind.u8.wrap (R:Int)=(R:Int))∧R=(a+256-b)%256:=
 ⟨(a:Int)-(b:Int),(a:Int)-(b:Int)+256,(a+256-b)%256,⟨by rw[zU];omega,by rw[zU];omega,by rw[qT zBY];omega,by rw[zU];omega,by rw[j9];omega⟩,rfl⟩
theorem zQO{s:Nat}(hs:s<256):∃R F:Nat,(Int.tdiv (s:Int) 2=(R:Int)∧IntKind.i64.wrap (R:Int)=(R:Int)∧IntKind.u8.wrap (R:Int)=(R:Int)∧Int.tmod (s:Int) 2=(F:Int)∧IntKind.i64.wrap (F:Int)=(F:Int)∧IntKind.u8.wrap (F:Int)=(F:Int))∧R=s/2∧F=s%2:=
 ⟨s/2,s%2,⟨by rw[Int.tdiv_eq_ediv_of_nonneg zBY];omega,by rw[zU];omega,by rw[j9];omega,by rw[qT zBY];omega,by rw[zU];omega,by rw[j9];omega⟩,rfl,rfl⟩
theorem zQ0{s:Nat}(hs:s<256):∃(d:Int) (R F:Nat),(IntKind.i64.wrap (2*(s:Int))=d∧Int.tmod d 256=(R:Int)∧IntKind.i64.wrap (R:Int)=(R:Int)∧IntKind.u8.wrap (R:Int)=(R:Int)∧Int.tdiv (s:Int) 128=(F:Int)∧IntKind.i64.wrap (F:Int)=(F:Int)∧IntKind.u8.wrap (F:Int)=(F:Int))∧R=2*s%256∧F=s/128:=
 ⟨2*(s:Int),2*s%256,s/128,⟨by rw[zU];omega,by rw[qT zBY];omega,by rw[zU];omega,by rw[j9];omega,by rw[Int.tdiv_eq_ediv_of_nonneg zBY];omega,by rw[zU];omega,by rw[j9];omega⟩,rfl,rfl⟩
theorem zL9(v:Nat→Nat)(op:Int)(x y nn:Nat)(n addr len:Int)(q:Pr)(w:World)(hv:OkV v)(hx:x<16)(hy:y<16)(hn:nn<256):
  Calls Tryz.prog 64 #[.agg (rg v),.agg (lI ⟨op,x,y,n,nn,addr,len⟩),.agg (prc q)] w fun e w'=>e=.returned (.tuple #[.agg (rg (xZ v ⟨op,x,y,n,nn,addr,len⟩ q)),.bool (yC op)])∧Below w.heap.size w w':=by
 have HX:=zW (zY hx (zY hy hn));have HV:=zW hv;have vx:=hv x hx;have vy:=hv y hy;have D0:=zW (show D4 w w.heap.size v op x y n nn addr len q ((((w.alloc (.cells (rg v) 23)).alloc (.cells (lI ⟨op,x,y,n,nn,addr,len⟩) 47)).alloc (.cells (prc q) 31)).alloc (.cells (pc mU) 23))from by
  refine⟨(((Blk.new w _ _).alloc _).alloc _).alloc _,?_,?_,?_,(((mJ w _).alloc zBT _).alloc zBS _).alloc zBS _,zH _⟩
  ·have h:=((Blk.new (w.alloc (.cells (rg v) 23)) 47 (lI ⟨op,x,y,n,nn,addr,len⟩)).alloc (.cells (prc q) 31)).alloc (.cells (pc mU) 23);rw[zR]at h;exact h
  ·have h:=(Blk.new ((w.alloc (.cells (rg v) 23)).alloc (.cells (lI ⟨op,x,y,n,nn,addr,len⟩) 47)) 31 (prc q)).alloc (.cells (pc mU) 23);rw[zR,zR]at h;exact h
  ·have h:=Blk.new (((w.alloc (.cells (rg v) 23)).alloc (.cells (lI ⟨op,x,y,n,nn,addr,len⟩) 47)).alloc (.cells (prc q) 31)) 23 (pc mU);rw[zR,zR,zR]at h;exact h)
 clear hv
 go_enter Tryz.func64,Tryz.ntmps64;go_upto_region 0 with fail;refine zN ?_;refine mZ rfl _ (.tmp 0) rfl (rg v) rfl ?_;simp only[Act.put,zQ,zZ,zJ];refine mZ rfl _ (.tmp 1) rfl (lI ⟨op,x,y,n,nn,addr,len⟩) rfl ?_;simp only[Act.put,zQ,zZ,zJ,zR];refine mZ rfl _ (.tmp 2) rfl (prc q) rfl ?_;simp only[Act.put,zQ,zZ,zJ,zR];refine qL rfl fun K hK=>nF FJ rfl (hK _ _ ?_);clear hK K;simp only[Act.put,zQ,zZ,zJ,zR];obtain⟨g,hg⟩:∃g,w.heap.size=g:=⟨_,rfl⟩;rw[hg]at D0⊢;generalize World.alloc (World.alloc (World.alloc (World.alloc _ _) _) _) _=w1 at D0⊢;have GL:=zW hg;clear hg;have D:=D0.out;have cx:=D.cx hx;have cy:=D.cx hy;have fx:=D.r.frozen x;have f15:=D.r.frozen 15;have c15:=D.cx (show 15<16 by decide);have i0:=(D.i.cell 0).trans rfl;have i1:=(D.i.cell 1).trans rfl;have i2:=(D.i.cell 2).trans rfl;have i4:=(D.i.cell 4).trans rfl;have p1:w1.cell? ⟨g+1+1,1,none⟩=some (.bool q.sh):=(D.p.cell 1).trans rfl;have p4:w1.cell? ⟨g+1+1,4,none⟩=some (.bool q.lr):=(D.p.cell 4).trans rfl;try simp only at i0 i1 i2 i4
 clear D;have xi:(x:Int)<16:=zBY;have yi:(y:Int)<16:=zBY;have XF:=zW (zY vx vy);have wx:=xM (show v x<65536 by omega);have wy:=xM (show v y<65536 by omega);have AV:∀r f,xO op (v x) (v y) (if q.sh=true then v y else v x) q.lr=f→xR op (v x) (v y) (if q.sh=true then v y else v x) nn=r→yC op=true→xZ v ⟨op,x,y,n,nn,addr,len⟩ q=(match f with|none=>upd v x r|some f=>upd (upd v x r) 15 f):=fun r f hf hr hi=>by
  unfold xZ shX;simp only[jS];rw[zG hi,hf,hr];cases f<;>rfl
 have AV:=zW AV;cases hs:q.sh
 ·rw[hs]at p1;by_cases h8:op=8
  ·exact zDV
  by_cases h9:op=9
  ·exact zSY
  by_cases h10:op=10
  ·exact zDK
  by_cases h11:op=11
  ·exact zF5
  by_cases h12:op=12
  ·exact zF6
  by_cases h13:op=13
  ·exact zF7
  by_cases h14:op=14
  ·exact zSF
  by_cases h15:op=15
  ·exact zSS
  by_cases h16:op=16
  ·subst h16;obtain⟨R,F,⟨q1,q2,q3,q4,q5,q6⟩,eR,eF⟩:=zQO (show v x<256 from vx);exact zSL
  by_cases h17:op=17
  ·exact zSP
  by_cases h18:op=18
  ·subst h18;obtain⟨d,R,F,⟨q1,q2,q3,q4,q5,q6,q7⟩,eR,eF⟩:=zQ0 (show v x<256 from vx);exact zSM
  exact zDX
 ·rw[hs]at p1;by_cases h8:op=8
  ·exact zDV
  by_cases h9:op=9
  ·exact zSY
  by_cases h10:op=10
  ·exact zDK
  by_cases h11:op=11
  ·exact zF5
  by_cases h12:op=12
  ·exact zF6
  by_cases h13:op=13
  ·exact zF7
  by_cases h14:op=14
  ·exact zSF
  by_cases h15:op=15
  ·exact zSS
  by_cases h16:op=16
  ·subst h16;obtain⟨R,F,⟨q1,q2,q3,q4,q5,q6⟩,eR,eF⟩:=zQO (show v y<256 from vy);exact zSL
  by_cases h17:op=17
  ·exact zSP
  by_cases h18:op=18
  ·subst h18;obtain⟨d,R,F,⟨q1,q2,q3,q4,q5,q6,q7⟩,eR,eF⟩:=zQ0 (show v y<256 from vy);exact zSM
  exact zDX
end
end Go.Proofs.YtcjldabaekbdlaaGreatDoor
