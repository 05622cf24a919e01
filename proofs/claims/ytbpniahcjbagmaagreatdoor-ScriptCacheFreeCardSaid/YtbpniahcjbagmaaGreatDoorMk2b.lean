/- CpuOk, CpuRC, CpuSame, DecRef, DecRef2, DecRef3, DecRef4, DecRef5, DecRef6, CpuSmall, CpuBuild, CpuRun, CpuM1. -/
import Derived.Test.YtbpniahcjbagmaaGreatDoorMk2a
set_option maxRecDepth 400000
set_option maxHeartbeats 64000000
set_option linter.unusedVariables false
set_option linter.unusedSimpArgs false
namespace Go.Proofs.YtbpniahcjbagmaaGreatDoor
section
open Go.RowKit Num Dec Cpu
def QP(i:Ins)(l:Int):Prop:=∃b0 b1 b2 b3:Nat,b0<256∧b1<256∧b2<256∧b3<256∧dec b0 b1 b2 b3 l=i
theorem QP.nat{i:Ins}{l:Int}(h:QP i l)(hl:1≤l∧l≤3):∃(op:Int) (x y n nn:Nat) (addr len:Int),i=⟨op,x,y,n,nn,addr,len⟩∧(0≤op∧op≤51)∧x<16∧y<16∧n<16∧nn<256∧(0≤addr∧addr≤65535)∧(0≤len∧len≤4):=by
 obtain⟨b0,b1,b2,b3,h0,h1,h2,h3,e⟩:=h;obtain⟨r1,r2,r3,r4,r5,r6⟩:=zQR b0 b1 b2 b3 l h0 h1 h2 h3 e;have hlen:0≤i.len∧i.len≤4:=by
  rcases J4 b0 b1 b2 b3 l h0 h1 hl with c|⟨_,_,_,_,c⟩
  ·rw[e]at c;rw[c];decide
  ·rw[e]at c;omega
 obtain⟨op,x,y,n,nn,addr,len⟩:=i;simp only at r1 r2 r3 r4 r5 r6 hlen;obtain⟨X,rfl⟩:=jW r2.1;obtain⟨Y,rfl⟩:=jW r3.1;obtain⟨M,rfl⟩:=jW r4.1;obtain⟨K,rfl⟩:=jW r5.1;exact⟨op,X,Y,M,K,addr,len,rfl,r1,by omega,by omega,by omega,by omega,r6,hlen⟩
theorem QP.up{i:Ins}{l m:Int}(h:QP i l)(hl:1≤l∧l≤3)(hm:l≤m∧m≤3)(hi:i.op≠0):QP i m:=by
 obtain⟨b0,b1,b2,b3,h0,h1,h2,h3,e⟩:=h;refine⟨b0,b1,b2,b3,h0,h1,h2,h3,?_⟩;rcases J4 b0 b1 b2 b3 l h0 h1 hl with c|⟨_,c,_⟩
 ·rw[e]at c;rw[c]at hi;exact absurd rfl hi
 ·rw[c m hm.1 hm.2,e]
structure OkB(a:AS):Prop where
 o:OkA a
 s:∀x∈a.sk,0≤x∧x≤65535
theorem zN8{v:Nat→Nat}(hv:OkV v)(op:Int)(x y nn:Nat)(n addr len:Int)(q:Pr)(hx:x<16)(hy:y<16)(hn:nn<256):OkV (bQ v ⟨op,x,y,n,nn,addr,len⟩ q):=by
 have hs:shX v ⟨op,x,y,n,nn,addr,len⟩ q<256:=by unfold shX;split;exact hv _ hy;exact hv _ hx
 have hR:gE op (v x) (v y) (shX v ⟨op,x,y,n,nn,addr,len⟩ q) nn<256:=zN9 (hv x hx) (hv y hy) hs hn;unfold bQ;simp only[Int.toNat_natCast];split
 ·split
  ·exact eF hv _ _ hR
  ·rename_i f hf
   have:=zHQ hs hf;exact eF (eF hv _ _ hR) _ _ zGX
 ·exact hv
theorem NS{v:Nat→Nat}(hv:OkV v)(r:List Int)(B:Nat→Nat):∀k,(∀j,j<k→B j<256)→OkV (ldN v r B k)
 |0,_=>hv
 |k+1,hB=>eF (NS hv r B k fun j hj=>hB j zGX) _ _ (hB k zGX)
theorem DY{v:Nat→Nat}(hv:OkV v)(r:List Int)(B:Nat→Nat)(hB:∀j,B j<256)(k:Nat):OkV (ldN v r B k):=NS hv r B k fun j _=>hB j
theorem dC{M:List Int}:Bts M↔∀x∈M,0≤x∧x≤255:=by
 constructor
 ·intro h x hx;obtain⟨k,hk,rfl⟩:=List.getElem_of_mem hx;exact h k hk
 ·exact fun h k hk=>h _ (j4 hk)
theorem pR:∀(b:List Int) (M:List Int) (a:Int),Bts M→(∀x∈b,0≤x∧x≤255)→Bts (put M a b)
 |[],M,a,h,_=>h
 |x::t,M,a,h,hb=>by
  refine pR t _ _ ?_ fun y hy=>hb y (by simp[hy]);rw[dC]at h⊢;intro y hy;rcases List.mem_or_eq_of_mem_set hy with c|c
  ·exact h y c
  ·rw[c];exact hb x zGN
theorem oO{a:AS}(O:OkA a)(b:Bool)(l:Int):OkA (rW a b l):=by
 unfold rW;split
 ·exact⟨O.v,O.i,(by simp only;omega),O.sk,O.M,O.B,O.msk,O.ks,O.dl,O.sd,O.P,O.pt,O.fl,O.L,O.LB,O.rd⟩
 ·exact O
theorem JR{a:AS}(O:OkA a){v:Nat→Nat}(hv:OkV v):OkA {a with v:=v}:=⟨hv,O.i,O.pc,O.sk,O.M,O.B,O.msk,O.ks,O.dl,O.sd,O.P,O.pt,O.fl,O.L,O.LB,O.rd⟩
theorem VF{a:AS}(O:OkA a){i:Int}(hi:0≤i∧i≤65535):OkA {a with i:=i}:=⟨O.v,hi,O.pc,O.sk,O.M,O.B,O.msk,O.ks,O.dl,O.sd,O.P,O.pt,O.fl,O.L,O.LB,O.rd⟩
theorem BR{a:AS}(O:OkA a){i:Int}(hi:0≤i∧i≤65535):OkA {a with pc:=i}:=⟨O.v,O.i,hi,O.sk,O.M,O.B,O.msk,O.ks,O.dl,O.sd,O.P,O.pt,O.fl,O.L,O.LB,O.rd⟩
theorem A6{a:AS}(O:OkA a){b:List Int}{i:Int}(hb:∀x∈b,0≤x∧x≤255):OkA {a with M:=put a.M i b}:=⟨O.v,O.i,O.pc,O.sk,(by simp only;rw[xZ];exact O.M),pR b _ _ O.B hb,O.msk,O.ks,O.dl,O.sd,O.P,O.pt,O.fl,O.L,O.LB,O.rd⟩
theorem VD{a:AS}(O:OkA a)(op:Int)(x y n:Nat)(hx:x<16)(hy:y<16):OkA (QR a op x y (spN a.msk op x y n)):=by
 have hb:=fun j=>EO O.B a.i j;unfold QR;split
 ·refine A6 O fun c hc=>?_;have hv:=O.v x hx;unfold N9 at hc;simp only[List.mem_cons,qT,or_false]at hc;rcases hc with rfl|rfl|rfl<;>omega
 split
 ·refine A6 O fun c hc=>?_;unfold vY at hc;simp only[jG,jD]at hc;obtain⟨j,hj,rfl⟩:=hc;have hk:spN a.msk op x y n=x+1:=by rename_i h1 h2;subst h2;rfl
  have:=O.v j zGX;omega
 split
 ·exact JR O (DY O.v _ _ (fun j=>by have:=hb j;omega) _)
 split
 ·refine A6 O fun c hc=>?_;simp only[jG]at hc;obtain⟨r,hr,rfl⟩:=hc;have h16:r.toNat<16:=by
   unfold rM at hr;split at hr
   ·unfold upL at hr;simp only[jG,jD]at hr;obtain⟨j,hj,rfl⟩:=hr;omega
   ·unfold dnL at hr;simp only[jG,jD]at hr;obtain⟨j,hj,rfl⟩:=hr;omega
  have:=O.v _ h16;omega
 split
 ·exact JR O (DY O.v _ _ (fun j=>by have:=hb j;omega) _)
 split
 ·rename_i h
  have hk:spN a.msk op x y n=16:=by subst h;rfl
  exact⟨O.v,O.i,O.pc,O.sk,O.M,O.B,O.msk,O.ks,O.dl,O.sd,(by simp only;rw[cO,hk]),O.pt,O.fl,O.L,O.LB,O.rd⟩
 ·exact O
theorem zLL{a:AS}(O:OkA a)(op:Int)(x y n:Nat)(ki:Bool)(hx:x<16)(hy:y<16):OkA (ZX a op x y (spN a.msk op x y n) ki):=by
 unfold ZX;split
 ·exact VF (VD O op x y n hx hy) zGX
 ·exact VD O op x y n hx hy
theorem zLM{a:AS}(O:OkA a)(op:Int){n:Nat}(hn:n<16):OkA (eJ a op n):=by
 unfold eJ;repeat' split
 all_goals first|exact O|exact⟨O.v,O.i,O.pc,O.sk,O.M,O.B,O.msk,O.ks,O.dl,O.sd,O.P,O.pt,O.fl,O.L,O.LB,O.rd⟩|exact⟨O.v,O.i,O.pc,O.sk,O.M,O.B,(by simp only;omega),O.ks,O.dl,O.sd,O.P,O.pt,O.fl,O.L,O.LB,O.rd⟩
theorem rH{c:Prop}[Decidable c]{x y:AS}(hx:c→OkA x)(hy:¬c→OkA y):OkA (if c then x else y):=by
 by_cases h:c
 ·rw[zN h];exact hx h
 ·rw[zL h];exact hy h
theorem zJN{c:Prop}[Decidable c]{x y:AS}{z:List Int}(hx:x.sk=z)(hy:y.sk=z):(if c then x else y).sk=z:=by
 by_cases h:c
 ·rw[zN h];exact hx
 ·rw[zL h];exact hy
theorem rd_if{c:Prop}[Decidable c]{x y:AS}{z:Nat}(hx:x.rd≤z)(hy:y.rd≤z):(if c then x else y).rd≤z:=by
 by_cases h:c
 ·rw[zN h];exact hx
 ·rw[zL h];exact hy
theorem zJ9{c:Prop}[Decidable c]{x y:AS}{z:Nat}(hx:x.rd=z)(hy:y.rd=z):(if c then x else y).rd=z:=by
 by_cases h:c
 ·rw[zN h];exact hx
 ·rw[zL h];exact hy
theorem zLN{a:AS}(O:OkA a)(hr:a.rd<1000000000)(op:Int)(x nn:Nat)(addr:Int)(hx:x<16)(hn:nn<256)(ha:0≤addr∧addr≤65535):OkA (WA a op x nn addr):=by
 have vx:=O.v x hx;have h16:(a.v x%16:Nat)<16:=kU _ zGL;unfold WA;refine rH (fun hop=>?_) fun hop=>?_
 ·exact VF O ha
 refine rH (fun hop=>?_) fun hop=>?_
 ·obtain⟨bn,e,hb⟩:=VS O.LB a.rd;have hw:(nxt a.L a.rd).toNat&&&nn<256:=Nat.lt_of_le_of_lt Nat.and_le_right hn;exact⟨eF O.v _ _ hw,O.i,O.pc,O.sk,O.M,O.B,O.msk,O.ks,O.dl,O.sd,O.P,O.pt,O.fl,O.L,O.LB,by simp only;omega⟩
 refine rH (fun hop=>?_) fun hop=>?_
 ·exact JR O (eF O.v _ _ O.dl)
 refine rH (fun hop=>?_) fun hop=>?_
 ·exact⟨O.v,O.i,O.pc,O.sk,O.M,O.B,O.msk,O.ks,vx,O.sd,O.P,O.pt,O.fl,O.L,O.LB,O.rd⟩
 refine rH (fun hop=>?_) fun hop=>?_
 ·exact⟨O.v,O.i,O.pc,O.sk,O.M,O.B,O.msk,O.ks,O.dl,vx,O.P,O.pt,O.fl,O.L,O.LB,O.rd⟩
 refine rH (fun hop=>?_) fun hop=>?_
 ·exact VF O zGX
 refine rH (fun hop=>?_) fun hop=>?_
 ·exact VF O zGX
 refine rH (fun hop=>?_) fun hop=>?_
 ·exact VF O zGX
 refine rH (fun hop=>?_) fun hop=>?_
 ·refine⟨O.v,O.i,O.pc,O.sk,O.M,O.B,O.msk,O.ks,O.dl,O.sd,O.P,O.pt,fun j hj=>?_,O.L,O.LB,O.rd⟩;simp only;by_cases hl:j<(vY a.v (x+1)).length
  ·rw[zHI _ _ _ hl,show(vY a.v (x+1))[j]'hl=(a.v j:Int)from by simp[vY]];have:=O.v j hj;omega
  ·rw[zXD _ _ _ hl];exact O.fl j hj
 refine rH (fun hop=>?_) fun hop=>?_
 ·exact JR O (NS O.v _ _ _ fun j hj=>by have:=O.fl j zGX;omega)
 refine rH (fun hop=>?_) fun hop=>?_
 ·exact⟨O.v,O.i,O.pc,O.sk,O.M,O.B,O.msk,O.ks,O.dl,O.sd,O.P,vx,O.fl,O.L,O.LB,O.rd⟩
 ·exact O
theorem zXO{a:AS}(O:OkA a){L:List Int}(hL:L.length≤16){pc:Int}(hp:0≤pc∧pc≤65535):OkA {a with sk:=L,pc:=pc}:=⟨O.v,O.i,hp,hL,O.M,O.B,O.msk,O.ks,O.dl,O.sd,O.P,O.pt,O.fl,O.L,O.LB,O.rd⟩
theorem gW{a b:AS}(O:OkB a)(h:OkA b)(e:b.sk=a.sk):OkB b:=⟨h,by rw[e];exact O.s⟩
theorem MK(a:AS)(b:Bool)(l:Int):(rW a b l).sk=a.sk:=by unfold rW;split<;>rfl
theorem sk_mem(a:AS)(op:Int)(x y k:Nat)(ki:Bool):(ZX a op x y k ki).sk=a.sk:=by
 have h:(QR a op x y k).sk=a.sk:=by unfold QR;repeat' (first|rfl|refine zJN ?_ ?_)
 unfold ZX
 split
 ·exact h
 ·exact h
theorem sk_dsp(a:AS)(op:Int)(n:Nat):(eJ a op n).sk=a.sk:=by
 unfold eJ;repeat' (first|rfl|refine zJN ?_ ?_)
theorem sk_dev(a:AS)(op:Int)(x nn:Nat)(addr:Int):(WA a op x nn addr).sk=a.sk:=by
 unfold WA;repeat' (first|rfl|refine zJN ?_ ?_)
theorem zXQ(a:AS)(op:Int)(n:Nat):(eJ a op n).rd=a.rd:=by
 unfold eJ;repeat' (first|rfl|refine zJ9 ?_ ?_)
theorem zLW(N:Nat){a:AS}(O:OkB a)(hr:a.rd<1000000000)(op:Int)(x y n nn:Nat)(addr len:Int)(q:Pr)(hx:x<16)(hy:y<16)(hn:n<16)(hnn:nn<256)(ha:0≤addr∧addr≤65535)(hf:op=4→a.sk.length≠16):OkB (stB N a op x y n nn addr len q):=by
 have O':=O.o;unfold stB;split
 ·exact gW O (JR O' (zN8 O'.v op x y nn n addr len q hx hy hnn)) rfl
 split
 ·exact gW O (oO O' _ _) (MK _ _ _)
 split
 ·exact gW O (oO O' _ _) (MK _ _ _)
 split
 ·exact gW O (oO O' _ _) (MK _ _ _)
 split
 ·have hp:0≤a.sk.getLastD 0∧a.sk.getLastD 0≤65535:=by
   rcases List.eq_nil_or_concat a.sk with e|⟨L,b,e⟩
   ·rw[e];decide
   ·rw[e];have:=O.s b (by rw[e];simp);simpa using this
  refine⟨zXO O' (by rw[List.length_dropLast];have:=O'.sk;omega) hp,fun c hc=>O.s c (List.dropLast_subset _ hc)⟩
 split
 ·exact gW O (BR O' ha) rfl
 split
 ·rename_i h4
  refine⟨zXO O' (by have h1:=O'.sk;have h2:=hf h4;simp;omega) ha,fun c hc=>?_⟩;simp only[List.mem_append,List.mem_cons,qT,or_false]at hc;rcases hc with hc|rfl
  ·exact O.s c hc
  ·exact O'.pc
 split
 ·exact gW O (BR O' zGX) rfl
 split
 ·refine gW O ?_ rfl;have hv:OkV (Cpu.upd a.v 15 (if hiK (byC a.M a.i) a.F a.msk n (op==41) q.cl (a.v x) (a.v y) (rwN a.hi) (rhN a.hi) N 4=true then 1 else 0)):=eF O'.v _ _ (by split<;>decide);exact⟨hv,O'.i,O'.pc,O'.sk,O'.M,O'.B,O'.msk,O'.ks,O'.dl,O'.sd,O'.P,O'.pt,O'.fl,O'.L,O'.LB,O'.rd⟩
 split
 ·exact gW O (zLL O' op x y n q.ki hx hy) (sk_mem _ _ _ _ _ _)
 ·exact gW O (zLN (zLM O' op hn) (by rw[zXQ];exact hr) op x nn addr hx hnn ha) ((sk_dev _ _ _ _ _).trans (sk_dsp _ _ _))
theorem okB_st(N:Nat){a:AS}(O:OkB a)(hr:a.rd<1000000000)(op:Int)(x y n nn:Nat)(addr len:Int)(q:Pr)(hx:x<16)(hy:y<16)(hn:n<16)(hnn:nn<256)(ha:0≤addr∧addr≤65535):OkB (stA N a op x y n nn addr len q):=by
 unfold stA;split
 ·rename_i hc
  split
  ·exact O
  ·have O1:OkB (nxA a len):=⟨BR O.o zGX,O.s⟩;refine zLW N O1 hr op x y n nn addr len q hx hy hn hnn ha fun h4 h16=>?_;unfold caA caN at hc;rw[zL zGX,zN ⟨h4,h16⟩]at hc;cases hc
 ·exact O
theorem rd_dev(a:AS)(op:Int)(x nn:Nat)(addr:Int):(WA a op x nn addr).rd≤a.rd+1:=by
 unfold WA;repeat' (first|exact jT _|exact zG _|refine rd_if ?_ ?_)
theorem rd_st(N:Nat)(a:AS)(op:Int)(x y n nn:Nat)(addr len:Int)(q:Pr):(stA N a op x y n nn addr len q).rd≤a.rd+1:=by
 have hs:∀(b:AS) (t:Bool) (l:Int),(rW b t l).rd=b.rd:=fun b t l=>by unfold rW;split<;>rfl
 have hm:∀(b:AS) (k:Nat),(ZX b op x y k q.ki).rd=b.rd:=fun b k=>by
  have h:(QR b op x y k).rd=b.rd:=by unfold QR;repeat' (first|rfl|refine zJ9 ?_ ?_)
  unfold ZX
  split
  ·exact h
  ·exact h
 have h0:(nxA a len).rd=a.rd:=rfl
 unfold stA;split
 ·split
  ·omega
  ·unfold stB;repeat' split
   all_goals first|(rw[hs,h0];omega)|(rw[hm,h0];omega)|(have h:=rd_dev (eJ (nxA a len) op n) op x nn addr;rw[zXQ,h0]at h;exact h)|(show(nxA a len).rd≤_;rw[h0];omega)
 ·omega
def vH(b m g:Nat)(v:Value)(k:Nat):Prop:=k=b∨k=m∨k=g∨v.ownBlock=some k
structure Lg where
 n:Nat
 Z:List Int
instance:HAdd Lg Nat Lg:=⟨fun l k=>⟨l.n+k,l.Z⟩⟩
instance:LE Lg:=⟨fun l k=>l.n≤k.n∧l.Z=k.Z⟩
theorem Lg.up(l:Lg)(k:Nat):l≤l+k:=⟨Nat.le_add_right _ _,rfl⟩
theorem Lg.more(l:Lg){j k:Nat}(h:j≤k):l+j≤l+k:=⟨Nat.add_le_add_left h _,rfl⟩
def spV(S:List (Int×Int)):List Value:=S.flatMap fun s=>[.int .i64 s.1,.int .i64 s.2]
def Lgd(Z M:List Int)(xs:List Value):Prop:=∃S:List (Int×Int),xs=spV S∧(∀s∈S,0≤s.1∧s.1≤65535∧0≤s.2∧s.2≤65536)∧∀j:Nat,j<65536→(∀s∈S,¬((j:Int)-s.1)%65536<s.2)→M[j]?=Z[j]?
theorem Lgd.nil(M:List Int):Lgd M M []:=⟨[],rfl,fun s hs=>absurd hs qT,fun _ _ _=>rfl⟩
theorem Lgd.snoc{Z M M':List Int}{xs:List Value}{y z:Int}(h:Lgd Z M xs)(hy:0≤y∧y≤65535∧0≤z∧z≤65536)(hj:∀j:Nat,j<65536→¬((j:Int)-y)%65536<z→M'[j]?=M[j]?):Lgd Z M' (xs++[.int .i64 y,.int .i64 z]):=by
 obtain⟨S,e,hs,hd⟩:=h;refine⟨S++[(y,z)],?_,?_,fun j h1 h2=>?_⟩
 ·rw[e];simp[spV]
 ·intro s h;rcases List.mem_append.1 h with h|h
  ·exact hs s h
  ·rw[List.mem_singleton.1 h];exact hy
 ·exact(hj j h1 (h2 (y,z) (List.mem_append.2 (.inr (List.mem_singleton.2 rfl))))).trans (hd j h1 fun s h=>h2 s (List.mem_append.2 (.inl h)))
def QX(base:Nat)(lg:Lg)(M:List Int)(v:Value)(w:World):Prop:=∃n xs,w.ownsRow base 168 2 v n xs∧n≤lg.n∧(n=0→v.ownBlock=none)∧(∀x∈xs,∃i,x=.int .i64 i)∧Lgd lg.Z M xs
structure RC(base:Nat)(lg:Lg)(b m g:Nat)(v:Value)(a:AS)(w:World):Prop where
 st:Blk b 89 (stC a m g) w
 mem:nV m a.M v w
 log:QX base lg a.M v w
 rnd:St base g a.L a.rd w
 res:∀i,i<4→yL (a.F i) (wid a.hi) (hei a.hi)
 bb:base≤b
 bm:base≤m
section
variable {base:Nat} {lg:Lg} {b m g:Nat} {v:Value} {a:AS} {w w':World}
theorem QX.below{M:List Int}(h:QX base lg M v w)(hb:Below w.heap.size w w'):QX base lg M v w':=let⟨n,xs,o,r⟩:=h;⟨n,xs,U4 o hb,r⟩
theorem QX.lt{M:List Int}(h:QX base lg M v w){k:Nat}(e:v.ownBlock=some k):base≤k∧k<w.heap.size:=let⟨n,xs,o,_⟩:=h;o.lt k e
theorem QX.first{M:List Int}(h:QX base lg M v w){k:Nat}(e:v.ownBlock=some k):∃i,w.cell? ⟨k,0,none⟩=some (.int .i64 i):=by
 obtain⟨n,xs,o,_,h0,hi,_⟩:=h;have hn:0<n:=by
  rcases Nat.eq_zero_or_pos n with c|c
  ·rw[h0 c]at e;cases e
  ·exact c
 have hl:xs.length=n*2:=o.1;have hx:xs[0]?=some (xs[0]' zGX):=zS zGX;obtain⟨i,hi⟩:=hi _ (j4 (by omega:0<xs.length));exact⟨i,by rw[←hi];exact o.cells e 0 _ hx⟩
theorem RC.lt(h:RC base lg b m g v a w):∀k,vH b m g v k→base≤k∧k<w.heap.size:=by
 rintro k (rfl|rfl|rfl|e)
 ·exact⟨h.bb,h.st.lt⟩
 ·exact⟨h.bm,h.mem.lt⟩
 ·exact⟨h.rnd.low,h.rnd.lt⟩
 ·exact h.log.lt e
theorem RC.step(h:RC base lg b m g v a w)(hb:Below w.heap.size w w'):RC base lg b m g v a w':=
 ⟨h.st.step hb,(hb.block m h.mem.lt).trans h.mem,h.log.below hb,h.rnd.step hb,h.res,h.bb,h.bm⟩
theorem RC.tag(h:RC base lg b m g v a w):∀k,vH b m g v k→∃cs T fr,w.heap[k]?=some (.cells cs T fr)∧(T=89∨T=144∨T=148∨T=168):=by
 rintro k (rfl|rfl|rfl|e)
 ·exact⟨_,_,_,h.st,.inl rfl⟩
 ·exact⟨_,_,_,h.mem,.inr (.inl rfl)⟩
 ·obtain⟨A,c,hb,_⟩:=h.rnd.held;exact⟨_,_,_,hb,.inr (.inr (.inl rfl))⟩
 ·obtain⟨n,xs,o,_⟩:=h.log;rcases o.2 with⟨e1,_⟩|⟨g',cap,cur,e1,_,hh,_⟩
  ·rw[e1]at e;cases e
  ·rw[e1]at e;cases e
   exact⟨_,_,_,hh,.inr (.inr (.inr rfl))⟩
theorem RC.ne(h:RC base lg b m g v a w):b≠m∧b≠g∧m≠g∧v.ownBlock≠some b∧v.ownBlock≠some m∧v.ownBlock≠some g:=by
 have hS:w.heap[b]?=some (.cells (stC a m g) 89 (0,0)):=h.st;have hM:w.heap[m]?=some (.cells (cells a.M v) 144 (0,0)):=h.mem;obtain⟨A,c,hG,_⟩:=h.rnd.held;have hG:w.heap[g]?=some (.cells _ 148 (0,0)):=hG;have hL:∀k,v.ownBlock=some k→∃cur,w.heap[k]?=some (.cells cur 168 (0,0)):=fun k e=>by
  obtain⟨n,xs,o,_⟩:=h.log;rcases o.2 with⟨e1,_⟩|⟨g',cap,cur,e1,_,hh,_⟩
  ·rw[e1]at e;cases e
  ·rw[e1]at e;cases e
   exact⟨cur,hh⟩
 refine⟨?_,?_,?_,?_,?_,?_⟩
 ·rintro rfl;rw[hM]at hS;injection hS with hS;injection hS with _ e;cases e
 ·rintro rfl;rw[hG]at hS;injection hS with hS;injection hS with _ e;cases e
 ·rintro rfl;rw[hG]at hM;injection hM with hM;injection hM with _ e;cases e
 ·intro e;obtain⟨cur,hh⟩:=hL _ e;rw[hS]at hh;injection hh with hh;injection hh with _ e;cases e
 ·intro e;obtain⟨cur,hh⟩:=hL _ e;rw[hM]at hh;injection hh with hh;injection hh with _ e;cases e
 ·intro e;obtain⟨cur,hh⟩:=hL _ e;rw[hG]at hh;injection hh with hh;injection hh with _ e;cases e
theorem RC.row_off(h:RC base lg b m g v a w){bs n size:Nat}{e:TypeId}{u:Value}{xs:List Value}(o:w.ownsRow bs e size u n xs)(he:e≠89∧e≠144∧e≠148∧e≠168):∀k,u.ownBlock=some k→¬vH b m g v k:=fun k ek c=>by
 obtain⟨cs,T,fr,hh,hT⟩:=h.tag k c;rcases o.2 with⟨e1,_⟩|⟨g',cap,cur,e1,_,h2,_⟩
 ·rw[e1]at ek;cases ek
 ·rw[e1]at ek;cases ek
  rw[hh]at h2
  injection h2 with h2
  injection h2 with _ e3
  subst e3;rcases hT with e4|e4|e4|e4
  ·exact he.1 e4
  ·exact he.2.1 e4
  ·exact he.2.2.1 e4
  ·exact he.2.2.2 e4
theorem RC.other{base2:Nat}{lg2:Lg}{b2 m2 g2:Nat}{v2:Value}{a2:AS}(h:RC base lg b m g v a w)(h2:RC base2 lg2 b2 m2 g2 v2 a2 w)(k:lS (vH b m g v) w w')(hd:∀j,vH b2 m2 g2 v2 j→¬vH b m g v j):RC base2 lg2 b2 m2 g2 v2 a2 w':=by
 have blk:∀j,vH b2 m2 g2 v2 j→w'.heap[j]?=w.heap[j]?:=fun j hj=>k.block j (h2.lt j hj).2 (hd j hj);refine⟨(blk b2 (.inl rfl)).trans h2.st,(blk m2 (.inr (.inl rfl))).trans h2.mem,?_,?_,h2.res,h2.bb,h2.bm⟩
 ·obtain⟨n,xs,o,r⟩:=h2.log;exact⟨n,xs,cV o k fun j ej=>hd j (.inr (.inr (.inr ej))),r⟩
 ·obtain⟨A,c,hb,o⟩:=h2.rnd.held;exact⟨h2.rnd.low,A,c,(blk g2 (.inr (.inr (.inl rfl)))).trans hb,cV o k (h.row_off o ⟨by decide,by decide,by decide,by decide⟩)⟩
end
def QZ(O:Nat→Prop)(s:Sl):Prop:=∀ad,s.A=some ad→0<s.n→¬O ad.block
structure TD(O:Nat→Prop)(z:Sls):Prop where
 sk:QZ O z.sk
 M:QZ O z.M
 G:QZ O z.G
 K:QZ O z.K
 P:QZ O z.P
 fl:QZ O z.fl
 L:QZ O z.L
theorem TD.fr{O:Nat→Prop}{w:World}{z z':Sls}(h:TD O z)(f:Fr w z z')(ho:∀k,O k→k<w.heap.size)(hG:z.G.n=z'.G.n):TD O z':=by
 have new:∀s:Sl,FrS w s→QZ O s:=fun s fs ad e _ c=>by have h1:=fs ad e;have h2:=ho _ c;omega
 refine⟨?_,f.M.elim (fun e=>e▸h.M) (new _),?_,f.K▸h.K,f.P.elim (fun e=>e▸h.P) (new _),f.fl.elim (fun e=>e▸h.fl) (new _),f.L▸h.L⟩
 ·rcases f.sk with⟨e,hn⟩|f
  ·intro ad ea hp;rw[e]at ea;exact h.sk ad ea zGX
  ·exact new _ f
 ·rcases f.G with e|f
  ·intro ad ea hp;rw[e]at ea;exact h.G ad ea zGX
  ·intro ad ea _ c;have h1:=f ad ea;have h2:=ho _ c;omega
section
variable {N base:Nat} {lg:Lg} {b m g:Nat} {v:Value} {a a2:AS} {w w':World} {z:Sls}
theorem oT{O:Nat→Prop}{A:Option Addr}{n:Nat}{L:List Int}(h:Rd w A L)(hl:L.length=n)(k:lS O w w')(ho:∀ad,A=some ad→0<n→¬O ad.block):Rd w' A L:=fun hne=>by
 obtain⟨ad,e,hb,hc⟩:=h hne;have hn:=ho ad e (by have:=List.length_pos_iff.2 hne;omega);exact⟨ad,e,zD hb k.size,fun j hj=>(qU (by rw[y9];exact k.block _ hb hn)).trans (hc j hj)⟩
theorem TD.grown{v':Value}(f:TD (vH b m g v) z)(R:RS N w z a2)(hv:v'.ownBlock=v.ownBlock∨∃k,v'.ownBlock=some k∧w.heap.size≤k):TD (vH b m g v') z:=by
 have key:∀s:Sl,QZ (vH b m g v) s→(∀ad,s.A=some ad→0<s.n→ad.block<w.heap.size)→QZ (vH b m g v') s:=fun s h1 h2 ad e hp c=>by
  rcases c with c|c|c|c
  ·exact h1 ad e hp (.inl c)
  ·exact h1 ad e hp (.inr (.inl c))
  ·exact h1 ad e hp (.inr (.inr (.inl c)))
  ·rcases hv with e1|⟨k,e1,hk⟩
   ·exact h1 ad e hp (.inr (.inr (.inr (e1▸c))))
   ·rw[e1]at c;cases c
    have:=h2 ad e hp
    omega
 have rdl:∀(A:Option Addr) (L:List Int) (n:Nat),Rd w A L→L.length=n→∀ad,A=some ad→0<n→ad.block<w.heap.size:=fun A L n h hl ad e hp=>by
  obtain⟨ad2,e2,hb,_⟩:=h (by intro c;rw[c]at hl;simp at hl;omega);rw[e]at e2;cases e2
  exact hb
 refine⟨key _ f.sk ?_,key _ f.M ?_,key _ f.G ?_,key _ f.K ?_,key _ f.P (rdl _ _ _ R.P.1 R.P.2),key _ f.fl (rdl _ _ _ R.fl.2 (by rw[m5];exact R.fl.1.symm)),key _ f.L (rdl _ _ _ R.L.1 R.L.2)⟩
 ·exact zRN
 ·intro ad e _;obtain⟨ad2,c,e2,r⟩:=R.M;rw[e2]at e;cases e
  exact r.1
 ·exact zRK
 ·exact zR1
end
structure vR(N:Nat):Prop where
 new_:∀(A:Option Addr) (n c:Nat) (R:List Int) (B:Option Addr) (k d:Nat) (L:List Int) (w:World),cQ w→Rd w A R→R.length=n→n≤65024→Rd w B L→L.length=k→k≤100000→
  Calls Tryz.prog 36 #[.slice A n c,.slice B k d] w fun e w'=>∃b m g v,e=.returned (.tuple #[.pointer (some ⟨b,0,none⟩),.int .i64 0])∧RC w.heap.size ⟨0,(uB R L).M⟩ b m g v (uB R L) w'∧Below w.heap.size w w'
 long:∀(A:Option Addr) (n c:Nat) (B:Option Addr) (k d:Nat) (L:List Int) (w:World),cQ w→65024<n→n≤1000000→Rd w B L→L.length=k→k≤100000→
  Calls Tryz.prog 36 #[.slice A n c,.slice B k d] w fun e w'=>e=.returned (.tuple #[.pointer none,.int .i64 7])∧Below w.heap.size w w'
 exec:∀(base:Nat) (lg:Lg) (b m g:Nat) (v:Value) (a:AS) (op:Int) (x y n nn:Nat) (addr len:Int) (q:Pr) (w:World),cQ w→RC base lg b m g v a w→OkB a→lg.n≤900→QP ⟨op,x,y,n,nn,addr,len⟩ q.lv→(0≤op∧op≤51)→x<16→y<16→n<16→nn<256→(0≤addr∧addr≤65535)→(0≤len∧len≤4)→(1≤q.lv∧q.lv≤3)→base≤w.heap.size→
  Calls Tryz.prog 67 #[.pointer (some ⟨b,0,none⟩),.agg (lB ⟨op,x,y,n,nn,addr,len⟩),.agg (prc q)] w fun e w'=>e=.returned (.agg (efc (efA a op x y n q)))∧
   ∃v',RC base (lg+16) b m g v' (stA N a op x y n nn addr len q) w'∧lS (vH b m g v) w w'∧(v'.ownBlock=v.ownBlock∨∃k,v'.ownBlock=some k∧w.heap.size≤k)
 none_:∀w:World,Calls Tryz.prog 32 #[.pointer none] w fun e w'=>e=.returned (.pointer none)∧Below w.heap.size w w'
 clone:∀(base:Nat) (lg:Lg) (b m g:Nat) (v:Value) (a:AS) (w:World),cQ w→RC base lg b m g v a w→OkB a→
  Calls Tryz.prog 32 #[.pointer (some ⟨b,0,none⟩)] w fun e w'=>∃b2 m2 g2 v2,e=.returned (.pointer (some ⟨b2,0,none⟩))∧RC w.heap.size ⟨0,a.M⟩ b2 m2 g2 v2 a w'∧Below w.heap.size w w'
theorem fI:vZ Tryz.prog 133 4:=⟨⟨_,Tryz.underlying133,rfl⟩,by kernel_rfl⟩
theorem iY:nH Tryz.prog 133 (efc ⟨0,false,false,false⟩):=by unfold nH;kernel_rfl
section
variable {ops:Array Oper} {C:World→Prop} {Q:Act→Prop} {o:Oper} {rest:List Oper} {ac:Act}
end
theorem Rm.rd{ad:Addr}{M:List Int}{w:World}(h:Rm ad M w):Rd w (some ad) M:=fun _=>⟨ad,rfl,h.1,h.2⟩
theorem zVR(p o:Nat)(w:World):(Instr.sliceAt 43 (.pointer (some ⟨p,o,none⟩)) none none none).run Tryz.prog w=.ok (.slice (some ⟨p,o,none⟩) 16 16) w:=by
 have h:=run_sliceAt_array_all (P:=Tryz.prog) w 43 ⟨p,o,none⟩ Tryz.underlying43;exact zRP
theorem iR{b:Nat}{T:TypeId}{cs:Array Value}{w:World}(H:Blk b T cs w)(o:Nat)(L:List Int)(h:∀j (hj:j<L.length),cs[o+j]?=some (.int .u8 L[j])):Rd w (some ⟨b,o,none⟩) L:=fun _=>⟨_,rfl,H.lt,fun j hj=>by rw[xE,H.cell];exact h j hj⟩
end
section
open Go.RowKit Num Dec
def fv(hd x y n nn nnn:Nat):Value:=.agg #[.int .i64 (hd:Int),.int .i64 (x:Int),.int .i64 (y:Int),.int .i64 (n:Int),.int .i64 (nn:Int),.int .i64 (nnn:Int)]
section
variable {w0 w w':World} {g bx:Nat} {fc cs:Array Value}
end




end
section
open Go.RowKit Num Dec Cpu

theorem RC.own{base:Nat}{lg:Lg}{b m g:Nat}{v:Value}{a a':AS}{w w':World}(h:RC base lg b m g v a w)(hb:Blk b 89 (stC a' m g) w')(hs:w.heap.size≤w'.heap.size)(hk:∀k,k≠b→w'.heap[k]?=w.heap[k]?)(eM:a'.M=a.M)(eL:a'.L=a.L)(eR:a'.rd=a.rd)(hres:∀i,i<4→yL (a'.F i) (wid a'.hi) (hei a'.hi)):RC base lg b m g v a' w':=by
 obtain⟨n1,n2,n3,n4,n5,n6⟩:=h.ne;have rowk:∀{bs n size:Nat} {e:TypeId} {u:Value} {xs:List Value},w.ownsRow bs e size u n xs→u.ownBlock≠some b→w'.ownsRow bs e size u n xs:=fun o hn=>by
  exact zRM
 refine⟨hb,?_,?_,?_,hres,h.bb,h.bm⟩
 ·rw[eM];exact(hk m (fun e=>n1 e.symm)).trans h.mem
 ·rw[eM];obtain⟨n,xs,o,r⟩:=h.log;exact⟨n,xs,rowk o n4,r⟩
 ·rw[eL,eR];obtain⟨A,c,hg,o⟩:=h.rnd.held;exact⟨h.rnd.low,A,c,(hk g (fun e=>n2 e.symm)).trans hg,rowk o fun e=>h.row_off o ⟨by decide,by decide,by decide,by decide⟩ _ e (.inl rfl)⟩
theorem RC.put{base:Nat}{lg:Lg}{b m g:Nat}{v:Value}{a a':AS}{w:World}(h:RC base lg b m g v a w)(k:Nat)(x:Value)(e:(stC a m g).setIfInBounds k x=stC a' m g)(eM:a'.M=a.M)(eL:a'.L=a.L)(eR:a'.rd=a.rd)(hres:∀i,i<4→yL (a'.F i) (wid a'.hi) (hei a'.hi)):RC base lg b m g v a' (w.setCell ⟨b,k,none⟩ x):=
 h.own ((h.st.put k x).eq e) (by simp[World.setCell]) (fun j hj=>qD _ _ _ _ hj) eM eL eR hres
theorem RC.row{base:Nat}{lg:Lg}{b m g:Nat}{v:Value}{a a':AS}{w:World}{cs:Array Value}(h:RC base lg b m g v a w)(e:cs=stC a' m g)(eM:a'.M=a.M)(eL:a'.L=a.L)(eR:a'.rd=a.rd)(hres:∀i,i<4→yL (a'.F i) (wid a'.hi) (hei a'.hi)):RC base lg b m g v a' (w.setRow b cs):=
 h.own (by rw[e];exact h.st.store _) (by simp[World.setRow]) (fun j hj=>qQ _ _ _ _ hj) eM eL eR hres
theorem RC.away{base:Nat}{lg:Lg}{b m g:Nat}{v:Value}{a:AS}{w w':World}{q:Nat}{T:TypeId}{cs:Array Value}(h:RC base lg b m g v a w)(hq:Blk q T cs w)(hT:T≠89∧T≠144∧T≠148∧T≠168∧T≠5)(hs:w.heap.size≤w'.heap.size)(hk:∀k,k≠q→w'.heap[k]?=w.heap[k]?):RC base lg b m g v a w':=by
 have no:∀k,vH b m g v k→k≠q:=fun k hk e=>by
  obtain⟨cs',T',fr,hh,hT'⟩:=h.tag k hk;have hq:w.heap[q]?=some (.cells cs T (0,0)):=hq;rw[e,hq]at hh;injection hh with hh
  injection hh with _ e3
  subst e3;rcases hT' with e4|e4|e4|e4
  ·exact hT.1 e4
  ·exact hT.2.1 e4
  ·exact hT.2.2.1 e4
  ·exact hT.2.2.2.1 e4
 have rowk:∀{bs n size:Nat} {e:TypeId} {u:Value} {xs:List Value},w.ownsRow bs e size u n xs→u.ownBlock≠some q→w'.ownsRow bs e size u n xs:=fun o hn=>by
  exact zRM
 refine⟨(hk b (no b (.inl rfl))).trans h.st,(hk m (no m (.inr (.inl rfl)))).trans h.mem,?_,?_,h.res,h.bb,h.bm⟩
 ·obtain⟨n,xs,o,r⟩:=h.log;exact⟨n,xs,rowk o fun e=>no q (.inr (.inr (.inr e))) rfl,r⟩
 ·obtain⟨A,c,hg,o⟩:=h.rnd.held;exact⟨h.rnd.low,A,c,(hk g (no g (.inr (.inr (.inl rfl))))).trans hg,rowk o (tX o hq fun e=>hT.2.2.2.2 e.symm)⟩
theorem TQ(v:Bool)(M:Nat):lK (mQ v (M:Int))=lK ⟨fun i=>fwd ((fun _ _=>false:Nat→Nat→Bool) i),v,(M:Int)⟩:=gJ (fun i hi y hy=>gV fun x hx=>by rw[yP _ _ _ hx];exact wO _) rfl rfl
theorem UE(hi:Bool):∀i,i<4→yL ((fun _ _=>false:Nat→Nat→Bool) i) (wid hi) (hei hi):=fun i _=>bC _ _
theorem zH4(ks:List Ev)(j:Nat)(hj:j<16):aft up ks j=dnA ks j:=by
 unfold dnA dn;rw[Int.toNat_natCast];simp;omega
theorem XC:vZ Tryz.prog 82 2:=⟨⟨_,Tryz.underlying82,rfl⟩,by kernel_rfl⟩
section
variable {b m g g0:Nat} {v:Value} {a a':AS} {u:US} {w0 w w':World}
end
def rnc(b:Nat)(i:Ins)(q:Pr)(pc:Int)(f:Ef):Array Value:=#[.pointer (some ⟨b,0,none⟩),.int .i64 i.op,.int .i64 i.x,.int .i64 i.y,.int .i64 i.n,.int .i64 i.nn,.int .i64 i.addr,.int .i64 i.len,.int .i64 q.lv,.bool q.sh,.bool q.ki,.bool q.jx,.bool q.lr,.bool q.cl,.bool q.dw,.bool q.fa,.int .i64 pc,.int .i64 f.c,.bool f.halt,.bool f.wait,.bool f.drew]
theorem dJ:vZ Tryz.prog 128 7:=⟨⟨_,Tryz.underlying128,rfl⟩,by kernel_rfl⟩
theorem zWK:vZ Tryz.prog 24 8:=⟨⟨_,Tryz.underlying24,rfl⟩,by kernel_rfl⟩
theorem fO:vZ Tryz.prog 133 4:=⟨⟨_,Tryz.underlying133,rfl⟩,by kernel_rfl⟩
theorem zWX:vZ Tryz.prog 43 16:=⟨⟨_,Tryz.underlying43,rfl⟩,by kernel_rfl⟩
theorem yG:vZ Tryz.prog 77 17:=⟨⟨_,Tryz.underlying77,rfl⟩,by kernel_rfl⟩
theorem cP:vZ Tryz.prog 80 514:=⟨⟨_,Tryz.underlying80,rfl⟩,by kernel_rfl⟩
theorem zHJ:vZ Tryz.prog 74 16:=⟨⟨_,Tryz.underlying74,rfl⟩,by kernel_rfl⟩
theorem pC:vZ Tryz.prog 84 17:=⟨⟨_,Tryz.underlying84,rfl⟩,by kernel_rfl⟩
theorem FY:vZ Tryz.prog 86 16:=⟨⟨_,Tryz.underlying86,rfl⟩,by kernel_rfl⟩
theorem zQ1(b:Nat)(i:Ins)(q:Pr)(pc:Int):Tryz.prog.built 196 [(0,.pointer (some ⟨b,0,none⟩)),(1,.agg (lB i)),(2,.agg (prc q)),(3,.int .i64 pc)]=some (rnc b i q pc ⟨0,false,false,false⟩):=by kernel_rfl
section
variable {base:Nat} {lg:Lg} {b m g rb:Nat} {v v':Value} {a a':AS} {i:Ins} {q:Pr} {pc pc':Int} {f f':Ef} {w w' w1 w2:World}
theorem zJ1:(rnc b i q pc f).extract 1 (1+7)=lB i:=rfl
theorem rnc_q:(rnc b i q pc f).extract 8 (8+8)=prc q:=rfl
theorem rnc_ef:(rnc b i q pc f).extract 17 (17+4)=efc f:=rfl
structure XR(base:Nat)(lg:Lg)(b m g rb:Nat)(v:Value)(a:AS)(i:Ins)(q:Pr)(pc:Int)(f:Ef)(w:World):Prop where
 rc:RC base lg b m g v a w
 r:Blk rb 196 (rnc b i q pc f) w
def Kp(b m g:Nat)(v:Value)(rb k:Nat):Prop:=vH b m g v k∨k=rb
theorem XR.step(X:XR base lg b m g rb v a i q pc f w)(hb:Below w.heap.size w w'):XR base lg b m g rb v a i q pc f w':=⟨X.rc.step hb,X.r.step hb⟩
theorem XR.off(X:XR base lg b m g rb v a i q pc f w):¬vH b m g v rb:=fun c=>by
 obtain⟨cs',T',fr,hh,hT'⟩:=X.rc.tag rb c;have hq:w.heap[rb]?=some (.cells (rnc b i q pc f) 196 (0,0)):=X.r;rw[hq]at hh;exact zRZ
theorem XR.ne(X:XR base lg b m g rb v a i q pc f w):rb≠b:=fun e=>X.off (.inl e)
theorem XR.rk(X:XR base lg b m g rb v a i q pc f w)(k:Nat)(z:Value)(h:(rnc b i q pc f)[k]?=some z):∀u:lA w,u.w.cell? ⟨rb,k,none⟩=some z:=lA.cell ((X.r.cell k).trans h) X.r.lt
theorem XR.sk(X:XR base lg b m g rb v a i q pc f w)(k:Nat)(z:Value)(h:(stC a m g)[k]?=some z):∀u:lA w,u.w.cell? ⟨b,k,none⟩=some z:=lA.cell ((X.rc.st.cell k).trans h) X.rc.st.lt
theorem XR.vk(X:XR base lg b m g rb v a i q pc f w){k:Nat}(h:k<16):∀u:lA w,u.w.cell? ⟨b,k,none⟩=some (.int .u8 (a.v k:Int)):=X.sk k _ (by rw[mO _ _ _ zGX,gT _ _ _ h])
theorem XR.vc(X:XR base lg b m g rb v a i q pc f w){k:Nat}(h:k<16):w.cell? ⟨b,k,none⟩=some (.int .u8 (a.v k:Int)):=(X.rc.st.cell k).trans (by rw[mO _ _ _ zGX,gT _ _ _ h])
theorem XR.put(X:XR base lg b m g rb v a i q pc f w)(k:Nat)(x:Value)(e:(stC a m g).setIfInBounds k x=stC a' m g)(eM:a'.M=a.M)(eL:a'.L=a.L)(eR:a'.rd=a.rd)(hres:∀i,i<4→yL (a'.F i) (wid a'.hi) (hei a'.hi)):XR base lg b m g rb v a' i q pc f (w.setCell ⟨b,k,none⟩ x):=
 ⟨X.rc.put k x e eM eL eR hres,X.r.other X.ne _ _⟩
theorem XR.row(X:XR base lg b m g rb v a i q pc f w){cs:Array Value}(e:cs=stC a' m g)(eM:a'.M=a.M)(eL:a'.L=a.L)(eR:a'.rd=a.rd)(hres:∀i,i<4→yL (a'.F i) (wid a'.hi) (hei a'.hi)):XR base lg b m g rb v a' i q pc f (w.setRow b cs):=
 ⟨X.rc.row e eM eL eR hres,X.r.otherRow X.ne _⟩
theorem XR.rput(X:XR base lg b m g rb v a i q pc f w)(k:Nat)(x:Value)(e:(rnc b i q pc f).setIfInBounds k x=rnc b i q pc' f'):XR base lg b m g rb v a i q pc' f' (w.setCell ⟨rb,k,none⟩ x):=
 ⟨X.rc.away X.r ⟨by decide,by decide,by decide,by decide,by decide⟩ (by simp[World.setCell]) (fun j hj=>qD _ _ _ _ hj),(X.r.put k x).eq e⟩
theorem XR.away(X:XR base lg b m g rb v a i q pc f w){p:Nat}{T:TypeId}{cs:Array Value}(hp:Blk p T cs w)(hT:T≠89∧T≠144∧T≠148∧T≠168∧T≠5)(hr:T≠196)(hs:w.heap.size≤w'.heap.size)(hk:∀k,k≠p→w'.heap[k]?=w.heap[k]?):XR base lg b m g rb v a i q pc f w':=
 ⟨X.rc.away hp hT hs hk,(hk rb (fun e=>by
  have h1:w.heap[rb]?=some (.cells _ 196 (0,0)):=X.r;have h2:w.heap[p]?=some (.cells _ T (0,0)):=hp;rw[e,h2]at h1;injection h1 with h1
  injection h1 with _ h1
  exact hr h1)).trans X.r⟩
theorem yO{O:Nat→Prop}{p k:Nat}{x:Value}(h:O p):lS O w (w.setCell ⟨p,k,none⟩ x):=⟨rfl,rfl,rfl,by simp[World.setCell],fun j _ hn=>qD _ _ _ _ (fun e=>hn (e▸h))⟩
theorem xR{O:Nat→Prop}{p:Nat}{cs:Array Value}(h:O p):lS O w (w.setRow p cs):=⟨rfl,rfl,rfl,by simp[World.setRow],fun j _ hn=>qQ _ _ _ _ (fun e=>hn (e▸h))⟩
structure DD(base:Nat)(lg:Lg)(b m g rb:Nat)(v v':Value)(i:Ins)(q:Pr)(w:World)(a':AS)(pc':Int)(f':Ef)(w':World):Prop where
 x:XR base lg b m g rb v' a' i q pc' f' w'
 k:lS (Kp b m g v rb) w w'
 o:v'.ownBlock=v.ownBlock∨∃k,v'.ownBlock=some k∧w.heap.size≤k
theorem DD.refl(X:XR base lg b m g rb v a i q pc f w):DD base lg b m g rb v v i q w a pc f w:=⟨X,lS.refl,.inl rfl⟩
theorem DD.grew(D:DD base lg b m g rb v v' i q w a pc f w1):vK (Kp b m g v rb) (Kp b m g v' rb) w.heap.size:=fun k hk=>by
 rcases hk with(h|h|h|h)|h
 ·exact .inl (.inl (.inl h))
 ·exact .inl (.inl (.inr (.inl h)))
 ·exact .inl (.inl (.inr (.inr (.inl h))))
 ·rcases D.o with e|⟨j,e,hj⟩
  ·exact .inl (.inl (.inr (.inr (.inr (e▸h)))))
  ·rw[e]at h;cases h
   exact .inr hj
 ·exact .inl (.inr h)
theorem DD.to(D:DD base lg b m g rb v v' i q w a pc f w1)(X:XR base lg b m g rb v' a' i q pc' f' w2)(k:lS (Kp b m g v' rb) w1 w2):DD base lg b m g rb v v' i q w a' pc' f' w2:=⟨X,D.k.trans k D.grew,D.o⟩
theorem DD.step(D:DD base lg b m g rb v v' i q w a pc f w1)(hb:Below w1.heap.size w1 w2):DD base lg b m g rb v v' i q w a pc f w2:=D.to (D.x.step hb) (lS.of_below hb)
theorem DD.put(D:DD base lg b m g rb v v' i q w a pc f w1)(k:Nat)(x:Value)(e:(stC a m g).setIfInBounds k x=stC a' m g)(eM:a'.M=a.M)(eL:a'.L=a.L)(eR:a'.rd=a.rd)(hres:∀i,i<4→yL (a'.F i) (wid a'.hi) (hei a'.hi)):DD base lg b m g rb v v' i q w a' pc f (w1.setCell ⟨b,k,none⟩ x):=
 D.to (D.x.put k x e eM eL eR hres) (yO (.inl (.inl rfl)))
theorem DD.row(D:DD base lg b m g rb v v' i q w a pc f w1){cs:Array Value}(e:cs=stC a' m g)(eM:a'.M=a.M)(eL:a'.L=a.L)(eR:a'.rd=a.rd)(hres:∀i,i<4→yL (a'.F i) (wid a'.hi) (hei a'.hi)):DD base lg b m g rb v v' i q w a' pc f (w1.setRow b cs):=
 D.to (D.x.row e eM eL eR hres) (xR (.inl (.inl rfl)))
theorem DD.rput(D:DD base lg b m g rb v v' i q w a pc f w1)(k:Nat)(x:Value)(e:(rnc b i q pc f).setIfInBounds k x=rnc b i q pc' f'):DD base lg b m g rb v v' i q w a pc' f' (w1.setCell ⟨rb,k,none⟩ x):=
 D.to (D.x.rput k x e) (yO (.inr rfl))
theorem DD.then{lg2:Lg}{v2:Value}{a2:AS}{pc2:Int}{f2:Ef}(D:DD base lg b m g rb v v' i q w a pc f w1)(E:DD base lg2 b m g rb v' v2 i q w1 a2 pc2 f2 w2):DD base lg2 b m g rb v v2 i q w a2 pc2 f2 w2:=
 ⟨E.x,D.k.trans E.k D.grew,by
  rcases E.o with e|⟨k,e,hk⟩
  ·rw[e];exact D.o
  ·exact .inr ⟨k,e,zR D.k.size hk⟩⟩
theorem RC.more{lg2:Lg}(h:RC base lg b m g v a w)(hl:lg≤lg2):RC base lg2 b m g v a w:=⟨h.st,h.mem,let⟨n,xs,o,hn,h0,hi,hz⟩:=h.log;⟨n,xs,o,zR hn hl.1,h0,hi,hl.2▸hz⟩,h.rnd,h.res,h.bb,h.bm⟩
theorem XR.more{lg2:Lg}(X:XR base lg b m g rb v a i q pc f w)(hl:lg≤lg2):XR base lg2 b m g rb v a i q pc f w:=⟨X.rc.more hl,X.r⟩
theorem DD.more{lg2:Lg}(D:DD base lg b m g rb v v' i q w a pc f w1)(hl:lg≤lg2):DD base lg2 b m g rb v v' i q w a pc f w1:=⟨D.x.more hl,D.k,D.o⟩
end
def Did(base:Nat)(lg:Lg)(b m g rb:Nat)(v:Value)(i:Ins)(q:Pr)(w:World)(a':AS)(pc':Int)(f':Ef)(e:Ending)(w':World):Prop:=e=.returned (.tuple #[])∧∃v',DD base lg b m g rb v v' i q w a' pc' f' w'
def pan(c:Int):List PanicEntry:=[{v:=.iface 192 (.agg #[.int .i64 c]),recovered:=false}]
def f8(c:Int)(w:World)(e:Ending)(w':World):Prop:=e=.panicked (pan c)∧Below w.heap.size w w'
theorem wG{P:Program}{Q:Exit→Act→World→Prop}{a:Act}{w:World}{o:Oper}{g:Nat}{caps args:Array Value}{K:Act→World→Prop}(x:Operand)(xs:Array Operand)(ts:Array TypeId)(ho:o.op=.call {callee:=.value x,args:=xs,argTypes:=ts})(eg:∀args w,(callFunc g args).run P w=.ok (.enter g args) w)(hx:a.eval x=.func (.func g) #[] caps)(ha:xs.map a.eval++caps=args)
  (h:Calls P g args w fun e w'=>∃c,e=.panicked c∧Q (.panic c) a w'):o.wp P a w K Q:=by
 exact zRD
theorem vT(n:Nat)(hn:n<16)(w:World):Calls Tryz.prog 134 #[.int .i64 (n:Int)] w fun e w'=>e=.returned (.int .i64 (n:Int))∧w=w':=by
 have hb:=IV hn;go_enter Tryz.func134,Tryz.ntmps134;go_wp2_with fail;exact zRX
theorem dF(w:World):Calls Tryz.prog 80 #[.int .i64 0] w fun e w'=>e=.returned (.tuple #[])∧w=w':=by
 go_enter Tryz.func80,Tryz.ntmps80;go_wp2_with fail;go_end0
 exact⟨rfl,rfl⟩
theorem t9(c:Int)(hc:c≠0)(w:World):Calls Tryz.prog 80 #[.int .i64 c] w fun e w'=>e=.panicked (pan c)∧w=w':=by
 have h0:(c !=0)=true:=zG6;go_enter Tryz.func80,Tryz.ntmps80;go_wp2_with fail;exact⟨rfl,rfl,rfl⟩
theorem zZA{base:Nat}{lg:Lg}{b m g rb:Nat}{v v1 v':Value}{i:Ins}{q:Pr}{w w1 w2:World}{a a':AS}{pc:Int}{f:Ef}{n:Nat}{xs:List Value}{y z:Int}(D:DD base lg b m g rb v v1 i q w a pc f w1)(hn:n≤lg.n)(hi:∀x∈xs,∃j,x=.int .i64 j)(hz:Lgd lg.Z a'.M (xs++[.int .i64 y,.int .i64 z]))
  (hm:nV m a'.M v' w2) (ho:w2.ownsRow base 168 2 v' (n+1) (xs++[.int .i64 y,.int .i64 z])) (ha:nW m v1.ownBlock w1 w2) (hv:v'.ownBlock=v1.ownBlock∨∃k,v'.ownBlock=some k∧w1.heap.size≤k) (hst:stC a' m g=stC a m g) (hr:a'.L=a.L∧a'.rd=a.rd∧a'.F=a.F∧a'.hi=a.hi):DD base (lg+1) b m g rb v v' i q w a' pc f w2:=by
 obtain⟨n1,n2,n3,n4,n5,n6⟩:=D.x.rc.ne;have kk:lS (fun k=>k=m∨some k=v1.ownBlock) w1 w2:=lS.of_apart ha;have no:∀p,p<w1.heap.size→p≠m→v1.ownBlock≠some p→w2.heap[p]?=w1.heap[p]?:=fun p h1 h2 h3=>kk.block p h1 (fun c=>by rcases c with c|c;exact h2 c;exact h3 c.symm);have X:XR base (lg+1) b m g rb v' a' i q pc f w2:=by
  refine⟨⟨?_,hm,⟨n+1,_,ho,Nat.succ_le_succ hn,fun h=>absurd h zGX,?_,hz⟩,?_,?_,D.x.rc.bb,D.x.rc.bm⟩,?_⟩
  ·rw[hst];exact(no b D.x.rc.st.lt n1 n4).trans D.x.rc.st
  ·intro x hx;rcases List.mem_append.1 hx with h|h
   ·exact hi x h
   ·simp only[List.mem_cons,qT,or_false]at h;rcases h with rfl|rfl<;>exact⟨_,rfl⟩
  ·rw[hr.1,hr.2.1];obtain⟨A,c,hg,o⟩:=D.x.rc.rnd.held;exact⟨D.x.rc.rnd.low,A,c,(no g D.x.rc.rnd.lt (fun e=>n3 e.symm) n6).trans hg,cV o kk fun k ek c=>D.x.rc.row_off o ⟨by decide,by decide,by decide,by decide⟩ k ek (by rcases c with c|c;exact .inr (.inl c);exact .inr (.inr (.inr c.symm)))⟩
  ·rw[hr.2.2.1,hr.2.2.2];exact D.x.rc.res
  ·exact(no rb D.x.r.lt (fun e=>D.x.off (.inr (.inl e))) (fun e=>D.x.off (.inr (.inr (.inr e))))).trans D.x.r
 exact⟨X,D.k.trans (kk.mono (O':=Kp b m g v1 rb) fun k _ c=>by rcases c with c|c;exact .inl (.inr (.inl c));exact .inl (.inr (.inr (.inr c.symm)))) D.grew,by
  rcases hv with e|⟨k,e,hk⟩
  ·rw[e];exact D.o
  ·exact .inr ⟨k,e,zR D.k.size hk⟩⟩
theorem CJ{M L:List Int}{i:Int}{k:Nat}(hM:M.length=65536)(hi:0≤i∧i≤65535)(hL:L.length=k)(k0:0<k)(hk:k≤65536):(0≤((i.toNat:Nat):Int)∧((i.toNat:Nat):Int)≤65535∧0≤(k:Int)∧(k:Int)≤65536)∧∀j:Nat,j<65536→¬((j:Int)-((i.toNat:Nat):Int))%65536<(k:Int)→(put M i L)[j]?=M[j]?:=by
 refine⟨by omega,fun j h1 h2=>?_⟩;rw[iB L M i zGX hM j h1,zL];omega
theorem tB{i:Int}{n:Nat}{t:Bool}(h:chk i n t≠0):chk i n t=4:=by unfold chk at h⊢;split at h<;>simp_all
section
variable {base:Nat} {lg:Lg} {b m g rb:Nat} {v:Value} {a:AS} {op:Int} {x y n nn:Nat} {ad ln:Int} {q:Pr} {pc:Int} {f:Ef} {w:World}
theorem fZ(X:XR base lg b m g rb v a ⟨op,x,y,n,nn,ad,ln⟩ q pc f w)(hx:x<16):Calls Tryz.prog 126 #[.pointer (some ⟨rb,0,none⟩)] w fun e w'=>e=.returned (.pointer (some ⟨b,x,none⟩))∧Below w.heap.size w w':=by
 have r0:=X.rk 0 (.pointer (some ⟨b,0,none⟩)) rfl;have r2:=X.rk 2 (.int .i64 (x:Int)) rfl;have xi:(x:Int)<16:=zGX;have RG:=zW (fun w=>vT x hx w);clear X;go_enter Tryz.func126,Tryz.ntmps126;exact zB4
theorem vy19(X:XR base lg b m g rb v a ⟨op,x,y,n,nn,ad,ln⟩ q pc f w)(hy:y<16):Calls Tryz.prog 141 #[.pointer (some ⟨rb,0,none⟩)] w fun e w'=>e=.returned (.pointer (some ⟨b,y,none⟩))∧Below w.heap.size w w':=by
 have r0:=X.rk 0 (.pointer (some ⟨b,0,none⟩)) rfl;have r3:=X.rk 3 (.int .i64 (y:Int)) rfl;have xi:(y:Int)<16:=zGX;have RG:=zW (fun w=>vT y hy w);clear X;go_enter Tryz.func141,Tryz.ntmps141;exact zB4
theorem TH(X:XR base lg b m g rb v a ⟨op,x,y,n,nn,ad,ln⟩ q pc f w)(k:Int)(O:OkA a)(k0:0≤k)(k1:k≤300):Calls Tryz.prog 129 #[.pointer (some ⟨rb,0,none⟩),.int .i64 k] w (Did base lg b m g rb v ⟨op,x,y,n,nn,ad,ln⟩ q w ({a with i:=(a.i+k)%65536}) (pc) (f)):=by
 have D:=zW (DD.refl X);have SB:=zW (lD X.rc.st);have RBh:=zW (lD X.r);have r0:=X.rk 0 (.pointer (some ⟨b,0,none⟩)) rfl;have s16:=X.sk 16 _ (mO _ m g zGX);rw[tW]at s16;have wr:IntKind.i64.wrap (a.i+k)=a.i+k:=by rw[zU];have:=O.i;omega
 have WR:=zW (fun w=>bJ (a.i+k) w);clear X;go_enter Tryz.func129,Tryz.ntmps129;refine lT (C:=fun w'=>∃u:lA w,w'=u.w) 16 [([0,1,2,3,4,5,6,7,8,9,10,11,12],13,true)] [14,15] [] zGV zGV ?_ ?_ ⟨⟨w.drew,(zB _ _).drew⟩,rfl⟩ ?_
 ·exact zBB
 ·exact zBN
 intro wd hwd;clear hwd;refine mV zGW zGY ?_;iterate 13 (go_big_quiet_step (fail))
 refine zY ?_;refine mW (v:=.int .i64 ((a.i+k)%65536)) (mC (g:=77) (caps:=#[]) (args:=#[.int .i64 (a.i+k)]) (.func 77) _ _ rfl rfl (enters_of Tryz.func77 zGV rfl) (fun w' hw=>by obtain⟨u,rfl⟩:=hw;exact(WR.out u.w).mono fun e w'' h=>⟨h.1,by rw[←h.2];exact Gr.refl _⟩) rfl zGK) ?_;simp only[Act.put,zQ,zZ,zJ];refine mZ zGW zGY ?_;iterate 2 (go_big_quiet_step (fail))
 refine zY ?_;refine mJ rfl ?_;intro w5 g5 C5 K hK;obtain⟨u5,rfl⟩:=C5;have D5:=zW (D.out.step u5.below);have cc:=(D5.out.x.rc.st.cell 16).trans (mO _ m g zGX);have fc:=D5.out.x.rc.st.frozen 16;go_wp2_with fail;have D:=zW (D5.out.put (a':={a with i:=(a.i+k)%65536}) 16 (.int .i64 ((a.i+k)%65536)) (sB a m g ((a.i+k)%65536)) rfl rfl rfl D5.out.x.rc.res);exact zR4
theorem AO(X:XR base lg b m g rb v a ⟨op,x,y,n,nn,ad,ln⟩ q pc f w)(k:Int)(O:OkA a)(k0:0≤k)(k1:k≤300):Calls Tryz.prog 135 #[.pointer (some ⟨rb,0,none⟩),.int .i64 k] w (Did base lg b m g rb v ⟨op,x,y,n,nn,ad,ln⟩ q w (if q.ki=true then a else{a with i:=(a.i+k)%65536}) (pc) (f)):=by
 have D:=zW (DD.refl X);have r0:w.cell? ⟨rb,0,none⟩=some (.pointer (some ⟨b,0,none⟩)):=(X.r.cell 0).trans rfl;have r10:w.cell? ⟨rb,10,none⟩=some (.bool q.ki):=(X.r.cell 10).trans rfl;have AI:=zW (TH X k O k0 k1);obtain⟨lv,sh,ki,jx,lr,cl,dw,fa⟩:=q;clear X;cases ki
 ·go_enter Tryz.func135,Tryz.ntmps135;go_wp2_with fail;refine AI.out.mono ?_;rintro e w' ⟨rfl,v',D'⟩;go_wp2_with fail;go_end0
  exact⟨rfl,v',D'⟩
 ·go_enter Tryz.func135,Tryz.ntmps135;go_wp2_with fail;go_end0
  exact⟨rfl,_,D.out⟩
theorem NZ(X:XR base lg b m g rb v a ⟨op,x,y,n,nn,ad,ln⟩ q pc f w)(k:Nat)(O:OkA a)(hk:k≤128)(hc:chk a.i k q.fa=0):Calls Tryz.prog 136 #[.pointer (some ⟨rb,0,none⟩),.int .i64 (k:Int)] w (Gave k (seg a.M a.i k) w):=by
 have XX:=zW X;have r0:=X.rk 0 (.pointer (some ⟨b,0,none⟩)) rfl;have r15:=X.rk 15 (.bool q.fa) rfl;have s16:=X.sk 16 _ (mO _ m g zGX);rw[tW]at s16;have CK:=zW (fun w=>rX a.i k q.fa w O.i.1 O.i.2 (qG k) zGX);have k1:(k:Int)≤65536:=zGX;rw[hc]at CK;have OO:=zW O;clear X O hk hc;go_enter Tryz.func136,Tryz.ntmps136;go_upto_region 1 with fail;refine m7 zGV zGV ?_;repeat(go_big_quiet_step ((first|(go_at_call 66;exact cJ (CK.out _))|(go_at_call 80;exact cJ (dF _)))))
 refine zY ?_;intro _ hw';obtain⟨x',rfl⟩:=hw';have b1:=zW x'.below;generalize x'.w=w1 at*;have XX:=zW (XX.out.step b1.out);clear r0 r15 s16 CK;have r0:=XX.out.rk 0 (.pointer (some ⟨b,0,none⟩)) rfl;have s16:=XX.out.sk 16 _ (mO _ m g zGX);rw[tW]at s16;have s35:=XX.out.sk 35 _ (mO _ m g zGX);rw[dE]at s35;go_upto_region 2 with fail;refine lT (C:=fun w'=>∃u:lA w1,w'=u.w) 15 [] [0,1,2,3,4,5,6,7,8,9,10,11,12,13,14] [16] zGV zGV ?_ ?_ ⟨⟨w1.drew,(zB _ _).drew⟩,rfl⟩ ?_
 ·exact zBB
 ·exact zBN
 intro wd hwd;clear hwd;refine mZ zGW zGY ?_;iterate 15 (go_big_quiet_step (fail))
 refine zY ?_;refine mJ rfl ?_;intro w5 g5 C5 K hK;obtain⟨u5,rfl⟩:=C5;refine mK (g:=73) (caps:=#[]) (args:=#[.pointer (some ⟨m,0,none⟩),.int .i64 a.i,.int .i64 (k:Int)]) (.func 73) _ _ rfl (enters_of Tryz.func73 zGV rfl) rfl zGK ?_;refine(KY m a.M v a.i a.i.toNat k u5.w OO.out.M (XX.out.step u5.below).rc.mem (by have:=OO.out.i;omega) zGX).mono ?_;rintro e w7 ⟨gg,rfl,hg,hR,b7⟩;have B7:=zW (u5.below.trans (b7.mono u5.below.size));have G7:=zW (show w.heap.size≤gg by have h1:=b1.out.size;have h2:=u5.below.size;omega);have R7:=zW hR;clear hg hR b7;refine⟨_,rfl,?_⟩;refine hK _ _ ?_;clear hK K;simp only[Act.put,zQ,zZ,zJ];try simp only[lW,zX,zK,zV]
 iterate 1 (go_big_quiet_step (fail))
 refine zY ?_;intro w8 g8;have B8:=zW ((b1.out.trans (B7.out.mono b1.out.size)).trans (g8.mono (zR b1.out.size B7.out.size)));have R8:=zW (R7.out.below g8);clear g8 g5 s35 s16 r0;go_wp2_with fail;go_ret;exact⟨gg,rfl,G7.out,R8.out,B8.out⟩
theorem dL(X:XR base lg b m g rb v a ⟨op,x,y,n,nn,ad,ln⟩ q pc f w)(k:Nat)(O:OkA a)(hk:k≤128)(hc:chk a.i k q.fa≠0):Calls Tryz.prog 136 #[.pointer (some ⟨rb,0,none⟩),.int .i64 (k:Int)] w (f8 4 w):=by
 have r0:=X.rk 0 (.pointer (some ⟨b,0,none⟩)) rfl;have r15:=X.rk 15 (.bool q.fa) rfl;have s16:=X.sk 16 _ (mO _ m g zGX);rw[tW]at s16;have CK:=zW (fun w=>rX a.i k q.fa w O.i.1 O.i.2 (qG k) zGX);have k1:(k:Int)≤65536:=zGX;rw[tB hc]at CK;clear X O hk hc;go_enter Tryz.func136,Tryz.ntmps136;go_upto_region 1 with fail;refine lT (C:=fun w'=>∃u:lA w,w'=u.w) 14 [([0,1,2,3,4,5,6,7,8,9,10,11,12],13,true)] [] [] zGV zGV ?_ ?_ ⟨⟨w.drew,(zB _ _).drew⟩,rfl⟩ ?_
 ·exact zBB
 ·exact zBN
 intro wd hwd;clear hwd;refine mV zGW zGY ?_;iterate 13 (go_big_quiet_step (fail))
 exact zBF
theorem LG(X:XR base lg b m g rb v a ⟨op,x,y,n,nn,ad,ln⟩ q pc f w)(A:Option Addr)(k c:Nat)(L:List Int)(O:OkA a)(hb:base≤w.heap.size)(hg:lg.n≤950)(k0:0<k)(hk:k≤128)(hkc:k≤c)(hL:L.length=k)(hR:Rd w A L)(hA:∀ad,A=some ad→ad.block≠m)(hc:chk a.i k q.fa=0):Calls Tryz.prog 133 #[.pointer (some ⟨rb,0,none⟩),.slice A k c] w (Did base (lg+1) b m g rb v ⟨op,x,y,n,nn,ad,ln⟩ q w ({a with M:=put a.M a.i L}) (pc) (f)):=by
 have XX:=zW X;have r0:=X.rk 0 (.pointer (some ⟨b,0,none⟩)) rfl;have r15:=X.rk 15 (.bool q.fa) rfl;have s16:=X.sk 16 _ (mO _ m g zGX);rw[tW]at s16;have CK:=zW (fun w=>rX a.i k q.fa w O.i.1 O.i.2 (qG k) zGX);have k1:(k:Int)≤65536:=zGX;rw[hc]at CK;have OO:=zW O;have RR:=zW hR;have DZ:=zW (DD.refl X);have HB:=zW (zM hb (zM hg (zM k0 (zM hkc (zM hL hA)))));clear X O hk hc hR hb hg k0 hkc hL hA;go_enter Tryz.func133,Tryz.ntmps133;go_upto_region 0 with fail;refine m7 zGV zGV ?_;repeat(go_big_quiet_step ((first|(go_at_call 66;exact cJ (CK.out _))|(go_at_call 80;exact cJ (dF _)))))
 refine zY ?_;intro _ hw';obtain⟨x',rfl⟩:=hw';have b1:=zW x'.below;generalize x'.w=w1 at*;have XX:=zW (XX.out.step b1.out);have DZ:=zW (DZ.out.step b1.out);have RR:=zW (RR.out.below b1.out);clear r0 r15 s16 CK;have r0:=XX.out.rk 0 (.pointer (some ⟨b,0,none⟩)) rfl;have s16:=XX.out.sk 16 _ (mO _ m g zGX);rw[tW]at s16;have s35:=XX.out.sk 35 _ (mO _ m g zGX);rw[dE]at s35;go_upto_region 1 with fail;refine lT (C:=fun w'=>∃u:lA w1,w'=u.w) 15 [] [0,1,2,3,4,5,6,7,8,9,10,11,12,13,14] [] zGV zGV ?_ ?_ ⟨⟨w1.drew,(zB _ _).drew⟩,rfl⟩ ?_
 ·exact zBB
 ·exact zBN
 intro wd hwd;clear hwd;refine mZ zGW zGY ?_;iterate 15 (go_big_quiet_step (fail))
 refine zY ?_;refine mJ rfl ?_;intro w5 g5 C5 K hK;obtain⟨u5,rfl⟩:=C5;have X5:=zW (XX.out.step u5.below);have D5:=zW (DZ.out.step u5.below);obtain⟨nl,xs,o,hn,h0,hi,hz⟩:=X5.out.rc.log;refine mK (g:=168) (caps:=#[]) (args:=#[.pointer (some ⟨m,0,none⟩),.int .i64 a.i,.slice A k c]) (.func 168) _ _ rfl (enters_of Tryz.func168 zGV rfl) rfl zGK ?_;refine(IT m a.M v nl base xs a.i a.i.toNat A k c L u5.w OO.out.M X5.out.rc.mem o (zR HB.out.1 (zR b1.out.size u5.below.size)) (by have:=HB.out.2.1;omega) (by have:=OO.out.i;omega) HB.out.2.2.2.2.1 HB.out.2.2.1 zGX HB.out.2.2.2.1 (RR.out.below u5.below) HB.out.2.2.2.2.2).mono ?_;rintro e w7 ⟨rfl,v',hm,hown,hap,hv⟩;have W7:=zW (zZA D5.out (a':={a with M:=put a.M a.i L}) hn hi (hz.snoc (CJ OO.out.M OO.out.i HB.out.2.2.2.2.1 HB.out.2.2.1 zGX).1 (CJ OO.out.M OO.out.i HB.out.2.2.2.2.1 HB.out.2.2.1 zGX).2) hm hown hap hv (rfl) ⟨rfl,rfl,rfl,rfl⟩);clear hm hown hap hv o hn h0 hi hz;refine⟨_,rfl,?_⟩;refine hK _ _ ?_;clear hK K;simp only[Act.put,zQ,zZ,zJ];try simp only[lW,zX,zK,zV]
 refine zY ?_;intro w8 g8;have D:=zW (W7.out.step g8);clear g8 g5 s35 s16 r0;go_wp2_with fail;go_end0
 exact⟨rfl,_,D.out⟩
theorem eG(X:XR base lg b m g rb v a ⟨op,x,y,n,nn,ad,ln⟩ q pc f w)(A:Option Addr)(k c:Nat)(O:OkA a)(hk:k≤128)(hc:chk a.i k q.fa≠0):Calls Tryz.prog 133 #[.pointer (some ⟨rb,0,none⟩),.slice A k c] w (f8 4 w):=by
 have r0:=X.rk 0 (.pointer (some ⟨b,0,none⟩)) rfl;have r15:=X.rk 15 (.bool q.fa) rfl;have s16:=X.sk 16 _ (mO _ m g zGX);rw[tW]at s16;have CK:=zW (fun w=>rX a.i k q.fa w O.i.1 O.i.2 (qG k) zGX);have k1:(k:Int)≤65536:=zGX;rw[tB hc]at CK;clear X O hk hc;go_enter Tryz.func133,Tryz.ntmps133;go_upto_region 0 with fail;refine lT (C:=fun w'=>∃u:lA w,w'=u.w) 15 [([0,1,2,3,4,5,6,7,8,9,10,11,12,13],14,true)] [] [] zGV zGV ?_ ?_ ⟨⟨w.drew,(zB _ _).drew⟩,rfl⟩ ?_
 ·exact zBB
 ·exact zBN
 intro wd hwd;clear hwd;refine mV zGW zGY ?_;iterate 14 (go_big_quiet_step (fail))
 exact zBF
end
end
end Go.Proofs.YtbpniahcjbagmaaGreatDoor
