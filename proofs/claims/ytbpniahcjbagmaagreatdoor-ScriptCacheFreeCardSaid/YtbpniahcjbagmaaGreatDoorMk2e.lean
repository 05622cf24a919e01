/- MacCache, MacNum, MacSem, MacKey. -/
import Derived.Test.YtbpniahcjbagmaaGreatDoorMk2d
set_option maxRecDepth 400000
set_option maxHeartbeats 64000000
set_option linter.unusedVariables false
set_option linter.unusedSimpArgs false
namespace Go.Proofs.YtbpniahcjbagmaaGreatDoor
section
open Go.RowKit Num Dec Cpu
def TS(l:nB)(M:List Int)(lv:Int):Prop:=∀x i,mG l x=some i→i=yV M (x:Int) lv
theorem TS.nil(M:List Int)(lv:Int):TS [] M lv:=fun x i h=>by cases h
theorem ZV:∀(S:List (Int×Int)) (l:nB) (x:Nat) (i:Ins),mG (dropL l S) x=some i→mG l x=some i∧∀s∈S,pK (x:Int) s.1 s.2=false
 |[],l,x,i,h=>⟨h,fun s hs=>absurd hs qT⟩
 |s::t,l,x,i,h=>by
  unfold dropL at h;obtain⟨h1,h2⟩:=ZV t _ x i h;have h3:mG l x=some i∧pK (x:Int) s.1 s.2=false:=by
   split at h1
   ·rw[JE]at h1;split at h1
    ·cases h1
    ·rename_i hb
     exact⟨h1,by simpa using hb⟩
   ·rename_i hn
    refine⟨h1,?_⟩;unfold pK;simp;omega
  refine⟨h3.1,fun r hr=>?_⟩;rcases List.mem_cons.1 hr with rfl|hr
  ·exact h3.2
  ·exact h2 r hr
theorem zQT{M M':List Int}(hM:M.length=65536)(hM':M'.length=65536)(S:List (Int×Int))(hd:∀j:Nat,j<65536→(∀s∈S,¬((j:Int)-s.1)%65536<s.2)→M'[j]?=M[j]?)(x lv:Int)(hx:∀s∈S,pK x s.1 s.2=false):yV M' x lv=yV M x lv:=by
 have hs:seg M' x 4=seg M x 4:=by
  apply kN
  intro j
  by_cases hj:j<4
  ·rw[rO _ x 4 j hM' hj,rO _ x 4 j hM hj];refine hd _ zGX fun s h=>?_;have:=zKE (hx s h) (j:Int) zGX zGX;omega
  ·rw[qR zBJ,qR zBJ]
 unfold yV uC;rw[hs]
theorem TS.drop{l:nB}{M M':List Int}{lv:Int}(h:TS l M lv)(hM:M.length=65536)(hM':M'.length=65536)(S:List (Int×Int))(hd:∀j:Nat,j<65536→(∀s∈S,¬((j:Int)-s.1)%65536<s.2)→M'[j]?=M[j]?):TS (dropL l S) M' lv:=fun x i hi=>by
 obtain⟨h1,h2⟩:=ZV S l x i hi;rw[zQT hM hM' S hd x lv h2];exact h x i h1
theorem J6(M:List Int)(a lv:Int)(hM:M.length=65536):yV M ((gQ a:Nat):Int) lv=yV M a lv:=by
 have hs:seg M ((gQ a:Nat):Int) 4=seg M a 4:=by
  apply kN
  intro j
  by_cases hj:j<4
  ·rw[rO _ _ 4 j hM hj,rO _ _ 4 j hM hj];congr 2
   unfold gQ
   omega
  ·rw[qR zBJ,qR zBJ]
 unfold yV uC;rw[hs]
structure CoC(pg:Nat→Option Nat)(p:Nat)(lv:Int)(en:Bool)(l:nB)(h m:Nat)(M:List Int)(w:World):Prop where
 c:CB pg p lv en (l.length:Int) (h:Int) (m:Int) w
 g:PGS pg (mG l) w
 one:rP l
 lt:∀e∈l,e.1<65536
 wf:(Lit.int .i64 lv).wf=true
 off:en=false→l=[]
 co:TS l M lv
section
variable {pg:Nat→Option Nat} {p h m:Nat} {lv:Int} {en:Bool} {l:nB} {M:List Int} {w w':World}
theorem CoC.kept(C:CoC pg p lv en l h m M w){O:Nat→Prop}(k:lS O w w')(hd:∀j,icO pg p j→¬O j):CoC pg p lv en l h m M w':=
 ⟨C.c.kept k (hd p (.inl rfl)),C.g.kept k (fun j b hj e=>hd b (.inr ⟨j,hj,e⟩)),C.one,C.lt,C.wf,C.off,C.co⟩
theorem CoC.step(C:CoC pg p lv en l h m M w)(hb:Below w.heap.size w w'):CoC pg p lv en l h m M w':=C.kept (O:=fun _=>False) (lS.of_below hb) (fun _ _ c=>c)
theorem CoC.blt(C:CoC pg p lv en l h m M w):∀k,icO pg p k→k<w.heap.size:=fH C.c C.g
theorem zQJ(C:CoC pg p lv en l h m M w)(pm:Nat)(v:Value)(a:Int)(hM:M.length=65536)(hp:nV pm M v w)(hB:BtM M)(hpm:¬icO pg p pm)(h1:h≤100000)(m1:m≤100000)(l1:l.length≤1000000):
  Calls Tryz.prog 50 #[.pointer (some ⟨p,0,none⟩),.pointer (some ⟨pm,0,none⟩),.int .i64 a] w fun e w'=>e=.returned (.agg (lB (yV M a lv)))∧
   ∃pg' l' h' m',CoC pg' p lv en l' h' m' M w'∧lS (icO pg p) w w'∧vK (icO pg p) (icO pg' p) w.heap.size∧h'+m'=h+m+1∧l'.length≤l.length+1∧(en=true→(mG l' (gQ a)).isSome=true):=by
 cases hl:mG l (gQ a)with
 |some i=>
  refine(zQX pg p lv en h m a (gQ a) i l (.pointer (some ⟨pm,0,none⟩)) w C.c C.g hl (F5 a) zGX zGX).mono ?_
  rintro e w' ⟨rfl,C',G',K'⟩
  have e1:i=yV M a lv:=by rw[C.co _ _ hl,J6 M a lv hM]
  exact⟨by rw[e1],pg,l,h+1,m,⟨C',G',C.one,C.lt,C.wf,C.off,C.co⟩,K',vK.refl,by omega,by omega,fun _=>by rw[hl];rfl⟩
 |none=>
  refine(EQ pg p lv en h m a (gQ a) l pm M v w C.c C.g hl (F5 a) zGX zGX l1 hM hp hB C.wf hpm).mono ?_
  rintro e w' ⟨rfl,pg',C',G',K',W'⟩
  refine⟨rfl,pg',s7 en l (gQ a) (yV M a lv),h,m+1,⟨C',G',?_,?_,C.wf,?_,?_⟩,K',W',by omega,?_,?_⟩
  ·cases en
   ·exact C.one
   ·exact C.one.snoc _ hl
  ·cases en
   ·exact C.lt
   ·intro e he
    unfold s7 at he
    simp only[if_true,List.mem_append,List.mem_singleton]at he
    rcases he with he|rfl
    ·exact C.lt e he
    ·exact zW0 a
  ·rintro rfl
   exact C.off rfl
  ·cases en
   ·exact C.co
   ·intro x i hi
    unfold s7 at hi
    rw[zN rfl,dG]at hi
    cases hx:mG l x with
    |some j=>
     rw[hx]at hi
     cases hi
     exact C.co _ _ hx
    |none=>
     rw[hx]at hi
     simp only at hi
     split at hi
     ·rename_i e1
      cases hi
      rw[←e1,J6 M a lv hM]
     ·cases hi
  ·cases en
   ·show l.length≤_;omega
   ·show(l++[_]).length≤_;simp
  ·rintro rfl
   unfold s7
   rw[zN rfl,dG,hl]
   simp
theorem WN(C:CoC pg p lv en l h m M w):
  Calls Tryz.prog 49 #[.pointer (some ⟨p,0,none⟩)] w fun e w'=>e=.returned (.tuple #[])∧CoC (fun _=>none) p lv en [] h m M w'∧lS (fun k=>k=p) w w':=by
 refine(WH pg p lv en (l.length:Int) h m w C.c).mono ?_;rintro e w' ⟨rfl,C',K'⟩;exact⟨rfl,⟨C',⟨fun k b _ e=>(by cases e),fun _ _ _ _ _=>rfl,fun j k b _ _ e _=>(by cases e)⟩,List.nodup_nil,fun e he=>(by cases he),C.wf,fun _=>rfl,TS.nil _ _⟩,K'⟩
theorem WJ(C:CoC pg p lv en l h m M w)(M':List Int)(S:List (Int×Int))(A:Option Addr)(c:Nat)(hM:M.length=65536)(hM':M'.length=65536)(l1:l.length≤1000000)(HR:RgR w A S (icO pg p))(k1:S.length≤1000)(hs:∀s∈S,0≤s.1∧s.1≤65535∧s.2≤65536)
  (hd:∀j:Nat,j<65536→(∀s∈S,¬((j:Int)-s.1)%65536<s.2)→M'[j]?=M[j]?):
  Calls Tryz.prog 53 #[.pointer (some ⟨p,0,none⟩),.slice A S.length c] w fun e w'=>e=.returned (.tuple #[])∧∃l',CoC pg p lv en l' h m M' w'∧lS (icO pg p) w w'∧l'.length≤l.length∧(S=[]→l'=l):=by
 refine(WX pg p lv en h m l S A S.length c w C.c C.g C.one C.lt l1 HR rfl k1 hs).mono ?_;rintro e w' ⟨rfl,C',G',K'⟩;refine⟨rfl,dropL l S,⟨C',G',C.one.dropL S,fun e he=>C.lt e (fT S l he),C.wf,fun e=>?_,C.co.drop hM hM' S hd⟩,K',pH S l,fun e=>by rw[e];rfl⟩;have h0:=pH S l;rw[C.off e]at h0⊢;exact jE (Nat.le_zero.1 h0)
end
theorem aL(lv:Int)(en:Bool)(M:List Int)(w:World)(hl:(Lit.int .i64 lv).wf=true):CoC (fun _=>none) w.heap.size lv en [] 0 0 M (w.alloc (.cells (ND lv en) 159)):=
 ⟨CB.new w lv en,⟨fun k b _ e=>(by cases e),fun _ _ _ _ _=>rfl,fun j k b _ _ e _=>(by cases e)⟩,List.nodup_nil,fun e he=>(by cases he),hl,fun _=>rfl,TS.nil _ _⟩
structure mR where
 q:Pr
 k:Int
 c:Int
 p:Int
 y:Int
 rg:Int
 ex:Int
def xN(k c p y:Int):Array Value:=#[.int .i64 k,.int .i64 c,.int .i64 p,.int .i64 y]
def mR.st(m:mR):Array Value:=xN m.k m.c m.p m.y
section
variable (m:mR) (s:CS)
end
theorem tM:vZ Tryz.prog 24 8:=⟨⟨_,Tryz.underlying24,rfl⟩,by kernel_rfl⟩
theorem wV:vZ Tryz.prog 34 4:=⟨⟨_,Tryz.underlying34,rfl⟩,by kernel_rfl⟩
def zWP:Pr:=⟨0,false,false,false,false,false,false,false⟩
theorem dV(k c p y:Int):n8 (xN k c p y):=by unfold n8 xN;simp[Value.oneCell']
def rlM(m:mR)(a:AS)(e:Ev):Bool:=rel (dnA a.ks) e&&decide (m.k=1)
def wZ(m:mR)(a:AS)(e:Ev):AS:={a with ks:=a.ks++[e],v:=if rlM m a e=true then Cpu.upd a.v m.rg.toNat e.k.toNat else a.v}
def uE(m:mR)(a:AS)(e:Ev):mR:=if rlM m a e=true then{m with k:=0,c:=0,p:=0,y:=0}else m
def rU(a:AS):AS:={a with dl:=a.dl-1,sd:=a.sd-1}
def wA(m:mR)(a:AS):Ins:=yV a.M a.pc m.q.lv
def okM(m:mR)(a:AS):Bool:=!m.q.fa||decide (a.pc+(wA m a).len≤65536)
def efM(m:mR)(a:AS):Ef:=if okM m a=true then efA a (wA m a).op (wA m a).x.toNat (wA m a).y.toNat (wA m a).n.toNat m.q else⟨4,false,false,false⟩
def asM(N:Nat)(m:mR)(a:AS):AS:=if okM m a=true then stA N a (wA m a).op (wA m a).x.toNat (wA m a).y.toNat (wA m a).n.toNat (wA m a).nn.toNat (wA m a).addr (wA m a).len m.q else a
def nmE(m:mR)(pc x:Int)(e:Ef):mR:=
 if e.c≠0 then{m with k:=3,c:=e.c,p:=pc,y:=m.ex,ex:=m.ex+1}else
 if e.halt=true then{m with k:=2,c:=0,p:=pc,y:=m.ex,ex:=m.ex+1}else
 if e.wait=true then{m with k:=1,c:=0,p:=0,y:=0,rg:=x,ex:=m.ex+1}else{m with k:=0,c:=0,p:=0,y:=0,ex:=m.ex+1}
def nmM(m:mR)(a:AS):mR:=if m.k=0 then nmE m a.pc (wA m a).x (efM m a)else m
def yI(N:Nat)(m:mR)(a:AS):AS:=if m.k=0 then asM N m a else a
def bU(m:mR)(a:AS):Bool:=decide (m.k=0)&&(efM m a).drew
structure OkM(m:mR)(a:AS):Prop where
 ok:OkB a
 lv:1≤m.q.lv∧m.q.lv≤3
 k:0≤m.k∧m.k≤3
 z:m.k=0→m.c=0∧m.p=0∧m.y=0
 rg:0≤m.rg∧m.rg≤15
 ex:0≤m.ex
 rd:(a.rd:Int)≤m.ex
theorem ZC{M:List Int}(h:Bts M):BtM M:=fun b hb=>by
 obtain⟨k,hk,rfl⟩:=List.getElem_of_mem hb;exact h k hk
theorem zKQ(v:Nat):lw (v:Int) 1=((v-1:Nat):Int):=by unfold lw;omega
section
variable {m:mR} {a:AS}
theorem zKR(O:OkA a)(lv:Int):QP (yV a.M a.pc lv) lv:=⟨_,_,_,_,(yH (ZC O.B) a.pc 0 O.M zGL).1,(yH (ZC O.B) a.pc 1 O.M zGL).1,(yH (ZC O.B) a.pc 2 O.M zGL).1,(yH (ZC O.B) a.pc 3 O.M zGL).1,rfl⟩
theorem WK(H:OkM m a):∃(op:Int) (x y n nn:Nat) (addr len:Int),wA m a=⟨op,x,y,n,nn,addr,len⟩∧QP ⟨op,x,y,n,nn,addr,len⟩ m.q.lv∧(0≤op∧op≤51)∧x<16∧y<16∧n<16∧nn<256∧(0≤addr∧addr≤65535)∧(0≤len∧len≤4):=by
 have hd:=zKR H.ok.o m.q.lv;obtain⟨op,x,y,n,nn,addr,len,e,r⟩:=hd.nat H.lv;exact⟨op,x,y,n,nn,addr,len,e,e▸hd,r⟩
theorem zXU(N:Nat)(H:OkM m a)(hx:m.ex<1000000000):OkM (nmM m a) (yI N m a):=by
 by_cases hk:m.k=0
 ·have e1:nmM m a=nmE m a.pc (wA m a).x (efM m a):=by unfold nmM;rw[zN hk]
  have e2:yI N m a=asM N m a:=by unfold yI;rw[zN hk]
  rw[e1,e2];obtain⟨op,x,y,n,nn,addr,len,ei,hd,r1,r2,r3,r4,r5,r6,r7⟩:=WK H;have hrd:=H.rd;have hex:=H.ex;have O1:OkB (asM N m a):=by
   unfold asM;split
   ·rw[ei];simp only[Int.toNat_natCast];exact okB_st N H.ok zGX op x y n nn addr len m.q r2 r3 r4 r5 r6
   ·exact H.ok
  have hr:((asM N m a).rd:Int)≤m.ex+1:=by
   unfold asM;split
   ·rw[ei];simp only[Int.toNat_natCast];have:=rd_st N a op x y n nn addr len m.q;omega
   ·omega
  have hxi:(wA m a).x=(x:Int):=by rw[ei]
  unfold nmE;split
  ·exact⟨O1,H.lv,by simp,fun h=>by simp at h,H.rg,by simp only;omega,hr⟩
  ·split
   ·exact⟨O1,H.lv,by simp,fun h=>by simp at h,H.rg,by simp only;omega,hr⟩
   ·split
    ·exact⟨O1,H.lv,by simp,fun h=>by simp at h,by simp only;rw[hxi];omega,by simp only;omega,hr⟩
    ·exact⟨O1,H.lv,by simp,fun _=>⟨rfl,rfl,rfl⟩,H.rg,by simp only;omega,hr⟩
 ·unfold nmM yI;rw[zL hk,zL hk];exact H
theorem zLV(H:OkM m a)(e:Ev)(hk:a.ks.length<1000):OkM (uE m a e) (wZ m a e):=by
 have O:=H.ok.o;have hv:OkV (wZ m a e).v:=by
  unfold wZ;simp only;split
  ·rename_i h
   unfold rlM at h;rw[zC]at h;have h2:=h.1;unfold rel at h2;rw[zC,qK]at h2;intro j hj;unfold Cpu.upd;split
   ·omega
   ·exact O.v j hj
  ·exact O.v
 have O1:OkA (wZ m a e):=⟨hv,O.i,O.pc,O.sk,O.M,O.B,O.msk,by show(a.ks++[e]).length≤1000;simp;omega,O.dl,O.sd,O.P,O.pt,O.fl,O.L,O.LB,O.rd⟩;unfold uE;split
 ·exact⟨⟨O1,H.ok.s⟩,H.lv,by simp,fun _=>⟨rfl,rfl,rfl⟩,H.rg,H.ex,H.rd⟩
 ·exact⟨⟨O1,H.ok.s⟩,H.lv,H.k,H.z,H.rg,H.ex,H.rd⟩
theorem zXA(H:OkM m a):OkM m (rU a):=by
 have O:=H.ok.o;exact⟨⟨⟨O.v,O.i,O.pc,O.sk,O.M,O.B,O.msk,O.ks,by have:=O.dl;show a.dl-1<256;omega,by have:=O.sd;show a.sd-1<256;omega,O.P,O.pt,O.fl,O.L,O.LB,O.rd⟩,H.ok.s⟩,H.lv,H.k,H.z,H.rg,H.ex,H.rd⟩
end
theorem zeroEv:nH Tryz.prog 69 #[.int .i64 0,.bool false]:=by unfold nH;kernel_rfl
end
end Go.Proofs.YtbpniahcjbagmaaGreatDoor
