/- MacCache, MacSem. -/
import Derived.Test.YthknmadinmigfaaGreatDoorMk3b
set_option maxRecDepth 400000
set_option maxHeartbeats 64000000
set_option linter.unusedVariables false
set_option linter.unusedSimpArgs false
namespace Go.Proofs.YthknmadinmigfaaGreatDoor
section
open Go.RowKit Num Dec Cpu
def Y3(l:m6)(M:List Int)(lv:Int):Prop:=∀x i,lI l x=some i→i=xN M (x:Int) lv
theorem Y3.nil(M:List Int)(lv:Int):Y3 [] M lv:=fun x i h=>by cases h
theorem iM:∀(S:List (Int×Int)) (l:m6) (x:Nat) (i:Ins),lI (dropL l S) x=some i→lI l x=some i∧∀s∈S,eB (x:Int) s.1 s.2=false
 |[],l,x,i,h=>⟨h,fun s hs=>absurd hs qD⟩
 |s::t,l,x,i,h=>by
  unfold dropL at h;obtain⟨h1,h2⟩:=iM t _ x i h;have h3:lI l x=some i∧eB (x:Int) s.1 s.2=false:=by
   split at h1
   ·rw[ZG]at h1;split at h1
    ·cases h1
    ·rename_i hb
     exact⟨h1,by simpa using hb⟩
   ·rename_i hn
    refine⟨h1,?_⟩;unfold eB;simp;omega
  refine⟨h3.1,fun r hr=>?_⟩;rcases List.mem_cons.1 hr with rfl|hr
  ·exact h3.2
  ·exact h2 r hr
theorem AO{M M':List Int}(hM:M.length=65536)(hM':M'.length=65536)(S:List (Int×Int))(hd:∀j:Nat,j<65536→(∀s∈S,¬((j:Int)-s.1)%65536<s.2)→M'[j]?=M[j]?)(x lv:Int)(hx:∀s∈S,eB x s.1 s.2=false):xN M' x lv=xN M x lv:=by
 have hs:seg M' x 4=seg M x 4:=by
  apply kQ
  intro j
  by_cases hj:j<4
  ·rw[wC _ x 4 j hM' hj,wC _ x 4 j hM hj];refine hd _ zLS fun s h=>?_;have:=zZH (hx s h) (j:Int) zLS zLS;omega
  ·rw[qW zMD,qW zMD]
 unfold xN yU;rw[hs]
theorem Y3.drop{l:m6}{M M':List Int}{lv:Int}(h:Y3 l M lv)(hM:M.length=65536)(hM':M'.length=65536)(S:List (Int×Int))(hd:∀j:Nat,j<65536→(∀s∈S,¬((j:Int)-s.1)%65536<s.2)→M'[j]?=M[j]?):Y3 (dropL l S) M' lv:=fun x i hi=>by
 obtain⟨h1,h2⟩:=iM S l x i hi;rw[AO hM hM' S hd x lv h2];exact h x i h1
theorem ZO(M:List Int)(a lv:Int)(hM:M.length=65536):xN M ((tZ a:Nat):Int) lv=xN M a lv:=by
 have hs:seg M ((tZ a:Nat):Int) 4=seg M a 4:=by
  apply kQ
  intro j
  by_cases hj:j<4
  ·rw[wC _ _ 4 j hM hj,wC _ _ 4 j hM hj];congr 2
   unfold tZ
   omega
  ·rw[qW zMD,qW zMD]
 unfold xN yU;rw[hs]
structure CoC(pg:Nat→Option Nat)(p:Nat)(lv:Int)(en:Bool)(l:m6)(h m:Nat)(M:List Int)(w:World):Prop where
 c:CB pg p lv en (l.length:Int) (h:Int) (m:Int) w
 g:PGS pg (lI l) w
 one:wF l
 lt:∀e∈l,e.1<65536
 wf:(Lit.int .i64 lv).wf=true
 off:en=false→l=[]
 co:Y3 l M lv
section
variable {pg:Nat→Option Nat} {p h m:Nat} {lv:Int} {en:Bool} {l:m6} {M:List Int} {w w':World}
theorem CoC.kept(C:CoC pg p lv en l h m M w){O:Nat→Prop}(k:lN O w w')(hd:∀j,icO pg p j→¬O j):CoC pg p lv en l h m M w':=
 ⟨C.c.kept k (hd p (.inl rfl)),C.g.kept k (fun j b hj e=>hd b (.inr ⟨j,hj,e⟩)),C.one,C.lt,C.wf,C.off,C.co⟩
theorem CoC.step(C:CoC pg p lv en l h m M w)(hb:Below w.heap.size w w'):CoC pg p lv en l h m M w':=C.kept (O:=fun _=>False) (lN.of_below hb) (fun _ _ c=>c)
theorem CoC.blt(C:CoC pg p lv en l h m M w):∀k,icO pg p k→k<w.heap.size:=sB C.c C.g
theorem AZ(C:CoC pg p lv en l h m M w)(pm:Nat)(v:Value)(a:Int)(hM:M.length=65536)(hp:mP pm M v w)(hB:BtM M)(hpm:¬icO pg p pm)(h1:h≤100000)(m1:m≤100000)(l1:l.length≤1000000):
  Calls Tryz.prog 32 #[.pointer (some ⟨p,0,none⟩),.pointer (some ⟨pm,0,none⟩),.int .i64 a] w fun e w'=>e=.returned (.agg (lX (xN M a lv)))∧
   ∃pg' l' h' m',CoC pg' p lv en l' h' m' M w'∧lN (icO pg p) w w'∧nS (icO pg p) (icO pg' p) w.heap.size∧h'+m'=h+m+1∧l'.length≤l.length+1∧(en=true→(lI l' (tZ a)).isSome=true):=by
 cases hl:lI l (tZ a)with
 |some i=>
  refine(AJ pg p lv en h m a (tZ a) i l (.pointer (some ⟨pm,0,none⟩)) w C.c C.g hl (H8 a) zLS zLS).mono ?_
  rintro e w' ⟨rfl,C',G',K'⟩
  have e1:i=xN M a lv:=by rw[C.co _ _ hl,ZO M a lv hM]
  exact⟨by rw[e1],pg,l,h+1,m,⟨C',G',C.one,C.lt,C.wf,C.off,C.co⟩,K',nS.refl,by omega,by omega,fun _=>by rw[hl];rfl⟩
 |none=>
  refine(WI pg p lv en h m a (tZ a) l pm M v w C.c C.g hl (H8 a) zLS zLS l1 hM hp hB C.wf hpm).mono ?_
  rintro e w' ⟨rfl,pg',C',G',K',W'⟩
  refine⟨rfl,pg',eN en l (tZ a) (xN M a lv),h,m+1,⟨C',G',?_,?_,C.wf,?_,?_⟩,K',W',by omega,?_,?_⟩
  ·cases en
   ·exact C.one
   ·exact C.one.snoc _ hl
  ·cases en
   ·exact C.lt
   ·intro e he
    unfold eN at he
    simp only[if_true,List.mem_append,List.mem_singleton]at he
    rcases he with he|rfl
    ·exact C.lt e he
    ·exact zXK a
  ·rintro rfl
   exact C.off rfl
  ·cases en
   ·exact C.co
   ·intro x i hi
    unfold eN at hi
    rw[zN rfl,bQ]at hi
    cases hx:lI l x with
    |some j=>
     rw[hx]at hi
     cases hi
     exact C.co _ _ hx
    |none=>
     rw[hx]at hi
     simp only at hi
     split at hi
     ·rename_i e1
      cases hi
      rw[←e1,ZO M a lv hM]
     ·cases hi
  ·cases en
   ·show l.length≤_;omega
   ·show(l++[_]).length≤_;simp
  ·rintro rfl
   unfold eN
   rw[zN rfl,bQ,hl]
   simp
theorem XN(C:CoC pg p lv en l h m M w):
  Calls Tryz.prog 31 #[.pointer (some ⟨p,0,none⟩)] w fun e w'=>e=.returned (.tuple #[])∧CoC (fun _=>none) p lv en [] h m M w'∧lN (fun k=>k=p) w w':=by
 refine(XH pg p lv en (l.length:Int) h m w C.c).mono ?_;rintro e w' ⟨rfl,C',K'⟩;exact⟨rfl,⟨C',⟨fun k b _ e=>(by cases e),fun _ _ _ _ _=>rfl,fun j k b _ _ e _=>(by cases e)⟩,List.nodup_nil,fun e he=>(by cases he),C.wf,fun _=>rfl,Y3.nil _ _⟩,K'⟩
theorem N9(C:CoC pg p lv en l h m M w)(M':List Int)(S:List (Int×Int))(A:Option Addr)(c:Nat)(hM:M.length=65536)(hM':M'.length=65536)(l1:l.length≤1000000)(HR:RgR w A S (icO pg p))(k1:S.length≤1000)(hs:∀s∈S,0≤s.1∧s.1≤65535∧s.2≤65536)
  (hd:∀j:Nat,j<65536→(∀s∈S,¬((j:Int)-s.1)%65536<s.2)→M'[j]?=M[j]?):
  Calls Tryz.prog 35 #[.pointer (some ⟨p,0,none⟩),.slice A S.length c] w fun e w'=>e=.returned (.tuple #[])∧∃l',CoC pg p lv en l' h m M' w'∧lN (icO pg p) w w'∧l'.length≤l.length∧(S=[]→l'=l):=by
 refine(XQ pg p lv en h m l S A S.length c w C.c C.g C.one C.lt l1 HR rfl k1 hs).mono ?_;rintro e w' ⟨rfl,C',G',K'⟩;refine⟨rfl,dropL l S,⟨C',G',C.one.dropL S,fun e he=>C.lt e (sF S l he),C.wf,fun e=>?_,C.co.drop hM hM' S hd⟩,K',eD S l,fun e=>by rw[e];rfl⟩;have h0:=eD S l;rw[C.off e]at h0⊢;exact jG (Nat.le_zero.1 h0)
end
theorem pF(lv:Int)(en:Bool)(M:List Int)(w:World)(hl:(Lit.int .i64 lv).wf=true):CoC (fun _=>none) w.heap.size lv en [] 0 0 M (w.alloc (.cells (JE lv en) 137)):=
 ⟨CB.new w lv en,⟨fun k b _ e=>(by cases e),fun _ _ _ _ _=>rfl,fun j k b _ _ e _=>(by cases e)⟩,List.nodup_nil,fun e he=>(by cases he),hl,fun _=>rfl,Y3.nil _ _⟩
def yA(m:mB)(a:AS):Ins:=xN a.M a.pc m.q.lv
def okM(m:mB)(a:AS):Bool:=!m.q.fa||decide (a.pc+(yA m a).len≤65536)
def efM(m:mB)(a:AS):Ef:=if okM m a=true then efA a (yA m a).op (yA m a).x.toNat (yA m a).y.toNat (yA m a).n.toNat m.q else⟨4,false,false,false⟩
def asM(N:Nat)(m:mB)(a:AS):AS:=if okM m a=true then stA N a (yA m a).op (yA m a).x.toNat (yA m a).y.toNat (yA m a).n.toNat (yA m a).nn.toNat (yA m a).addr (yA m a).len m.q else a
def nmE(m:mB)(pc x:Int)(e:Ef):mB:=
 if e.c≠0 then{m with k:=3,c:=e.c,p:=pc,y:=m.ex,ex:=m.ex+1}else
 if e.halt=true then{m with k:=2,c:=0,p:=pc,y:=m.ex,ex:=m.ex+1}else
 if e.wait=true then{m with k:=1,c:=0,p:=0,y:=0,rg:=x,ex:=m.ex+1}else{m with k:=0,c:=0,p:=0,y:=0,ex:=m.ex+1}
def nmM(m:mB)(a:AS):mB:=if m.k=0 then nmE m a.pc (yA m a).x (efM m a)else m
def vL(N:Nat)(m:mB)(a:AS):AS:=if m.k=0 then asM N m a else a
def xM(m:mB)(a:AS):Bool:=decide (m.k=0)&&(efM m a).drew
structure OkM(m:mB)(a:AS):Prop where
 ok:OkB a
 lv:1≤m.q.lv∧m.q.lv≤3
 k:0≤m.k∧m.k≤3
 z:m.k=0→m.c=0∧m.p=0∧m.y=0
 rg:0≤m.rg∧m.rg≤15
 ex:0≤m.ex
 rd:(a.rd:Int)≤m.ex
theorem iU{M:List Int}(h:Bts M):BtM M:=fun b hb=>by
 obtain⟨k,hk,rfl⟩:=List.getElem_of_mem hb;exact h k hk
theorem zQI(v:Nat):lw (v:Int) 1=((v-1:Nat):Int):=by unfold lw;omega
section
variable {m:mB} {a:AS}
theorem zZX(O:OkA a)(lv:Int):oF (xN a.M a.pc lv) lv:=⟨_,_,_,_,(xF (iU O.B) a.pc 0 O.M zLA).1,(xF (iU O.B) a.pc 1 O.M zLA).1,(xF (iU O.B) a.pc 2 O.M zLA).1,(xF (iU O.B) a.pc 3 O.M zLA).1,rfl⟩
theorem XZ(H:OkM m a):∃(op:Int) (x y n nn:Nat) (addr len:Int),yA m a=⟨op,x,y,n,nn,addr,len⟩∧oF ⟨op,x,y,n,nn,addr,len⟩ m.q.lv∧(0≤op∧op≤51)∧x<16∧y<16∧n<16∧nn<256∧(0≤addr∧addr≤65535)∧(0≤len∧len≤4):=by
 have hd:=zZX H.ok.o m.q.lv;obtain⟨op,x,y,n,nn,addr,len,e,r⟩:=hd.nat H.lv;exact⟨op,x,y,n,nn,addr,len,e,e▸hd,r⟩
theorem zQB(N:Nat)(H:OkM m a)(hx:m.ex<1000000000):OkM (nmM m a) (vL N m a):=by
 by_cases hk:m.k=0
 ·have e1:nmM m a=nmE m a.pc (yA m a).x (efM m a):=by unfold nmM;rw[zN hk]
  have e2:vL N m a=asM N m a:=by unfold vL;rw[zN hk]
  rw[e1,e2];obtain⟨op,x,y,n,nn,addr,len,ei,hd,r1,r2,r3,r4,r5,r6,r7⟩:=XZ H;have hrd:=H.rd;have hex:=H.ex;have O1:OkB (asM N m a):=by
   unfold asM;split
   ·rw[ei];simp only[Int.toNat_natCast];exact okB_st N H.ok zLS op x y n nn addr len m.q r2 r3 r4 r5 r6
   ·exact H.ok
  have hr:((asM N m a).rd:Int)≤m.ex+1:=by
   unfold asM;split
   ·rw[ei];simp only[Int.toNat_natCast];have:=rd_st N a op x y n nn addr len m.q;omega
   ·omega
  have hxi:(yA m a).x=(x:Int):=by rw[ei]
  unfold nmE;split
  ·exact⟨O1,H.lv,by simp,fun h=>by simp at h,H.rg,by simp only;omega,hr⟩
  ·split
   ·exact⟨O1,H.lv,by simp,fun h=>by simp at h,H.rg,by simp only;omega,hr⟩
   ·split
    ·exact⟨O1,H.lv,by simp,fun h=>by simp at h,by simp only;rw[hxi];omega,by simp only;omega,hr⟩
    ·exact⟨O1,H.lv,by simp,fun _=>⟨rfl,rfl,rfl⟩,H.rg,by simp only;omega,hr⟩
 ·unfold nmM vL;rw[zL hk,zL hk];exact H
theorem zKC(H:OkM m a)(e:Ev)(hk:a.ks.length<1000):OkM (gM m a e) (tI m a e):=by
 have O:=H.ok.o;have hv:OkV (tI m a e).v:=by
  unfold tI;simp only;split
  ·rename_i h
   unfold rlM at h;rw[zC]at h;have h2:=h.1;unfold rel at h2;rw[zC,qB]at h2;intro j hj;unfold Cpu.upd;split
   ·omega
   ·exact O.v j hj
  ·exact O.v
 have O1:OkA (tI m a e):=⟨hv,O.i,O.pc,O.sk,O.M,O.B,O.msk,by show(a.ks++[e]).length≤1000;simp;omega,O.dl,O.sd,O.P,O.pt,O.fl,O.L,O.LB,O.rd⟩;unfold gM;split
 ·exact⟨⟨O1,H.ok.s⟩,H.lv,by simp,fun _=>⟨rfl,rfl,rfl⟩,H.rg,H.ex,H.rd⟩
 ·exact⟨⟨O1,H.ok.s⟩,H.lv,H.k,H.z,H.rg,H.ex,H.rd⟩
theorem zQG(H:OkM m a):OkM m (u6 a):=by
 have O:=H.ok.o;exact⟨⟨⟨O.v,O.i,O.pc,O.sk,O.M,O.B,O.msk,O.ks,by have:=O.dl;show a.dl-1<256;omega,by have:=O.sd;show a.sd-1<256;omega,O.P,O.pt,O.fl,O.L,O.LB,O.rd⟩,H.ok.s⟩,H.lv,H.k,H.z,H.rg,H.ex,H.rd⟩
end
end
end Go.Proofs.YthknmadinmigfaaGreatDoor
