/- MacCache, MacNum, MacSem, MacKey. -/
import Derived.Test.YtbpniahcjbagmaaGreatDoorMk2d
set_option maxRecDepth 400000
set_option maxHeartbeats 64000000
set_option linter.unusedVariables false
set_option linter.unusedSimpArgs false
namespace Go.Proofs.YtbpniahcjbagmaaGreatDoor
section
open Go.RowKit Num Dec Cpu
def YE(l:m6)(M:List Int)(lv:Int):Prop:=∀x i,lO l x=some i→i=xH M (x:Int) lv
theorem YE.nil(M:List Int)(lv:Int):YE [] M lv:=fun x i h=>by cases h
theorem iV:∀(S:List (Int×Int)) (l:m6) (x:Nat) (i:Ins),lO (dropL l S) x=some i→lO l x=some i∧∀s∈S,eV (x:Int) s.1 s.2=false
 |[],l,x,i,h=>⟨h,fun s hs=>absurd hs qD⟩
 |s::t,l,x,i,h=>by
  unfold dropL at h;obtain⟨h1,h2⟩:=iV t _ x i h;have h3:lO l x=some i∧eV (x:Int) s.1 s.2=false:=by
   split at h1
   ·rw[ZL]at h1;split at h1
    ·cases h1
    ·rename_i hb
     exact⟨h1,by simpa using hb⟩
   ·rename_i hn
    refine⟨h1,?_⟩;unfold eV;simp;omega
  refine⟨h3.1,fun r hr=>?_⟩;rcases List.mem_cons.1 hr with rfl|hr
  ·exact h3.2
  ·exact h2 r hr
theorem AH{M M':List Int}(hM:M.length=65536)(hM':M'.length=65536)(S:List (Int×Int))(hd:∀j:Nat,j<65536→(∀s∈S,¬((j:Int)-s.1)%65536<s.2)→M'[j]?=M[j]?)(x lv:Int)(hx:∀s∈S,eV x s.1 s.2=false):xH M' x lv=xH M x lv:=by
 have hs:seg M' x 4=seg M x 4:=by
  apply kJ
  intro j
  by_cases hj:j<4
  ·rw[wC _ x 4 j hM' hj,wC _ x 4 j hM hj];refine hd _ zLF fun s h=>?_;have:=zZX (hx s h) (j:Int) zLF zLF;omega
  ·rw[qV zMD,qV zMD]
 unfold xH yU;rw[hs]
theorem YE.drop{l:m6}{M M':List Int}{lv:Int}(h:YE l M lv)(hM:M.length=65536)(hM':M'.length=65536)(S:List (Int×Int))(hd:∀j:Nat,j<65536→(∀s∈S,¬((j:Int)-s.1)%65536<s.2)→M'[j]?=M[j]?):YE (dropL l S) M' lv:=fun x i hi=>by
 obtain⟨h1,h2⟩:=iV S l x i hi;rw[AH hM hM' S hd x lv h2];exact h x i h1
theorem ZA(M:List Int)(a lv:Int)(hM:M.length=65536):xH M ((tJ a:Nat):Int) lv=xH M a lv:=by
 have hs:seg M ((tJ a:Nat):Int) 4=seg M a 4:=by
  apply kJ
  intro j
  by_cases hj:j<4
  ·rw[wC _ _ 4 j hM hj,wC _ _ 4 j hM hj];congr 2
   unfold tJ
   omega
  ·rw[qV zMD,qV zMD]
 unfold xH yU;rw[hs]
structure CoC(pg:Nat→Option Nat)(p:Nat)(lv:Int)(en:Bool)(l:m6)(h m:Nat)(M:List Int)(w:World):Prop where
 c:CB pg p lv en (l.length:Int) (h:Int) (m:Int) w
 g:PGS pg (lO l) w
 one:wS l
 lt:∀e∈l,e.1<65536
 wf:(Lit.int .i64 lv).wf=true
 off:en=false→l=[]
 co:YE l M lv
section
variable {pg:Nat→Option Nat} {p h m:Nat} {lv:Int} {en:Bool} {l:m6} {M:List Int} {w w':World}
theorem CoC.kept(C:CoC pg p lv en l h m M w){O:Nat→Prop}(k:lH O w w')(hd:∀j,icO pg p j→¬O j):CoC pg p lv en l h m M w':=
 ⟨C.c.kept k (hd p (.inl rfl)),C.g.kept k (fun j b hj e=>hd b (.inr ⟨j,hj,e⟩)),C.one,C.lt,C.wf,C.off,C.co⟩
theorem CoC.step(C:CoC pg p lv en l h m M w)(hb:Below w.heap.size w w'):CoC pg p lv en l h m M w':=C.kept (O:=fun _=>False) (lH.of_below hb) (fun _ _ c=>c)
theorem CoC.blt(C:CoC pg p lv en l h m M w):∀k,icO pg p k→k<w.heap.size:=sM C.c C.g
theorem FO(C:CoC pg p lv en l h m M w)(pm:Nat)(v:Value)(a:Int)(hM:M.length=65536)(hp:mF pm M v w)(hB:BtM M)(hpm:¬icO pg p pm)(h1:h≤100000)(m1:m≤100000)(l1:l.length≤1000000):
  Calls Tryz.prog 50 #[.pointer (some ⟨p,0,none⟩),.pointer (some ⟨pm,0,none⟩),.int .i64 a] w fun e w'=>e=.returned (.agg (lK (xH M a lv)))∧
   ∃pg' l' h' m',CoC pg' p lv en l' h' m' M w'∧lH (icO pg p) w w'∧nS (icO pg p) (icO pg' p) w.heap.size∧h'+m'=h+m+1∧l'.length≤l.length+1∧(en=true→(lO l' (tJ a)).isSome=true):=by
 cases hl:lO l (tJ a)with
 |some i=>
  refine(F3 pg p lv en h m a (tJ a) i l (.pointer (some ⟨pm,0,none⟩)) w C.c C.g hl (T7 a) zLF zLF).mono ?_
  rintro e w' ⟨rfl,C',G',K'⟩
  have e1:i=xH M a lv:=by rw[C.co _ _ hl,ZA M a lv hM]
  exact⟨by rw[e1],pg,l,h+1,m,⟨C',G',C.one,C.lt,C.wf,C.off,C.co⟩,K',nS.refl,by omega,by omega,fun _=>by rw[hl];rfl⟩
 |none=>
  refine(WS pg p lv en h m a (tJ a) l pm M v w C.c C.g hl (T7 a) zLF zLF l1 hM hp hB C.wf hpm).mono ?_
  rintro e w' ⟨rfl,pg',C',G',K',W'⟩
  refine⟨rfl,pg',eZ en l (tJ a) (xH M a lv),h,m+1,⟨C',G',?_,?_,C.wf,?_,?_⟩,K',W',by omega,?_,?_⟩
  ·cases en
   ·exact C.one
   ·exact C.one.snoc _ hl
  ·cases en
   ·exact C.lt
   ·intro e he
    unfold eZ at he
    simp only[if_true,List.mem_append,List.mem_singleton]at he
    rcases he with he|rfl
    ·exact C.lt e he
    ·exact zXJ a
  ·rintro rfl
   exact C.off rfl
  ·cases en
   ·exact C.co
   ·intro x i hi
    unfold eZ at hi
    rw[zN rfl,gO]at hi
    cases hx:lO l x with
    |some j=>
     rw[hx]at hi
     cases hi
     exact C.co _ _ hx
    |none=>
     rw[hx]at hi
     simp only at hi
     split at hi
     ·rename_i e1
      cases hi
      rw[←e1,ZA M a lv hM]
     ·cases hi
  ·cases en
   ·show l.length≤_;omega
   ·show(l++[_]).length≤_;simp
  ·rintro rfl
   unfold eZ
   rw[zN rfl,gO,hl]
   simp
theorem XV(C:CoC pg p lv en l h m M w):
  Calls Tryz.prog 49 #[.pointer (some ⟨p,0,none⟩)] w fun e w'=>e=.returned (.tuple #[])∧CoC (fun _=>none) p lv en [] h m M w'∧lH (fun k=>k=p) w w':=by
 refine(XL pg p lv en (l.length:Int) h m w C.c).mono ?_;rintro e w' ⟨rfl,C',K'⟩;exact⟨rfl,⟨C',⟨fun k b _ e=>(by cases e),fun _ _ _ _ _=>rfl,fun j k b _ _ e _=>(by cases e)⟩,List.nodup_nil,fun e he=>(by cases he),C.wf,fun _=>rfl,YE.nil _ _⟩,K'⟩
theorem N6(C:CoC pg p lv en l h m M w)(M':List Int)(S:List (Int×Int))(A:Option Addr)(c:Nat)(hM:M.length=65536)(hM':M'.length=65536)(l1:l.length≤1000000)(HR:RgR w A S (icO pg p))(k1:S.length≤1000)(hs:∀s∈S,0≤s.1∧s.1≤65535∧s.2≤65536)
  (hd:∀j:Nat,j<65536→(∀s∈S,¬((j:Int)-s.1)%65536<s.2)→M'[j]?=M[j]?):
  Calls Tryz.prog 53 #[.pointer (some ⟨p,0,none⟩),.slice A S.length c] w fun e w'=>e=.returned (.tuple #[])∧∃l',CoC pg p lv en l' h m M' w'∧lH (icO pg p) w w'∧l'.length≤l.length∧(S=[]→l'=l):=by
 refine(N7 pg p lv en h m l S A S.length c w C.c C.g C.one C.lt l1 HR rfl k1 hs).mono ?_;rintro e w' ⟨rfl,C',G',K'⟩;refine⟨rfl,dropL l S,⟨C',G',C.one.dropL S,fun e he=>C.lt e (sG S l he),C.wf,fun e=>?_,C.co.drop hM hM' S hd⟩,K',eN S l,fun e=>by rw[e];rfl⟩;have h0:=eN S l;rw[C.off e]at h0⊢;exact jG (Nat.le_zero.1 h0)
end
theorem pG(lv:Int)(en:Bool)(M:List Int)(w:World)(hl:(Lit.int .i64 lv).wf=true):CoC (fun _=>none) w.heap.size lv en [] 0 0 M (w.alloc (.cells (JD lv en) 159)):=
 ⟨CB.new w lv en,⟨fun k b _ e=>(by cases e),fun _ _ _ _ _=>rfl,fun j k b _ _ e _=>(by cases e)⟩,List.nodup_nil,fun e he=>(by cases he),hl,fun _=>rfl,YE.nil _ _⟩
structure mR where
 q:Pr
 k:Int
 c:Int
 p:Int
 y:Int
 rg:Int
 ex:Int
def yH(k c p y:Int):Array Value:=#[.int .i64 k,.int .i64 c,.int .i64 p,.int .i64 y]
def mR.st(m:mR):Array Value:=yH m.k m.c m.p m.y
section
variable (m:mR) (s:CS)
end
theorem QV:nA Tryz.prog 24 8:=⟨⟨_,Tryz.underlying24,rfl⟩,by kernel_rfl⟩
theorem rM:nA Tryz.prog 34 4:=⟨⟨_,Tryz.underlying34,rfl⟩,by kernel_rfl⟩
def zJ5:Pr:=⟨0,false,false,false,false,false,false,false⟩
theorem gP(k c p y:Int):nI (yH k c p y):=by unfold nI yH;simp[Value.oneCell']
def rlM(m:mR)(a:AS)(e:Ev):Bool:=rel (dnA a.ks) e&&decide (m.k=1)
def rY(m:mR)(a:AS)(e:Ev):AS:={a with ks:=a.ks++[e],v:=if rlM m a e=true then Cpu.upd a.v m.rg.toNat e.k.toNat else a.v}
def uU(m:mR)(a:AS)(e:Ev):mR:=if rlM m a e=true then{m with k:=0,c:=0,p:=0,y:=0}else m
def rD(a:AS):AS:={a with dl:=a.dl-1,sd:=a.sd-1}
def yA(m:mR)(a:AS):Ins:=xH a.M a.pc m.q.lv
def okM(m:mR)(a:AS):Bool:=!m.q.fa||decide (a.pc+(yA m a).len≤65536)
def efM(m:mR)(a:AS):Ef:=if okM m a=true then efA a (yA m a).op (yA m a).x.toNat (yA m a).y.toNat (yA m a).n.toNat m.q else⟨4,false,false,false⟩
def asM(N:Nat)(m:mR)(a:AS):AS:=if okM m a=true then stA N a (yA m a).op (yA m a).x.toNat (yA m a).y.toNat (yA m a).n.toNat (yA m a).nn.toNat (yA m a).addr (yA m a).len m.q else a
def nmE(m:mR)(pc x:Int)(e:Ef):mR:=
 if e.c≠0 then{m with k:=3,c:=e.c,p:=pc,y:=m.ex,ex:=m.ex+1}else
 if e.halt=true then{m with k:=2,c:=0,p:=pc,y:=m.ex,ex:=m.ex+1}else
 if e.wait=true then{m with k:=1,c:=0,p:=0,y:=0,rg:=x,ex:=m.ex+1}else{m with k:=0,c:=0,p:=0,y:=0,ex:=m.ex+1}
def nmM(m:mR)(a:AS):mR:=if m.k=0 then nmE m a.pc (yA m a).x (efM m a)else m
def vA(N:Nat)(m:mR)(a:AS):AS:=if m.k=0 then asM N m a else a
def uT(m:mR)(a:AS):Bool:=decide (m.k=0)&&(efM m a).drew
structure OkM(m:mR)(a:AS):Prop where
 ok:OkB a
 lv:1≤m.q.lv∧m.q.lv≤3
 k:0≤m.k∧m.k≤3
 z:m.k=0→m.c=0∧m.p=0∧m.y=0
 rg:0≤m.rg∧m.rg≤15
 ex:0≤m.ex
 rd:(a.rd:Int)≤m.ex
theorem iP{M:List Int}(h:Bts M):BtM M:=fun b hb=>by
 obtain⟨k,hk,rfl⟩:=List.getElem_of_mem hb;exact h k hk
theorem zQF(v:Nat):lw (v:Int) 1=((v-1:Nat):Int):=by unfold lw;omega
section
variable {m:mR} {a:AS}
theorem zQ5(O:OkA a)(lv:Int):oB (xH a.M a.pc lv) lv:=⟨_,_,_,_,(xS (iP O.B) a.pc 0 O.M zLC).1,(xS (iP O.B) a.pc 1 O.M zLC).1,(xS (iP O.B) a.pc 2 O.M zLC).1,(xS (iP O.B) a.pc 3 O.M zLC).1,rfl⟩
theorem N8(H:OkM m a):∃(op:Int) (x y n nn:Nat) (addr len:Int),yA m a=⟨op,x,y,n,nn,addr,len⟩∧oB ⟨op,x,y,n,nn,addr,len⟩ m.q.lv∧(0≤op∧op≤51)∧x<16∧y<16∧n<16∧nn<256∧(0≤addr∧addr≤65535)∧(0≤len∧len≤4):=by
 have hd:=zQ5 H.ok.o m.q.lv;obtain⟨op,x,y,n,nn,addr,len,e,r⟩:=hd.nat H.lv;exact⟨op,x,y,n,nn,addr,len,e,e▸hd,r⟩
theorem zQV(N:Nat)(H:OkM m a)(hx:m.ex<1000000000):OkM (nmM m a) (vA N m a):=by
 by_cases hk:m.k=0
 ·have e1:nmM m a=nmE m a.pc (yA m a).x (efM m a):=by unfold nmM;rw[zN hk]
  have e2:vA N m a=asM N m a:=by unfold vA;rw[zN hk]
  rw[e1,e2];obtain⟨op,x,y,n,nn,addr,len,ei,hd,r1,r2,r3,r4,r5,r6,r7⟩:=N8 H;have hrd:=H.rd;have hex:=H.ex;have O1:OkB (asM N m a):=by
   unfold asM;split
   ·rw[ei];simp only[Int.toNat_natCast];exact okB_st N H.ok zLF op x y n nn addr len m.q r2 r3 r4 r5 r6
   ·exact H.ok
  have hr:((asM N m a).rd:Int)≤m.ex+1:=by
   unfold asM;split
   ·rw[ei];simp only[Int.toNat_natCast];have:=rd_st N a op x y n nn addr len m.q;omega
   ·omega
  have hxi:(yA m a).x=(x:Int):=by rw[ei]
  unfold nmE;split
  ·exact⟨O1,H.lv,by simp,fun h=>by simp at h,H.rg,by simp only;omega,hr⟩
  ·split
   ·exact⟨O1,H.lv,by simp,fun h=>by simp at h,H.rg,by simp only;omega,hr⟩
   ·split
    ·exact⟨O1,H.lv,by simp,fun h=>by simp at h,by simp only;rw[hxi];omega,by simp only;omega,hr⟩
    ·exact⟨O1,H.lv,by simp,fun _=>⟨rfl,rfl,rfl⟩,H.rg,by simp only;omega,hr⟩
 ·unfold nmM vA;rw[zL hk,zL hk];exact H
theorem zKC(H:OkM m a)(e:Ev)(hk:a.ks.length<1000):OkM (uU m a e) (rY m a e):=by
 have O:=H.ok.o;have hv:OkV (rY m a e).v:=by
  unfold rY;simp only;split
  ·rename_i h
   unfold rlM at h;rw[zC]at h;have h2:=h.1;unfold rel at h2;rw[zC,qB]at h2;intro j hj;unfold Cpu.upd;split
   ·omega
   ·exact O.v j hj
  ·exact O.v
 have O1:OkA (rY m a e):=⟨hv,O.i,O.pc,O.sk,O.M,O.B,O.msk,by show(a.ks++[e]).length≤1000;simp;omega,O.dl,O.sd,O.P,O.pt,O.fl,O.L,O.LB,O.rd⟩;unfold uU;split
 ·exact⟨⟨O1,H.ok.s⟩,H.lv,by simp,fun _=>⟨rfl,rfl,rfl⟩,H.rg,H.ex,H.rd⟩
 ·exact⟨⟨O1,H.ok.s⟩,H.lv,H.k,H.z,H.rg,H.ex,H.rd⟩
theorem zQK(H:OkM m a):OkM m (rD a):=by
 have O:=H.ok.o;exact⟨⟨⟨O.v,O.i,O.pc,O.sk,O.M,O.B,O.msk,O.ks,by have:=O.dl;show a.dl-1<256;omega,by have:=O.sd;show a.sd-1<256;omega,O.P,O.pt,O.fl,O.L,O.LB,O.rd⟩,H.ok.s⟩,H.lv,H.k,H.z,H.rg,H.ex,H.rd⟩
end

end
end Go.Proofs.YtbpniahcjbagmaaGreatDoor
