/- MacCache, MacSem. -/
import Derived.Test.YthknmadinmigfaaGreatDoorMk3b
set_option maxRecDepth 400000
set_option maxHeartbeats 64000000
set_option linter.unusedVariables false
set_option linter.unusedSimpArgs false
namespace Go.Proofs.YthknmadinmigfaaGreatDoor
section
open Go.RowKit Num Dec Cpu
def XG(l:m7)(M:List Int)(lv:Int):Prop:=∀x i,lC l x=some i→i=cA M (x:Int) lv
theorem XG.nil(M:List Int)(lv:Int):XG [] M lv:=fun x i h=>by cases h
theorem aM:∀(S:List (Int×Int)) (l:m7) (x:Nat) (i:Ins),lC (dropL l S) x=some i→lC l x=some i∧∀s∈S,dG (x:Int) s.1 s.2=false
 |[],l,x,i,h=>⟨h,fun s hs=>absurd hs qR⟩
 |s::t,l,x,i,h=>by
  unfold dropL at h;obtain⟨h1,h2⟩:=aM t _ x i h;have h3:lC l x=some i∧dG (x:Int) s.1 s.2=false:=by
   split at h1
   ·rw[oH]at h1;split at h1
    ·cases h1
    ·rename_i hb
     exact⟨h1,by simpa using hb⟩
   ·rename_i hn
    refine⟨h1,?_⟩;unfold dG;simp;omega
  refine⟨h3.1,fun r hr=>?_⟩;rcases List.mem_cons.1 hr with rfl|hr
  ·exact h3.2
  ·exact h2 r hr
theorem SA{M M':List Int}(hM:M.length=65536)(hM':M'.length=65536)(S:List (Int×Int))(hd:∀j:Nat,j<65536→(∀s∈S,¬((j:Int)-s.1)%65536<s.2)→M'[j]?=M[j]?)(x lv:Int)(hx:∀s∈S,dG x s.1 s.2=false):cA M' x lv=cA M x lv:=by
 have hs:seg M' x 4=seg M x 4:=by
  apply kQ
  intro j
  by_cases hj:j<4
  ·rw[wL _ x 4 j hM' hj,wL _ x 4 j hM hj];refine hd _ zYX fun s h=>?_;have:=OU (hx s h) (j:Int) zYX zYX;omega
  ·rw[qX zLX,qX zLX]
 unfold cA yN;rw[hs]
theorem XG.drop{l:m7}{M M':List Int}{lv:Int}(h:XG l M lv)(hM:M.length=65536)(hM':M'.length=65536)(S:List (Int×Int))(hd:∀j:Nat,j<65536→(∀s∈S,¬((j:Int)-s.1)%65536<s.2)→M'[j]?=M[j]?):XG (dropL l S) M' lv:=fun x i hi=>by
 obtain⟨h1,h2⟩:=aM S l x i hi;rw[SA hM hM' S hd x lv h2];exact h x i h1
theorem oO(M:List Int)(a lv:Int)(hM:M.length=65536):cA M ((yG a:Nat):Int) lv=cA M a lv:=by
 have hs:seg M ((yG a:Nat):Int) 4=seg M a 4:=by
  apply kQ
  intro j
  by_cases hj:j<4
  ·rw[wL _ _ 4 j hM hj,wL _ _ 4 j hM hj];congr 2
   unfold yG
   omega
  ·rw[qX zLX,qX zLX]
 unfold cA yN;rw[hs]
structure CoC(pg:Nat→Option Nat)(p:Nat)(lv:Int)(en:Bool)(l:m7)(h m:Nat)(M:List Int)(w:World):Prop where
 c:CB pg p lv en (l.length:Int) (h:Int) (m:Int) w
 g:PGS pg (lC l) w
 one:wV l
 lt:∀e∈l,e.1<65536
 wf:(Lit.int .i64 lv).wf=true
 off:en=false→l=[]
 co:XG l M lv
section
variable {pg:Nat→Option Nat} {p h m:Nat} {lv:Int} {en:Bool} {l:m7} {M:List Int} {w w':World}
theorem CoC.kept(C:CoC pg p lv en l h m M w){O:Nat→Prop}(k:lR O w w')(hd:∀j,icO pg p j→¬O j):CoC pg p lv en l h m M w':=
 ⟨C.c.kept k (hd p (.inl rfl)),C.g.kept k (fun j b hj e=>hd b (.inr ⟨j,hj,e⟩)),C.one,C.lt,C.wf,C.off,C.co⟩
theorem CoC.step(C:CoC pg p lv en l h m M w)(hb:Below w.heap.size w w'):CoC pg p lv en l h m M w':=C.kept (O:=fun _=>False) (lR.of_below hb) (fun _ _ c=>c)
theorem CoC.blt(C:CoC pg p lv en l h m M w):∀k,icO pg p k→k<w.heap.size:=eS C.c C.g
theorem E6(C:CoC pg p lv en l h m M w)(pm:Nat)(v:Value)(a:Int)(hM:M.length=65536)(hp:mE pm M v w)(hB:BtM M)(hpm:¬icO pg p pm)(h1:h≤100000)(m1:m≤100000)(l1:l.length≤1000000):
  Calls Tryz.prog 32 #[.pointer (some ⟨p,0,none⟩),.pointer (some ⟨pm,0,none⟩),.int .i64 a] w fun e w'=>e=.returned (.agg (lX (cA M a lv)))∧
   ∃pg' l' h' m',CoC pg' p lv en l' h' m' M w'∧lR (icO pg p) w w'∧vJ (icO pg p) (icO pg' p) w.heap.size∧h'+m'=h+m+1∧l'.length≤l.length+1∧(en=true→(lC l' (yG a)).isSome=true):=by
 cases hl:lC l (yG a)with
 |some i=>
  refine(E7 pg p lv en h m a (yG a) i l (.pointer (some ⟨pm,0,none⟩)) w C.c C.g hl (ZS a) zYX zYX).mono ?_
  rintro e w' ⟨rfl,C',G',K'⟩
  have e1:i=cA M a lv:=by rw[C.co _ _ hl,oO M a lv hM]
  exact⟨by rw[e1],pg,l,h+1,m,⟨C',G',C.one,C.lt,C.wf,C.off,C.co⟩,K',vJ.refl,by omega,by omega,fun _=>by rw[hl];rfl⟩
 |none=>
  refine(VG pg p lv en h m a (yG a) l pm M v w C.c C.g hl (ZS a) zYX zYX l1 hM hp hB C.wf hpm).mono ?_
  rintro e w' ⟨rfl,pg',C',G',K',W'⟩
  refine⟨rfl,pg',dN en l (yG a) (cA M a lv),h,m+1,⟨C',G',?_,?_,C.wf,?_,?_⟩,K',W',by omega,?_,?_⟩
  ·cases en
   ·exact C.one
   ·exact C.one.snoc _ hl
  ·cases en
   ·exact C.lt
   ·intro e he
    unfold dN at he
    simp only[if_true,List.mem_append,List.mem_singleton]at he
    rcases he with he|rfl
    ·exact C.lt e he
    ·exact zJQ a
  ·rintro rfl
   exact C.off rfl
  ·cases en
   ·exact C.co
   ·intro x i hi
    unfold dN at hi
    rw[zN rfl,gN]at hi
    cases hx:lC l x with
    |some j=>
     rw[hx]at hi
     cases hi
     exact C.co _ _ hx
    |none=>
     rw[hx]at hi
     simp only at hi
     split at hi
     ·rename_i e1
      cases hi
      rw[←e1,oO M a lv hM]
     ·cases hi
  ·cases en
   ·show l.length≤_;omega
   ·show(l++[_]).length≤_;simp
  ·rintro rfl
   unfold dN
   rw[zN rfl,gN,hl]
   simp
theorem MI(C:CoC pg p lv en l h m M w):
  Calls Tryz.prog 31 #[.pointer (some ⟨p,0,none⟩)] w fun e w'=>e=.returned (.tuple #[])∧CoC (fun _=>none) p lv en [] h m M w'∧lR (fun k=>k=p) w w':=by
 refine(M7 pg p lv en (l.length:Int) h m w C.c).mono ?_;rintro e w' ⟨rfl,C',K'⟩;exact⟨rfl,⟨C',⟨fun k b _ e=>(by cases e),fun _ _ _ _ _=>rfl,fun j k b _ _ e _=>(by cases e)⟩,List.nodup_nil,fun e he=>(by cases he),C.wf,fun _=>rfl,XG.nil _ _⟩,K'⟩
theorem MN(C:CoC pg p lv en l h m M w)(M':List Int)(S:List (Int×Int))(A:Option Addr)(c:Nat)(hM:M.length=65536)(hM':M'.length=65536)(l1:l.length≤1000000)(HR:RgR w A S (icO pg p))(k1:S.length≤1000)(hs:∀s∈S,0≤s.1∧s.1≤65535∧s.2≤65536)
  (hd:∀j:Nat,j<65536→(∀s∈S,¬((j:Int)-s.1)%65536<s.2)→M'[j]?=M[j]?):
  Calls Tryz.prog 35 #[.pointer (some ⟨p,0,none⟩),.slice A S.length c] w fun e w'=>e=.returned (.tuple #[])∧∃l',CoC pg p lv en l' h m M' w'∧lR (icO pg p) w w'∧l'.length≤l.length∧(S=[]→l'=l):=by
 refine(MH pg p lv en h m l S A S.length c w C.c C.g C.one C.lt l1 HR rfl k1 hs).mono ?_;rintro e w' ⟨rfl,C',G',K'⟩;refine⟨rfl,dropL l S,⟨C',G',C.one.dropL S,fun e he=>C.lt e (eE S l he),C.wf,fun e=>?_,C.co.drop hM hM' S hd⟩,K',dR S l,fun e=>by rw[e];rfl⟩;have h0:=dR S l;rw[C.off e]at h0⊢;exact jV (Nat.le_zero.1 h0)
theorem YC(C:CoC pg p lv en l h m M w)(a:Int):
  Calls Tryz.prog 45 #[.pointer (some ⟨p,0,none⟩),.int .i64 a] w fun e w'=>e=.returned (.tuple #[.agg (lX ((lC l (yG a)).getD zI)),.bool (lC l (yG a)).isSome])∧Below w.heap.size w w':=
 bE pg (lC l) p lv en _ h m a (yG a) w C.c C.g (ZS a)
end
theorem sB(lv:Int)(en:Bool)(M:List Int)(w:World)(hl:(Lit.int .i64 lv).wf=true):CoC (fun _=>none) w.heap.size lv en [] 0 0 M (w.alloc (.cells (QF lv en) 137)):=
 ⟨CB.new w lv en,⟨fun k b _ e=>(by cases e),fun _ _ _ _ _=>rfl,fun j k b _ _ e _=>(by cases e)⟩,List.nodup_nil,fun e he=>(by cases he),hl,fun _=>rfl,XG.nil _ _⟩
def yF(m:nY)(a:AS):Ins:=cA a.M a.pc m.q.lv
def okM(m:nY)(a:AS):Bool:=!m.q.fa||decide (a.pc+(yF m a).len≤65536)
def efM(m:nY)(a:AS):Ef:=if okM m a=true then efA a (yF m a).op (yF m a).x.toNat (yF m a).y.toNat (yF m a).n.toNat m.q else⟨4,false,false,false⟩
def asM(N:Nat)(m:nY)(a:AS):AS:=if okM m a=true then stA N a (yF m a).op (yF m a).x.toNat (yF m a).y.toNat (yF m a).n.toNat (yF m a).nn.toNat (yF m a).addr (yF m a).len m.q else a
def nmE(m:nY)(pc x:Int)(e:Ef):nY:=
 if e.c≠0 then{m with k:=3,c:=e.c,p:=pc,y:=m.ex,ex:=m.ex+1}else
 if e.halt=true then{m with k:=2,c:=0,p:=pc,y:=m.ex,ex:=m.ex+1}else
 if e.wait=true then{m with k:=1,c:=0,p:=0,y:=0,rg:=x,ex:=m.ex+1}else{m with k:=0,c:=0,p:=0,y:=0,ex:=m.ex+1}
def nmM(m:nY)(a:AS):nY:=if m.k=0 then nmE m a.pc (yF m a).x (efM m a)else m
def xR(N:Nat)(m:nY)(a:AS):AS:=if m.k=0 then asM N m a else a
def bJ(m:nY)(a:AS):Bool:=decide (m.k=0)&&(efM m a).drew
structure OkM(m:nY)(a:AS):Prop where
 ok:OkB a
 lv:1≤m.q.lv∧m.q.lv≤3
 k:0≤m.k∧m.k≤3
 z:m.k=0→m.c=0∧m.p=0∧m.y=0
 rg:0≤m.rg∧m.rg≤15
 ex:0≤m.ex
 rd:(a.rd:Int)≤m.ex
theorem aI{M:List Int}(h:Bts M):BtM M:=fun b hb=>by
 obtain⟨k,hk,rfl⟩:=List.getElem_of_mem hb;exact h k hk
section
variable {m:nY} {a:AS}
theorem OE(O:OkA a)(lv:Int):iU (cA a.M a.pc lv) lv:=⟨_,_,_,_,(xZ (aI O.B) a.pc 0 O.M zYY).1,(xZ (aI O.B) a.pc 1 O.M zYY).1,(xZ (aI O.B) a.pc 2 O.M zYY).1,(xZ (aI O.B) a.pc 3 O.M zYY).1,rfl⟩
theorem MT(H:OkM m a):∃(op:Int) (x y n nn:Nat) (addr len:Int),yF m a=⟨op,x,y,n,nn,addr,len⟩∧iU ⟨op,x,y,n,nn,addr,len⟩ m.q.lv∧(0≤op∧op≤51)∧x<16∧y<16∧n<16∧nn<256∧(0≤addr∧addr≤65535)∧(0≤len∧len≤4):=by
 have hd:=OE H.ok.o m.q.lv;obtain⟨op,x,y,n,nn,addr,len,e,r⟩:=hd.nat H.lv;exact⟨op,x,y,n,nn,addr,len,e,e▸hd,r⟩
theorem UA(N:Nat)(H:OkM m a)(hx:m.ex<1000000000):OkM (nmM m a) (xR N m a):=by
 by_cases hk:m.k=0
 ·have e1:nmM m a=nmE m a.pc (yF m a).x (efM m a):=by unfold nmM;rw[zN hk]
  have e2:xR N m a=asM N m a:=by unfold xR;rw[zN hk]
  rw[e1,e2];obtain⟨op,x,y,n,nn,addr,len,ei,hd,r1,r2,r3,r4,r5,r6,r7⟩:=MT H;have hrd:=H.rd;have hex:=H.ex;have O1:OkB (asM N m a):=by
   unfold asM;split
   ·rw[ei];simp only[Int.toNat_natCast];exact okB_st N H.ok zYX op x y n nn addr len m.q r2 r3 r4 r5 r6
   ·exact H.ok
  have hr:((asM N m a).rd:Int)≤m.ex+1:=by
   unfold asM;split
   ·rw[ei];simp only[Int.toNat_natCast];have:=rd_st N a op x y n nn addr len m.q;omega
   ·omega
  have hxi:(yF m a).x=(x:Int):=by rw[ei]
  unfold nmE;split
  ·exact⟨O1,H.lv,by simp,fun h=>by simp at h,H.rg,by simp only;omega,hr⟩
  ·split
   ·exact⟨O1,H.lv,by simp,fun h=>by simp at h,H.rg,by simp only;omega,hr⟩
   ·split
    ·exact⟨O1,H.lv,by simp,fun h=>by simp at h,by simp only;rw[hxi];omega,by simp only;omega,hr⟩
    ·exact⟨O1,H.lv,by simp,fun _=>⟨rfl,rfl,rfl⟩,H.rg,by simp only;omega,hr⟩
 ·unfold nmM xR;rw[zL hk,zL hk];exact H
theorem zXB(H:OkM m a)(e:Ev)(hk:a.ks.length<1000):OkM (rU m a e) (yD m a e):=by
 have O:=H.ok.o;have hv:OkV (yD m a e).v:=by
  unfold yD;simp only;split
  ·rename_i h
   unfold rlM at h;rw[zA]at h;have h2:=h.1;unfold rel at h2;rw[zA,qH]at h2;intro j hj;unfold Cpu.upd;split
   ·omega
   ·exact O.v j hj
  ·exact O.v
 have O1:OkA (yD m a e):=⟨hv,O.i,O.pc,O.sk,O.M,O.B,O.msk,by show(a.ks++[e]).length≤1000;simp;omega,O.dl,O.sd,O.P,O.pt,O.fl,O.L,O.LB,O.rd⟩;unfold rU;split
 ·exact⟨⟨O1,H.ok.s⟩,H.lv,by simp,fun _=>⟨rfl,rfl,rfl⟩,H.rg,H.ex,H.rd⟩
 ·exact⟨⟨O1,H.ok.s⟩,H.lv,H.k,H.z,H.rg,H.ex,H.rd⟩
end
end
end Go.Proofs.YthknmadinmigfaaGreatDoor
