/- MacCache, MacSem. -/
import Derived.Test.YthknmadinmigfaaGreatDoorMk3b
set_option maxRecDepth 400000
set_option maxHeartbeats 64000000
set_option linter.unusedVariables false
set_option linter.unusedSimpArgs false
namespace Go.Proofs.YthknmadinmigfaaGreatDoor
section
open Go.RowKit Num Dec Cpu
def XC(l:m6)(M:List Int)(lv:Int):Prop:=∀x i,lE l x=some i→i=xZ M (x:Int) lv
theorem XC.nil(M:List Int)(lv:Int):XC [] M lv:=fun x i h=>by cases h
theorem aG:∀(S:List (Int×Int)) (l:m6) (x:Nat) (i:Ins),lE (dropL l S) x=some i→lE l x=some i∧∀s∈S,dB (x:Int) s.1 s.2=false
 |[],l,x,i,h=>⟨h,fun s hs=>absurd hs qT⟩
 |s::t,l,x,i,h=>by
  unfold dropL at h;obtain⟨h1,h2⟩:=aG t _ x i h;have h3:lE l x=some i∧dB (x:Int) s.1 s.2=false:=by
   split at h1
   ·rw[oR]at h1;split at h1
    ·cases h1
    ·rename_i hb
     exact⟨h1,by simpa using hb⟩
   ·rename_i hn
    refine⟨h1,?_⟩;unfold dB;simp;omega
  refine⟨h3.1,fun r hr=>?_⟩;rcases List.mem_cons.1 hr with rfl|hr
  ·exact h3.2
  ·exact h2 r hr
theorem PJ{M M':List Int}(hM:M.length=65536)(hM':M'.length=65536)(S:List (Int×Int))(hd:∀j:Nat,j<65536→(∀s∈S,¬((j:Int)-s.1)%65536<s.2)→M'[j]?=M[j]?)(x lv:Int)(hx:∀s∈S,dB x s.1 s.2=false):xZ M' x lv=xZ M x lv:=by
 have hs:seg M' x 4=seg M x 4:=by
  apply kZ
  intro j
  by_cases hj:j<4
  ·rw[wN _ x 4 j hM' hj,wN _ x 4 j hM hj];refine hd _ zYQ fun s h=>?_;have:=OA (hx s h) (j:Int) zYQ zYQ;omega
  ·rw[qX zLQ,qX zLQ]
 unfold xZ yH;rw[hs]
theorem XC.drop{l:m6}{M M':List Int}{lv:Int}(h:XC l M lv)(hM:M.length=65536)(hM':M'.length=65536)(S:List (Int×Int))(hd:∀j:Nat,j<65536→(∀s∈S,¬((j:Int)-s.1)%65536<s.2)→M'[j]?=M[j]?):XC (dropL l S) M' lv:=fun x i hi=>by
 obtain⟨h1,h2⟩:=aG S l x i hi;rw[PJ hM hM' S hd x lv h2];exact h x i h1
theorem o7(M:List Int)(a lv:Int)(hM:M.length=65536):xZ M ((yB a:Nat):Int) lv=xZ M a lv:=by
 have hs:seg M ((yB a:Nat):Int) 4=seg M a 4:=by
  apply kZ
  intro j
  by_cases hj:j<4
  ·rw[wN _ _ 4 j hM hj,wN _ _ 4 j hM hj];congr 2
   unfold yB
   omega
  ·rw[qX zLQ,qX zLQ]
 unfold xZ yH;rw[hs]
structure CoC(pg:Nat→Option Nat)(p:Nat)(lv:Int)(en:Bool)(l:m6)(h m:Nat)(M:List Int)(w:World):Prop where
 c:CB pg p lv en (l.length:Int) (h:Int) (m:Int) w
 g:PGS pg (lE l) w
 one:wW l
 lt:∀e∈l,e.1<65536
 wf:(Lit.int .i64 lv).wf=true
 off:en=false→l=[]
 co:XC l M lv
section
variable {pg:Nat→Option Nat} {p h m:Nat} {lv:Int} {en:Bool} {l:m6} {M:List Int} {w w':World}
theorem CoC.kept(C:CoC pg p lv en l h m M w){O:Nat→Prop}(k:lG O w w')(hd:∀j,icO pg p j→¬O j):CoC pg p lv en l h m M w':=
 ⟨C.c.kept k (hd p (.inl rfl)),C.g.kept k (fun j b hj e=>hd b (.inr ⟨j,hj,e⟩)),C.one,C.lt,C.wf,C.off,C.co⟩
theorem CoC.step(C:CoC pg p lv en l h m M w)(hb:Below w.heap.size w w'):CoC pg p lv en l h m M w':=C.kept (O:=fun _=>False) (lG.of_below hb) (fun _ _ c=>c)
theorem CoC.blt(C:CoC pg p lv en l h m M w):∀k,icO pg p k→k<w.heap.size:=eE C.c C.g
theorem E9(C:CoC pg p lv en l h m M w)(pm:Nat)(v:Value)(a:Int)(hM:M.length=65536)(hp:mS pm M v w)(hB:BtM M)(hpm:¬icO pg p pm)(h1:h≤100000)(m1:m≤100000)(l1:l.length≤1000000):
  Calls Tryz.prog 32 #[.pointer (some ⟨p,0,none⟩),.pointer (some ⟨pm,0,none⟩),.int .i64 a] w fun e w'=>e=.returned (.agg (lJ (xZ M a lv)))∧
   ∃pg' l' h' m',CoC pg' p lv en l' h' m' M w'∧lG (icO pg p) w w'∧vK (icO pg p) (icO pg' p) w.heap.size∧h'+m'=h+m+1∧l'.length≤l.length+1∧(en=true→(lE l' (yB a)).isSome=true):=by
 cases hl:lE l (yB a)with
 |some i=>
  refine(SQ pg p lv en h m a (yB a) i l (.pointer (some ⟨pm,0,none⟩)) w C.c C.g hl (ZP a) zYQ zYQ).mono ?_
  rintro e w' ⟨rfl,C',G',K'⟩
  have e1:i=xZ M a lv:=by rw[C.co _ _ hl,o7 M a lv hM]
  exact⟨by rw[e1],pg,l,h+1,m,⟨C',G',C.one,C.lt,C.wf,C.off,C.co⟩,K',vK.refl,by omega,by omega,fun _=>by rw[hl];rfl⟩
 |none=>
  refine(VE pg p lv en h m a (yB a) l pm M v w C.c C.g hl (ZP a) zYQ zYQ l1 hM hp hB C.wf hpm).mono ?_
  rintro e w' ⟨rfl,pg',C',G',K',W'⟩
  refine⟨rfl,pg',dH en l (yB a) (xZ M a lv),h,m+1,⟨C',G',?_,?_,C.wf,?_,?_⟩,K',W',by omega,?_,?_⟩
  ·cases en
   ·exact C.one
   ·exact C.one.snoc _ hl
  ·cases en
   ·exact C.lt
   ·intro e he
    unfold dH at he
    simp only[if_true,List.mem_append,List.mem_singleton]at he
    rcases he with he|rfl
    ·exact C.lt e he
    ·exact zZ6 a
  ·rintro rfl
   exact C.off rfl
  ·cases en
   ·exact C.co
   ·intro x i hi
    unfold dH at hi
    rw[zN rfl,gG]at hi
    cases hx:lE l x with
    |some j=>
     rw[hx]at hi
     cases hi
     exact C.co _ _ hx
    |none=>
     rw[hx]at hi
     simp only at hi
     split at hi
     ·rename_i e1
      cases hi
      rw[←e1,o7 M a lv hM]
     ·cases hi
  ·cases en
   ·show l.length≤_;omega
   ·show(l++[_]).length≤_;simp
  ·rintro rfl
   unfold dH
   rw[zN rfl,gG,hl]
   simp
theorem NH(C:CoC pg p lv en l h m M w):
  Calls Tryz.prog 31 #[.pointer (some ⟨p,0,none⟩)] w fun e w'=>e=.returned (.tuple #[])∧CoC (fun _=>none) p lv en [] h m M w'∧lG (fun k=>k=p) w w':=by
 refine(NR pg p lv en (l.length:Int) h m w C.c).mono ?_;rintro e w' ⟨rfl,C',K'⟩;exact⟨rfl,⟨C',⟨fun k b _ e=>(by cases e),fun _ _ _ _ _=>rfl,fun j k b _ _ e _=>(by cases e)⟩,List.nodup_nil,fun e he=>(by cases he),C.wf,fun _=>rfl,XC.nil _ _⟩,K'⟩
theorem M7(C:CoC pg p lv en l h m M w)(M':List Int)(S:List (Int×Int))(A:Option Addr)(c:Nat)(hM:M.length=65536)(hM':M'.length=65536)(l1:l.length≤1000000)(HR:RgR w A S (icO pg p))(k1:S.length≤1000)(hs:∀s∈S,0≤s.1∧s.1≤65535∧s.2≤65536)
  (hd:∀j:Nat,j<65536→(∀s∈S,¬((j:Int)-s.1)%65536<s.2)→M'[j]?=M[j]?):
  Calls Tryz.prog 35 #[.pointer (some ⟨p,0,none⟩),.slice A S.length c] w fun e w'=>e=.returned (.tuple #[])∧∃l',CoC pg p lv en l' h m M' w'∧lG (icO pg p) w w'∧l'.length≤l.length∧(S=[]→l'=l):=by
 refine(M8 pg p lv en h m l S A S.length c w C.c C.g C.one C.lt l1 HR rfl k1 hs).mono ?_;rintro e w' ⟨rfl,C',G',K'⟩;refine⟨rfl,dropL l S,⟨C',G',C.one.dropL S,fun e he=>C.lt e (eU S l he),C.wf,fun e=>?_,C.co.drop hM hM' S hd⟩,K',dT S l,fun e=>by rw[e];rfl⟩;have h0:=dT S l;rw[C.off e]at h0⊢;exact jY (Nat.le_zero.1 h0)
theorem Y8(C:CoC pg p lv en l h m M w)(a:Int):
  Calls Tryz.prog 45 #[.pointer (some ⟨p,0,none⟩),.int .i64 a] w fun e w'=>e=.returned (.tuple #[.agg (lJ ((lE l (yB a)).getD zI)),.bool (lE l (yB a)).isSome])∧Below w.heap.size w w':=
 bE pg (lE l) p lv en _ h m a (yB a) w C.c C.g (ZP a)
end
theorem sF(lv:Int)(en:Bool)(M:List Int)(w:World)(hl:(Lit.int .i64 lv).wf=true):CoC (fun _=>none) w.heap.size lv en [] 0 0 M (w.alloc (.cells (QE lv en) 137)):=
 ⟨CB.new w lv en,⟨fun k b _ e=>(by cases e),fun _ _ _ _ _=>rfl,fun j k b _ _ e _=>(by cases e)⟩,List.nodup_nil,fun e he=>(by cases he),hl,fun _=>rfl,XC.nil _ _⟩
def yE(m:nX)(a:AS):Ins:=xZ a.M a.pc m.q.lv
def okM(m:nX)(a:AS):Bool:=!m.q.fa||decide (a.pc+(yE m a).len≤65536)
def efM(m:nX)(a:AS):Ef:=if okM m a=true then efA a (yE m a).op (yE m a).x.toNat (yE m a).y.toNat (yE m a).n.toNat m.q else⟨4,false,false,false⟩
def asM(N:Nat)(m:nX)(a:AS):AS:=if okM m a=true then stA N a (yE m a).op (yE m a).x.toNat (yE m a).y.toNat (yE m a).n.toNat (yE m a).nn.toNat (yE m a).addr (yE m a).len m.q else a
def nmE(m:nX)(pc x:Int)(e:Ef):nX:=
 if e.c≠0 then{m with k:=3,c:=e.c,p:=pc,y:=m.ex,ex:=m.ex+1}else
 if e.halt=true then{m with k:=2,c:=0,p:=pc,y:=m.ex,ex:=m.ex+1}else
 if e.wait=true then{m with k:=1,c:=0,p:=0,y:=0,rg:=x,ex:=m.ex+1}else{m with k:=0,c:=0,p:=0,y:=0,ex:=m.ex+1}
def nmM(m:nX)(a:AS):nX:=if m.k=0 then nmE m a.pc (yE m a).x (efM m a)else m
def cU(N:Nat)(m:nX)(a:AS):AS:=if m.k=0 then asM N m a else a
def tL(m:nX)(a:AS):Bool:=decide (m.k=0)&&(efM m a).drew
structure OkM(m:nX)(a:AS):Prop where
 ok:OkB a
 lv:1≤m.q.lv∧m.q.lv≤3
 k:0≤m.k∧m.k≤3
 z:m.k=0→m.c=0∧m.p=0∧m.y=0
 rg:0≤m.rg∧m.rg≤15
 ex:0≤m.ex
 rd:(a.rd:Int)≤m.ex
theorem a8{M:List Int}(h:Bts M):BtM M:=fun b hb=>by
 obtain⟨k,hk,rfl⟩:=List.getElem_of_mem hb;exact h k hk
theorem QC(v:Nat):lw (v:Int) 1=((v-1:Nat):Int):=by unfold lw;omega
section
variable {m:nX} {a:AS}
theorem OP(O:OkA a)(lv:Int):iO (xZ a.M a.pc lv) lv:=⟨_,_,_,_,(xY (a8 O.B) a.pc 0 O.M zYK).1,(xY (a8 O.B) a.pc 1 O.M zYK).1,(xY (a8 O.B) a.pc 2 O.M zYK).1,(xY (a8 O.B) a.pc 3 O.M zYK).1,rfl⟩
theorem M9(H:OkM m a):∃(op:Int) (x y n nn:Nat) (addr len:Int),yE m a=⟨op,x,y,n,nn,addr,len⟩∧iO ⟨op,x,y,n,nn,addr,len⟩ m.q.lv∧(0≤op∧op≤51)∧x<16∧y<16∧n<16∧nn<256∧(0≤addr∧addr≤65535)∧(0≤len∧len≤4):=by
 have hd:=OP H.ok.o m.q.lv;obtain⟨op,x,y,n,nn,addr,len,e,r⟩:=hd.nat H.lv;exact⟨op,x,y,n,nn,addr,len,e,e▸hd,r⟩
theorem UO(N:Nat)(H:OkM m a)(hx:m.ex<1000000000):OkM (nmM m a) (cU N m a):=by
 by_cases hk:m.k=0
 ·have e1:nmM m a=nmE m a.pc (yE m a).x (efM m a):=by unfold nmM;rw[zN hk]
  have e2:cU N m a=asM N m a:=by unfold cU;rw[zN hk]
  rw[e1,e2];obtain⟨op,x,y,n,nn,addr,len,ei,hd,r1,r2,r3,r4,r5,r6,r7⟩:=M9 H;have hrd:=H.rd;have hex:=H.ex;have O1:OkB (asM N m a):=by
   unfold asM;split
   ·rw[ei];simp only[Int.toNat_natCast];exact okB_st N H.ok zYQ op x y n nn addr len m.q r2 r3 r4 r5 r6
   ·exact H.ok
  have hr:((asM N m a).rd:Int)≤m.ex+1:=by
   unfold asM;split
   ·rw[ei];simp only[Int.toNat_natCast];have:=rd_st N a op x y n nn addr len m.q;omega
   ·omega
  have hxi:(yE m a).x=(x:Int):=by rw[ei]
  unfold nmE;split
  ·exact⟨O1,H.lv,by simp,fun h=>by simp at h,H.rg,by simp only;omega,hr⟩
  ·split
   ·exact⟨O1,H.lv,by simp,fun h=>by simp at h,H.rg,by simp only;omega,hr⟩
   ·split
    ·exact⟨O1,H.lv,by simp,fun h=>by simp at h,by simp only;rw[hxi];omega,by simp only;omega,hr⟩
    ·exact⟨O1,H.lv,by simp,fun _=>⟨rfl,rfl,rfl⟩,H.rg,by simp only;omega,hr⟩
 ·unfold nmM cU;rw[zL hk,zL hk];exact H
theorem zXL(H:OkM m a)(e:Ev)(hk:a.ks.length<1000):OkM (t6 m a e) (rC m a e):=by
 have O:=H.ok.o;have hv:OkV (rC m a e).v:=by
  unfold rC;simp only;split
  ·rename_i h
   unfold rlM at h;rw[zA]at h;have h2:=h.1;unfold rel at h2;rw[zA,qG]at h2;intro j hj;unfold Cpu.upd;split
   ·omega
   ·exact O.v j hj
  ·exact O.v
 have O1:OkA (rC m a e):=⟨hv,O.i,O.pc,O.sk,O.M,O.B,O.msk,by show(a.ks++[e]).length≤1000;simp;omega,O.dl,O.sd,O.P,O.pt,O.fl,O.L,O.LB,O.rd⟩;unfold t6;split
 ·exact⟨⟨O1,H.ok.s⟩,H.lv,by simp,fun _=>⟨rfl,rfl,rfl⟩,H.rg,H.ex,H.rd⟩
 ·exact⟨⟨O1,H.ok.s⟩,H.lv,H.k,H.z,H.rg,H.ex,H.rd⟩
theorem UI(H:OkM m a):OkM m (J6 a):=by
 have O:=H.ok.o;exact⟨⟨⟨O.v,O.i,O.pc,O.sk,O.M,O.B,O.msk,O.ks,by have:=O.dl;show a.dl-1<256;omega,by have:=O.sd;show a.sd-1<256;omega,O.P,O.pt,O.fl,O.L,O.LB,O.rd⟩,H.ok.s⟩,H.lv,H.k,H.z,H.rg,H.ex,H.rd⟩
end
end
end Go.Proofs.YthknmadinmigfaaGreatDoor
