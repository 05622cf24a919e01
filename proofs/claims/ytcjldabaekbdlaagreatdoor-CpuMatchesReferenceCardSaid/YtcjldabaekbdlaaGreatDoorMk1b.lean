/- AluDoL. -/
import Derived.Test.YtcjldabaekbdlaaGreatDoorMk1a
set_option maxRecDepth 400000
set_option maxHeartbeats 64000000
set_option linter.unusedVariables false
set_option linter.unusedSimpArgs false
namespace Go.Proofs.YtcjldabaekbdlaaGreatDoor
section
open Go.RowKit Num Dec Cpu Go.Maps
theorem ZA{op:Int}{f:Nat}(h:alk KO op=some f):(op=8∧f=249)∨(op=9∧f=250)∨(op=10∧f=251)∨(op=11∧f=252)∨(op=12∧f=253)∨(op=13∧f=254)∨(op=14∧f=255)∨(op=15∧f=256)∨(op=17∧f=257)∨(op=16∧f=258)∨(op=18∧f=259):=by
 unfold KO at h;simp only[alk]at h;repeat' split at h
 all_goals first|(injection h with h;subst h;simp[*];done)|cases h
theorem zYU{op:Int}(h:alk KO op=none):yC op=false:=by
 unfold KO at h;simp only[alk]at h;unfold yC;repeat' split at h
 all_goals first|(cases h;done)|skip
 simp;omega
theorem IC{op:Int}{f:Nat}(h:alk KO op=some f):∀args w,(callFunc f args).run Tryz.prog w=.ok (.enter f args) w:=by
 rcases ZA h with⟨_,rfl⟩|⟨_,rfl⟩|⟨_,rfl⟩|⟨_,rfl⟩|⟨_,rfl⟩|⟨_,rfl⟩|⟨_,rfl⟩|⟨_,rfl⟩|⟨_,rfl⟩|⟨_,rfl⟩|⟨_,rfl⟩
 ·exact enters_of Tryz.func249 zBM rfl
 ·exact enters_of Tryz.func250 zBM rfl
 ·exact enters_of Tryz.func251 zBM rfl
 ·exact enters_of Tryz.func252 zBM rfl
 ·exact enters_of Tryz.func253 zBM rfl
 ·exact enters_of Tryz.func254 zBM rfl
 ·exact enters_of Tryz.func255 zBM rfl
 ·exact enters_of Tryz.func256 zBM rfl
 ·exact enters_of Tryz.func257 zBM rfl
 ·exact enters_of Tryz.func258 zBM rfl
 ·exact enters_of Tryz.func259 zBM rfl
theorem zMR{op:Int}{f:Nat}(h:alk KO op=some f)(x y nn:Nat)(hx:x<256)(hy:y<256)(hn:nn<256)(q:Pr)(w:World):Calls Tryz.prog f #[.agg (opc x y nn q)] w fun e w'=>JX op x y nn q e∧Below w.heap.size w w':=by
 rcases ZA h with⟨rfl,rfl⟩|⟨rfl,rfl⟩|⟨rfl,rfl⟩|⟨rfl,rfl⟩|⟨rfl,rfl⟩|⟨rfl,rfl⟩|⟨rfl,rfl⟩|⟨rfl,rfl⟩|⟨rfl,rfl⟩|⟨rfl,rfl⟩|⟨rfl,rfl⟩
 ·exact WF x y nn hx hy hn q w
 ·exact WS x y nn hx hy hn q w
 ·exact PS x y nn hx hy hn q w
 ·exact zXB x y nn hx hy hn q w
 ·exact U4 x y nn hx hy hn q w
 ·exact U1 x y nn hx hy hn q w
 ·exact U5 x y nn hx hy hn q w
 ·exact U3 x y nn hx hy hn q w
 ·exact MR x y nn hx hy hn q w
 ·exact oH x y nn hx hy hn q w
 ·exact ZU x y nn hx hy hn q w
theorem alk_is{op:Int}{f:Nat}(h:alk KO op=some f):yC op=true:=by
 rcases ZA h with⟨rfl,_⟩|⟨rfl,_⟩|⟨rfl,_⟩|⟨rfl,_⟩|⟨rfl,_⟩|⟨rfl,_⟩|⟨rfl,_⟩|⟨rfl,_⟩|⟨rfl,_⟩|⟨rfl,_⟩|⟨rfl,_⟩<;>rfl
theorem zeroFn(w:World):(zeroValue 306).run Tryz.prog w=.ok .nilFunc w:=by kernel_rfl
def zGM(L:List (Int×Nat))(op:Int):Value:=match alk L op with|some f=>afn f|none=> .nilFunc
theorem FK{P:Program}(hP:P=Tryz.prog){o:Oper}{a:Act}{K:Act→World→Prop}{Q:Exit→Act→World→Prop}{w:World}{m n:Nat}{L:List (Int×Nat)}{D:DataW Value}(H:OJ m n L w D)(mx xx:Operand)(hop:o.op=Op.lookup 308 mx xx true)(hm:a.eval mx=.map (some m))(op:Int)(hx:a.eval xx=.int .i64 op)(hk:(Lit.int .i64 op).wf=true)
  (h:K (a.put o.dst (.tuple #[zGM L op,.bool (alk L op).isSome])) w):o.wp P a w K Q:=by
 subst hP;obtain⟨v,ps,hrun,hv⟩:=H.own.look_ok iO Tryz.underlying308 (zeroFn w) (zd:=.held .nilFunc) (zp:=[]) rfl (JB op hk);have e:v=zGM L op:=by
  rw[H.at_]at hv;unfold zY6 zGM at*;cases hc:alk L op with
  |none=>rw[hc]at hv;simp only[kR,jC,DataW.held.injEq]at hv;exact hv.1
  |some f=>rw[hc]at hv;simp only[kR,jC,DataW.held.injEq]at hv;exact hv.1
 rw[e,H.has_]at hrun;unfold Oper.wp;simp[execOp,hop,hm,hx,hrun,Result.andThen];exact h
structure zGP(a b:Addr)(va vb:Value) where
 w:World
 ha:w.cell? a=some va
 hb:w.cell? b=some vb
theorem u8_of{r:Int}{k:Nat}(h:r%256=(k:Int)):IntKind.u8.wrap r=(k:Int):=by rw[j9,h]
theorem zXR(v:Nat→Nat)(op:Int)(x y nn:Nat)(n addr len:Int)(q:Pr)(w:World)(hv:OkV v)(hx:x<16)(hy:y<16)(hn:nn<256)(hop:(Lit.int .i64 op).wf=true):
  Calls Tryz.prog 185 #[.agg (rg v),.agg (lI ⟨op,x,y,n,nn,addr,len⟩),.agg (prc q)] w fun e w'=>e=.returned (.tuple #[.agg (rg (xZ v ⟨op,x,y,n,nn,addr,len⟩ q)),.bool (yC op)])∧Below w.heap.size w w':=by
 have RD:=zW (fun w=>QI v op x y nn n addr len q w hv hx hy hn);have RG:=zW (fun w=>sR x hx w);have HX:=zW (zY hx (zY hy hn));have VX:=zW (zY (hv x hx) (hv y hy));have HO:=zW hop;have B0:=zW ((UF w (.cells (rg v) 23) (.cells (lI ⟨op,x,y,n,nn,addr,len⟩) 47) (.cells (prc q) 31)).alloc zBS (.cells (pc mU) 23));have V0:=zW ((((Blk.new w 23 (rg v)).alloc (.cells (lI ⟨op,x,y,n,nn,addr,len⟩) 47)).alloc (.cells (prc q) 31)).alloc (.cells (pc mU) 23));have I0:=zW (((Blk.new (w.alloc (.cells (rg v) 23)) 47 (lI ⟨op,x,y,n,nn,addr,len⟩)).alloc (.cells (prc q) 31)).alloc (.cells (pc mU) 23));have P0:=zW ((Blk.new ((w.alloc (.cells (rg v) 23)).alloc (.cells (lI ⟨op,x,y,n,nn,addr,len⟩) 47)) 31 (prc q)).alloc (.cells (pc mU) 23));have O0:=zW (Blk.new (((w.alloc (.cells (rg v) 23)).alloc (.cells (lI ⟨op,x,y,n,nn,addr,len⟩) 47)).alloc (.cells (prc q) 31)) 23 (pc mU));simp only[zR]at I0 P0 O0;have AN:=zW (fun(h:alk KO op=none)=>(show xZ v ⟨op,x,y,n,nn,addr,len⟩ q=v∧yC op=false from by
  have h1:=zYU h;refine⟨?_,h1⟩;unfold xZ;simp[h1]))
 have AS:=zW (fun f (h:alk KO op=some f) (k:Nat) (R F:Nat) (hR:xR op (v x) (v y) (if q.sh=true then v y else v x) nn=R)=>(show(xO op (v x) (v y) (if q.sh=true then v y else v x) q.lr=none→xZ v ⟨op,x,y,n,nn,addr,len⟩ q=upd v x R)∧(xO op (v x) (v y) (if q.sh=true then v y else v x) q.lr=some F→xZ v ⟨op,x,y,n,nn,addr,len⟩ q=upd (upd v x R) 15 F)∧yC op=true from by
  have h1:=alk_is h;refine⟨fun h2=>?_,fun h2=>?_,h1⟩
  ·unfold xZ shX;simp only[h1,if_true,jS,h2,hR]
  ·unfold xZ shX;simp only[h1,if_true,jS,h2,hR]))
 have hi0:(lI ⟨op,x,y,n,nn,addr,len⟩)[0]?=some (.int .i64 op):=rfl
 have hi1:(lI ⟨op,x,y,n,nn,addr,len⟩)[1]?=some (.int .i64 (x:Int)):=rfl;have I7:(lI ⟨op,x,y,n,nn,addr,len⟩).size=7:=rfl;have P8:(prc q).size=8:=rfl;generalize xZ v ⟨op,x,y,n,nn,addr,len⟩ q=V at*;generalize lI ⟨op,x,y,n,nn,addr,len⟩=I at*;clear hop hv hx hy hn;go_enter Tryz.func185,Tryz.ntmps185;go_upto_region 0 with fail;refine zN ?_;refine mZ rfl _ (.tmp 0) rfl (rg v) rfl ?_;simp only[Act.put,zQ,zZ,zJ,zR];refine mZ rfl _ (.tmp 1) rfl I rfl ?_;simp only[Act.put,zQ,zZ,zJ,zR];refine mZ rfl _ (.tmp 2) rfl (prc q) rfl ?_;simp only[Act.put,zQ,zZ,zJ,zR];refine qL rfl fun K hK=>nF FJ rfl (hK _ _ ?_);simp only[Act.put,zQ,zZ,zJ,zR];go_upto_region 1 with fail;show(Code.region _ _ _).wp _ _ _ ((((w.alloc (.cells (rg v) 23)).alloc (.cells I 47)).alloc (.cells (prc q) 31)).alloc (.cells (pc mU) 23));obtain⟨g,hg⟩:∃g,w.heap.size=g:=⟨_,rfl⟩;rw[hg]at V0 I0 P0 O0⊢;have GL:=zW hg;generalize (((w.alloc (.cells (rg v) 23)).alloc (.cells I 47)).alloc (.cells (prc q) 31)).alloc (.cells (pc mU) 23)=w1 at*;clear hg;have i0:=mH.cell (show w1.cell? ⟨g+1,0,none⟩=some (.int .i64 op)from(I0.out.cell 0).trans hi0) I0.out.lt;refine nR (C:=fun w'=>∃u:mH w1,w'=u.w) [([1,2],0),([],3)] [4,5,6,7,8] zBM zBM (fun _ _ d _ _ h=>by cases d<;>exact h) ⟨⟨w1.drew,(zB _ _).drew⟩,rfl⟩ ?_;intro wd hwd;have bd:=zW (show Below w1.heap.size w1 wd by rw[hwd];exact(zB _ _).drew);clear hwd;refine nD zBN zBG ?_;repeat(go_big_quiet_step (fail))
 refine zM ?_;refine nK zBB ?_;intro K hK;go_wp2_with fail;refine(oG _).mono ?_;rintro e w2 ⟨m,D,rfl,M0,b2⟩;have M:=zW M0;have b2:=zW (bd.out.trans (b2.mono bd.out.size));clear M0;refine hK _ _ ⟨⟨w2,b2.out⟩,rfl⟩ ?_;clear hK;refine nD zBN zBG ?_;refine zM ?_;refine nK zBB ?_;intro K hK;refine FK rfl M.out (.tmp 12) (.tmp 14) rfl zBB op zBB HO.out ?_;simp only[Act.put,zQ,zZ,zJ];refine hK _ _ ⟨⟨w2,b2.out⟩,rfl⟩ ?_;clear hK;have V0:=zW (V0.out.step b2.out);have I0:=zW (I0.out.step b2.out);have P0:=zW (P0.out.step b2.out);have O0:=zW (O0.out.step b2.out);have B0:=zW (B0.out.trans (b2.out.mono B0.out.size));refine cT zBN ?_;repeat(go_big_quiet_step (fail))
 refine zM ?_;clear M b2 i0 bd;obtain⟨k,hk⟩:∃k,alk KO op=k:=⟨_,rfl⟩;have HK:=zW hk;unfold zGM;rw[hk];clear hk;cases k with
 |none=>
  simp only[Option.isSome]
  go_upto_region 3 with fail
  refine zN ?_
  refine lP mD V0.out (mK _) rfl (.tmp 3) rfl rfl ?_
  simp only[Act.put,zQ,zZ,zJ]
  refine lE mD O0.out (nX _) (mK _) (vT _) rfl (.tmp 6) (.tmp 20) rfl rfl rfl ?_
  simp only[Act.put,zQ,zZ,zJ]
  have R:=zW (O0.out.store (rg v))
  have B:=zW (lU B0.out (by rw[GL.out];omega:w.heap.size≤g+1+1+1) (rg v))
  have AX:=zW (AN.out HK.out)
  generalize w2.setRow (g+1+1+1) (rg v)=wz at*
  go_wp2_with fail
  exact zT (mW rfl _ _ (g+1+1+1) _ _ _ _ rfl rfl R.out mD (mK _)) rfl ⟨by rw[AX.out.1,AX.out.2];rfl,B.out⟩
 |some f=>
  simp only[Option.isSome]
  go_upto_region 4 with fail
  refine zN ?_
  iterate 3 go_step
  refine lP mD V0.out (mK _) rfl (.tmp 3) rfl rfl ?_
  simp only[Act.put,zQ,zZ,zJ]
  refine lP mN I0.out I7 rfl (.tmp 4) rfl rfl ?_
  simp only[Act.put,zQ,zZ,zJ]
  refine lP aggPrA P0.out P8 rfl (.tmp 5) rfl rfl ?_
  simp only[Act.put,zQ,zZ,zJ]
  go_wp2_with fail
  refine(RD.out _).mono ?_
  rintro e w3 ⟨rfl,b⟩
  have V0:=zW (V0.out.step b)
  have I0:=zW (I0.out.step b)
  have P0:=zW (P0.out.step b)
  have O0:=zW (O0.out.step b)
  have B0:=zW (B0.out.trans (b.mono B0.out.size))
  clear b
  simp only[]
  go_at_K
  iterate 1 go_step
  refine qL rfl fun K hK=>?_
  refine mF (g:=f) (caps:=#[]) (args:=#[.agg (opc (v x) (v y) nn q)]) (.tmp 21) #[.tmp 25] #[313] rfl (IC HK.out) rfl zBL ?_
  refine(zMR HK.out (v x) (v y) nn VX.out.1 VX.out.2 HX.out.2.2 q _).mono ?_
  rintro e w4 ⟨⟨r,fl,h,rfl,hr,hfl,haf,hr0,hr1⟩,b⟩
  refine⟨_,rfl,hK _ _ ?_⟩
  clear hK
  have V0:=zW (V0.out.step b)
  have I0:=zW (I0.out.step b)
  have O0:=zW (O0.out.step b)
  have B0:=zW (B0.out.trans (b.mono B0.out.size))
  clear b P0
  simp only[Act.put,zQ,zZ,zJ]
  refine nY (ds:=oc r fl h) hH zeroOc rfl rfl (sZ _ _ _) rfl rfl rfl (.tmp 10) (.tmp 26) rfl zBL zBL ?_
  simp only[Act.put,zQ,zZ,zJ]
  have K0:=zW (Blk.new w4 311 (oc r fl h))
  have b:=(zB w4.heap.size w4).alloc (zH _) (.cells (oc r fl h) 311)
  have GK:=zW (show g+1+1+1<w4.heap.size from O0.out.lt)
  have V0:=zW (V0.out.step b)
  have I0:=zW (I0.out.step b)
  have O0:=zW (O0.out.step b)
  have B0:=zW (B0.out.trans (b.mono B0.out.size))
  clear b
  obtain⟨go,hgo⟩:∃go,w4.heap.size=go:=⟨_,rfl⟩
  rw[hgo]at K0 GK⊢
  generalize w4.alloc (.cells (oc r fl h) 311)=w5 at*
  clear hgo
  obtain⟨R,hR⟩:∃R,xR op (v x) (v y) (if q.sh=true then v y else v x) nn=R:=⟨_,rfl⟩
  have AX:=zW (AS.out f HK.out 0 R fl hR)
  rw[hR]at hr
  have wr:=u8_of hr
  have HF:=zW haf
  have R8:=zW (show R<256 by omega)
  have F1:=zW hfl
  clear haf hR hr hr0 hr1 hfl AS AN RD
  go_upto_region 5 with fail
  have gk:=GK.out
  have i1:w5.cell? ⟨g+1,1,none⟩=some (.int .i64 (x:Int)):=(I0.out.cell 1).trans hi1
  have o0:w5.cell? ⟨go,0,none⟩=some (.int .i64 r):=K0.out.cell 0
  haveI:Nonempty (zGP ⟨g+1,1,none⟩ ⟨go,0,none⟩ (.int .i64 (x:Int)) (.int .i64 r)):=⟨⟨w5,i1,o0⟩⟩
  have k1:∀u:zGP ⟨g+1,1,none⟩ ⟨go,0,none⟩ (.int .i64 (x:Int)) (.int .i64 r),u.w.cell? ⟨g+1,1,none⟩=some (.int .i64 (x:Int)):=fun u=>u.ha
  have k2:∀u:zGP ⟨g+1,1,none⟩ ⟨go,0,none⟩ (.int .i64 (x:Int)) (.int .i64 r),u.w.cell? ⟨go,0,none⟩=some (.int .i64 r):=fun u=>u.hb
  refine nR (C:=fun w'=>∃u:zGP ⟨g+1,1,none⟩ ⟨go,0,none⟩ (.int .i64 (x:Int)) (.int .i64 r),w'=u.w) [([0,1,3,4,5],2),([6],7)] [] zBM zBM (fun _ _ d _ _ h=>by cases d<;>exact h) ⟨⟨w5.drew,i1,o0⟩,rfl⟩ ?_
  intro wd hwd
  have V0:=zW (show Blk g 23 (rg v) wd by rw[hwd];exact V0.out.drew)
  have O0:=zW (show Blk (g+1+1+1) 23 (pc mU) wd by rw[hwd];exact O0.out.drew)
  have K0:=zW (show Blk go 311 (oc r fl h) wd by rw[hwd];exact K0.out.drew)
  have B0:=zW (show Below w.heap.size w wd by rw[hwd];exact B0.out.drew)
  have j1:=zW (show wd.cell? ⟨g+1,1,none⟩=some (.int .i64 (x:Int)) by rw[hwd];exact i1)
  have jo:=zW (show wd.cell? ⟨go,0,none⟩=some (.int .i64 r) by rw[hwd];exact o0)
  clear hwd i1 o0
  refine nD zBN zBG ?_
  repeat(go_big_quiet_step (fail))
  refine zM ?_
  refine nK zBB ?_
  intro K hK
  go_wp2_with fail
  refine(RG.out _).mono ?_
  rintro e w' ⟨rfl,rfl⟩
  refine hK _ _ ⟨⟨wd,j1.out,jo.out⟩,rfl⟩ ?_
  clear hK
  have xi:(x:Int)<16:=(by have:=HX.out.1;omega)
  refine nD zBN zBG ?_
  repeat(go_big_quiet_step (fail))
  refine zM ?_
  refine nK zBB ?_
  intro K hK
  clear k1 k2
  have cx:wd.cell? ⟨g,x,none⟩=some (.int .u8 (v x:Int)):=by rw[V0.out.cell,gJ v HX.out.1]
  have fx:wd.frozen? ⟨g,x,none⟩=false:=V0.out.frozen x
  go_wp2_with fail
  have G1:=zW (show g≠g+1∧g≠go by omega)
  refine hK _ _ ⟨⟨wd.setCell ⟨g,x,none⟩ (.int .u8 (R:Int)),(qI _ ⟨g,x,none⟩ ⟨g+1,1,none⟩ _ (by intro c;injection c;omega)).trans j1.out,(qI _ ⟨g,x,none⟩ ⟨go,0,none⟩ _ (by intro c;injection c;omega)).trans jo.out⟩,rfl⟩ ?_
  clear hK
  have V0:=zW ((V0.out.put x (.int .u8 (R:Int))).eq (IY v HX.out.1 R))
  have O0:=zW (O0.out.other (g:=g) zBY x (.int .u8 (R:Int)))
  have K0:=zW (K0.out.other (g:=g) zBY x (.int .u8 (R:Int)))
  have B0:=zW (B0.out.setCell (p:=⟨g,x,none⟩) (by rw[GL.out];exact zH _) (.int .u8 (R:Int)))
  generalize wd.setCell ⟨g,x,none⟩ (.int .u8 (R:Int))=w6 at*
  refine cT zBN ?_
  refine zM ?_
  clear cx fx j1 jo wr
  have o2:w6.cell? ⟨go,2,none⟩=some (.bool h):=K0.out.cell 2
  have o1:w6.cell? ⟨go,1,none⟩=some (.int .u8 (fl:Int)):=K0.out.cell 1
  cases h
  ·have AV:=zW (AX.out.1 (HF.out.trans rfl))
   have AI:=zW AX.out.2.2
   clear AX HF
   go_upto_region 8 with fail
   refine zN ?_
   refine lP mD V0.out (mK _) rfl (.tmp 3) rfl rfl ?_
   simp only[Act.put,zQ,zZ,zJ]
   refine lE mD O0.out (nX _) (mK _) (vT _) rfl (.tmp 6) (.tmp 39) rfl rfl rfl ?_
   simp only[Act.put,zQ,zZ,zJ]
   have RR:=zW (O0.out.store (rg (upd v x R)))
   have B:=zW (lU B0.out (by rw[GL.out];omega:w.heap.size≤g+1+1+1) (rg (upd v x R)))
   iterate 7 go_step
   exact zT (mW rfl _ _ (g+1+1+1) _ _ _ _ rfl rfl RR.out mD (mK _)) rfl ⟨by rw[AV.out,AI.out];rfl,B.out⟩
  ·have AV:=zW (AX.out.2.1 (HF.out.trans rfl))
   have AI:=zW AX.out.2.2
   clear AX HF
   have cf:w6.cell? ⟨g,15,none⟩=some (.int .u8 ((upd v x R) 15:Int)):=by rw[V0.out.cell,gJ _ zBY]
   have ff:w6.frozen? ⟨g,15,none⟩=false:=V0.out.frozen 15
   go_upto_region 8 with fail
   have V0:=zW ((V0.out.put 15 (.int .u8 (fl:Int))).eq (IY _ zBY fl))
   have O0:=zW (O0.out.other (g:=g) zBY 15 (.int .u8 (fl:Int)))
   have B0:=zW (B0.out.setCell (p:=⟨g,15,none⟩) (by rw[GL.out];exact zH _) (.int .u8 (fl:Int)))
   generalize w6.setCell ⟨g,15,none⟩ (.int .u8 (fl:Int))=w7 at*
   refine zN ?_
   refine lP mD V0.out (mK _) rfl (.tmp 3) rfl rfl ?_
   simp only[Act.put,zQ,zZ,zJ]
   refine lE mD O0.out (nX _) (mK _) (vT _) rfl (.tmp 6) (.tmp 39) rfl rfl rfl ?_
   simp only[Act.put,zQ,zZ,zJ]
   have RR:=zW (O0.out.store (rg (upd (upd v x R) 15 fl)))
   have B:=zW (lU B0.out (by rw[GL.out];omega:w.heap.size≤g+1+1+1) (rg (upd (upd v x R) 15 fl)))
   iterate 7 go_step
   exact zT (mW rfl _ _ (g+1+1+1) _ _ _ _ rfl rfl RR.out mD (mK _)) rfl ⟨by rw[AV.out,AI.out];rfl,B.out⟩
theorem JF:zGI where
 do_:=fun v op x y nn n addr len q w hv hx hy hn hop=>zXR v op x y nn n addr len q w hv hx hy hn hop
 sk:=fun v op x y nn n addr len w hv hx hy hn=>WT v op x y nn n addr len w hv hx hy hn
 dg:=fun b w hb=>M7 b w hb
end
end Go.Proofs.YtcjldabaekbdlaaGreatDoor
