/- MacAwD, MacAwake, MacLawK, MacKeysN, MacKeysW. -/
import Derived.Test.YthknmadinmigfaaGreatDoorMk4b
set_option maxRecDepth 400000
set_option maxHeartbeats 64000000
set_option linter.unusedVariables false
set_option linter.unusedSimpArgs false
namespace Go.Proofs.YthknmadinmigfaaGreatDoor
section
open Go.RowKit Num Dec Cpu
def tH:Pr:=⟨2,false,false,false,false,false,false,false⟩
def gO:Pr:=⟨1,false,false,false,false,false,false,false⟩
def pR:AS:=xE [0,253] []
def iA:AS:=xE [243,10] []
def zJE:nY:=⟨tH,2,0,512,0,0,1⟩
def pG:nY:=⟨gO,1,0,0,0,3,1⟩
def WM:AS:={iA with pc:=514}
theorem zZJ:Bts [0,253]:=dF zYY (dF zYY fX)
theorem zZZ:Bts [243,10]:=dF zYY (dF zYY fX)
theorem zQA(b2 b3:Nat):dec 0 253 b2 b3 2=⟨38,0,0,0,0,0,2⟩:=rfl
theorem zQE(b2 b3:Nat):dec 243 10 b2 b3 1=⟨27,3,0,0,0,0,2⟩:=rfl
theorem VM:yF (yS tH) pR=⟨38,0,0,0,0,0,2⟩:=TH [0,253] zYY zZJ 0 0 253 rfl rfl 2 _ zQA
theorem VW:yF (yS gO) iA=⟨27,3,0,0,0,0,2⟩:=TH [243,10] zYY zZZ 0 243 10 rfl rfl 1 _ zQE
theorem zW3:okM (yS tH) pR=true:=rfl
theorem zW2:okM (yS gO) iA=true:=rfl
theorem zW5:efM (yS tH) pR=⟨0,true,false,false⟩:=by
 unfold efM;rw[zN zW3,VM];show efA pR 38 0 0 0 tH=_;unfold efA;rw[show caA pR 38 0 0 0 tH=0 from rfl];rfl
theorem ef20b:efM (yS gO) iA=⟨0,false,true,false⟩:=by
 unfold efM;rw[zN zW2,VW];show efA iA 27 3 0 0 gO=_;unfold efA;rw[show caA iA 27 3 0 0 gO=0 from rfl];rfl
theorem nm20a:nmM (yS tH) pR=zJE:=by
 unfold nmM;rw[zN (show(yS tH).k=0 from rfl),zW5];rfl
theorem nm20b:nmM (yS gO) iA=pG:=by
 unfold nmM;rw[zN (show(yS gO).k=0 from rfl),ef20b,VW];rfl
theorem st20a(N:Nat):xR N (yS tH) pR=pR:=by
 unfold xR asM;rw[zN (show(yS tH).k=0 from rfl),zN zW3,VM];show stA N pR 38 0 0 0 0 0 2 tH=_;unfold stA;rw[show caA pR 38 0 0 0 tH=0 from rfl];rfl
theorem st20b(N:Nat):xR N (yS gO) iA=WM:=by
 unfold xR asM;rw[zN (show(yS gO).k=0 from rfl),zN zW2,VW];show stA N iA 27 3 0 0 0 0 2 gO=_;unfold stA;rw[show caA iA 27 3 0 0 gO=0 from rfl];rfl
theorem dr20a:bJ (yS tH) pR=false:=by unfold bJ;rw[zW5];rfl
def SY:Ev:=⟨7,true⟩
def zQB:Ev:=⟨7,false⟩
def zV7:AS:={WM with ks:=[SY]}
def d20b:AS:={WM with ks:=[SY,zQB],v:=Cpu.upd (fun _=>0) 3 7}
theorem OD:yD pG WM SY=zV7∧rU pG WM SY=pG:=by
 have h:rlM pG WM SY=false:=zYY;unfold yD rU;rw[h];exact⟨rfl,rfl⟩
theorem OT:yD pG zV7 zQB=d20b∧rU pG zV7 zQB={pG with k:=0,c:=0,p:=0,y:=0}:=by
 have h:rlM pG zV7 zQB=true:=zYY;unfold yD rU;rw[h];exact⟨rfl,rfl⟩
theorem zV9(N:Nat)(CS:uD N)(E0:d8 N)(w:World)(hL:xC w):Calls Tryz.prog 8 #[] w fun e w'=>e=.returned (.bool true)∧Below w.heap.size w w':=by
 have CC:=zW CS;have LL:=zW hL;have EE:=zW E0;obtain⟨K,hK⟩:∃K:Nat,K=65025:=⟨_,rfl⟩;have mk:=aL K 65025 (by rw[hK];rfl) zYX;have HK:=zW (show 65024<K∧K≤1000000 by omega);clear hK CS E0 hL;go_enter Tryz.func8,Tryz.ntmps8;have R1:=zW (show Rd (w.alloc (.cells #[.int .u8 0,.int .u8 253] 5)) (some ⟨w.heap.size,0,none⟩) [0,253]from fZ (Blk.new w 5 #[.int .u8 0,.int .u8 253]) 0 [0,253] fun j hj=>by rcases j with _|_|j;rfl;rfl;exact absurd hj zYH);have BB:=zW (lM w (.cells #[.int .u8 0,.int .u8 253] 5));go_wp2_with fail;obtain⟨g1,hg1⟩:∃k,w.heap.size=k:=⟨_,rfl⟩;have GL:=zW (show 1<g1 from hg1▸LL.out.lt);rw[hg1]at R1⊢;clear hg1;generalize World.alloc _ _=w1 at R1 BB⊢;refine(newE N CC.out (q:=tH) (en:=true) (LL.out.step BB.out) R1.out rfl zYY Rd.nil rfl zYY zZJ fX (Fls.nil _ _) rfl zYY).mono ?_;rintro e w2 ⟨ma,Oa,rfl,X,b2⟩;have A:=zW X;have LA:=zW BB.out.size;have BB:=zW (BB.out.trans (b2.mono BB.out.size));clear R1 X b2;go_wp2_with fail;obtain⟨W,hW⟩:∃W,w2.alloc (.cells #[.int .u8 243,.int .u8 10] 5)=W:=⟨_,rfl⟩;have R2:=zW (show Rd W (some ⟨w2.heap.size,0,none⟩) [243,10]from hW▸fZ (Blk.new w2 5 #[.int .u8 243,.int .u8 10]) 0 [243,10] fun j hj=>by rcases j with _|_|j;rfl;rfl;exact absurd hj zYH);have b3:=show Below w2.heap.size w2 W from hW▸lM w2 _;have A:=zW (A.out.step b3);have LB:=zW (show w.heap.size≤W.heap.size from zR BB.out.size b3.size);have BB:=zW (BB.out.trans (b3.mono BB.out.size));rw[hW];clear hW b3;refine(newE N CC.out (q:=gO) (en:=false) (LL.out.step BB.out) R2.out rfl zYY Rd.nil rfl zYY zZZ fX (Fls.nil _ _) rfl zYY).mono ?_;rintro e w3 ⟨mb,Ob,rfl,Y,b3⟩;have DJ:=zW (show∀j,Oa j→¬Ob j from fun j h1 h2=>by have h3:=(A.out.mch.blt j h1).2;have h4:=(Y.mch.blt j h2).1;omega);have A:=zW (A.out.step b3);have B:=zW Y;have BB:=zW (BB.out.trans (b3.mono BB.out.size));clear Y b3 R2;go_wp2_with fail;have bn:=lM w3 (.cells (arr (List.replicate K 0)) 5);refine(DM (q:=⟨0,false,false,false,false,false,false,false⟩) (en:=false) zYY).mono ?_;rintro e w4 ⟨rfl,b4⟩;have b4:=bn.trans (b4.mono bn.size);clear bn;have A:=zW (A.out.step b4);have B:=zW (B.out.step b4);have BB:=zW (BB.out.trans (b4.mono BB.out.size));clear b4;go_wp2_with fail;have bn:=lM w4 (.cells (arr (List.replicate K 0)) 5);refine(Y6 (q:=gO) (en:=false) (L:=[]) N CC.out ((LL.out.step BB.out).step bn) HK.out Rd.nil rfl zYY zYY).mono ?_;rintro e w5 ⟨rfl,b4⟩;have b4:=bn.trans (b4.mono bn.size);clear bn mk HK;have A:=zW (A.out.step b4);have B:=zW (B.out.step b4);have BB:=zW (BB.out.trans (b4.mono BB.out.size));clear b4;go_wp2_with fail;refine(A.out.run N EE.out (LL.out.step BB.out) (zF LL.out.lt LA.out) zYY zYY).mono ?_;rintro e w6 ⟨rfl,O2,X,K6,G6⟩;rw[show bJ (yS tH) (xE [0,253] [])=false from dr20a];rw[show nmM (yS tH) (xE [0,253] [])=zJE from nm20a,show xR N (yS tH) (xE [0,253] [])=pR from st20a N]at X;have DK:=zW (TP DJ.out G6 fun j hj=>(B.out.mch.blt j hj).2);have B:=zW (B.out.keep K6 (fun j h1 h2=>DJ.out j h2 h1) A.out.mch.u8);have BB:=zW (BB.out.trans (A.out.mch.below LA.out K6));have A:=zW X;clear X K6 G6 DJ;go_wp2_with fail;refine(B.out.run N EE.out (LL.out.step BB.out) (zF LL.out.lt LB.out) zYY zYY).mono ?_;rintro e w7 ⟨rfl,O3,X,K7,G7⟩;rw[show nmM (yS gO) (xE [243,10] [])=pG from nm20b,show xR N (yS gO) (xE [243,10] [])=WM from st20b N]at X;have DJ:=zW (TP (fun j h1 h2=>DK.out j h2 h1) G7 fun j hj=>(A.out.mch.blt j hj).2);have A:=zW (A.out.keep K7 (fun j h1 h2=>DK.out j h1 h2) B.out.mch.u8);have BB:=zW (BB.out.trans (B.out.mch.below LB.out K7));have B:=zW X;clear X K7 G7 DK;go_wp2_with fail;refine(xT B.out.mch).mono ?_;rintro e w8 ⟨rfl,b4⟩;have A:=zW (A.out.step b4);have B:=zW (B.out.step b4);have BB:=zW (BB.out.trans (b4.mono BB.out.size));clear b4;rw[show pG.st=xI 1 0 0 0 from rfl];simp only[];go_at_K
 iterate 1 go_step
 refine m3 (ds:=xI 1 0 0 0) uN gX rfl rfl (wY _ _ _ _) rfl rfl rfl (.tmp 11) (.tmp 56) rfl zYK zYK ?_;simp only[Act.put,zQ,zZ,zJ];have W11:=zW (Blk.new w8 39 (xI 1 0 0 0));have b4:=lM w8 (.cells (xI 1 0 0 0) 39);obtain⟨q11,hq⟩:∃q,w8.heap.size=q:=⟨_,rfl⟩;have NQ:=zW (show∀j,O3 j→j≠q11 from fun j hj=>by have:=(B.out.mch.blt j hj).2;omega);have A:=zW (A.out.step b4);have B:=zW (B.out.step b4);have BB:=zW (BB.out.trans (b4.mono BB.out.size));clear b4;rw[hq]at W11⊢;clear hq;generalize World.alloc _ _=w9 at A B BB W11⊢;go_wp2_with fail;refine(B.out.key SY zYY).mono ?_;rintro e wa ⟨rfl,X,KK⟩;rw[OD.1,OD.2]at X;have A:=zW (A.out.keep KK (fun j h1 h2=>DJ.out j h2 h1) B.out.mch.u8);have W11:=zW (show Blk q11 39 (xI 1 0 0 0) wa from(KK.block q11 W11.out.lt fun c=>NQ.out q11 c rfl).trans W11.out);have BB:=zW (BB.out.trans (B.out.mch.below LB.out KK));have B:=zW X;clear X KK;go_wp2_with fail;refine(B.out.key zQB zYY).mono ?_;rintro e wb ⟨rfl,X,KK⟩;rw[OT.1,OT.2]at X;have A:=zW (A.out.keep KK (fun j h1 h2=>DJ.out j h2 h1) B.out.mch.u8);have W11:=zW (show Blk q11 39 (xI 1 0 0 0) wb from(KK.block q11 W11.out.lt fun c=>NQ.out q11 c rfl).trans W11.out);have BB:=zW (BB.out.trans (B.out.mch.below LB.out KK));have B:=zW X;clear X KK;go_wp2_with fail;refine(bC N CC.out B.out.mch (LL.out.step BB.out)).mono ?_;rintro e wc ⟨bs,ms,gs,vs,rfl,rc,b4⟩;have A:=zW (A.out.step b4);have B:=zW (B.out.step b4);have W11:=zW (W11.out.step b4);have BB:=zW (BB.out.trans (b4.mono BB.out.size));have S:=zW rc;clear b4 rc;have s35:wc.cell? ⟨bs,35,none⟩=some (.pointer (some ⟨ms,0,none⟩)):=(S.out.st.cell 35).trans (mX _ ms gs zYX);go_wp2_with fail;clear s35;refine(A.out.entry 512 true (fun l h _=>h (by first|rfl|trivial) (by first|rfl|trivial) (by rw[show yF (yS tH) (xE [0,253] [])=_ from VM]))).mono ?_;rintro e wd ⟨I,rfl,b4⟩;have A:=zW (A.out.step b4);have B:=zW (B.out.step b4);have W11:=zW (W11.out.step b4);have BB:=zW (BB.out.trans (b4.mono BB.out.size));have S:=zW (S.out.step b4);clear b4;simp only[];go_at_K
 iterate 10 go_step
 refine m3 (ds:=lX I) uH wA rfl rfl (aR I) rfl rfl rfl (.tmp 13) (.tmp 77) rfl zYK zYK ?_;simp only[Act.put,zQ,zZ,zJ];have b4:=lM wd (.cells (lX I) 89);have A:=zW (A.out.step b4);have B:=zW (B.out.step b4);have W11:=zW (W11.out.step b4);have BB:=zW (BB.out.trans (b4.mono BB.out.size));have S:=zW (S.out.step b4);clear b4;generalize wd.heap.size=q13;generalize World.alloc _ _=we at A B W11 BB S⊢;go_wp2_with fail;refine(B.out.entry 512 false (fun l _ h=>by rw[h rfl];rfl)).mono ?_;rintro e wf ⟨I,rfl,b4⟩;have A:=zW (A.out.step b4);have B:=zW (B.out.step b4);have W11:=zW (W11.out.step b4);have BB:=zW (BB.out.trans (b4.mono BB.out.size));have S:=zW (S.out.step b4);clear b4;simp only[];go_at_K
 iterate 10 go_step
 refine m3 (ds:=lX I) uH wA rfl rfl (aR I) rfl rfl rfl (.tmp 15) (.tmp 82) rfl zYK zYK ?_;simp only[Act.put,zQ,zZ,zJ];have b4:=lM wf (.cells (lX I) 89);have A:=zW (A.out.step b4);have B:=zW (B.out.step b4);have W11:=zW (W11.out.step b4);have BB:=zW (BB.out.trans (b4.mono BB.out.size));have S:=zW (S.out.step b4);clear b4;generalize wf.heap.size=q15;generalize World.alloc _ _=wg at A B W11 BB S⊢;go_wp2_with fail;refine(xT A.out.mch).mono ?_;rintro e wh ⟨rfl,b4⟩;have A:=zW (A.out.step b4);have B:=zW (B.out.step b4);have W11:=zW (W11.out.step b4);have S:=zW (S.out.step b4);have BB:=zW (BB.out.trans (b4.mono BB.out.size));clear b4;rw[show zJE.st=#[.int .i64 2,.int .i64 0,.int .i64 512,.int .i64 0]from rfl];go_wp2_with fail;refine(EL A.out.mch).mono ?_;rintro e _ ⟨rfl,rfl⟩;rw[show zJE.ex=1 from rfl];have d0:wh.cell? ⟨q11,0,none⟩=some (.int .i64 1):=(W11.out.cell 0).trans rfl;have d1:wh.cell? ⟨q11,1,none⟩=some (.int .i64 0):=(W11.out.cell 1).trans rfl;have d2:wh.cell? ⟨q11,2,none⟩=some (.int .i64 0):=(W11.out.cell 2).trans rfl;have d3:wh.cell? ⟨q11,3,none⟩=some (.int .i64 0):=(W11.out.cell 3).trans rfl;go_wp2_with fail;clear d0 d1 d2 d3;refine(xT B.out.mch).mono ?_;rintro e wi ⟨rfl,b4⟩;have A:=zW (A.out.step b4);have B:=zW (B.out.step b4);have W11:=zW (W11.out.step b4);have S:=zW (S.out.step b4);have BB:=zW (BB.out.trans (b4.mono BB.out.size));clear b4;rw[show(nY.st {pG with k:=0,c:=0,p:=0,y:=0})=#[.int .i64 0,.int .i64 0,.int .i64 0,.int .i64 0]from rfl];have e3:wi.cell? ⟨bs,3,none⟩=some (.int .u8 7):=(S.out.st.cell 3).trans ((mX d20b ms gs (j:=3) zYX).trans rfl);have e17:wi.cell? ⟨bs,17,none⟩=some (.int .i64 514):=(S.out.st.cell 17).trans ((mX d20b ms gs (j:=17) zYX).trans rfl);go_wp2_with fail;refine(X9 _).mono ?_;rintro e wj ⟨rfl,b4⟩;have BB:=zW (BB.out.trans (b4.mono BB.out.size));clear b4 e3 e17;go_wp2_with fail;refine(J4 _).mono ?_;rintro e wk ⟨rfl,b4⟩;have BB:=zW (BB.out.trans (b4.mono BB.out.size));go_wp2;go_returns;exact⟨rfl,BB.out⟩
theorem OR{c:Prop}[Decidable c]{x y:AS}{v:List Ev}(hx:x.ks=v)(hy:y.ks=v):(if c then x else y).ks=v:=by split<;>assumption
theorem ks_st(N:Nat)(a:AS)(op:Int)(x y n nn:Nat)(addr len:Int)(q:Pr):(stA N a op x y n nn addr len q).ks=a.ks:=by
 have hs:∀(b:AS) (t:Bool) (l:Int),(uI b t l).ks=b.ks:=fun b t l=>by unfold uI;split<;>rfl
 have hm:∀(b:AS) (k:Nat),(aY b op x y k q.ki).ks=b.ks:=fun b k=>by
  have h:(iS b op x y k).ks=b.ks:=by unfold iS;repeat' (first|rfl|refine OR ?_ ?_)
  unfold aY
  split
  ·exact h
  ·exact h
 have h0:(nxA a len).ks=a.ks:=rfl
 have hd:∀b:AS,(bX b op n).ks=b.ks:=fun b=>by unfold bX;repeat' (first|rfl|refine OR ?_ ?_)
 unfold stA
 split
 ·split
  ·rfl
  ·unfold stB;repeat' split
   all_goals (first|rfl|exact(hs ..).trans h0|exact(hm ..).trans h0|skip)
   all_goals (unfold NT;repeat' (first|exact hd (nxA a len)|refine OR ?_ ?_))
 ·rfl
theorem zX2(N:Nat)(s:nY)(a:AS):(xR N s a).ks=a.ks:=by
 unfold xR asM;split
 ·split
  ·exact ks_st ..
  ·rfl
 ·rfl
theorem Mch.off{base:Nat}{O:Nat→Prop}{mb n:Nat}{s:nY}{a:AS}{w:World}(H:Mch base O mb n s a w){q:Nat}{T:TypeId}{cs:Array Value}(hq:Blk q T cs w)(hT:T≠70∧T≠150∧T≠186∧T≠144∧T≠137∧T≠170∧T≠103):¬O q:=by
 have hb:=H.bs;obtain⟨b,m,g,p,mp,pg,v,en,l,h,k,H,rfl,_⟩:=H;exact(H.mr hb).off hq hT
theorem U5(v:Nat→Nat)(w:World):(binOp .neq 45 (.agg (rg v)) (.agg (rg v))).run Tryz.prog w=.ok (.bool false) w:=by
 have h:=GS (fun j=>(v j:Int)) (fun j=>(v j:Int)) 9998 w;rw[zVD]at h;have e:(10000:Nat)=9998+2:=zYY;rw[run_neq_struct,e];unfold rg;rw[h];simp only[Result.andThen_ok,Bool.not_true]
theorem U6(K:Nat→Bool)(w:World):(binOp .neq 59 (.agg (kc K)) (.agg (kc K))).run Tryz.prog w=.ok (.bool false) w:=by
 have h:=GP K 9998 w;have e:(10000:Nat)=9998+2:=zYY;rw[run_neq_struct,e,h];simp only[Result.andThen_ok,Bool.not_true]
theorem VP:Tryz.prog.eqGuardType Tryz.prog.depth 59=false:=by kernel_rfl
theorem zQW{o:Oper}{ρ:Operand→Value}{w:World}(x y:Operand)(z:TypeId)(ho:o.op=.binOp .neq 45 x y z)(v:Nat→Nat)(hx:ρ x=.agg (rg v))(hy:ρ y=.agg (rg v)):(execOp ρ o).run Tryz.prog w=.ok (.value (.bool false)) w:=by
 unfold execOp;simp only[ho,hx,hy];rw[zO,zO,run_eqGuard_agg w .neq 45 x y (rg v) (rg v) zQH,Result.andThen_ok,U5,Result.andThen_ok,Sem.run_pure]
theorem zQY{o:Oper}{ρ:Operand→Value}{w:World}(x y:Operand)(z:TypeId)(ho:o.op=.binOp .neq 59 x y z)(K:Nat→Bool)(hx:ρ x=.agg (kc K))(hy:ρ y=.agg (kc K)):(execOp ρ o).run Tryz.prog w=.ok (.value (.bool false)) w:=by
 unfold execOp;simp only[ho,hx,hy];rw[zO,zO,run_eqGuard_agg w .neq 59 x y (kc K) (kc K) VP,Result.andThen_ok,U6,Result.andThen_ok,Sem.run_pure]
section
variable {ops:Array Oper} {C:World→Prop} {Q:Act→Prop} {o:Oper} {rest:List Oper} {ac:Act}
theorem BX{v:Nat→Nat}(hw:Region.wanted o (yielded ops ac.tmps)=true)(x y:Operand)(z:TypeId)(ho:o.op=.binOp .neq 45 x y z)(hx:ac.eval x=.agg (rg v))(hy:ac.eval y=.agg (rg v))
  (h:wpQuiet Tryz.prog ops C Q rest (ac.put o.dst (.bool false))):wpQuiet Tryz.prog ops C Q (o::rest) ac:=
 uE hw (.bool false) (fun w' _=>zQW x y z ho v hx hy) h
theorem oK{K:Nat→Bool}(hw:Region.wanted o (yielded ops ac.tmps)=true)(x y:Operand)(z:TypeId)(ho:o.op=.binOp .neq 59 x y z)(hx:ac.eval x=.agg (kc K))(hy:ac.eval y=.agg (kc K))
  (h:wpQuiet Tryz.prog ops C Q rest (ac.put o.dst (.bool false))):wpQuiet Tryz.prog ops C Q (o::rest) ac:=
 uE hw (.bool false) (fun w' _=>zQY x y z ho K hx hy) h
end
theorem W8:nB Tryz.prog 59 (kc up):=by unfold nB;kernel_rfl
def dnK(l:List Ev)(k:Nat):Nat→Bool:=fun j=>if j<k then dnA l j else false
theorem zX3{K J:Nat→Bool}(h:∀j,j<16→K j=J j):kc K=kc J:=by
 apply qV
 intro i
 by_cases hi:i<16
 ·rw[wP _ _ hi,wP _ _ hi,h i hi]
 ·rw[zD (by rw[nM];omega),zD (by rw[nM];omega)]
theorem oA(A:Option Addr)(n c:Nat)(l:List Ev)(w:World)(H:Evs w A n l)(hn:n≤1000):
  Calls Tryz.prog 20 #[.slice A n c] w fun e w'=>e=.returned (.agg (kc (dnA l)))∧Below w.heap.size w w':=by
 have HE:=zW H;have HN:=zW hn;clear H hn;go_enter Tryz.func20,Tryz.ntmps20;go_upto_region 0 with fail;refine zB ?_;refine qL rfl fun K hK=>nF W8 rfl (hK _ _ ?_);clear hK K;simp only[Act.put,zQ,zZ,zJ];refine wpList_nil ?_;have R1:=zW (Blk.new w 59 (kc up));have b1:=lM w (.cells (kc up) 59);obtain⟨g1,hg1⟩:∃k,w.heap.size=k:=⟨_,rfl⟩;have G1:=zW (show w.heap.size≤g1 by omega);rw[hg1]at R1⊢;clear hg1;generalize World.alloc _ _=w1 at R1 b1⊢;go_upto_region 1 with fail;refine zB ?_;refine qL rfl fun K hK=>nF W8 rfl (hK _ _ ?_);clear hK K;simp only[Act.put,zQ,zZ,zJ];refine wpList_nil ?_;have RL:=R1.out.lt;have R2:=zW (Blk.new w1 59 (kc up));have b2:=lM w1 (.cells (kc up) 59);have R1:=zW (R1.out.step b2);have BB:=zW (b1.trans (b2.mono b1.size));obtain⟨g2,hg2⟩:∃k,w1.heap.size=k:=⟨_,rfl⟩;have G2:=zW (show w.heap.size≤g2∧g1<g2 from⟨by have:=b1.size;omega,by omega⟩);rw[hg2]at R2⊢;clear hg2 b1 b2 RL;generalize World.alloc _ _=w2 at R1 R2 BB⊢;go_wp2_with fail;go_loopw [4] (fun i wr=>∃k:Nat,k≤16∧i=.int .i64 (k:Int)∧Below w.heap.size w wr∧Blk g1 59 (kc up) wr∧Blk g2 59 (kc (dnK l k)) wr) (fun i _=>16-(intOf i).toNat)
 case atStart=>exact⟨0,qA _,rfl,BB.out,R1.out,R2.out.eq rfl⟩
 case round=>
  clear BB R1 R2
  obtain⟨k,hk,rfl,hB,h1,h2⟩:=hrel
  have BB:=zW hB
  have R1:=zW h1
  have R2:=zW h2
  clear hB h1 h2
  by_cases hlt:k<16
  ·have ki:(k:Int)<16:=zYX
   have JX:=zW hlt
   have f2:=R2.out.frozen k
   have c2:=R2.out.cell k
   rw[wP _ _ hlt]at c2
   go_wp2_with fail
   refine(NH A n c l (k:Int) (dnA l k) rfl wr (HE.out.step BB.out) HN.out).mono ?_
   rintro e _ ⟨rfl,rfl⟩
   go_wp2
   go_roundw
   case rel=>exact⟨k+1,JX.out,by go_num,BB.out.setCell (p:=⟨g2,k,none⟩) G2.out.1 _,R1.out.other (by have:=G2.out.2;omega) _ _,(R2.out.put k _).eq (by rw[OF _ _ JX.out];congr 1;funext j;unfold dnK;by_cases e:j=k;subst e;rw[zN rfl,zN zYX];rw[zL e];by_cases e3:j<k;rw[zN e3,zN zYX];rw[zL e3,zL zYX])⟩
   case measure=>have:=JX.out;simp[intOf];omega
  ·have ki:¬(k:Int)<16:=zYX
   have EK:=zW (show kc (dnK l k)=kc (dnA l)from zX3 fun j hj=>by unfold dnK;rw[zN zYX])
   go_upto_region 6 with fail
   refine zB ?_
   refine lV dA R2.out (nM _) rfl (.tmp 3) rfl rfl ?_
   rw[EK.out]
   simp only[Act.put,zQ,zZ,zJ]
   refine lZ (ds:=kc (dnA l)) dA R1.out (nM _) (nM _) (aB _) rfl (.tmp 2) (.tmp 14) rfl rfl rfl ?_
   simp only[Act.put,zQ,zZ,zJ]
   have R3:=zW (R1.out.store (kc (dnA l)))
   have B3:=zW (lO BB.out G1.out (kc (dnA l)))
   generalize World.setRow _ _ _=w3 at R3 B3⊢
   go_wp2_with fail
   iterate 4 (try go_step)
   exact zS (zE rfl _ _ g1 _ _ _ _ rfl R3.out Tryz.underlying59 rfl (by rw[dA.i];rfl)) rfl ⟨rfl,B3.out⟩
theorem PI(r l:Value)(q:Pr)(hr:∃A n c,r=.slice A n c)(hl:∃A n c,l=.slice A n c):Tryz.prog.built 35 [(0,r),(1,l),(2,.agg (prc q))]=some (cfC r l (.slice none 0 0) q false):=by
 obtain⟨A,n,c,rfl⟩:=hr;obtain⟨B,k,d,rfl⟩:=hl;unfold prc;kernel_rfl
theorem zJ4{K:Nat→Bool}{e:Ev}(h:rel K e=true):0≤e.k∧e.k≤15:=by
 unfold rel at h;rw[zA]at h;exact qE h.1
theorem sE{s:nY}{a:AS}{e:Ev}(h:rlM s a e=true):rU s a e={s with k:=0,c:=0,p:=0,y:=0}∧(yD s a e).v=Cpu.upd a.v s.rg.toNat e.k.toNat:=by
 unfold rU yD;rw[h];exact⟨rfl,rfl⟩
theorem oR{s:nY}{a:AS}{e:Ev}(h:rlM s a e=false):rU s a e=s∧(yD s a e).v=a.v:=by
 unfold rU yD;rw[h];exact⟨rfl,rfl⟩
theorem IA(ks:List Ev)(e:Ev):rel (aft up ks) e=rel (dnA ks) e:=by
 unfold rel;by_cases h:0≤e.k∧e.k≤15
 ·rw[zQF ks e.k.toNat zYX]
 ·rw[zC h,Bool.false_and,Bool.false_and]
theorem keys20(N:Nat)(CS:uD N)(E0:d8 N)(A:Option Addr)(n c:Nat)(R:List Int)(B:Option Addr)(k d:Nat)(L:List Int)(q:Pr)(u:Nat)(EA:Option Addr)(ne ce:Nat)(l:List Ev)(w:World)(HA:JP w A n c R)(HB:JP w B k d L)(hu:u<256)(HE:F6 w EA ne ce l)(hL:xC w):
  Calls Tryz.prog 4 #[.slice A n c,.slice B k d,.agg (prc q),.int .u8 (u:Int),.slice EA ne ce] w fun e w'=>e=.returned (.bool true)∧Below w.heap.size w w':=by
 have CC:=zW CS;have EE:=zW E0;have LL:=zW hL;have GA:=zW HA;have GB:=zW HB;have GE:=zW HE;have HU:=zW hu;have AW:=zW (fun w h=>zV9 N CS E0 w h);obtain⟨r,hr⟩:∃r,zVR n k=r:=⟨_,rfl⟩;obtain⟨z,hz⟩:∃z,decide (1≤q.lv∧q.lv≤3)=z:=⟨_,rfl⟩;have FW:=zW (fun w=>hr▸SQ A B n c k d (zR HA.cap HA.max) (zR HB.cap HB.max) w);have VA:=zW (fun w=>hz▸zJX q w);have HR:=zW hr;have HZ:=zW hz;obtain⟨U,hU⟩:∃U,u%60=U:=⟨_,rfl⟩;have UU:=zW (show U<60 by omega);have wu:IntKind.i64.wrap (U:Int)=(U:Int):=by rw[zU];omega
 have um:Int.tmod (u:Int) 60=(U:Int):=by rw[←hU];rfl
 clear hU;clear CS E0 hL HA HB HE hu hr hz;obtain⟨P,hP⟩:∃P,prc q=P:=⟨_,rfl⟩;have sP:P.size=8:=by rw[←hP];rfl
 rw[hP]at VA;rw[hP];have EP:=zW hP;clear hP;go_enter Tryz.func4,Tryz.ntmps4;go_upto_region 0 with fail;refine zB ?_;refine lI rfl _ (.tmp 2) rfl P rfl ?_;simp only[Act.put,zQ,zZ,zJ];have K1:=zW (Blk.new w 24 P);have BB:=zW (lM w (.cells P 24));obtain⟨g0,hg0⟩:∃g,w.heap.size=g:=⟨_,rfl⟩;rw[hg0]at K1⊢;clear hg0;generalize World.alloc w _=w3 at K1 BB⊢;go_upto_region 1 with fail;have LC:=zW (fun x:lB w3=>LL.out.step (BB.out.trans (x.below.mono BB.out.size)));have CQ:=zW (lN K1.out);cases r<;>cases z<;>rcases(show(50:Int)<(ne:Int)∨¬(50:Int)<(ne:Int) by omega)with hne|hne
 rotate_left 7
 all_goals
  refine V5 ?_
  repeat(first
   |(refine mY iV CQ.out sP ?_ (.tmp 7) ?_ ?_ ?_;(focus rfl);(focus rfl);(focus(simp[Act.eval];done));simp only[Act.put,zQ,zZ,zJ])
   |go_big_quiet_step ((first|(go_at_call 8;exact mG (AW.out _ (LC.out _)))|(go_at_call 9;exact vK (FW.out _))|(go_at_call 10;exact mG (VA.out _)))))
  refine zY ?_
  intro _ hw'
  obtain⟨x,rfl⟩:=hw'
  have b1:=x.below
  generalize x.w=w4 at*
  have K1:=zW (K1.out.step b1)
  have BB:=zW (BB.out.trans (b1.mono BB.out.size))
  clear b1 LC CQ
 rotate_left 1
 all_goals try
  clear HR HZ FW VA
  go_wp2_with fail
  refine(AW.out _ (LL.out.step BB.out)).mono ?_
  rintro e w5 ⟨rfl,b1⟩
  have BB:=zW (BB.out.trans (b1.mono BB.out.size))
  clear b1
  go_wp2
  go_ret
  exact⟨rfl,BB.out⟩
 have HQ:=zW (qE HZ.out);have NK:=zW (show n≤2000∧k≤100 from by have h:=HR.out;unfold zVR at h;rw[zA]at h;exact⟨qE h.1,qE h.2⟩);have NE:=zW hne;clear HR HZ FW VA AW hne;go_upto_region 3 with fail;refine zB ?_;iterate 6 go_step
 refine lV iV K1.out sP rfl (.tmp 7) rfl rfl ?_;simp only[Act.put,zQ,zZ,zJ];rw[←EP.out];refine mK (cs:=cfC (.slice A n c) (.slice B k d) (.slice none 0 0) q false) rfl rfl (by simp[Act.eval];exact PI _ _ q ⟨A,n,c,rfl⟩ ⟨B,k,d,rfl⟩) ?_;simp only[Act.put,zQ,zZ,zJ];rw[EP.out];go_wp2_with fail;refine(newE N CC.out (q:=q) (en:=false) (LL.out.step BB.out) (GA.out.rd.below BB.out) GA.out.len (by have:=NK.out;omega) (GB.out.rd.below BB.out) GB.out.len (by have:=NK.out;omega) (gS.2 GA.out.bd) (gS.2 GB.out.bd) (Fls.nil _ _) rfl HQ.out).mono ?_;rintro e w5 ⟨mb,O,rfl,X,b5⟩;have X:=zW X.mch;have LB:=zW BB.out.size;have BB:=zW (BB.out.trans (b5.mono BB.out.size));clear b5 K1;obtain⟨ba,hba⟩:∃b,w4.heap.size=b:=⟨_,rfl⟩;rw[hba]at X LB;clear hba;have BA:=zW (zF LL.out.lt LB.out);go_wp2_with fail;go_loopw [13] (fun i wr=>∃j:Nat,j≤U∧i=.int .i64 (j:Int)∧Below w.heap.size w wr∧∃O s a,Mch ba O mb j s a wr∧s.ex≤(j:Int)∧a.ks=[]) (fun i _=>U-(intOf i).toNat)
 case atStart=>exact⟨0,qA _,rfl,BB.out,O,_,_,X.out,Int.le_refl _,rfl⟩
 case round=>
  clear X BB
  obtain⟨j,hj,rfl,hB,O,s,a,hX,hex,hks⟩:=hrel
  have BB:=zW hB
  have X:=zW hX
  have FX:=zW (zM hex hks)
  clear hB hX hex hks
  by_cases hlt:j<U
  ·have ji:(j:Int)<(U:Int):=zYX
   have j8:(j:Int)≤255:=by have:=UU.out;omega
   have JX:=zW hlt
   go_wp2_with fail
   refine(DU N EE.out X.out (LL.out.step BB.out) BA.out (by have:=FX.out.1;omega) zYX).mono ?_
   rintro e w7 ⟨rfl,O',X',K7,_⟩
   have BB:=zW (BB.out.trans (X.out.below LB.out K7))
   have X:=zW X'
   clear X' K7
   go_wp2
   go_roundw
   case rel=>exact⟨j+1,JX.out,by go_num,BB.out,O',_,_,X.out,by have:=(zVT s a).2;have:=FX.out.1;omega,(zX2 N s a).trans FX.out.2⟩
   case measure=>have:=JX.out;simp[intOf];omega
  ·have ji:¬(j:Int)<(U:Int):=zYX
   have JU:=zW (show j=U by omega)
   clear hlt hj
   have XU:=JU.out▸X.out
   clear X
   have X:=zW XU
   clear XU
   go_wp2_with fail
   go_loopw [14] (fun i wr=>∃jj:Nat,jj≤ne∧i=.int .i64 (jj:Int)∧Below w.heap.size w wr∧∃O s a,Mch ba O mb U s a wr∧a.ks=l.take jj) (fun i _=>ne-(intOf i).toNat)
   case atStart=>exact⟨0,qA _,rfl,BB.out,O,s,a,X.out,FX.out.2⟩
   case round=>
    clear X BB FX JU
    clear s a O
    obtain⟨jj,hjj,rfl,hB,O,s,a,hX,hks⟩:=hrel
    have BB:=zW hB
    have X:=zW hX
    clear hB hX
    by_cases hll:jj<ne
    ·obtain⟨eb,o,rfl,heb,c1,c2,eok⟩:=(GE.out.ev.step BB.out).at_ jj (by rw[GE.out.ev.len];exact hll)
     obtain⟨e,he⟩:∃e,l[jj]'(by rw[GE.out.ev.len];exact hll)=e:=⟨_,rfl⟩
     rw[he]at c1 c2 eok
     have KS:=zW (show a.ks=l.take jj∧l.take jj++[e]=l.take (jj+1)from⟨hks,by rw[←he];exact(kN _).symm⟩)
     have jI:(jj:Int)<(ne:Int):=zYX
     have j5:(jj:Int)≤50:=by have:=NE.out;omega
     have JX:=zW (zM hll eok)
     have EJ:=zW he
     clear hks he
     go_wp2_with fail
     refine(bC N CC.out X.out (LL.out.step BB.out)).mono ?_
     rintro x wa ⟨bs,ms,gs,vs,rfl,rc,ba1⟩
     have SZ:=zW (show∀i,nO bs ms gs vs i→¬O i from fun i h1 h2=>by have:=(rc.lt i h1).1;have:=(X.out.blt i h2).2;omega)
     obtain⟨sb,rc⟩:∃sb,RC sb ⟨0,a.M⟩ bs ms gs vs a wa:=⟨_,rc⟩
     have S:=zW rc
     have X:=zW (X.out.step ba1)
     have BB:=zW (BB.out.trans (ba1.mono BB.out.size))
     clear rc ba1 c1 c2
     go_wp2_with fail
     refine(xT X.out).mono ?_
     rintro x wb ⟨rfl,b8⟩
     have S:=zW (S.out.step b8)
     have X:=zW (X.out.step b8)
     have BB:=zW (BB.out.trans (b8.mono BB.out.size))
     clear b8
     simp only[]
     go_at_K
     iterate 1 go_step
     refine m3 (ds:=s.st) uN gX rfl rfl (wY _ _ _ _) rfl rfl rfl (.tmp 16) (.tmp 69) rfl zYK zYK ?_
     simp only[Act.put,zQ,zZ,zJ]
     have W16:=zW (show Blk wb.heap.size 39 #[.int .i64 s.k,.int .i64 s.c,.int .i64 s.p,.int .i64 s.y] (wb.alloc (.cells s.st 39))from Blk.new wb 39 s.st)
     have b8:=lM wb (.cells s.st 39)
     have S:=zW (S.out.step b8)
     have X:=zW (X.out.step b8)
     have BB:=zW (BB.out.trans (b8.mono BB.out.size))
     clear b8
     obtain⟨q16,hq⟩:∃q,wb.heap.size=q:=⟨_,rfl⟩
     rw[hq]at W16⊢
     clear hq
     generalize World.alloc _ _=wc at S X BB W16⊢
     obtain⟨eb2,o2,heq,heb2,c1,c2,eok2⟩:=(GE.out.ev.step BB.out).at_ jj zLQ
     injection heq with heq
     injection heq with h1 h2
     subst h1 h2
     rw[EJ.out]at c1 c2
     clear eok2
     go_wp2_with fail
     refine(U7 X.out e (by rw[KS.out.1,qB];have:=NE.out;have:=JX.out.1;omega)).mono ?_
     rintro x wd ⟨rfl,X',Kd⟩
     have S:=zW (S.out.keep Kd SZ.out X.out.u8)
     have W16:=zW (show Blk q16 39 #[.int .i64 s.k,.int .i64 s.c,.int .i64 s.p,.int .i64 s.y] wd from(Kd.block q16 W16.out.lt (X.out.off W16.out ⟨by decide,by decide,by decide,by decide,by decide,by decide,by decide⟩)).trans W16.out)
     have BB:=zW (BB.out.trans (X.out.below LB.out Kd))
     have OKs:=zW X.out.ok
     have X:=zW X'
     clear X' Kd c1 c2
     go_wp2_with fail
     refine(bC N CC.out X.out (LL.out.step BB.out)).mono ?_
     rintro x we ⟨bt,mt,gt,vt,rfl,rc,bb⟩
     have T:=zW rc
     have S:=zW (S.out.step bb)
     have W16:=zW (W16.out.step bb)
     have X:=zW (X.out.step bb)
     have BB:=zW (BB.out.trans (bb.mono BB.out.size))
     clear rc bb
     obtain⟨rB,hrB⟩:∃b,rel (dnA a.ks) e=b:=⟨_,rfl⟩
     have RB2:=zW hrB
     clear hrB
     obtain⟨eb3,o3,heq,heb3,c1,c2,eok3⟩:=(GE.out.ev.step BB.out).at_ jj zLQ
     injection heq with heq
     injection heq with h1 h2
     subst h1 h2
     rw[EJ.out]at c1 c2
     clear eok3
     have k1:=lB.cell c1 heb3
     have k2:=lB.cell c2 heb3
     have jc:(jj:Int)≤(ce:Int):=by have:=JX.out.1;have:=GE.out.cap;omega
     have RE:=zW (fun x:lB we=>KO (some ⟨eb,o,none⟩) jj ce (l.take jj) e.k e.d rB (by rw[IA,←KS.out.1];exact RB2.out.symm) x.w ((GE.out.ev.step (BB.out.trans (x.below.mono BB.out.size))).take jj (jF JX.out.1)) zY8)
     go_upto_region 19 with fail
     refine mW zYV zYV ?_
     repeat(go_big_quiet_step ((go_at_call 19;exact mG (RE.out _))))
     refine zY ?_
     intro _ hw'
     obtain⟨x',rfl⟩:=hw'
     have T:=zW (T.out.step x'.below)
     have S:=zW (S.out.step x'.below)
     have W16:=zW (W16.out.step x'.below)
     have X:=zW (X.out.step x'.below)
     have BB:=zW (BB.out.trans (x'.below.mono BB.out.size))
     generalize x'.w=wf at*
     clear k1 k2 jc RE c1 c2
     have d0:wf.cell? ⟨q16,0,none⟩=some (.int .i64 s.k):=(W16.out.cell 0).trans rfl
     by_cases hr:s.k=1∧rB=true
     ·obtain⟨h1,rfl⟩:=hr
      have HR1:=zW (show rlM s a e=true from by unfold rlM;rw[RB2.out,qZ h1];rfl)
      rw[(sE HR1.out).1]at X
      have hk1:(s.k==1)=true:=by rw[h1];rfl
      have EK:=zW (zJ4 RB2.out)
      obtain⟨RG,hRG⟩:∃g,s.rg.toNat=g:=⟨_,rfl⟩
      have RGB:=zW (show RG≤15 from by have:=OKs.out.rg;omega)
      have EV2:=zW (show(yD s a e).v=Cpu.upd a.v RG e.k.toNat from hRG▸(sE HR1.out).2)
      have VO:=zW OKs.out.ok.o.v
      have VT:=zW X.out.ok.ok.o.v
      clear hRG
      clear h1
      go_wp2_with fail
      clear d0 hk1
      have W2:=zW W16.out
      go_loopw [19,20,21] (fun ch fo kk wr=>∃m:Nat,m≤16∧kk=.int .i64 (m:Int)∧Below wf.heap.size wf wr∧∃cn:Nat,∃f:Bool,ch=.int .i64 (cn:Int)∧fo=.bool f∧cn≤1∧(m≤RG→cn=0)∧(RG<m→f=true)) (fun _ _ kk _=>16-(intOf kk).toNat)
      case atStart=>exact⟨0,qA _,rfl,zG _ _,0,false,rfl,rfl,qA _,fun _=>rfl,fun h=>absurd h (Nat.not_lt_zero _)⟩
      case round=>
       obtain⟨m,hm,rfl,hB3,cn,f,rfl,rfl,hcn,hc0,hf1⟩:=hrel
       have B3:=zW hB3
       have FC:=zW (zM hcn (zM hc0 hf1))
       have T3:=zW (T.out.step B3.out)
       have S3:=zW (S.out.step B3.out)
       clear hB3 hcn hc0 hf1
       by_cases hlm:m<16
       ·have HM:=zW hlm
        have mi:(m:Int)<16:=zYX
        obtain⟨x,hx⟩:∃x,(yD s a e).v m=x:=⟨_,rfl⟩
        obtain⟨y,hy⟩:∃y,a.v m=y:=⟨_,rfl⟩
        have XY:=zW (show(m≠RG→x=y)∧(m=RG→(x:Int)=e.k)from by
         rw[EV2.out]at hx;unfold Cpu.upd at hx;refine⟨fun h=>?_,fun h=>?_⟩
         ·rw[zL h]at hx;rw[←hx,hy]
         ·rw[zN h]at hx;have:=EK.out;omega)
        have t_m:wr.cell? ⟨bt,m,none⟩=some (.int .u8 (x:Int)):=(T3.out.st.cell m).trans ((mX _ mt gt (j:=m) zYX).trans (by rw[uT _ mt gt hlm,hx]))
        have s_m:wr.cell? ⟨bs,m,none⟩=some (.int .u8 (y:Int)):=(S3.out.st.cell m).trans ((mX _ ms gs (j:=m) zYX).trans (by rw[uT _ ms gs hlm,hy]))
        obtain⟨eb4,o4,heq,heb4,c1,c2,eok4⟩:=(GE.out.ev.step (BB.out.trans (B3.out.mono BB.out.size))).at_ jj zLQ
        injection heq with heq
        injection heq with h1 h2
        subst h1 h2
        rw[EJ.out]at c1
        have kt:=lB.cell t_m T3.out.st.lt
        have ks:=lB.cell s_m S3.out.st.lt
        have kc1:=lB.cell c1 heb4
        have x255:x<256:=by rw[←hx];exact VT.out m hlm
        have y255:y<256:=by rw[←hy];exact VO.out m hlm
        have wx:IntKind.i64.wrap (x:Int)=(x:Int):=by rw[zU];omega
        obtain⟨b1,hb1⟩:∃b,((x:Int)==e.k)=b:=⟨_,rfl⟩
        obtain⟨b2,hb2⟩:∃b,((x:Int) !=(y:Int))=b:=⟨_,rfl⟩
        have HB:=zW (zM hb1 hb2)
        clear hx hy eok4 heb4
        go_upto_region 26 with fail
        cases f
        all_goals
         refine mW zYV zYV ?_
         repeat(go_big_quiet_step (fail))
         refine zY ?_
         intro _ hw'
         obtain⟨x6,rfl⟩:=hw'
         have B3:=zW (B3.out.trans (x6.below.mono B3.out.size))
         have t_m:=(x6.below.cell (p:=⟨bt,m,none⟩) T3.out.st.lt).trans t_m
         have s_m:=(x6.below.cell (p:=⟨bs,m,none⟩) S3.out.st.lt).trans s_m
         have T3:=zW (T3.out.step x6.below)
         have S3:=zW (S3.out.step x6.below)
         generalize x6.w=wr2 at*
         clear kt ks kc1 c1 c2
         have kt:=lB.cell t_m T3.out.st.lt
         have ks:=lB.cell s_m S3.out.st.lt
         go_upto_region 27 with fail
         refine mW zYV zYV ?_
         repeat(go_big_quiet_step (fail))
         refine zY ?_
         intro _ hw'
         obtain⟨x7,rfl⟩:=hw'
         have B3:=zW (B3.out.trans (x7.below.mono B3.out.size))
         generalize x7.w=wr3 at*
         clear kt ks t_m s_m
         have cni:(cn:Int)≤1:=by have:=FC.out.1;omega
         have wc1:IntKind.i64.wrap ((cn:Int)+1)=((cn+1:Nat):Int):=by rw[zU];omega
         have DF:=zW (show b2=true→m=RG∧cn=0 from fun h=>by
          have h1:m=RG:=by
           by_cases hm:m=RG
           ·exact hm
           ·have h2:=HB.out.2;rw[XY.out.1 hm,h]at h2;simp at h2
          exact⟨h1,FC.out.2.1 zYX⟩)
         have FD:=zW (show RG<m+1→(RG<m→False)→b1=true from fun h hn=>by
          have h2:RG=m:=by
           rcases jM RG m with h3|h3
           ·exact(hn h3).elim
           ·omega
          rw[←HB.out.1,XY.out.2 h2.symm];simp)
         cases b2
         all_goals
          go_wp2
          go_roundw
          case rel=>
           refine⟨m+1,HM.out,by go_num,B3.out,?_⟩
           first
            |exact⟨cn,_,rfl,rfl,FC.out.1,fun h=>FC.out.2.1 zYX,fun h=>by first|rfl|exact FD.out h fun h3=>absurd (FC.out.2.2 h3) zYY⟩
            |exact⟨cn+1,_,by first|rfl|go_num,rfl,by have:=(DF.out rfl).2;omega,fun h=>by have:=(DF.out rfl).1;omega,fun h=>by first|rfl|exact FD.out h fun h3=>absurd (FC.out.2.2 h3) zYY⟩
          case measure=>have:=HM.out;simp[intOf];omega
       ·have mi:¬(m:Int)<16:=zYX
        obtain rfl:=FC.out.2.2 (by have:=RGB.out;omega)
        have cni:¬(1:Int)<(cn:Int):=by have:=FC.out.1;omega
        have T:=zW T3.out
        have S:=zW S3.out
        have X:=zW (X.out.step B3.out)
        have BB:=zW (BB.out.trans (B3.out.mono BB.out.size))
        clear B3 T3 S3 W16 W2
        go_wp2_with fail
        refine(xT X.out).mono ?_
        rintro x wg ⟨rfl,b8⟩
        have T:=zW (T.out.step b8)
        have S:=zW (S.out.step b8)
        have X:=zW (X.out.step b8)
        have BB:=zW (BB.out.trans (b8.mono BB.out.size))
        clear b8
        rw[show(nY.st {s with k:=0,c:=0,p:=0,y:=0})=#[.int .i64 0,.int .i64 0,.int .i64 0,.int .i64 0]from rfl]
        have OKk:=zW (show(yD s a e).ks=l.take (jj+1)∧(yD s a e).pc=a.pc from⟨by show a.ks++[e]=_;rw[KS.out.1];exact KS.out.2,rfl⟩)
        have t17:=lB.cell (show wg.cell? ⟨bt,17,none⟩=some (.int .i64 a.pc)from(T.out.st.cell 17).trans ((mX _ mt gt (j:=17) zYX).trans rfl)) T.out.st.lt
        have s17:=lB.cell (show wg.cell? ⟨bs,17,none⟩=some (.int .i64 a.pc)from(S.out.st.cell 17).trans ((mX _ ms gs (j:=17) zYX).trans rfl)) S.out.st.lt
        have CT:=zW (lN T.out.st)
        have DW:=zW (fun x:lB wg=>oA (some ⟨eb,o,none⟩) (jj+1) ce (l.take (jj+1)) x.w ((GE.out.ev.step (BB.out.trans (x.below.mono BB.out.size))).take (jj+1) JX.out.1) zY8)
        have wj:=show IntKind.i64.wrap ((jj:Int)+1)=((jj+1:Nat):Int)from by rw[zU];omega
        have jc1:((jj+1:Nat):Int)≤(ce:Int):=by have:=JX.out.1;have:=GE.out.cap;omega
        go_upto_region 33 with fail
        refine mW zYV zYV ?_
        iterate 4 (go_big_quiet_step ((go_at_call 20;exact mG (DW.out _))))
        refine lL (o:=550) dA CT.out zYB rfl (.tmp 163) rfl zYN ?_
        rw[pC,OKk.out.1]
        simp only[Act.put,zQ,zZ,zJ]
        iterate 5 (go_big_quiet_step ((go_at_call 20;exact mG (DW.out _))))
        refine oK (K:=dnA (l.take (jj+1))) rfl (.tmp 164) (.tmp 169) _ rfl zYN zYN ?_
        simp only[Act.put,zQ,zZ,zJ]
        iterate 11 (go_big_quiet_step ((go_at_call 20;exact mG (DW.out _))))
        refine zY ?_
        intro _ hw'
        obtain⟨x9,rfl⟩:=hw'
        have X:=zW (X.out.step x9.below)
        have BB:=zW (BB.out.trans (x9.below.mono BB.out.size))
        generalize x9.w=w99 at X BB⊢
        clear t17 s17 CT DW wj jc1
        go_wp2
        go_roundw
        case rel=>exact⟨jj+1,JX.out.1,by go_num,BB.out,O,_,_,X.out,OKk.out.1⟩
        case measure=>have:=JX.out.1;simp[intOf];omega
     ·have HR2:=zW (show rlM s a e=false from by
       unfold rlM;rw[RB2.out];by_cases h1:s.k=1
       ·rw[show rB=false from by cases rB;rfl;exact absurd ⟨h1,rfl⟩ hr];rfl
       ·rw[zC h1,Bool.and_false])
      rw[(oR HR2.out).1]at X
      have hcase:(s.k==1)=false∨((s.k==1)=true∧rB=false):=by
       by_cases h1:s.k=1
       ·exact .inr ⟨by rw[h1];rfl,by cases rB;rfl;exact absurd ⟨h1,rfl⟩ hr⟩
       ·exact .inl (by simpa using h1)
      clear hr
      rcases hcase with h1|⟨h1,h2⟩
      rotate_left 1
      subst h2
      rotate_left 1
      all_goals (focus go_upto_region 31 with fail)
      all_goals
       have MS:=zW (fun x:lB wf=>show Calls Tryz.prog 14 #[.pointer (some ⟨mb,0,none⟩)] x.w fun e w'=>e=.returned (.agg #[.int .i64 s.k,.int .i64 s.c,.int .i64 s.p,.int .i64 s.y])∧Below x.w.heap.size x.w w' from xT (X.out.step x.below))
       have CW:=zW (lN W16.out)
       have CT:=zW (lN T.out.st)
       have CV:=zW (lN S.out.st)
       refine mW zYV zYV ?_
       iterate 2 (go_big_quiet_step ((go_at_call 14;exact mG (MS.out _))))
       refine mY uN CW.out rfl rfl (.tmp 16) rfl zYN ?_
       simp only[Act.put,zQ,zZ,zJ]
       iterate 5 (go_big_quiet_step ((go_at_call 14;exact mG (MS.out _))))
       refine lL (o:=0) cR CT.out zYB rfl (.tmp 152) rfl zYN ?_
       rw[RM,(oR HR2.out).2]
       simp only[Act.put,zQ,zZ,zJ]
       iterate 3 (go_big_quiet_step ((go_at_call 14;exact mG (MS.out _))))
       refine lL (o:=0) cR CV.out zYB rfl (.tmp 156) rfl zYN ?_
       rw[RM]
       simp only[Act.put,zQ,zZ,zJ]
       refine BX (v:=a.v) rfl (.tmp 153) (.tmp 157) _ rfl zYN zYN ?_
       simp only[Act.put,zQ,zZ,zJ]
       iterate 1 (go_big_quiet_step ((go_at_call 14;exact mG (MS.out _))))
       refine zY ?_
       intro _ hw'
       obtain⟨x5,rfl⟩:=hw'
       have T:=zW (T.out.step x5.below)
       have S:=zW (S.out.step x5.below)
       have X:=zW (X.out.step x5.below)
       have BB:=zW (BB.out.trans (x5.below.mono BB.out.size))
       generalize x5.w=wg at T S X BB⊢
       clear MS CW CT CV d0
       have OKk:=zW (show(yD s a e).ks=l.take (jj+1)∧(yD s a e).pc=a.pc from⟨by show a.ks++[e]=_;rw[KS.out.1];exact KS.out.2,rfl⟩)
       have t17:=lB.cell (show wg.cell? ⟨bt,17,none⟩=some (.int .i64 a.pc)from(T.out.st.cell 17).trans ((mX _ mt gt (j:=17) zYX).trans rfl)) T.out.st.lt
       have s17:=lB.cell (show wg.cell? ⟨bs,17,none⟩=some (.int .i64 a.pc)from(S.out.st.cell 17).trans ((mX _ ms gs (j:=17) zYX).trans rfl)) S.out.st.lt
       have CT:=zW (lN T.out.st)
       have DW:=zW (fun x:lB wg=>oA (some ⟨eb,o,none⟩) (jj+1) ce (l.take (jj+1)) x.w ((GE.out.ev.step (BB.out.trans (x.below.mono BB.out.size))).take (jj+1) JX.out.1) zY8)
       have wj:=show IntKind.i64.wrap ((jj:Int)+1)=((jj+1:Nat):Int)from by rw[zU];omega
       have jc1:((jj+1:Nat):Int)≤(ce:Int):=by have:=JX.out.1;have:=GE.out.cap;omega
       go_upto_region 33 with fail
       refine mW zYV zYV ?_
       iterate 4 (go_big_quiet_step ((go_at_call 20;exact mG (DW.out _))))
       refine lL (o:=550) dA CT.out zYB rfl (.tmp 163) rfl zYN ?_
       rw[pC,OKk.out.1]
       simp only[Act.put,zQ,zZ,zJ]
       iterate 5 (go_big_quiet_step ((go_at_call 20;exact mG (DW.out _))))
       refine oK (K:=dnA (l.take (jj+1))) rfl (.tmp 164) (.tmp 169) _ rfl zYN zYN ?_
       simp only[Act.put,zQ,zZ,zJ]
       iterate 11 (go_big_quiet_step ((go_at_call 20;exact mG (DW.out _))))
       refine zY ?_
       intro _ hw'
       obtain⟨x9,rfl⟩:=hw'
       have X:=zW (X.out.step x9.below)
       have BB:=zW (BB.out.trans (x9.below.mono BB.out.size))
       generalize x9.w=w99 at X BB⊢
       clear t17 s17 CT DW wj jc1
       go_wp2
       go_roundw
       case rel=>exact⟨jj+1,JX.out.1,by go_num,BB.out,O,_,_,X.out,OKk.out.1⟩
       case measure=>have:=JX.out.1;simp[intOf];omega
    ·have jI:¬(jj:Int)<(ne:Int):=zYX
     go_wp2
     go_returns
     exact⟨rfl,BB.out⟩
end
end Go.Proofs.YthknmadinmigfaaGreatDoor
